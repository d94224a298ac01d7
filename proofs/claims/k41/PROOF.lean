import PyProof.Rows.All
import Wide.All
import OpenK.AllK
import Wide.FinOn
import Lean
import PyProof.EqAt
import PyProof.EqKinds
import PyProof.TupleCall
import PyProof.EnumMake
import PyProof.ZipIter
import PyProof.NeKinds
import PyProof.Rows.SortWalk
import PyProof.AttrMiss
import PyProof.IsiH_list
import KE.KDictOf
import PyProof.Draws
import PyProof.StrCalls
import PyProof.StrCalls2
import PyProof.FString5
import PyProof.DictWalks
import PyProof.MeetsDict
import PyProof.EqAt
import PyProof.Rows.RuleM_int
import KE.KEqDict
import KE.KDictSum
import PyProof.WalkInts
import PyProof.FactsAll.dict_4
import PyProof.StrBlockI
import PyProof.StrBlock2
import PyProof.StrCalls3
import KE.KIntText
import PyProof.ListStr
import PyProof.Rows.StrNews2
import PyProof.SliceStr2
import PyProof.StrLawsFrom
import PyProof.StrLawsIn
import KE.KSortTup
import PyProof.P3Eq
import PyProof.Rows.TupDisplay
import KE.KLam
import KE.KRevIter
import PyProof.NsDelKeeps
import KE.KIsAll
import OpenK.KDescr
import PySem.Challenge.RW_bitdraws_k41_whole_shares_agree
set_option Elab.async false
set_option linter.all false
set_option maxRecDepth 100000
set_option maxHeartbeats 4000000
namespace Lw
noncomputable def dg (B v k:Nat):Nat:=v / 2 ^ (B*k)%2 ^ B
theorem dv_succ (B v k:Nat):v / 2 ^ (B*(k+1))=v / 2 ^ (B*k) / 2 ^ B:=by rw[Nat.mul_succ,Nat.pow_add,Nat.div_div_eq_div_mul]
theorem addDiv {a b P:Nat}(hP:0<P)(h:a%P+b%P<P):(a+b) / P=a / P+b / P:=by
 have e:a+b=a%P+b%P+P*(a / P+b / P):=by
  have h1:=Nat.div_add_mod a P
  have h2:=Nat.div_add_mod b P
  rw[Nat.mul_add];omega
 rw[e,Nat.add_mul_div_left _ _ hP,Nat.div_eq_of_lt h,Nat.zero_add]
theorem mulDiv {a q P:Nat}(hP:0<P)(h:a*(q%P)<P):a*q / P=a*(q / P):=by
 have e:a*q=a*(q%P)+P*(a*(q / P)):=by
  have h1:=Nat.div_add_mod q P
  conv=>lhs;rw[←h1]
  rw[Nat.mul_add,Nat.mul_left_comm];omega
 rw[e,Nat.add_mul_div_left _ _ hP,Nat.div_eq_of_lt h,Nat.zero_add]
section
variable {B v w:Nat}
theorem dv_add (h:∀k,dg B v k+dg B w k<2 ^ B):∀k,(v+w) / 2 ^ (B*k)=v / 2 ^ (B*k)+w / 2 ^ (B*k)
 | 0=>by simp
 | k+1=>by rw[dv_succ,dv_succ,dv_succ,dv_add h k];exact addDiv (Nat.two_pow_pos _) (h k)
theorem dg_add (h:∀k,dg B v k+dg B w k<2 ^ B)(k:Nat):dg B (v+w) k=dg B v k+dg B w k:=by
 have:=h k
 unfold dg at this ⊢
 rw[dv_add h k,Nat.add_mod,Nat.mod_eq_of_lt this]
theorem dv_mul {a:Nat}(h:∀k,a*dg B v k<2 ^ B):∀k,a*v / 2 ^ (B*k)=a*(v / 2 ^ (B*k))
 | 0=>by simp
 | k+1=>by rw[dv_succ,dv_succ,dv_mul h k];exact mulDiv (Nat.two_pow_pos _) (h k)
theorem dg_mul {a:Nat}(h:∀k,a*dg B v k<2 ^ B)(k:Nat):dg B (a*v) k=a*dg B v k:=by
 have:=h k
 unfold dg at this ⊢
 rw[dv_mul h k,Nat.mul_mod,Nat.mod_mul_mod,Nat.mul_mod,Nat.mod_mod,←Nat.mul_mod,Nat.mul_mod,Nat.mod_mul_mod,Nat.mod_eq_of_lt this]
theorem dg_shr (m k:Nat):dg B (v >>> (B*m)) k=dg B v (m+k):=by
 unfold dg
 rw[Nat.shiftRight_eq_div_pow,Nat.div_div_eq_div_mul,←Nat.pow_add,Nat.mul_add]
theorem dg_shl (m k:Nat):dg B (v <<< (B*m)) k=if k<m then 0 else dg B v (k-m):=by
 unfold dg
 rw[Nat.shiftLeft_eq]
 by_cases c:k<m
 ·rw[if_pos c]
  obtain⟨d,rfl⟩:∃d,m=k+1+d:=⟨m-(k+1),by omega⟩
  rw[show B*(k+1+d)=B*k+(B+B*d)by rw[Nat.mul_add,Nat.mul_add];omega,Nat.pow_add,Nat.pow_add,←Nat.mul_assoc,Nat.mul_right_comm,Nat.mul_div_cancel _ (Nat.two_pow_pos _),←Nat.mul_assoc,Nat.mul_right_comm,Nat.mul_mod_left]
 ·rw[if_neg c]
  obtain⟨d,rfl⟩:∃d,k=d+m:=⟨k-m,by omega⟩
  rw[Nat.mul_add,Nat.pow_add,Nat.mul_div_mul_right _ _ (Nat.two_pow_pos _),Nat.add_sub_cancel]
theorem dg_and (k:Nat):dg B (v &&& w) k=dg B v k &&& dg B w k:=by
 unfold dg
 rw[Nat.and_div_two_pow,Nat.and_mod_two_pow]
theorem dg_xor (k:Nat):dg B (v ^^^ w) k=dg B v k ^^^ dg B w k:=by
 unfold dg
 rw[Nat.xor_div_two_pow,Nat.xor_mod_two_pow]
theorem dg_bit (k i:Nat):(dg B v k).testBit i=(decide (i<B)&&v.testBit (B*k+i)):=by
 unfold dg
 rw[Nat.testBit_mod_two_pow,Nat.testBit_div_two_pow,Nat.add_comm i]
theorem dg_small {k:Nat}(hk:0<k)(h:v<2 ^ B):dg B v k=0:=by
 unfold dg
 rw[Nat.div_eq_of_lt (Nat.lt_of_lt_of_le h (Nat.pow_le_pow_right (by decide) (by have:=Nat.le_mul_of_pos_right B hk;omega))),Nat.zero_mod]
theorem dg_0:dg B v 0=v%2 ^ B:=by unfold dg;rw[Nat.mul_zero,Nat.pow_zero,Nat.div_one]
theorem dg_zero (k:Nat):dg B 0 k=0:=by unfold dg;rw[Nat.zero_div,Nat.zero_mod]
noncomputable def geo (B F:Nat):Nat:=(2 ^ (B*F)-1) / (2 ^ B-1)
theorem geo_succ (hB:0<B)(F:Nat):geo B (F+1)=geo B F+2 ^ (B*F):=by
 unfold geo
 have h1:2≤2 ^ B:=Nat.le_trans (by decide:2≤2 ^ 1) (Nat.pow_le_pow_right (by decide) hB)
 have h2:=Nat.two_pow_pos (B*F)
 rw[Nat.mul_succ,Nat.pow_add]
 generalize 2 ^ (B*F)=x at *
 generalize 2 ^ B=p at *
 have e:x*p-1=x-1+(p-1)*x:=by
  obtain⟨q,rfl⟩:∃q,p=q+1:=⟨p-1,by omega⟩
  rw[Nat.add_sub_cancel,Nat.mul_succ,Nat.mul_comm q];omega
 rw[e,Nat.add_mul_div_left _ _ (by omega)]
theorem dg_geo (hB:0<B){a:Nat}(ha:a<2 ^ B):∀(F k:Nat),dg B (a*geo B F) k=if k<F then a else 0
 | 0,k=>by
  rw[if_neg (by omega),show geo B 0=0 by unfold geo;rw[Nat.mul_zero,Nat.pow_zero,Nat.sub_self,Nat.zero_div],Nat.mul_zero,dg_zero]
 | F+1,k=>by
  have ih:=dg_geo hB ha F
  have hs:∀k,dg B (a <<< (B*F)) k=if k=F then a else 0:=fun k=>by
   rw[dg_shl]
   by_cases c:k<F
   ·rw[if_pos c,if_neg (by omega)]
   ·rw[if_neg c]
    by_cases d:k=F
    ·subst d;rw[if_pos rfl,Nat.sub_self,dg_0,Nat.mod_eq_of_lt ha]
    ·rw[if_neg d,dg_small (by omega) ha]
  rw[geo_succ hB,Nat.mul_add,←Nat.shiftLeft_eq,dg_add (fun k=>by rw[ih,hs];split<;>split<;>omega),ih,hs]
  by_cases c:k<F
  ·rw[if_pos c,if_neg (by omega),if_pos (by omega)];rfl
  ·rw[if_neg c]
   by_cases d:k=F
   ·rw[if_pos d,if_pos (by omega),Nat.zero_add]
   ·rw[if_neg d,if_neg (by omega)]
theorem dg_part {s:Nat}{h:Nat→Nat}(hs:s≤B)(e:∀k,dg B v k=2 ^ s*h k)(k:Nat):dg B (v >>> s) k=h k:=by
 have hp:=Nat.two_pow_pos s
 have h1:=e k
 have h2:=e (k+1)
 unfold dg at h1 h2 ⊢
 rw[Nat.shiftRight_eq_div_pow,Nat.div_div_eq_div_mul,Nat.mul_comm (2 ^ s),←Nat.div_div_eq_div_mul]
 rw[dv_succ]at h2
 generalize v / 2 ^ (B*k)=q at *
 obtain⟨t,rfl⟩:∃t,B=s+t:=⟨B-s,by omega⟩
 have ht:=Nat.two_pow_pos t
 rw[Nat.pow_add]at *
 have hlt:=Nat.mod_lt q (Nat.mul_pos hp ht)
 have hd:=Nat.div_add_mod q (2 ^ s*2 ^ t)
 rw[h1]at hd hlt
 have hh:h k<2 ^ t:=Nat.lt_of_mul_lt_mul_left hlt
 generalize q / (2 ^ s*2 ^ t)=q' at *
 have hq:q / 2 ^ s=h k+2 ^ t*q':=by
  rw[←hd,Nat.mul_assoc,←Nat.mul_add,Nat.mul_div_cancel_left _ hp,Nat.add_comm]
 have hm:q'%2 ^ s=0:=by
  have hd2:=Nat.div_add_mod q' (2 ^ s*2 ^ t)
  rw[h2]at hd2
  rw[←hd2,Nat.mul_assoc,←Nat.mul_add,Nat.mul_mod_right]
 rw[hq,Nat.mul_comm (2 ^ s)]
 have hx:q'=2 ^ s*(q' / 2 ^ s):=by have:=Nat.div_add_mod q' (2 ^ s);omega
 rw[hx,←Nat.mul_assoc,Nat.add_mul_mod_self_left,Nat.mod_eq_of_lt (Nat.lt_of_lt_of_le hh (Nat.le_mul_of_pos_right _ hp))]
end
noncomputable def nxN (s:Nat):Nat:=(1664525*s+1013904223)%4294967296
noncomputable def stM:Nat→Nat→Nat
 | 0,s=>s
 | n+1,s=>nxN (stM n s)
theorem stM_lt {s:Nat}(h:s<4294967296):∀n,stM n s<4294967296
 | 0=>h
 | n+1=>Nat.mod_lt _ (by decide)
theorem stM_add (n s:Nat):∀k,stM (n+k) s=stM k (stM n s)
 | 0=>rfl
 | k+1=>by show nxN (stM (n+k) s)=_;rw[stM_add n s k];rfl
def JP (A C n:Nat):Prop:=∀s,s<4294967296→stM n s=(A*s+C)%4294967296
theorem mod_in (a x c m:Nat):(a*(x%m)+c)%m=(a*x+c)%m:=by
 rw[Nat.add_mod,Nat.mul_mod,Nat.mod_mod,←Nat.mul_mod,←Nat.add_mod]
theorem mod_in2 (A s C m:Nat):(A%m*s+C%m)%m=(A*s+C)%m:=by
 rw[Nat.add_mod,Nat.mul_mod,Nat.mod_mod,Nat.mod_mod,←Nat.mul_mod,←Nat.add_mod]
theorem JP.comp {A C n A' C' k:Nat}(h:JP A C n)(h':JP A' C' k):JP (A*A'%4294967296) ((A'*C+C')%4294967296) (n+k):=fun s hs=>by
 rw[stM_add,h s hs,h' _ (Nat.mod_lt _ (by decide)),mod_in,mod_in2,Nat.mul_add,Nat.mul_comm A A',Nat.mul_assoc,Nat.add_assoc]
theorem JP.zero:JP 1 0 0:=fun s hs=>by rw[Nat.one_mul,Nat.add_zero,Nat.mod_eq_of_lt hs];rfl
theorem JP.one:JP 1664525 1013904223 1:=fun s hs=>rfl
theorem JP.step {A C g:Nat}(h:JP A C g):JP (1664525*A%4294967296) ((1664525*C+1013904223)%4294967296) (g+1):=by
 have:=h.comp JP.one
 rw[Nat.mul_comm A]at this
 exact this
noncomputable def jd:Nat→Nat×Nat
 | 0=>(1664525,1013904223)
 | n+1=>((jd n).1*(jd n).1%4294967296,((jd n).1*(jd n).2+(jd n).2)%4294967296)
theorem jd_ok:∀n,JP (jd n).1 (jd n).2 (2 ^ n)
 | 0=>JP.one
 | n+1=>by
  have:=(jd_ok n).comp (jd_ok n)
  rw[Nat.pow_succ,Nat.mul_two]
  exact this
noncomputable def vOne (w:Nat):Nat:=Nat.div (Nat.sub (Nat.pow 2 w) 1) 18446744073709551615
theorem vOne_geo (F:Nat):vOne (64*F)=geo 64 F:=by
 unfold geo
 rw[show 2 ^ 64-1=18446744073709551615 from by decide]
 rfl
noncomputable def vF (n:Nat):Nat→Nat→Nat→Nat→Nat:=Nat.rec (fun _ _ _ F=>F)
 (fun _ ih w A C F=>ih (Nat.mul 2 w) (Nat.mod (Nat.mul A A) 4294967296) (Nat.mod (Nat.add (Nat.mul A C) C) 4294967296) (Nat.add F (Nat.shiftLeft (Nat.land (Nat.add (Nat.mul A F) (Nat.mul C (vOne w))) (Nat.mul 4294967295 (vOne w))) w))) n
noncomputable def vG (F ONE TOP n:Nat):Nat→Nat→Nat→Nat→Nat:=Nat.rec (fun _ _ _ acc=>acc)
 (fun _ ih g A C acc=>ih (Nat.succ g) (Nat.mod (Nat.mul 1664525 A) 4294967296) (Nat.mod (Nat.add (Nat.mul 1664525 C) 1013904223) 4294967296) (Nat.lor acc (Nat.shiftLeft (Nat.land (Nat.add (Nat.mul A F) (Nat.mul C ONE)) TOP) g))) n
noncomputable def vE (A C F:Nat):Nat:=Nat.add F (Nat.shiftLeft (Nat.land (Nat.add (Nat.mul A (Nat.mod F (Nat.pow 2 4096))) (Nat.mul C (vOne 4096))) (Nat.mul 4294967295 (vOne 4096))) 1048576)
noncomputable def vB (y:Nat):Nat:=Nat.shiftRight (vG (vE 4232052737 2320498688 (vF 14 64 667185409 1956956480 y)) (vOne 1052672) (2147483648*vOne 1052672) 64 0 1 0 0) 31
def Flds (y Q F:Nat):Prop:=∀k,dg 64 F k=if k<Q then stM (64*k) y else 0
section
variable {y Q F A C:Nat}(hy:y<4294967296)
include hy
theorem fld_lt {A C x:Nat}(hA:A<4294967296)(hC:C<4294967296)(hx:x<4294967296):A*x+C<2 ^ 64:=by
 have:=Nat.mul_le_mul (Nat.le_sub_one_of_lt hA) (Nat.le_sub_one_of_lt hx)
 omega
theorem fld_lin (hF:Flds y Q F)(hA:A<4294967296)(hC:C<4294967296)(k:Nat):dg 64 (A*F+C*geo 64 Q) k=if k<Q then A*stM (64*k) y+C else 0:=by
 have h1:∀k,dg 64 (A*F) k=if k<Q then A*stM (64*k) y else 0:=fun k=>by
  rw[dg_mul (fun k=>?_),hF]
  ·split<;>rfl
  ·rw[hF]
   split
   ·have:=fld_lt hy hA hC (stM_lt hy (64*k));omega
   ·rw[Nat.mul_zero];decide
 have h2:=dg_geo (B:=64) (by decide) (show C<2 ^ 64 by omega) Q
 rw[dg_add (fun k=>?_),h1,h2]
 ·split<;>rfl
 ·rw[h1,h2]
  split
  ·exact fld_lt hy hA hC (stM_lt hy (64*k))
  ·decide
theorem fld_next (hF:Flds y Q F)(hA:A<4294967296)(hC:C<4294967296){m:Nat}(hJ:JP A C m)(k:Nat) :
  dg 64 ((A*F+C*geo 64 Q) &&& (4294967295*geo 64 Q)) k=if k<Q then stM (64*k+m) y else 0:=by
 rw[dg_and,fld_lin hy hF hA hC,dg_geo (by decide) (by decide)]
 split
 ·rw[show(4294967295:Nat)=2 ^ 32-1 from by decide,Nat.and_two_pow_sub_one_eq_mod,stM_add,hJ _ (stM_lt hy _)]
 ·rfl
theorem fld_join {R G:Nat}(hF:Flds y Q F)(hG:∀k,dg 64 G k=if k<R then stM (64*k+64*Q) y else 0):Flds y (Q+R) (F+G <<< (64*Q)):=fun k=>by
 rw[dg_add (fun k=>?_),hF,dg_shl,hG]
 ·by_cases c:k<Q
  ·rw[if_pos c,if_pos c,if_pos (by omega)];rfl
  ·rw[if_neg c,if_neg c]
   by_cases d:k-Q<R
   ·rw[if_pos d,if_pos (by omega),Nat.zero_add]
    congr 1;omega
   ·rw[if_neg d,if_neg (by omega)]
 ·rw[hF,dg_shl,hG]
  have hx:=fun n=>stM_lt hy n
  by_cases c:k<Q
  ·rw[if_pos c,if_pos c];have:=hx (64*k);omega
  ·rw[if_neg c,if_neg c]
   split
   ·have:=hx (64*(k-Q)+64*Q);omega
   ·decide
theorem vF_ok:∀(n:Nat){Q A C F:Nat},Flds y Q F→A<4294967296→C<4294967296→JP A C (64*Q)→Flds y (2 ^ n*Q) (vF n (64*Q) A C F)
 | 0,Q,A,C,F,hF,_,_,_=>by rw[Nat.pow_zero,Nat.one_mul];exact hF
 | n+1,Q,A,C,F,hF,hA,hC,hJ=>by
  have h1:=fld_join hy (R:=Q) hF (fld_next hy hF hA hC hJ)
  have h2:=vF_ok n h1 (A:=A*A%4294967296) (C:=(A*C+C)%4294967296) (Nat.mod_lt _ (by decide)) (Nat.mod_lt _ (by decide)) (by rw[Nat.mul_add];exact hJ.comp hJ)
  rw[←Nat.two_mul,←Nat.mul_assoc,←Nat.pow_succ,Nat.mul_left_comm]at h2
  rw[←vOne_geo]at h2
  exact h2
theorem vE_ok (hF:Flds y 16384 F)(hA:A<4294967296)(hC:C<4294967296)(hJ:JP A C 1048576):Flds y 16448 (vE A C F):=by
 have h1:Flds y 64 (F%2 ^ 4096):=fun k=>by
  have:dg 64 (F%2 ^ 4096) k=if k<64 then dg 64 F k else 0:=by
   apply Nat.eq_of_testBit_eq
   intro i
   rw[dg_bit,Nat.testBit_mod_two_pow]
   by_cases c:k<64
   ·rw[if_pos c,dg_bit]
    by_cases d:i<64
    ·rw[decide_eq_true (show 64*k+i<4096 by omega),Bool.true_and]
    ·rw[decide_eq_false d];rfl
   ·rw[if_neg c,decide_eq_false (show ¬64*k+i<4096 by omega),Nat.zero_testBit,Bool.false_and,Bool.and_false]
  rw[this,hF k]
  split
  ·rw[if_pos (by omega)]
  ·rfl
 have h2:=fld_next hy h1 hA hC (m:=64*16384) hJ
 have h3:=fld_join hy hF h2
 rw[←vOne_geo]at h3
 exact h3
theorem fld_bit {T p:Nat}:T.testBit p=(dg 64 T (p / 64)).testBit (p%64):=by
 rw[dg_bit,decide_eq_true (Nat.mod_lt _ (by decide)),Bool.true_and]
 congr 1
 have:=Nat.div_add_mod p 64
 omega
theorem vG_ok (hF:Flds y Q F):∀(n:Nat){g A C acc:Nat},g+n=64→A<4294967296→C<4294967296→JP A C g →
  (∀i,acc.testBit (i+31)=(decide (i%64<g)&&(decide (i / 64<Q)&&(stM i y).testBit 31))) →
  ∀i,(vG F (geo 64 Q) (2147483648*geo 64 Q) n g A C acc).testBit (i+31)=(decide (i / 64<Q)&&(stM i y).testBit 31)
 | 0,g,A,C,acc,hg,_,_,_,h,i=>by
  show acc.testBit (i+31)=_
  rw[h i,decide_eq_true (show i%64<g by have:=Nat.mod_lt i (show 64>0 by decide);omega),Bool.true_and]
 | n+1,g,A,C,acc,hg,hA,hC,hJ,h,i=>by
  refine vG_ok hF n (g:=g+1) (by omega) (Nat.mod_lt _ (by decide)) (Nat.mod_lt _ (by decide)) hJ.step (fun i=>?_) i
  show(acc |||(((A*F+C*geo 64 Q) &&& (2147483648*geo 64 Q)) <<< g)).testBit (i+31)=_
  rw[Nat.testBit_or,h i,Nat.testBit_shiftLeft]
  have hT:∀p,((A*F+C*geo 64 Q) &&& (2147483648*geo 64 Q)).testBit p=(decide (p / 64<Q)&&(decide (p%64=31)&&(stM (64*(p / 64)+g) y).testBit 31)):=fun p=>by
   rw[fld_bit hy,dg_and,fld_lin hy hF hA hC,dg_geo (by decide) (by decide)]
   by_cases c:p / 64<Q
   ·rw[if_pos c,if_pos c,decide_eq_true c,Bool.true_and,show(2147483648:Nat)=2 ^ 31 from by decide,Nat.testBit_and,Nat.testBit_two_pow]
    by_cases d:p%64=31
    ·rw[d,decide_eq_true rfl,Bool.and_true,Bool.true_and,stM_add,hJ _ (stM_lt hy _),show(4294967296:Nat)=2 ^ 32 from by decide,Nat.testBit_mod_two_pow]
     rfl
    ·rw[decide_eq_false d,decide_eq_false (fun e=>d e.symm),Bool.and_false,Bool.false_and]
   ·rw[if_neg c,if_neg c,decide_eq_false c,Bool.false_and,Nat.and_zero,Nat.zero_testBit]
  rw[hT]
  by_cases e:i%64=g
  ·have e1:(i+31-g) / 64=i / 64:=by omega
   have e2:(i+31-g)%64=31:=by omega
   have e3:64*(i / 64)+g=i:=by omega
   rw[e1,e2,e3,decide_eq_false (show ¬i%64<g by omega),decide_eq_true (show i%64<g+1 by omega),decide_eq_true (show i+31≥g by omega)]
   simp
  ·have e2:(decide (i+31≥g)&&decide ((i+31-g)%64=31))=false:=by
    rw[Bool.and_eq_false_iff,decide_eq_false_iff_not,decide_eq_false_iff_not]
    omega
   have e3:decide (i%64<g+1)=decide (i%64<g):=decide_eq_decide.mpr (by omega)
   rw[e3]
   generalize decide (i+31≥g)=x at *
   generalize decide ((i+31-g)%64=31)=z at *
   cases x<;>cases z<;>first|(simp at e2;done)|simp
end
theorem vB_ok {y:Nat}(hy:y<4294967296)(i:Nat):(vB y).testBit i=(decide (i<1052672)&&(stM i y).testBit 31):=by
 have h0:Flds y 1 y:=fun k=>by
  by_cases c:k=0
  ·subst c;rw[dg_0,if_pos (by decide),Nat.mod_eq_of_lt (by omega)];rfl
  ·rw[if_neg (by omega),dg_small (by omega) (by omega)]
 have j6:=jd_ok 6
 have j20:=jd_ok 20
 rw[show jd 6=(667185409,1956956480)from by decide]at j6
 rw[show jd 20=(4232052737,2320498688)from by decide]at j20
 have h1:=vF_ok hy 14 h0 (by decide) (by decide) j6
 rw[show 64*1=64 from rfl]at h1
 have h2:=vE_ok hy h1 (by decide) (by decide) j20
 have h3:=vG_ok hy h2 64 (g:=0) (A:=1) (C:=0) (acc:=0) rfl (by decide) (by decide) JP.zero (fun i=>by rw[Nat.zero_testBit,decide_eq_false (by omega),Bool.false_and]) i
 rw[←vOne_geo,show 64*16448=1052672 from rfl]at h3
 have h4:(decide (i / 64<16448)&&(stM i y).testBit 31)=(decide (i<1052672)&&(stM i y).testBit 31):=by
  rw[decide_eq_decide.mpr (show i / 64<16448↔i<1052672 by omega)]
 have key:∀X:Nat,(Nat.shiftRight X 31).testBit i=X.testBit (31+i):=fun X=>Nat.testBit_shiftRight X
 unfold vB
 rw[←h4,←h3,Nat.add_comm i 31,key]
noncomputable def vOc (C N:Nat)(u:List Bool):Nat→Nat→Nat:=List.rec (fun _ acc=>acc)
 (fun b _ ih k acc=>ih (Nat.succ k) (Nat.land acc (Nat.shiftRight (Bool.rec N C b) k))) u
noncomputable def vOs (C N:Nat)(us:List (List Bool)):Nat:=List.rec 0 (fun u _ ih=>Nat.lor (vOc C N u 0 C) ih) us
noncomputable def vzd (k x:Nat):Nat:=Nat.land x (Nat.shiftRight x k)
noncomputable def vzr (N:Nat):Nat:=Nat.land (vzd 4 (vzd 4 (vzd 2 (vzd 1 N)))) (Nat.shiftRight N 12)
noncomputable def v63:Nat:=(2 ^ 63-1)*geo 128 8224
noncomputable def v116:Nat:=(2 ^ 116-1)*geo 128 8224
noncomputable def vb63:Nat:=2 ^ 63*geo 128 8224
noncomputable def vnz (m b N:Nat):Nat:=Nat.xor (Nat.land (Nat.shiftRight (Nat.add (Nat.land (vzr N) m) m) 53) b) b
noncomputable def vhv (m C N Z:Nat)(p:List (List Bool)):Nat:=Nat.shiftRight (Nat.land (Nat.add (Nat.land (vOs C N p) m) m) Z) 63
noncomputable def vpk (m C N Z:Nat)(ps:List (List (List Bool))):Nat→Nat:=List.rec (fun acc=>acc)
 (fun p _ ih acc=>ih (Nat.add (Nat.mul 64 acc) (vhv m C N Z p))) ps
noncomputable def vdb (k A:Nat):Nat:=Nat.add A (Nat.shiftRight A k)
noncomputable def v3 (A2 A4 A8:Nat):Nat:=Nat.add (Nat.add (Nat.add (vdb 1024 A8) (Nat.shiftRight A8 2048)) (Nat.shiftRight A4 3072)) (Nat.shiftRight A2 3584)
noncomputable def v30 (A:Nat):Nat:=v3 (vdb 128 A) (vdb 256 (vdb 128 A)) (vdb 512 (vdb 256 (vdb 128 A)))
noncomputable def vT:Nat:=329669641811735087525745798680641*geo 128 8193
noncomputable def vfin (S T:Nat):Bool:=Nat.beq (Nat.land (Nat.add S (18*T)) (32*T)) (32*T)
noncomputable def I1:Bool:=true
noncomputable def O1:Bool:=false
noncomputable def vgr:List (List (List Bool)):=[[[I1,O1,I1,I1,I1],[I1,I1,I1,I1,I1],[I1,O1,I1,I1,O1,I1,I1],[I1,I1,I1,I1,O1,I1,I1],[I1,O1,I1,I1,O1,O1,I1,I1,I1],[I1,O1,I1,I1,O1,I1,O1,I1,I1],[I1,I1,I1,I1,O1,O1,I1,I1,I1],[I1,I1,I1,I1,O1,I1,O1,I1,I1]],
 [[I1,I1,O1,O1,I1,I1],[I1,O1,I1,O1,O1,I1,I1],[I1,O1,O1,I1,I1,O1,I1,I1],[I1,O1,O1,I1,I1,I1,O1,O1],[I1,O1,I1,O1,O1,I1,O1,I1],[I1,O1,I1,O1,I1,I1,O1,O1],[I1,I1,I1,O1,O1,I1,O1,I1],[I1,I1,I1,O1,I1,I1,O1,O1],[I1,O1,O1,I1,O1,O1,O1,I1,I1],[I1,O1,O1,I1,O1,O1,I1,O1,O1],[I1,O1,O1,I1,O1,I1,O1,I1,I1],[I1,O1,O1,I1,O1,I1,I1,O1,O1],[I1,O1,O1,I1,I1,O1,I1,O1,O1],[I1,O1,I1,I1,O1,O1,I1,O1,I1],[I1,O1,I1,I1,O1,I1,I1,O1,O1]],
 [[I1,O1,I1,O1,I1,O1],[I1,I1,O1,I1,O1,I1],[I1,I1,I1,O1,I1,O1],[I1,O1,I1,O1,I1,I1,O1],[I1,O1,I1,I1,O1,I1,O1],[I1,I1,I1,O1,I1,I1,O1],[I1,O1,I1,I1,O1,I1,I1,O1],[I1,I1,O1,I1,O1,O1,O1,I1,O1],[I1,I1,O1,I1,O1,O1,I1,O1,I1]],
 [[I1,O1,O1,I1,O1,O1],[I1,O1,I1,O1,O1,I1,O1],[I1,I1,I1,O1,O1,I1,O1],[I1,O1,I1,O1,O1,I1,I1,I1],[I1,O1,I1,O1,I1,I1,O1,O1],[I1,O1,I1,I1,O1,O1,I1,O1],[I1,I1,I1,O1,O1,I1,I1,I1],[I1,I1,I1,O1,I1,I1,O1,O1],[I1,O1,O1,I1,O1,I1,I1,O1,O1],[I1,O1,O1,I1,I1,O1,I1,O1,O1],[I1,O1,I1,I1,O1,O1,I1,I1,I1],[I1,O1,I1,I1,O1,I1,I1,O1,O1]],
 [[I1,O1,I1,O1,I1,I1,O1],[I1,O1,I1,I1,O1,I1,O1],[I1,O1,O1,I1,O1,O1,I1,O1],[I1,O1,O1,I1,O1,I1,I1,O1],[I1,O1,O1,I1,I1,O1,I1,O1],[I1,O1,O1,I1,I1,I1,I1,O1],[I1,O1,I1,I1,O1,O1,I1,I1],[I1,I1,O1,I1,O1,O1,I1,O1],[I1,I1,O1,I1,I1,I1,I1,O1],[I1,O1,O1,I1,O1,O1,O1,I1,I1],[I1,O1,O1,I1,O1,I1,O1,I1,I1],[I1,O1,O1,I1,I1,O1,O1,I1,I1],[I1,O1,O1,I1,I1,I1,O1,I1,I1],[I1,O1,I1,I1,I1,I1,O1,I1,I1],[I1,I1,O1,I1,O1,O1,O1,I1,I1],[I1,I1,O1,I1,O1,I1,O1,I1,I1],[I1,I1,O1,I1,I1,I1,O1,I1,I1]],
 [[I1,O1,I1,O1,O1,I1,I1],[I1,I1,O1,O1,I1,I1,O1],[I1,I1,I1,O1,O1,I1,I1],[I1,O1,O1,I1,I1,O1,I1,O1],[I1,O1,I1,O1,I1,O1,I1,O1],[I1,O1,I1,O1,I1,I1,O1,O1],[I1,O1,I1,I1,O1,O1,I1,I1],[I1,I1,I1,O1,I1,O1,I1,O1],[I1,I1,I1,O1,I1,I1,O1,O1],[I1,O1,O1,I1,O1,O1,I1,O1,O1],[I1,O1,O1,I1,I1,O1,O1,I1,I1],[I1,O1,O1,I1,I1,O1,I1,I1,O1],[I1,O1,I1,O1,I1,O1,I1,I1,O1],[I1,O1,I1,I1,O1,I1,O1,I1,O1],[I1,O1,I1,I1,O1,I1,I1,O1,O1],[I1,I1,O1,O1,I1,O1,I1,O1,O1],[I1,I1,I1,O1,I1,O1,I1,I1,O1]],
 [[I1,I1,O1,I1,O1],[I1,O1,I1,O1,I1,O1],[I1,O1,O1,I1,O1,O1,I1,O1]],
 [[I1,I1,I1,I1,I1],[I1,I1,O1,I1,O1,I1,I1],[I1,I1,I1,I1,O1,I1,I1],[I1,O1,O1,I1,O1,I1,I1,I1],[I1,O1,I1,O1,I1,O1,I1,I1],[I1,I1,O1,I1,O1,O1,I1,O1],[I1,I1,I1,I1,O1,O1,I1,O1],[I1,O1,I1,O1,I1,O1,O1,I1,O1]],
 [[I1,I1,I1,O1,I1,I1],[I1,O1,I1,I1,O1,I1,I1],[I1,I1,I1,O1,I1,O1,O1],[I1,O1,I1,O1,I1,I1,O1,I1],[I1,O1,I1,I1,O1,I1,O1,O1],[I1,I1,O1,I1,I1,I1,O1,I1],[I1,O1,O1,I1,O1,O1,O1,I1,I1],[I1,O1,O1,I1,O1,O1,I1,O1,I1],[I1,O1,O1,I1,O1,I1,O1,I1,I1],[I1,O1,O1,I1,O1,I1,I1,O1,I1],[I1,I1,O1,I1,O1,O1,O1,I1,I1],[I1,I1,O1,I1,O1,O1,I1,O1,I1],[I1,I1,O1,I1,O1,I1,O1,I1,I1]],
 [[I1,I1,O1,I1,O1,I1],[I1,O1,I1,O1,I1,O1,I1],[I1,I1,O1,I1,I1,I1,O1],[I1,O1,O1,I1,O1,O1,I1,O1],[I1,O1,O1,I1,O1,I1,I1,O1],[I1,O1,I1,O1,I1,I1,I1,O1],[I1,I1,O1,I1,O1,O1,I1,O1],[I1,O1,I1,O1,I1,O1,O1,I1,O1],[I1,I1,O1,I1,I1,I1,I1,I1,O1]],
 [[I1,I1,O1,O1,I1,O1,I1],[I1,I1,I1,O1,O1,I1,O1],[I1,O1,I1,O1,O1,I1,O1,O1],[I1,O1,I1,O1,I1,O1,I1,I1],[I1,O1,I1,O1,I1,I1,O1,O1],[I1,O1,I1,I1,O1,O1,I1,O1],[I1,I1,I1,O1,I1,O1,I1,I1],[I1,I1,I1,O1,I1,I1,O1,O1],[I1,O1,O1,I1,O1,O1,O1,I1,I1],[I1,O1,O1,I1,O1,O1,I1,O1,O1],[I1,O1,O1,I1,O1,I1,O1,I1,I1],[I1,O1,O1,I1,O1,I1,I1,O1,O1],[I1,O1,I1,O1,I1,O1,I1,O1,I1],[I1,O1,I1,I1,O1,I1,O1,I1,I1],[I1,O1,I1,I1,O1,I1,I1,O1,O1],[I1,I1,I1,O1,I1,O1,I1,O1,I1]],
 [[I1,O1,O1,I1,O1,O1],[I1,I1,O1,O1,I1,I1,O1],[I1,O1,I1,O1,O1,I1,I1,O1],[I1,O1,I1,O1,I1,I1,O1,O1],[I1,I1,I1,O1,I1,I1,O1,O1],[I1,O1,O1,I1,O1,I1,I1,O1,O1],[I1,O1,O1,I1,I1,O1,I1,O1,O1],[I1,O1,O1,I1,I1,O1,I1,I1,O1],[I1,O1,I1,I1,O1,I1,I1,O1,O1]],
 [[I1,I1,I1,I1,I1],[I1,O1,I1,I1,I1,I1],[I1,I1,I1,I1,O1,I1,I1],[I1,O1,O1,I1,O1,I1,I1,I1],[I1,O1,I1,I1,I1,O1,I1,I1],[I1,I1,O1,I1,O1,I1,I1,I1],[I1,O1,O1,O1,I1,O1,I1,I1,I1],[I1,I1,O1,O1,I1,O1,O1,I1,I1],[I1,I1,I1,I1,O1,I1,O1,I1,I1]],
 [[I1,O1,I1,O1,O1,I1,I1],[I1,I1,O1,O1,I1,I1,I1],[I1,I1,I1,O1,O1,I1,I1],[I1,O1,O1,I1,I1,I1,O1,O1],[I1,O1,I1,O1,I1,O1,I1,O1],[I1,I1,I1,O1,I1,O1,I1,O1],[I1,O1,O1,I1,O1,O1,O1,I1,O1],[I1,O1,O1,I1,O1,O1,I1,O1,O1],[I1,O1,O1,I1,O1,I1,O1,I1,O1],[I1,O1,O1,I1,O1,I1,I1,O1,O1],[I1,O1,O1,I1,I1,O1,I1,O1,O1],[I1,O1,I1,O1,I1,O1,I1,I1,I1],[I1,I1,I1,O1,I1,O1,I1,I1,I1]],
 [[I1,I1,O1,I1,O1,O1],[I1,I1,O1,I1,I1,I1,O1],[I1,O1,O1,I1,O1,O1,I1,O1],[I1,O1,O1,I1,O1,I1,I1,O1],[I1,I1,O1,I1,O1,I1,I1,O1],[I1,I1,O1,I1,I1,I1,I1,I1,O1]],
 [[I1,I1,I1,O1,I1,I1],[I1,O1,I1,I1,O1,I1,I1],[I1,I1,O1,I1,O1,I1,O1],[I1,O1,I1,O1,I1,O1,I1,O1],[I1,I1,O1,I1,O1,O1,I1,I1],[I1,O1,O1,I1,O1,I1,O1,I1,I1],[I1,O1,I1,O1,I1,O1,O1,I1,I1]],
 [[I1,O1,O1,I1,I1,O1,I1,I1],[I1,O1,O1,I1,I1,I1,O1,O1],[I1,O1,I1,O1,I1,O1,I1,I1],[I1,O1,I1,O1,I1,I1,O1,O1],[I1,I1,I1,O1,I1,O1,I1,I1],[I1,I1,I1,O1,I1,I1,O1,O1],[I1,O1,O1,I1,O1,O1,O1,I1,I1],[I1,O1,O1,I1,O1,O1,I1,O1,O1],[I1,O1,O1,I1,O1,I1,O1,I1,I1],[I1,O1,O1,I1,O1,I1,I1,O1,O1],[I1,O1,O1,I1,I1,O1,I1,O1,I1],[I1,O1,I1,O1,I1,O1,I1,O1,I1],[I1,O1,I1,I1,O1,I1,O1,I1,I1],[I1,O1,I1,I1,O1,I1,I1,O1,O1],[I1,I1,I1,O1,I1,O1,I1,O1,I1]],
 [[I1,O1,O1,I1,O1,O1],[I1,I1,O1,O1,I1,O1],[I1,O1,I1,O1,O1,I1,O1],[I1,O1,I1,O1,I1,O1,I1,O1],[I1,O1,O1,I1,O1,I1,O1,I1,O1],[I1,O1,O1,I1,O1,I1,I1,O1,O1],[I1,O1,O1,I1,I1,O1,I1,O1,O1],[I1,O1,I1,O1,I1,O1,I1,I1,I1]],
 [[I1,I1,O1,I1,O1,I1],[I1,O1,I1,O1,I1,O1,I1],[I1,O1,I1,O1,I1,I1,I1],[I1,I1,I1,O1,I1,I1,I1],[I1,I1,O1,I1,I1,I1,O1,I1],[I1,O1,O1,I1,O1,O1,I1,O1,I1],[I1,O1,O1,I1,O1,I1,I1,O1,I1],[I1,I1,O1,I1,O1,O1,I1,O1,I1]]]
noncomputable def vall:Nat:=2 ^ 1052672-1
noncomputable def vc1 (N:Nat):Bool:=vfin (v30 (vpk v63 (Nat.xor N vall) N (vnz v116 vb63 N) vgr 0)) vT
noncomputable def vck (y:Nat):Bool:=vc1 (vB y)
noncomputable def vrP (P:Nat→Bool)(n:Nat):Nat→Bool:=Nat.rec (fun _=>true) (fun _ ih i=>Bool.rec false (ih (Nat.succ i)) (P i)) n
noncomputable def vrg:Nat→Nat→Bool:=vrP fun i=>vck (1048576*i)
section
variable {α:Type}
noncomputable def pf (c:α→Nat)(ps:List α):Nat→Nat:=List.rec (fun a=>a) (fun p _ ih a=>ih (64*a+c p)) ps
theorem pf_cons (c:α→Nat)(p:α)(ps:List α)(a:Nat):pf c (p::ps) a=pf c ps (64*a+c p):=rfl
theorem pf_add (c d:α→Nat):∀(ps:List α)(a b:Nat),pf c ps a+pf d ps b=pf (fun p=>c p+d p) ps (a+b)
 | [],_,_=>rfl
 | p::ps,a,b=>by rw[pf_cons,pf_cons,pf_cons,pf_add c d ps];congr 1;omega
theorem pf_zero:∀ps:List α,pf (fun _=>0) ps 0=0
 | []=>rfl
 | p::ps=>pf_zero ps
theorem pf_and (c d:α→Nat)(hc:∀p,c p<64)(hd:∀p,d p<64):∀(ps:List α)(a b:Nat),pf c ps a &&& pf d ps b=pf (fun p=>c p &&& d p) ps (a &&& b)
 | [],_,_=>rfl
 | p::ps,a,b=>by
  rw[pf_cons,pf_cons,pf_cons,pf_and c d hc hd ps]
  congr 1
  have h1:=hc p
  have h2:=hd p
  have e1:((64*a+c p) &&& (64*b+d p)) / 2 ^ 6=a &&& b:=by
   rw[Nat.and_div_two_pow,show(64*a+c p) / 2 ^ 6=a by omega,show(64*b+d p) / 2 ^ 6=b by omega]
  have e2:((64*a+c p) &&& (64*b+d p))%2 ^ 6=c p &&& d p:=by
   rw[Nat.and_mod_two_pow,show(64*a+c p)%2 ^ 6=c p by omega,show(64*b+d p)%2 ^ 6=d p by omega]
  have:=Nat.div_add_mod ((64*a+c p) &&& (64*b+d p)) (2 ^ 6)
  rw[e1,e2]at this
  rw[←this]
theorem pf_inj (c d:α→Nat)(hc:∀p,c p<64)(hd:∀p,d p<64):∀(ps:List α)(a b:Nat),pf c ps a=pf d ps b→a=b∧∀p∈ps,c p=d p
 | [],a,b,h=>⟨h,fun p hp=>nomatch hp⟩
 | p::ps,a,b,h=>by
  rw[pf_cons,pf_cons]at h
  obtain⟨h1,h2⟩:=pf_inj c d hc hd ps _ _ h
  have h3:=hc p
  have h4:=hd p
  refine⟨by omega,fun q hq=>?_⟩
  rcases List.mem_cons.mp hq with rfl|hq
  ·omega
  ·exact h2 q hq
end
noncomputable def sm (g:Nat→Nat):Nat→Nat→Nat
 | 0,_=>0
 | m+1,k=>sm g m k+g (k+m)
theorem sm_le {g:Nat→Nat}{U:Nat}(h:∀k,g k≤U):∀m k,sm g m k≤m*U
 | 0,_=>Nat.zero_le _
 | m+1,k=>by have:=sm_le h m k;have:=h (k+m);rw[Nat.succ_mul];show sm g m k+g (k+m)≤_;omega
theorem sm_add (g:Nat→Nat)(m k:Nat):∀n,sm g m k+sm g n (m+k)=sm g (m+n) k
 | 0=>rfl
 | n+1=>by
  show _+(sm g n (m+k)+g (m+k+n))=sm g (m+n) k+g (k+(m+n))
  rw[←sm_add g m k n,show m+k+n=k+(m+n)by omega];omega
theorem sm_pf {α:Type}(h:Nat→α→Nat)(ps:List α)(k:Nat):∀m,sm (fun k=>pf (h k) ps 0) m k=pf (fun p=>sm (fun k=>h k p) m k) ps 0
 | 0=>(pf_zero ps).symm
 | m+1=>by
  show sm _ m k+pf (h (k+m)) ps 0=_
  rw[sm_pf h ps k m,pf_add];rfl
noncomputable def Oc (f:Nat→Bool):List Bool→Nat→Prop
 | [],_=>True
 | b::u,i=>f i=b∧Oc f u (i+1)
section
variable {C N:Nat}{f:Nat→Bool}(hC:∀i,C.testBit i=true→f i=true)(hN:∀i,N.testBit i=true→f i=false)
include hC hN
theorem vOc_ok:∀(u:List Bool)(k acc i:Nat),(vOc C N u k acc).testBit i=true→acc.testBit i=true∧Oc f u (k+i)
 | [],_,_,_,h=>⟨h,trivial⟩
 | b::u,k,acc,i,h=>by
  obtain⟨h1,h2⟩:=vOc_ok u (k+1) _ i h
  have h1:(acc &&& ((Bool.rec N C b:Nat) >>> k)).testBit i=true:=h1
  rw[Nat.testBit_and,Bool.and_eq_true,Nat.testBit_shiftRight]at h1
  refine⟨h1.1,?_,by rw[show k+i+1=k+1+i by omega];exact h2⟩
  cases b with
  | true=>exact hC _ h1.2
  | false=>exact hN _ h1.2
theorem vOs_ok:∀(us:List (List Bool))(i:Nat),(vOs C N us).testBit i=true→∃u∈us,Oc f u i
 | [],i,h=>by have h:Nat.testBit 0 i=true:=h;rw[Nat.zero_testBit]at h;cases h
 | u::us,i,h=>by
  have h:(vOc C N u 0 C ||| vOs C N us).testBit i=true:=h
  rw[Nat.testBit_or,Bool.or_eq_true]at h
  rcases h with h|h
  ·have:=(vOc_ok hC hN u 0 C i h).2
   rw[Nat.zero_add]at this
   exact⟨u,List.mem_cons_self,this⟩
  ·obtain⟨v,hv,h⟩:=vOs_ok us i h
   exact⟨v,List.mem_cons_of_mem _ hv,h⟩
end
theorem vzd_ok {k x i:Nat}(h1:x.testBit i=true)(h2:x.testBit (k+i)=true):(vzd k x).testBit i=true:=by
 show(x &&& (x >>> k)).testBit i=true
 rw[Nat.testBit_and,Nat.testBit_shiftRight,h1,h2];rfl
theorem vzr_ok {N i:Nat}(h:∀r,r<13→N.testBit (i+r)=true):(vzr N).testBit i=true:=by
 have h1:∀r,r<12→(vzd 1 N).testBit (i+r)=true:=fun r hr=>vzd_ok (h r (by omega)) (by rw[show 1+(i+r)=i+(1+r)by omega];exact h _ (by omega))
 have h2:∀r,r<10→(vzd 2 (vzd 1 N)).testBit (i+r)=true:=fun r hr=>vzd_ok (h1 r (by omega)) (by rw[show 2+(i+r)=i+(2+r)by omega];exact h1 _ (by omega))
 have h3:∀r,r<6→(vzd 4 (vzd 2 (vzd 1 N))).testBit (i+r)=true:=fun r hr=>vzd_ok (h2 r (by omega)) (by rw[show 4+(i+r)=i+(4+r)by omega];exact h2 _ (by omega))
 have h4:(vzd 4 (vzd 4 (vzd 2 (vzd 1 N)))).testBit i=true:=vzd_ok (h3 0 (by omega)) (by rw[Nat.add_comm];exact h3 4 (by omega))
 show(_ &&& (N >>> 12)).testBit i=true
 rw[Nat.testBit_and,h4,Nat.testBit_shiftRight,Nat.add_comm,h 12 (by omega)];rfl
theorem and_bit (x s:Nat):x &&& 2 ^ s=if x.testBit s=true then 2 ^ s else 0:=by
 apply Nat.eq_of_testBit_eq
 intro i
 rw[Nat.testBit_and,Nat.testBit_two_pow]
 by_cases c:s=i
 ·subst c
  rw[decide_eq_true rfl,Bool.and_true]
  split
  ·next h=>rw[h,Nat.testBit_two_pow,decide_eq_true rfl]
  ·next h=>rw[Nat.zero_testBit];exact Bool.eq_false_iff.mpr h
 ·rw[decide_eq_false c,Bool.and_false]
  split
  ·rw[Nat.testBit_two_pow,decide_eq_false c]
  ·rw[Nat.zero_testBit]
theorem fld_any {v s F:Nat}(hs:s<128)(k:Nat):((dg 128 (Nat.add (Nat.land v ((2 ^ s-1)*geo 128 F)) ((2 ^ s-1)*geo 128 F)) k).testBit s=true↔k<F∧∃i,i<s∧v.testBit (128*k+i)=true)∧dg 128 (Nat.add (Nat.land v ((2 ^ s-1)*geo 128 F)) ((2 ^ s-1)*geo 128 F)) k<2 ^ (s+1):=by
 have hp:=Nat.two_pow_pos s
 have h128:2 ^ (s+1)≤2 ^ 128:=Nat.pow_le_pow_right (by decide) (by omega)
 rw[Nat.pow_succ]at h128
 have hg:=dg_geo (B:=128) (by decide) (a:=2 ^ s-1) (by omega) F
 have hl:∀k,dg 128 (v &&& ((2 ^ s-1)*geo 128 F)) k=if k<F then dg 128 v k%2 ^ s else 0:=fun k=>by
  rw[dg_and,hg]
  split
  ·rw[Nat.and_two_pow_sub_one_eq_mod]
  ·rw[Nat.and_zero]
 have hm:∀k,dg 128 v k%2 ^ s<2 ^ s:=fun k=>Nat.mod_lt _ hp
 have e:dg 128 ((v &&& ((2 ^ s-1)*geo 128 F))+(2 ^ s-1)*geo 128 F) k=if k<F then dg 128 v k%2 ^ s+(2 ^ s-1)else 0:=by
  rw[dg_add (fun k=>?_),hl,hg]
  ·split<;>rfl
  ·rw[hl,hg]
   split
   ·have:=hm k;omega
   ·exact Nat.lt_of_lt_of_le (by decide) (Nat.le_trans (Nat.le_mul_of_pos_left 2 hp) h128)
 show((dg 128 ((v &&& ((2 ^ s-1)*geo 128 F))+(2 ^ s-1)*geo 128 F) k).testBit s=true↔_)∧dg 128 ((v &&& ((2 ^ s-1)*geo 128 F))+(2 ^ s-1)*geo 128 F) k<_
 rw[e]
 by_cases c:k<F
 ·rw[if_pos c]
  have h1:=hm k
  refine⟨⟨fun h=>⟨c,?_⟩,fun⟨_,i,hi,h⟩=>?_⟩,by rw[Nat.pow_succ];omega⟩
  ·have h2:dg 128 v k%2 ^ s≠0:=fun z=>by
    rw[z,Nat.zero_add,Nat.testBit_two_pow_sub_one]at h
    simp at h
   have ⟨i,hi⟩:=Nat.exists_testBit_of_ne_zero h2
   rw[Nat.testBit_mod_two_pow,dg_bit,Bool.and_eq_true,Bool.and_eq_true]at hi
   exact⟨i,of_decide_eq_true hi.1,hi.2.2⟩
  ·have h2:dg 128 v k%2 ^ s≠0:=fun z=>by
    have:=congrArg (Nat.testBit · i) z
    simp only[Nat.testBit_mod_two_pow,dg_bit,Nat.zero_testBit,h,Bool.and_true,decide_eq_true hi,Bool.true_and]at this
    exact absurd this (by simp;omega)
   rw[Nat.testBit_eq_decide_div_mod_eq,show(dg 128 v k%2 ^ s+(2 ^ s-1)) / 2 ^ s=1 from Nat.div_eq_of_lt_le (by omega) (by omega)]
   rfl
 ·rw[if_neg c]
  refine⟨⟨fun h=>?_,fun h=>absurd h.1 c⟩,Nat.two_pow_pos _⟩
  rw[Nat.zero_testBit]at h;cases h
theorem vnz_ok {m b F:Nat}(hm:m=(2 ^ 116-1)*geo 128 F)(hb:b=2 ^ 63*geo 128 F)(N k:Nat):dg 128 (vnz m b N) k=0∨dg 128 (vnz m b N) k=2 ^ 63∧k<F∧∀i,i≤115→¬ ∀r,r<13→N.testBit (128*k+i+r)=true:=by
 have hb:∀k,dg 128 b k=if k<F then 2 ^ 63 else 0:=by rw[hb];exact dg_geo (B:=128) (by decide) (by decide) F
 have hu:=(fld_any (v:=vzr N) (s:=116) (F:=F) (by decide) k).1
 rw[←hm]at hu
 have key:∀u b:Nat,dg 128 (Nat.xor (Nat.land (Nat.shiftRight u 53) b) b) k=(dg 128 (u >>> 53) k &&& dg 128 b k) ^^^ dg 128 b k:=fun u b=>by
  show dg 128 (((u >>> 53) &&& b) ^^^ b) k=_
  rw[dg_xor,dg_and]
 unfold vnz
 rw[key,hb]
 by_cases c:k<F
 ·rw[if_pos c,and_bit,dg_bit,decide_eq_true (by decide),Bool.true_and,Nat.testBit_shiftRight]
  rw[dg_bit,decide_eq_true (by decide),Bool.true_and]at hu
  rw[show 53+(128*k+63)=128*k+116 by omega]
  split
  ·left;rw[Nat.xor_self]
  ·next h =>
   right
   refine⟨by rw[Nat.zero_xor],c,fun i hi z=>h (hu.mpr ⟨c,i,by omega,vzr_ok z⟩)⟩
 ·rw[if_neg c]
  left;rw[Nat.and_zero];rfl
section
variable {m C N Z F:Nat}(hm:m=(2 ^ 63-1)*geo 128 F){f:Nat→Bool}(hC:∀i,C.testBit i=true→f i=true)(hN:∀i,N.testBit i=true→f i=false){Zp:Nat→Prop}(hZ:∀k,dg 128 Z k=0∨dg 128 Z k=2 ^ 63∧Zp k)
include hm hC hN hZ
theorem vhv_ok (p:List (List Bool))(k:Nat):dg 128 (vhv m C N Z p) k=0∨dg 128 (vhv m C N Z p) k=1∧Zp k∧∃i,i<63∧∃u∈p,Oc f u (128*k+i):=by
 have hw:=fun k=>(fld_any (v:=vOs C N p) (s:=63) (F:=F) (by decide) k).1
 rw[←hm]at hw
 unfold vhv
 generalize hW:Nat.add (Nat.land (vOs C N p) m) m=w at hw ⊢
 have e:∀k,dg 128 (w &&& Z) k=2 ^ 63*(if (dg 128 w k).testBit 63=true∧dg 128 Z k=2 ^ 63 then 1 else 0):=fun k=>by
  rw[dg_and]
  rcases hZ k with z|⟨z,_⟩
  ·rw[z,Nat.and_zero,if_neg (fun h=>absurd h.2 (by decide))]
  ·rw[z,and_bit]
   by_cases c:(dg 128 w k).testBit 63=true
   ·rw[if_pos c,if_pos ⟨c,rfl⟩]
   ·rw[if_neg c,if_neg (fun h=>c h.1)]
 have:=dg_part (v:=w &&& Z) (by decide) e k
 have key:dg 128 (Nat.shiftRight (Nat.land w Z) 63) k=dg 128 ((w &&& Z) >>> 63) k:=rfl
 rw[key,this]
 by_cases c:(dg 128 w k).testBit 63=true∧dg 128 Z k=2 ^ 63
 ·rw[if_pos c]
  right
  obtain⟨_,i,hi,hx⟩:=(hw k).mp c.1
  refine⟨rfl,?_,i,hi,vOs_ok hC hN p _ hx⟩
  rcases hZ k with z|⟨_,z⟩
  ·rw[z]at c;exact absurd c.2 (by decide)
  ·exact z
 ·rw[if_neg c];exact .inl rfl
theorem vhv_le (p:List (List Bool))(k:Nat):dg 128 (vhv m C N Z p) k≤1:=by
 rcases vhv_ok hm hC hN hZ p k with h|⟨h,_⟩<;>omega
theorem vpk_ok:∀(ps:List (List (List Bool)))(l acc:Nat),l+ps.length≤20→(∀k,dg 128 acc k<64 ^ l)→∀k,dg 128 (vpk m C N Z ps acc) k=pf (fun p=>dg 128 (vhv m C N Z p) k) ps (dg 128 acc k)∧dg 128 (vpk m C N Z ps acc) k<64 ^ 20
 | [],l,acc,hl,h,k=>⟨rfl,Nat.lt_of_lt_of_le (h k) (Nat.pow_le_pow_right (by decide) (by simpa using hl))⟩
 | p::ps,l,acc,hq,h,k=>by
  have hl:=vhv_le hm hC hN hZ p
  rw[List.length_cons]at hq
  have hp:64 ^ (l+1)≤64 ^ 20:=Nat.pow_le_pow_right (by decide) (by omega)
  have h20:(64:Nat) ^ 20<2 ^ 128:=by decide
  have h1:∀k,dg 128 (64*acc) k=64*dg 128 acc k:=dg_mul fun k=>by have:=h k;rw[Nat.pow_succ]at hp;omega
  have h2:∀k,dg 128 (64*acc+vhv m C N Z p) k=64*dg 128 acc k+dg 128 (vhv m C N Z p) k:=fun k=>by
   rw[dg_add (fun k=>?_),h1]
   have:=h k;have:=hl k
   rw[h1];rw[Nat.pow_succ]at hp;omega
  have h3:∀k,dg 128 (64*acc+vhv m C N Z p) k<64 ^ (l+1):=fun k=>by
   have:=h k;have:=hl k
   rw[h2,Nat.pow_succ];omega
  obtain⟨h4,h5⟩:=vpk_ok ps (l+1) (64*acc+vhv m C N Z p) (by omega) h3 k
  refine⟨?_,h5⟩
  rw[h2]at h4
  exact h4
end
def Wn (A X m:Nat):Prop:=∀k,dg 128 X k=sm (dg 128 A) m k
theorem Wn.add {A X Y m n U:Nat}(hA:∀k,dg 128 A k≤U)(hU:30*U<2 ^ 128)(hX:Wn A X m)(hY:Wn A Y n)(h:m+n≤30):Wn A (Nat.add X (Nat.shiftRight Y (128*m))) (m+n):=fun k=>by
 have e:∀k,dg 128 X k+dg 128 (Y >>> (128*m)) k=sm (dg 128 A) (m+n) k:=fun k=>by rw[hX,dg_shr,hY,sm_add]
 show dg 128 (X+Y >>> (128*m)) k=_
 rw[dg_add (fun k=>?_),e]
 rw[e]
 have:=sm_le hA (m+n) k
 have:(m+n)*U≤30*U:=Nat.mul_le_mul_right _ h
 omega
theorem v30_ok {A U:Nat}(hA:∀k,dg 128 A k≤U)(hU:30*U<2 ^ 128):Wn A (v30 A) 30:=by
 have h1:Wn A A 1:=fun k=>(Nat.zero_add _).symm
 have h2:Wn A (vdb 128 A) 2:=h1.add hA hU h1 (by decide)
 have h4:Wn A (vdb 256 (vdb 128 A)) 4:=h2.add hA hU h2 (by decide)
 have h8:Wn A (vdb 512 (vdb 256 (vdb 128 A))) 8:=h4.add hA hU h4 (by decide)
 have h16:Wn A (vdb 1024 (vdb 512 (vdb 256 (vdb 128 A)))) 16:=h8.add hA hU h8 (by decide)
 exact((h16.add hA hU h8 (by decide)).add hA hU h4 (by decide)).add hA hU h2 (by decide)
noncomputable def cb (y i:Nat):Bool:=!(stM i y).testBit 31
def Gd (f:Nat→Bool)(p:List (List Bool))(n:Nat):Prop:=(∃i,i<63∧∃u∈p,Oc f u (n+i))∧∀i,i≤115→¬ ∀r,r<13→f (n+i+r)=false
theorem fin_ok {S u F k:Nat}(hS:∀k,dg 128 S k<2 ^ 127)(hu:32*u<2 ^ 127)(h:vfin S (u*geo 128 F)=true)(hk:k<F):(dg 128 S k+18*u) &&& (32*u)=32*u:=by
 have h:(S+18*(u*geo 128 F)) &&& (32*(u*geo 128 F))=32*(u*geo 128 F):=Nat.eq_of_beq_eq_true h
 rw[←Nat.mul_assoc,←Nat.mul_assoc]at h
 have g1:=dg_geo (B:=128) (by decide) (a:=18*u) (by omega) F
 have g2:=dg_geo (B:=128) (by decide) (a:=32*u) (by omega) F
 have h:=congrArg (dg 128 · k) h
 simp only[dg_and]at h
 rw[dg_add (fun k=>by rw[g1];have:=hS k;split<;>omega),g1,g2,if_pos hk,if_pos hk]at h
 exact h
theorem chk_gen {y N m m2 b a T F L Q:Nat}(hb:∀i,N.testBit i=(decide (i<L)&&(stM i y).testBit 31))(hm:m=(2 ^ 63-1)*geo 128 F)(hm2:m2=(2 ^ 116-1)*geo 128 F)(hb2:b=2 ^ 63*geo 128 F)(ha:a=2 ^ L-1)(hT:T=329669641811735087525745798680641*geo 128 Q)(hFL:128*F≤L)
  (h:vfin (v30 (vpk m (Nat.xor N a) N (vnz m2 b N) vgr 0)) T=true){p:List (List Bool)}(hp:p∈vgr){k:Nat}(hk:k<Q):∃g:Nat→Nat,(∀i,g i=0∨g i=1∧i<F∧Gd (cb y) p (128*i))∧14≤sm g 30 k:=by
 have hN:∀i,N.testBit i=true→cb y i=false:=fun i hi=>by
  rw[hb i,Bool.and_eq_true]at hi
  unfold cb;rw[hi.2];rfl
 have hC:∀i,(Nat.xor N a).testBit i=true→cb y i=true:=fun i hi=>by
  have hi:(N ^^^ a).testBit i=true:=hi
  rw[ha,Nat.testBit_xor,Nat.testBit_two_pow_sub_one,hb i]at hi
  unfold cb
  generalize decide (i<L)=x at hi
  generalize (stM i y).testBit 31=z at hi
  cases x<;>cases z<;>first|rfl|(simp at hi)
 have hZ:=vnz_ok hm2 hb2 N
 generalize Nat.xor N a=C at hC h
 generalize vnz m2 b N=Z at hZ h
 have h1:=fun k=>vpk_ok hm hC hN hZ vgr 0 0 (by decide) (fun k=>by rw[dg_zero];decide) k
 simp only[dg_zero]at h1
 generalize vpk m C N Z vgr 0=A at h1 h
 have h2:=v30_ok (A:=A) (U:=64 ^ 20) (fun k=>Nat.le_of_lt (h1 k).2) (by decide)
 have h3:=fin_ok (u:=329669641811735087525745798680641) (F:=Q) (k:=k) (fun k=>by rw[h2 k];exact Nat.lt_of_le_of_lt (sm_le (fun k=>Nat.le_of_lt (h1 k).2) 30 k) (by decide)) (by decide) (by rw[←hT];exact h) hk
 rw[h2 k]at h3
 have h4:sm (dg 128 A) 30 k=pf (fun p=>sm (fun k=>dg 128 (vhv m C N Z p) k) 30 k) vgr 0:=by
  rw[←sm_pf]
  congr 1
  funext k
  exact(h1 k).1
 have hc:∀p,sm (fun k=>dg 128 (vhv m C N Z p) k) 30 k≤30:=fun p=>by
  have:=sm_le (g:=fun k=>dg 128 (vhv m C N Z p) k) (U:=1) (vhv_le hm hC hN hZ p) 30 k
  omega
 rw[h4,show(18*329669641811735087525745798680641:Nat)=pf (fun _=>18) vgr 0 from by decide +kernel,show(32*329669641811735087525745798680641:Nat)=pf (fun _=>32) vgr 0 from by decide +kernel,pf_add,pf_and _ _ (fun p=>by have:=hc p;omega) (fun _=>by decide)]at h3
 have h5:=(pf_inj _ _ (fun p=>Nat.lt_of_le_of_lt Nat.and_le_right (by decide)) (fun _=>by decide) _ _ _ h3).2 p hp
 have h6:(sm (fun k=>dg 128 (vhv m C N Z p) k) 30 k+18) &&& 32≤_:=Nat.and_le_left
 refine⟨fun k=>dg 128 (vhv m C N Z p) k,fun i=>?_,by omega⟩
 rcases vhv_ok hm hC hN hZ p i with z|⟨z1,⟨z2,z3⟩,z4⟩
 ·exact .inl z
 ·refine .inr ⟨z1,z2,z4,fun j hj z=>z3 j hj fun r hr=>?_⟩
  have:=z r hr
  unfold cb at this
  rw[hb,decide_eq_true (by omega),Bool.true_and]
  simpa using this
theorem vck_ok {y:Nat}(hy:y<4294967296)(h:vck y=true){p:List (List Bool)}(hp:p∈vgr){k:Nat}(hk:k<8193):∃g:Nat→Nat,(∀i,g i=0∨g i=1∧i<8224∧Gd (cb y) p (128*i))∧14≤sm g 30 k:=by
 unfold vck vc1 at h
 have e1:v63=(2 ^ 63-1)*geo 128 8224:=by unfold v63;rfl
 have e2:v116=(2 ^ 116-1)*geo 128 8224:=by unfold v116;rfl
 have e3:vb63=2 ^ 63*geo 128 8224:=by unfold vb63;rfl
 have e4:vall=2 ^ 1052672-1:=by unfold vall;rfl
 have e5:vT=329669641811735087525745798680641*geo 128 8193:=by unfold vT;rfl
 exact chk_gen (N:=vB y) (m:=v63) (m2:=v116) (b:=vb63) (a:=vall) (T:=vT) (F:=8224) (L:=1052672) (Q:=8193) (vB_ok hy) e1 e2 e3 e4 e5 (by decide) h hp hk
theorem vrP_ok {P:Nat→Bool}:∀{n i:Nat},vrP P n i=true→∀j,j<n→P (i+j)=true
 | 0,_,_,j,hj=>absurd hj (Nat.not_lt_zero _)
 | n+1,i,h,j,hj=>by
  have h:Bool.rec (motive:=fun _=>Bool) false (vrP P n (i+1)) (P i)=true:=h
  generalize hx:P i=x at h
  cases x with
  | false=>cases h
  | true =>
   cases j with
   | zero=>exact hx
   | succ j =>
    have:=vrP_ok (n:=n) (i:=i+1) h j (by omega)
    rw[show i+(j+1)=i+1+j by omega];exact this
theorem vrg_ok {n i:Nat}(h:vrg n i=true)(j:Nat)(hj:j<n):vck (1048576*(i+j))=true:=by
 unfold vrg at h
 exact vrP_ok h j hj
noncomputable def bwN (s:Nat):Nat:=(4276115653*s+634785765)%4294967296
noncomputable def bwM:Nat→Nat→Nat
 | 0,s=>s
 | n+1,s=>bwN (bwM n s)
theorem bwM_lt {s:Nat}(h:s<4294967296):∀n,bwM n s<4294967296
 | 0=>h
 | n+1=>Nat.mod_lt _ (by decide)
theorem bwM_add (n s:Nat):∀k,bwM (n+k) s=bwM k (bwM n s)
 | 0=>rfl
 | k+1=>by show bwN (bwM (n+k) s)=_;rw[bwM_add n s k];rfl
theorem nx_bw {s:Nat}(h:s<4294967296):nxN (bwN s)=s:=by
 unfold nxN bwN
 rw[mod_in,Nat.mul_add,←Nat.mul_assoc,Nat.add_assoc,←mod_in2]
 rw[show 1664525*4276115653%4294967296=1 from by decide,show(1664525*634785765+1013904223)%4294967296=0 from by decide,Nat.one_mul,Nat.add_zero,Nat.mod_eq_of_lt h]
theorem stM_nx (n s:Nat):stM (n+1) s=stM n (nxN s):=by rw[Nat.add_comm,stM_add];rfl
theorem st_bw {s:Nat}(h:s<4294967296):∀n,stM n (bwM n s)=s
 | 0=>rfl
 | n+1=>by
  rw[stM_nx]
  show stM n (nxN (bwN (bwM n s)))=s
  rw[nx_bw (bwM_lt h n),st_bw h n]
noncomputable def jb:Nat→Nat×Nat
 | 0=>(4276115653,634785765)
 | n+1=>((jb n).1*(jb n).1%4294967296,((jb n).1*(jb n).2+(jb n).2)%4294967296)
theorem jb_ok:∀n,∀s,s<4294967296→bwM (2 ^ n) s=((jb n).1*s+(jb n).2)%4294967296
 | 0=>fun s hs=>rfl
 | n+1=>fun s hs=>by
  rw[Nat.pow_succ,Nat.mul_two,bwM_add,jb_ok n s hs,jb_ok n _ (Nat.mod_lt _ (by decide)),mod_in]
  show _=((jb n).1*(jb n).1%4294967296*s+((jb n).1*(jb n).2+(jb n).2)%4294967296)%4294967296
  rw[mod_in2,Nat.mul_add,Nat.mul_assoc,Nat.add_assoc]
theorem jb_odd:((List.range 20).all fun k=>(jb k).1%2 ^ (k+1)==1&&(jb k).2%2 ^ (k+1)==2 ^ k&&4294967296%2 ^ (k+1)==0)=true:=by decide +kernel
theorem low_zeros {x:Nat}(hx:x<4294967296):∀k,k≤20→∃n,n<2 ^ k∧bwM n x%2 ^ k=0
 | 0,_=>⟨0,by decide,Nat.mod_one _⟩
 | k+1,hk=>by
  obtain⟨n,hn,h⟩:=low_zeros hx k (by omega)
  have hp:=Nat.two_pow_pos k
  by_cases c:bwM n x%2 ^ (k+1)=0
  ·exact⟨n,by rw[Nat.pow_succ];omega,c⟩
  ·refine⟨n+2 ^ k,by rw[Nat.pow_succ];omega,?_⟩
   have hj:=List.all_eq_true.mp jb_odd k (List.mem_range.mpr (by omega))
   simp only[Bool.and_eq_true,beq_iff_eq]at hj
   rw[bwM_add,jb_ok k _ (bwM_lt hx n),Nat.mod_mod_of_dvd _ (Nat.dvd_of_mod_eq_zero hj.2),Nat.add_mod,Nat.mul_mod,hj.1.1,hj.1.2]
   have h2:bwM n x%2 ^ (k+1)=2 ^ k:=by
    rw[Nat.pow_succ,Nat.mod_mul,h]at c ⊢
    have:bwM n x / 2 ^ k%2=0∨bwM n x / 2 ^ k%2=1:=by omega
    rcases this with z|z
    ·rw[z]at c;simp at c
    ·rw[z];omega
   rw[h2,Nat.one_mul,Nat.mod_eq_of_lt (show 2 ^ k<2 ^ (k+1)by rw[Nat.pow_succ];omega),Nat.pow_succ,←Nat.mul_two,Nat.mod_self]
theorem all_states {x:Nat}(hx:x<4294967296):∃i n,i<4096∧n<1048576∧x=stM n (1048576*i):=by
 obtain⟨n,hn,h⟩:=low_zeros hx 20 (Nat.le_refl _)
 have hl:=bwM_lt hx n
 refine⟨bwM n x / 1048576,n,by omega,hn,?_⟩
 have h:bwM n x%1048576=0:=h
 rw[show 1048576*(bwM n x / 1048576)=bwM n x by omega,st_bw hx]
theorem Oc_shift {f:Nat→Bool}{n:Nat}:∀{u:List Bool}{i:Nat},Oc f u (n+i)→Oc (fun q=>f (n+q)) u i
 | [],_,_=>trivial
 | b::u,i,h=>⟨h.1,Oc_shift (u:=u) (i:=i+1) h.2⟩
theorem sm_shift (g:Nat→Nat)(k:Nat):∀m,sm g m k=sm (fun i=>g (k+i)) m 0
 | 0=>rfl
 | m+1=>by show sm g m k+_=sm _ m 0+g (k+(0+m));rw[sm_shift g k m,Nat.zero_add]
theorem cb_at (n y:Nat):cb (stM n y)=fun q=>cb y (n+q):=by
 funext q
 unfold cb
 rw[stM_add]
theorem Gd_shift {f:Nat→Bool}{p:List (List Bool)}{n i:Nat}(h:Gd f p (n+i)):Gd (fun q=>f (n+q)) p i:=by
 obtain⟨⟨j,hj,u,hu,h1⟩,h2⟩:=h
 refine⟨⟨j,hj,u,hu,Oc_shift (by rw[←Nat.add_assoc];exact h1)⟩,fun j hj z=>h2 j hj fun r hr=>?_⟩
 have:f (n+(i+j+r))=false:=z r hr
 rw[show n+i+j+r=n+(i+j+r)by omega];exact this
theorem win (hall:∀i,i<4096→vck (1048576*i)=true){x:Nat}(hx:x<4294967296){p:List (List Bool)}(hp:p∈vgr):∃(d:Nat)(g:Nat→Nat),d<128∧(∀i,g i=0∨g i=1∧Gd (cb x) p (d+128*i))∧14≤sm g 30 0:=by
 obtain⟨i,n,hi,hn,rfl⟩:=all_states hx
 obtain⟨g,h1,h2⟩:=vck_ok (y:=1048576*i) (by omega) (hall i hi) hp (k:=(n+127) / 128) (by omega)
 refine⟨128*((n+127) / 128)-n,fun i=>g ((n+127) / 128+i),by omega,fun j=>?_,by rw[←sm_shift];exact h2⟩
 rcases h1 ((n+127) / 128+j)with z|⟨z1,_,z2⟩
 ·exact .inl z
 ·refine .inr ⟨z1,?_⟩
  rw[cb_at]
  apply Gd_shift
  rw[show n+(128*((n+127) / 128)-n+128*j)=128*((n+127) / 128+j)by omega]
  exact z2
def vA (n:Nat):Prop:=∀k,k<n→vrg 32 (32*k)=true
theorem vS {n:Nat}(h:vA n)(e:vrg 32 (32*n)=true):vA (n+1):=fun k hk=>by
 rcases Nat.lt_or_ge k n with c|c
 ·exact h k c
 ·rw[show k=n by omega];exact e
theorem v_0:vA 0:=fun k hk=>absurd hk (Nat.not_lt_zero _)
theorem v_1:vA 1:=vS v_0 (by decide +kernel)
theorem v_2:vA 2:=vS v_1 (by decide +kernel)
theorem v_3:vA 3:=vS v_2 (by decide +kernel)
theorem v_4:vA 4:=vS v_3 (by decide +kernel)
theorem v_5:vA 5:=vS v_4 (by decide +kernel)
theorem v_6:vA 6:=vS v_5 (by decide +kernel)
theorem v_7:vA 7:=vS v_6 (by decide +kernel)
theorem v_8:vA 8:=vS v_7 (by decide +kernel)
theorem v_9:vA 9:=vS v_8 (by decide +kernel)
theorem v_10:vA 10:=vS v_9 (by decide +kernel)
theorem v_11:vA 11:=vS v_10 (by decide +kernel)
theorem v_12:vA 12:=vS v_11 (by decide +kernel)
theorem v_13:vA 13:=vS v_12 (by decide +kernel)
theorem v_14:vA 14:=vS v_13 (by decide +kernel)
theorem v_15:vA 15:=vS v_14 (by decide +kernel)
theorem v_16:vA 16:=vS v_15 (by decide +kernel)
theorem v_17:vA 17:=vS v_16 (by decide +kernel)
theorem v_18:vA 18:=vS v_17 (by decide +kernel)
theorem v_19:vA 19:=vS v_18 (by decide +kernel)
theorem v_20:vA 20:=vS v_19 (by decide +kernel)
theorem v_21:vA 21:=vS v_20 (by decide +kernel)
theorem v_22:vA 22:=vS v_21 (by decide +kernel)
theorem v_23:vA 23:=vS v_22 (by decide +kernel)
theorem v_24:vA 24:=vS v_23 (by decide +kernel)
theorem v_25:vA 25:=vS v_24 (by decide +kernel)
theorem v_26:vA 26:=vS v_25 (by decide +kernel)
theorem v_27:vA 27:=vS v_26 (by decide +kernel)
theorem v_28:vA 28:=vS v_27 (by decide +kernel)
theorem v_29:vA 29:=vS v_28 (by decide +kernel)
theorem v_30:vA 30:=vS v_29 (by decide +kernel)
theorem v_31:vA 31:=vS v_30 (by decide +kernel)
theorem v_32:vA 32:=vS v_31 (by decide +kernel)
theorem v_33:vA 33:=vS v_32 (by decide +kernel)
theorem v_34:vA 34:=vS v_33 (by decide +kernel)
theorem v_35:vA 35:=vS v_34 (by decide +kernel)
theorem v_36:vA 36:=vS v_35 (by decide +kernel)
theorem v_37:vA 37:=vS v_36 (by decide +kernel)
theorem v_38:vA 38:=vS v_37 (by decide +kernel)
theorem v_39:vA 39:=vS v_38 (by decide +kernel)
theorem v_40:vA 40:=vS v_39 (by decide +kernel)
theorem v_41:vA 41:=vS v_40 (by decide +kernel)
theorem v_42:vA 42:=vS v_41 (by decide +kernel)
theorem v_43:vA 43:=vS v_42 (by decide +kernel)
theorem v_44:vA 44:=vS v_43 (by decide +kernel)
theorem v_45:vA 45:=vS v_44 (by decide +kernel)
theorem v_46:vA 46:=vS v_45 (by decide +kernel)
theorem v_47:vA 47:=vS v_46 (by decide +kernel)
theorem v_48:vA 48:=vS v_47 (by decide +kernel)
theorem v_49:vA 49:=vS v_48 (by decide +kernel)
theorem v_50:vA 50:=vS v_49 (by decide +kernel)
theorem v_51:vA 51:=vS v_50 (by decide +kernel)
theorem v_52:vA 52:=vS v_51 (by decide +kernel)
theorem v_53:vA 53:=vS v_52 (by decide +kernel)
theorem v_54:vA 54:=vS v_53 (by decide +kernel)
theorem v_55:vA 55:=vS v_54 (by decide +kernel)
theorem v_56:vA 56:=vS v_55 (by decide +kernel)
theorem v_57:vA 57:=vS v_56 (by decide +kernel)
theorem v_58:vA 58:=vS v_57 (by decide +kernel)
theorem v_59:vA 59:=vS v_58 (by decide +kernel)
theorem v_60:vA 60:=vS v_59 (by decide +kernel)
theorem v_61:vA 61:=vS v_60 (by decide +kernel)
theorem v_62:vA 62:=vS v_61 (by decide +kernel)
theorem v_63:vA 63:=vS v_62 (by decide +kernel)
theorem v_64:vA 64:=vS v_63 (by decide +kernel)
theorem v_65:vA 65:=vS v_64 (by decide +kernel)
theorem v_66:vA 66:=vS v_65 (by decide +kernel)
theorem v_67:vA 67:=vS v_66 (by decide +kernel)
theorem v_68:vA 68:=vS v_67 (by decide +kernel)
theorem v_69:vA 69:=vS v_68 (by decide +kernel)
theorem v_70:vA 70:=vS v_69 (by decide +kernel)
theorem v_71:vA 71:=vS v_70 (by decide +kernel)
theorem v_72:vA 72:=vS v_71 (by decide +kernel)
theorem v_73:vA 73:=vS v_72 (by decide +kernel)
theorem v_74:vA 74:=vS v_73 (by decide +kernel)
theorem v_75:vA 75:=vS v_74 (by decide +kernel)
theorem v_76:vA 76:=vS v_75 (by decide +kernel)
theorem v_77:vA 77:=vS v_76 (by decide +kernel)
theorem v_78:vA 78:=vS v_77 (by decide +kernel)
theorem v_79:vA 79:=vS v_78 (by decide +kernel)
theorem v_80:vA 80:=vS v_79 (by decide +kernel)
theorem v_81:vA 81:=vS v_80 (by decide +kernel)
theorem v_82:vA 82:=vS v_81 (by decide +kernel)
theorem v_83:vA 83:=vS v_82 (by decide +kernel)
theorem v_84:vA 84:=vS v_83 (by decide +kernel)
theorem v_85:vA 85:=vS v_84 (by decide +kernel)
theorem v_86:vA 86:=vS v_85 (by decide +kernel)
theorem v_87:vA 87:=vS v_86 (by decide +kernel)
theorem v_88:vA 88:=vS v_87 (by decide +kernel)
theorem v_89:vA 89:=vS v_88 (by decide +kernel)
theorem v_90:vA 90:=vS v_89 (by decide +kernel)
theorem v_91:vA 91:=vS v_90 (by decide +kernel)
theorem v_92:vA 92:=vS v_91 (by decide +kernel)
theorem v_93:vA 93:=vS v_92 (by decide +kernel)
theorem v_94:vA 94:=vS v_93 (by decide +kernel)
theorem v_95:vA 95:=vS v_94 (by decide +kernel)
theorem v_96:vA 96:=vS v_95 (by decide +kernel)
theorem v_97:vA 97:=vS v_96 (by decide +kernel)
theorem v_98:vA 98:=vS v_97 (by decide +kernel)
theorem v_99:vA 99:=vS v_98 (by decide +kernel)
theorem v_100:vA 100:=vS v_99 (by decide +kernel)
theorem v_101:vA 101:=vS v_100 (by decide +kernel)
theorem v_102:vA 102:=vS v_101 (by decide +kernel)
theorem v_103:vA 103:=vS v_102 (by decide +kernel)
theorem v_104:vA 104:=vS v_103 (by decide +kernel)
theorem v_105:vA 105:=vS v_104 (by decide +kernel)
theorem v_106:vA 106:=vS v_105 (by decide +kernel)
theorem v_107:vA 107:=vS v_106 (by decide +kernel)
theorem v_108:vA 108:=vS v_107 (by decide +kernel)
theorem v_109:vA 109:=vS v_108 (by decide +kernel)
theorem v_110:vA 110:=vS v_109 (by decide +kernel)
theorem v_111:vA 111:=vS v_110 (by decide +kernel)
theorem v_112:vA 112:=vS v_111 (by decide +kernel)
theorem v_113:vA 113:=vS v_112 (by decide +kernel)
theorem v_114:vA 114:=vS v_113 (by decide +kernel)
theorem v_115:vA 115:=vS v_114 (by decide +kernel)
theorem v_116:vA 116:=vS v_115 (by decide +kernel)
theorem v_117:vA 117:=vS v_116 (by decide +kernel)
theorem v_118:vA 118:=vS v_117 (by decide +kernel)
theorem v_119:vA 119:=vS v_118 (by decide +kernel)
theorem v_120:vA 120:=vS v_119 (by decide +kernel)
theorem v_121:vA 121:=vS v_120 (by decide +kernel)
theorem v_122:vA 122:=vS v_121 (by decide +kernel)
theorem v_123:vA 123:=vS v_122 (by decide +kernel)
theorem v_124:vA 124:=vS v_123 (by decide +kernel)
theorem v_125:vA 125:=vS v_124 (by decide +kernel)
theorem v_126:vA 126:=vS v_125 (by decide +kernel)
theorem v_127:vA 127:=vS v_126 (by decide +kernel)
theorem v_128:vA 128:=vS v_127 (by decide +kernel)
theorem rows_ok (i:Nat)(hi:i<4096):vck (1048576*i)=true:=by
 have:=vrg_ok (v_128 (i / 32) (by omega)) (i%32) (Nat.mod_lt _ (by decide))
 rw[show 32*(i / 32)+i%32=i by omega]at this
 exact this
end Lw
namespace L2
open PySem PySem.Spec PyProof.Rows
noncomputable abbrev Key:=Sum Int Str
noncomputable def keyIs:Key→Value→Bool
 |.inl k,v=>Value.isInt k v
 |.inr x,v=>Value.isStrOf x v
noncomputable def keyH (w:World):Key→Int
 |.inl k=>hashInt k
 |.inr x=>hashStr w x
theorem keyIs_shape:∀{k:Key}{v:Value},keyIs k v=true→(∃i t,k=Sum.inl i∧v=Value.int i t)∨(∃x t,k=Sum.inr x∧v=Value.str x t)
 |.inl i,v,h=>by
  obtain⟨t,e⟩:=Value.isInt_shape (k:=i) (v:=v) h
  exact .inl ⟨i,t,rfl,e⟩
 |.inr x,v,h=>by
  obtain⟨t,e⟩:=Value.isStrOf_shape (x:=x) (v:=v) h
  exact .inr ⟨x,t,rfl,e⟩
theorem keyIs_int (i:Int)(t:Tok):keyIs (.inl i) (.int i t)=true:=by simp[keyIs,Value.isInt]
theorem keyIs_str (x:Str)(t:Tok):keyIs (.inr x) (.str x t)=true:=by simp[keyIs,Value.isStrOf]
theorem key_ll (a b:Int):decide ((Sum.inl a:Key)=Sum.inl b)=(a==b):=by
 by_cases e:a=b
 ·subst e;simp
 ·have h:¬(Sum.inl a:Key)=Sum.inl b:=fun q=>e (Sum.inl.inj q)
  rw[decide_eq_false h]
  exact(beq_eq_false_iff_ne.mpr e).symm
theorem key_rr (a b:Str):decide ((Sum.inr a:Key)=Sum.inr b)=decide (a=b):=by
 by_cases e:a=b
 ·subst e;simp
 ·have h:¬(Sum.inr a:Key)=Sum.inr b:=fun q=>e (Sum.inr.inj q)
  rw[decide_eq_false h,decide_eq_false e]
theorem key_lr (a:Int)(b:Str):decide ((Sum.inl a:Key)=Sum.inr b)=false:=decide_eq_false (fun q=>nomatch q)
theorem key_rl (a:Str)(b:Int):decide ((Sum.inr a:Key)=Sum.inl b)=false:=decide_eq_false (fun q=>nomatch q)
noncomputable def mixKind (prog:Program)(w:World):PySem.KeyKind prog w Key where
 is:=keyIs
 hash:=keyH w
 inj:=fun v a b ha hb=>by
  rcases keyIs_shape ha with ⟨i,t,rfl,rfl⟩|⟨x,t,rfl,rfl⟩
  ·rcases keyIs_shape hb with ⟨j,u,rfl,e⟩|⟨y,u,rfl,e⟩
   ·injection e with e1 _;rw[e1]
   ·exact nomatch e
  ·rcases keyIs_shape hb with ⟨j,u,rfl,e⟩|⟨y,u,rfl,e⟩
   ·exact nomatch e
   ·injection e with e1 _;rw[e1]
 byValue:=fun k v h=>by
  rcases keyIs_shape h with ⟨i,t,rfl,rfl⟩|⟨x,t,rfl,rfl⟩<;>rfl
 pyHash:=fun hv h=>by
  rcases keyIs_shape hv with ⟨i,t,rfl,rfl⟩|⟨x,t,rfl,rfl⟩
  ·exact wpAny_pyHash_int h
  ·exact wpAny_pyHash_str h
 eqBool:=fun hu hv h=>by
  rcases keyIs_shape hu with ⟨i,t,rfl,rfl⟩|⟨x,t,rfl,rfl⟩
  ·rcases keyIs_shape hv with ⟨j,u,rfl,rfl⟩|⟨y,u,rfl,rfl⟩
   ·rw[key_ll]at h;exact wpAny_eqBool_int h
   ·rw[key_lr]at h;exact SeqAt.EqAt.int_str i t y u _ _ _ _ h
  ·rcases keyIs_shape hv with ⟨j,u,rfl,rfl⟩|⟨y,u,rfl,rfl⟩
   ·rw[key_rl]at h;exact SeqAt.EqAt.str_int x t j u _ _ _ _ h
   ·rw[key_rr]at h;exact wpAny_eqBool_str h
 «strs»:=fun k x t v h=>by
  rcases keyIs_shape h with ⟨i,u,rfl,e⟩|⟨y,u,rfl,e⟩
  ·exact nomatch e
  ·injection e with e1 _
   subst e1
   cases v<;>rfl
theorem mixKind_int (prog:Program)(w:World)(i:Int)(t:Tok):(mixKind prog w).is (.inl i) (.int i t)=true:=keyIs_int i t
theorem mixKind_str (prog:Program)(w:World)(x:Str)(t:Tok):(mixKind prog w).is (.inr x) (.str x t)=true:=keyIs_str x t
end L2
namespace L2
open PySem PySem.Spec PyProof.Rows
inductive V where
 | non|bl (b:Bool)|int (i:Int)|str (x:Str)|byt (b:Array UInt8)|flt (b:UInt64)|ref (a:Addr)|ty (n:String)
 deriving DecidableEq
noncomputable def RelV:V→Value→Prop
 |.non,u=>u=Value.none
 |.bl b,u=>u=Value.bool b
 |.int i,u=>∃t,u=Value.int i t
 |.str x,u=>∃t,u=Value.str x t
 |.byt b,u=>∃t,u=Value.bytes b t
 |.flt b,u=>∃t,u=Value.float b t
 |.ref a,u=>u=Value.ref a
 |.ty n,u=>u=Value.type n
abbrev Vals:List V→List Value→Prop:=Paired RelV
theorem Vals.length {xs:List V}{us:List Value}(r:Vals xs us):xs.length=us.length:=Paired.length r
theorem Vals.get:∀{xs:List V}{us:List Value}{i:Nat}{x:V},Vals xs us→xs[i]?=some x→∃u,us[i]?=some u∧RelV x u
 | _,_,_,_,.nil,e=>by simp at e
 | _,_,0,_,.cons r _,e=>by simp at e;subst e;exact⟨_,rfl,r⟩
 | _,_,i+1,x,.cons _ t,e=>by
  obtain⟨u,h1,h2⟩:=Vals.get (i:=i) (x:=x) t (by simpa using e)
  exact⟨u,by simpa using h1,h2⟩
theorem Vals.set {x:V}{u:Value}(r:RelV x u):∀{xs:List V}{us:List Value}(i:Nat),Vals xs us→Vals (xs.set i x) (us.set i u)
 | _,_,_,.nil=>.nil
 | _,_,0,.cons _ t=>.cons r t
 | _,_,i+1,.cons q t=>.cons q (Vals.set r i t)
theorem Vals.append:∀{xs ys:List V}{us ws:List Value},Vals xs us→Vals ys ws→Vals (xs++ys) (us++ws)
 | _,_,_,_,.nil,s=>s
 | _,_,_,_,.cons r t,s=>.cons r (Vals.append t s)
theorem Vals.take:∀{xs:List V}{us:List Value}(n:Nat),Vals xs us→Vals (xs.take n) (us.take n)
 | _,_,0,_=>.nil
 | _,_,_+1,.nil=>.nil
 | _,_,n+1,.cons r t=>.cons r (Vals.take n t)
noncomputable def RelO:Option V→Option Value→Prop
 | some v,some u=>RelV v u
 | none,none=>True
 | _,_=>False
def KV {κ:Type}:List (κ×V)→List (κ×Value)→Prop:=Paired fun(p:κ×V)(q:κ×Value)=>p.1=q.1∧RelV p.2 q.2
noncomputable def kV:Key→V
 |.inl i=>.int i
 |.inr x=>.str x
inductive HO where
  | lst (xs:List V)
  | tup (xs:List V)
  | dK (kvs:List (Key×V))|dT (kvs:List (List Key×V))
  | set (S:Int→Bool)(n:Nat)
  | ins (C dx:Addr)(fs:List (Str×V))
  | own (x:Addr)
  | xd (fs:List (Str×V))
  | met (f x:Addr)
  | rng (lo hi:Int)
  | frz (o:Obj)(u:HO)
  | tbl (ps:Array Value)
  | ext (φ:Heap→Prop)
noncomputable abbrev Hp:=Addr→Option HO
noncomputable def upd (H:Hp)(a:Addr)(o:HO):Hp:=fun b=>if b=a then some o else H b
theorem upd_same {H:Hp}{a:Addr}{o:HO}:upd H a o a=some o:=by unfold upd;rw[if_pos rfl]
theorem upd_ne {H:Hp}{a b:Addr}{o:HO}(h:b≠a):upd H a o b=H b:=by unfold upd;rw[if_neg h]
theorem ne_of {H:Hp}{a b:Addr}{o u:HO}(h:H a=some o)(h':H b=some u)(d:o≠u):a≠b:=by
 intro e;subst e;rw[h]at h';exact d (Option.some.inj h')
theorem ne_of_none {H:Hp}{a b:Addr}{o:HO}(h:H a=some o)(h':H b=none):a≠b:=by
 intro e;subst e;rw[h]at h';cases h'
section
variable (P:Program)(w:World)
noncomputable def ObjOk (H:Hp)(h:Heap)(a:Addr):HO→Prop
 |.lst xs=>xs.length≤sizeLine∧∃(its:List Value)(n:Nat),Vals xs its∧h.get? a=some { cls:=.type "list",data:=.seq its.toArray n }
 |.tup xs=>xs.length≤sizeLine∧∃its:List Value,Vals xs its∧IsTup h a its.toArray∧∃ob,h.get? a=some ob∧ob.dict=none
 |.dK kvs=>kvs.length≤sizeLine∧(a==sysModules)=false∧∃vs,KV kvs vs∧h.DictOf (mixKind P w) a vs
 |.dT kvs=>kvs.length≤sizeLine∧(a==sysModules)=false∧∃xs:List (List Key×Addr×Value),
   Paired (fun(p:List Key×V)(q:List Key×Addr×Value)=>p.1=q.1∧H q.2.1=some (.tup (p.1.map kV))∧RelV p.2 q.2.2) kvs xs ∧
   ∃o es ep,h.get? a=some o∧o.ExactDict∧o.data=.dict es ep∧es.toList=xs.map (entryOfKey (tupleKind (mixKind P w)))∧(xs.map (·.1)).Nodup
 |.set S n=>h.SetOf (intKind P w) a S n
 |.ins C dx fs=>H dx=some (.own a)∧fs.length≤1000∧dx≠a∧h.get? a=some (PySem.W.instObj C dx) ∧
   ∃mA,h.Ns1 dx mA∧(∀f,RelO (fs.lookup f) (mA f))∧PySem.Within mA (fs.map (·.1))
 |.own _=>∃o,h.get? a=some o
 |.xd fs=>∃mA,h.Ns1 a mA∧∀f,RelO (fs.lookup f) (mA f)
 |.rng lo hi=>∃t u v,h.get? a=some { cls:=.type "range",data:=.fields #[.int lo t,.int hi u,.int 1 v] }
 |.frz o u=>h.get? a=some o∧ObjOk H h a u
 |.tbl ps=>h.get? a=some { cls:=.none,data:=.fields ps }
 |.met f x=>h.get? a=some (PySem.W.methodObj (.ref f) (.ref x))
 |.ext φ=>φ h∧(∃o,h.get? a=some o)∧∀h1 h2:Heap,φ h1→(∀o,h1.get? a=some o→h2.get? a=some o)→φ h2
def HOk (H:Hp)(h:Heap):Prop:=∀a o,H a=some o→ObjOk P w H h a o
end
section
variable {P:Program}{w:World}{H H':Hp}{h h':Heap}{a:Addr}{o:HO}
theorem ObjOk.lt (x:ObjOk P w H h a o):a<h.objs.size:=by
 cases o with
 | lst xs=>obtain⟨_,_,_,_,e⟩:=x;exact Heap.lt_size e
 | tup xs=>obtain⟨_,_,_,p,_⟩:=x;exact p.lt
 | dK kvs=>obtain⟨_,_,_,_,o,_,_,e,_⟩:=x;exact Heap.lt_size e
 | dT kvs=>obtain⟨_,_,_,_,o,_,_,e,_⟩:=x;exact Heap.lt_size e
 | set S n=>obtain⟨o,_,_,_,e,_⟩:=x;exact Heap.lt_size e
 | ins C dx fs=>obtain⟨_,_,_,e,_⟩:=x;exact Heap.lt_size e
 | own y=>obtain⟨_,e⟩:=x;exact Heap.lt_size e
 | xd fs=>obtain⟨_,⟨_,_,_,e,_⟩,_⟩:=x;exact Heap.lt_size e
 | rng lo hi=>obtain⟨_,_,_,e⟩:=x;exact Heap.lt_size e
 | frz ob u=>obtain⟨e,_⟩:=x;exact Heap.lt_size e
 | tbl ps=>exact Heap.lt_size (show h.get? a=some _ from x)
 | met f y=>exact Heap.lt_size (show h.get? a=some _ from x)
 | ext φ=>obtain⟨_,⟨_,e⟩,_⟩:=x;exact Heap.lt_size e
theorem Paired.mapP {α β:Type}{F G:α→β→Prop}:∀{l₁:List α}{l₂:List β},Paired F l₁ l₂→(∀a b,F a b→G a b)→Paired G l₁ l₂
 | _,_,.nil,_=>.nil
 | _,_,.cons r t,f=>.cons (f _ _ r) (Paired.mapP t f)
theorem ObjOk.stay (x:ObjOk P w H h a o)(k:∀b u,(b=a∨H b=some (.own a))→h.get? b=some u→h'.get? b=some u)
  (ho:∀b,H b=some (.own a)→H' b=some (.own a))(ht:∀b xs,H b=some (.tup xs)→H' b=some (.tup xs)):ObjOk P w H' h' a o:=by
 induction o with
 | lst xs=>obtain⟨z,its,n,r,e⟩:=x;exact⟨z,its,n,r,k _ _ (.inl rfl) e⟩
 | tup xs=>obtain⟨z,its,r,⟨ob,e,c⟩,od,ed,dd⟩:=x;exact⟨z,its,r,⟨ob,k _ _ (.inl rfl) e,c⟩,od,k _ _ (.inl rfl) ed,dd⟩
 | dK kvs=>obtain⟨z,y,vs,r,ob,es,ep,e,c⟩:=x;exact⟨z,y,vs,r,ob,es,ep,k _ _ (.inl rfl) e,c⟩
 | dT kvs =>
  obtain⟨z,y,xs,r,ob,es,ep,e,c⟩:=x
  exact⟨z,y,xs,Paired.mapP r fun p q z=>⟨z.1,ht _ _ z.2.1,z.2.2⟩,ob,es,ep,k _ _ (.inl rfl) e,c⟩
 | set S n=>obtain⟨ob,es,ep,t,e,c⟩:=x;exact⟨ob,es,ep,t,k _ _ (.inl rfl) e,c⟩
 | ins C dx fs =>
  obtain⟨d,z,ne,e,mA,⟨od,es,ep,e2,c⟩,r⟩:=x
  exact⟨ho _ d,z,ne,k _ _ (.inl rfl) e,mA,⟨od,es,ep,k _ _ (.inr d) e2,c⟩,r⟩
 | own y=>obtain⟨ob,e⟩:=x;exact⟨ob,k _ _ (.inl rfl) e⟩
 | xd fs=>obtain⟨mA,⟨od,es,ep,e,c⟩,r⟩:=x;exact⟨mA,⟨od,es,ep,k _ _ (.inl rfl) e,c⟩,r⟩
 | rng lo hi=>obtain⟨t,u,v,e⟩:=x;exact⟨t,u,v,k _ _ (.inl rfl) e⟩
 | frz ob u ih=>obtain⟨e,q⟩:=x;exact⟨k _ _ (.inl rfl) e,ih q⟩
 | tbl ps =>
  have e:h.get? a=some { cls:=.none,data:=.fields ps }:=x
  show h'.get? a=some { cls:=.none,data:=.fields ps }
  exact k a _ (.inl rfl) e
 | met f y =>
  have e:h.get? a=some (PySem.W.methodObj (.ref f) (.ref y)):=x
  show h'.get? a=some (PySem.W.methodObj (.ref f) (.ref y))
  exact k a _ (.inl rfl) e
 | ext φ=>obtain⟨p,⟨o,e⟩,st⟩:=x;exact⟨st _ _ p fun o q=>k _ _ (.inl rfl) q,⟨o,k _ _ (.inl rfl) e⟩,st⟩
theorem HOk.lt (x:HOk P w H h)(e:H a=some o):a<h.objs.size:=(x a o e).lt
theorem HOk.fresh (x:HOk P w H h)(e:h.objs.size≤a):H a=none:=by
 cases q:H a with
 | none=>rfl
 | some u=>exact absurd (Nat.lt_of_lt_of_le (x.lt q) e) (Nat.lt_irrefl _)
theorem HOk.kept (x:HOk P w H h)(k:∀b u,h.get? b=some u→h'.get? b=some u):HOk P w H h':=fun a o e =>
 (x a o e).stay (fun b u _ q=>k b u q) (fun _ q=>q) fun _ _ q=>q
theorem HOk.laid (x:HOk P w H h)(k:∀b u,h.get? b=some u→h'.get? b=some u)(hp:h.objs.size≤a)(new:ObjOk P w (upd H a o) h' a o):HOk P w (upd H a o) h':=fun b u e=>by
 have hn:=x.fresh hp
 by_cases hb:b=a
 ·subst hb;rw[upd_same]at e;cases e;exact new
 ·rw[upd_ne hb]at e
  exact(x b u e).stay (fun c v _ q=>k c v q) (fun c q=>by rw[upd_ne (ne_of_none q hn)];exact q) fun c xs q=>by rw[upd_ne (ne_of_none q hn)];exact q
end
def Rd (H:Hp)(a:Addr)(u:HO):Prop:=H a=some u∨∃o,H a=some (.frz o u)
theorem Rd.of {H:Hp}{a:Addr}{u:HO}(h:H a=some u):Rd H a u:=.inl h
theorem Rd.ok {P:Program}{w:World}{H:Hp}{h:Heap}{a:Addr}{u:HO}(r:Rd H a u)(x:HOk P w H h):ObjOk P w H h a u:=by
 rcases r with r|⟨o,r⟩
 ·exact x a u r
 ·obtain⟨_,q⟩:=x a _ r
  exact q
noncomputable def Mut:Option HO→Prop
 | some (.lst _)=>True
 | some (.dK _)=>True
 | some (.dT _)=>True
 | some (.set _ _)=>True
 | some (.ins _ _ _)=>True
 | some (.ext _)=>True
 | _=>False
section
variable {P:Program}{w:World}{H:Hp}{h h':Heap}{x e:Addr}{o':HO}
theorem HOk.write (ok:HOk P w H h)(mu:Mut (H x))(he:e=x∨H e=some (.own x))(k:∀b u,b≠e→h.get? b=some u→h'.get? b=some u)(heo:∃u,h'.get? e=some u)
  (new:ObjOk P w (upd H x o') h' x o'):HOk P w (upd H x o') h':=fun b u q=>by
 have nown:∀c y,H c=some (.own y)→c≠x:=fun c y r z=>by subst z;rw[r]at mu;exact mu
 have ntup:∀c xs,H c=some (.tup xs)→c≠x:=fun c xs r z=>by subst z;rw[r]at mu;exact mu
 by_cases hb:b=x
 ·subst hb;rw[upd_same]at q;cases q;exact new
 ·rw[upd_ne hb]at q
  by_cases hbe:b=e
  ·have q':H b=some (.own x):=by
    rcases he with z|z
    ·exact absurd (hbe.trans z) hb
    ·rw[hbe];exact z
   rw[q]at q';cases q'
   obtain⟨v,hv⟩:=heo
   exact⟨v,by rw[hbe];exact hv⟩
  ·refine(ok b u q).stay (fun c v hc r=>k c v ?_ r) (fun c r=>by rw[upd_ne (nown c b r)];exact r) fun c xs r=>by rw[upd_ne (ntup c xs r)];exact r
   rcases hc with rfl|hc
   ·exact hbe
   ·rintro rfl
    rcases he with z|z
    ·exact nown c b hc z
    ·rw[hc]at z;cases z;exact hb rfl
end
structure Un (fs ex:List Addr)(H H':Hp)(h h':Heap):Prop where
 keep:∀b o,h.get? b=some o→H b=none→b∉fs→b∉ex→h'.get? b=some o
 slot:∀b o,h.get? b=some o→H b=none→b∈fs→b∉ex→∃sl,h'.get? b=some { o with slots:=sl }
 free:∀b o,h.get? b=some o→H b=none→b∉ex→H' b=none
 there:∀b o,h.get? b=some o→b∉ex→∃o',h'.get? b=some o'
 tups:∀b xs,H b=some (.tup xs)→H' b=some (.tup xs)
 frzs:∀b o u,H b=some (.frz o u)→H' b=some (.frz o u)
 tbls:∀b ps,H b=some (.tbl ps)→∃more,H' b=some (.tbl (ps++more))
section
variable {fs fs' ex ex':List Addr}{H H1 H2:Hp}{h h1 h2 h':Heap}{a x e:Addr}{o:HO}
theorem Un.any (u:Un fs ex H H1 h h1){b:Addr}{ob:Obj}(q:h.get? b=some ob)(n:H b=none)(hx:b∉ex):∃sl,h1.get? b=some { ob with slots:=sl }:=by
 by_cases hb:b∈fs
 ·exact u.slot b ob q n hb hx
 ·exact⟨ob.slots,u.keep b ob q n hb hx⟩
theorem Un.trans (a:Un fs ex H H1 h h1)(b:Un fs ex H1 H2 h1 h2):Un fs ex H H2 h h2 where
 keep:=fun c ob q n hc hx=>b.keep c ob (a.keep c ob q n hc hx) (a.free c ob q n hx) hc hx
 slot:=fun c ob q n hc hx=>by
  obtain⟨sl,e1⟩:=a.slot c ob q n hc hx
  obtain⟨sl',e2⟩:=b.slot c _ e1 (a.free c ob q n hx) hc hx
  exact⟨sl',e2⟩
 free:=fun c ob q n hx=>by
  obtain⟨o',e1⟩:=a.there c ob q hx
  exact b.free c o' e1 (a.free c ob q n hx) hx
 there:=fun c ob q hx=>by
  obtain⟨o',e1⟩:=a.there c ob q hx
  exact b.there c o' e1 hx
 tups:=fun c xs q=>b.tups c xs (a.tups c xs q)
 frzs:=fun c ob xs q=>b.frzs c ob xs (a.frzs c ob xs q)
 tbls:=fun c ps q=>by
  obtain⟨m1,e1⟩:=a.tbls c ps q
  obtain⟨m2,e2⟩:=b.tbls c _ e1
  exact⟨m1++m2,by rw[e2,Array.append_assoc]⟩
theorem Un.kept (k:∀b u,h.get? b=some u→h'.get? b=some u):Un fs ex H H h h' :=
 ⟨fun b ob q _ _ _=>k b ob q,fun b ob q _ _ _=>⟨ob.slots,k b ob q⟩,fun _ _ _ n _=>n,fun b ob q _=>⟨ob,k b ob q⟩,fun _ _ q=>q,fun _ _ _ q=>q,fun _ ps q=>⟨#[],by rw[q];simp⟩⟩
theorem Un.refl:Un fs ex H H h h:=Un.kept fun _ _ q=>q
theorem Un.laid (k:∀b u,h.get? b=some u→h'.get? b=some u)(hp:h.objs.size≤a)(hn:H a=none):Un fs ex H (upd H a o) h h' where
 keep:=fun b u q _ _ _=>k b u q
 slot:=fun b u q _ _ _=>⟨u.slots,k b u q⟩
 free:=fun b u q n _=>by rw[upd_ne (Nat.ne_of_lt (Nat.lt_of_lt_of_le (Heap.lt_size q) hp))];exact n
 there:=fun b u q _=>⟨u,k b u q⟩
 tups:=fun b xs q=>by rw[upd_ne (ne_of_none q hn)];exact q
 frzs:=fun b u xs q=>by rw[upd_ne (ne_of_none q hn)];exact q
 tbls:=fun b ps q=>⟨#[],by rw[upd_ne (ne_of_none q hn),q];simp⟩
theorem Un.write (mu:Mut (H x))(he:e=x∨H e=some (.own x))(k:∀b u,b≠e→h.get? b=some u→h'.get? b=some u)(heo:∃u,h'.get? e=some u):Un fs ex H (upd H x o) h h':=by
 have hx:∀b,H b=none→b≠x:=fun b n z=>by subst z;rw[n]at mu;exact mu
 have hb:∀b,H b=none→b≠e:=fun b n z=>by
  subst z
  rcases he with r|r
  ·exact hx b n r
  ·rw[n]at r;cases r
 have hm:∀b u,H b=some u→¬Mut (some u)→b≠x:=fun b u q nm z=>by subst z;rw[q]at mu;exact nm mu
 refine⟨fun b u q n _ _=>k b u (hb b n) q,fun b u q n _ _=>⟨u.slots,k b u (hb b n) q⟩,fun b u q n _=>by rw[upd_ne (hx b n)];exact n,fun b u q _=>?_,
  fun b xs q=>by rw[upd_ne (hm b _ q fun z=>z)];exact q,fun b u xs q=>by rw[upd_ne (hm b _ q fun z=>z)];exact q,fun b ps q=>⟨#[],by rw[upd_ne (hm b _ q fun z=>z),q];simp⟩⟩
 by_cases hbe:b=e
 ·subst hbe;exact heo
 ·exact⟨u,k b u hbe q⟩
theorem Un.mono (u:Un fs ex H H1 h h1)(hs:∀b∈fs,b∈fs')(hx:∀b∈ex,b∈ex'):Un fs' ex' H H1 h h1 :=
 ⟨fun b ob q n hb he=>u.keep b ob q n (fun z=>hb (hs b z)) fun z=>he (hx b z),fun _ _ q n _ he=>u.any q n fun z=>he (hx _ z),fun b ob q n he=>u.free b ob q n fun z=>he (hx b z),fun b ob q he=>u.there b ob q fun z=>he (hx b z),u.tups,u.frzs,u.tbls⟩
end
noncomputable def trk (h:Heap)(H:Hp):List Addr:=(List.range h.objs.size).filter fun a=>(H a).isSome
noncomputable def hidT (h:Heap)(H:Hp):Heap:=PySem.W.hideAll h (trk h H)
theorem hidT_size (h:Heap)(H:Hp):(hidT h H).objs.size=h.objs.size:=PySem.W.hideAll_size _ _
theorem hidT_get {h:Heap}{H:Hp}{b:Addr}{o:Obj}(e:h.get? b=some o)(n:H b=none):(hidT h H).get? b=some o :=
 PySem.W.hideAll_get _ e fun hm=>by
  have q:(H b).isSome=true:=(List.mem_filter.mp hm).2
  rw[n]at q;simp at q
theorem of_hidT {h:Heap}{H:Hp}{b:Addr}{o:Obj}(e:(hidT h H).get? b=some o):h.get? b=some o∧H b=none:=by
 have e':h.get? b=some o:=PySem.W.of_hideAll (trk h H) e
 refine⟨e',?_⟩
 cases q:H b with
 | none=>rfl
 | some x =>
  have hm:b∈trk h H:=List.mem_filter.mpr ⟨List.mem_range.mpr (Heap.lt_size e'),by simp[q]⟩
  have z:(hidT h H).get? b=none:=PySem.W.hideAll_none (trk h H) hm
  rw[z]at e;cases e
end L2
namespace L2
open PySem PySem.Spec PyProof.Rows
structure Mod (K:PySem.W.Frag)(mg:Str→Option Value)(base:Heap):Prop where
 kin:K.In base
 glob:base.Ns mainGlobals mg
 blt:∃mb,base.Ns builtinsNs mb∧∀x:Str,x≠"__name__"→mb x=bootBuiltins x
 nolimit:base.NoLimit
structure Cx where
 prog:Program
 w:World
 K:PySem.W.Frag
 mg:Str→Option Value
 base:Heap
 A:Around
 N:List Str
 s₀:Shared
 H₀:Hp
 env:Env
 outer:List Env
 stack:List Env
 ex:List Addr
 fn:Str→Bool
 calm:Bool
 pn:List (Addr×Obj)
 xe:Value→Shared→Prop
noncomputable def frs (l:List Env):List Addr:=l.filterMap (·.frame)
noncomputable abbrev Cx.fs (X:Cx):List Addr:=frs X.outer
def Vis (sc:Scope)(x:Str):Prop:=sc.names.lookup x=some .local∨sc.names.lookup x=some .cell∨sc.names.lookup x=some .free
def Loc (sc:Scope)(x:Str):Prop:=sc.names.lookup x=some .local∨sc.names.lookup x=some .cell
def Look (env:Env)(h:Heap)(m:Str→Option Value)(x:Str)(u:Value):Prop :=
 (env.kindOf x=some .local∧m x=some u)∨((env.kindOf x=some .cell∨env.kindOf x=some .free)∧∃c,env.cells.lookup x=some c∧h.IsCell c (some u))
structure Cx.Ok (X:Cx):Prop where
 mod:Mod X.K X.mg X.base
 kind:X.env.scope.kind=.function
 glob:X.env.globals=mainGlobals
 blt:X.env.builtins=builtinsNs
 above:X.s₀.heap.objs.size≤X.env.locals
 inj:∀x y c,X.env.cells.lookup x=some c→X.env.cells.lookup y=some c→x=y
 has:∀x,(X.env.kindOf x=some .cell∨X.env.kindOf x=some .free)→∃c,X.env.cells.lookup x=some c
 cab:∀x c,X.fn x=true→X.env.cells.lookup x=some c→X.s₀.heap.objs.size≤c
 hd:X.calm=true→X.A.handled=none
 frames:X.A.frames=some X.stack
 stk:X.stack=X.outer∨(X.stack=X.env::X.outer∧X.env.frame=some X.env.locals)
 exf:∀b∈X.ex,b≠X.env.locals∧∀x c,X.env.cells.lookup x=some c→c≠b
 bs:∀b o,X.base.get? b=some o→X.s₀.heap.get? b=some o∧X.H₀ b=none
 bsz:X.base.objs.size≤X.s₀.heap.objs.size
 noex:∀b o,X.base.get? b=some o→b∉X.ex
 exfs:∀b∈X.ex,b∉X.fs
 funs:X.s₀.heap.FunFrames X.base X.outer
 frf:∀b∈X.fs,X.H₀ b=none
structure Inv (X:Cx)(pins:List (Addr×Obj))(σ:List (Option V))(H:Hp)(s:Shared):Prop where
 ok:X.Ok
 os:s.os=X.s₀.os
 bare:AllBare s.gens
 base:Un X.fs X.ex X.H₀ H X.s₀.heap s.heap
 loc:∃m,s.heap.Ns X.env.locals m∧∀(i:Nat)(x:Str)(v:V),X.N[i]?=some x→σ[i]?=some (some v)→Vis X.env.scope x→∃u,RelV v u∧Look X.env s.heap m x u
 cell:∀x c,X.env.cells.lookup x=some c→∃v,s.heap.IsCell c v
 free:H X.env.locals=none
 freeC:∀x c,X.env.cells.lookup x=some c→H c=none
 pin:∀p∈X.pn++pins,s.heap.get? p.1=some p.2∧H p.1=none∧p.1≠X.env.locals∧p.1∉X.fs∧∀v,p.2.data≠.cell v
 hok:HOk X.prog X.w H s.heap
 len:σ.length=X.N.length
section
variable {X:Cx}{pins:List (Addr×Obj)}{σ:List (Option V)}{H H':Hp}{s:Shared}{h':Heap}
theorem Cx.Ok.nofr (ok:X.Ok){b:Addr}{o:Obj}(e:X.base.get? b=some o):b∉X.fs:=fun hb=>by
 have:=(ok.funs.mem hb).1
 rw[e]at this;cases this
theorem Inv.bs (I:Inv X pins σ H s):∀b o,X.base.get? b=some o→s.heap.get? b=some o∧H b=none:=fun b o e =>
 ⟨I.base.keep b o (I.ok.bs b o e).1 (I.ok.bs b o e).2 (I.ok.nofr e) (I.ok.noex b o e),I.base.free b o (I.ok.bs b o e).1 (I.ok.bs b o e).2 (I.ok.noex b o e)⟩
theorem Inv.bk (I:Inv X pins σ H s):∀b o,X.base.get? b=some o→s.heap.get? b=some o:=fun b o e=>(I.bs b o e).1
theorem Inv.mod (I:Inv X pins σ H s):Mod X.K X.mg X.base:=I.ok.mod
theorem Inv.kIn (I:Inv X pins σ H s):X.K.In s.heap:=I.ok.mod.kin.keeps I.bk
theorem Inv.lt (I:Inv X pins σ H s):X.env.locals<s.heap.objs.size:=let ⟨_,hn,_⟩:=I.loc;hn.lt
theorem Inv.sz (I:Inv X pins σ H s):X.s₀.heap.objs.size≤s.heap.objs.size:=Nat.le_trans I.ok.above (Nat.le_of_lt I.lt)
theorem Inv.nofs (I:Inv X pins σ H s){a:Addr}(h:s.heap.objs.size≤a):a∉X.fs:=fun hb=>by
 obtain⟨_,o,ho,_⟩:=I.ok.funs.mem hb
 exact absurd (Nat.lt_of_lt_of_le (Heap.lt_size ho) (Nat.le_trans I.sz h)) (Nat.lt_irrefl _)
theorem Inv.cne (I:Inv X pins σ H s):∀x c,X.env.cells.lookup x=some c→c≠X.env.locals:=fun x c e z=>by
 obtain⟨v,o,ho,hd⟩:=I.cell x c e
 obtain⟨m,⟨o',es,ep,ho',hd',_⟩,_⟩:=I.loc
 rw[z,ho']at ho;cases ho;rw[hd']at hd;cases hd
theorem Inv.funs (I:Inv X pins σ H s):s.heap.FunFrames X.base X.outer:=by
 have all:∀(l:List Env),(∀b∈frs l,b∈X.fs)→X.s₀.heap.FunFrames X.base l→s.heap.FunFrames X.base l:=by
  intro l
  induction l with
  | nil=>intro _ _;trivial
  | cons env r ih =>
   intro hs hl
   obtain⟨hk,⟨L,o,hf,hn,ho,hd⟩,hr⟩:=hl
   have hL:L∈X.fs:=hs L (by unfold frs;rw[List.filterMap_cons,hf];exact List.mem_cons_self)
   obtain⟨sl,e⟩:=I.base.slot L o ho (I.ok.frf L hL) hL fun z=>I.ok.exfs L z hL
   exact⟨hk,⟨L,_,hf,hn,e,hd⟩,ih (fun b hb=>hs b (by unfold frs;rw[List.filterMap_cons,hf];exact List.mem_cons_of_mem _ hb)) hr⟩
 exact all X.outer (fun _ hb=>hb) I.ok.funs
theorem Inv.stack (I:Inv X pins σ H s):s.heap.FunFrames X.base X.stack:=by
 rcases I.ok.stk with e|⟨e,hf⟩
 ·rw[e];exact I.funs
 ·rw[e]
  obtain⟨m,hn,_⟩:=I.loc
  refine .cons (by rw[I.ok.kind];decide) hf hn ?_ I.funs
  exact Heap.get?_none_of_le (Nat.le_trans I.ok.bsz I.ok.above)
theorem Inv.stkSub (I:Inv X pins σ H s):∀b∈frs X.stack,b∈X.env.locals::X.fs:=fun b hb=>by
 rcases I.ok.stk with e|⟨e,hf⟩
 ·rw[e]at hb;exact List.mem_cons_of_mem _ hb
 ·rw[e]at hb
  unfold frs at hb
  rw[List.filterMap_cons,hf]at hb
  exact hb
theorem Inv.stkFree (I:Inv X pins σ H s):∀b∈frs X.stack,H b=none:=fun b hb=>by
 rcases List.mem_cons.mp (I.stkSub b hb)with e|hb
 ·rw[e];exact I.free
 ·obtain⟨_,o,ho,_⟩:=I.ok.funs.mem hb
  exact I.base.free b o ho (I.ok.frf b hb) fun z=>I.ok.exfs b z hb
theorem Inv.step {g':Array GenState}{t':Nat}{d':Drawn}{ch:List Addr}(I:Inv X pins σ H s)
  (hch:∀b∈ch,(b∈X.ex∨X.s₀.heap.objs.size≤b)∧b≠X.env.locals∧(∀x c,X.env.cells.lookup x=some c→c≠b)∧∀p∈X.pn++pins,p.1≠b)
  (keep:∀b o,b≠X.env.locals→b∉X.fs→b∉ch→s.heap.get? b=some o→H b=none→h'.get? b=some o)
  (slot:∀b o,b≠X.env.locals→b∈X.fs→b∉ch→s.heap.get? b=some o→H b=none→∃sl,h'.get? b=some { o with slots:=sl })(free:∀b o,b∉ch→s.heap.get? b=some o→H b=none→H' b=none)
  (there:∀b o,b∉ch→s.heap.get? b=some o→∃o',h'.get? b=some o')
  (tups:∀b xs,H b=some (.tup xs)→H' b=some (.tup xs))(frzs:∀b o u,H b=some (.frz o u)→H' b=some (.frz o u))(tbls:∀b ps,H b=some (.tbl ps)→∃more,H' b=some (.tbl (ps++more)))
  (ns:∀m,s.heap.Ns X.env.locals m→h'.Ns X.env.locals m)(hok:HOk X.prog X.w H' h')(hg:AllBare g') :
  Inv X pins σ H' { s with heap:=h',gens:=g',drawn:=d',toks:=t' }:=by
 have neL:∀b o,X.s₀.heap.get? b=some o→b≠X.env.locals:=fun b o e=>Nat.ne_of_lt (Nat.lt_of_lt_of_le (Heap.lt_size e) I.ok.above)
 have neC:∀b o,X.s₀.heap.get? b=some o→b∉X.ex→b∉ch:=fun b o e hx hb=>by
  rcases(hch b hb).1 with z|z
  ·exact hx z
  ·exact absurd (Nat.lt_of_lt_of_le (Heap.lt_size e) z) (Nat.lt_irrefl _)
 have cellK:∀x c,X.env.cells.lookup x=some c→∀v,s.heap.IsCell c v→h'.IsCell c v:=fun x c e v ⟨o,ho,hd⟩=>by
  have nch:c∉ch:=fun z=>(hch c z).2.2.1 x c e rfl
  by_cases hc:c∈X.fs
  ·obtain⟨sl,q⟩:=slot c o (I.cne x c e) hc nch ho (I.freeC x c e)
   exact⟨_,q,hd⟩
  ·exact⟨o,keep c o (I.cne x c e) hc nch ho (I.freeC x c e),hd⟩
 refine⟨I.ok,I.os,hg,⟨fun b o e n hb hx=>?_,fun b o e n hb hx=>?_,fun b o e n hx=>?_,fun b o e hx=>?_,fun b xs e=>tups b xs (I.base.tups b xs e),fun b o xs e=>frzs b o xs (I.base.frzs b o xs e),fun b ps e=>?_⟩,?_,fun x c e=>?_,?_,fun x c e=>?_,fun p hp=>?_,hok,I.len⟩
 ·exact keep b o (neL b o e) hb (neC b o e hx) (I.base.keep b o e n hb hx) (I.base.free b o e n hx)
 ·obtain⟨sl,e1⟩:=I.base.slot b o e n hb hx
  obtain⟨sl',e2⟩:=slot b _ (neL b o e) hb (neC b o e hx) e1 (I.base.free b o e n hx)
  exact⟨sl',e2⟩
 ·obtain⟨o',e1⟩:=I.base.there b o e hx
  exact free b o' (neC b o e hx) e1 (I.base.free b o e n hx)
 ·obtain⟨o',e1⟩:=I.base.there b o e hx
  exact there b o' (neC b o e hx) e1
 ·obtain⟨m1,e1⟩:=I.base.tbls b ps e
  obtain⟨m2,e2⟩:=tbls b _ e1
  exact⟨m1++m2,by rw[e2,Array.append_assoc]⟩
 ·obtain⟨m,hn,hl⟩:=I.loc
  refine⟨m,ns m hn,fun i x v e1 e2 e3=>?_⟩
  obtain⟨u,r,l⟩:=hl i x v e1 e2 e3
  refine⟨u,r,?_⟩
  rcases l with l|⟨k,c,e,z⟩
  ·exact .inl l
  ·exact .inr ⟨k,c,e,cellK x c e _ z⟩
 ·obtain⟨v,z⟩:=I.cell x c e
  exact⟨v,cellK x c e v z⟩
 ·obtain⟨m,⟨o,_,_,ho,_⟩,_⟩:=I.loc
  exact free _ o (fun z=>(hch _ z).2.1 rfl) ho I.free
 ·obtain⟨v,o,ho,hd⟩:=I.cell x c e
  exact free c o (fun z=>(hch c z).2.2.1 x c e rfl) ho (I.freeC x c e)
 ·obtain⟨e,n,ne,nf,d⟩:=I.pin p hp
  have nch:p.1∉ch:=fun z=>(hch p.1 z).2.2.2 p hp rfl
  exact⟨keep p.1 p.2 ne nf nch e n,free p.1 p.2 nch e n,ne,nf,d⟩
theorem Inv.un {t':Nat}(I:Inv X pins σ H s)(u:Un X.fs [] H H' s.heap h')(hok:HOk X.prog X.w H' h'):Inv X pins σ H' { s with heap:=h',toks:=t' }:=by
 obtain⟨m,⟨o,es,ep,ho,r⟩,_⟩:=id I.loc
 obtain⟨sl,hL⟩:=u.any ho I.free (by simp)
 exact I.step (g':=s.gens) (d':=s.drawn) (ch:=[]) (fun _ z=>nomatch z) (fun b o _ hb _ e n=>u.keep b o e n hb (by simp)) (fun b o _ hb _ e n=>u.slot b o e n hb (by simp)) (fun b o _ e n=>u.free b o e n (by simp)) (fun b o _ e=>u.there b o e (by simp)) u.tups u.frzs u.tbls (fun m' hm=>by
  obtain⟨o',es',ep',ho',r'⟩:=hm
  rw[ho]at ho';cases ho'
  exact⟨_,es',ep',hL,r'⟩) hok I.bare
theorem Inv.call {g':Array GenState}{t':Nat}{d':Drawn}{ch:List Addr}(I:Inv X pins σ H s)(u:Un (frs X.stack) ch H H' s.heap h')(hok:HOk X.prog X.w H' h')(hg:AllBare g')
  (hch:∀b∈ch,(b∈X.ex∨X.s₀.heap.objs.size≤b)∧b≠X.env.locals∧(∀x c,X.env.cells.lookup x=some c→c≠b)∧∀p∈X.pn++pins,p.1≠b) :
  Inv X pins σ H' { s with heap:=h',gens:=g',drawn:=d',toks:=t' }:=by
 obtain⟨m,⟨o,es,ep,ho,r⟩,_⟩:=id I.loc
 obtain⟨sl,hL⟩:=u.any ho I.free fun z=>(hch _ z).2.1 rfl
 exact I.step (ch:=ch) hch (fun b o hL hb hc e n=>u.keep b o e n (fun z=>(List.mem_cons.mp (I.stkSub b z)).elim hL hb) hc) (fun b o _ _ hc e n=>u.any e n hc) (fun b o hc e n=>u.free b o e n hc) (fun b o hc e=>u.there b o e hc) u.tups u.frzs u.tbls (fun m' hm=>by
  obtain⟨o',es',ep',ho',r'⟩:=hm
  rw[ho]at ho';cases ho'
  exact⟨_,es',ep',hL,r'⟩) hok hg
theorem Inv.turned {t':Nat}{it:Addr}(I:Inv X pins σ H s)(k:∀b o,b≠it→s.heap.get? b=some o→h'.get? b=some o)(hn:H it=none)(hL:it≠X.env.locals)
  (h1:it∈X.ex∨X.s₀.heap.objs.size≤it)(h2:∀x c,X.env.cells.lookup x=some c→c≠it)(h3:∀p∈X.pn++pins,p.1≠it):Inv X pins σ H { s with heap:=h',toks:=t' }:=by
 have nit:∀b u,H b=some u→b≠it:=fun b u e z=>by rw[z,hn]at e;cases e
 refine I.step (g':=s.gens) (d':=s.drawn) (ch:=[it]) (fun b hb=>?_) (fun b o _ _ hc e _=>k b o (fun z=>hc (by simp[z])) e) (fun b o _ _ hc e _=>⟨o.slots,k b o (fun z=>hc (by simp[z])) e⟩) (fun _ _ _ _ n=>n)
  (fun b o hc e=>⟨o,k b o (fun z=>hc (by simp[z])) e⟩) (fun _ _ e=>e) (fun _ _ _ e=>e) (fun b ps e=>⟨#[],by rw[e];simp⟩) (fun m hm=>?_) (fun b u e=>?_) I.bare
 ·have e:b=it:=by simpa using hb
  subst e
  exact⟨h1,hL,h2,h3⟩
 ·obtain⟨o,es,ep,ho,r⟩:=hm
  exact⟨o,es,ep,k _ o (Ne.symm hL) ho,r⟩
 ·refine(I.hok b u e).stay (fun c v hc q=>k c v ?_ q) (fun _ q=>q) fun _ _ q=>q
  rcases hc with z|z
  ·rw[z];exact nit b u e
  ·exact nit c _ z
theorem Inv.tok (I:Inv X pins σ H s)(t:Nat):Inv X pins σ H { s with toks:=t }:=I.un (h':=s.heap) (t':=t) Un.refl I.hok
theorem Inv.kept {t':Nat}(I:Inv X pins σ H s)(k:∀b u,s.heap.get? b=some u→h'.get? b=some u):Inv X pins σ H { s with heap:=h',toks:=t' }:=I.un (Un.kept k) (I.hok.kept k)
theorem Inv.laid {a:Addr}{o:HO}{t':Nat}(I:Inv X pins σ H s)(k:∀b u,s.heap.get? b=some u→h'.get? b=some u)(hp:s.heap.objs.size≤a)(new:ObjOk X.prog X.w (upd H a o) h' a o) :
  Inv X pins σ (upd H a o) { s with heap:=h',toks:=t' }:=I.un (Un.laid k hp (I.hok.fresh hp)) (I.hok.laid k hp new)
theorem Inv.write {x e:Addr}{o:HO}{t':Nat}(I:Inv X pins σ H s)(mu:Mut (H x))(he:e=x∨H e=some (.own x))(k:∀b u,b≠e→s.heap.get? b=some u→h'.get? b=some u)(heo:∃u,h'.get? e=some u)
  (new:ObjOk X.prog X.w (upd H x o) h' x o):Inv X pins σ (upd H x o) { s with heap:=h',toks:=t' }:=I.un (Un.write mu he k heo) (I.hok.write mu he k heo new)
theorem Inv.pins_of {pins':List (Addr×Obj)}(I:Inv X pins σ H s)(h:∀p∈pins',s.heap.get? p.1=some p.2∧H p.1=none∧p.1≠X.env.locals∧p.1∉X.fs∧∀v,p.2.data≠.cell v):Inv X pins' σ H s :=
 ⟨I.ok,I.os,I.bare,I.base,I.loc,I.cell,I.free,I.freeC,fun p hp=>(List.mem_append.mp hp).elim (fun z=>I.pin p (List.mem_append_left _ z)) (h p),I.hok,I.len⟩
theorem nodup_ix {N:List Str}(hN:N.Nodup){i j:Nat}{x:Str}(a:N[i]?=some x)(b:N[j]?=some x):i=j:=by
 obtain⟨h1,e1⟩:=List.getElem?_eq_some_iff.mp a
 obtain⟨h2,e2⟩:=List.getElem?_eq_some_iff.mp b
 exact(List.getElem_inj hN).mp (e1.trans e2.symm)
theorem store_ok2 {M : Model} {A : Around} {E : Value→Shared→Prop} {i : Nat} {x : Str} {v : V} {u : Value} {Q : Unit→Shared→Prop} (I : Inv X pins σ H s) (hN : X.N.Nodup) (hi : X.N[i]? = some x) (hx : Loc X.env.scope x) (r : RelV v u)
    (h : ∀ s',Inv X pins (σ.set i (some v)) H s'→(∃ a,Heap.SameBut a s.heap s'.heap∧(a = X.env.locals ∨ X.env.cells.lookup x = some a))→Q () s') (hf : X.fn x = true ∨ X.env.scope.names.lookup x = some .local:=by first | exact .inl rfl | exact .inr rfl | assumption) : wpAny M A (storeName X.env x u) Q E s:=by
  obtain ⟨m,hn,hl⟩:=id I.loc
  have hcls : (X.env.scope.kind == .class || (X.env.scope.kind == .module && X.env.locals != X.env.globals)) = false:=by rw [I.ok.kind]; rfl
  have hiσ : i < σ.length:=by rw [I.len]; exact (List.getElem?_eq_some_iff.mp hi).1
  have cne:=I.cne
  have tracked : ∀ {a : Addr} {h' : Heap},(∃ o,s.heap.get? a = some o∧H a = none)→Heap.SameBut a s.heap h'→HOk X.prog X.w H h':=fun {a h'} ha hs b ob e=>by
    obtain ⟨_,_,hfree⟩:=ha
    refine (I.hok b ob e).stay (fun c w' hc q=>(hs.2 c ?_).trans q) (fun _ q=>q) fun _ _ q=>q
    rintro rfl
    rcases hc with rfl | hc
    · rw [hfree] at e; cases e
    · rw [hfree] at hc; cases hc
  rcases hx with hk | hk
  · refine wpAny_storeName_local hk hn (fun h' hn' hs => ?_) hcls
    obtain ⟨oL,_,_,hoL,_⟩:=id hn
    refine h _ ⟨I.ok,I.os,I.bare,⟨fun b o e n hb hx => ?_,fun b o e n hb hx => ?_,I.base.free,fun b o e hx => ?_,I.base.tups,I.base.frzs,I.base.tbls⟩,⟨_,hn',fun j y v' e1 e2 e3 => ?_⟩,fun y c e => ?_,I.free,I.freeC,fun p hp => ?_,tracked ⟨oL,hoL,I.free⟩ hs,by simpa using I.len⟩ ⟨_,hs, .inl rfl⟩
    · exact (hs.2 b (Nat.ne_of_lt (Nat.lt_of_lt_of_le (Heap.lt_size e) I.ok.above))).trans (I.base.keep b o e n hb hx)
    · obtain ⟨sl,e1⟩:=I.base.slot b o e n hb hx
      exact ⟨sl,(hs.2 b (Nat.ne_of_lt (Nat.lt_of_lt_of_le (Heap.lt_size e) I.ok.above))).trans e1⟩
    · obtain ⟨o',e1⟩:=I.base.there b o e hx
      exact ⟨o',(hs.2 b (Nat.ne_of_lt (Nat.lt_of_lt_of_le (Heap.lt_size e) I.ok.above))).trans e1⟩
    · by_cases hj : j = i
      · subst hj
        rw [hi] at e1; cases e1
        rw [List.getElem?_set_self hiσ] at e2
        cases e2
        exact ⟨u,r, .inl ⟨hk,by simp⟩⟩
      · rw [List.getElem?_set_ne (Ne.symm hj)] at e2
        obtain ⟨u',r',q⟩:=hl j y v' e1 e2 e3
        refine ⟨u',r', ?_⟩
        rcases q with ⟨k,e⟩ | ⟨k,c,e,z⟩
        · refine .inl ⟨k, ?_⟩
          have : y≠x:=fun e=>hj (nodup_ix hN e1 (e ▸ hi))
          simp [this,e]
        · exact .inr ⟨k,c,e,z.sameBut hs (cne y c e)⟩
    · obtain ⟨w',z⟩:=I.cell y c e
      exact ⟨w',z.sameBut hs (cne y c e)⟩
    · obtain ⟨e,n,ne,nf,d⟩:=I.pin p hp
      exact ⟨(hs.2 p.1 ne).trans e,n,ne,nf,d⟩
  · have hfn : X.fn x = true:=by
      rcases hf with z | z
      · exact z
      · rw [z] at hk; cases hk
    obtain ⟨c,hc⟩:=I.ok.has x (.inl hk)
    obtain ⟨w',z⟩:=I.cell x c hc
    refine wpAny_storeName_cell I.ok.kind hk hc z (fun h' hc' hs => ?_)
    obtain ⟨oc,hoc,hocd⟩:=id z
    refine h { s with heap:=h' } ⟨I.ok,I.os,I.bare,⟨fun b o e n hb hx => ?_,fun b o e n hb hx => ?_,I.base.free,fun b o e hx => ?_,I.base.tups,I.base.frzs,I.base.tbls⟩,⟨m,hn.sameBut hs (Ne.symm (cne x c hc)),fun j y v' e1 e2 e3 => ?_⟩,fun y c' e => ?_,I.free,I.freeC,fun p hp => ?_,tracked ⟨oc,hoc,I.freeC x c hc⟩ hs,by simpa using I.len⟩ ⟨c,hs, .inr hc⟩
    · exact (hs.2 b (Nat.ne_of_lt (Nat.lt_of_lt_of_le (Heap.lt_size e) (I.ok.cab x c hfn hc)))).trans (I.base.keep b o e n hb hx)
    · obtain ⟨sl,e1⟩:=I.base.slot b o e n hb hx
      exact ⟨sl,(hs.2 b (Nat.ne_of_lt (Nat.lt_of_lt_of_le (Heap.lt_size e) (I.ok.cab x c hfn hc)))).trans e1⟩
    · obtain ⟨o',e1⟩:=I.base.there b o e hx
      exact ⟨o',(hs.2 b (Nat.ne_of_lt (Nat.lt_of_lt_of_le (Heap.lt_size e) (I.ok.cab x c hfn hc)))).trans e1⟩
    · by_cases hj : j = i
      · subst hj
        rw [hi] at e1; cases e1
        rw [List.getElem?_set_self hiσ] at e2
        cases e2
        exact ⟨u,r, .inr ⟨.inl hk,c,hc,hc'⟩⟩
      · rw [List.getElem?_set_ne (Ne.symm hj)] at e2
        obtain ⟨u',r',q⟩:=hl j y v' e1 e2 e3
        refine ⟨u',r', ?_⟩
        rcases q with q | ⟨k,c',e,z'⟩
        · exact .inl q
        · refine .inr ⟨k,c',e,z'.sameBut hs ?_⟩
          rintro rfl
          exact hj (nodup_ix hN e1 (I.ok.inj _ _ _ e hc ▸ hi))
    · by_cases hcc : c' = c
      · subst hcc; exact ⟨_,hc'⟩
      · obtain ⟨w2,z2⟩:=I.cell y c' e
        exact ⟨w2,z2.sameBut hs hcc⟩
    · obtain ⟨e,n,ne,nf,d⟩:=I.pin p hp
      refine ⟨(hs.2 p.1 ?_).trans e,n,ne,nf,d⟩
      intro q
      rw [q,hoc] at e
      have q' : oc = p.2:=Option.some.inj e
      exact d w' (by rw [← q']; exact hocd)
theorem store_ok {M:Model}{A:Around}{E:Value→Shared→Prop}{i:Nat}{x:Str}{v:V}{u:Value}{Q:Unit→Shared→Prop}(I:Inv X pins σ H s)(hN:X.N.Nodup)(hi:X.N[i]?=some x)(hx:Loc X.env.scope x)(r:RelV v u)
  (h:∀s',Inv X pins (σ.set i (some v)) H s'→Q () s')(hf:X.fn x=true∨X.env.scope.names.lookup x=some .local:=by first|exact .inl rfl|exact .inr rfl|assumption):wpAny M A (storeName X.env x u) Q E s :=
 store_ok2 I hN hi hx r (fun s' I' _=>h s' I') hf
theorem Inv.call' {s':Shared}{ch:List Addr}(I:Inv X pins σ H s)(ho:s'.os=s.os)(u:Un (frs X.stack) ch H H' s.heap s'.heap)(hok:HOk X.prog X.w H' s'.heap)(hg:AllBare s'.gens)
  (hch:∀b∈ch,(b∈X.ex∨X.s₀.heap.objs.size≤b)∧b≠X.env.locals∧(∀x c,X.env.cells.lookup x=some c→c≠b)∧∀p∈X.pn++pins,p.1≠b):Inv X pins σ H' s':=by
 obtain⟨h',g',d',t',o'⟩:=s'
 have e:o'=s.os:=ho
 subst e
 exact I.call (g':=g') (t':=t') (d':=d') u hok hg hch
end
noncomputable abbrev XK:=Value→Option Addr→Hp→Prop
noncomputable abbrev St:=List (Option V)
noncomputable abbrev VK:=V→Hp→Prop
noncomputable abbrev TE:=St→Hp→VK→Prop
noncomputable abbrev TT:=St→Hp→(Bool→Hp→Prop)→Prop
noncomputable abbrev TA:=St→Hp→(List V→Hp→Prop)→Prop
structure Ends where
 nx:St→Hp→Prop
 rt:VK
 bk:St→Hp→Prop:=fun _ _=>False
 ct:St→Hp→Prop:=fun _ _=>False
noncomputable abbrev TS:=Ends→St→Hp→Prop
def EP (X:Cx)(pins:List (Addr×Obj))(σ:St)(Q:VK)(u:Value)(s':Shared):Prop:=∃v H',Inv X pins σ H' s'∧RelV v u∧Q v H'
def TP (X:Cx)(pins:List (Addr×Obj))(σ:St)(Q:Bool→Hp→Prop)(b:Bool)(s':Shared):Prop:=∃H',Inv X pins σ H' s'∧Q b H'
def AP (X:Cx)(pins:List (Addr×Obj))(σ:St)(Q:List V→Hp→Prop)(us:List Value)(s':Shared):Prop:=∃vs H',Inv X pins σ H' s'∧Vals vs us∧Q vs H'
def SP (X:Cx)(pins:List (Addr×Obj))(D:Ends)(f:Flow)(s':Shared):Prop :=
 match f with
 |.next=>∃σ' H',Inv X pins σ' H' s'∧D.nx σ' H'
 |.brk=>∃σ' H',Inv X pins σ' H' s'∧D.bk σ' H'
 |.cont=>∃σ' H',Inv X pins σ' H' s'∧D.ct σ' H'
 |.ret u=>∃v σ' H',Inv X pins σ' H' s'∧RelV v u∧D.rt v H'
def PE (X:Cx)(e:Expr)(t:TE):Prop :=
 ∀(pins:List (Addr×Obj))(s:Shared)(σ:St)(H:Hp)(Q:VK),Inv X pins σ H s→t σ H Q→wpAny (model X.prog X.w) X.A (eval e X.env) (EP X pins σ Q) X.xe s
def PT (X:Cx)(e:Expr)(t:TT):Prop :=
 ∀(pins:List (Addr×Obj))(s:Shared)(σ:St)(H:Hp)(Q:Bool→Hp→Prop),Inv X pins σ H s→t σ H Q→wpAny (model X.prog X.w) X.A (isTrue e X.env (eval e X.env)) (TP X pins σ Q) X.xe s
def PW (X:Cx)(e:Expr)(t:TT):Prop :=
 ∀(whole:Sem Value)(pins:List (Addr×Obj))(s:Shared)(σ:St)(H:Hp)(Q:Bool→Hp→Prop),Inv X pins σ H s→t σ H Q→wpAny (model X.prog X.w) X.A (isTrue e X.env whole) (TP X pins σ Q) X.xe s
theorem PW.pt {X:Cx}{e:Expr}{t:TT}(h:PW X e t):PT X e t:=h _
def PA (X:Cx)(es:List Expr)(t:TA):Prop :=
 ∀(pos:Pos)(pins:List (Addr×Obj))(s:Shared)(σ:St)(H:Hp)(Q:List V→Hp→Prop),Inv X pins σ H s→t σ H Q→wpAny (model X.prog X.w) X.A (spliced (backTo pos (starEach es X.env))) (AP X pins σ Q) X.xe s
def PS (X:Cx)(st:Stmt)(t:TS):Prop :=
 ∀(pins:List (Addr×Obj))(s:Shared)(σ:St)(H:Hp)(D:Ends),Inv X pins σ H s→t D σ H→wpAny (model X.prog X.w) X.A (exec st X.env) (SP X pins D) X.xe s
def PSs (X:Cx)(st:List Stmt)(t:TS):Prop :=
 ∀(pins:List (Addr×Obj))(s:Shared)(σ:St)(H:Hp)(D:Ends),Inv X pins σ H s→t D σ H→wpAny (model X.prog X.w) X.A (execs st X.env) (SP X pins D) X.xe s
theorem thn {α:Type}{t:Sem α}{Q Q':α→Shared→Prop}{M:Model}{A:Around}{E:Value→Shared→Prop}{s:Shared}(h:wpAny M A t Q E s)(hQ:∀a s,Q a s→Q' a s):wpAny M A t Q' E s:=wpAny_mono h hQ fun _ _ x=>x
end L2
namespace L2
open PySem PySem.Spec PyProof.Rows
section
variable {X:Cx}
def tVar (i:Nat):TE:=fun σ H Q=>∃v,σ[i]?=some (some v)∧Q v H
def tC (v:V):TE:=fun _ H Q=>Q v H
theorem pe_var {i:Nat}{x:Str}{pos:Pos}(hN:X.N[i]?=some x)(hv:Vis X.env.scope x)(hd:(x==("__debug__" : Str))=false:=by decide)(hcd:(x==("__classdict__" : Str))=false:=by decide):PE X (.Name x pos) (tVar i):=by
 intro pins s σ H Q I h
 obtain⟨v,e,h⟩:=h
 obtain⟨m,hn,hl⟩:=I.loc
 obtain⟨u,r,l⟩:=hl i x v hN e hv
 have fin:EP X pins σ Q u s:=⟨v,H,I,r,h⟩
 rcases l with ⟨hk,hm⟩|⟨hk,c,hc,hcell⟩
 ·exact wpAny_Name (wpAny_loadName_local I.ok.kind hk hn hm fin) hd
 ·rcases hk with hk|hk
  ·exact wpAny_Name (wpAny_loadName_cell I.ok.kind hk hc hcell fin) hd
  ·exact wpAny_Name (wpAny_loadName_free I.ok.kind hk hc hcell fin hcd) hd
theorem pe_int {i j pos}:PE X (.Constant (.int i) j pos) (tC (.int i)):=fun _ _ _ H _ I h=>wpAny_Constant_int ⟨.int i,H,I.tok _,⟨_,rfl⟩,h⟩
theorem pe_bl {b j pos}:PE X (.Constant (.bool b) j pos) (tC (.bl b)):=fun _ _ _ H _ I h=>Constant_bool ⟨.bl b,H,I,rfl,h⟩
theorem pe_non {j pos}:PE X (.Constant .none j pos) (tC .non):=fun _ _ _ H _ I h=>Constant_none ⟨.non,H,I,rfl,h⟩
theorem pe_str {x j pos}:PE X (.Constant (.str x) j pos) (tC (.str x)):=fun _ _ _ H _ I h=>Calls.Constant_str ⟨.str x,H,I.tok _,⟨_,rfl⟩,h⟩
def Gl (X:Cx)(x:Str):Prop:=X.env.kindOf x=some .globalImplicit
theorem ld_glob {E:Value→Shared→Prop}{pins:List (Addr×Obj)}{s:Shared}{σ:St}{H:Hp}{x:Str}{u:Value}{pos:Pos}{Q:Value→Shared→Prop}(I:Inv X pins σ H s)(hg:Gl X x)(hm:X.mg x=some u)(h:Q u s)
  (hd:(x==("__debug__" : Str))=false:=by decide):wpAny (model X.prog X.w) X.A (eval (.Name x pos) X.env) Q E s :=
 Calls.Name_function_global I.ok.kind hg (Calls.loadGlobal_global (by rw[I.ok.glob];exact I.mod.glob.keeps I.bk) hm h) hd
theorem ld_blt {E:Value→Shared→Prop}{pins:List (Addr×Obj)}{s:Shared}{σ:St}{H:Hp}{x:Str}{u:Value}{pos:Pos}{Q:Value→Shared→Prop}(I:Inv X pins σ H s)(hg:Gl X x)(hm:X.mg x=none)(hv:bootBuiltins x=some u)(h:Q u s)
  (hn:x≠"__name__":=by decide)(hd:(x==("__debug__" : Str))=false:=by decide):wpAny (model X.prog X.w) X.A (eval (.Name x pos) X.env) Q E s:=by
 obtain⟨mb,h1,h2⟩:=I.mod.blt
 exact Calls.Name_function_global I.ok.kind hg (Calls.loadGlobal_builtin (by rw[I.ok.glob];exact I.mod.glob.keeps I.bk) hm (by rw[I.ok.blt];exact h1.keeps I.bk) ((h2 x hn).trans hv) h) hd
theorem pe_glob {x:Str}{v:V}{u:Value}{pos:Pos}(hg:Gl X x)(hm:X.mg x=some u)(r:RelV v u)(hd:(x==("__debug__" : Str))=false:=by decide):PE X (.Name x pos) (tC v) :=
 fun _ _ _ H _ I h=>ld_glob I hg hm ⟨v,H,I,r,h⟩ hd
theorem pe_bltn {x:Str}{v:V}{u:Value}{pos:Pos}(hg:Gl X x)(hm:X.mg x=none)(hv:bootBuiltins x=some u)(r:RelV v u)(hn:x≠"__name__":=by decide)(hd:(x==("__debug__" : Str))=false:=by decide):PE X (.Name x pos) (tC v) :=
 fun _ _ _ H _ I h=>ld_blt I hg hm hv ⟨v,H,I,r,h⟩ hn hd
variable {a b:Expr}{ta tb:TE}{pos:Pos}
variable {tA tB':TT}{rest:List Expr}
def tOr (t u:TT):TT:=fun σ H Q=>t σ H fun c H1=>if c=true then Q true H1 else u σ H1 Q
def tNot (t:TT):TT:=fun σ H Q=>t σ H fun c H1=>Q (!c) H1
theorem pw_or1 (ha:PT X a tA):PW X (.BoolOp .Or [a] pos) tA:=by
 intro wh pins s σ H Q I h
 refine isTrue_or (thn (ha pins s σ H Q I h) fun c s1 e=>?_)
 cases c with
 | false=>exact isTrue_or_nil e
 | true=>exact e
theorem pw_or (ha:PT X a tA)(hb:PW X (.BoolOp .Or (b::rest) pos) tB'):PW X (.BoolOp .Or (a::b::rest) pos) (tOr tA tB'):=by
 intro wh pins s σ H Q I h
 refine isTrue_or (thn (ha pins s σ H _ I h) fun c s1 ⟨H1,I1,q1⟩=>?_)
 cases c with
 | true=>exact⟨H1,I1,q1⟩
 | false=>exact hb wh pins s1 σ H1 Q I1 q1
theorem pt_not (ha:PT X a tA):PT X (.UnaryOp .Not a pos) (tNot tA):=by
 intro pins s σ H Q I h
 exact isTrue_not (ha pins s σ H (fun c H1=>Q (!c) H1) I h)
def tAndV (ta tb:TE):TE:=fun σ H Q=>ta σ H fun x H1=>∃c,x=.bl c∧if c=true then tb σ H1 Q else Q (.bl false) H1
def tNotV (ta:TE):TE:=fun σ H Q=>ta σ H fun x H1=>∃c,x=.bl c∧Q (.bl (!c)) H1
theorem pe_one {op}{t:TE}(h:PE X a t):PE X (.BoolOp op [a] pos) t:=fun pins s σ H Q I hw=>BoolOp_one (h pins s σ H Q I hw)
theorem pe_and (ha:PE X a ta)(hb:PE X (.BoolOp .And (b::rest) pos) tb):PE X (.BoolOp .And (a::b::rest) pos) (tAndV ta tb):=by
 intro pins s σ H Q I h
 refine BoolOp_and (thn (ha pins s σ H _ I h) fun v s1 ⟨x,H1,I1,r1,q1⟩=>?_)
 obtain⟨c,rfl,q1⟩:=q1
 cases r1
 refine wpAny_truthy_bool ?_
 cases c with
 | true=>exact hb pins s1 σ H1 Q I1 q1
 | false=>exact⟨.bl false,H1,I1,rfl,q1⟩
theorem pe_not (ha:PE X a ta):PE X (.UnaryOp .Not a pos) (tNotV ta):=by
 intro pins s σ H Q I h
 refine UnaryOp_ (thn (ha pins s σ H _ I h) fun v s1 ⟨x,H1,I1,r1,q1⟩=>?_)
 obtain⟨c,rfl,q1⟩:=q1
 cases r1
 exact not_of (wpAny_truthy_bool ⟨.bl (!c),H1,I1,rfl,q1⟩)
def tIf (t:TT)(ta tb:TE):TE:=fun σ H Q=>t σ H fun c H1=>if c=true then ta σ H1 Q else tb σ H1 Q
theorem pe_ifExp {c:Expr}(hc:PT X c tA)(ha:PE X a ta)(hb:PE X b tb):PE X (.IfExp c a b pos) (tIf tA ta tb):=by
 intro pins s σ H Q I h
 refine wpAny_IfExp (thn (hc pins s σ H _ I h) fun d s1 ⟨H1,I1,q1⟩=>?_)
 cases d with
 | true=>exact ha pins s1 σ H1 Q I1 q1
 | false=>exact hb pins s1 σ H1 Q I1 q1
end
end L2
namespace L2
open PySem PySem.Spec PyProof.Rows
def SqL (K:PySem.W.Frag)(H:Hp)(a:Addr)(xs:List V):Prop :=
 Rd H a (.lst xs) ∨
  ∃(o:Obj)(its:Array Value)(n:Nat),K.lookup a=some o∧o.cls=.type "list"∧o.dict=none∧o.data=.seq its n∧its.size≤sizeLine∧Vals xs its.toList
def SqT (K:PySem.W.Frag)(H:Hp)(a:Addr)(xs:List V):Prop :=
 Rd H a (.tup xs) ∨
  ∃(o:Obj)(its:Array Value)(n:Nat),K.lookup a=some o∧o.cls=.type "tuple"∧o.data=.seq its n∧its.size≤sizeLine∧Vals xs its.toList
noncomputable def absV:Value→Option V
 |.none=>some .non
 |.bool b=>some (.bl b)
 |.int i _=>some (.int i)
 |.str x _=>some (.str x)
 |.bytes b _=>some (.byt b)
 |.float b _=>some (.flt b)
 |.ref a=>some (.ref a)
 |.type n=>some (.ty n)
 | _=>none
theorem RelV.abs {x:V}{u:Value}(r:RelV x u):absV u=some x:=by
 cases x with
 | non=>cases r;rfl
 | bl _=>cases r;rfl
 | int _=>obtain⟨t,rfl⟩:=r;rfl
 | str _=>obtain⟨t,rfl⟩:=r;rfl
 | byt _=>obtain⟨t,rfl⟩:=r;rfl
 | flt _=>obtain⟨t,rfl⟩:=r;rfl
 | ref _=>cases r;rfl
 | ty _=>cases r;rfl
theorem RelV.inj {x y:V}{u:Value}(r:RelV x u)(q:RelV y u):x=y:=Option.some.inj (r.abs.symm.trans q.abs)
theorem Vals.inj:∀{xs ys:List V}{us:List Value},Vals xs us→Vals ys us→xs=ys
 | _,_,_,.nil,.nil=>rfl
 | _,_,_,.cons r t,.cons r' t'=>by rw[r.inj r',Vals.inj t t']
section
variable {X:Cx}{pins:List (Addr×Obj)}{σ:St}{H:Hp}{s:Shared}{a:Addr}{xs ys:List V}
theorem SqL.of {K:PySem.W.Frag}(h:H a=some (.lst xs)):SqL K H a xs:=.inl (.inl h)
theorem SqT.of {K:PySem.W.Frag}(h:H a=some (.tup xs)):SqT K H a xs:=.inl (.inl h)
theorem Inv.list (I:Inv X pins σ H s)(h:SqL X.K H a xs):∃its:List Value,Vals xs its∧PlainL s.heap a its.toArray∧xs.length≤sizeLine:=by
 rcases h with h|⟨o,its,n,hk,hc,hd,hs,hz,r⟩
 ·obtain⟨z,its,n,r,e⟩:=h.ok I.hok
  exact⟨its,r,⟨_,n,e,rfl,rfl,rfl⟩,z⟩
 ·refine⟨its.toList,r,⟨o,n,I.kIn a o hk,hc,hd,by simpa using hs⟩,?_⟩
  have e:=r.length
  simp only[Array.length_toList]at e
  omega
theorem Inv.tuple (I:Inv X pins σ H s)(h:SqT X.K H a xs):∃its:List Value,Vals xs its∧IsTup s.heap a its.toArray∧xs.length≤sizeLine:=by
 rcases h with h|⟨o,its,n,hk,hc,hs,hz,r⟩
 ·obtain⟨z,its,r,p,_⟩:=h.ok I.hok
  exact⟨its,r,p,z⟩
 ·refine⟨its.toList,r,⟨o,I.kIn a o hk,hc,n,by simpa using hs⟩,?_⟩
  have e:=r.length
  simp only[Array.length_toList]at e
  omega
theorem Inv.list_inj (I:Inv X pins σ H s)(h:SqL X.K H a xs)(h':SqL X.K H a ys):xs=ys:=by
 obtain⟨its,r,⟨o,n,e,_,_,d⟩,_⟩:=I.list h
 obtain⟨its',r',⟨o',n',e',_,_,d'⟩,_⟩:=I.list h'
 rw[e]at e';cases e'
 rw[d]at d'
 injection d' with d1 _
 have:its=its':=by simpa using congrArg Array.toList d1
 subst this
 exact r.inj r'
theorem Inv.tuple_inj (I:Inv X pins σ H s)(h:SqT X.K H a xs)(h':SqT X.K H a ys):xs=ys:=by
 obtain⟨its,r,⟨o,e,_,n,d⟩,_⟩:=I.tuple h
 obtain⟨its',r',⟨o',e',_,n',d'⟩,_⟩:=I.tuple h'
 rw[e]at e';cases e'
 rw[d]at d'
 injection d' with d1 _
 have:its=its':=by simpa using congrArg Array.toList d1
 subst this
 exact r.inj r'
end
noncomputable abbrev Cx.wish (X:Cx)(E:Value→Shared→Prop):Cx:={ X with xe:=E }
noncomputable abbrev Cx.nox (X:Cx):Cx:=X.wish fun _ _=>False
theorem Cx.Ok.wish {X:Cx}(ok:X.Ok)(E:Value→Shared→Prop):(X.wish E).Ok :=
 ⟨ok.mod,ok.kind,ok.glob,ok.blt,ok.above,ok.inj,ok.has,ok.cab,ok.hd,ok.frames,ok.stk,ok.exf,ok.bs,ok.bsz,ok.noex,ok.exfs,ok.funs,ok.frf⟩
theorem Cx.Ok.unwish {X:Cx}{E:Value→Shared→Prop}(ok:(X.wish E).Ok):X.Ok :=
 ⟨ok.mod,ok.kind,ok.glob,ok.blt,ok.above,ok.inj,ok.has,ok.cab,ok.hd,ok.frames,ok.stk,ok.exf,ok.bs,ok.bsz,ok.noex,ok.exfs,ok.funs,ok.frf⟩
section
variable {X:Cx}{pins:List (Addr×Obj)}{σ:St}{H:Hp}{s:Shared}{E:Value→Shared→Prop}
theorem Inv.wish (I:Inv X pins σ H s)(E:Value→Shared→Prop):Inv (X.wish E) pins σ H s:=⟨I.ok.wish E,I.os,I.bare,I.base,I.loc,I.cell,I.free,I.freeC,I.pin,I.hok,I.len⟩
theorem Inv.unwish (I:Inv (X.wish E) pins σ H s):Inv X pins σ H s:=⟨I.ok.unwish,I.os,I.bare,I.base,I.loc,I.cell,I.free,I.freeC,I.pin,I.hok,I.len⟩
theorem SP.unwish {D:Ends}{f:Flow}{s':Shared}(h:SP (X.wish E) pins D f s'):SP X pins D f s':=by
 cases f with
 | next=>obtain⟨σ',H',I,q⟩:=h;exact⟨σ',H',I.unwish,q⟩
 | brk=>obtain⟨σ',H',I,q⟩:=h;exact⟨σ',H',I.unwish,q⟩
 | cont=>obtain⟨σ',H',I,q⟩:=h;exact⟨σ',H',I.unwish,q⟩
 | ret u=>obtain⟨v,σ',H',I,r,q⟩:=h;exact⟨v,σ',H',I.unwish,r,q⟩
theorem PSs.nox {st:List Stmt}{t:TS}(h:PSs X.nox st t):PSs X st t:=fun pins s σ H D I hw =>
 wpAny_mono (h pins s σ H D (I.wish _) hw) (fun _ _ q=>q.unwish) fun _ _ z=>False.elim z
end
section
variable {X:Cx}{st:Stmt}{rest:List Stmt}{t u:TS}{e:Expr}{te:TE}{pos:Pos}
def tNext:TS:=fun D σ H=>D.nx σ H
def tSeq (t u:TS):TS:=fun D σ H=>t { D with nx:=u D } σ H
theorem pss_nil:PSs X [] tNext:=fun _ _ σ H _ I h=>wpAny_execs_nil ⟨σ,H,I,h⟩
theorem pss_cons (h1:PS X st t)(h2:PSs X rest u):PSs X (st::rest) (tSeq t u):=by
 intro pins s σ H D I h
 refine wpAny_execs_cons (thn (h1 pins s σ H { D with nx:=u D } I h) fun f s1 q=>?_)
 cases f with
 | next =>
  obtain⟨σ',H',I',q⟩:=q
  exact h2 pins s1 σ' H' D I' q
 | ret v=>exact q
 | brk=>exact q
 | cont=>exact q
theorem pss_one (h1:PS X st t):PSs X [st] t:=by
 intro pins s σ H D I h
 refine wpAny_execs_cons (thn (h1 pins s σ H D I h) fun f s1 q=>?_)
 cases f with
 | next=>exact wpAny_execs_nil q
 | ret v=>exact q
 | brk=>exact q
 | cont=>exact q
theorem Inv.quiet {pins:List (Addr×Obj)}{σ:St}{H:Hp}{s:Shared}(I:Inv X pins σ H s):interactive X.env=false:=by simp[interactive,I.ok.kind]
def tDrop (te:TE):TS:=fun D σ H=>te σ H fun _ H1=>D.nx σ H1
theorem ps_expr (he:PE X e te)(hs:swapsWith e none pos.line X.env=pure false:=by rfl):PS X (.Expr e pos) (tDrop te):=by
 intro pins s σ H D I h
 exact wpAny_Expr_any (thn (he pins s σ H _ I h) fun v s1 ⟨x,H1,I1,r1,q1⟩=>⟨σ,H1,I1,q1⟩) I.quiet hs
def tRet (te:TE):TS:=fun D σ H=>te σ H D.rt
theorem ps_ret (he:PE X e te):PS X (.Return (some e) pos) (tRet te):=by
 intro pins s σ H D I h
 exact wpAny_Return_some (thn (he pins s σ H _ I h) fun v s1 ⟨x,H1,I1,r1,q1⟩=>⟨x,σ,H1,I1,r1,q1⟩)
def tIfS (c:TT)(t u:TS):TS:=fun D σ H=>c σ H fun b H1=>if b=true then t D σ H1 else u D σ H1
theorem ps_if {c:Expr}{a b:List Stmt}{tc:TT}(hc:PT X c tc)(ha:PSs X a t)(hb:PSs X b u):PS X (.If c a b pos) (tIfS tc t u):=by
 intro pins s σ H D I h
 refine wpAny_If (thn (hc pins s σ H _ I h) fun d s1 ⟨H1,I1,q1⟩=>?_)
 cases d with
 | true=>exact ha pins s1 σ H1 D I1 q1
 | false=>exact hb pins s1 σ H1 D I1 q1
def tNever:TS:=fun _ _ _=>False
theorem ps_never:PS X st tNever:=fun _ _ _ _ _ _ h=>h.elim
end
noncomputable abbrev TG:=V→St→Hp→(St→Hp→Prop)→Prop
noncomputable abbrev TGs:=List V→St→Hp→(St→Hp→Prop)→Prop
def PG (X:Cx)(target:Expr)(t:TG):Prop :=
 ∀(pins:List (Addr×Obj))(s:Shared)(σ:St)(H:Hp)(v:V)(u:Value)(Q:St→Hp→Prop),Inv X pins σ H s→RelV v u→t v σ H Q →
  wpAny (model X.prog X.w) X.A (assign target X.env u) (fun _ s'=>∃σ' H',Inv X pins σ' H' s'∧Q σ' H') X.xe s
def PGs (X:Cx)(ts:List Expr)(t:TGs):Prop :=
 ∀(pins:List (Addr×Obj))(s:Shared)(σ:St)(H:Hp)(vs:List V)(us:List Value)(Q:St→Hp→Prop),Inv X pins σ H s→Vals vs us→t vs σ H Q →
  wpAny (model X.prog X.w) X.A (assignInOrder ((assignEach ts X.env).map (·.2)) us) (fun _ s'=>∃σ' H',Inv X pins σ' H' s'∧Q σ' H') X.xe s
noncomputable abbrev TSet:=V→V→V→Hp→(Hp→Prop)→Prop
def PSet (X:Cx)(t:TSet):Prop :=
 ∀(pins:List (Addr×Obj))(s:Shared)(σ:St)(H:Hp)(o i v:V)(ov iv u:Value)(Q:Hp→Prop),Inv X pins σ H s→RelV o ov→RelV i iv→RelV v u→t o i v H Q →
  wpAny (model X.prog X.w) X.A (setItem ov iv u) (fun _ s'=>∃H',Inv X pins σ H' s'∧Q H') X.xe s
section
variable {X:Cx}{pos:Pos}
def gName (i:Nat):TG:=fun v σ H Q=>Q (σ.set i (some v)) H
theorem pg_name {i:Nat}{x:Str}(hN:X.N.Nodup)(hi:X.N[i]?=some x)(hx:Loc X.env.scope x)(hf:X.fn x=true∨X.env.scope.names.lookup x=some .local:=by first|exact .inl rfl|exact .inr rfl|assumption):PG X (.Name x pos) (gName i):=by
 intro pins s σ H v u Q I r h
 exact wpAny_assign_Name (store_ok I hN hi hx r (fun s' I'=>⟨_,H,I',h⟩) hf)
noncomputable def gNil:TGs:=fun vs σ H Q=>vs=[]∧Q σ H
noncomputable def gCons (t:TG)(u:TGs):TGs:=fun vs σ H Q=>∃v r,vs=v::r∧t v σ H fun σ' H'=>u r σ' H' Q
theorem pgs_nil:PGs X [] gNil:=by
 intro pins s σ H vs us Q I r h
 obtain⟨e,h⟩:=h
 subst e
 cases r
 exact assignInOrder_nil ⟨σ,H,I,h⟩
theorem pgs_cons {e:Expr}{es:List Expr}{t:TG}{u:TGs}(h1:PG X e t)(h2:PGs X es u)
  (hs:(assignEach (e::es) X.env).map (·.2)=assign e X.env::(assignEach es X.env).map (·.2):=by rfl):PGs X (e::es) (gCons t u):=by
 intro pins s σ H vs us Q I r h
 obtain⟨v,vr,e1,h⟩:=h
 subst e1
 cases r with
 | cons r rr =>
  rw[hs]
  refine assignInOrder_cons (thn (h1 pins s σ H _ _ _ I r h) fun _ s1 ⟨σ1,H1,I1,q1⟩=>?_)
  exact h2 pins s1 σ1 H1 _ _ Q I1 rr q1
def gTup (K:PySem.W.Frag)(n:Nat)(t:TGs):TG:=fun v σ H Q=>∃a xs,v=.ref a∧SqT K H a xs∧xs.length=n∧t xs σ H Q
theorem pg_tup {es:List Expr}{k:Nat}{t:TGs}{n:Nat}(hc:X.calm=true)(h:PGs X es t)
  (hn:(assignEach es X.env).length=n:=by rfl)(hst:(assignEach es X.env).findIdx? (·.1)=none:=by rfl):PG X (.Tuple es k pos) (gTup X.K n t):=by
 intro pins s σ H v u Q I r hw
 obtain⟨a,xs,e1,hq,hl,hw⟩:=hw
 subst e1
 cases r
 obtain⟨its,rv,ht,hz⟩:=I.tuple hq
 refine assign_Tuple_tuple (I.ok.hd hc) ht (by simp[hn,←hl,rv.length]) hst fun h' hx=>?_
 have I1:Inv X pins σ H { s with heap:=h' }:=I.kept (t':=s.toks) fun b o e=>hx b o (Nat.ne_of_lt (Heap.lt_size e)) e
 exact h pins _ σ H xs _ Q I1 (by simpa using rv) hw
def gSub (to ti:TE)(t:TSet):TG:=fun v σ H Q=>to σ H fun o H1=>ti σ H1 fun i H2=>t o i v H2 fun H3=>Q σ H3
theorem pg_sub {o i:Expr}{to ti:TE}{t:TSet}(ho:PE X o to)(hi:PE X i ti)(hs:PSet X t)
  (ha:∀v,assign (.Subscript o i pos) X.env v=(do
   let ov ←holding [v] (eval o X.env)
   let iv ←holding [v,ov] (eval i X.env)
   standAt pos
   holding [v,ov,iv] (setItem ov iv v)
   release [v,ov,iv] []):=by intro _;rfl):PG X (.Subscript o i pos) (gSub to ti t):=by
 intro pins s σ H v u Q I r h
 rw[ha]
 refine wpAny_bind (wpAny_holding (thn (ho pins s σ H _ I h) fun ov s1 ⟨x,H1,I1,r1,q1⟩=>?_))
 refine wpAny_bind (wpAny_holding (thn (hi pins s1 σ H1 _ I1 q1) fun iv s2 ⟨y,H2,I2,r2,q2⟩=>?_))
 refine wpAny_bind (wpAny_standAt (wpAny_bind (wpAny_holding (thn (hs pins s2 σ H2 x y v ov iv u _ I2 r1 r2 r q2) fun _ s3 ⟨H3,I3,q3⟩=>?_))))
 exact wpAny_release ⟨σ,H3,I3,q3⟩
def tAsg (te:TE)(g:TG):TS:=fun D σ H=>te σ H fun x H1=>g x σ H1 D.nx
theorem ps_asg {tg e:Expr}{te:TE}{g:TG}(he:PE X e te)(hg:PG X tg g)(hs:swapsWithSole [tg] e pos.line X.env=pure false:=by rfl)(hw:swappedStores [tg] e X.env=pure none:=by rfl)
  (h1:(assignEach [tg] X.env).map (·.2)=[assign tg X.env]:=by rfl):PS X (.Assign [tg] e pos) (tAsg te g):=by
 intro pins s σ H D I h
 refine wpAny_Assign_stores (thn (he pins s σ H _ I h) fun v s1 ⟨x,H1,I1,r1,q1⟩=>?_) hs hw
 rw[h1]
 exact thn (hg pins s1 σ H1 x v _ I1 r1 q1) fun _ s2 q=>q
theorem ps_set {i:Nat}{x:Str}{e:Expr}{te:TE}{pos':Pos}(hN:X.N.Nodup)(hi:X.N[i]?=some x)(hx:Loc X.env.scope x)(he:PE X e te)(hs:swapsWith e (some (.Name x pos')) pos.line X.env=pure false:=by rfl)(hf:X.fn x=true∨X.env.scope.names.lookup x=some .local:=by first|exact .inl rfl|exact .inr rfl|assumption) :
  PS X (.Assign [.Name x pos'] e pos) (tAsg te (gName i)):=by
 intro pins s σ H D I h
 refine wpAny_Assign_Name (thn (he pins s σ H _ I h) fun v s1 ⟨y,H1,I1,r1,q1⟩=>?_) hs
 exact store_ok I1 hN hi hx r1 (fun s2 I2=>⟨_,H1,I2,q1⟩) hf
def tPar (i j:Nat)(ta:TA):TS:=fun D σ H=>ta σ H fun vs H1=>∃v w,vs=[v,w]∧D.nx ((σ.set i (some v)).set j (some w)) H1
theorem ps_par {i j:Nat}{x y:Str}{a b:Expr}{ta:TA}{px py pt:Pos} {kt k2 pt2}(hc:X.calm=true)(hN:X.N.Nodup)(hi:X.N[i]?=some x)(hj:X.N[j]?=some y)(hij:i≠j)
  (hx:X.env.scope.names.lookup x=some .local)(hy:X.env.scope.names.lookup y=some .local)(ha:PA X [a,b] ta)
  (hw:swappedStores [.Tuple [.Name x px,.Name y py] kt pt] (.Tuple [a,b] k2 pt2) X.env=pure (some [x,y]))
  (hs:swapsWithSole [.Tuple [.Name x px,.Name y py] kt pt] (.Tuple [a,b] k2 pt2) pos.line X.env=pure false:=by rfl) :
  PS X (.Assign [.Tuple [.Name x px,.Name y py] kt pt] (.Tuple [a,b] k2 pt2) pos) (tPar i j ta):=by
 intro pins s σ H D I h
 rw[exec_Assign_arm]
 refine wpAny_bind (wpAny_standAt ?_)
 rw[hs]
 refine wpAny_bind (wpAny_pure ?_)
 rw[if_neg (by decide)]
 refine wpAny_bind (Tuple_ (thn (ha _ pins s σ H _ I h) fun us s1 ⟨vs,H1,I1,r1,q1⟩=>?_))
 obtain⟨v,w,e1,q1⟩:=q1
 subst e1
 obtain⟨u1,u2,rfl,rv,rw'⟩:∃u1 u2,us=[u1,u2]∧RelV v u1∧RelV w u2:=by
  cases r1 with
  | cons p q =>
   cases q with
   | cons p' q' =>
    cases q'
    exact⟨_,_,rfl,p,p'⟩
 refine wpAny_newObj_type ?_ (by show 2≤sizeLine;decide)
 have I2:Inv X pins σ H1 { s1 with heap:=s1.heap.push { cls:=.type "tuple",data:=.seq [u1,u2].toArray } }:=I1.kept (t':=s1.toks) fun b o e=>Heap.get?_push_of_some _ e
 rw[hw]
 refine wpAny_bind (wpAny_pure ?_)
 show wpAny (model X.prog X.w) X.A (do rule "assign.swapped-stores";let items ←unpackItems (.ref s1.heap.objs.size) 2 none;assignInOrder [fun v=>bindName X.env y v,fun v=>bindName X.env x v] items.reverse;pure Flow.next) _ _ _
 refine wpAny_bind (wpAny_rule (wpAny_bind (unpackItems_tuple (items:=#[u1,u2]) (I.ok.hd hc) (IsTup.new s1.heap _) fun h' hx'=>?_)))
 have I3:=I2.kept (h':=h') (t':=s1.toks) fun b o e=>hx' b o (Nat.ne_of_lt (Heap.lt_size e)) e
 show wpAny _ _ (assignInOrder [fun v=>bindName X.env y v,fun v=>bindName X.env x v] [u2,u1] >>= fun _=>pure Flow.next) _ _ _
 refine wpAny_bind (assignInOrder_cons (wpAny_bindName (store_ok I3 hN hj (.inl hy) rw' (fun s2 I4=>?_) (.inr hy))))
 refine assignInOrder_cons (wpAny_bindName (store_ok I4 hN hi (.inl hx) rv (fun s3 I5=>assignInOrder_nil (wpAny_pure ?_)) (.inr hx)))
 rw[List.set_comm _ _ (Ne.symm hij)]at I5
 exact⟨_,H1,I5,q1⟩
end
section
variable {X:Cx}{pos:Pos}
def tWhile (c:TT)(tb:TS):TS:=fun D σ H=>∃W:Nat→St→Hp→Prop,(∃m,W m σ H)∧∀m σ H,W m σ H →
 c σ H fun b H1=>if b=true then ∃N:St→Hp→Prop,(∀σ' H',N σ' H'→∃m',m'<m∧W m' σ' H')∧tb { D with nx:=N,ct:=N,bk:=D.nx } σ H1 else D.nx σ H1
theorem ps_while {c:Expr}{body:List Stmt}{tc:TT}{tb:TS}(hp:PassesOwn (model X.prog X.w) X.A X.env X.xe)(hc:PT X c tc)(hb:PSs X body tb):PS X (.While c body [] pos) (tWhile tc tb):=by
 intro pins s σ H D I h
 obtain⟨W,⟨m0,w0⟩,turn⟩:=h
 refine wpAny_While (codeAny_whileLoop (fun n s'=>∃σ' H',Inv X pins σ' H' s'∧W n σ' H') ?_ m0 ⟨σ,H,I,w0⟩)
 rintro n s1 ⟨σ1,H1,I1,w1⟩
 refine wpAny_passesOwn hp (thn (hc pins s1 σ1 H1 _ I1 (turn n σ1 H1 w1)) fun b s2 ⟨H2,I2,q2⟩=>?_)
 cases b with
 | true =>
  obtain⟨N,hN,q2⟩:=q2
  rw[if_pos rfl]
  refine wpAny_passesOwn hp (thn (hb pins s2 σ1 H2 _ I2 q2) fun f s3 q3=>?_)
  cases f with
  | next =>
   obtain⟨σ3,H3,I3,n3⟩:=q3
   obtain⟨m',hm,w3⟩:=hN σ3 H3 n3
   exact⟨m',hm,σ3,H3,I3,w3⟩
  | cont =>
   obtain⟨σ3,H3,I3,n3⟩:=q3
   obtain⟨m',hm,w3⟩:=hN σ3 H3 n3
   exact⟨m',hm,σ3,H3,I3,w3⟩
  | brk=>exact q3
  | ret v=>exact q3
 | false =>
  rw[if_neg Bool.false_ne_true]
  exact wpAny_execs_nil ⟨σ1,H2,I2,q2⟩
end
structure It where
 go:Nat→Hp→Prop
 yld:Nat→Hp→V→Hp→Prop
 stop:Nat→Hp→Prop
def FpOk (X:Cx)(pins:List (Addr×Obj))(H:Hp)(b:Addr):Prop :=
 H b=none∧b≠X.env.locals∧b∉X.fs∧(b∈X.ex∨X.s₀.heap.objs.size≤b)∧(∀x c,X.env.cells.lookup x=some c→c≠b)∧∀p∈X.pn++pins,p.1≠b
theorem Inv.fpOk {X:Cx}{pins:List (Addr×Obj)}{σ:St}{H H':Hp}{s:Shared}{b:Addr}(I:Inv X pins σ H s)(hb:s.heap.objs.size≤b)(hn:H' b=none):FpOk X pins H' b:=by
 refine⟨hn,Nat.ne_of_gt (Nat.lt_of_lt_of_le I.lt hb),I.nofs hb,.inr (Nat.le_trans I.sz hb),fun x c e z=>?_,fun p hp z=>?_⟩
 ·obtain⟨v,q⟩:=I.cell x c e
  exact absurd (Nat.lt_of_lt_of_le q.lt (by rw[z];exact hb)) (Nat.lt_irrefl _)
 ·exact absurd (Nat.lt_of_lt_of_le (Heap.lt_size (I.pin p hp).1) (by rw[z];exact hb)) (Nat.lt_irrefl _)
structure Turn (P:Program)(w:World)(K:PySem.W.Frag)(tg:Expr)(J:It)(fp:List Addr)(it:Addr)(tn:Nat→Heap→Prop):Prop where
 mem:it∈fp
 obj:∀i h,tn i h→∀b∈fp,∃o,h.get? b=some o∧∀v,o.data≠.cell v
 keep:∀i h h',tn i h→(∀b∈fp,∀o,h.get? b=some o→h'.get? b=some o)→tn i h'
 item:∀(X:Cx),X.prog=P→X.w=w→X.K=K→X.calm=true→∀(i:Nat)(pins:List (Addr×Obj))(s:Shared)(σ:St)(H:Hp)(E:Value→Shared→Prop),Inv X pins σ H s→(∀b∈fp,FpOk X pins H b)→tn i s.heap→J.go i H →
  wpAny (model P w) X.A (pyNext (.ref it)) (fun r s1=>∃u,r=some u ∧
   wpAny (model P w) X.A (letOwnedTupleGo tg (.ref it) u) (fun _ s2=>∃x H',Inv X pins σ H' s2∧RelV x u∧J.yld i H x H'∧tn (i+1) s2.heap∧∀b∈fp,H' b=none) E s1) E s
 done:∀(X:Cx),X.prog=P→X.w=w→X.K=K→X.calm=true→∀(i:Nat)(pins:List (Addr×Obj))(s:Shared)(σ:St)(H:Hp)(E:Value→Shared→Prop),Inv X pins σ H s→(∀b∈fp,FpOk X pins H b)→tn i s.heap→J.stop i H →
  wpAny (model P w) X.A (pyNext (.ref it)) (fun r s1=>r=none∧Inv X pins σ H s1) E s
 self:∀(A:Around)(i:Nat)(s:Shared)(Q:Value→Shared→Prop)(E:Value→Shared→Prop),tn i s.heap→Q (.ref it) s→wpAny (model P w) A (pyIter (.ref it)) Q E s
noncomputable abbrev TI:=St→Hp→(It→Hp→Prop)→Prop
def PIE (X:Cx)(pins:List (Addr×Obj))(σ:St)(tg:Expr)(R:It→Hp→Prop)(itv:Value)(s2:Shared):Prop :=
 ∃(it:Addr)(fp:List Addr)(tn:Nat→Heap→Prop)(J:It)(H':Hp),itv=.ref it∧Inv X pins σ H' s2∧Turn X.prog X.w X.K tg J fp it tn∧tn 0 s2.heap∧(∀b∈fp,FpOk X pins H' b)∧R J H'
def PI (X:Cx)(tg iter:Expr)(wi:TI):Prop :=
 ∀(pins:List (Addr×Obj))(s:Shared)(σ:St)(H:Hp)(R:It→Hp→Prop),Inv X pins σ H s→wi σ H R →
  wpAny (model X.prog X.w) X.A (eval iter X.env) (fun v s1=>wpAny (model X.prog X.w) X.A (pyIter v) (PIE X pins σ tg R) X.xe s1) X.xe s
theorem go_of {M:Model}{A:Around}{E:Value→Shared→Prop}{s:Shared}{tg:Expr}{it:Addr}{u:Value}{o:Obj}{n:String}{vs:Array Value}{Q:Unit→Shared→Prop}(ho:s.heap.get? it=some o)(hc:o.cls=.type n)(hd:o.data=.fields vs)
  (hn:["enumerate","zip","dict_itemiterator","dict_reverseitemiterator","odict_iterator","itertools.zip_longest","itertools.pairwise"].contains n=false)(hQ:Q () s):wpAny M A (letOwnedTupleGo tg (.ref it) u) Q E s:=by
 unfold letOwnedTupleGo
 cases tg<;>first
  | exact wpAny_pure hQ
  |(cases u<;>first
    | exact wpAny_pure hQ
    |(refine wpAny_bind (wpAny_load ho ?_)
      rw[hc,hd]
      show wpAny M A (if (["enumerate","zip","dict_itemiterator","dict_reverseitemiterator","odict_iterator","itertools.zip_longest","itertools.pairwise"].contains n&&vs[0]?==some (rawInt _))=true then _ else _) Q E s
      rw[if_neg (by intro h;rw[hn,Bool.false_and]at h;cases h)]
      exact wpAny_pure hQ))
noncomputable def Itl (K:PySem.W.Frag)(a:Addr):It :=
 ⟨fun i H=>∃xs x,SqL K H a xs∧xs[i]?=some x,fun i H x H'=>H'=H∧∀xs,SqL K H a xs→xs[i]?=some x,fun i H=>∃xs,SqL K H a xs∧xs.length≤i⟩
noncomputable def Itt (K:PySem.W.Frag)(a:Addr):It :=
 ⟨fun i H=>∃xs x,SqT K H a xs∧xs[i]?=some x,fun i H x H'=>H'=H∧∀xs,SqT K H a xs→xs[i]?=some x,fun i H=>∃xs,SqT K H a xs∧xs.length≤i⟩
noncomputable def Itr (lo:Int)(n:Nat):It:=⟨fun i _=>i<n,fun i H x H'=>H'=H∧x=.int (lo+i),fun i _=>n≤i⟩
theorem turn_list {P:Program}{w:World}{K:PySem.W.Frag}{tg:Expr}(a it:Addr):Turn P w K tg (Itl K a) [it] it (fun i h=>h.IsListIter it a i) where
 mem:=by simp
 obj:=fun i h st b hb=>by
  have e:b=it:=by simpa using hb
  subst e
  obtain⟨o,e,c,d⟩:=st
  exact⟨o,e,fun v z=>by rw[d]at z;cases z⟩
 keep:=fun i h h' st k=>st.at fun o e=>k it (by simp) o e
 item:=by
  intro X hP hw hK hc i pins s σ H E I hf st hg
  subst hP hw hK
  obtain⟨xs,x,hq,hx⟩:=hg
  obtain⟨its,rv,p,hz⟩:=I.list hq
  obtain⟨u,hu,ru⟩:=rv.get hx
  obtain⟨f0,f1,f2,f3,f4,f5⟩:=hf it (by simp)
  refine wpAny_pyNext_list_item st p.isList (x:=u) (by simpa using hu) fun h' st' sb=>?_
  have I1:Inv X pins σ H { s with heap:=h' }:=I.turned (t':=s.toks) (fun b o hb e=>(sb.2 b hb).trans e) f0 f1 f3 f4 f5
  obtain⟨o,e,c,d⟩:=id st'
  exact⟨u,rfl,go_of (s:={ s with heap:=h' }) e c d (by decide) ⟨x,H,I1,ru,⟨rfl,fun ys hy=>by rw[I.list_inj hy hq];exact hx⟩,st',fun b hb=>(hf b hb).1⟩⟩
 done:=by
  intro X hP hw hK hc i pins s σ H E I hf st hg
  subst hP hw hK
  obtain⟨xs,hq,hx⟩:=hg
  obtain⟨its,rv,p,hz⟩:=I.list hq
  obtain⟨f0,f1,f2,f3,f4,f5⟩:=hf it (by simp)
  have hl:=rv.length
  exact wpAny_pyNext_list_end (I.ok.hd hc) st p.isList (by simp;omega) fun h' eb=>⟨rfl,I.turned (t':=s.toks) (fun b o hb e=>eb b o hb e) f0 f1 f3 f4 f5⟩
 self:=fun _ _ _ _ _ st h=>wpAny_pyIter_listiter st h
theorem turn_tuple {P:Program}{w:World}{K:PySem.W.Frag}{tg:Expr}(a it:Addr):Turn P w K tg (Itt K a) [it] it (fun i h=>h.IsTupleIter it a i) where
 mem:=by simp
 obj:=fun i h st b hb=>by
  have e:b=it:=by simpa using hb
  subst e
  obtain⟨o,e,c,d⟩:=st
  exact⟨o,e,fun v z=>by rw[d]at z;cases z⟩
 keep:=fun i h h' st k=>st.at fun o e=>k it (by simp) o e
 item:=by
  intro X hP hw hK hc i pins s σ H E I hf st hg
  subst hP hw hK
  obtain⟨xs,x,hq,hx⟩:=hg
  obtain⟨its,rv,p,hz⟩:=I.tuple hq
  obtain⟨u,hu,ru⟩:=rv.get hx
  obtain⟨f0,f1,f2,f3,f4,f5⟩:=hf it (by simp)
  refine wpAny_pyNext_tuple_item st (show s.heap.IsTuple a its.toArray from p) (x:=u) (by simpa using hu) fun h' st' sb=>?_
  have I1:Inv X pins σ H { s with heap:=h' }:=I.turned (t':=s.toks) (fun b o hb e=>(sb.2 b hb).trans e) f0 f1 f3 f4 f5
  obtain⟨o,e,c,d⟩:=id st'
  exact⟨u,rfl,go_of (s:={ s with heap:=h' }) e c d (by decide) ⟨x,H,I1,ru,⟨rfl,fun ys hy=>by rw[I.tuple_inj hy hq];exact hx⟩,st',fun b hb=>(hf b hb).1⟩⟩
 done:=by
  intro X hP hw hK hc i pins s σ H E I hf st hg
  subst hP hw hK
  obtain⟨xs,hq,hx⟩:=hg
  obtain⟨its,rv,p,hz⟩:=I.tuple hq
  obtain⟨f0,f1,f2,f3,f4,f5⟩:=hf it (by simp)
  have hl:=rv.length
  exact wpAny_pyNext_tuple_end (I.ok.hd hc) st (show s.heap.IsTuple a its.toArray from p) (by simp;omega) fun h' eb=>⟨rfl,I.turned (t':=s.toks) (fun b o hb e=>eb b o hb e) f0 f1 f3 f4 f5⟩
 self:=fun _ _ _ _ _ st h=>wpAny_pyIter_tupleiter st h
theorem turn_range {P:Program}{w:World}{K:PySem.W.Frag}{tg:Expr}(it:Addr)(lo:Int)(n:Nat):Turn P w K tg (Itr lo n) [it] it (fun i h=>IsRangeIter h it (lo+(i:Nat)*1) ((n:Int)-(i:Nat)) 1) where
 mem:=by simp
 obj:=fun i h st b hb=>by
  have e:b=it:=by simpa using hb
  subst e
  exact⟨_,st,fun v z=>by
   have z':Data.fields _=Data.cell v:=z
   cases z'⟩
 keep:=fun i h h' st k=>k it (by simp) _ st
 item:=by
  intro X hP hw hK hc i pins s σ H E I hf st hg
  subst hP hw hK
  obtain⟨f0,f1,f2,f3,f4,f5⟩:=hf it (by simp)
  have W:=Walks.range (prog:=X.prog) (w:=X.w) (I.ok.hd hc) it lo 1 n
  refine W.item i s _ _ hg st fun v h' tk hv st' kk=>?_
  obtain⟨t,rfl⟩:=hv
  have I1:Inv X pins σ H { s with heap:=h',toks:=tk }:=I.turned (fun b o hb e=>kk b o (by simpa using hb) e) f0 f1 f3 f4 f5
  refine⟨_,rfl,go_of (s:={ s with heap:=h',toks:=tk }) (n:="range_iterator") st' rfl rfl (by decide) ⟨.int (lo+i),H,I1,⟨t,?_⟩,⟨rfl,rfl⟩,st',fun b hb=>(hf b hb).1⟩⟩
  rw[Int.mul_one]
 done:=by
  intro X hP hw hK hc i pins s σ H E I hf st hg
  subst hP hw hK
  obtain⟨f0,f1,f2,f3,f4,f5⟩:=hf it (by simp)
  exact wpAny_pyNext_range_end (I.ok.hd hc) st (by have:n≤i:=hg;omega) fun h' eb=>⟨rfl,I.turned (t':=s.toks) (fun b o hb e=>eb b o hb e) f0 f1 f3 f4 f5⟩
 self:=fun _ _ _ _ _ st h=>wpAny_pyIter_rangeiter st h
end L2
namespace L2
open PySem PySem.Spec PyProof.Rows
section
variable {X:Cx}{tg:Expr}
def iList (K:PySem.W.Frag)(tl:TE):TI:=fun σ H R=>tl σ H fun x H1=>∃a,x=.ref a∧(∃xs,SqL K H1 a xs)∧R (Itl K a) H1
def iTup (K:PySem.W.Frag)(tl:TE):TI:=fun σ H R=>tl σ H fun x H1=>∃a,x=.ref a∧(∃xs,SqT K H1 a xs)∧R (Itt K a) H1
theorem pi_list {l:Expr}{tl:TE}(hl:PE X l tl):PI X tg l (iList X.K tl):=by
 intro pins s σ H R I h
 refine thn (hl pins s σ H _ I h) fun v s1 ⟨x,H1,I1,r1,q1⟩=>?_
 obtain⟨a,e,⟨xs,hq⟩,q⟩:=q1
 subst e
 cases r1
 obtain⟨its,rv,p,hz⟩:=I1.list hq
 refine wpAny_pyIter_list p.isList ?_
 refine⟨s1.heap.objs.size,[s1.heap.objs.size],_,_,H1,rfl,I1.kept (t':=s1.toks) fun b o e=>Heap.get?_push_of_some _ e,turn_list a _,⟨_,Heap.get?_push_size _ rfl,rfl,rfl⟩,fun b hb=>?_,q⟩
 have e:b=s1.heap.objs.size:=by simpa using hb
 subst e
 exact I1.fpOk (Nat.le_refl _) (I1.hok.fresh (Nat.le_refl _))
theorem pi_tup {l:Expr}{tl:TE}(hl:PE X l tl):PI X tg l (iTup X.K tl):=by
 intro pins s σ H R I h
 refine thn (hl pins s σ H _ I h) fun v s1 ⟨x,H1,I1,r1,q1⟩=>?_
 obtain⟨a,e,⟨xs,hq⟩,q⟩:=q1
 subst e
 cases r1
 obtain⟨its,rv,p,hz⟩:=I1.tuple hq
 refine wpAny_pyIter_tuple (show s1.heap.IsTuple a its.toArray from p) ?_
 refine⟨s1.heap.objs.size,[s1.heap.objs.size],_,_,H1,rfl,I1.kept (t':=s1.toks) fun b o e=>Heap.get?_push_of_some _ e,turn_tuple a _,⟨_,Heap.get?_push_size _ rfl,rfl,rfl⟩,fun b hb=>?_,q⟩
 have e:b=s1.heap.objs.size:=by simpa using hb
 subst e
 exact I1.fpOk (Nat.le_refl _) (I1.hok.fresh (Nat.le_refl _))
theorem range_it {pins:List (Addr×Obj)}{σ:St}{H:Hp}{s:Shared}{R:It→Hp→Prop}{E:Value→Shared→Prop}{lo hi:Int}{t u v:Tok}{tk:Nat}(I:Inv X pins σ H s)(h1 : -(2 ^ 62)≤lo)(h2:lo<2 ^ 62)(h3 : -(2 ^ 62)≤hi)(h4:hi<2 ^ 62)
  (q:R (Itr lo (hi-lo).toNat) H):wpAny (model X.prog X.w) X.A (pyIter (.ref s.heap.objs.size)) (PIE X pins σ tg R) E { s with heap:=s.heap.push { cls:=.type "range",data:=.fields #[.int lo t,.int hi u,.int 1 v] },toks:=tk }:=by
 refine wpAny_pyIter_range (IsRange.new ..) (small_one h1 h2 h3 h4) ?_
 have I1:Inv X pins σ H { s with heap:=s.heap.push { cls:=.type "range",data:=.fields #[.int lo t,.int hi u,.int 1 v] },toks:=tk }:=I.kept fun b o e=>Heap.get?_push_of_some _ e
 refine⟨(s.heap.push { cls:=.type "range",data:=.fields #[.int lo t,.int hi u,.int 1 v] }).objs.size,[(s.heap.push { cls:=.type "range",data:=.fields #[.int lo t,.int hi u,.int 1 v] }).objs.size],_,_,H,rfl,
  I1.kept (t':=tk) fun b o e=>Heap.get?_push_of_some _ e,turn_range _ lo (hi-lo).toNat,?_,fun b hb=>?_,q⟩
 ·have e1:lo+((0:Nat):Int)*1=lo:=by simp
  have e2:(((hi-lo).toNat:Nat):Int)-((0:Nat):Int)=Builtin.Range.rangeSize lo hi 1:=by rw[rangeSize_one];split<;>omega
  show IsRangeIter _ _ (lo+((0:Nat):Int)*1) ((((hi-lo).toNat:Nat):Int)-((0:Nat):Int)) 1
  rw[e1,e2]
  exact Heap.get?_push_size _ rfl
 ·have e:b=(s.heap.push { cls:=.type "range",data:=.fields #[.int lo t,.int hi u,.int 1 v] }).objs.size:=by simpa using hb
  subst e
  exact I1.fpOk (Nat.le_refl _) (I1.hok.fresh (Nat.le_refl _))
def iRng1 (ta:TA):TI:=fun σ H R=>ta σ H fun vs H1=>∃j:Int,vs=[.int j]∧-(2 ^ 62)≤j∧j<2 ^ 62∧R (Itr 0 j.toNat) H1
theorem pi_range1 {a:Expr}{ta:TA}{p pos:Pos}(hg:Gl X "range")(hm:X.mg "range"=none)(ha:PA X [a] ta)(hs:starEach [a] X.env=[(false,eval a X.env)]:=by rfl):PI X tg (.Call (.Name "range" p) [a] [] pos) (iRng1 ta):=by
 intro pins s σ H R I h
 refine Call_ (ld_blt I hg hm boot_range (PyProof.Rows.callWith_type1 (thn (ha pos pins s σ H _ I h) fun us s1 ⟨vs,H1,I1,r1,q1⟩=>?_) hs rfl))
 obtain⟨j,e,q1,q2,q⟩:=q1
 subst e
 cases r1 with
 | cons r rr =>
  cases rr
  obtain⟨t,rfl⟩:=r
  exact call_range_1 (range_it I1 (by omega) (by omega) q1 q2 (by simpa using q))
def tFor (wi:TI)(g:TG)(tb:TS):TS:=fun D σ H=>wi σ H fun J H1=>∃W:Nat→Nat→St→Hp→Prop,(∃m,W 0 m σ H1)∧∀i m σ H,W i m σ H →
 (J.stop i H∧D.nx σ H)∨(J.go i H∧∃N:St→Hp→Prop,(∀σ' H',N σ' H'→∃m',m'<m∧W (i+1) m' σ' H')∧∀x H',J.yld i H x H'→g x σ H' fun σ2 H2=>tb { D with nx:=N,ct:=N,bk:=D.nx } σ2 H2)
noncomputable def pinsAt (fp:List Addr)(h:Heap):List (Addr×Obj):=fp.filterMap fun b=>(h.get? b).map fun o=>(b,o)
theorem mem_pinsAt {fp:List Addr}{h:Heap}{b:Addr}{o:Obj}(hb:b∈fp)(e:h.get? b=some o):(b,o)∈pinsAt fp h:=List.mem_filterMap.mpr ⟨b,hb,by rw[e];rfl⟩
theorem of_pinsAt {fp:List Addr}{h:Heap}{p:Addr×Obj}(hp:p∈pinsAt fp h):p.1∈fp∧h.get? p.1=some p.2:=by
 obtain⟨b,hb,e⟩:=List.mem_filterMap.mp hp
 cases q:h.get? b with
 | none=>rw[q]at e;cases e
 | some o =>
  rw[q]at e
  have e':(b,o)=p:=Option.some.inj e
  subst e'
  exact⟨hb,q⟩
theorem Inv.pinned {pins:List (Addr×Obj)}{σ:St}{H:Hp}{s:Shared}{fp:List Addr}(I:Inv X pins σ H s)(hf:∀b∈fp,FpOk X pins H b)(ho:∀b∈fp,∃o,s.heap.get? b=some o∧∀v,o.data≠.cell v):Inv X (pins++pinsAt fp s.heap) σ H s :=
 I.pins_of fun p hp=>(List.mem_append.mp hp).elim (fun z=>I.pin p (List.mem_append_right _ z)) fun z=>by
  obtain⟨hb,e⟩:=of_pinsAt z
  obtain⟨f0,f1,f2,_⟩:=hf p.1 hb
  obtain⟨o,e',d⟩:=ho p.1 hb
  rw[e]at e';cases e'
  exact⟨e,f0,f1,f2,d⟩
theorem Inv.unpinned {pins pl:List (Addr×Obj)}{σ:St}{H:Hp}{s:Shared}(I:Inv X (pins++pl) σ H s):Inv X pins σ H s:=I.pins_of fun p hp=>I.pin p (List.mem_append_right _ (List.mem_append_left _ hp))
theorem ps_for {iter:Expr}{body:List Stmt}{wi:TI}{g:TG}{tb:TS}{pos:Pos}(hp:PassesOwn (model X.prog X.w) X.A X.env X.xe)(hc:X.calm=true)(hi:PI X tg iter wi)(hg:PG X tg g)(hb:PSs X body tb)
  (hs:∀x,foldedSetIterable iter X.env x=pure x:=by intro _;rfl):PS X (.For tg iter body [] pos) (tFor wi g tb):=by
 intro pins s σ H D I h
 refine wpAny_For (thn (hi pins s σ H _ I h) fun v s1 h1=>thn h1 fun itv s2 h2=>?_) hs
 obtain⟨it,fp,tn,J,H2,e,I2,T,st2,f2,W,⟨m0,w0⟩,turn⟩:=h2
 subst e
 -- what stays true of the iterator's objects through the loop
 have stat:∀{H':Hp},(∀b∈fp,H' b=none)→∀b∈fp,FpOk X pins H' b:=fun hn b hb=>⟨hn b hb,(f2 b hb).2⟩
 refine codeAny_forLoop_any (fun n s'=>∃i σ' H',Inv X pins σ' H' s'∧tn i s'.heap∧(∀b∈fp,H' b=none)∧W i n σ' H') ?_ m0 ⟨0,σ,H2,I2,st2,fun b hb=>(f2 b hb).1,w0⟩
 rintro n s3 ⟨i,σ3,H3,I3,st3,fr3,w3⟩
 rcases turn i n σ3 H3 w3 with ⟨stop,qn⟩|⟨go,N,hN,step⟩
 ·refine wpAny_passesOwn hp (thn (T.done X rfl rfl rfl hc i pins s3 σ3 H3 X.xe I3 (stat fr3) st3 stop) fun r s4 ⟨hr,I4⟩=>?_)
  subst hr
  exact wpAny_execs_nil ⟨σ3,H3,I4,qn⟩
 ·refine wpAny_passesOwn hp (thn (T.item X rfl rfl rfl hc i pins s3 σ3 H3 X.xe I3 (stat fr3) st3 go) fun r s4 ⟨u,hr,h4⟩=>?_)
  subst hr
  refine wpAny_passesOwn hp (thn h4 fun _ s5 ⟨x,H5,I5,r5,y5,st5,fr5⟩=>?_)
  have I5':=I5.pinned (stat fr5) (T.obj _ _ st5)
  refine wpAny_passesOwn hp (thn (hg _ s5 σ3 H5 x u _ I5' r5 (step x H5 y5)) fun _ s6 ⟨σ6,H6,I6,q6⟩=>?_)
  refine wpAny_passesOwn hp (thn (hb _ s6 σ6 H6 _ I6 q6) fun f s7 q7=>?_)
  have again:∀{σ7:St}{H7:Hp},Inv X (pins++pinsAt fp s5.heap) σ7 H7 s7→N σ7 H7→∃m,m<n∧∃i σ' H',Inv X pins σ' H' s7∧tn i s7.heap∧(∀b∈fp,H' b=none)∧W i m σ' H':=fun {σ7 H7} I7 n7=>by
   obtain⟨m',hm,w7⟩:=hN σ7 H7 n7
   refine⟨m',hm,i+1,σ7,H7,I7.unpinned,T.keep _ _ _ st5 fun b hb o e=>(I7.pin (b,o) (List.mem_append_right _ (List.mem_append_right _ (mem_pinsAt hb e)))).1,fun b hb=>?_,w7⟩
   obtain⟨o,e,d⟩:=T.obj _ _ st5 b hb
   exact(I7.pin (b,o) (List.mem_append_right _ (List.mem_append_right _ (mem_pinsAt hb e)))).2.1
  cases f with
  | next=>obtain⟨σ7,H7,I7,n7⟩:=q7;exact again I7 n7
  | cont=>obtain⟨σ7,H7,I7,n7⟩:=q7;exact again I7 n7
  | brk=>obtain⟨σ7,H7,I7,q7⟩:=q7;exact⟨σ7,H7,I7.unpinned,q7⟩
  | ret v=>obtain⟨x7,σ7,H7,I7,r7,q7⟩:=q7;exact⟨x7,σ7,H7,I7.unpinned,r7,q7⟩
end
theorem for_list {K:PySem.W.Frag}{a:Addr}{xs:List V}{g:TG}{tb:TS}{D:Ends}{σ:St}{H:Hp}(Pv:Nat→St→Hp→Prop)(h0:Pv 0 σ H)(hl:∀i σ H,i≤xs.length→Pv i σ H→SqL K H a xs)
  (hs:∀i x σ H,xs[i]?=some x→Pv i σ H→g x σ H fun σ2 H2=>tb { D with nx:=Pv (i+1),ct:=Pv (i+1),bk:=D.nx } σ2 H2)(hd:∀σ H,Pv xs.length σ H→D.nx σ H) :
  ∃W:Nat→Nat→St→Hp→Prop,(∃m,W 0 m σ H)∧∀i m σ H,W i m σ H →
   ((Itl K a).stop i H∧D.nx σ H)∨((Itl K a).go i H∧∃N:St→Hp→Prop,(∀σ' H',N σ' H'→∃m',m'<m∧W (i+1) m' σ' H')∧∀x H',(Itl K a).yld i H x H'→g x σ H' fun σ2 H2=>tb { D with nx:=N,ct:=N,bk:=D.nx } σ2 H2):=by
 refine⟨fun i m σ H=>m=xs.length-i∧i≤xs.length∧Pv i σ H,⟨xs.length,by simp,Nat.zero_le _,h0⟩,?_⟩
 rintro i m σ H ⟨rfl,hi,p⟩
 have q:=hl i σ H hi p
 by_cases hlt:i<xs.length
 ·refine .inr ⟨⟨xs,xs[i],q,by simp[hlt]⟩,Pv (i+1),fun σ' H' p'=>⟨xs.length-(i+1),by omega,rfl,hlt,p'⟩,fun x H' y=>?_⟩
  obtain⟨e,y⟩:=y
  subst e
  exact hs i x σ _ (y xs q) p
 ·have e:i=xs.length:=by omega
  subst e
  exact .inl ⟨⟨xs,q,Nat.le_refl _⟩,hd σ H p⟩
theorem for_tup {K:PySem.W.Frag}{a:Addr}{xs:List V}{g:TG}{tb:TS}{D:Ends}{σ:St}{H:Hp}(Pv:Nat→St→Hp→Prop)(h0:Pv 0 σ H)(hl:∀i σ H,i≤xs.length→Pv i σ H→SqT K H a xs)
  (hs:∀i x σ H,xs[i]?=some x→Pv i σ H→g x σ H fun σ2 H2=>tb { D with nx:=Pv (i+1),ct:=Pv (i+1),bk:=D.nx } σ2 H2)(hd:∀σ H,Pv xs.length σ H→D.nx σ H) :
  ∃W:Nat→Nat→St→Hp→Prop,(∃m,W 0 m σ H)∧∀i m σ H,W i m σ H →
   ((Itt K a).stop i H∧D.nx σ H)∨((Itt K a).go i H∧∃N:St→Hp→Prop,(∀σ' H',N σ' H'→∃m',m'<m∧W (i+1) m' σ' H')∧∀x H',(Itt K a).yld i H x H'→g x σ H' fun σ2 H2=>tb { D with nx:=N,ct:=N,bk:=D.nx } σ2 H2):=by
 refine⟨fun i m σ H=>m=xs.length-i∧i≤xs.length∧Pv i σ H,⟨xs.length,by simp,Nat.zero_le _,h0⟩,?_⟩
 rintro i m σ H ⟨rfl,hi,p⟩
 have q:=hl i σ H hi p
 by_cases hlt:i<xs.length
 ·refine .inr ⟨⟨xs,xs[i],q,by simp[hlt]⟩,Pv (i+1),fun σ' H' p'=>⟨xs.length-(i+1),by omega,rfl,hlt,p'⟩,fun x H' y=>?_⟩
  obtain⟨e,y⟩:=y
  subst e
  exact hs i x σ _ (y xs q) p
 ·have e:i=xs.length:=by omega
  subst e
  exact .inl ⟨⟨xs,q,Nat.le_refl _⟩,hd σ H p⟩
theorem for_range {lo:Int}{n:Nat}{g:TG}{tb:TS}{D:Ends}{σ:St}{H:Hp}(Pv:Nat→St→Hp→Prop)(h0:Pv 0 σ H)
  (hs:∀i σ H,i<n→Pv i σ H→g (.int (lo+i)) σ H fun σ2 H2=>tb { D with nx:=Pv (i+1),ct:=Pv (i+1),bk:=D.nx } σ2 H2)(hd:∀σ H,Pv n σ H→D.nx σ H) :
  ∃W:Nat→Nat→St→Hp→Prop,(∃m,W 0 m σ H)∧∀i m σ H,W i m σ H →
   ((Itr lo n).stop i H∧D.nx σ H)∨((Itr lo n).go i H∧∃N:St→Hp→Prop,(∀σ' H',N σ' H'→∃m',m'<m∧W (i+1) m' σ' H')∧∀x H',(Itr lo n).yld i H x H'→g x σ H' fun σ2 H2=>tb { D with nx:=N,ct:=N,bk:=D.nx } σ2 H2):=by
 refine⟨fun i m σ H=>m=n-i∧i≤n∧Pv i σ H,⟨n,by simp,Nat.zero_le _,h0⟩,?_⟩
 rintro i m σ H ⟨rfl,hi,p⟩
 by_cases hlt:i<n
 ·refine .inr ⟨hlt,Pv (i+1),fun σ' H' p'=>⟨n-(i+1),by omega,rfl,hlt,p'⟩,fun x H' y=>?_⟩
  obtain⟨e,y⟩:=y
  subst e y
  exact hs i σ _ hlt p
 ·have e:i=n:=by omega
  subst e
  exact .inl ⟨Nat.le_refl _,hd σ H p⟩
theorem while_by {c:TT}{tb:TS}{D:Ends}{σ:St}{H:Hp}(Pv:St→Hp→Prop)(μ:St→Hp→Nat)(h0:Pv σ H)
  (hs:∀σ H,Pv σ H→c σ H fun b H1=>if b=true then tb { D with nx:=fun σ' H'=>Pv σ' H'∧μ σ' H'<μ σ H,ct:=fun σ' H'=>Pv σ' H'∧μ σ' H'<μ σ H,bk:=D.nx } σ H1 else D.nx σ H1)
  (mono:∀σ H Q Q',(∀b H1,Q b H1→Q' b H1)→c σ H Q→c σ H Q'):tWhile c tb D σ H:=by
 refine⟨fun m σ H=>m=μ σ H∧Pv σ H,⟨_,rfl,h0⟩,?_⟩
 rintro m σ H ⟨rfl,p⟩
 refine mono σ H _ _ (fun b H1 q=>?_) (hs σ H p)
 cases b with
 | true=>exact⟨_,fun σ' H' ⟨p',l⟩=>⟨_,l,rfl,p'⟩,q⟩
 | false=>exact q
end L2
namespace L2
open PySem PySem.Spec PyProof.Rows
noncomputable abbrev R2:=V→V→Hp→VK→Prop
def OpR (X:Cx)(f:Value→Value→Sem Value)(r:R2):Prop :=
 ∀(pins:List (Addr×Obj))(s:Shared)(σ:St)(H:Hp)(x y:V)(v u:Value)(Q:VK),Inv X pins σ H s→RelV x v→RelV y u→r x y H Q →
  wpAny (model X.prog X.w) X.A (f v u) (EP X pins σ Q) X.xe s
def UnR (X:Cx)(f:Value→Sem Value)(r:V→Hp→VK→Prop):Prop :=
 ∀(pins:List (Addr×Obj))(s:Shared)(σ:St)(H:Hp)(x:V)(v:Value)(Q:VK),Inv X pins σ H s→RelV x v→r x H Q →
  wpAny (model X.prog X.w) X.A (f v) (EP X pins σ Q) X.xe s
def CallR (X:Cx)(f:Value)(r:List V→Hp→VK→Prop):Prop :=
 ∀(pins:List (Addr×Obj))(s:Shared)(σ:St)(H:Hp)(xs:List V)(us:List Value)(Q:VK),Inv X pins σ H s→Vals xs us→r xs H Q →
  wpAny (model X.prog X.w) X.A (call f us) (EP X pins σ Q) X.xe s
def TruR (X:Cx)(r:V→Hp→(Bool→Hp→Prop)→Prop):Prop :=
 ∀(pins:List (Addr×Obj))(s:Shared)(σ:St)(H:Hp)(x:V)(v:Value)(Q:Bool→Hp→Prop),Inv X pins σ H s→RelV x v→r x H Q →
  wpAny (model X.prog X.w) X.A (truthy v) (TP X pins σ Q) X.xe s
def tOp (r:R2)(ta tb:TE):TE:=fun σ H Q=>ta σ H fun x H1=>tb σ H1 fun y H2=>r x y H2 Q
def tUn (r:V→Hp→VK→Prop)(ta:TE):TE:=fun σ H Q=>ta σ H fun x H1=>r x H1 Q
def rI (C:Int→Int→Prop)(g:Int→Int→V):R2:=fun x y H Q=>∃i j,x=.int i∧y=.int j∧C i j∧Q (g i j) H
def rI0 (g:Int→Int→V):R2:=fun x y H Q=>∃i j,x=.int i∧y=.int j∧Q (g i j) H
def rU (g:Int→V):V→Hp→VK→Prop:=fun x H Q=>∃i,x=.int i∧Q (g i) H
section
variable {X:Cx}{a b c:Expr}{ta tb tc:TE}{pos:Pos}
theorem binT (ha:PE X a ta)(hb:PE X b tb){pins:List (Addr×Obj)}{s:Shared}{σ:St}{H:Hp}{R:V→V→Hp→Prop}(I:Inv X pins σ H s)
  (h:ta σ H fun x H1=>tb σ H1 fun y H2=>R x y H2){Q:Value→Shared→Prop}{f:Value→Value→Sem Value}
  (hf:∀v u s2 x y H2,Inv X pins σ H2 s2→RelV x v→RelV y u→R x y H2→wpAny (model X.prog X.w) X.A (f v u) Q X.xe s2) :
  wpAny (model X.prog X.w) X.A (eval a X.env) (fun v s₁=>wpAny (model X.prog X.w) X.A (eval b X.env) (fun u s₂=>wpAny (model X.prog X.w) X.A (f v u) Q X.xe s₂) X.xe s₁) X.xe s:=by
 refine thn (ha pins s σ H _ I h) fun v s1 ⟨x,H1,I1,r1,q1⟩=>?_
 refine thn (hb pins s1 σ H1 _ I1 q1) fun u s2 ⟨y,H2,I2,r2,q2⟩=>?_
 exact hf v u s2 x y H2 I2 r1 r2 q2
theorem pe_op {op:Operator}{r:R2}(ho:OpR X (binaryOp op) r)(ha:PE X a ta)(hb:PE X b tb):PE X (.BinOp a op b pos) (tOp r ta tb):=by
 intro pins s σ H Q I h
 exact wpAny_BinOp (binT ha hb I h fun v u s2 x y H2 I2 rx ry q=>ho pins s2 σ H2 x y v u Q I2 rx ry q)
theorem pe_un {op:UnaryOp}{r:V→Hp→VK→Prop}(ho:UnR X (unaryOp op) r)(ha:PE X a ta):PE X (.UnaryOp op a pos) (tUn r ta):=by
 intro pins s σ H Q I h
 exact UnaryOp_ (thn (ha pins s σ H _ I h) fun v s1 ⟨x,H1,I1,r1,q1⟩=>ho pins s1 σ H1 x v Q I1 r1 q1)
theorem opI {f:Value→Value→Sem Value}{C:Int→Int→Prop}{g:Int→Int→Int}
  (rule:∀(i j:Int)(t u:Tok)(s:Shared)(Q:Value→Shared→Prop)(E:Value→Shared→Prop),C i j→Q (.int (g i j) s.toks) { s with toks:=s.toks+1 }→wpAny (model X.prog X.w) X.A (f (.int i t) (.int j u)) Q E s) :
  OpR X f (rI C fun i j=>.int (g i j)):=by
 intro pins s σ H x y v u Q I rx ry h
 obtain⟨i,j,rfl,rfl,hc,q⟩:=h
 obtain⟨t,rfl⟩:=rx
 obtain⟨t',rfl⟩:=ry
 exact rule i j t t' s _ _ hc ⟨.int (g i j),H,I.tok _,⟨_,rfl⟩,q⟩
theorem opI0 {f:Value→Value→Sem Value}{g:Int→Int→Int}
  (rule:∀(i j:Int)(t u:Tok)(s:Shared)(Q:Value→Shared→Prop)(E:Value→Shared→Prop),Q (.int (g i j) s.toks) { s with toks:=s.toks+1 }→wpAny (model X.prog X.w) X.A (f (.int i t) (.int j u)) Q E s) :
  OpR X f (rI0 fun i j=>.int (g i j)):=by
 intro pins s σ H x y v u Q I rx ry h
 obtain⟨i,j,rfl,rfl,q⟩:=h
 obtain⟨t,rfl⟩:=rx
 obtain⟨t',rfl⟩:=ry
 exact rule i j t t' s _ _ ⟨.int (g i j),H,I.tok _,⟨_,rfl⟩,q⟩
theorem opB0 {f:Value→Value→Sem Value}{g:Int→Int→Bool}
  (rule:∀(i j:Int)(t u:Tok)(s:Shared)(Q:Value→Shared→Prop)(E:Value→Shared→Prop),Q (.bool (g i j)) s→wpAny (model X.prog X.w) X.A (f (.int i t) (.int j u)) Q E s) :
  OpR X f (rI0 fun i j=>.bl (g i j)):=by
 intro pins s σ H x y v u Q I rx ry h
 obtain⟨i,j,rfl,rfl,q⟩:=h
 obtain⟨t,rfl⟩:=rx
 obtain⟨t',rfl⟩:=ry
 exact rule i j t t' s _ _ ⟨.bl (g i j),H,I,rfl,q⟩
def CDiv (i j:Int):Prop:=0<j∧j<1073741824
def CPow (i j:Int):Prop:=0≤j∧j≤1000000∧i.natAbs<2 ^ 64
def CMul (i j:Int):Prop:=(-(2 ^ 64)<i∧i<2 ^ 64)∨(-(2 ^ 64)<j∧j<2 ^ 64)
theorem CMul.ok {i j:Int}(h:CMul i j):IntMulOk i j:=by
 rcases h with ⟨h1,h2⟩|⟨h1,h2⟩
 ·exact .of_left (intBits_le_64 h1 h2)
 ·exact .of_right (intBits_le_64 h1 h2)
theorem two_pow_nn (k:Nat):(0:Int)≤2 ^ k:=by
 rw[two_pow_cast]
 exact Int.natCast_nonneg _
theorem op_add:OpR X (binaryOp .Add) (rI0 fun i j=>.int (i+j)):=opI0 fun _ _ _ _ _ _ _ q=>add_int q
theorem op_sub:OpR X (binaryOp .Sub) (rI0 fun i j=>.int (i-j)):=opI0 fun _ _ _ _ _ _ _ q=>sub_int q
theorem op_mul:OpR X (binaryOp .Mult) (rI CMul fun i j=>.int (i*j)):=opI fun _ _ _ _ _ _ _ hc q=>mul_int q hc.ok
theorem op_fdiv:OpR X (binaryOp .FloorDiv) (rI CDiv fun i j=>.int (i / j)):=opI fun i j _ _ _ _ _ hc q=>by
 have h1:(0:Int)<j:=hc.1
 have h2:j<1073741824:=hc.2
 exact floordiv_int (by omega) (by rw[Int.fdiv_eq_ediv_of_nonneg i (by omega)];exact q) (.inl (PyProof.noPylong_small (by omega)))
theorem op_mod:OpR X (binaryOp .Mod) (rI (fun _ j=>0<j) fun i j=>.int (i%j)):=opI fun i j _ _ _ _ _ hc q=>by
 have h1:(0:Int)<j:=hc
 exact mod_int' (by omega) (by rw[Int.fmod_eq_emod_of_nonneg i (by omega)];exact q)
theorem op_shl:OpR X (binaryOp .LShift) (rI CPow fun i j=>.int (i*2 ^ j.toNat)):=opI fun _ _ _ _ _ _ _ hc q=>lshift_int_small hc.1 hc.2.1 hc.2.2 q
theorem op_shr:OpR X (binaryOp .RShift) (rI (fun _ j=>0≤j) fun i j=>.int (i / 2 ^ j.toNat)):=opI fun i j _ _ _ _ _ hc q =>
 rshift_int hc (by rw[Int.fdiv_eq_ediv_of_nonneg i (two_pow_nn _)];exact q)
theorem unI {f:Value→Sem Value}{g:Int→Int}
  (rule:∀(i:Int)(t:Tok)(s:Shared)(Q:Value→Shared→Prop)(E:Value→Shared→Prop),Q (.int (g i) s.toks) { s with toks:=s.toks+1 }→wpAny (model X.prog X.w) X.A (f (.int i t)) Q E s) :
  UnR X f (rU fun i=>.int (g i)):=by
 intro pins s σ H x v Q I rx h
 obtain⟨i,rfl,q⟩:=h
 obtain⟨t,rfl⟩:=rx
 exact rule i t s _ _ ⟨.int (g i),H,I.tok _,⟨_,rfl⟩,q⟩
theorem un_neg:UnR X (unaryOp .USub) (rU fun i=>.int (-i)):=unI fun _ _ _ _ _ q=>neg_int q
end
noncomputable def scal:V→V→Bool
 |.non,.non=>true |.non,.int _=>true |.int _,.non=>true |.non,.bl _=>true |.bl _,.non=>true |.non,.str _=>true |.str _,.non=>true
 |.int _,.int _=>true |.bl _,.bl _=>true |.str _,.str _=>true |.byt _,.byt _=>true
 |.int _,.str _=>true |.str _,.int _=>true |.bl _,.str _=>true |.str _,.bl _=>true
 | _,_=>false
def rEq:R2:=fun x y H Q=>scal x y=true∧Q (.bl (decide (x=y))) H
def rNe:R2:=fun x y H Q=>scal x y=true∧Q (.bl (!decide (x=y))) H
theorem dec_int {i j:Int}:decide (V.int i=V.int j)=(i==j):=by
 rw[Bool.eq_iff_iff]
 simp
theorem dec_bl {i j:Bool}:decide (V.bl i=V.bl j)=(i==j):=by
 rw[Bool.eq_iff_iff]
 simp
theorem dec_str {i j:Str}:decide (V.str i=V.str j)=(i==j):=by
 rw[Bool.eq_iff_iff]
 simp
theorem dec_byt {i j:Array UInt8}:decide (V.byt i=V.byt j)=(i.toList==j.toList):=by
 rw[Bool.eq_iff_iff]
 cases i
 cases j
 simp
section
variable {X:Cx}{a b c:Expr}{ta tb tc:TE}{pos:Pos}
theorem fin_bl {pins:List (Addr×Obj)}{σ:St}{H:Hp}{s:Shared}{Q:VK}{k k':Bool}(I:Inv X pins σ H s)(q:Q (.bl k) H)(e:k=k'):EP X pins σ Q (.bool k') s:=by
 subst e
 exact⟨.bl k,H,I,rfl,q⟩
theorem op_eq:OpR X (compareOp .Eq) rEq:=by
 intro pins s σ H x y v u Q I rx ry h
 obtain⟨hs,q⟩:=h
 cases x with
 | non =>
  cases rx
  cases y with
  | non=>cases ry;exact PySem.EqNone.eq_none_none (fin_bl I q (by simp))
  | bl j=>cases ry;exact PySem.EqNone.eq_none_bool (fin_bl I q (by simp))
  | int j=>obtain⟨t',rfl⟩:=ry;exact PySem.EqNone.eq_none_int (fin_bl I q (by simp))
  | str j=>obtain⟨t',rfl⟩:=ry;exact PySem.EqNone.eq_none_str (fin_bl I q (by simp))
  | _=>exact absurd (show false=true from hs) Bool.false_ne_true
 | bl i =>
  cases rx
  cases y with
  | non=>cases ry;exact PySem.EqNone.eq_bool_none (fin_bl I q (by simp))
  | bl j=>cases ry;exact eq_bool (fin_bl I q dec_bl)
  | str j=>obtain⟨t',rfl⟩:=ry;exact PySem.EqMixed.eq_bool_str (fin_bl I q (by simp))
  | _=>exact absurd (show false=true from hs) Bool.false_ne_true
 | int i =>
  obtain⟨t,rfl⟩:=rx
  cases y with
  | non=>cases ry;exact PySem.EqNone.eq_int_none (fin_bl I q (by simp))
  | int j=>obtain⟨t',rfl⟩:=ry;exact eq_int (fin_bl I q dec_int)
  | str j=>obtain⟨t',rfl⟩:=ry;exact PySem.EqMixed.eq_int_str (fin_bl I q (by simp))
  | _=>exact absurd (show false=true from hs) Bool.false_ne_true
 | str i =>
  obtain⟨t,rfl⟩:=rx
  cases y with
  | non=>cases ry;exact PySem.EqNone.eq_str_none (fin_bl I q (by simp))
  | bl j=>cases ry;exact PySem.EqMixed.eq_str_bool (fin_bl I q (by simp))
  | int j=>obtain⟨t',rfl⟩:=ry;exact PySem.EqMixed.eq_str_int (fin_bl I q (by simp))
  | str j=>obtain⟨t',rfl⟩:=ry;exact eq_str (fin_bl I q dec_str)
  | _=>exact absurd (show false=true from hs) Bool.false_ne_true
 | byt i =>
  obtain⟨t,rfl⟩:=rx
  cases y with
  | byt j=>obtain⟨t',rfl⟩:=ry;exact PySem.W.eq_bytes (fin_bl I q dec_byt)
  | _=>exact absurd (show false=true from hs) Bool.false_ne_true
 | _=>cases y<;>exact absurd (show false=true from hs) Bool.false_ne_true
theorem op_ne:OpR X (compareOp .NotEq) rNe:=by
 intro pins s σ H x y v u Q I rx ry h
 obtain⟨hs,q⟩:=h
 cases x with
 | non =>
  cases rx
  cases y with
  | non=>cases ry;exact PySem.EqNone.ne_none_none (fin_bl I q (by simp))
  | bl j=>cases ry;exact PySem.EqNone.ne_none_bool (fin_bl I q (by simp))
  | int j=>obtain⟨t',rfl⟩:=ry;exact PySem.EqNone.ne_none_int (fin_bl I q (by simp))
  | str j=>obtain⟨t',rfl⟩:=ry;exact PySem.EqNone.ne_none_str (fin_bl I q (by simp))
  | _=>exact absurd (show false=true from hs) Bool.false_ne_true
 | bl i =>
  cases rx
  cases y with
  | non=>cases ry;exact PySem.EqNone.ne_bool_none (fin_bl I q (by simp))
  | bl j=>cases ry;exact ne_bool (fin_bl I q (congrArg not dec_bl))
  | str j=>obtain⟨t',rfl⟩:=ry;exact PySem.EqMixed.ne_bool_str (fin_bl I q (by simp))
  | _=>exact absurd (show false=true from hs) Bool.false_ne_true
 | int i =>
  obtain⟨t,rfl⟩:=rx
  cases y with
  | non=>cases ry;exact PySem.EqNone.ne_int_none (fin_bl I q (by simp))
  | int j=>obtain⟨t',rfl⟩:=ry;exact ne_int (fin_bl I q (congrArg not dec_int))
  | str j=>obtain⟨t',rfl⟩:=ry;exact PySem.EqMixed.ne_int_str (fin_bl I q (by simp))
  | _=>exact absurd (show false=true from hs) Bool.false_ne_true
 | str i =>
  obtain⟨t,rfl⟩:=rx
  cases y with
  | non=>cases ry;exact PySem.EqNone.ne_str_none (fin_bl I q (by simp))
  | bl j=>cases ry;exact PySem.EqMixed.ne_str_bool (fin_bl I q (by simp))
  | int j=>obtain⟨t',rfl⟩:=ry;exact PySem.EqMixed.ne_str_int (fin_bl I q (by simp))
  | str j=>obtain⟨t',rfl⟩:=ry;exact ne_str (fin_bl I q (congrArg not dec_str))
  | _=>exact absurd (show false=true from hs) Bool.false_ne_true
 | byt i =>
  obtain⟨t,rfl⟩:=rx
  cases y with
  | byt j=>obtain⟨t',rfl⟩:=ry;exact PySem.W.ne_bytes (fin_bl I q (congrArg not dec_byt))
  | _=>exact absurd (show false=true from hs) Bool.false_ne_true
 | _=>cases y<;>exact absurd (show false=true from hs) Bool.false_ne_true
theorem op_lt:OpR X (compareOp .Lt) (rI0 fun i j=>.bl (decide (i<j))):=opB0 fun _ _ _ _ _ _ _ q=>lt_int q
theorem op_le:OpR X (compareOp .LtE) (rI0 fun i j=>.bl (decide (i≤j))):=opB0 fun _ _ _ _ _ _ _ q=>le_int q
theorem op_gt:OpR X (compareOp .Gt) (rI0 fun i j=>.bl (decide (j<i))):=opB0 fun _ _ _ _ _ _ _ q=>gt_int q
theorem op_ge:OpR X (compareOp .GtE) (rI0 fun i j=>.bl (decide (j≤i))):=opB0 fun _ _ _ _ _ _ _ q=>ge_int q
theorem op_isN:OpR X (compareOp .Is) (fun x y H Q=>y=.non∧Q (.bl (decide (x=.non))) H):=by
 intro pins s σ H x y v u Q I rx ry h
 obtain⟨rfl,q⟩:=h
 cases ry
 refine is_none_gen (fin_bl I q ?_)
 cases x<;>first
  |(cases rx;rfl)
  |(obtain⟨t,rfl⟩:=rx;rfl)
theorem nomark (b:Expr){op:CmpOp}(h:op≠.In:=by decide)(h2:op≠.NotIn:=by decide):behindInMarks op b=false:=by
 have e1:(op==CmpOp.In)=false:=by cases op<;>first|rfl|exact absurd rfl h
 have e2:(op==CmpOp.NotIn)=false:=by cases op<;>first|rfl|exact absurd rfl h2
 cases b<;>simp[behindInMarks,e1,e2]
theorem pe_cmpR {op:CmpOp}{r:R2}(ho:OpR X (compareOp op) r)(ha:PE X a ta)(hb:PE X b tb)(hm:behindInMarks op b=false):PE X (.Compare a [op] [b] pos) (tOp r ta tb):=by
 intro pins s σ H Q I h
 exact wpAny_Compare1 (binT ha hb I h fun v u s2 x y H2 I2 rx ry q=>ho pins s2 σ H2 x y v u Q I2 rx ry q) hm
def tTest (t:TE):TT:=fun σ H Q=>t σ H fun x H'=>∃k,x=.bl k∧Q k H'
theorem pt_cmpR {op:CmpOp}{r:R2}(ho:OpR X (compareOp op) r)(ha:PE X a ta)(hb:PE X b tb)(hm:behindInMarks op b=false):PT X (.Compare a [op] [b] pos) (tTest (tOp r ta tb)):=by
 intro pins s σ H Q I h
 refine wpAny_isTrue_Compare1 (thn (ha pins s σ H _ I h) fun v s1 ⟨x,H1,I1,r1,q1⟩=>thn (hb pins s1 σ H1 _ I1 q1) fun u s2 ⟨y,H2,I2,r2,q2⟩ =>
  thn (ho pins s2 σ H2 x y v u _ I2 r1 r2 q2) fun c s3 ⟨z,H3,I3,r3,k,e,q3⟩=>?_) hm
 subst e
 cases r3
 exact wpAny_truthy_bool ⟨H3,I3,q3⟩
def TruV (K : PySem.W.Frag) (x : V) (H : Hp) (k : Bool) : Prop :=
  match x with
  | .non=>k = false
  | .bl b=>k = b
  | .int i=>k = (i != 0)
  | .str y=>y.length≤sizeLine∧k = ((y.length : Int) != 0)
  | .byt y=>y.size≤sizeLine∧k = ((y.size : Int) != 0)
  | .ref p=>(∃ xs,SqL K H p xs∧k = !xs.isEmpty) ∨ (∃ xs,SqT K H p xs∧k = !xs.isEmpty) ∨ ∃ kvs,H p = some (.dK kvs)∧k = !kvs.isEmpty
  | _=>False
theorem isEmpty_kv {κ:Type}{kvs:List (κ×V)}{vs:List (κ×Value)}(r:KV kvs vs):(!vs.isEmpty) = !kvs.isEmpty:=by
 cases r<;>rfl
theorem isEmpty_of {xs:List V}{its:List Value}(r:Vals xs its):(!its.toArray.isEmpty) = !xs.isEmpty:=by
 cases r<;>simp
theorem line63:(sizeLine:Nat)<2 ^ 63:=by rw[sizeLine_eq];decide
theorem tru_ok : TruR X (fun x H Q => ∃ k,TruV X.K x H k∧Q k H):=by
  intro pins s σ H x v Q I rx h
  obtain ⟨k,e,q⟩:=h
  have hl:=line63
  have hs : sizeLine = 16777216:=sizeLine_eq
  cases x with
  | non =>
    cases rx
    have e' : k = false:=e
    subst e'
    exact truthy_none ⟨H,I,q⟩
  | bl b =>
    cases rx
    have e' : k = b:=e
    subst e'
    exact wpAny_truthy_bool ⟨H,I,q⟩
  | int i =>
    obtain ⟨t,rfl⟩:=rx
    have e' : k = (i != 0):=e
    subst e'
    exact PySem.P.truthy_int ⟨H,I,q⟩
  | str y =>
    obtain ⟨t,rfl⟩:=rx
    obtain ⟨hy,e'⟩ : y.length≤sizeLine∧k = ((y.length : Int) != 0):=e
    subst e'
    exact PySem.P.truthy_str (by omega) ⟨H,I.tok _,q⟩
  | byt y =>
    obtain ⟨t,rfl⟩:=rx
    obtain ⟨hy,e'⟩ : y.size≤sizeLine∧k = ((y.size : Int) != 0):=e
    subst e'
    exact PySem.W.truthy_bytes (by omega) ⟨H,I.tok _,q⟩
  | ref p =>
    cases rx
    have e' : (∃ xs,SqL X.K H p xs∧k = !xs.isEmpty) ∨ (∃ xs,SqT X.K H p xs∧k = !xs.isEmpty) ∨ ∃ kvs,H p = some (.dK kvs)∧k = !kvs.isEmpty:=e
    rcases e' with ⟨xs,hx,e'⟩ | ⟨xs,hx,e'⟩ | ⟨kvs,hx,e'⟩
    · subst e'
      obtain ⟨its,r,pl,hz⟩:=I.list hx
      have hlen:=r.length
      exact wpAny_truthy_list pl.isList (by simp only [List.size_toArray]; omega) ⟨H,I.tok _,by rw [isEmpty_of r]; exact q⟩
    · subst e'
      obtain ⟨its,r,pl,hz⟩:=I.tuple hx
      have hlen:=r.length
      exact truthy_tuple pl (by simp only [List.size_toArray]; omega) ⟨H,I.tok _,by rw [isEmpty_of r]; exact q⟩
    · subst e'
      obtain ⟨hz,hS,vs,r,m⟩ : kvs.length≤sizeLine∧(p == sysModules) = false ∧ ∃ vs,KV kvs vs∧s.heap.DictOf (mixKind X.prog X.w) p vs:=I.hok p _ hx
      have hlen : kvs.length = vs.length:=Paired.length r
      exact wpAny_truthy_dict hS m (by omega) ⟨H,I.tok _,by rw [isEmpty_kv r]; exact q⟩
  | _=>exact (show False from e).elim
theorem pt_truth (ha:PE X a ta)(he:∀whole,isTrue a X.env whole=(do let v ←whole;standAt a.pos;holding [v] (truthy v))) :
  PT X a (fun σ H Q=>ta σ H fun x H'=>∃k,TruV X.K x H' k∧Q k H'):=by
 intro pins s σ H Q I h
 exact isTrue_plain (thn (ha pins s σ H _ I h) fun v s1 ⟨x,H1,I1,r1,q1⟩=>tru_ok pins s1 σ H1 x v Q I1 r1 q1) (he _)
theorem vals1 {x:V}{us:List Value}(r:Vals [x] us):∃u,us=[u]∧RelV x u:=by
 cases r with
 | cons r1 r2=>cases r2;exact⟨_,rfl,r1⟩
theorem vals2 {x y:V}{us:List Value}(r:Vals [x,y] us):∃u w',us=[u,w']∧RelV x u∧RelV y w':=by
 cases r with
 | cons r1 r2 =>
  cases r2 with
  | cons r3 r4=>cases r4;exact⟨_,_,rfl,r1,r3⟩
theorem call_abs:CallR X (.builtin "abs") (fun xs H Q=>∃i,xs=[.int i]∧Q (.int (if i<0 then -i else i)) H):=by
 intro pins s σ H xs us Q I r h
 obtain⟨i,rfl,q⟩:=h
 obtain⟨u,rfl,t,rfl⟩:=vals1 r
 exact call_abs_int fun u tk=>⟨.int (if i<0 then -i else i),H,I.tok _,⟨_,rfl⟩,q⟩
theorem call_max2 (hc:X.calm=true):CallR X (.builtin "max") (fun xs H Q=>∃i j,xs=[.int i,.int j]∧Q (.int (if j>i then j else i)) H):=by
 intro pins s σ H xs us Q I r h
 obtain⟨i,j,rfl,q⟩:=h
 obtain⟨u,w',rfl,⟨t,rfl⟩,⟨t',rfl⟩⟩:=vals2 r
 refine max_two_ints (I.ok.hd hc) fun h' tk k=>⟨_,H,I.kept k,?_,q⟩
 by_cases hj:j>i
 ·rw[if_pos hj,if_pos hj];exact⟨_,rfl⟩
 ·rw[if_neg hj,if_neg hj];exact⟨_,rfl⟩
theorem call_min2 (hc:X.calm=true):CallR X (.builtin "min") (fun xs H Q=>∃i j,xs=[.int i,.int j]∧Q (.int (if j<i then j else i)) H):=by
 intro pins s σ H xs us Q I r h
 obtain⟨i,j,rfl,q⟩:=h
 obtain⟨u,w',rfl,⟨t,rfl⟩,⟨t',rfl⟩⟩:=vals2 r
 refine min_two_ints (I.ok.hd hc) fun h' tk k=>⟨_,H,I.kept k,?_,q⟩
 by_cases hj:j<i
 ·rw[if_pos hj,if_pos hj];exact⟨_,rfl⟩
 ·rw[if_neg hj,if_neg hj];exact⟨_,rfl⟩
theorem call_int1:CallR X (.type "int") (fun xs H Q=>(∃i,xs=[.int i]∧Q (.int i) H)∨∃k,xs=[.bl k]∧Q (.int (if k then 1 else 0)) H):=by
 intro pins s σ H xs us Q I r h
 rcases h with ⟨i,rfl,q⟩|⟨k,rfl,q⟩
 ·obtain⟨u,rfl,t,rfl⟩:=vals1 r
  exact call_int_int ⟨.int i,H,I,⟨_,rfl⟩,q⟩
 ·obtain⟨u,rfl,r1⟩:=vals1 r
  cases r1
  exact call_int_bool ⟨.int (if k then 1 else 0),H,I.tok _,⟨_,rfl⟩,q⟩
end
end L2
namespace L2
open PySem PySem.Spec PyProof.Rows
structure ObjM (h:Heap)(x dx C:Addr)(mA:Str→Option Value):Prop where
 obj:h.get? x=some (PySem.W.instObj C dx)
 ns:h.Ns1 dx mA
 ne:dx≠x
theorem lookIn_ns {h:Heap}{dx:Addr}{mA:Str→Option Value}(n:h.Ns1 dx mA):∃od,h.get? dx=some od∧∀name,PySem.W.lookIn name od=some (mA name):=by
 obtain⟨o,es,ep,ho,hd,hk,_,hm⟩:=n
 refine⟨o,ho,fun name=>?_⟩
 have e:=hm name
 unfold nsFind findBy at e
 rw[←Array.find?_toList]at e
 unfold PySem.W.lookIn
 rw[hd]
 dsimp only
 split
 ·rename_i y q
  rw[q]at e
  exact congrArg some e
 ·rename_i q
  rw[q]at e
  have a:es.toList.any (·.refKey)=false:=by
   rw[List.any_eq_false]
   intro y hy
   obtain⟨z,t,hkey⟩:=hk y (Array.mem_toList_iff.mp hy)
   simp[DictEntry.refKey,hkey]
  have a':¬es.toList.any (·.refKey)=true:=by rw[a];exact Bool.false_ne_true
  rw[if_neg a']
  exact congrArg some e
theorem ObjM.look {h:Heap}{x dx C:Addr}{mA:Str→Option Value}(I:ObjM h x dx C mA):∃od,PySem.W.InstAt h x (PySem.W.instObj C dx) C (some od)∧∀name,PySem.W.lookIn name od=some (mA name) :=
 let ⟨od,ho,hl⟩:=lookIn_ns I.ns
 ⟨od,⟨I.obj,rfl,rfl,ho⟩,hl⟩
section
variable {prog:Program}{w:World}{A:Around}{E:Value→Shared→Prop}{s:Shared}{K:PySem.W.Frag}{x dx C f:Addr}{mA:Str→Option Value}{name:Str}{v:Value}
theorem get_map {expr:Bool}{Q:Value→Shared→Prop}(X:K.In s.heap)(I:ObjM s.heap x dx C mA)(hg:PySem.W.plainGet K C name=true)(hh:PySem.W.hasDictIn K C=true)
  (ha:PySem.W.findIn K (.ref C) name=some none)(hv:mA name=some v)(hv':PySem.W.handedIn v=true)(h:Q v { s with toks:=s.toks+1 }) :
  wpAny (model prog w) A (getAttr (.ref x) name expr) Q E s:=by
 obtain⟨od,J,hl⟩:=I.look
 exact PySem.W.get_value X J (PySem.W.plainGet_of hg).1 (PySem.W.findObj_own hh ha rfl (by rw[hl,hv])) hv' h
theorem get_meth {pl:Sem Bool}{Q:Value×List Value→Shared→Prop}(X:K.In s.heap)(I:ObjM s.heap x dx C mA)(hg:PySem.W.plainGet K C name=true)
  (hf:PySem.W.findIn K (.ref C) name=some (some (.ref f)))(ht:PySem.W.isFn K (.ref f)=true)(hv:mA name=none)(h:Q (.ref f,[.ref x]) s) :
  wpAny (model prog w) A (getMethod (.ref x) name pl) Q E s:=by
 obtain⟨od,J,hl⟩:=I.look
 exact PySem.W.method_fn X J (PySem.W.plainGet_of hg).1 (PySem.W.plainGet_of hg).2 hf (beq_iff_eq.mp ht) (by show(PySem.W.lookIn name od).map (·.isSome)=some false;rw[hl,hv];rfl) h
theorem set_map {ns:List Str}{Q:Unit→Shared→Prop}(X:K.In s.heap)(I:ObjM s.heap x dx C mA)
  (hs:PySem.W.findIn K (.ref C) "__setattr__"=some (some (.builtin "object.__setattr__")))(hp:PySem.W.plainOver K C=true)(ht:PySem.W.takerIn K C name=some none)(hh:PySem.W.hasDictIn K C=true)
  (hw:PySem.Within mA ns)(hsz:ns.length≤sizeLine)
  (h:∀h',ObjM h' x dx C (fun y=>if y=name then some v else mA y)→Heap.SameBut dx s.heap h'→Q () { s with heap:=h',toks:=s.toks+2 }) :
  wpAny (model prog w) A (setAttr (.ref x) name v) Q E s:=by
 obtain⟨od,J,hl⟩:=I.look
 refine PySem.W.set_plain X J hs (PySem.W.osa_open (s:={ s with toks:=s.toks+1 }) (r:=none) X J hp ht fun b=>?_)
 obtain⟨cd,hc,hd'⟩:=PySem.W.any_some hh
 have hx:s.heap.get? x=some ⟨.ref C,some dx,.plain,#[]⟩:=I.obj
 refine wpAny_bind (wpAny_pure (wpAny_bind (wpAny_bind (wpAny_loadPart hx (wpAny_bind (PySem.W.Looks.here (s:={ s with toks:=s.toks+1 }) (PySem.W.looks_clsIn X hc) ?_))))))
 rw[hd']
 refine wpAny_pure (a:=some dx) (wpAny_bind (wpAny_pure (wpAny_bind ?_)))
 refine wpAny_nsSet1 (s:={ s with toks:=s.toks+1 }) I.ns fun h' hn2 hs2=>?_
 obtain⟨oD,esD,epD,hoD,hdD,hcD⟩:=hn2.count (PySem.Within.cons name v hw)
 refine wpAny_bind (wpAny_lookBehind hoD (by rw[hdD];exact pastItsLine_dict (Nat.le_trans hcD (by rw[List.length_cons];omega))) ?_)
 exact wpAny_pure (h _ ⟨(hs2.2 _ (Ne.symm I.ne)).trans I.obj,hn2,I.ne⟩ hs2)
theorem make_map {R:Result→Shared→Prop}{vs:List Value}{kw:List (Str×Value)}(X:K.In s.heap)(hm:PySem.W.makesIn K C=true)
  (hi:PySem.W.findIn K (.ref C) "__init__"=some (some (.ref f)))(hf:PySem.W.typeIn K (.ref f)=some (.type "function"))
  (h:codeAny (model prog w) (A.under (.builtin "type.__call__" ⟨.ref C::vs,kw⟩)) (.call (.ref f) ⟨.ref (s.heap.objs.size+1)::vs,kw⟩) (PySem.W.InitBack (s.heap.objs.size+1) R)
   { s with heap:=(s.heap.push PySem.W.emptyDict).push (PySem.W.instObj C s.heap.objs.size) }) :
  codeAny (model prog w) A (.call (.ref C) ⟨vs,kw⟩) R s:=by
 obtain⟨hh,g,d,t,os⟩:=s
 exact PySem.W.make_core (PySem.W.makes_of X hm) (PySem.W.looks_findIn X hi) (fun self=>PySem.W.bind_fn X self hf) (.inl rfl) h
end
noncomputable def putF (f:Str)(v:V):List (Str×V)→List (Str×V)
 | []=>[(f,v)]
 |(g,x)::r=>if g=f then (g,v)::r else (g,x)::putF f v r
theorem lookup_putF (f g:Str)(v:V):∀fs:List (Str×V),(putF f v fs).lookup g=if g=f then some v else fs.lookup g
 | []=>by
  show List.lookup g [(f,v)]=_
  by_cases h:g=f
  ·have hb:(g==f)=true:=beq_iff_eq.mpr h
   simp only[List.lookup,hb,if_pos h]
  ·have hb:(g==f)=false:=beq_eq_false_iff_ne.mpr h
   simp only[List.lookup,hb,if_neg h]
 |(k,x)::r=>by
  have ih:=lookup_putF f g v r
  rw[show putF f v ((k,x)::r)=(if k=f then (k,v)::r else (k,x)::putF f v r)from rfl]
  by_cases hk:k=f
  ·rw[if_pos hk]
   by_cases h:g=k
   ·have hb:(g==k)=true:=beq_iff_eq.mpr h
    simp only[List.lookup,hb,if_pos (h.trans hk)]
   ·have hb:(g==k)=false:=beq_eq_false_iff_ne.mpr h
    simp only[List.lookup,hb,if_neg (fun e:g=f=>h (e.trans hk.symm))]
  ·rw[if_neg hk]
   by_cases h:g=k
   ·have hb:(g==k)=true:=beq_iff_eq.mpr h
    simp only[List.lookup,hb,if_neg (fun e:g=f=>hk (h.symm.trans e))]
   ·have hb:(g==k)=false:=beq_eq_false_iff_ne.mpr h
    simp only[List.lookup,hb]
    exact ih
theorem keys_putF (f:Str)(v:V):∀fs:List (Str×V),f∈(putF f v fs).map (·.1)∧∀g,g∈fs.map (·.1)→g∈(putF f v fs).map (·.1)
 | []=>⟨by simp[putF],fun g h=>by simp at h⟩
 |(k,x)::r=>by
  obtain⟨i1,i2⟩:=keys_putF f v r
  rw[show putF f v ((k,x)::r)=(if k=f then (k,v)::r else (k,x)::putF f v r)from rfl]
  by_cases hk:k=f
  ·rw[if_pos hk]
   subst hk
   exact⟨by simp,fun g h=>by simpa using h⟩
  ·rw[if_neg hk]
   refine⟨?_,fun g h=>?_⟩
   ·rw[List.map_cons]
    exact List.mem_cons_of_mem _ i1
   ·rw[List.map_cons]at h ⊢
    rcases List.mem_cons.mp h with e|e
    ·exact List.mem_cons.mpr (.inl e)
    ·exact List.mem_cons_of_mem _ (i2 g e)
theorem length_putF (f:Str)(v:V):∀fs:List (Str×V),(putF f v fs).length≤fs.length+1
 | []=>by simp[putF]
 |(k,x)::r=>by
  have ih:=length_putF f v r
  rw[show putF f v ((k,x)::r)=(if k=f then (k,v)::r else (k,x)::putF f v r)from rfl]
  by_cases hk:k=f
  ·rw[if_pos hk,List.length_cons,List.length_cons];omega
  ·rw[if_neg hk,List.length_cons,List.length_cons];omega
theorem RelO.some_of {v:V}{o:Option Value}(r:RelO (some v) o):∃u,o=some u∧RelV v u:=by
 cases o with
 | none=>exact(show False from r).elim
 | some u=>exact⟨u,rfl,r⟩
theorem RelO.none_of {o:Option Value}(r:RelO none o):o=none:=by
 cases o with
 | none=>rfl
 | some u=>exact(show False from r).elim
theorem handed_of {v:V}{u:Value}(r:RelV v u):PySem.W.handedIn u=true:=by
 cases v with
 | non=>cases (show u=Value.none from r);rfl
 | bl b=>cases (show u=Value.bool b from r);rfl
 | int i=>obtain⟨t,e⟩:=(show ∃t,u=Value.int i t from r);cases e;rfl
 | str x=>obtain⟨t,e⟩:=(show ∃t,u=Value.str x t from r);cases e;rfl
 | byt b=>obtain⟨t,e⟩:=(show ∃t,u=Value.bytes b t from r);cases e;rfl
 | flt b=>obtain⟨t,e⟩:=(show ∃t,u=Value.float b t from r);cases e;rfl
 | ref a=>cases (show u=Value.ref a from r);rfl
 | ty n=>cases (show u=Value.type n from r);rfl
section
variable {P:Program}{w:World}{H H':Hp}{h h':Heap}{a C dx:Addr}{fs fs':List (Str×V)}
theorem ins_get (hok:HOk P w H h)(e:H a=some (.ins C dx fs)):∃mA,ObjM h a dx C mA∧(∀f,RelO (fs.lookup f) (mA f))∧PySem.Within mA (fs.map (·.1))∧fs.length≤1000∧H dx=some (.own a):=by
 obtain⟨d,z,ne,ob,mA,n,r,q⟩:=(show ObjOk P w H h a (.ins C dx fs)from hok a _ e)
 exact⟨mA,⟨ob,n,ne⟩,r,q,z,d⟩
end
structure Cls (K:PySem.W.Frag)(C:Addr):Prop where
 pg:PySem.W.plainGet K C Str.empty=true
 hd:PySem.W.hasDictIn K C=true
 po:PySem.W.plainOver K C=true
 sa:PySem.W.findIn K (.ref C) "__setattr__"=some (some (.builtin "object.__setattr__"))
theorem Cls.get {K:PySem.W.Frag}{C:Addr}(c:Cls K C)(f:Str):PySem.W.plainGet K C f=true:=c.pg
def NoAttr (K:PySem.W.Frag)(C:Addr)(f:Str):Prop:=PySem.W.findIn K (.ref C) f=some none
theorem NoAttr.taker {K:PySem.W.Frag}{C:Addr}{f:Str}(n:NoAttr K C f):PySem.W.takerIn K C f=some none:=by
 unfold PySem.W.takerIn
 rw[show PySem.W.findIn K (.ref C) f=some none from n]
 rfl
structure Con (K:PySem.W.Frag)(C:Addr)(f:Str)(v:V)(u:Value):Prop where
 at_:PySem.W.findIn K (.ref C) f=some (some u)
 rel:RelV v u
 get:PySem.W.specialIn K u "__get__"=some none
 cp:PySem.W.copiedNames.contains f=false
structure Meth (K:PySem.W.Frag)(C:Addr)(m:Str)(f:Addr):Prop where
 at_:PySem.W.findIn K (.ref C) m=some (some (.ref f))
 fn:PySem.W.isFn K (.ref f)=true
 kp:PySem.W.keepIn K (.ref f)=true
section
variable {X:Cx}{pins:List (Addr×Obj)}{σ:St}{H:Hp}{s:Shared}{a C dx:Addr}{fs:List (Str×V)}{f:Str}{v:V}{A:Around}{E:Value→Shared→Prop}
theorem getattr_ok {b:Bool}{Q:Value→Shared→Prop}(I:Inv X pins σ H s)(e:H a=some (.ins C dx fs))(c:Cls X.K C)(n:NoAttr X.K C f)(l:fs.lookup f=some v)
  (h:∀u s',Inv X pins σ H s'→RelV v u→Q u s'):wpAny (model X.prog X.w) A (getAttr (.ref a) f b) Q E s:=by
 obtain⟨mA,O,r,_,_,_⟩:=ins_get I.hok e
 obtain⟨u,hu,ru⟩:=RelO.some_of (v:=v) (o:=mA f) (by rw[←l];exact r f)
 exact get_map I.kIn O (c.get f) c.hd n hu (handed_of ru) (h u _ (I.tok _) ru)
theorem getmeth_ok {m:Str}{g:Addr}{pl:Sem Bool}{Q:Value×List Value→Shared→Prop}(I:Inv X pins σ H s)(e:H a=some (.ins C dx fs))(c:Cls X.K C)(k:Meth X.K C m g)(l:fs.lookup m=none)
  (h:Q (.ref g,[.ref a]) s):wpAny (model X.prog X.w) A (getMethod (.ref a) m pl) Q E s:=by
 obtain⟨mA,O,r,_,_,_⟩:=ins_get I.hok e
 have hn:mA m=none:=RelO.none_of (by rw[←l];exact r m)
 exact get_meth I.kIn O (c.get m) k.at_ k.fn hn h
theorem setattr_ok {y:V}{u:Value}{Q:Unit→Shared→Prop}(I:Inv X pins σ H s)(e:H a=some (.ins C dx fs))(c:Cls X.K C)(n:NoAttr X.K C f)(hl:fs.length<1000)(ry:RelV y u)
  (h:∀s',Inv X pins σ (upd H a (.ins C dx (putF f y fs))) s'→Q () s'):wpAny (model X.prog X.w) A (setAttr (.ref a) f u) Q E s:=by
 obtain⟨mA,O,r,wi,_,ho⟩:=ins_get I.hok e
 have hz:(fs.map (·.1)).length≤sizeLine:=by rw[List.length_map,sizeLine_eq];omega
 refine set_map I.kIn O c.sa c.po n.taker c.hd wi hz fun h' O' sb=>h _ ?_
 have hd:∃o,h'.get? dx=some o:=let ⟨o,_,_,e',_⟩:=O'.ns;⟨o,e'⟩
 refine I.write (x:=a) (e:=dx) (by rw[e];exact True.intro) (.inr ho) (fun b q hb z=>(sb.2 b hb).trans z) hd ?_
 refine⟨by rw[upd_ne O.ne];exact ho,?_,O.ne,O'.obj,_,O'.ns,fun g=>?_,fun g hg=>?_⟩
 ·have:=length_putF f y fs;omega
 ·show RelO ((putF f y fs).lookup g) (if g=f then some u else mA g)
  rw[lookup_putF]
  by_cases q:g=f
  ·rw[if_pos q,if_pos q];exact ry
  ·rw[if_neg q,if_neg q];exact r g
 ·by_cases q:g=f
  ·rw[q];exact(keys_putF f y fs).1
  ·refine(keys_putF f y fs).2 g (wi g fun z=>hg ?_)
   show(if g=f then some u else mA g)=none
   rw[if_neg q];exact z
theorem Inv.made (I:Inv X pins σ H s):Inv X pins σ (upd (upd H s.heap.objs.size (.own (s.heap.objs.size+1))) (s.heap.objs.size+1) (.ins C s.heap.objs.size []))
  { s with heap:=(s.heap.push PySem.W.emptyDict).push (PySem.W.instObj C s.heap.objs.size) }:=by
 have e1:(s.heap.push PySem.W.emptyDict).get? s.heap.objs.size=some PySem.W.emptyDict:=Heap.get?_push_size s.heap rfl
 have e2:((s.heap.push PySem.W.emptyDict).push (PySem.W.instObj C s.heap.objs.size)).get? (s.heap.objs.size+1)=some (PySem.W.instObj C s.heap.objs.size):=by
  have:=Heap.get?_push_size (s.heap.push PySem.W.emptyDict) (o:=PySem.W.instObj C s.heap.objs.size) rfl
  rwa[Heap.size_push]at this
 have e3:(s.heap.push PySem.W.emptyDict).Ns s.heap.objs.size (fun _=>none):=⟨PySem.W.emptyDict,#[],_,e1,rfl,(fun e he=>absurd he (by simp)),fun _=>rfl⟩
 have I1:=I.laid (a:=s.heap.objs.size) (o:=.own (s.heap.objs.size+1)) (h':=s.heap.push PySem.W.emptyDict) (t':=s.toks) (fun b u q=>Heap.get?_push_of_some _ q) (Nat.le_refl _) ⟨_,e1⟩
 refine I1.laid (a:=s.heap.objs.size+1) (o:=.ins C s.heap.objs.size []) (t':=s.toks) (fun b u q=>Heap.get?_push_of_some _ q) (Nat.le_of_eq (Heap.size_push _ _)) ?_
 have ne:s.heap.objs.size≠s.heap.objs.size+1:=Nat.ne_of_lt (Nat.lt_succ_self _)
 refine⟨by rw[upd_ne ne,upd_same],Nat.zero_le _,ne,e2,fun _=>none,(Heap.Ns1.of_empty e3).at fun o q=>Heap.get?_push_of_some _ q,fun _=>True.intro,fun y hy=>absurd rfl hy⟩
theorem attr_of {prog:Program}{w:World}{env:Env}{e:Expr}{f:Str}{pos:Pos}{s:Shared}{Q:Value→Shared→Prop}(hb:attributeBase e f env (eval e env)=eval e env)
  (h:wpAny (model prog w) A (eval e env) (fun o s₁=>wpAny (model prog w) A (getAttr o f true) Q E s₁) E s):wpAny (model prog w) A (eval (.Attribute e f pos) env) Q E s :=
 Attribute_any_ h (by rw[arm_eval_Attribute,hb])
end
def tFld (K:PySem.W.Frag)(ta:TE)(f:Str):TE:=fun σ H Q=>ta σ H fun x H1=>∃a C dx fs v,x=.ref a∧H1 a=some (.ins C dx fs)∧Cls K C∧NoAttr K C f∧fs.lookup f=some v∧Q v H1
def sFld (K:PySem.W.Frag)(ta tv:TE)(f:Str):TS:=fun D σ H=>tv σ H fun y H1=>ta σ H1 fun x H2=>∃a C dx fs,x=.ref a∧H2 a=some (.ins C dx fs)∧Cls K C∧NoAttr K C f∧fs.length<1000 ∧
 D.nx σ (upd H2 a (.ins C dx (putF f y fs)))
section
variable {X:Cx}{o e value:Expr}{f:Str}{pos pos' tpos:Pos}{ta tv:TE}
theorem pe_fld (he:PE X e ta)(hb:attributeBase e f X.env (eval e X.env)=eval e X.env):PE X (.Attribute e f pos) (tFld X.K ta f):=by
 intro pins s σ H Q I h
 refine attr_of hb (thn (he pins s σ H _ I h) fun u s1 ⟨x,H1,I1,rx,a,C,dx,fs,v,ex,ea,c,n,l,q⟩=>?_)
 subst ex
 obtain rfl:u=Value.ref a:=rx
 exact getattr_ok I1 ea c n l fun u' s2 I2 ru=>⟨v,H1,I2,ru,q⟩
theorem ps_fld (ha:PE X o ta)(hv:PE X value tv)(hs:swapsWith value (some (.Attribute o f pos')) pos.line X.env=pure false):PS X (.Assign [.Attribute o f pos'] value pos) (sFld X.K ta tv f):=by
 intro pins s σ H D I h
 refine plainObj_wpAny_Assign_Attribute (thn (hv pins s σ H _ I h) fun u s1 ⟨y,H1,I1,ry,q⟩=>thn (ha pins s1 σ H1 _ I1 q) fun ov s2 ⟨x,H2,I2,rx,a,C,dx,fs,ex,ea,c,n,l,q2⟩=>?_) hs
 subst ex
 obtain rfl:ov=Value.ref a:=rx
 exact setattr_ok I2 ea c n l ry fun s3 I3=>⟨σ,_,I3,q2⟩
end
section
variable {X:Cx}{pins:List (Addr×Obj)}{σ:St}{H:Hp}{s:Shared}{A:Around}{E:Value→Shared→Prop}{Q:Value→Shared→Prop}{c:Value}{b:Bool}
inductive TyOf (K:PySem.W.Frag)(H:Hp):V→Value→Prop where
 | non:TyOf K H .non (.type "NoneType")
 | bl (x:Bool):TyOf K H (.bl x) (.type "bool")
 | int (i:Int):TyOf K H (.int i) (.type "int")
 | str (x:Str):TyOf K H (.str x) (.type "str")
 | flt (x:UInt64):TyOf K H (.flt x) (.type "float")
 | lst {a:Addr}{xs:List V}(e:H a=some (.lst xs)):TyOf K H (.ref a) (.type "list")
 | frz {a:Addr}{o:Obj}{xs:List V}(e:H a=some (.frz o (.lst xs))):TyOf K H (.ref a) (.type "list")
 | tup {a:Addr}{xs:List V}(e:H a=some (.tup xs)):TyOf K H (.ref a) (.type "tuple")
 | dK {a:Addr}{kvs:List (Key×V)}(e:H a=some (.dK kvs)):TyOf K H (.ref a) (.type "dict")
 | dT {a:Addr}{kvs:List (List Key×V)}(e:H a=some (.dT kvs)):TyOf K H (.ref a) (.type "dict")
 | ins {a C dx:Addr}{fs:List (Str×V)}(e:H a=some (.ins C dx fs))(cl:Cls K C)(ha:PySem.W.findIn K (.ref C) "__class__"=some (some (.builtin "object.__class__")))
   (hn:PySem.W.specialIn K (.builtin "object.__class__") "__get__"=some (some (.builtin "getset_descriptor.__get__")))(htk:PySem.W.takesIn K (.builtin "object.__class__")=some true)
   (hm:PySem.W.mroIn K C (.type "object")=some true):TyOf K H (.ref a) (.ref C)
theorem isinst_ok {x:V}{u t:Value}(I:Inv X pins σ H s)(rx:RelV x u)(ty:TyOf X.K H x t)(e:PySem.W.kitOne X.K t c=some b)(h:∀tk,Q (.bool b) { s with toks:=tk }) :
  wpAny (model X.prog X.w) A (call (.builtin "isinstance") [u,c]) Q E s:=by
 cases ty with
 | non=>cases (show u=Value.none from rx);exact PySem.W.kia_one PySem.W.kitx_none I.kIn True.intro e (fun z=>nomatch z) h
 | bl y=>cases (show u=Value.bool y from rx);exact PySem.W.kia_one PySem.W.kitx_bool I.kIn True.intro e (fun z=>nomatch z) h
 | int i=>obtain⟨t,q⟩:=(show ∃t,u=Value.int i t from rx);cases q;exact PySem.W.kia_one PySem.W.kitx_int I.kIn True.intro e (fun z=>nomatch z) h
 | str y=>obtain⟨t,q⟩:=(show ∃t,u=Value.str y t from rx);cases q;exact PySem.W.kia_one PySem.W.kitx_str I.kIn True.intro e (fun z=>nomatch z) h
 | flt y=>obtain⟨t,q⟩:=(show ∃t,u=Value.float y t from rx);cases q;exact PySem.W.kia_one PySem.W.kitx_float I.kIn True.intro e (fun z=>nomatch z) h
 | @lst a xs ea =>
  cases (show u=Value.ref a from rx)
  obtain⟨_,_,n,_,h1⟩:=(show ObjOk X.prog X.w H s.heap a (.lst xs)from I.hok a _ ea)
  exact PySem.W.kia_one PySem.W.kitx_list I.kIn ⟨_,h1,rfl⟩ e (fun z=>nomatch z) h
 | @frz a ob xs ea =>
  cases (show u=Value.ref a from rx)
  obtain⟨_,_,_,n,_,h1⟩:=(show ObjOk X.prog X.w H s.heap a (.frz ob (.lst xs))from I.hok a _ ea)
  exact PySem.W.kia_one PySem.W.kitx_list I.kIn ⟨_,h1,rfl⟩ e (fun z=>nomatch z) h
 | @tup a xs ea =>
  cases (show u=Value.ref a from rx)
  obtain⟨_,_,_,p,_⟩:=(show ObjOk X.prog X.w H s.heap a (.tup xs)from I.hok a _ ea)
  obtain⟨o,h1,h2,_⟩:=p
  exact PySem.W.kia_one PySem.W.kitx_tuple I.kIn ⟨o,h1,h2⟩ e (fun z=>nomatch z) h
 | @dK a kvs ea =>
  cases (show u=Value.ref a from rx)
  obtain⟨_,_,vs,_,p⟩:=(show ObjOk X.prog X.w H s.heap a (.dK kvs)from I.hok a _ ea)
  obtain⟨o,es,ep,h1,h2,_⟩:=p
  exact PySem.W.kia_one PySem.W.kitx_dict I.kIn ⟨o,h1,h2.1⟩ e (fun z=>nomatch z) h
 | @dT a kvs ea =>
  cases (show u=Value.ref a from rx)
  obtain⟨_,_,xs,_,o,es,ep,h1,h2,_⟩:=(show ObjOk X.prog X.w H s.heap a (.dT kvs)from I.hok a _ ea)
  exact PySem.W.kia_one PySem.W.kitx_dict I.kIn ⟨o,h1,h2.1⟩ e (fun z=>nomatch z) h
 | @ins a C dx fs ea cl ha hn htk hm =>
  cases (show u=Value.ref a from rx)
  obtain⟨mA,O,_⟩:=ins_get I.hok ea
  obtain⟨od,J,_⟩:=O.look
  exact PySem.W.kia_one (PySem.W.kitx_own (cl.get _) cl.hd ha hn htk hm) I.kIn J e (fun z=>nomatch z) h
end
end L2
namespace L2
open PySem PySem.Spec PyProof.Rows
structure Room (k:Nat)(A:Around):Prop where
 hd:A.handled=none
 dp:A.depth+3*k+5<recursionLimit
 un:A.units+16*k+200<cLine
theorem Room.mono {j k:Nat}{A:Around}(r:Room k A)(h:j≤k):Room j A:=⟨r.hd,by have:=r.dp;omega,by have:=r.un;omega⟩
theorem Room.deeper {k:Nat}{A:Around}(r:Room (k+1) A)(env:Env):Room k (A.deeper env) :=
 ⟨r.hd,by have:=r.dp;show A.depth+1+3*k+5<_;omega,by have:=r.un;show A.units+3+16*k+200<_;omega⟩
theorem make_depth {A:Around}{C:Addr}{us:List Value}{kw:List (Str×Value)}:(A.under (.builtin "type.__call__" ⟨.ref C::us,kw⟩)).depth=A.depth+1:=by
 first|rfl|simp[Around.under,Code.weight,Code.isCreation,Code.isGuard,Code.isCaller,Code.frames,Code.isFrame,guardIds]
theorem make_units {A:Around}{C:Addr}{us:List Value}{kw:List (Str×Value)}:(A.under (.builtin "type.__call__" ⟨.ref C::us,kw⟩)).units=A.units+1:=by
 first|rfl|simp[Around.under,Code.cUnits,Code.frames,Code.isFrame]
theorem Room.make {k:Nat}{A:Around}(r:Room (k+1) A)(C:Addr)(us:List Value)(kw:List (Str×Value)):Room k (A.under (.builtin "type.__call__" ⟨.ref C::us,kw⟩)) :=
 ⟨r.hd,by have:=r.dp;rw[make_depth];omega,by have:=r.un;rw[make_units];omega⟩
theorem Room.depth {k:Nat}{A:Around}(r:Room k A):A.depth<recursionLimit:=by have:=r.dp;omega
theorem Room.units {k:Nat}{A:Around}(r:Room k A):A.units+64<cLine:=by have:=r.un;omega
theorem Room.units0 {k:Nat}{A:Around}(r:Room k A):A.units<cLine:=by have:=r.un;omega
noncomputable def tNil:TA:=fun _ H Q=>Q [] H
noncomputable def tCons (ta:TE)(tr:TA):TA:=fun σ H Q=>ta σ H fun x H1=>tr σ H1 fun xs H2=>Q (x::xs) H2
section
variable {X:Cx}{e:Expr}{es:List Expr}{te:TE}{t:TA}{pos:Pos}
theorem pa_nil:PA X [] tNil:=fun _ _ _ _ H Q I h=>Calls.spliced_nil ⟨[],H,I,.nil,h⟩
theorem pa_cons (ha:PE X e te)(hr:PA X es t)(hs:starEach (e::es) X.env=(false,eval e X.env)::starEach es X.env:=by rfl):PA X (e::es) (tCons te t):=by
 intro pos pins s σ H Q I h
 rw[hs]
 show wpAny _ _ (spliced ((false,eval e X.env)::backTo pos (starEach es X.env))) _ _ s
 refine Calls.spliced_cons (thn (ha pins s σ H _ I h) fun u s1 ⟨x,H1,I1,r1,q1⟩=>?_)
 exact thn (hr pos pins s1 σ H1 _ I1 q1) fun us s2 ⟨xs,H2,I2,r2,q2⟩=>⟨x::xs,H2,I2,.cons r1 r2,q2⟩
def tTup (t:TA):TE:=fun σ H Q=>t σ H fun xs H1=>xs.length≤sizeLine∧∀p,H1 p=none→Q (.ref p) (upd H1 p (.tup xs))
def tLst (t:TA):TE:=fun σ H Q=>t σ H fun xs H1=>xs.length≤sizeLine∧∀p,H1 p=none→Q (.ref p) (upd H1 p (.lst xs))
theorem pe_tup {x1}(h:PA X es t):PE X (.Tuple es x1 pos) (tTup t):=by
 intro pins s σ H Q I hq
 refine wpAny_Tuple_spliced (thn (h pos pins s σ H _ I hq) fun us s1 ⟨xs,H1,I1,r,z,q⟩=>⟨by rw[←r.length];exact z,?_⟩)
 have hf:H1 s1.heap.objs.size=none:=I1.hok.fresh (Nat.le_refl _)
 refine⟨.ref s1.heap.objs.size,upd H1 s1.heap.objs.size (.tup xs),I1.laid (t':=s1.toks) (fun b u e=>Heap.get?_push_of_some _ e) (Nat.le_refl _) ?_,rfl,q _ hf⟩
 exact⟨z,us,r,⟨_,Heap.get?_push_size _ rfl,rfl,_,rfl⟩,_,Heap.get?_push_size _ rfl,rfl⟩
theorem pe_lst (h:PA X es t):PE X (.List es pos) (tLst t):=by
 intro pins s σ H Q I hq
 refine wpAny_List_spliced (thn (h pos pins s σ H _ I hq) fun us s1 ⟨xs,H1,I1,r,z,q⟩=>⟨by rw[←r.length];exact z,?_⟩)
 have hf:H1 s1.heap.objs.size=none:=I1.hok.fresh (Nat.le_refl _)
 refine⟨.ref s1.heap.objs.size,upd H1 s1.heap.objs.size (.lst xs),I1.laid (t':=s1.toks) (fun b u e=>Heap.get?_push_of_some _ e) (Nat.le_refl _) ?_,rfl,q _ hf⟩
 exact⟨z,us,0,r,Heap.get?_push_size _ rfl⟩
end
noncomputable abbrev Sp:=List V→Hp→VK→XK→Prop
noncomputable abbrev CXT:=List Env→Hp→Shared→XK→Value→Shared→Prop
structure Env0 (P:Program)(w:World)(K:PySem.W.Frag)(mg:Str→Option Value)(base:Heap)(A:Around)(outer:List Env)(s:Shared)(H:Hp):Prop where
 frames:A.frames=some outer
 mod:Mod K mg base
 bs:∀b o,base.get? b=some o→s.heap.get? b=some o∧H b=none
 bsz:base.objs.size≤s.heap.objs.size
 funs:s.heap.FunFrames base outer
 frf:∀b∈frs outer,H b=none
 hok:HOk P w H s.heap
 bare:AllBare s.gens
def CE (outer:List Env)(P:Program)(w:World)(H:Hp)(s:Shared)(Q:VK)(u:Value)(s':Shared):Prop :=
 ∃v H',s'.os=s.os∧AllBare s'.gens∧Un (frs outer) [] H H' s.heap s'.heap∧HOk P w H' s'.heap∧RelV v u∧Q v H'
def CR (CX:CXT)(outer:List Env)(P:Program)(w:World)(H:Hp)(s:Shared)(Q:VK)(E:XK)(r:Result)(s':Shared):Prop :=
 match r with
 |.ok (.ret u)=>CE outer P w H s Q u s'
 |.ok _=>False
 |.error e=>CX outer H s E e s'
structure FnOk (P:Program)(w:World)(K:PySem.W.Frag)(mg:Str→Option Value)(base:Heap)(CX:CXT)(k:Nat)(f:Addr)(fd:FuncData)(ps:List Str)(sp:Sp):Prop where
 len:∀vs H Q E,sp vs H Q E→vs.length=ps.length
 run:∀(A:Around)(outer:List Env)(s:Shared)(H:Hp)(args:Args)(us:List Value)(vs:List V)(Q:VK)(E:XK),Room k A→Env0 P w K mg base A outer s H→BindsTo s fd args (ps.zip us)→Vals vs us→sp vs H Q E →
  codeAny (model P w) A (.call (.ref f) args) (CR CX outer P w H s Q E) s
theorem FnOk.mono {P:Program}{w:World}{K:PySem.W.Frag}{mg:Str→Option Value}{base:Heap}{CX:CXT}{j k:Nat}{f:Addr}{fd:FuncData}{ps:List Str}{sp:Sp}(F:FnOk P w K mg base CX j f fd ps sp)(h:j≤k) :
  FnOk P w K mg base CX k f fd ps sp:=⟨F.len,fun A outer s H args us vs Q E hr=>F.run A outer s H args us vs Q E (hr.mono h)⟩
theorem FnOk.imp {P:Program}{w:World}{K:PySem.W.Frag}{mg:Str→Option Value}{base:Heap}{CX:CXT}{k:Nat}{f:Addr}{fd:FuncData}{ps:List Str}{sp sp':Sp}(F:FnOk P w K mg base CX k f fd ps sp)
  (h:∀vs H Q E,sp' vs H Q E→sp vs H Q E):FnOk P w K mg base CX k f fd ps sp' :=
 ⟨fun vs H Q E q=>F.len vs H Q E (h _ _ _ _ q),fun A outer s H args us vs Q E hr he hb hv hs=>F.run A outer s H args us vs Q E hr he hb hv (h _ _ _ _ hs)⟩
theorem Env0.make {P:Program}{w:World}{K:PySem.W.Frag}{mg:Str→Option Value}{base:Heap}{A:Around}{outer:List Env}{s:Shared}{H:Hp}(e:Env0 P w K mg base A outer s H)(C:Addr)(us:List Value)(kw:List (Str×Value)) :
  Env0 P w K mg base (A.under (.builtin "type.__call__" ⟨.ref C::us,kw⟩)) outer s H:=⟨by first|exact e.frames|(simpa[Around.under,Code.envs,Code.isFrame,pushEnvs]using e.frames),e.mod,e.bs,e.bsz,e.funs,e.frf,e.hok,e.bare⟩
section
variable {X:Cx}{pins:List (Addr×Obj)}{σ:St}{H:Hp}{s s':Shared}
theorem Inv.env0 (I:Inv X pins σ H s):Env0 X.prog X.w X.K X.mg X.base X.A X.stack s H :=
 ⟨I.ok.frames,I.ok.mod,I.bs,Nat.le_trans I.ok.bsz I.sz,I.stack,I.stkFree,I.hok,I.bare⟩
theorem Inv.after {Q:VK}{u:Value}(I:Inv X pins σ H s)(h:CE X.stack X.prog X.w H s Q u s'):EP X pins σ Q u s':=by
 obtain⟨v,H',os,bare,un,hok,r,q⟩:=h
 obtain⟨hh,g,d,t,os'⟩:=s'
 obtain rfl:os'=s.os:=os
 exact⟨v,H',I.call (h':=hh) (g':=g) (d':=d) (t':=t) (ch:=[]) un hok bare (fun b z=>absurd z (by simp)),r,q⟩
end
def tCall (sp:Sp)(dvs:List V)(E:XK)(t:TA):TE:=fun σ H Q=>t σ H fun vs H1=>sp (vs++dvs) H1 Q E
def tMeth (C:Addr)(m:Str)(sp:Sp)(dvs:List V)(E:XK)(ta:TE)(t:TA):TE:=fun σ H Q=>ta σ H fun x H1=>∃a dx fs,x=.ref a∧H1 a=some (.ins C dx fs)∧fs.lookup m=none ∧
 t σ H1 fun vs H2=>sp (x::(vs++dvs)) H2 Q E
def tMake (C:Addr)(sp:Sp)(dvs:List V)(E:XK)(t:TA):TE:=fun σ H Q=>t σ H fun vs H1=>∀x dx,H1 x=none→H1 dx=none→dx≠x →
 sp (.ref x::(vs++dvs)) (upd (upd H1 dx (.own x)) x (.ins C dx [])) (fun v H2=>v=.non∧Q (.ref x) H2) E
def Binds (K:PySem.W.Frag)(fd:FuncData)(ps:List Str)(ds:List Value):Prop :=
 ∀(s:Shared)(us:List Value),K.In s.heap→(us++ds).length=ps.length→BindsTo s fd ⟨us,[]⟩ (ps.zip (us++ds))
theorem Binds.all {K:PySem.W.Frag}{fd:FuncData}{ps:List Str}(h:∀us:List Value,us.length=ps.length→bindArgs fd ⟨us,[]⟩=pure (ps.zip us)):Binds K fd ps []:=fun s us _ hl=>by
 rw[List.append_nil]at hl ⊢
 exact .of_eq (h us hl)
def Passes (CX:CXT)(X:Cx)(E:XK):Prop:=∀(pins:List (Addr×Obj))(σ:St)(H:Hp)(s:Shared)(e:Value)(s':Shared),Inv X pins σ H s→CX X.stack H s E e s'→X.xe e s'
section
variable {X:Cx}{CX:CXT}{k:Nat}{f C:Addr}{fd:FuncData}{ps:List Str}{sp:Sp}{dvs:List V}{ds:List Value}{E:XK}{x m:Str}{p pos apos:Pos}{e o:Expr}{es:List Expr}{ta:TE}{t:TA}
theorem run_fn {pins:List (Addr×Obj)}{σ:St}{H:Hp}{s:Shared}{Q:VK}{us:List Value}{vs:List V}(F:FnOk X.prog X.w X.K X.mg X.base CX k f fd ps sp)(hr:Room k X.A)(hb:Binds X.K fd ps ds)(hd:Vals dvs ds)(hx:Passes CX X E)
  (I:Inv X pins σ H s)(r:Vals vs us)(h:sp (vs++dvs) H Q E):wpAny (model X.prog X.w) X.A (call (.ref f) us) (EP X pins σ Q) X.xe s:=by
 have r2:Vals (vs++dvs) (us++ds):=r.append hd
 have hl:(us++ds).length=ps.length:=by rw[←r2.length];exact F.len _ _ _ _ h
 refine wpAny_call (codeAny_mono (F.run X.A X.stack s H ⟨us,[]⟩ (us++ds) (vs++dvs) Q E hr I.env0 (hb s us I.kIn hl) r2 h) fun r s' hq=>?_)
 cases r with
 | error e=>exact hx pins σ H s e s' I hq
 | ok fl =>
  cases fl with
  | ret u=>exact I.after hq
  | next=>exact False.elim hq
  | brk=>exact False.elim hq
  | cont=>exact False.elim hq
theorem pe_call (F:FnOk X.prog X.w X.K X.mg X.base CX k f fd ps sp)(hr:Room k X.A)(hg:Gl X x)(hm:X.mg x=some (.ref f))(hk:PySem.W.keepIn X.K (.ref f)=true)(hb:Binds X.K fd ps ds)(hd:Vals dvs ds)(hx:Passes CX X E)
  (ha:PA X (e::es) t)(hdb:(x==("__debug__" : Str))=false:=by decide)(he:starEach (e::es) X.env=(false,eval e X.env)::starEach es X.env:=by rfl)(hpl:(backTo pos (starEach es X.env)).any (·.1)=false:=by rfl) :
  PE X (.Call (.Name x p) (e::es) [] pos) (tCall sp dvs E t):=by
 intro pins s σ H Q I h
 refine wpAny_Call_Name_kw (ld_glob I hg hm ?_ hdb)
 refine PySem.W.callWith_K (h₀:=X.base) I.ok.mod.kin hk (thn (ha pos pins s σ H _ I h) fun us s1 ⟨vs,H1,I1,r,q⟩=>⟨I1.kIn,?_⟩) he hpl
 exact run_fn F hr hb hd hx I1 r q
theorem pe_meth0 {pl:Sem Bool}(he:PE X o ta)(c:Cls X.K C)(hm:Meth X.K C m f)(F:FnOk X.prog X.w X.K X.mg X.base CX k f fd ps sp)(hr:Room k X.A)(hb:Binds X.K fd ps ds)(hd:Vals dvs ds)(hx:Passes CX X E)
  (ht:eval (.Call (.Attribute o m apos) [] [] pos) X.env=(do
   let ov ←eval o X.env
   standAt apos.atName
   let (f,first) ←holding [ov] (getMethod ov m pl)
   callWith pos f first (backTo pos (starEach [] X.env)) (backToKw pos (keywordEach [] X.env))):=by rfl) :
  PE X (.Call (.Attribute o m apos) [] [] pos) (tMeth C m sp dvs E ta tNil):=by
 intro pins s σ H Q I h
 refine PySem.W.methodCall_KW (pl:=pl) (thn (he pins s σ H _ I h) fun u s1 ⟨x,H1,I1,rx,a,dx,fs,ex,ea,l,q⟩=>?_) ht
 subst ex
 obtain rfl:u=Value.ref a:=rx
 refine getmeth_ok I1 ea c hm l ?_
 exact PySem.W.callWith_K0 (first:=[.ref a]) I1.kIn hm.kp (run_fn (us:=[.ref a]) (vs:=[.ref a]) F hr hb hd hx I1 (.cons rfl .nil) q)
structure Mk (K:PySem.W.Frag)(C f:Addr):Prop where
 makes:PySem.W.makesIn K C=true
 init:PySem.W.findIn K (.ref C) "__init__"=some (some (.ref f))
 fn:PySem.W.isFn K (.ref f)=true
 kp:PySem.W.keepIn K (.ref C)=true
theorem run_make {pins:List (Addr×Obj)}{σ:St}{H:Hp}{s:Shared}{Q:VK}{us:List Value}{vs:List V}(M:Mk X.K C f)(F:FnOk X.prog X.w X.K X.mg X.base CX k f fd ps sp)(hr:Room (k+1) X.A)(hb:Binds X.K fd ps ds)(hd:Vals dvs ds)
  (hx:Passes CX X E)(I:Inv X pins σ H s)(r:Vals vs us)
  (h:∀x dx,H x=none→H dx=none→dx≠x→sp (.ref x::(vs++dvs)) (upd (upd H dx (.own x)) x (.ins C dx [])) (fun v H2=>v=.non∧Q (.ref x) H2) E) :
  wpAny (model X.prog X.w) X.A (call (.ref C) us) (EP X pins σ Q) X.xe s:=by
 have hq:=h (s.heap.objs.size+1) s.heap.objs.size (I.hok.fresh (Nat.le_succ _)) (I.hok.fresh (Nat.le_refl _)) (Nat.ne_of_lt (Nat.lt_succ_self _))
 have I2:=Inv.made (C:=C) I
 have r2:Vals (V.ref (s.heap.objs.size+1)::(vs++dvs)) (Value.ref (s.heap.objs.size+1)::(us++ds)):=.cons rfl (r.append hd)
 have hl:(Value.ref (s.heap.objs.size+1)::us++ds).length=ps.length:=by
  have e:=r2.length
  rw[F.len _ _ _ _ hq]at e
  exact e.symm
 refine wpAny_call (make_map (f:=f) I.kIn M.makes M.init (beq_iff_eq.mp M.fn) (codeAny_mono (F.run _ X.stack _ _ ⟨Value.ref (s.heap.objs.size+1)::us,[]⟩ (Value.ref (s.heap.objs.size+1)::(us++ds)) _ _ E (hr.make C us [])
  (I2.env0.make C us []) (hb _ (Value.ref (s.heap.objs.size+1)::us) I2.kIn hl) r2 hq) fun r s' hq'=>?_))
 cases r with
 | error e=>exact hx pins σ _ _ e s' I2 hq'
 | ok fl =>
  cases fl with
  | ret u =>
   obtain⟨v,H',I3,rv,ev,q3⟩:=I2.after hq'
   subst ev
   exact⟨rv,⟨V.ref (s.heap.objs.size+1),H',I3,rfl,q3⟩⟩
  | next=>exact False.elim hq'
  | brk=>exact False.elim hq'
  | cont=>exact False.elim hq'
theorem pe_make (M:Mk X.K C f)(F:FnOk X.prog X.w X.K X.mg X.base CX k f fd ps sp)(hr:Room (k+1) X.A)(hg:Gl X x)(hm:X.mg x=some (.ref C))(hb:Binds X.K fd ps ds)(hd:Vals dvs ds)(hx:Passes CX X E)
  (ha:PA X (e::es) t)(hdb:(x==("__debug__" : Str))=false:=by decide)(he:starEach (e::es) X.env=(false,eval e X.env)::starEach es X.env:=by rfl)(hpl:(backTo pos (starEach es X.env)).any (·.1)=false:=by rfl) :
  PE X (.Call (.Name x p) (e::es) [] pos) (tMake C sp dvs E t):=by
 intro pins s σ H Q I h
 refine wpAny_Call_Name_kw (ld_glob I hg hm ?_ hdb)
 refine PySem.W.callWith_K (h₀:=X.base) I.ok.mod.kin M.kp (thn (ha pos pins s σ H _ I h) fun us s1 ⟨vs,H1,I1,r,q⟩=>⟨I1.kIn,?_⟩) he hpl
 exact run_make M F hr hb hd hx I1 r q
end
section
variable {X:Cx}{CX:CXT}{k:Nat}{f C:Addr}{fd:FuncData}{ps ks:List Str}{sp:Sp}{E:XK}{x m:Str}{p pos apos kpos:Pos}{e o:Expr}{es:List Expr}{kws:List Keyword}{te ta:TE}{t tk:TA}{nm:Option Str}
structure KBinds (K:PySem.W.Frag)(fd:FuncData)(ps ks:List Str)(g:List Value→List Value→List Value)(gV:List V→List V→List V):Prop where
 to:∀(s:Shared)(us ws:List Value),K.In s.heap→(g us ws).length=ps.length→BindsTo s fd ⟨us,ks.zip ws⟩ (ps.zip (g us ws))
 rel:∀{vs:List V}{us:List Value}{zs:List V}{ws:List Value},Vals vs us→Vals zs ws→Vals (gV vs zs) (g us ws)
variable {g:List Value→List Value→List Value}{gV:List V→List V→List V}
end
structure FnScope (N P:List Str)(sc:Scope):Prop where
 kind:sc.kind=.function
 co:sc.isCoroutine=false
 gen:sc.isGenerator=false
 nd:N.Nodup
 pre:N.take P.length=P
 par:∀x∈P,sc.names.lookup x=some .local∨sc.names.lookup x=some .cell
 nofree:∀y∈sc.names,y.2≠.free
theorem bindL_out {kindOf:Str→Option NameKind}{x:Str}:∀{binds:List (Str×Value)}{m:Str→Option Value},(∀v,(x,v)∉binds)→bindL kindOf binds m x=m x
 | [],_,_=>rfl
 |(n,v)::r,m,h=>by
  unfold bindL
  rw[bindL_out fun w hw=>h w (List.mem_cons_of_mem _ hw)]
  split
  ·have:x≠n:=by rintro rfl;exact h v List.mem_cons_self
   simp[this]
  ·rfl
theorem bindC_out {kindOf:Str→Option NameKind}{x:Str}:∀{binds:List (Str×Value)}{m:Str→Option Value},(∀v,(x,v)∉binds)→bindC kindOf binds m x=m x
 | [],_,_=>rfl
 |(n,v)::r,m,h=>by
  unfold bindC
  rw[bindC_out fun w hw=>h w (List.mem_cons_of_mem _ hw)]
  split
  ·rfl
  ·have:x≠n:=by rintro rfl;exact h v List.mem_cons_self
   simp[this]
theorem bindL_get {kindOf:Str→Option NameKind}{x:Str}{v:Value}:∀{P:List Str}{vs:List Value}{i:Nat}{m:Str→Option Value},P.Nodup→P[i]?=some x→vs[i]?=some v→kindOf x=some .local →
  bindL kindOf (P.zip vs) m x=some v
 | [],_,_,_,_,h,_,_=>by simp at h
 | _::_,[],_,_,_,_,h,_=>by simp at h
 | p::P,w::vs,0,m,nd,h1,h2,hk=>by
  simp at h1 h2;subst h1;subst h2
  show bindL kindOf ((p,w)::P.zip vs) m p=_
  unfold bindL
  rw[bindL_out fun v hv=>(List.nodup_cons.mp nd).1 (List.of_mem_zip hv).1,if_pos hk]
  simp
 | p::P,w::vs,i+1,m,nd,h1,h2,hk=>by
  show bindL kindOf ((p,w)::P.zip vs) m x=_
  unfold bindL
  exact bindL_get (i:=i) (List.nodup_cons.mp nd).2 (by simpa using h1) (by simpa using h2) hk
theorem bindC_get {kindOf:Str→Option NameKind}{x:Str}{v:Value}:∀{P:List Str}{vs:List Value}{i:Nat}{m:Str→Option Value},P.Nodup→P[i]?=some x→vs[i]?=some v→kindOf x≠some .local →
  bindC kindOf (P.zip vs) m x=some v
 | [],_,_,_,_,h,_,_=>by simp at h
 | _::_,[],_,_,_,_,h,_=>by simp at h
 | p::P,w::vs,0,m,nd,h1,h2,hk=>by
  simp at h1 h2;subst h1;subst h2
  show bindC kindOf ((p,w)::P.zip vs) m p=_
  unfold bindC
  rw[bindC_out fun v hv=>(List.nodup_cons.mp nd).1 (List.of_mem_zip hv).1,if_neg hk]
  simp
 | p::P,w::vs,i+1,m,nd,h1,h2,hk=>by
  show bindC kindOf ((p,w)::P.zip vs) m x=_
  unfold bindC
  exact bindC_get (i:=i) (List.nodup_cons.mp nd).2 (by simpa using h1) (by simpa using h2) hk
noncomputable def start (N:List Str)(vs:List V):St:=vs.map some++List.replicate (N.length-vs.length) none
noncomputable def cxOf (CX:CXT)(P:Program)(w:World)(K:PySem.W.Frag)(mg:Str→Option Value)(base:Heap)(N:List Str)(qual:Str)(scope:Scope)(f:Addr)(cd:Value)(A:Around)(outer:List Env)(s:Shared)(H:Hp)(E:XK):Cx where
 prog:=P
 w:=w
 K:=K
 mg:=mg
 base:=base
 A:=A.deeper (envOfC qual scope s.heap.objs.size f cd)
 N:=N
 s₀:=s
 H₀:=H
 env:=envOfC qual scope s.heap.objs.size f cd
 outer:=outer
 stack:=envOfC qual scope s.heap.objs.size f cd::outer
 ex:=[]
 calm:=true
 fn:=fun _=>true
 pn:=[]
 xe:=fun e s'=>wpAny (model P w) (A.deeper (envOfC qual scope s.heap.objs.size f cd)) (leaving (envOfC qual scope s.heap.objs.size f cd) e) (fun _ s''=>CX outer H s E e s'') (fun e' s''=>CX outer H s E e' s'') s'
theorem cell_has {sc:Scope}{n:Nat}{x:Str}(h:sc.names.lookup x=some .cell):∃c,(cellsFrom n sc.names []).lookup x=some c:=by
 have q:=PySem.W.cellsFrom_some sc.names n [] (.inl h)
 exact Option.isSome_iff_exists.mp q
theorem inv_start {CX:CXT}{P:Program}{w:World}{K:PySem.W.Frag}{mg:Str→Option Value}{base:Heap}{N ps:List Str}{qual:Str}{scope:Scope}{f:Addr}{cd:Value}{A:Around}{outer:List Env}{s s1:Shared}{H:Hp}{E:XK}{us:List Value}{vs:List V}
  (S:FnScope N ps scope)(hd:A.handled=none)(e0:Env0 P w K mg base A outer s H)(hl:vs.length=ps.length)(r:Vals vs us)
  (x:InCallC s s.heap.objs.size (bindL (envOfC qual scope s.heap.objs.size f cd).kindOf (ps.zip us) fun _=>none) (cellsFrom (s.heap.objs.size+1) scope.names []) (bindC (envOfC qual scope s.heap.objs.size f cd).kindOf (ps.zip us) fun _=>none) s1) :
  Inv (cxOf CX P w K mg base N qual scope f cd A outer s H E) [] (start N vs) H s1:=by
 have hpl:ps.length≤N.length:=by have:=congrArg List.length S.pre;rw[List.length_take]at this;omega
 obtain⟨h1,tk,rfl,hk⟩:=x.done
 have noA:∀b:Addr,b∉(cxOf CX P w K mg base N qual scope f cd A outer s H E).ex:=fun b z=>absurd (show b∈([]:List Addr)from z) (by simp)
 refine⟨⟨e0.mod,S.kind,rfl,rfl,Nat.le_refl _,fun y z c h1 h2=>?_,fun y hy=>?_,fun y c _ h=>?_,fun _=>hd,Around.frames_deeper e0.frames,.inr ⟨rfl,rfl⟩,fun b z=>absurd z (noA b),e0.bs,e0.bsz,fun b _ _=>noA b,fun b z=>absurd z (noA b),e0.funs,e0.frf⟩,
  rfl,e0.bare,Un.kept hk,⟨_,x.toInCall.ns,fun i y v h1 h2 h3=>?_⟩,fun y c h=>⟨_,x.cell y c h⟩,e0.hok.fresh (Nat.le_refl _),fun y c h=>?_,fun p hp=>absurd (show p∈([]:List (Addr×Obj))from hp) (by simp),e0.hok.kept hk,?_⟩
 ·exact name_of_addr x.apart (PySem.mem_of_lookup h1) (PySem.mem_of_lookup h2)
 ·have hy:scope.names.lookup y=some .cell∨scope.names.lookup y=some .free:=hy
  rcases hy with hy|hy
  ·exact cell_has hy
  ·exact absurd rfl (S.nofree _ (PySem.mem_of_lookup hy))
 ·exact Nat.le_of_lt (x.above y c (PySem.mem_of_lookup h))
 ·have hi:i<vs.length:=by
   unfold start at h2
   by_cases hi:i<vs.length
   ·exact hi
   ·rw[List.getElem?_append_right (by simpa using hi)]at h2
    rw[List.getElem?_replicate]at h2
    split at h2<;>cases h2
  have ha:vs[i]?=some v:=by
   unfold start at h2
   rw[List.getElem?_append_left (by simpa using hi),List.getElem?_map]at h2
   cases e:vs[i]? with
   | none=>rw[e]at h2;cases h2
   | some a=>rw[e]at h2;cases h2;rfl
  obtain⟨u,hu,rv⟩:=r.get ha
  have hp:ps[i]?=some y:=by
   rw[←S.pre,List.getElem?_take_of_lt (by omega)];exact h1
  have ndP:ps.Nodup:=by rw[←S.pre];exact S.nd.sublist (List.take_sublist _ _)
  refine⟨u,rv,?_⟩
  rcases S.par y (List.mem_of_getElem? hp)with k|k
  ·exact .inl ⟨k,bindL_get ndP hp hu k⟩
  ·obtain⟨c,e⟩:=cell_has (n:=s.heap.objs.size+1) k
   refine .inr ⟨.inl k,c,e,?_⟩
   have q:=x.cell y c e
   rw[bindC_get ndP hp hu (by show scope.names.lookup y≠_;rw[k];decide)]at q
   exact q
 ·exact e0.hok.fresh (Nat.le_of_lt (x.above y c (PySem.mem_of_lookup h)))
 ·unfold start
  show _=N.length
  rw[List.length_append,List.length_map,List.length_replicate]
  omega
theorem fn_of {CX:CXT}{P:Program}{w:World}{K:PySem.W.Frag}{mg:Str→Option Value}{base:Heap}{k:Nat}{f:Addr}{name qual:Str}{params:Arguments}{body:List Stmt}{scope:Scope}{dV kV doc pm cdv ct oc:Value}{an od:Option Addr}
  {osl:Array (Option Value)}{N ps:List Str}{sp:Sp}(lk:K.lookup f=some ⟨oc,od,.func (PySem.W.fnOf name qual params body scope dV kV doc pm an cdv ct),osl⟩)(hcd:PySem.W.codeIn K cdv qual=true)(S:FnScope N ps scope)
  (len:∀vs H Q E,sp vs H Q E→vs.length=ps.length)
  (hbody:∀(A:Around)(outer:List Env)(s:Shared)(H:Hp)(vs:List V)(Q:VK)(E:XK),Room k (A.deeper (envOfC qual scope s.heap.objs.size f cdv))→sp vs H Q E →
   ∃t,PSs (cxOf CX P w K mg base N qual scope f cdv A outer s H E) body t∧t { nx:=fun _ H'=>Q .non H',rt:=Q } (start N vs) H) :
  FnOk P w K mg base CX (k+1) f (PySem.W.fnOf name qual params body scope dV kV doc pm an cdv ct) ps sp:=by
 refine⟨len,fun A outer s H args us vs Q E hr e0 hb r hsp=>?_⟩
 have hl:=len _ _ _ _ hsp
 have KX:K.In s.heap:=e0.mod.kin.keeps fun b o e=>(e0.bs b o e).1
 have lim:s.heap.NoLimit:=e0.mod.nolimit.keeps fun b o e=>(e0.bs b o e).1
 have hkind:∀y∈ps.zip us,scope.names.lookup y.1=some .local∨(scope.names.lookup y.1=some .cell∧((cellsFrom (s.heap.objs.size+1) scope.names []).lookup y.1).isSome=true):=fun⟨n,v⟩ hy=>by
  rcases S.par n (List.of_mem_zip hy).1 with q|q
  ·exact .inl q
  ·exact .inr ⟨q,PySem.W.cellsFrom_some _ _ _ (.inl q)⟩
 refine codeAny_call_function hr.depth (KX _ _ lk) rfl S.co S.gen rfl (PySem.W.codeRec_of KX hcd) (hb _ _ _ _ ?_)
 refine wpAny_newFunctionEnv_cells S.kind hkind fun env he s1 x=>?_
 subst he
 refine⟨lim.keeps x.toInCall.keep,codeAny_func ?_⟩
 obtain⟨t,ht,hq⟩:=hbody A outer s H vs Q E (hr.deeper _) hsp
 have I:Inv (cxOf CX P w K mg base N qual scope f cdv A outer s H E) [] (start N vs) H s1:=inv_start S hr.hd e0 hl r x
 refine wpAny_mono (ht [] s1 (start N vs) H _ I hq) (fun fl s' hs=>?_) fun e s' hs=>hs
 have fin:∀{σ':St}{H':Hp}{v:V}{u:Value},Inv (cxOf CX P w K mg base N qual scope f cdv A outer s H E) [] σ' H' s'→RelV v u→Q v H'→CE outer P w H s Q u s' :=
  fun {σ' H' v u} J rv q=>⟨v,H',J.os,J.bare,J.base,J.hok,rv,q⟩
 cases fl with
 | ret u =>
  obtain⟨v,σ',H',J,rv,q⟩:=hs
  exact fin J rv q
 | next =>
  obtain⟨σ',H',J,q⟩:=hs
  exact fin (v:=V.non) (u:=Value.none) J rfl q
 | brk =>
  obtain⟨_,_,_,q⟩:=hs
  exact False.elim q
 | cont =>
  obtain⟨_,_,_,q⟩:=hs
  exact False.elim q
end L2
namespace L2
open PySem PySem.Spec PyProof.Rows
section
variable {X:Cx}{x:Str}{p pos:Pos}{e:Expr}{es:List Expr}{t:TA}{id T:String}{r:List V→Hp→VK→Prop}
def tCB (r:List V→Hp→VK→Prop)(t:TA):TE:=fun σ H Q=>t σ H fun vs H1=>r vs H1 Q
theorem pe_callB (hc:CallR X (.builtin id) r)(hg:Gl X x)(hm:X.mg x=none)(hv:bootBuiltins x=some (.builtin id))(ha:PA X (e::es) t)(hn:x≠"__name__":=by decide)(hdb:(x==("__debug__" : Str))=false:=by decide)
  (he:starEach (e::es) X.env=(false,eval e X.env)::starEach es X.env:=by rfl)(hpl:(backTo pos (starEach es X.env)).any (·.1)=false:=by rfl):PE X (.Call (.Name x p) (e::es) [] pos) (tCB r t):=by
 intro pins s σ H Q I h
 refine wpAny_Call_Name_kw (ld_blt I hg hm hv ?_ hn hdb)
 exact PyProof.Rows.callWith_builtin1 (thn (ha pos pins s σ H _ I h) fun us s1 ⟨vs,H1,I1,r1,q1⟩=>hc pins s1 σ H1 vs us Q I1 r1 q1) he hpl
theorem pe_callTy (hc:CallR X (.type T) r)(hg:Gl X x)(hm:X.mg x=none)(hv:bootBuiltins x=some (.type T))(ha:PA X (e::es) t)(hn:x≠"__name__":=by decide)(hdb:(x==("__debug__" : Str))=false:=by decide)
  (he:starEach (e::es) X.env=(false,eval e X.env)::starEach es X.env:=by rfl)(hpl:(backTo pos (starEach es X.env)).any (·.1)=false:=by rfl):PE X (.Call (.Name x p) (e::es) [] pos) (tCB r t):=by
 intro pins s σ H Q I h
 refine wpAny_Call_Name_kw (ld_blt I hg hm hv ?_ hn hdb)
 exact PyProof.Rows.callWith_type1 (thn (ha pos pins s σ H _ I h) fun us s1 ⟨vs,H1,I1,r1,q1⟩=>hc pins s1 σ H1 vs us Q I1 r1 q1) he hpl
end
end L2
namespace HT
open PySem PyProof.Rows
section
open PySem.SeqAt
open PySem.AutoSeq1 (wpAny_loadPart')
open PySem.MeetsSeq PySem.MeetsSeq2 PySem.MeetsSeq3
end
section
variable {prog:Program}{w:World}{A:Around}{E:Value→Shared→Prop}{s:Shared}
theorem cat_tup {t b:Addr}{vs ws:List Value}{Q:Value→Shared→Prop}(ht:IsTup s.heap t vs.toArray)(hb:IsTup s.heap b ws.toArray)(hv:vs≠[])
  (h1:ws=[]→Q (.ref t) s)(h2:ws≠[]→Q (.ref s.heap.objs.size) { s with heap:=s.heap.push { cls:=.type "tuple",data:=.seq (vs++ws).toArray } })
  (hsz:vs.length+ws.length≤sizeLine):wpAny (model prog w) A (binaryOp .Add (.ref t) (.ref b)) Q E s:=by
 obtain⟨⟨cls,dd,data,sl⟩,ho,hc,n,hd⟩:=id ht
 obtain⟨⟨cls2,dd2,data2,sl2⟩,ho2,hc2,n2,hd2⟩:=id hb
 simp only at hc hd hc2 hd2
 subst hc hd hc2 hd2
 have e:vs.toArray++ws.toArray=(vs++ws).toArray:=by simp
 by_cases hw:ws=[]
 ·exact concat_meets ⟨_,ho,rfl⟩ ⟨_,ho2,rfl⟩ noFill_tuple_add seq_tuple_add PySem.F.slot_tuple_add PySem.F.entry_tuple_add (PySem.F.args_tuple_add_2 _ _)
   (tuple_addW1 t b vs.toArray ws.toArray n n2 dd dd2 sl sl2 (by simpa using hv) (by simp[hw])) ⟨ho,ho2,h1 hw⟩
 ·refine concat_meets ⟨_,ho,rfl⟩ ⟨_,ho2,rfl⟩ noFill_tuple_add seq_tuple_add PySem.F.slot_tuple_add PySem.F.entry_tuple_add (PySem.F.args_tuple_add_2 _ _)
   (tuple_addW2 t b vs.toArray ws.toArray n n2 dd dd2 sl sl2 (by simpa using hv) (by simpa using hw) (by rw[List.size_toArray,List.size_toArray];exact hsz)) ⟨ho,ho2,?_⟩
  rw[e]
  exact h2 hw
end
end HT
namespace L2
open PySem PySem.Spec PyProof.Rows
noncomputable abbrev TO:=St→Hp→(Option Int→Hp→Prop)→Prop
def PO (X:Cx)(e:Option Expr)(t:TO):Prop :=
 ∀(pins:List (Addr×Obj))(s:Shared)(σ:St)(H:Hp)(Q:Option Int→Hp→Prop),Inv X pins σ H s→t σ H Q →
  wpAny (model X.prog X.w) X.A (evalPart e X.env) (fun u s'=>∃o H',Inv X pins σ H' s'∧IsPart u o∧Q o H') X.xe s
noncomputable def tNoPart:TO:=fun _ H Q=>Q none H
noncomputable def tPart (t:TE):TO:=fun σ H Q=>t σ H fun x H1=>∃i,x=.int i∧Q (some i) H1
theorem intsAre_of {ns:List Int}:∀{us:List Value},Vals (ns.map V.int) us→IntsAre us ns:=by
 induction ns with
 | nil=>intro us r;rw[List.map_nil]at r;cases r;exact .nil
 | cons n ns ih =>
  intro us r
  rw[List.map_cons]at r
  cases r with
  | cons r1 r2 =>
   obtain⟨t,e⟩:=r1
   subst e
   exact .cons n t (ih r2)
section
variable {X:Cx}{e:Expr}{te:TE}{lo hi:Option Expr}{tl th:TO}{pos p2:Pos}
theorem po_none:PO X none tNoPart:=by
 intro pins s σ H Q I h
 rw[evalPart_none]
 exact wpAny_pure ⟨none,H,I,.none,h⟩
theorem po_some (h:PE X e te):PO X (some e) (tPart te):=by
 intro pins s σ H Q I hw
 rw[evalPart_some]
 refine thn (h pins s σ H _ I hw) fun u s1 ⟨x,H1,I1,r1,q1⟩=>?_
 obtain⟨i,rfl,q⟩:=q1
 obtain⟨t,rfl⟩:=r1
 exact⟨some i,H1,I1,.int i t,q⟩
def rCatT (K:PySem.W.Frag):R2:=fun x y H Q=>∃a b xs ys,x=.ref a∧y=.ref b∧SqT K H a xs∧SqT K H b ys∧xs≠[]∧xs.length+ys.length≤sizeLine ∧
 (ys=[]→Q (.ref a) H)∧(ys≠[]→∀p,H p=none→Q (.ref p) (upd H p (.tup (xs++ys))))
theorem Vals.nil_iff {xs:List V}{us:List Value}(r:Vals xs us):us=[]↔xs=[]:=by
 cases r with
 | nil=>simp
 | cons _ _=>simp
theorem op_catT:OpR X (binaryOp .Add) (rCatT X.K):=by
 intro pins s σ H x y v u Q I rx ry h
 obtain⟨a,b,xs,ys,rfl,rfl,ha,hb,hx,hz,q1,q2⟩:=h
 cases rx
 cases ry
 obtain⟨its,r1,p1,_⟩:=I.tuple ha
 obtain⟨its2,r2,p2,_⟩:=I.tuple hb
 refine HT.cat_tup p1 p2 (fun z=>hx (r1.nil_iff.mp z)) (fun z=>⟨.ref a,H,I,rfl,q1 (r2.nil_iff.mp z)⟩) (fun z=>?_) (by rw[←r1.length,←r2.length];exact hz)
 refine⟨.ref s.heap.objs.size,_,I.laid (t':=s.toks) (o:=.tup (xs++ys)) (fun b ob q=>Heap.get?_push_of_some _ q) (Nat.le_refl _) ?_,rfl,q2 (fun w=>z (r2.nil_iff.mpr w)) _ (I.hok.fresh (Nat.le_refl _))⟩
 exact⟨by rw[List.length_append];exact hz,_,r1.append r2,IsTup.new _ _,_,Heap.get?_push_size _ rfl,rfl⟩
end
end L2
namespace L2
open PySem PySem.Spec PyProof.Rows
noncomputable def ixN (n:Nat)(i:Int):Option Nat:=if 0≤i then (if i<n then some i.toNat else none)else if -(n:Int)≤i then some (i+n).toNat else none
noncomputable def atI {α:Type}(xs:List α)(i:Int):Option α:=(ixN xs.length i).bind fun j=>xs[j]?
theorem ixN_seq {n:Nat}{i:Int}{j:Nat}(h:ixN n i=some j):seqIndex? i n=some j∧j<n∧-(n:Int)≤i∧i<n:=by
 unfold ixN at h
 by_cases h0:0≤i
 ·rw[if_pos h0]at h
  by_cases h1:i<n
  ·rw[if_pos h1]at h
   have e:i.toNat=j:=Option.some.inj h
   exact⟨by rw[seqIndex_of h0 h1,e],by omega,by omega,h1⟩
  ·rw[if_neg h1]at h;cases h
 ·rw[if_neg h0]at h
  by_cases h1 : -(n:Int)≤i
  ·rw[if_pos h1]at h
   have e:(i+n).toNat=j:=Option.some.inj h
   exact⟨by rw[seqIndex_neg (by omega) h1,e],by omega,h1,by omega⟩
  ·rw[if_neg h1]at h;cases h
theorem atI_get {α:Type}{xs:List α}{i:Int}{v:α}(h:atI xs i=some v):∃j,seqIndex? i xs.length=some j∧xs[j]?=some v∧j<xs.length∧-(xs.length:Int)≤i∧i<xs.length:=by
 unfold atI at h
 cases e:ixN xs.length i with
 | none=>rw[e]at h;cases h
 | some j =>
  rw[e]at h
  obtain⟨h1,h2,h3,h4⟩:=ixN_seq e
  exact⟨j,h1,h,h2,h3,h4⟩
theorem atI_nat {α:Type}{xs:List α}{j:Nat}{v:α}(h:xs[j]?=some v):atI xs (j:Int)=some v:=by
 have hj:j<xs.length:=(List.getElem?_eq_some_iff.mp h).1
 have e:ixN xs.length (j:Int)=some j:=by
  unfold ixN
  rw[if_pos (by omega),if_pos (by omega)];simp
 unfold atI;rw[e];exact h
def PlainIx (b:Expr):Prop:=∀o i,subscripted b false o i=operate [o,i] (getItem o i)
def IxR (X:Cx)(r:R2):Prop :=
 ∀(value slice:Expr)(pins:List (Addr×Obj))(s:Shared)(σ:St)(H:Hp)(x y:V)(v u:Value)(Q:VK),Inv X pins σ H s→RelV x v→RelV y u→r x y H Q →
  subscripted slice false v u=operate [v,u] (getItem v u)→wpAny (model X.prog X.w) X.A (subscriptTail value slice v u) (EP X pins σ Q) X.xe s
def MtR (X:Cx)(id:String)(r:V→List V→Hp→VK→Prop):Prop :=
 ∀(pins:List (Addr×Obj))(s:Shared)(σ:St)(H:Hp)(x:V)(xs:List V)(v:Value)(us:List Value)(Q:VK),Inv X pins σ H s→RelV x v→Vals xs us→r x xs H Q →
  wpAny (model X.prog X.w) X.A (call (.builtin id) (v::us)) (EP X pins σ Q) X.xe s
section
variable {X:Cx}{a b:Expr}{ta tb:TE}{pos:Pos}
theorem pe_ix {r:R2}(hr:IxR X r)(ha:PE X a ta)(hb:PE X b tb)(hs:PlainIx b):PE X (.Subscript a b pos) (tOp r ta tb):=by
 intro pins s σ H Q I h
 exact Subscript_ (binT ha hb I h fun v u s2 x y H2 I2 rx ry q=>hr a b pins s2 σ H2 x y v u Q I2 rx ry q (hs _ _))
def rIxL (K:PySem.W.Frag):R2:=fun x y H Q=>∃p xs i v,x=.ref p∧y=.int i∧SqL K H p xs∧atI xs i=some v∧Q v H
def rIxT (K:PySem.W.Frag):R2:=fun x y H Q=>∃p xs i v,x=.ref p∧y=.int i∧SqT K H p xs∧atI xs i=some v∧Q v H
theorem ix_list:IxR X (rIxL X.K):=by
 intro value slice pins s σ H x y v u Q I rx ry h hs
 obtain⟨p,xs,i,z,rfl,rfl,hq,he,q⟩:=h
 cases rx
 obtain⟨t,rfl⟩:=ry
 obtain⟨its,r,pl,hz⟩:=I.list hq
 obtain⟨j,h1,h2,h3,h4,h5⟩:=atI_get he
 obtain⟨w,ew,rw'⟩:=r.get h2
 have hl:=r.length
 have hn:=line63
 have fin:EP X pins σ Q w s:=⟨z,H,I,rw',q⟩
 by_cases h0:0≤i
 ·have hj:i.toNat=j:=by
   rw[seqIndex_of h0 h5]at h1
   exact Option.some.inj h1
  exact item_listR pl.isList h0 (by omega) (by rw[hj];simpa using ew) fin hs
 ·have hj:(i+(its.toArray.size:Int)).toNat=j:=by
   rw[seqIndex_neg (by omega) h4]at h1
   rw[List.size_toArray,←hl]
   exact Option.some.inj h1
  exact subscriptTail_builtinR (x:=w) pl.isList.typeIs slot_list_getitem.lookup
   (wpAny_getItem_list_neg (Q:=fun r s'=>r=w∧EP X pins σ Q r s') pl.isList (by omega) (by rw[List.size_toArray]<;>omega) (by omega) (by rw[hj];simpa using ew) ⟨rfl,fin⟩) hs
theorem ix_tup:IxR X (rIxT X.K):=by
 intro value slice pins s σ H x y v u Q I rx ry h hs
 obtain⟨p,xs,i,z,rfl,rfl,hq,he,q⟩:=h
 cases rx
 obtain⟨t,rfl⟩:=ry
 obtain⟨its,r,pl,hz⟩:=I.tuple hq
 obtain⟨j,h1,h2,h3,h4,h5⟩:=atI_get he
 obtain⟨w,ew,rw'⟩:=r.get h2
 have hl:=r.length
 have hn:=line63
 have fin:EP X pins σ Q w s:=⟨z,H,I,rw',q⟩
 exact subscriptTail_builtinR (x:=w) pl.typeIs slot_tuple_getitem.lookup
  (getItem_tuple (j:=j) (Q:=fun r s'=>r=w∧EP X pins σ Q r s') pl (by omega) (by omega) (by rw[List.size_toArray,←hl];exact h1) (by simpa using ew) ⟨rfl,fin⟩) hs
theorem mapSeq_set (its:List Value)(n j:Nat)(u:Value):Obj.mapSeq (·.setIfInBounds j u) { cls:=.type "list",data:=.seq its.toArray n }={ cls:=.type "list",data:=.seq (its.set j u).toArray n }:=by
 simp[Obj.mapSeq]
theorem Inv.lst {pins:List (Addr×Obj)}{σ:St}{H:Hp}{s:Shared}{p:Addr}{xs:List V}(I:Inv X pins σ H s)(h:H p=some (.lst xs)) :
  ∃(its:List Value)(n:Nat),Vals xs its∧s.heap.get? p=some { cls:=.type "list",data:=.seq its.toArray n }∧xs.length≤sizeLine:=by
 obtain⟨z,its,n,r,e⟩:=I.hok p _ h
 exact⟨its,n,r,e,z⟩
theorem Inv.lstUpd {pins:List (Addr×Obj)}{σ:St}{H:Hp}{s:Shared}{p:Addr}{xs ys:List V}{its its':List Value}{n n':Nat}{f:Obj→Obj}(I:Inv X pins σ H s)(h:H p=some (.lst xs))
  (ho:s.heap.get? p=some { cls:=.type "list",data:=.seq its.toArray n })(hf:f { cls:=.type "list",data:=.seq its.toArray n }={ cls:=.type "list",data:=.seq its'.toArray n' })(r:Vals ys its')(hz:ys.length≤sizeLine)(t:Nat) :
  Inv X pins σ (upd H p (.lst ys)) { s with heap:=s.heap.update p f,toks:=t }:=by
 have e:(s.heap.update p f).get? p=some { cls:=.type "list",data:=.seq its'.toArray n' }:=by
  rw[Heap.get?_update_self f ho (by rw[hf]<;>rfl),hf]
 refine I.write (x:=p) (e:=p) (by rw[h];trivial) (.inl rfl) (fun b u hb q=>(Heap.get?_update_other _ _ (Ne.symm hb)).trans q) ⟨_,e⟩ ?_
 exact⟨hz,its',n',r,e⟩
def rSetL:V→V→V→Hp→(Hp→Prop)→Prop:=fun o i v H Q=>∃p xs k j,o=.ref p∧i=.int k∧H p=some (.lst xs)∧ixN xs.length k=some j∧Q (upd H p (.lst (xs.set j v)))
theorem set_list:PSet X rSetL:=by
 intro pins s σ H o i v ov iv u Q I ro ri rv h
 obtain⟨p,xs,k,j,rfl,rfl,hp,hj,q⟩:=h
 cases ro
 obtain⟨t,rfl⟩:=ri
 obtain⟨its,n,r,ho,hz⟩:=I.lst hp
 obtain⟨h1,h2,h3,h4⟩:=ixN_seq hj
 have hl:=r.length
 have hn:=line63
 have I':Inv X pins σ (upd H p (.lst (xs.set j v))) { s with heap:=s.heap.update p (Obj.mapSeq (·.setIfInBounds j u)) } :=
  I.lstUpd hp ho (mapSeq_set its n j u) (r.set rv j) (by rw[List.length_set];exact hz) s.toks
 by_cases h0:0≤k
 ·have hk:k.toNat=j:=by
   rw[seqIndex_of h0 h4]at h1
   exact Option.some.inj h1
  exact PySem.W.ki_setAt ho h0 (by omega) (by rw[List.size_toArray,←hl];exact h4) (by rw[hk];exact⟨_,I',q⟩)
 ·have hk:(k+(its.toArray.size:Int)).toNat=j:=by
   rw[seqIndex_neg (by omega) h3]at h1
   rw[List.size_toArray,←hl]
   exact Option.some.inj h1
  exact PySem.W.ki_setBack ho (by omega) (by rw[List.size_toArray,←hl];exact h3) (by omega) (by rw[hk];exact⟨_,I',q⟩)
noncomputable def flatV:V→Bool
 |.non=>true
 |.bl _=>true
 |.int _=>true
 |.str _=>true
 | _=>false
noncomputable def eqV:V→V→Bool
 |.non,.non=>true
 |.bl a,.bl b=>a==b
 |.bl a,.int b=>(if a then 1 else 0)==b
 |.int a,.bl b=>a==(if b then 1 else 0)
 |.int a,.int b=>a==b
 |.str a,.str b=>a==b
 | _,_=>false
theorem eqAt_V {A:Around}{s:Shared}{y x:V}{u v:Value}(ry:RelV y u)(rx:RelV x v)(fy:flatV y=true)(fx:flatV x=true):SeqAt.EqAt A s u v (eqV y x):=by
 cases y with
 | non =>
  cases ry
  cases x with
  | non=>cases rx;exact SeqAt.EqAt.same _
  | bl b=>cases rx;exact SeqAt.EqAt.none_bool b
  | int b=>obtain⟨t,rfl⟩:=rx;exact SeqAt.EqAt.none_int b t
  | str b=>obtain⟨t,rfl⟩:=rx;exact SeqAt.EqAt.none_str b t
  | _=>exact absurd (show false=true from fx) Bool.false_ne_true
 | bl a =>
  cases ry
  cases x with
  | non=>cases rx;exact SeqAt.EqAt.bool_none a
  | bl b=>cases rx;exact SeqAt.EqAt.bool_bool a b
  | int b=>obtain⟨t,rfl⟩:=rx;exact SeqAt.EqAt.bool_int a b t
  | str b=>obtain⟨t,rfl⟩:=rx;exact SeqAt.EqAt.bool_str a b t
  | _=>exact absurd (show false=true from fx) Bool.false_ne_true
 | int a =>
  obtain⟨t',rfl⟩:=ry
  cases x with
  | non=>cases rx;exact SeqAt.EqAt.int_none a t'
  | bl b=>cases rx;exact SeqAt.EqAt.int_bool a t' b
  | int b=>obtain⟨t,rfl⟩:=rx;exact SeqAt.EqAt.int_int a t' b t
  | str b=>obtain⟨t,rfl⟩:=rx;exact SeqAt.EqAt.int_str a t' b t
  | _=>exact absurd (show false=true from fx) Bool.false_ne_true
 | str a =>
  obtain⟨t',rfl⟩:=ry
  cases x with
  | non=>cases rx;exact SeqAt.EqAt.str_none a t'
  | bl b=>cases rx;exact SeqAt.EqAt.str_bool a t' b
  | int b=>obtain⟨t,rfl⟩:=rx;exact SeqAt.EqAt.str_int a t' b t
  | str b=>obtain⟨t,rfl⟩:=rx;exact SeqAt.EqAt.str_str a t' b t
  | _=>exact absurd (show false=true from fx) Bool.false_ne_true
 | _=>exact absurd (show false=true from fy) Bool.false_ne_true
noncomputable def eqU (x:V)(u:Value):Bool:=match u with
 |.none=>eqV .non x
 |.bool b=>eqV (.bl b) x
 |.int i _=>eqV (.int i) x
 |.str z _=>eqV (.str z) x
 | _=>false
theorem eqU_of {x y:V}{u:Value}(r:RelV y u)(f:flatV y=true):eqU x u=eqV y x:=by
 cases y with
 | non=>cases r;rfl
 | bl b=>cases r;rfl
 | int i=>obtain⟨t,rfl⟩:=r;rfl
 | str z=>obtain⟨t,rfl⟩:=r;rfl
 | _=>exact absurd (show false=true from f) Bool.false_ne_true
theorem any_eqU {x:V}:∀{xs:List V}{us:List Value},Vals xs us→xs.all flatV=true→us.any (eqU x)=xs.any fun y=>eqV y x
 | _,_,.nil,_=>rfl
 | y::xs,u::us,.cons r t,f=>by
  rw[List.all_cons,Bool.and_eq_true]at f
  rw[List.any_cons,List.any_cons,eqU_of r f.1,any_eqU t f.2]
theorem mem_eqAt {A:Around}{s:Shared}{x:V}{v:Value}(rx:RelV x v)(fx:flatV x=true):∀{xs:List V}{us:List Value},Vals xs us→xs.all flatV=true→∀u∈us,SeqAt.EqAt A s u v (eqU x u)
 | _,_,.nil,_=>fun u hu=>by cases hu
 | y::xs,u::us,.cons r t,f=>fun u' hu=>by
  rw[List.all_cons,Bool.and_eq_true]at f
  rcases List.mem_cons.mp hu with rfl|hu
  ·rw[eqU_of r f.1];exact eqAt_V r rx f.1 fx
  ·exact mem_eqAt rx fx t f.2 u' hu
noncomputable def inV (x:V)(xs:List V):Bool:=xs.any fun y=>eqV y x
def rIn (K:PySem.W.Frag)(neg:Bool):R2:=fun x y H Q=>∃p xs,y=.ref p∧(SqL K H p xs∨SqT K H p xs)∧flatV x=true∧xs.all flatV=true∧Q (.bl (if neg then !inV x xs else inV x xs)) H
theorem op_in_seq:OpR X (compareOp .In) (rIn X.K false):=by
 intro pins s σ H x y v u Q I rx ry h
 obtain⟨p,xs,rfl,hq,fx,fs,q⟩:=h
 cases ry
 rcases hq with hq|hq
 ·obtain⟨its,r,pl,hz⟩:=I.list hq
  refine SeqAt.in_listAt (eqU x) pl.isList (fun w hw=>mem_eqAt rx fx r fs w (by simpa using hw)) ⟨.bl _,H,I,rfl,?_⟩
  rw[show its.toArray.any (eqU x)=its.any (eqU x)by simp,any_eqU r fs]
  exact q
 ·obtain⟨its,r,pl,hz⟩:=I.tuple hq
  refine SeqAt.in_tupleAt (eqU x) pl (fun w hw=>mem_eqAt rx fx r fs w (by simpa using hw)) ⟨.bl _,H,I,rfl,?_⟩
  rw[show its.toArray.any (eqU x)=its.any (eqU x)by simp,any_eqU r fs]
  exact q
theorem op_notIn_seq:OpR X (compareOp .NotIn) (rIn X.K true):=by
 intro pins s σ H x y v u Q I rx ry h
 obtain⟨p,xs,rfl,hq,fx,fs,q⟩:=h
 cases ry
 rcases hq with hq|hq
 ·obtain⟨its,r,pl,hz⟩:=I.list hq
  refine SeqAt.notIn_listAt (eqU x) pl.isList (fun w hw=>mem_eqAt rx fx r fs w (by simpa using hw)) ⟨.bl _,H,I,rfl,?_⟩
  rw[show its.toArray.any (eqU x)=its.any (eqU x)by simp,any_eqU r fs]
  exact q
 ·obtain⟨its,r,pl,hz⟩:=I.tuple hq
  refine SeqAt.notIn_tupleAt (eqU x) pl (fun w hw=>mem_eqAt rx fx r fs w (by simpa using hw)) ⟨.bl _,H,I,rfl,?_⟩
  rw[show its.toArray.any (eqU x)=its.any (eqU x)by simp,any_eqU r fs]
  exact q
theorem call_len_seq:CallR X (.builtin "len") (fun xs H Q=>∃p ys,xs=[.ref p]∧(SqL X.K H p ys∨SqT X.K H p ys)∧Q (.int ys.length) H):=by
 intro pins s σ H xs us Q I r h
 obtain⟨p,ys,rfl,hq,q⟩:=h
 obtain⟨u,rfl,rx⟩:=vals1 r
 cases rx
 have hn:=line63
 rcases hq with hq|hq
 ·obtain⟨its,r',pl,hz⟩:=I.list hq
  have hlen:=r'.length
  exact Calls.call_len_list pl.isList (by simp only[List.size_toArray]<;>omega) ⟨.int ys.length,H,I.tok _,⟨s.toks+1,by rw[List.size_toArray,hlen]⟩,q⟩
 ·obtain⟨its,r',pl,hz⟩:=I.tuple hq
  have hlen:=r'.length
  exact len_tuple pl (by simp only[List.size_toArray]<;>omega) ⟨.int ys.length,H,I.tok _,⟨s.toks+1,by rw[List.size_toArray,hlen]⟩,q⟩
theorem call_tuple_of:CallR X (.type "tuple") (fun xs H Q=>∃p ys,xs=[.ref p]∧((SqL X.K H p ys∧∀l,H l=none→Q (.ref l) (upd H l (.tup ys)))∨(SqT X.K H p ys∧Q (.ref p) H))):=by
 intro pins s σ H xs us Q I r h
 obtain⟨p,ys,rfl,h⟩:=h
 obtain⟨u,rfl,rx⟩:=vals1 r
 cases rx
 rcases h with ⟨hq,q⟩|⟨hq,q⟩
 ·obtain⟨its,r',pl,hz⟩:=I.list hq
  have hlen:=r'.length
  refine call_tuple_list pl.isList (fun h' kp=>?_) (by simp only[List.size_toArray]<;>omega)
  have I1:Inv X pins σ H { s with heap:=h' }:=I.kept (t':=s.toks) kp
  have I2:Inv X pins σ (upd H h'.objs.size (.tup ys)) { s with heap:=h'.push { cls:=.type "tuple",data:=.seq its.toArray } } :=
   I1.laid (t':=s.toks) (fun b o e=>Heap.get?_push_of_some _ e) (Nat.le_refl _) (show ObjOk X.prog X.w _ _ _ (.tup ys)from ⟨hz,its,r',IsTup.new _ _,_,Heap.get?_push_size _ rfl,rfl⟩)
  exact⟨.ref h'.objs.size,_,I2,rfl,q _ (I1.hok.fresh (Nat.le_refl _))⟩
 ·obtain⟨its,r',pl,hz⟩:=I.tuple hq
  exact call_tuple_same pl ⟨.ref p,H,I,rfl,q⟩
def tyV (K:PySem.W.Frag)(T:String)(x:V)(H:Hp):Prop:=match x with
 |.str _=>T = "str"
 |.int _=>T = "int"
 |.ref p=>(T = "list"∧∃xs,SqL K H p xs)∨(T = "tuple"∧∃o,K.lookup p=some o∧o.cls=.type "tuple"∧o.dict=none) ∨
   (T = "dict"∧((∃kvs,H p=some (.dK kvs))∨∃kvs,H p=some (.dT kvs)))∨(T = "set"∧∃S n,H p=some (.set S n))
 | _=>False
theorem tyV_is {pins:List (Addr×Obj)}{σ:St}{H:Hp}{s:Shared}{T:String}{x:V}{v:Value}(I:Inv X pins σ H s)(r:RelV x v)(ty:tyV X.K T x H) :
  s.TypeIs v T∧∀a,v=.ref a→∃ob,s.heap.get? a=some ob∧ob.dict=none:=by
 cases x with
 | str z =>
  obtain⟨t,rfl⟩:=r
  cases (show T = "str" from ty)
  exact⟨typeIs_str s z t,fun _ e=>nomatch e⟩
 | int i =>
  obtain⟨t,rfl⟩:=r
  cases (show T = "int" from ty)
  exact⟨typeIs_int s i t,fun _ e=>nomatch e⟩
 | ref p =>
  cases r
  rcases ty with ⟨rfl,xs,hq⟩|⟨rfl,o,hk,hc,hd⟩|⟨rfl,hk⟩|⟨rfl,S,n,hk⟩
  ·obtain⟨its,_,pl,_⟩:=I.list hq
   refine⟨pl.isList.typeIs,fun a e=>?_⟩
   cases e
   obtain⟨o,n,e,c,hd,_⟩:=pl
   exact⟨o,e,hd⟩
  ·refine⟨⟨o,I.kIn p o hk,hc⟩,fun a e=>?_⟩
   cases e
   exact⟨o,I.kIn _ o hk,hd⟩
  ·have z:∃o,s.heap.get? p=some o∧o.ExactDict:=by
    rcases hk with ⟨kvs,hk⟩|⟨kvs,hk⟩
    ·obtain⟨_,_,_,_,o,_,_,e,ex,_⟩:=I.hok p _ hk
     exact⟨o,e,ex⟩
    ·obtain⟨_,_,_,_,o,_,_,e,ex,_⟩:=I.hok p _ hk
     exact⟨o,e,ex⟩
   obtain⟨o,e,ex⟩:=z
   refine⟨⟨o,e,ex.1⟩,fun a e2=>?_⟩
   cases e2
   exact⟨o,e,ex.2.1⟩
  ·obtain⟨o,_,_,_,e,ex,_⟩:=I.hok p _ hk
   refine⟨⟨o,e,ex.1⟩,fun a e2=>?_⟩
   cases e2
   exact⟨o,e,ex.2.1⟩
 | _=>exact False.elim ty
def tBM (K:PySem.W.Frag)(T:String)(r:V→List V→Hp→VK→Prop)(to:TE)(t:TA):TE:=fun σ H Q=>to σ H fun x H1=>tyV K T x H1∧t σ H1 fun xs H2=>r x xs H2 Q
variable {o e:Expr}{es:List Expr}{to:TE}{t:TA}{name:Str}{apos cpos:Pos}{T id:String}{r:V→List V→Hp→VK→Prop}
theorem pe_bm (pa:PlainAttrs T)(slot:Slot T name id)(hty:typeOf (.builtin id)=pure (.type "method_descriptor"))(hm:MtR X id r)(ho:PE X o to)(ha:PA X (e::es) t)
  (hbase:attributeBase o name X.env (eval o X.env)=eval o X.env:=by rfl)
  (hfew:((backTo cpos (starEach (e::es) X.env)).all (fun x=>!x.1)&&(backToKw cpos (keywordEach [] X.env)).all (fun x=>x.1.isSome)
   && decide ((e::es).length+([]:List Keyword).length+(if ([]:List Keyword).isEmpty then 0 else 1)<30))=true:=by rfl)
  (hline:(apos.endLine==cpos.line)=true:=by rfl)(hs:starEach (e::es) X.env=(false,eval e X.env)::starEach es X.env:=by rfl)(hplain:(backTo cpos (starEach es X.env)).any (·.1)=false:=by rfl) :
  PE X (.Call (.Attribute o name apos) (e::es) [] cpos) (tBM X.K T r to t):=by
 intro pins s σ H Q I h
 refine wpAny_Call_method_late hbase hfew hline rfl (thn (ho pins s σ H _ I h) fun v s1 ⟨x,H1,I1,r1,ty,q1⟩=>?_)
 obtain⟨h1,h2⟩:=tyV_is I1 r1 ty
 refine⟨T,id,pa,slot,hty,h1,h2,?_⟩
 have hA:=ha cpos pins s1 σ H1 _ I1 q1
 rw[hs]at hA ⊢
 refine Calls.callWith_builtin (by show(false||(backTo cpos (starEach es X.env)).any (·.1))=false;rw[hplain]<;>rfl) (Calls.evalArgs_plain ?_)
 exact thn hA fun us s2 ⟨vs,H2,I2,r2,q2⟩=>hm pins s2 σ H2 x vs v us Q I2 r1 r2 q2
end
end L2
namespace L2
open PySem PySem.Spec PyProof.Rows
def MtM (X:Cx)(id:String)(r:V→List V→Hp→VK→Prop):Prop :=
 ∀(pins:List (Addr×Obj))(s:Shared)(σ:St)(H:Hp)(x:V)(xs:List V)(v:Value)(us:List Value)(Q:VK),Inv X pins σ H s→RelV x v→Vals xs us→r x xs H Q →
  wpAny (model X.prog X.w) X.A (call (.builtin id) (v::us)) (EP X pins σ Q) X.xe s
theorem Vals.one:∀{x:V}{us:List Value},Vals [x] us→∃u,us=[u]∧RelV x u
 | _,_,.cons r .nil=>⟨_,rfl,r⟩
theorem Vals.eraseIdx:∀{xs:List V}{us:List Value}(i:Nat),Vals xs us→Vals (xs.eraseIdx i) (us.eraseIdx i)
 | _,_,_,.nil=>.nil
 | _,_,0,.cons _ t=>t
 | _,_,i+1,.cons r t=>.cons r (Vals.eraseIdx i t)
theorem len_erase {α:Type}:∀(l:List α)(i:Nat),(l.eraseIdx i).length≤l.length
 | [],_=>Nat.le_refl _
 | _::_,0=>Nat.le_succ _
 | _::r,i+1=>Nat.succ_le_succ (len_erase r i)
section
variable {X:Cx}{pins:List (Addr×Obj)}{σ:St}{H:Hp}{s:Shared}{l b:Addr}{xs ys zs:List V}
theorem Inv.lset {its its':List Value}{n:Nat}{f:Array Value→Array Value}{t':Nat}(I:Inv X pins σ H s)(hH:H l=some (.lst xs))
  (e:s.heap.get? l=some { cls:=.type "list",data:=.seq its.toArray n })(hf:f its.toArray=its'.toArray)(hv:Vals ys its')(hz:ys.length≤sizeLine) :
  Inv X pins σ (upd H l (.lst ys)) { s with heap:=s.heap.update l (Obj.mapSeq f),toks:=t' }:=by
 have q:=PySem.IsL.update e f
 rw[hf]at q
 refine I.write (x:=l) (e:=l) (by rw[hH];exact trivial) (.inl rfl) (fun b' u hb hu=>(Heap.get?_update_other s.heap (Obj.mapSeq f) (Ne.symm hb)).trans hu) ⟨_,q⟩ ?_
 exact⟨hz,its',_,hv,q⟩
theorem Inv.lnew {its:List Value}{t':Nat}(I:Inv X pins σ H s)(hv:Vals ys its)(hz:ys.length≤sizeLine) :
  Inv X pins σ (upd H s.heap.objs.size (.lst ys)) { s with heap:=s.heap.push { cls:=.type "list",data:=.seq its.toArray },toks:=t' } :=
 I.laid (fun _ _ q=>Heap.get?_push_of_some _ q) (Nat.le_refl _) ⟨hz,its,0,hv,Heap.get?_push_size _ rfl⟩
theorem Inv.fresh (I:Inv X pins σ H s):H s.heap.objs.size=none:=I.hok.fresh (Nat.le_refl _)
theorem Inv.lstM (I:Inv X pins σ H s)(hH:H l=some (.lst xs)):xs.length≤sizeLine∧∃(its:List Value)(n:Nat),Vals xs its∧xs.length=its.length∧s.heap.get? l=some { cls:=.type "list",data:=.seq its.toArray n }:=by
 obtain⟨z,its,n,r,e⟩:=I.hok l _ hH
 exact⟨z,its,n,r,r.length,e⟩
end
section
variable {X:Cx}
def rAppend:V→List V→Hp→VK→Prop:=fun x vs H Q=>∃l xs y,x=.ref l∧vs=[y]∧H l=some (.lst xs)∧xs.length<sizeLine∧Q .non (upd H l (.lst (xs++[y])))
theorem mt_append:MtM X "list.append" rAppend:=by
 intro pins s σ H x vs v us Q I rx rv h
 obtain⟨l,xs,y,rfl,rfl,hH,hz,q⟩:=h
 cases rx
 obtain⟨u,rfl,ru⟩:=rv.one
 obtain⟨z,its,n,r,hl,e⟩:=I.lstM hH
 refine call_meets F.slot_list_append ⟨_,e,rfl⟩ F.entry_list_append (F.args_list_append_2 _ _) (PySem.list_append l its.toArray n u (by rw[List.size_toArray];omega)) ⟨e,?_⟩
 refine⟨.non,_,I.lset (its':=its++[u]) hH e (by simp) (r.append (.cons ru .nil)) ?_,rfl,q⟩
 rw[List.length_append,List.length_singleton]
 omega
def rPopAt:V→List V→Hp→VK→Prop:=fun x vs H Q=>∃l xs i k y,x=.ref l∧vs=[.int i]∧H l=some (.lst xs)∧-(2 ^ 63)≤i∧i<2 ^ 63∧seqIndex? i xs.length=some k∧xs[k]?=some y∧Q y (upd H l (.lst (xs.eraseIdx k)))
theorem mt_popAt:MtM X "list.pop" rPopAt:=by
 intro pins s σ H x vs v us Q I rx rv h
 obtain⟨l,xs,i,k,y,rfl,rfl,hH,h1,h2,hk,hy,q⟩:=h
 cases rx
 obtain⟨u,rfl,ru⟩:=rv.one
 obtain⟨t,rfl⟩:=ru
 obtain⟨z,its,n,r,hl,e⟩:=I.lstM hH
 obtain⟨w,hw,rw'⟩:=r.get hy
 refine call_meets F.slot_list_pop ⟨_,e,rfl⟩ F.entry_list_pop (F.args_list_pop_2 _ _)
  (MeetsSeq.list_pop_at l its.toArray n i t k w (fitsIndex_both h1 h2) (by rw[List.size_toArray,←hl];exact hk) (by rw[←Array.getElem?_toList];exact hw) (by rw[List.size_toArray];omega)) ⟨e,?_⟩
 refine⟨y,_,I.lset (its':=its.eraseIdx k) hH e ?_ (r.eraseIdx k) ?_,rw',q⟩
 ·show its.toArray.eraseIdxIfInBounds k=(its.eraseIdx k).toArray
  rw[List.eraseIdxIfInBounds_toArray]
 ·have:=len_erase xs k
  omega
def rCat:R2:=fun x y H Q=>∃l b xs zs,x=.ref l∧y=.ref b∧H l=some (.lst xs)∧H b=some (.lst zs)∧xs.length+zs.length≤sizeLine∧∀p,H p=none→Q (.ref p) (upd H p (.lst (xs++zs)))
theorem op_cat:OpR X (binaryOp .Add) rCat:=by
 intro pins s σ H x y v u Q I rx ry h
 obtain⟨l,b,xs,zs,rfl,rfl,hH,hB,hz,q⟩:=h
 cases rx
 cases ry
 obtain⟨z,its,n,r,hl,e⟩:=I.lstM hH
 obtain⟨z2,its2,n2,r2,hl2,e2⟩:=I.lstM hB
 refine PySem.P.add_list e e2 ?_ (by rw[List.size_toArray,List.size_toArray];omega)
 have ea:its.toArray++its2.toArray=(its++its2).toArray:=by simp
 rw[ea]
 exact⟨.ref _,_,I.lnew (t':=s.toks) (r.append r2) (by rw[List.length_append];omega),rfl,q _ I.fresh⟩
end
section
variable {prog:Program}{w:World}{A:Around}{E:Value→Shared→Prop}{s:Shared}
end
section
variable {X:Cx}
end
end L2
namespace Att
open PySem PySem.W PySem.Calls PyProof.Rows
theorem ints_of_wellAll {P:Params}{h:Heap}:∀(ns:List Int)(vs:List Value),WellAll P h vs (ns.map WData.int)→IntsAre vs ns:=by
 intro ns
 induction ns with
 | nil =>
  intro vs w
  rw[List.map_nil]at w
  cases w
  exact .nil
 | cons n ns ih =>
  intro vs w
  rw[List.map_cons]at w
  cases w with
  | cons a b =>
   cases a
   exact .cons _ _ (ih _ b)
theorem script_of {l:OpenLaw}{n:Nat}(hn:l.most=some n){P:Params}{h:Heap}{args:List WData}{vals:List Value}
  (hpre:l.row.toRowW.claim.pre args=true)(hwl:WellAll P h vals args) :
  ∃a vs ns,vals=[Value.ref a]∧args=[WData.list (ns.map WData.int)]∧h.get? a=some { cls:=.type "list",data:=.seq vs.toArray }∧IntsAre vs ns∧ns.length≤n:=by
 have hsh:WShape.hasAll [] args [.list .int]=true:=(pre_splitW hpre).1
 have hc:l.pre.holds [] { args:=args }=true:=(pre_splitW hpre).2
 obtain⟨d,r,rfl,h1,h2⟩:=hasAllW_cons hsh
 obtain rfl:=hasAllW_nil h2
 obtain⟨xs,rfl,h3⟩:=hasW_list h1
 obtain⟨ns,rfl⟩:=items_int h3
 have hlen:ns.length≤n:=by
  unfold OpenLaw.pre at hc
  have h4:(WTm.not (.lt (.lit (.int (n:Int))) (.len (.arg 0)))).holds [] { args:=[.list (ns.map .int)] }=true:=by
   have h4:=(holds_andW hc).1
   rw[hn]at h4
   exact h4
  have h5:=condW_of h4 (w_not (w_lt w_lit (w_len_list (w_arg rfl))))
  rw[List.length_map]at h5
  refine Nat.le_of_not_lt fun q=>?_
  have q':(n:Int)<((ns.length:Nat):Int):=by omega
  first
   |(rw[decide_eq_true q']at h5;exact absurd h5 (by decide))
   |(simp at h5;omega)
 cases hwl with
 | cons w1 w2 =>
  cases w2
  cases w1 with
  | list ho hall=>exact⟨_,_,ns,rfl,rfl,ho,ints_of_wellAll ns _ hall,hlen⟩
theorem post_true (l:OpenLaw)(args:List WData):l.row.toRowW.claim.post args (.bool true) args=true :=
 postW_of (r:=l.row.toRowW) (X:=(true==true))
  (show WShape.has [] (.bool true) .bool=true by first|rfl|decide|simp[WShape.has,WShape.arms,WShape.armsAll])
  (show(WTm.eq .res (.lit (.bool true))).value [] { args:=args,res:=some (.bool true),after:=args }=some (.bool (true==true))from w_eq_bool (w_res rfl) w_lit) rfl
theorem attach_call {l:OpenLaw}{n:Nat}{q:Program}{loose:List Str}{XP:(Str→Option Value)→Heap→Prop}{YP:World→Heap→Prop}{d:DefRec}
  (hn:l.most=some n)(hdf:d.params.defaults=[])
  (call:∀(w:World)(s₀ s₁:Shared)(mg mb:Str→Option Value)(fa:Addr)(o:Obj)(pm cd doc:Value)(a:Addr)(vs:List Value)(ns:List Int),
   Ground q loose [] XP w s₀ mg mb s₁.heap→YP w s₁.heap →
   s₁.heap.get? fa=some o→o.data=.func (docDef d.name d.params d.body d.scope pm cd doc)→s₁.heap.CodeRec cd d.name→mg d.name=some (.ref fa) →
   s₁.heap.get? a=some { cls:=.type "list",data:=.seq vs.toArray }→IntsAre vs ns→ns.length≤n→s₁.gens=#[] →
   codeAny (model l.prog w) callerA (.call (.ref fa) ⟨[.ref a],[]⟩) (fun r s'=>r=.ok (.ret (.bool true))∧OldK s₁.heap s'.heap∧s'.os=s₁.os∧AllBare s'.gens) s₁) :
  WalkO q loose XP YP l.row.toRowW d [] (fun f vs=>PySem.call f vs):=by
 intro w s₀ s₁ mg mb G Y fa o pm cd doc dV kV ho hd hcd hD hmg hg args vals as hpre hlay hrd hwl hlo
 obtain rfl:dV=.none:=Dflts.none hD hdf
 obtain rfl:kV=.none:=Dflts.noKw hD
 obtain⟨a,vs,ns,rfl,rfl,hobj,hints,hlen⟩:=script_of hn hpre hwl
 refine enter_call (codeAny_mono (call w s₀ s₁ mg mb fa o pm cd doc a vs ns G Y ho (fd_plain hd) hcd hmg hobj hints hlen hg) fun r s' hq=>?_)
 obtain⟨rfl,h2,h3,h4⟩:=hq
 exact⟨.inl ⟨.bool true,.bool true,[],rfl,fun _=>rfl,.bool true,post_true l _,fun _=>⟨List.Pairwise.nil,fun _ hm=>(nomatch hm)⟩⟩,h2,h3,h4⟩
section
variable {prog:Program}{w:World}{A:Around}{E:Value→Shared→Prop}{s:Shared}{K:Frag}
end
end Att
namespace L2
open PySem PySem.Spec PyProof.Rows
theorem vals_ints:∀{vs:List Value}{ns:List Int},IntsAre vs ns→Vals (ns.map V.int) vs
 | _,_,.nil=>.nil
 | _,_,.cons n t h=>.cons ⟨t,rfl⟩ (vals_ints h)
def Only (H:Hp):Prop:=∀b,H b=none∨∃o xs,H b=some (.frz o (.lst xs))
theorem law_call {P:Program}{w:World}{K:PySem.W.Frag}{mg mb:Str→Option Value}{CX:CXT}{k:Nat}{fa a:Addr}{fd:FuncData}{x:Str}{sp:Sp}{s₁:Shared}{vs:List Value}{ns:List Int}
  (KX:K.In s₁.heap)(hns:s₁.heap.Ns mainGlobals mg)(hb:s₁.heap.Ns builtinsNs mb)(hbb:∀x:Str,x≠"__name__"→mb x=bootBuiltins x)(hlim:s₁.heap.NoLimit)(hg:s₁.gens=#[])
  (ha:s₁.heap.get? a=some { cls:=.type "list",data:=.seq vs.toArray })(hi:IntsAre vs ns)(hl:ns.length≤sizeLine)(hr:Room k callerA)
  (F:∀base:Heap,K.In base→base.Ns mainGlobals mg→FnOk P w K mg base CX k fa fd [x] sp)(hbind:∀(s:Shared)(u:Value),BindsTo s fd ⟨[u],[]⟩ [(x,u)])
  (hsp:∀H:Hp,Only H→SqL K H a (ns.map V.int)→sp [.ref a] H (fun v _=>v=.bl true) fun _ _ _=>False)
  (hCX:∀H e s',CX [] H s₁ (fun _ _ _=>False) e s'→False) :
  codeAny (model P w) callerA (.call (.ref fa) ⟨[.ref a],[]⟩) (fun r s'=>r=.ok (.ret (.bool true))∧OldK s₁.heap s'.heap∧s'.os=s₁.os∧AllBare s'.gens) s₁:=by
 have rv:=vals_ints hi
 have lenV:=hi.length
 -- from an abstract heap in which nothing but the script may be tracked
 have core:∀H:Hp,Only H→SqL K H a (ns.map V.int)→HOk P w H s₁.heap→(∀b,H b≠none→b=a)→(H a≠none→K.lookup a=none) →
   codeAny (model P w) callerA (.call (.ref fa) ⟨[.ref a],[]⟩) (fun r s'=>r=.ok (.ret (.bool true))∧OldK s₁.heap s'.heap∧s'.os=s₁.os∧AllBare s'.gens) s₁:=by
  intro H hO hS hok hA hK
  have base_of:∀{b:Addr}{o:Obj},s₁.heap.get? b=some o→H b=none→(hidT s₁.heap H).get? b=some o:=fun e n=>hidT_get e n
  have noA:∀{b:Addr}{o:Obj}{es:Array DictEntry}{ep:Nat},s₁.heap.get? b=some o→o.data=.dict es ep→H b=none:=fun {b o es ep} e d=>by
   cases q:H b with
   | none=>rfl
   | some u =>
    have e':b=a:=hA b (by rw[q];simp)
    subst e'
    rw[ha]at e;cases e
    have d':Data.seq vs.toArray _=Data.dict es ep:=d
    cases d'
  have nsK:∀{b:Addr}{m:Str→Option Value},s₁.heap.Ns b m→(hidT s₁.heap H).Ns b m:=fun {b m} ⟨o,es,ep,e,d,r⟩=>⟨o,es,ep,base_of e (noA e d),d,r⟩
  have hKb:K.In (hidT s₁.heap H):=fun b o e=>base_of (KX b o e) (by
   cases q:H b with
   | none=>rfl
   | some u =>
    have e':b=a:=hA b (by rw[q];simp)
    subst e'
    rw[hK (by rw[q];simp)]at e;cases e)
  have hM:Mod K mg (hidT s₁.heap H):=⟨hKb,nsK hns,⟨mb,nsK hb,hbb⟩,let ⟨mc,h1,h2⟩:=hlim;⟨mc,nsK h1,h2⟩⟩
  have e0:Env0 P w K mg (hidT s₁.heap H) callerA [] s₁ H:=⟨rfl,hM,fun b o e=>of_hidT e,Nat.le_of_eq (hidT_size _ _),trivial,fun b hb=>absurd (show b∈([]:List Addr)from hb) (by simp),hok,.of_eq hg⟩
  refine codeAny_mono ((F _ hKb (nsK hns)).run callerA [] s₁ H ⟨[.ref a],[]⟩ [.ref a] [.ref a] _ _ hr e0 (hbind s₁ (.ref a)) (.cons rfl .nil) (hsp H hO hS)) fun r s' h=>?_
  cases r with
  | error e=>exact(hCX H e s' h).elim
  | ok fl =>
   cases fl with
   | next=>exact False.elim h
   | brk=>exact False.elim h
   | cont=>exact False.elim h
   | ret u =>
    obtain⟨v,H',os,bare,un,hok',r',q⟩:=h
    have q':v=.bl true:=q
    subst q'
    obtain rfl:u=Value.bool true:=r'
    refine⟨rfl,OldK.of_keep fun b o e=>?_,os,bare⟩
    cases q:H b with
    | none=>exact un.keep b o e q (by intro z;exact absurd (show b∈([]:List Addr)from z) (by simp)) (by simp)
    | some u =>
     rcases hO b with z|⟨ob,xs,z⟩
     ·rw[q]at z;cases z
     ·have z2:=un.frzs b ob _ z
      obtain⟨e1,_⟩:=hok b _ z
      obtain⟨e2,_⟩:=hok' b _ z2
      rw[e]at e1;cases e1
      exact e2
 cases hk:K.lookup a with
 | some o =>
  -- the script is one of the module's own objects
  have e:=KX a o hk
  rw[ha]at e
  cases e
  refine core (fun _=>none) (fun _=>.inl rfl) (.inr ⟨_,vs.toArray,_,hk,rfl,rfl,rfl,by rw[List.size_toArray,lenV];exact hl,by simpa using rv⟩) (fun b u z=>by have z':(none:Option HO)=some u:=z;cases z') (fun b z=>absurd rfl z) fun z=>absurd rfl z
 | none =>
  refine core (fun b=>if b=a then some (.frz { cls:=.type "list",data:=.seq vs.toArray } (.lst (ns.map V.int)))else none) (fun b=>?_) (.inl (.inr ⟨{ cls:=.type "list",data:=.seq vs.toArray },if_pos rfl⟩)) (fun b u z=>?_) (fun b z=>?_) fun _=>hk
  ·by_cases hb:b=a
   ·exact .inr ⟨_,_,if_pos hb⟩
   ·exact .inl (if_neg hb)
  ·by_cases hb:b=a
   ·have z':=(if_pos hb).symm.trans z
    cases z'
    subst hb
    exact⟨ha,by rw[List.length_map];exact hl,vs,_,rv,ha⟩
   ·have z':=(if_neg hb).symm.trans z
    cases z'
  ·by_cases hb:b=a
   ·exact hb
   ·exact absurd (if_neg hb) z
end L2
namespace L2
open PySem PySem.Spec PyProof.Rows
theorem walk_of {l:PySem.W.OpenLaw}{n k:Nat}{q:Program}{loose:List Str}{XP:(Str→Option Value)→Heap→Prop}{YP:World→Heap→Prop}{d:DefRec}{K:Params→PySem.W.Frag}{CX:World→CXT}{sp:World→Sp}{x:Str}
  (hn:l.most=some n)(hn2:n≤sizeLine)(hdf:d.params.defaults=[])(hr:Room k callerA)
  (hY:∀(w:World)(h:Heap),YP w h→(K w.params).In h)
  (F:∀(w:World)(mg:Str→Option Value)(fa:Addr)(h:Heap),(K w.params).In h→h.Ns mainGlobals mg→mg d.name=some (.ref fa) →
   ∃fd:FuncData,(∀(s:Shared)(u:Value),BindsTo s fd ⟨[u],[]⟩ [(x,u)]) ∧
    ∀base:Heap,(K w.params).In base→base.Ns mainGlobals mg→FnOk l.prog w (K w.params) mg base (CX w) k fa fd [x] (sp w))
  (hsp:∀(w:World)(H:Hp)(a:Addr)(ns:List Int),ns.length≤n→Only H→SqL (K w.params) H a (ns.map V.int)→sp w [.ref a] H (fun v _=>v=.bl true) fun _ _ _=>False)
  (hCX:∀(w:World)(H:Hp)(s:Shared)(e:Value)(s':Shared),CX w [] H s (fun _ _ _=>False) e s'→False) :
  PySem.W.WalkO q loose XP YP l.row.toRowW d [] (fun f vs=>PySem.call f vs):=by
 refine Att.attach_call hn hdf fun w s₀ s₁ mg mb fa o pm cd doc a vs ns G Y ho hd hcd hmg hobj hints hlen hg=>?_
 have KX:=hY w _ Y
 obtain⟨fd,hb,hF⟩:=F w mg fa _ KX G.T.g hmg
 exact law_call KX G.T.g G.T.b G.T.builtins G.T.nolimit hg hobj hints (Nat.le_trans hlen hn2) hr hF hb (fun H hO hS=>hsp w H a ns hlen hO hS) fun H e s'=>hCX w H s₁ e s'
end L2
namespace L2
open PySem PySem.Spec PyProof.Rows
noncomputable def inClass (s:Stmt)(j:Nat):Stmt:=match s with
 |.ClassDef _ _ _ body _ _ _ _ _ _ _=>body.getD j (.Pass ⟨0,0,0,0⟩)
 | _=>.Pass ⟨0,0,0,0⟩
noncomputable def defArgs (s:Stmt):Arguments:=match s with
 |.FunctionDef _ a _ _ _ _ _ _ _ _=>a
 | _=>{ posonlyargs:=[],args:=[],vararg:=none,kwonlyargs:=[],kw_defaults:=[],kwarg:=none,defaults:=[] }
noncomputable def defBody (s:Stmt):List Stmt:=match s with
 |.FunctionDef _ _ b _ _ _ _ _ _ _=>b
 | _=>[]
noncomputable def defScope (s:Stmt):Scope:=match s with
 |.FunctionDef _ _ _ _ _ _ sc _ _ _=>sc
 | _=>{ kind:=.function,names:=[],isGenerator:=false,isCoroutine:=false }
noncomputable abbrev CX0:CXT:=fun _ _ _ _ _ _=>False
noncomputable abbrev E0:XK:=fun _ _ _=>False
theorem pass0 {X:Cx}:Passes CX0 X E0:=fun _ _ _ _ _ _ _ h=>h.elim
structure Fun (K:PySem.W.Frag)(x qual:Str)(st:Stmt)(f:Addr)(fd:FuncData):Prop where
 ex:∃(oc:Value)(od:Option Addr)(kV doc pm:Value)(an:Option Addr)(cdv ct:Value)(osl:Array (Option Value)),
  fd=PySem.W.fnOf x qual (defArgs st) (defBody st) (defScope st) .none kV doc pm an cdv ct∧K.lookup f=some ⟨oc,od,.func fd,osl⟩∧PySem.W.codeIn K cdv qual=true
 kp:PySem.W.keepIn K (.ref f)=true
section
variable {P:Program}{w:World}{K:PySem.W.Frag}{mg:Str→Option Value}{base:Heap}
theorem Fun.ok {x qual:Str}{st:Stmt}{f:Addr}{fd:FuncData}{N ps:List Str}{k:Nat}{sp:Sp}(F:Fun K x qual st f fd)(S:FnScope N ps (defScope st))(len:∀vs H Q E,sp vs H Q E→vs.length=ps.length)
  (hbody:∀(cdv:Value)(A:Around)(outer:List Env)(s:Shared)(H:Hp)(vs:List V)(Q:VK)(E:XK),Room k (A.deeper (envOfC qual (defScope st) s.heap.objs.size f cdv))→sp vs H Q E →
   ∃t,PSs (cxOf CX0 P w K mg base N qual (defScope st) f cdv A outer s H E).nox (defBody st) t∧t { nx:=fun _ H'=>Q .non H',rt:=Q } (start N vs) H):FnOk P w K mg base CX0 (k+1) f fd ps sp:=by
 obtain⟨oc,od,kV,doc,pm,an,cdv,ct,osl,rfl,lk,hcd⟩:=F.ex
 refine fn_of lk hcd S len fun A outer s H vs Q E hr hsp=>?_
 obtain⟨t,h,q⟩:=hbody cdv A outer s H vs Q E hr hsp
 exact⟨t,h.nox,q⟩
theorem Fun.binds {x qual:Str}{st:Stmt}{f:Addr}{fd:FuncData}{ps:List Str}(F:Fun K x qual st f fd)
  (h:∀(kV doc pm:Value)(an:Option Addr)(cdv ct:Value)(us:List Value),us.length=ps.length→bindArgs (PySem.W.fnOf x qual (defArgs st) (defBody st) (defScope st) .none kV doc pm an cdv ct) ⟨us,[]⟩=pure (ps.zip us)):Binds K fd ps []:=by
 obtain⟨oc,od,kV,doc,pm,an,cdv,ct,osl,rfl,lk,hcd⟩:=F.ex
 exact .all (h kV doc pm an cdv ct)
theorem fun_mk {x qual:Str}{st:Stmt}{f:Addr}{oc:Value}{od an:Option Addr}{osl:Array (Option Value)}{kV doc pm cdv ct:Value}(l:K.lookup f=some ⟨oc,od,.func (PySem.W.fnOf x qual (defArgs st) (defBody st) (defScope st) .none kV doc pm an cdv ct),osl⟩)
  (c:PySem.W.codeIn K cdv qual=true)(k:PySem.W.keepIn K (.ref f)=true):Fun K x qual st f (PySem.W.fnOf x qual (defArgs st) (defBody st) (defScope st) .none kV doc pm an cdv ct):=⟨⟨oc,od,kV,doc,pm,an,cdv,ct,osl,rfl,l,c⟩,k⟩
end
section
variable {X:Cx}
theorem pv (i:Nat){x:Str}{pos:Pos}(hN:X.N[i]?=some x:=by rfl)(hv:Vis X.env.scope x:=by first|exact Or.inl rfl|exact Or.inr (Or.inl rfl)|exact Or.inr (Or.inr rfl))(hd:(x==("__debug__" : Str))=false:=by decide)
  (hcd:(x==("__classdict__" : Str))=false:=by decide):PE X (.Name x pos) (tVar i):=pe_var hN hv hd hcd
end
theorem iteF {A B:Prop}(h:B):if false=true then A else B:=by
 rw[if_neg Bool.false_ne_true]
 exact h
theorem iteT {A B:Prop}(h:A):if true=true then A else B:=by
 rw[if_pos rfl]
 exact h
theorem ite2 {c A B:Prop} [Decidable c](h1:c→A)(h2:¬c→B):if c then A else B:=by
 by_cases h:c
 ·rw[if_pos h]
  exact h1 h
 ·rw[if_neg h]
  exact h2 h
theorem iteNS {c A B:Prop} [Decidable c](hc:c)(h:B):if (!decide c)=true then A else B:=by
 rw[decide_eq_true hc]
 exact iteF h
def Same (H H':Hp):Prop:=∀b o,H b=some o→H' b=some o
theorem Same.refl (H:Hp):Same H H:=fun _ _ h=>h
theorem Same.trans {H H1 H2:Hp}(a:Same H H1)(b:Same H1 H2):Same H H2:=fun c o h=>b c o (a c o h)
theorem Same.seq {K:PySem.W.Frag}{H H':Hp}{a:Addr}{xs:List V}(e:Same H H')(h:SqL K H a xs):SqL K H' a xs:=by
 rcases h with (h|⟨o,h⟩)|h
 ·exact .inl (.inl (e _ _ h))
 ·exact .inl (.inr ⟨o,e _ _ h⟩)
 ·exact .inr h
end L2
set_option maxRecDepth 100000
namespace L3
open PySem
noncomputable def closL (cells:List (Str×Addr)):List (Str×NameKind)→List (Str×Addr)→List (Str×Addr)
 | [],cs=>cs
 |(n,k)::r,cs=>closL cells r (if k == .free then (match cells.lookup n with|some c=>(n,c)::cs|none=>cs)else cs)
theorem closureFor_eq {scope:Scope}{env:Env}(h:∀x∈scope.names,x.2=.free→(env.cells.lookup x.1).isSome=true):closureFor scope env=pure (closL env.cells scope.names []):=by
 unfold closureFor
 dsimp only
 generalize scope.names=names at h ⊢
 generalize ([]:List (Str×Addr))=cs
 induction names generalizing cs with
 | nil=>rfl
 | cons x r ih =>
  obtain⟨n,k⟩:=x
  have ih':=fun cs=>ih (fun y hy=>h y (List.mem_cons_of_mem _ hy)) cs
  rw[List.forIn_cons]
  by_cases hk:(k==NameKind.free)=true
  ·have hs:=h (n,k) List.mem_cons_self (by simpa using hk)
   obtain⟨c,hc⟩:=Option.isSome_iff_exists.mp hs
   have hc':env.cells.lookup n=some c:=hc
   have e1:cellOf env n=pure c:=by unfold cellOf;rw[hc']
   simp only[hk,if_true,e1,closL,hc']
   exact ih' _
  ·have hk':(k==NameKind.free)=false:=by simpa using hk
   simp only[hk',Bool.false_eq_true,if_false,closL]
   exact ih' _
theorem closL_lookup {cells:List (Str×Addr)}{x:Str}{c:Addr}:∀{names:List (Str×NameKind)}{cs:List (Str×Addr)},(∀c,cs.lookup x=some c→cells.lookup x=some c)→(closL cells names cs).lookup x=some c→cells.lookup x=some c
 | [],_,h,e=>h c e
 |(n,k)::r,cs,h,e=>by
  unfold closL at e
  refine closL_lookup (names:=r) (fun c' e'=>?_) e
  by_cases hk:(k==NameKind.free)=true
  ·rw[if_pos hk]at e'
   cases hc:cells.lookup n with
   | none=>rw[hc]at e';exact h c' e'
   | some d =>
    rw[hc]at e'
    by_cases hx:(x==n)=true
    ·have:x=n:=by simpa using hx
     subst this
     simp only[List.lookup_cons,beq_self_eq_true]at e'
     cases e'
     exact hc
    ·have hx':(x==n)=false:=by simpa using hx
     simp only[List.lookup_cons,hx']at e'
     exact h c' e'
  ·rw[if_neg hk]at e'
   exact h c' e'
theorem closL_keep {cells:List (Str×Addr)}{x:Str}:∀{names:List (Str×NameKind)}{cs:List (Str×Addr)},(∃c,cs.lookup x=some c)→∃c,(closL cells names cs).lookup x=some c
 | [],_,h=>h
 |(n,k)::r,cs,h=>by
  unfold closL
  refine closL_keep (names:=r) ?_
  by_cases hk:(k==NameKind.free)=true
  ·rw[if_pos hk]
   cases hc:cells.lookup n with
   | none=>exact h
   | some d =>
    by_cases hx:(x==n)=true
    ·exact⟨d,by simp only[List.lookup_cons,hx]⟩
    ·have hx':(x==n)=false:=by simpa using hx
     simp only[List.lookup_cons,hx']
     exact h
  ·rw[if_neg hk];exact h
theorem closL_has {cells:List (Str×Addr)}{x:Str}{d:Addr}(hd:cells.lookup x=some d):∀{names:List (Str×NameKind)}{cs:List (Str×Addr)},(x,NameKind.free)∈names→∃c,(closL cells names cs).lookup x=some c
 | [],_,h=>nomatch h
 |(n,k)::r,cs,h=>by
  unfold closL
  rcases List.mem_cons.mp h with e|e
  ·cases e
   refine closL_keep (names:=r) ⟨d,?_⟩
   rw[if_pos (by rfl),hd]
   simp only[List.lookup_cons,beq_self_eq_true]
  ·exact closL_has hd e
end L3
namespace L3
open PySem
open Sem (wp)
section
variable {prog:Program}{w:World}{A:Around}{R:Result→Shared→Prop}{s:Shared}
noncomputable abbrev testsOf (ifs:List Expr)(env:Env):Sem Bool:=forIn ifs true fun c r=>if r=true then do let ok ←isTrue c env (eval c env);pure (ForInStep.yield ok)else pure (ForInStep.yield r)
theorem comp_loop {elt tg iter:Expr}{ifs:List Expr}{scope:Scope}{pos:Pos}{it acc:Value}{env:Env}(I:Nat→Shared→Prop)
  (turn:∀n s,I n s→wpAny (model prog w) A (pyNext it) (fun r s1=>match r with
   | none=>R (.ok .next) s1
   | some v=>wpAny (model prog w) A (letOwnedTupleGo tg it v) (fun _ s2=>wpAny (model prog w) A (assign tg env v) (fun _ s3=>wpAny (model prog w) A (testsOf ifs env) (fun ok s4 =>
     if ok=true then wpAny (model prog w) A (eval elt env) (fun x s5=>wpAny (model prog w) A (call (.builtin "list.append") [acc,x]) (fun _ s6=>∃m,m<n∧I m s6) (fun _ _=>False) s5) (fun _ _=>False) s4
     else ∃m,m<n∧I m s4) (fun _ _=>False) s3) (fun _ _=>False) s2) (fun _ _=>False) s1) (fun _ _=>False) s)
  (n:Nat)(h:I n s):codeAny (model prog w) A (.compLoop (.ListComp elt [⟨tg,iter,ifs,0⟩] scope pos) 0 it acc env) R s:=by
 refine codeAny_loop rfl I (fun n s hI=>?_) n h
 show wpAny _ A ((compTurn (.ListComp elt [⟨tg,iter,ifs,0⟩] scope pos) 0 it acc env).onRaise (fun x=>do noteFrame x env;theTreesLotGoes x)) _ _ s
 refine wpAny_noted ?_
 rw[compTurn_list]
 refine wpAny_bind (wpAny_standAt (wpAny_bind (wpAny_mono (turn n s hI) (fun r s1 h1=>?_) fun _ _ z=>z.elim)))
 cases r with
 | none=>exact wpAny_pure h1
 | some v =>
  refine wpAny_bind (wpAny_mono h1 (fun _ s2 h2=>?_) fun _ _ z=>z.elim)
  refine wpAny_bind (wpAny_mono h2 (fun _ s3 h3=>wpAny_bind (wpAny_mono h3 (fun ok s4 h4=>?_) fun _ _ z=>z.elim)) fun _ _ z=>z.elim)
  cases ok with
  | false=>exact wpAny_pure ⟨rfl,h4⟩
  | true =>
   refine wpAny_bind (wpAny_bind (wpAny_mono h4 (fun x s5 h5=>wpAny_bind (wpAny_mono h5 (fun _ s6 h6=>wpAny_pure (wpAny_pure ⟨rfl,h6⟩)) fun _ _ z=>z.elim)) fun _ _ z=>z.elim))
end
end L3
namespace L3
open PySem
noncomputable def compOk (sc0 scope:Scope)(N N':List Str)(sh:List Nat):Bool :=
 (scope.kind == .function)&&(scope.names.all fun y=>y.2 != .cell&&((y.2 != .local||scope.names.lookup y.1==some .local)&&(y.2 != .free||sc0.names.lookup y.1==some .cell))) &&
  ((N'.take N.length==N)&&N.zipIdx.all fun p=>scope.names.lookup p.1!=some .local||sh.contains p.2)
structure CompParts (sc0 scope:Scope)(N N':List Str)(sh:List Nat):Prop where
 kind:scope.kind=.function
 cell:∀y∈scope.names,y.2≠.cell
 loc:∀y∈scope.names,y.2=.local→scope.names.lookup y.1=some .local
 free:∀y∈scope.names,y.2=.free→sc0.names.lookup y.1=some .cell
 pre:N'.take N.length=N
 shad:∀(i:Nat)(x:Str),N[i]?=some x→scope.names.lookup x=some .local→i∈sh
theorem compOk_parts {sc0 scope:Scope}{N N':List Str}{sh:List Nat}(h:compOk sc0 scope N N' sh=true):CompParts sc0 scope N N' sh:=by
 unfold compOk at h
 rw[Bool.and_eq_true,Bool.and_eq_true,Bool.and_eq_true]at h
 obtain⟨⟨h1,h2⟩,h3,h4⟩:=h
 rw[List.all_eq_true]at h2 h4
 have q:∀y∈scope.names,y.2≠.cell∧(y.2=.local→scope.names.lookup y.1=some .local)∧(y.2=.free→sc0.names.lookup y.1=some .cell):=fun y hy=>by
  have:=h2 y hy
  rw[Bool.and_eq_true,Bool.and_eq_true]at this
  obtain⟨a,b,c⟩:=this
  refine⟨by simpa using a,fun e=>?_,fun e=>?_⟩
  ·rw[e]at b;simpa using b
  ·rw[e]at c;simpa using c
 refine⟨by simpa using h1,fun y hy=>(q y hy).1,fun y hy=>(q y hy).2.1,fun y hy=>(q y hy).2.2,by simpa using h3,fun i x e l=>?_⟩
 have:=h4 (x,i) (by rw[List.mem_zipIdx_iff_getElem?];simpa using e)
 simp only[l]at this
 simpa using this
theorem relab_inv {env:Env}{x:Str}{k:NameKind}:∀{names:List (Str×NameKind)},(names.map fun(n,k)=>if (k==NameKind.free&&env.scope.kind == .function&&env.kindOf n==some .cell)then (n,NameKind.cell)else (n,k)).lookup x=some k →
  ∃k0,names.lookup x=some k0∧(k=k0∨(k0=.free∧k=.cell))
 | [],h=>by simp at h
 |(n,k1)::r,h=>by
  have ih:=@relab_inv env x k r
  rw[List.map_cons]at h
  dsimp only at h
  by_cases hx:(x==n)=true
  ·refine⟨k1,by simp only[List.lookup_cons,hx],?_⟩
   by_cases hc:(k1==NameKind.free&&env.scope.kind == .function&&env.kindOf n==some .cell)=true
   ·rw[if_pos hc]at h
    simp only[List.lookup_cons,hx]at h
    have:k1=.free:=by
     rw[Bool.and_eq_true,Bool.and_eq_true]at hc
     simpa using hc.1.1
    exact .inr ⟨this,(Option.some.inj h).symm⟩
   ·rw[if_neg hc]at h
    simp only[List.lookup_cons,hx]at h
    exact .inl (Option.some.inj h).symm
  ·have hx':(x==n)=false:=by simpa using hx
   by_cases hc:(k1==NameKind.free&&env.scope.kind == .function&&env.kindOf n==some .cell)=true
   ·rw[if_pos hc]at h
    simp only[List.lookup_cons,hx']at h ⊢
    exact ih h
   ·rw[if_neg hc]at h
    simp only[List.lookup_cons,hx']at h ⊢
    exact ih h
theorem mem_of_look {x:Str}{k:NameKind}:∀{names:List (Str×NameKind)},names.lookup x=some k→(x,k)∈names
 | [],h=>by simp at h
 |(n,k1)::r,h=>by
  by_cases hx:(x==n)=true
  ·have e:x=n:=by simpa using hx
   subst e
   simp only[List.lookup_cons,beq_self_eq_true]at h
   cases h
   exact List.mem_cons_self
  ·have hx':(x==n)=false:=by simpa using hx
   simp only[List.lookup_cons,hx']at h
   exact List.mem_cons_of_mem _ (mem_of_look h)
noncomputable def blank {α:Type}(sh:List Nat)(σ:List (Option α)):List (Option α):=sh.foldl (fun σ i=>σ.set i none) σ
theorem blank_length {α:Type}:∀(sh:List Nat)(σ:List (Option α)),(blank sh σ).length=σ.length
 | [],_=>rfl
 | j::sh,σ=>by
  show(blank sh (σ.set j none)).length=_
  rw[blank_length sh,List.length_set]
theorem blank_get {α:Type}{i:Nat}{v:α}:∀{sh:List Nat}{σ:List (Option α)},(blank sh σ)[i]?=some (some v)→i∉sh∧σ[i]?=some (some v)
 | [],σ,h=>⟨by simp,h⟩
 | j::sh,σ,h=>by
  have h':(blank sh (σ.set j none))[i]?=some (some v):=h
  obtain⟨h1,h2⟩:=blank_get h'
  by_cases e:j=i
  ·subst e
   rw[List.getElem?_set]at h2
   simp at h2
  ·rw[List.getElem?_set_ne e]at h2
   exact⟨fun z=>(List.mem_cons.mp z).elim (fun q=>e q.symm) h1,h2⟩
end L3
namespace L3
open PySem
open Sem (wp)
section
variable {prog:Program}{w:World}{A:Around}{E:Value→Shared→Prop}{s:Shared}
structure AtT (it t:Addr)(xs:Array Value)(i:Nat)(h:Heap):Prop where
 iter:h.IsTupleIter it t i
 tup:h.IsTuple t xs
theorem AtT.move {it t b:Addr}{xs:Array Value}{i:Nat}{h h':Heap}(a:AtT it t xs i h)(k:Heap.ExtBut b h h')(h1:it≠b)(h2:t≠b):AtT it t xs i h':=⟨a.iter.extBut k h1,a.tup.extBut k h2⟩
theorem AtT.keeps {it t:Addr}{xs:Array Value}{i:Nat}{h h':Heap}(a:AtT it t xs i h)(k1:∀o,h.get? it=some o→h'.get? it=some o)(k2:∀o,h.get? t=some o→h'.get? t=some o):AtT it t xs i h' :=
 ⟨a.iter.at k1,let ⟨o,ho,r⟩:=a.tup;⟨o,k2 o ho,r⟩⟩
theorem tnext_item {it t:Addr}{i:Nat}{xs:Array Value}{x:Value}{Q:Value→Shared→Prop}(a:AtT it t xs i s.heap)(hne:t≠it)(hx:xs[i]?=some x)
  (hQ:∀h',AtT it t xs (i+1) h'→Heap.SameBut it s.heap h'→Q x { s with heap:=h' }):wpAny (model prog w) A (Builtin.SmallTypes.nextOf (.ref it)) Q E s:=by
 obtain⟨hit,ht⟩:=a
 have ht0:=ht
 obtain⟨o,ho,hc,hd⟩:=id hit
 obtain⟨ol,hol,_,nl,hdl⟩:=ht
 unfold Builtin.SmallTypes.nextOf
 refine wpAny_bind (wpAny_callSpecial?_slot (name:=Str.ofString "__next__") hit.typeIs F.slot_tuple_iterator_next (wpAny_call_entry F.slot_tuple_iterator_next hit.typeIs F.entry_tuple_iterator_next ?_ (F.args_tuple_iterator_next_1 _)))
 show wpAny _ _ (field (.ref it) 0 >>= _) _ _ s
 refine wpAny_bind (wpAny_field ho hd (x:=.ref t) rfl ?_)
 show wpAny _ _ (if (Value.ref t==Value.none)=true then _ else _) _ _ s
 rw[if_neg (show ¬((Value.ref t==Value.none)=true)from Bool.false_ne_true)]
 show wpAny _ _ (field (.ref it) 1 >>= _) _ _ s
 refine wpAny_bind (wpAny_field ho hd (x:=.int i 0) rfl ?_)
 show wpAny _ _ (seqItems? (.ref t) >>= _) _ _ s
 refine wpAny_bind (wpAny_seqItems hol hdl ?_)
 simp only[Int.toNat_natCast,hx]
 refine wpAny_bind (wpAny_setField ho hd (by simp) (wpAny_pure ⟨x,rfl,wpAny_pure (hQ _ ⟨?_,ht0.extBut (Heap.SameBut.update ..).extBut hne⟩ (Heap.SameBut.update ..))⟩))
 refine⟨_,Heap.get?_update_self _ ho (Obj.isFreed_of_fields (Obj.data_mapFields hd _)),(Obj.cls_mapFields ..).trans hc,?_⟩
 rw[Obj.data_mapFields hd];simp[rawInt]
theorem tnext_end {it t:Addr}{i:Nat}{xs:Array Value}{Q:Value→Shared→Prop}(hh:A.handled=none)(a:AtT it t xs i s.heap)(hx:xs[i]?=none)
  (hE:∀h' e,Heap.ExtBut it s.heap h'→(∃o,h'.get? e=some o∧o.cls=.type "StopIteration")→E (.ref e) { s with heap:=h' }):wpAny (model prog w) A (Builtin.SmallTypes.nextOf (.ref it)) Q E s:=by
 obtain⟨hit,ht⟩:=a
 obtain⟨o,ho,hc,hd⟩:=id hit
 obtain⟨ol,hol,_,nl,hdl⟩:=ht
 unfold Builtin.SmallTypes.nextOf
 refine wpAny_bind (wpAny_callSpecial?_slot (name:=Str.ofString "__next__") hit.typeIs F.slot_tuple_iterator_next (wpAny_call_entry F.slot_tuple_iterator_next hit.typeIs F.entry_tuple_iterator_next ?_ (F.args_tuple_iterator_next_1 _)))
 show wpAny _ _ (field (.ref it) 0 >>= _) _ _ s
 refine wpAny_bind (wpAny_field ho hd (x:=.ref t) rfl ?_)
 show wpAny _ _ (if (Value.ref t==Value.none)=true then _ else _) _ _ s
 rw[if_neg (show ¬((Value.ref t==Value.none)=true)from Bool.false_ne_true)]
 show wpAny _ _ (field (.ref it) 1 >>= _) _ _ s
 refine wpAny_bind (wpAny_field ho hd (x:=.int i 0) rfl ?_)
 show wpAny _ _ (seqItems? (.ref t) >>= _) _ _ s
 refine wpAny_bind (wpAny_seqItems hol hdl ?_)
 simp only[Int.toNat_natCast,hx]
 refine wpAny_bind (wpAny_rule (wpAny_bind (wpAny_setField ho hd (by simp) ?_)))
 show wpAny _ _ (newExc (.type "StopIteration") [] >>= _) _ _ _
 refine wpAny_bind ?_
 simp only[newExc,newTuple]
 refine wpAny_bind (wpAny_newObj_type ?_ (by size_fits))
 refine wpAny_bind (m:=firstArgMember _ _) (wpAny_of_eq (a:=Value.none) (by first|rfl|(simp only[firstArgMember];rfl)) ?_)
 refine wpAny_newObj_type ?_ (by size_fits)
 simp only[raiseNew]
 refine wpAny_bind (wpAny_handled ?_)
 first|rw[show A.in1.handled=none from hh]|rw[hh]
 refine wpAny_bind (wpAny_pure (wpAny_throw ?_))
 exact hE _ _ (((Heap.SameBut.update ..).extBut.push _).push _) ⟨_,Heap.get?_push_size _ rfl,rfl⟩
theorem enumT_next {e it t:Addr}{i:Nat}{xs:Array Value}{x old:Value}{Q:Value→Shared→Prop}(he:IsEnum s.heap e it i old)(a:AtT it t xs i s.heap)(hx:xs[i]?=some x)(hne:e≠it)(hte:t≠e)(hti:t≠it)
  (hQ:∀h',IsEnumOut h' e it ((i:Int)+1) x s.heap.objs.size→AtT it t xs (i+1) h'→h'.get? s.heap.objs.size=some { cls:=.type "tuple",data:=.seq #[.int i s.toks,x] }→h'.objs.size=s.heap.objs.size+1 →
   (∀b o,b≠e→b≠it→s.heap.get? b=some o→h'.get? b=some o)→Q (.ref s.heap.objs.size) { s with heap:=h',toks:=s.toks+1 }) :
  wpAny (model prog w) A (Builtin.«enumerate.__next__» ⟨[.ref e],[]⟩) (fun fin s'=>∃v,fin=.done (.ret v)∧Q v s') E s:=by
 obtain⟨hp,g,d,tk,os⟩:=s
 show wpAny _ _ (field (.ref e) 2 >>= _) _ _ _
 refine wpAny_bind (wpAny_field he rfl (x:=.ref it) rfl ?_)
 refine wpAny_bind (tnext_item a hti hx fun h1 a1 k1=>?_)
 replace k1:Heap.SameBut it hp h1:=k1
 have e1:IsEnum h1 e it i old:=(k1.2 e hne).trans he
 show wpAny _ _ (field (.ref e) 3 >>= _) _ _ ⟨h1,g,d,tk,os⟩
 refine wpAny_bind (wpAny_field e1 rfl (x:=rawInt i) rfl ?_)
 show wpAny _ _ (field (.ref e) 4 >>= _) _ _ ⟨h1,g,d,tk,os⟩
 refine wpAny_bind (wpAny_field e1 rfl (x:=.none) rfl ?_)
 show wpAny _ _ (mkInt i >>= _) _ _ ⟨h1,g,d,tk,os⟩
 refine wpAny_bind (wpAny_mkInt ?_)
 show wpAny _ _ (setField (.ref e) 3 (rawInt ((i:Int)+1)) >>= _) _ _ ⟨h1,g,d,tk+1,os⟩
 refine wpAny_bind (wpAny_setField_rec e1 (by simp) fun h2 e2 k2=>?_)
 replace k2:Heap.SameBut e h1 h2:=k2
 replace e2:IsEnum h2 e it ((i:Int)+1) old:=e2
 show wpAny _ _ (setField (.ref e) 4 .none >>= _) _ _ ⟨h2,g,d,tk+1,os⟩
 refine wpAny_bind (wpAny_setField_rec e2 (by simp) fun h3 e3 k3=>?_)
 replace k3:Heap.SameBut e h2 h3:=k3
 replace e3:IsEnum h3 e it ((i:Int)+1) old:=e3
 show wpAny _ _ (newTuple [.int i tk,x] >>= _) _ _ ⟨h3,g,d,tk+1,os⟩
 refine wpAny_bind (wpAny_newTuple ?_)
 have e4:IsEnum (h3.push { cls:=.type "tuple",data:=.seq #[.int i tk,x] }) e it ((i:Int)+1) old:=Heap.get?_push_of_some _ e3
 generalize q4:h3.push { cls:=.type "tuple",data:=.seq #[.int i tk,x] }=h4 at e4
 have sz:h3.objs.size=hp.objs.size:=by rw[k3.1,k2.1,k1.1]
 have el:e<hp.objs.size:=Heap.lt_size he
 have t4:h4.get? hp.objs.size=some { cls:=.type "tuple",data:=.seq #[.int i tk,x] }:=by rw[←q4,←sz];exact Heap.get?_push_size _ rfl
 have z4:h4.objs.size=hp.objs.size+1:=by rw[←q4,Heap.size_push,sz]
 have k4:∀b o,b≠e→b≠it→hp.get? b=some o→h4.get? b=some o:=fun b o n1 n2 hb=>by
  rw[←q4];exact Heap.get?_push_of_some _ (k3.extBut b o n1 (k2.extBut b o n1 (k1.extBut b o n2 hb)))
 have a4:AtT it t xs (i+1) h4:=by
  rw[←q4]
  exact((a1.move k2.extBut hne.symm hte).move k3.extBut hne.symm hte).keeps (fun o ho=>Heap.get?_push_of_some _ ho) fun o ho=>Heap.get?_push_of_some _ ho
 show wpAny _ _ (Builtin.SmallTypes.ownedTupleIsFree (.ref e) >>= _) _ _ ⟨h4,g,d,tk+1,os⟩
 rw[sz]
 clear q4 e3 k3 e2 k2 e1 k1 a1 sz h3 h2 h1
 refine wpAny_bind ?_
 unfold Builtin.SmallTypes.ownedTupleIsFree
 refine wpAny_bind (wpAny_field e4 rfl (x:=.none) rfl (wpAny_pure ?_))
 simp only[if_true]
 refine wpAny_bind (wpAny_rule ?_)
 refine wpAny_bind (wpAny_field e4 rfl (x:=old) rfl ?_)
 refine wpAny_bind (wpAny_setField_rec e4 (by simp) fun h5 e5 k5=>?_)
 replace k5:Heap.SameBut e h4 h5:=k5
 replace e5:IsEnum h5 e it ((i:Int)+1) x:=e5
 show wpAny _ _ (Builtin.SmallTypes.ownedTupleHandOut (.ref e) (.ref hp.objs.size) >>= _) _ _ ⟨h5,g,d,tk+1,os⟩
 refine wpAny_bind ?_
 unfold Builtin.SmallTypes.ownedTupleHandOut
 refine wpAny_bind (wpAny_setField_rec e5 (by simp) fun h6 e6 k6=>?_)
 replace k6:Heap.SameBut e h5 h6:=k6
 replace e6:IsEnumOut h6 e it ((i:Int)+1) x hp.objs.size:=e6
 refine wpAny_setField_rec e6 (by simp) fun h7 e7 k7=>?_
 replace k7:Heap.SameBut e h6 h7:=k7
 replace e7:IsEnumOut h7 e it ((i:Int)+1) x hp.objs.size:=e7
 have up:∀b o,b≠e→h4.get? b=some o→h7.get? b=some o:=fun b o n q=>k7.extBut b o n (k6.extBut b o n (k5.extBut b o n q))
 refine wpAny_bind (wpAny_letGo (wpAny_pure ⟨_,rfl,hQ h7 e7 (a4.keeps (fun o q=>up _ o hne.symm q) fun o q=>up _ o hte q) (up _ _ (Nat.ne_of_gt el) t4) ?_ fun b o n1 n2 q=>up b o n1 (k4 b o n1 n2 q)⟩))
 rw[k7.1,k6.1,k5.1,z4]
theorem enumT_pyNext {e it t:Addr}{i:Nat}{xs:Array Value}{x old:Value}{Q:Option Value→Shared→Prop}(he:IsEnum s.heap e it i old)(a:AtT it t xs i s.heap)(hx:xs[i]?=some x)(hne:e≠it)(hte:t≠e)(hti:t≠it)
  (hQ:∀h',IsEnumOut h' e it ((i:Int)+1) x s.heap.objs.size→AtT it t xs (i+1) h'→h'.get? s.heap.objs.size=some { cls:=.type "tuple",data:=.seq #[.int i s.toks,x] }→h'.objs.size=s.heap.objs.size+1 →
   (∀b o,b≠e→b≠it→s.heap.get? b=some o→h'.get? b=some o)→Q (some (.ref s.heap.objs.size)) { s with heap:=h',toks:=s.toks+1 }) :
  wpAny (model prog w) A (pyNext (.ref e)) Q E s:=by
 have hT:s.TypeIs (.ref e) "enumerate":=⟨_,he,rfl⟩
 unfold pyNext
 exact wpAny_bind (wpAny_attempt (wpAny_callSpecial?_slot (name:=Str.ofString "__next__") hT F.slot_enumerate_next (wpAny_call_entry F.slot_enumerate_next hT F.entry_enumerate_next
  (enumT_next he a hx hne hte hti fun h' p1 p2 p3 p4 p5=>wpAny_pure (hQ h' p1 p2 p3 p4 p5)) (F.args_enumerate_next_1 _))))
theorem enumT_pyEnd {e it t:Addr}{i:Nat}{xs:Array Value}{old:Value}{Q:Option Value→Shared→Prop}(hh:A.handled=none)(he:IsEnum s.heap e it i old)(a:AtT it t xs i s.heap)(hx:xs[i]?=none)
  (hQ:∀h',Heap.ExtBut it s.heap h'→Q none { s with heap:=h' }):wpAny (model prog w) A (pyNext (.ref e)) Q E s:=by
 have hT:s.TypeIs (.ref e) "enumerate":=⟨_,he,rfl⟩
 unfold pyNext
 refine wpAny_bind (wpAny_attempt (wpAny_callSpecial?_slot (name:=Str.ofString "__next__") hT F.slot_enumerate_next (wpAny_call_entry F.slot_enumerate_next hT F.entry_enumerate_next ?_ (F.args_enumerate_next_1 _))))
 show wpAny _ _ (field (.ref e) 2 >>= _) _ _ _
 refine wpAny_bind (wpAny_field he rfl (x:=.ref it) rfl ?_)
 refine wpAny_bind (tnext_end hh a hx fun h' x he' hx'=>?_)
 obtain⟨o,ho,hc⟩:=hx'
 exact wpAny_bind (wpAny_isInstance (T:="StopIteration") (b:=true) ⟨o,ho,hc⟩ isSubtype_stop (wpAny_pure (hQ _ he')))
end
end L3
namespace L3
open PySem
open Sem (wp)
open AutoSeq1 (wpAny_loadPart')
set_option maxRecDepth 100000
noncomputable abbrev tupIt (t:Addr):Obj:={ cls:=.type "tuple_iterator",data:=.fields #[.ref t,.int 0 0] }
theorem enumT_new (t:Addr)(xs:Array Value)(n:Nat)(dct:Option Addr)(sl:Array (Option Value)) :
  Meets (Builtin.«enumerate.__new__» ⟨[.type "enumerate",.ref t],[]⟩) (fun _ R s=>s.heap.get? t=some { cls:=.type "tuple",dict:=dct,data:=.seq xs n,slots:=sl } ∧
   R (.ok (.ret (.ref (s.heap.push (tupIt t)).objs.size))) { s with heap:=(s.heap.push (tupIt t)).push { cls:=.type "enumerate",data:=.fields #[.none,.bool false,.ref s.heap.objs.size,rawInt 0,.none,.none] } }) :=
 .of_wp fun prog w A R s h=>by
  obtain⟨hp,g,d,tk,os⟩:=s;obtain⟨ht,h⟩:=h
  have hsub:=sub_enumerate
  have hT:Heap.IsTuple (Shared.heap ⟨hp,g,d,tk,os⟩) t xs:=⟨_,ht,rfl,n,rfl⟩
  wp_walk using wpAny_loadPart' ht
  refine wpAny_stack_any fun st=>wpAny_pure ?_
  split
  ·rename_i c _ _ _ _ _
   cases (c==Value.type "enumerate")
   ·wp_walk using wpAny_loadPart' ht,wpAny_pyIter_tuple hT
    exact⟨_,rfl,h⟩
   ·wp_walk using wpAny_loadPart' ht,wpAny_pyIter_tuple hT
    exact⟨_,rfl,h⟩
  ·wp_walk using wpAny_loadPart' ht,wpAny_pyIter_tuple hT
   exact⟨_,rfl,h⟩
section
variable {prog:Program}{w:World}{A:Around}{E:Value→Shared→Prop}{s:Shared}
theorem call_enumT {t:Addr}{xs:Array Value}{Q:Value→Shared→Prop}(hT:s.heap.IsTuple t xs)
  (h:∀h',IsEnum h' (s.heap.objs.size+1) s.heap.objs.size 0 .none→AtT s.heap.objs.size t xs 0 h'→h'.objs.size=s.heap.objs.size+2→(∀b o,s.heap.get? b=some o→h'.get? b=some o) →
   Q (.ref (s.heap.objs.size+1)) { s with heap:=h' }):wpAny (model prog w) A (call (.type "enumerate") [.ref t]) Q E s:=by
 have hT0:=hT
 obtain⟨⟨c,dct,dt,sl⟩,hl,hc,n,hd⟩:=hT
 replace hc:c=.type "tuple":=hc
 replace hd:dt=.seq xs n:=hd
 subst hc hd
 refine callType_new F.called_enumerate (by decide) (F.typeCall_enumerate_1 _) (F.newCall_enumerate_1 _) (fun obj=>F.args_object_init_2 obj _) F.entry_enumerate_new (enumT_new t xs n dct sl) ⟨hl,?_⟩
 have hz:(s.heap.push (tupIt t)).objs.size=s.heap.objs.size+1:=Heap.size_push ..
 show _∧_
 rw[hz]
 have he:IsEnum ((s.heap.push (tupIt t)).push { cls:=.type "enumerate",data:=.fields #[.none,.bool false,.ref s.heap.objs.size,rawInt 0,.none,.none] }) (s.heap.objs.size+1) s.heap.objs.size 0 .none:=by
  have q:=Heap.get?_push_size (s.heap.push (tupIt t)) (o:={ cls:=.type "enumerate",data:=.fields #[.none,.bool false,.ref s.heap.objs.size,rawInt 0,.none,.none] }) rfl
  rw[hz]at q;exact q
 exact⟨⟨_,he,rfl⟩,h _ he ⟨⟨_,Heap.get?_push_of_some _ (Heap.get?_push_size _ rfl),rfl,rfl⟩,(hT0.push _).push _⟩ (by rw[Heap.size_push,hz]) fun b o x=>Heap.get?_push_of_some _ (Heap.get?_push_of_some _ x)⟩
structure ZipAt (z TI TO i1 i2 t1 t2:Addr)(xs ys:Array Value)(i:Nat)(f0:Value)(h:Heap):Prop where
 z:IsZip h z TI TO f0
 TI:IsPair h TI (.ref i1) (.ref i2)
 TO:∃a b,IsPair h TO a b
 one:AtT i1 t1 xs i h
 two:AtT i2 t2 ys i h
theorem ZipAt.keeps {z TI TO i1 i2 t1 t2:Addr}{xs ys:Array Value}{i:Nat}{f0:Value}{h h':Heap}(Z:ZipAt z TI TO i1 i2 t1 t2 xs ys i f0 h)(k:∀b∈[z,TI,TO,i1,i2],∀o,h.get? b=some o→h'.get? b=some o)
  (k1:∀o,h.get? t1=some o→h'.get? t1=some o)(k2:∀o,h.get? t2=some o→h'.get? t2=some o):ZipAt z TI TO i1 i2 t1 t2 xs ys i f0 h' :=
 ⟨k z (by simp) _ Z.z,k TI (by simp) _ Z.TI,let ⟨a,b,q⟩:=Z.TO;⟨a,b,k TO (by simp) _ q⟩,Z.one.keeps (k i1 (by simp)) k1,Z.two.keeps (k i2 (by simp)) k2⟩
theorem zipT_next {z TI TO i1 i2 t1 t2:Addr}{xs ys:Array Value}{i:Nat}{x y:Value}{Q:Value→Shared→Prop}(D:ZipApart z TI TO i1 i2 t1 t2)(Z:ZipAt z TI TO i1 i2 t1 t2 xs ys i .none s.heap)(hx:xs[i]?=some x)(hy:ys[i]?=some y)
  (hQ:∀h',ZipAt z TI TO i1 i2 t1 t2 xs ys (i+1) (rawInt s.heap.objs.size) h'→IsPair h' s.heap.objs.size x y→h'.objs.size=s.heap.objs.size+1 →
   (∀c o,c≠z→c≠TO→c≠i1→c≠i2→s.heap.get? c=some o→h'.get? c=some o)→Q (.ref s.heap.objs.size) { s with heap:=h' }) :
  wpAny (model prog w) A (Builtin.«zip.__next__» ⟨[.ref z],[]⟩) (fun fin s'=>∃v,fin=.done (.ret v)∧Q v s') E s:=by
 obtain⟨hz,hTI,⟨a,b,hTO⟩,h1,h2⟩:=Z
 show wpAny _ _ (field (.ref z) 2 >>= _) _ _ _
 refine wpAny_bind (wpAny_field hz rfl (x:=.bool false) rfl ?_)
 show wpAny _ _ (field (.ref z) 3 >>= _) _ _ _
 refine wpAny_bind (wpAny_field hz rfl (x:=.ref TI) rfl ?_)
 refine wpAny_bind (wpAny_seqItems hTI rfl ?_)
 show wpAny _ _ (Builtin.SmallTypes.ownedTupleIsFree (.ref z) >>= _) _ _ _
 refine wpAny_bind ?_
 unfold Builtin.SmallTypes.ownedTupleIsFree
 refine wpAny_bind (wpAny_field hz rfl (x:=.none) rfl (wpAny_pure ?_))
 simp only[if_true]
 refine wpAny_bind (wpAny_rule (wpAny_bind (wpAny_field hz rfl (x:=.ref TO) rfl (wpAny_bind (wpAny_setField_rec hz (by simp) fun g1 z1 k1=>?_)))))
 replace z1:IsZip g1 z TI TO .ellipsis:=z1
 refine wpAny_bind ?_
 simp only[List.forIn_cons,List.forIn_nil,List.zipIdx_cons,List.zipIdx_nil]
 refine wpAny_bind (wpAny_bind (wpAny_onRaise ?_))
 show wpAny _ _ (Builtin.SmallTypes.nextOf (.ref i1) >>= _) _ _ _
 refine wpAny_bind (tnext_item (h1.move k1.extBut D.i1z D.l1z) D.l1i1 hx fun g2 p2 k2=>wpAny_pure ?_)
 have O2:IsPair g2 TO a b:=k2.extBut _ _ D.TOi1 (k1.extBut _ _ D.TOz hTO)
 refine wpAny_bind (wpAny_seqItems O2 rfl (wpAny_bind (wpAny_updateSeq_pair O2 fun g3 O3 k3=>?_)))
 replace O3:IsPair g3 TO x b:=O3
 refine wpAny_bind (wpAny_letGo (wpAny_pure (wpAny_bind (wpAny_bind (wpAny_onRaise ?_)))))
 show wpAny _ _ (Builtin.SmallTypes.nextOf (.ref i2) >>= _) _ _ _
 refine wpAny_bind (tnext_item (((h2.move k1.extBut D.i2z D.l2z).move k2.extBut D.i12.symm D.l2i1).move k3.extBut D.TOi2.symm D.l2TO) D.l2i2 hy fun g4 p4 k4=>wpAny_pure ?_)
 have O4:IsPair g4 TO x b:=k4.extBut _ _ D.TOi2 O3
 refine wpAny_bind (wpAny_seqItems O4 rfl (wpAny_bind (wpAny_updateSeq_pair O4 fun g5 O5 k5=>?_)))
 replace O5:IsPair g5 TO x y:=O5
 refine wpAny_bind (wpAny_letGo (wpAny_pure (wpAny_pure (wpAny_bind (wpAny_seqItems O5 rfl (wpAny_bind (wpAny_newTuple ?_)))))))
 have sz:g5.objs.size=s.heap.objs.size:=by rw[k5.1,k4.1,k3.1,k2.1,k1.1]
 have z5:IsZip g5 z TI TO .ellipsis:=k5.extBut _ _ D.TOz.symm (k4.extBut _ _ D.i2z.symm (k3.extBut _ _ D.TOz.symm (k2.extBut _ _ D.i1z.symm z1)))
 have kp5:∀c o,c≠z→c≠TO→c≠i1→c≠i2→s.heap.get? c=some o→g5.get? c=some o:=fun c o c1 c2 c3 c4 e=>k5.extBut _ _ c2 (k4.extBut _ _ c4 (k3.extBut _ _ c2 (k2.extBut _ _ c3 (k1.extBut _ _ c1 e))))
 have a5:AtT i1 t1 xs (i+1) g5:=((p2.move k3.extBut D.TOi1.symm D.l1TO).move k4.extBut D.i12 D.l1i2).move k5.extBut D.TOi1.symm D.l1TO
 have b5:AtT i2 t2 ys (i+1) g5:=p4.move k5.extBut D.TOi2.symm D.l2TO
 have zlt:z<g5.objs.size:=Heap.lt_size z5
 show wpAny _ _ (Builtin.SmallTypes.ownedTupleHandOut (.ref z) (.ref g5.objs.size) >>= _) _ _ _
 refine wpAny_bind ?_
 unfold Builtin.SmallTypes.ownedTupleHandOut
 have z6:IsZip (g5.push { cls:=.type "tuple",data:=.seq #[x,y] }) z TI TO .ellipsis:=Heap.get?_push_of_some _ z5
 refine wpAny_bind (wpAny_setField_rec z6 (by simp) fun g7 z7 k7=>?_)
 replace z7:IsZip g7 z TI TO (rawInt g5.objs.size):=z7
 refine wpAny_setField_rec z7 (by simp) fun g8 z8 k8=>?_
 replace z8:IsZip g8 z TI TO (rawInt g5.objs.size):=z8
 have up:∀c o,c≠z→g5.get? c=some o→g8.get? c=some o:=fun c o c1 e=>k8.extBut _ _ c1 (k7.extBut _ _ c1 (Heap.get?_push_of_some _ e))
 have T8:IsPair g8 g5.objs.size x y:=k8.extBut _ _ (Nat.ne_of_gt zlt) (k7.extBut _ _ (Nat.ne_of_gt zlt) (Heap.get?_push_size _ rfl))
 have s8:g8.objs.size=g5.objs.size+1:=by rw[k8.1,k7.1,Heap.size_push]
 rw[sz]at z8 T8 s8
 refine wpAny_pure ⟨_,rfl,?_⟩
 show Q (.ref g5.objs.size) _
 rw[sz]
 exact hQ g8 ⟨z8,up _ _ D.TIz (kp5 _ _ D.TIz D.TITO D.TIi1 D.TIi2 hTI),⟨x,y,up _ _ D.TOz O5⟩,a5.keeps (fun o q=>up _ o D.i1z q) (fun o q=>up _ o D.l1z q),b5.keeps (fun o q=>up _ o D.i2z q) fun o q=>up _ o D.l2z q⟩ T8 s8
  fun c o c1 c2 c3 c4 e=>up c o c1 (kp5 c o c1 c2 c3 c4 e)
theorem zipT_stop {z TI TO i1 i2 t1 t2:Addr}{xs ys:Array Value}{i:Nat}{Q:Fin→Shared→Prop}(hh:A.handled=none)(D:ZipApart z TI TO i1 i2 t1 t2)(Z:ZipAt z TI TO i1 i2 t1 t2 xs ys i .none s.heap)(hend:xs[i]?=none∨ys[i]?=none)
  (hE:∀h' e,(∀c o,c≠z→c≠TO→c≠i1→c≠i2→s.heap.get? c=some o→h'.get? c=some o)→(∃o,h'.get? e=some o∧o.cls=.type "StopIteration")→E (.ref e) { s with heap:=h' }) :
  wpAny (model prog w) A (Builtin.«zip.__next__» ⟨[.ref z],[]⟩) Q E s:=by
 obtain⟨hz,hTI,⟨a,b,hTO⟩,h1,h2⟩:=Z
 show wpAny _ _ (field (.ref z) 2 >>= _) _ _ _
 refine wpAny_bind (wpAny_field hz rfl (x:=.bool false) rfl ?_)
 show wpAny _ _ (field (.ref z) 3 >>= _) _ _ _
 refine wpAny_bind (wpAny_field hz rfl (x:=.ref TI) rfl ?_)
 refine wpAny_bind (wpAny_seqItems hTI rfl ?_)
 show wpAny _ _ (Builtin.SmallTypes.ownedTupleIsFree (.ref z) >>= _) _ _ _
 refine wpAny_bind ?_
 unfold Builtin.SmallTypes.ownedTupleIsFree
 refine wpAny_bind (wpAny_field hz rfl (x:=.none) rfl (wpAny_pure ?_))
 simp only[if_true]
 refine wpAny_bind (wpAny_rule (wpAny_bind (wpAny_field hz rfl (x:=.ref TO) rfl (wpAny_bind (wpAny_setField_rec hz (by simp) fun g1 z1 k1=>?_)))))
 replace z1:IsZip g1 z TI TO .ellipsis:=z1
 refine wpAny_bind ?_
 simp only[List.forIn_cons,List.forIn_nil,List.zipIdx_cons,List.zipIdx_nil]
 refine wpAny_bind (wpAny_bind (wpAny_onRaise ?_))
 show wpAny _ _ (Builtin.SmallTypes.nextOf (.ref i1) >>= _) _ _ _
 cases hx:xs[i]? with
 | none =>
  refine wpAny_bind (tnext_end hh (h1.move k1.extBut D.i1z D.l1z) hx fun g2 e k2 he=>?_)
  obtain⟨oe,hoe,hce⟩:=he
  have z2:IsZip g2 z TI TO .ellipsis:=k2 _ _ D.i1z.symm z1
  have hez:e≠z:=fun q=>by subst q;rw[z2]at hoe;cases hoe;simp at hce
  exact wpAny_setField_rec z2 (by simp) fun g3 _ k3=>hE g3 e (fun c o c1 _ c3 _ q=>k3.extBut _ _ c1 (k2 _ _ c3 (k1.extBut _ _ c1 q))) ⟨oe,k3.extBut _ _ hez hoe,hce⟩
 | some x =>
  have hy:ys[i]?=none:=by rcases hend with q|q;rw[hx]at q;cases q;exact q
  refine wpAny_bind (tnext_item (h1.move k1.extBut D.i1z D.l1z) D.l1i1 hx fun g2 p2 k2=>wpAny_pure ?_)
  have O2:IsPair g2 TO a b:=k2.extBut _ _ D.TOi1 (k1.extBut _ _ D.TOz hTO)
  refine wpAny_bind (wpAny_seqItems O2 rfl (wpAny_bind (wpAny_updateSeq_pair O2 fun g3 O3 k3=>?_)))
  refine wpAny_bind (wpAny_letGo (wpAny_pure (wpAny_bind (wpAny_bind (wpAny_onRaise ?_)))))
  show wpAny _ _ (Builtin.SmallTypes.nextOf (.ref i2) >>= _) _ _ _
  refine wpAny_bind (tnext_end hh (((h2.move k1.extBut D.i2z D.l2z).move k2.extBut D.i12.symm D.l2i1).move k3.extBut D.TOi2.symm D.l2TO) hy fun g4 e k4 he=>?_)
  obtain⟨oe,hoe,hce⟩:=he
  have z4:IsZip g4 z TI TO .ellipsis:=k4 _ _ D.i2z.symm (k3.extBut _ _ D.TOz.symm (k2.extBut _ _ D.i1z.symm z1))
  have hez:e≠z:=fun q=>by subst q;rw[z4]at hoe;cases hoe;simp at hce
  exact wpAny_setField_rec z4 (by simp) fun g5 _ k5=>hE g5 e (fun c o c1 c2 c3 c4 q=>k5.extBut _ _ c1 (k4 _ _ c4 (k3.extBut _ _ c2 (k2.extBut _ _ c3 (k1.extBut _ _ c1 q))))) ⟨oe,k5.extBut _ _ hez hoe,hce⟩
theorem zipT_pyNext {z TI TO i1 i2 t1 t2:Addr}{xs ys:Array Value}{i:Nat}{x y:Value}{Q:Option Value→Shared→Prop}(D:ZipApart z TI TO i1 i2 t1 t2)(Z:ZipAt z TI TO i1 i2 t1 t2 xs ys i .none s.heap)(hx:xs[i]?=some x)(hy:ys[i]?=some y)
  (hQ:∀h',ZipAt z TI TO i1 i2 t1 t2 xs ys (i+1) (rawInt s.heap.objs.size) h'→IsPair h' s.heap.objs.size x y→h'.objs.size=s.heap.objs.size+1 →
   (∀c o,c≠z→c≠TO→c≠i1→c≠i2→s.heap.get? c=some o→h'.get? c=some o)→Q (some (.ref s.heap.objs.size)) { s with heap:=h' }):wpAny (model prog w) A (pyNext (.ref z)) Q E s:=by
 have hT:s.TypeIs (.ref z) "zip":=⟨_,Z.z,rfl⟩
 unfold pyNext
 exact wpAny_bind (wpAny_attempt (wpAny_callSpecial?_slot (name:=Str.ofString "__next__") hT F.slot_zip_next (wpAny_call_entry F.slot_zip_next hT F.entry_zip_next
  (zipT_next D Z hx hy fun h' p1 p2 p3 p4=>wpAny_pure (hQ h' p1 p2 p3 p4)) (F.args_zip_next_1 _))))
theorem zipT_pyEnd {z TI TO i1 i2 t1 t2:Addr}{xs ys:Array Value}{i:Nat}{Q:Option Value→Shared→Prop}(hh:A.handled=none)(D:ZipApart z TI TO i1 i2 t1 t2)(Z:ZipAt z TI TO i1 i2 t1 t2 xs ys i .none s.heap)(hend:xs[i]?=none∨ys[i]?=none)
  (hQ:∀h',(∀c o,c≠z→c≠TO→c≠i1→c≠i2→s.heap.get? c=some o→h'.get? c=some o)→Q none { s with heap:=h' }):wpAny (model prog w) A (pyNext (.ref z)) Q E s:=by
 have hT:s.TypeIs (.ref z) "zip":=⟨_,Z.z,rfl⟩
 unfold pyNext
 refine wpAny_bind (wpAny_attempt (wpAny_callSpecial?_slot (name:=Str.ofString "__next__") hT F.slot_zip_next (wpAny_call_entry F.slot_zip_next hT F.entry_zip_next
  (zipT_stop hh D Z hend fun h' e hk he=>?_) (F.args_zip_next_1 _))))
 obtain⟨o,ho,hc⟩:=he
 exact wpAny_bind (wpAny_isInstance (T:="StopIteration") (b:=true) ⟨o,ho,hc⟩ isSubtype_stop (wpAny_pure (hQ _ hk)))
noncomputable abbrev zh1 (h:Heap)(t1:Addr):Heap:=h.push (tupIt t1)
noncomputable abbrev zh2 (h:Heap)(t1 t2:Addr):Heap:=(zh1 h t1).push (tupIt t2)
noncomputable abbrev zh3 (h:Heap)(t1 t2:Addr):Heap:=(zh2 h t1 t2).push { cls:=.type "tuple",data:=.seq #[.ref h.objs.size,.ref (zh1 h t1).objs.size] }
noncomputable abbrev zh4 (h:Heap)(t1 t2:Addr):Heap:=(zh3 h t1 t2).push { cls:=.type "tuple",data:=.seq #[.none,.none] }
noncomputable abbrev zh5 (h:Heap)(t1 t2:Addr):Heap:=(zh4 h t1 t2).push { cls:=.type "zip",data:=.fields #[.none,.bool false,.bool false,.ref (zh2 h t1 t2).objs.size,.ref (zh3 h t1 t2).objs.size] }
theorem zipT_new (t1 t2:Addr)(xs ys:Array Value) :
  Meets (Builtin.«zip.__new__» ⟨[.type "zip",.ref t1,.ref t2],[]⟩) (fun _ R s=>s.heap.IsTuple t1 xs∧s.heap.IsTuple t2 ys∧R (.ok (.ret (.ref (zh4 s.heap t1 t2).objs.size))) { s with heap:=zh5 s.heap t1 t2 }) :=
 .of_wp fun prog w A R s h=>by
  obtain⟨hp,g,d,tk,os⟩:=s;obtain⟨ht1,ht2,h⟩:=h
  have hsub:=sub_zip
  have T1:Heap.IsTuple (Shared.heap ⟨hp,g,d,tk,os⟩) t1 xs:=ht1
  have T2:Heap.IsTuple (Shared.heap ⟨hp.push { cls:=.type "tuple_iterator",data:=.fields #[.ref t1,.int 0 0] },g,d,tk,os⟩) t2 ys:=Heap.IsTuple.push ht2 _
  wp_walk using wpAny_pyIter_tuple T1,wpAny_pyIter_tuple T2
  exact⟨_,rfl,h⟩
theorem call_zipT {t1 t2:Addr}{xs ys:Array Value}{Q:Value→Shared→Prop}(ht1:s.heap.IsTuple t1 xs)(ht2:s.heap.IsTuple t2 ys)
  (h:∀h',ZipAt (s.heap.objs.size+4) (s.heap.objs.size+2) (s.heap.objs.size+3) s.heap.objs.size (s.heap.objs.size+1) t1 t2 xs ys 0 .none h'→h'.objs.size=s.heap.objs.size+5 →
   (∀c o,s.heap.get? c=some o→h'.get? c=some o)→Q (.ref (s.heap.objs.size+4)) { s with heap:=h' }):wpAny (model prog w) A (call (.type "zip") [.ref t1,.ref t2]) Q E s:=by
 refine callType_new F.called_zip (by decide) (F.typeCall_zip_2 _ _) (F.newCall_zip_2 _ _) (fun obj=>F.args_object_init_3 obj _ _) F.entry_zip_new (zipT_new t1 t2 xs ys) ⟨ht1,ht2,?_⟩
 have z1:(zh1 s.heap t1).objs.size=s.heap.objs.size+1:=Heap.size_push ..
 have z2:(zh2 s.heap t1 t2).objs.size=s.heap.objs.size+2:=by rw[Heap.size_push,z1]
 have z3:(zh3 s.heap t1 t2).objs.size=s.heap.objs.size+3:=by rw[Heap.size_push,z2]
 have z4:(zh4 s.heap t1 t2).objs.size=s.heap.objs.size+4:=by rw[Heap.size_push,z3]
 have z5:(zh5 s.heap t1 t2).objs.size=s.heap.objs.size+5:=by rw[Heap.size_push,z4]
 have up:∀c o,s.heap.get? c=some o→(zh5 s.heap t1 t2).get? c=some o:=fun c o q=>Heap.get?_push_of_some _ (Heap.get?_push_of_some _ (Heap.get?_push_of_some _ (Heap.get?_push_of_some _ (Heap.get?_push_of_some _ q))))
 have g5:(zh5 s.heap t1 t2).get? (zh4 s.heap t1 t2).objs.size=some _:=Heap.get?_push_size _ rfl
 have g4:(zh5 s.heap t1 t2).get? (zh3 s.heap t1 t2).objs.size=some _:=Heap.get?_push_of_some _ (Heap.get?_push_size _ rfl)
 have g3:(zh5 s.heap t1 t2).get? (zh2 s.heap t1 t2).objs.size=some _:=Heap.get?_push_of_some _ (Heap.get?_push_of_some _ (Heap.get?_push_size _ rfl))
 have g2:(zh5 s.heap t1 t2).get? (zh1 s.heap t1).objs.size=some _:=Heap.get?_push_of_some _ (Heap.get?_push_of_some _ (Heap.get?_push_of_some _ (Heap.get?_push_size _ rfl)))
 have g1:(zh5 s.heap t1 t2).get? s.heap.objs.size=some _:=Heap.get?_push_of_some _ (Heap.get?_push_of_some _ (Heap.get?_push_of_some _ (Heap.get?_push_of_some _ (Heap.get?_push_size _ rfl))))
 show _∧_
 rw[z2,z3,z4]at g5
 rw[z1,z2]at g3
 rw[z3]at g4
 rw[z1]at g2
 rw[z4]
 have T1:(zh5 s.heap t1 t2).IsTuple t1 xs:=let ⟨o,ho,r⟩:=ht1;⟨o,up _ _ ho,r⟩
 have T2:(zh5 s.heap t1 t2).IsTuple t2 ys:=let ⟨o,ho,r⟩:=ht2;⟨o,up _ _ ho,r⟩
 exact⟨⟨_,g5,rfl⟩,h _ ⟨g5,g3,⟨_,_,g4⟩,⟨⟨_,g1,rfl,rfl⟩,T1⟩,⟨⟨_,g2,rfl,rfl⟩,T2⟩⟩ z5 up⟩
end
end L3
namespace L3
open PySem PyProof.Rows
section
variable {prog:Program}{w:World}{A:Around}{E:Value→Shared→Prop}{s:Shared}
noncomputable def cutAt (n : Nat) (lo hi st : Option Int) : Int × Int × Nat :=
  ((Builtin.Slice.sliceAdjust lo hi (st.getD 1) (n : Int)).1,st.getD 1,Builtin.Slice.slicePlaces (Builtin.Slice.sliceAdjust lo hi (st.getD 1) (n : Int)).1 (Builtin.Slice.sliceAdjust lo hi (st.getD 1) (n : Int)).2 (st.getD 1))
noncomputable def pickAt {α:Type}(xs:List α)(c:Int×Int×Nat):List α:=(List.range c.2.2).filterMap fun(k:Nat)=>xs[(c.1+(k:Int)*c.2.1).toNat]?
noncomputable def wholeAt (n:Nat)(c:Int×Int×Nat):Bool:=c.1==0&&c.2.1==1&&c.2.2==n
theorem slicePartAny {v:Value}{o:Option Int}{Q:Option Int→Shared→Prop}(p:IsPart v o)(h:Q o s):wpAny (model prog w) A (Builtin.Slice.slicePartIndex v) Q E s:=by
 cases p with
 | none=>exact slicePart_none h
 | int i t=>exact slicePart_int h
theorem sliceAny {sl:Addr}{vl vu vs:Value}{lo hi st:Option Int}{n:Nat}{Q:Int×Int×Nat→Shared→Prop}(hs:s.heap.IsSliceOf sl vl vu vs)(pl:IsPart vl lo)(pu:IsPart vu hi)(ps:IsPart vs st)(h0:st.getD 1≠0)
  (h:Q (cutAt n lo hi st) s):wpAny (model prog w) A (Builtin.Slice.sliceApplied (.ref sl) (pure (n:Int))) Q E s:=by
 obtain⟨os,hos,hcs,hds⟩:=id hs
 unfold Builtin.Slice.sliceApplied Builtin.Slice.sliceFields
 refine wpAny_bind (wpAny_bind (wpAny_field hos hds (x:=vl) rfl (wpAny_bind (wpAny_field hos hds (x:=vu) rfl (wpAny_bind (wpAny_field hos hds (x:=vs) rfl (wpAny_pure ?_)))))))
 refine wpAny_bind (slicePartAny ps ?_)
 show wpAny _ _ (if (st.getD 1==0)=true then _ else _) _ _ s
 rw[if_neg (by simpa using h0)]
 exact wpAny_bind (slicePartAny pl (wpAny_bind (slicePartAny pu (wpAny_bind (wpAny_pure (wpAny_pure h))))))
theorem tupleCut {t sl:Addr}{items:Array Value}{vl vu vs:Value}{lo hi st:Option Int}{Q:Value→Shared→Prop}(ht:IsTup s.heap t items)(hs:s.heap.IsSliceOf sl vl vu vs)(pl:IsPart vl lo)(pu:IsPart vu hi)(ps:IsPart vs st)(h0:st.getD 1≠0)
  (h1:wholeAt items.size (cutAt items.size lo hi st)=true→Q (.ref t) s)
  (h2:wholeAt items.size (cutAt items.size lo hi st)=false→Q (.ref s.heap.objs.size) { s with heap:=s.heap.push { cls:=.type "tuple",data:=.seq (pickAt items.toList (cutAt items.size lo hi st)).toArray } })
  (hsz:(cutAt items.size lo hi st).2.2≤sizeLine):wpAny (model prog w) A (getItem (.ref t) (.ref sl)) Q E s:=by
 have htake:sizeOk (.seq (pickAt items.toList (cutAt items.size lo hi st)).toArray):=by
  show(pickAt items.toList (cutAt items.size lo hi st)).toArray.size≤sizeLine
  rw[List.size_toArray]
  refine Nat.le_trans (List.length_filterMap_le _ _) ?_
  rw[List.length_range]
  exact hsz
 obtain⟨os,hos,hcs,hds⟩:=id hs
 have hTs:s.TypeIs (.ref sl) "slice":=⟨os,hos,hcs⟩
 unfold getItem
 try with_reducible refine wpAny_holding ?_
 first|refine wpAny_bind (wpAny_pure ?_)|skip
 refine wpAny_bind (wpAny_sequenceKey ht.typeIs (by decide) ?_)
 refine wpAny_bind (wpAny_callSpecial?_slot (name:=Str.ofString "__getitem__") ht.typeIs PyProof.Rows.slot_tuple_getitem (wpAny_call_entry PyProof.Rows.slot_tuple_getitem ht.typeIs entry_tuple_getitem ?_ (args_tuple_getitem _ _)))
 show wpAny _ _ (Builtin.Tuple.tupleItemsOf (.ref t) >>= _) _ _ s
 refine wpAny_bind (tupleItemsOf_ ht ?_)
 refine wpAny_bind (wpAny_typeOf hTs ?_)
 rw[if_pos (by decide)]
 refine wpAny_bind (sliceAny hs pl pu ps h0 ?_)
 generalize cutAt items.size lo hi st=c at h1 h2 htake
 obtain⟨a,b,n⟩:=c
 have e:(List.filterMap (fun(k:Nat)=>items[(a+(k:Int)*b).toNat]?) (List.range n))=pickAt items.toList (a,b,n):=by
  unfold pickAt
  congr 1
  funext k
  rw[Array.getElem?_toList]
 show wpAny _ _ (if (a==0&&b==1&&n==items.size)=true then _ else _) _ _ s
 cases hw:wholeAt items.size (a,b,n)with
 | true =>
  have hw':(a==0&&b==1&&n==items.size)=true:=hw
  rw[if_pos hw']
  obtain⟨o,ho,hc,nn,hd⟩:=id ht
  have q:=h1 hw
  first
   |(refine wpAny_bind (m:=Builtin.Tuple.tupleIsExact _) ?_;unfold Builtin.Tuple.tupleIsExact;refine wpAny_bind (wpAny_typeOf ht.typeIs (wpAny_pure ?_));rw[if_pos (by decide)];exact wpAny_bind (wpAny_rule (wpAny_pure ⟨_,rfl,wpAny_pure q⟩)))
   | trace_state
 | false =>
  have hw':¬((a==0&&b==1&&n==items.size)=true):=by
   intro z
   have:wholeAt items.size (a,b,n)=true:=z
   rw[hw]at this;cases this
  rw[if_neg hw',e]
  have q:=h2 hw
  first
   | exact wpAny_bind (m:=Builtin.Tuple.tupleExact _) (wpAny_newObj_type (wpAny_pure ⟨_,rfl,wpAny_pure q⟩) htake)
   | exact wpAny_bind (m:=Builtin.Tuple.tupleExact _) (wpAny_newObj_type (wpAny_bind (wpAny_pure (wpAny_pure ⟨_,rfl,wpAny_pure q⟩))) htake)
   | exact wpAny_bind (wpAny_bind (m:=Builtin.Tuple.tupleExact _) (wpAny_newObj_type (wpAny_pure (wpAny_pure ⟨_,rfl,wpAny_pure q⟩)) htake))
   | exact wpAny_bind (wpAny_bind (m:=Builtin.Tuple.tupleExact _) (wpAny_newObj_type (wpAny_pure ⟨_,rfl,wpAny_pure q⟩) htake))
end
end L3
namespace L3
open PySem
theorem bt_len:bootBuiltins "len"=some (.builtin "len"):=by decide +kernel
theorem bt_tuple:bootBuiltins "tuple"=some (.type "tuple"):=by decide +kernel
theorem bt_all:bootBuiltins "all"=some (.builtin "all"):=by decide +kernel
theorem bt_isinstance:bootBuiltins "isinstance"=some (.builtin "isinstance"):=by decide +kernel
theorem bt_min:bootBuiltins "min"=some (.builtin "min"):=by decide +kernel
theorem bt_max:bootBuiltins "max"=some (.builtin "max"):=by decide +kernel
theorem bt_bool:bootBuiltins "bool"=some (.type "bool"):=by decide +kernel
theorem bt_str:bootBuiltins "str"=some (.type "str"):=by decide +kernel
theorem bt_int:bootBuiltins "int"=some (.type "int"):=by decide +kernel
theorem bt_abs:bootBuiltins "abs"=some (.builtin "abs"):=by decide +kernel
theorem bt_sum:bootBuiltins "sum"=some (.builtin "sum"):=by decide +kernel
theorem bt_sorted:bootBuiltins "sorted"=some (.builtin "sorted"):=by decide +kernel
end L3
set_option maxRecDepth 100000
namespace L2
open PySem PySem.Spec PyProof.Rows
section
variable {X:Cx}{pins:List (Addr×Obj)}{σ:St}{H:Hp}{s:Shared}{h':Heap}
theorem Inv.turnLay {a:Addr}{o:HO}{t':Nat}{ch:List Addr}(I:Inv X pins σ H s)(hf:∀b∈ch,FpOk X pins H b)(k:∀b u,b∉ch→s.heap.get? b=some u→h'.get? b=some u)(hp:s.heap.objs.size≤a)
  (new:ObjOk X.prog X.w (upd H a o) h' a o):Inv X pins σ (upd H a o) { s with heap:=h',toks:=t' }:=by
 have fa:H a=none:=I.hok.fresh hp
 have nch:∀b u,H b=some u→b∉ch:=fun b u e z=>by rw[(hf b z).1]at e;cases e
 refine I.step (g':=s.gens) (d':=s.drawn) (ch:=ch) (fun b hb=>?_) (fun b u _ _ hc e _=>k b u hc e) (fun b u _ _ hc e _=>⟨u.slots,k b u hc e⟩) (fun b u hc e n=>?_) (fun b u hc e=>⟨u,k b u hc e⟩)
  (fun b xs e=>?_) (fun b ob u e=>?_) (fun b ps e=>?_) (fun m hm=>?_) (fun b u e=>?_) I.bare
 ·obtain⟨_,f1,_,f3,f4,f5⟩:=hf b hb
  exact⟨f3,f1,f4,f5⟩
 ·rw[upd_ne (Nat.ne_of_lt (Nat.lt_of_lt_of_le (Heap.lt_size e) hp))];exact n
 ·rw[upd_ne (ne_of_none e fa)];exact e
 ·rw[upd_ne (ne_of_none e fa)];exact e
 ·exact⟨#[],by rw[upd_ne (ne_of_none e fa),e];simp⟩
 ·obtain⟨ob,es,ep,ho,r⟩:=hm
  exact⟨ob,es,ep,k _ ob (fun z=>(hf _ z).2.1 rfl) ho,r⟩
 ·by_cases hb:b=a
  ·subst hb;rw[upd_same]at e;cases e;exact new
  ·rw[upd_ne hb]at e
   refine(I.hok b u e).stay (fun c v hc q=>k c v ?_ q) (fun c q=>by rw[upd_ne (ne_of_none q fa)];exact q) fun c xs q=>by rw[upd_ne (ne_of_none q fa)];exact q
   rcases hc with z|z
   ·rw[z];exact nch b u e
   ·exact nch c _ z
theorem Inv.turnMany {t':Nat}{ch:List Addr}(I:Inv X pins σ H s)(hf:∀b∈ch,FpOk X pins H b)(k:∀b u,b∉ch→s.heap.get? b=some u→h'.get? b=some u):Inv X pins σ H { s with heap:=h',toks:=t' }:=by
 have nch:∀b u,H b=some u→b∉ch:=fun b u e z=>by rw[(hf b z).1]at e;cases e
 refine I.step (g':=s.gens) (d':=s.drawn) (ch:=ch) (fun b hb=>?_) (fun b u _ _ hc e _=>k b u hc e) (fun b u _ _ hc e _=>⟨u.slots,k b u hc e⟩) (fun b u hc e n=>n) (fun b u hc e=>⟨u,k b u hc e⟩)
  (fun b xs e=>e) (fun b ob u e=>e) (fun b ps e=>⟨#[],by rw[e];simp⟩) (fun m hm=>?_) (fun b u e=>?_) I.bare
 ·obtain⟨_,f1,_,f3,f4,f5⟩:=hf b hb
  exact⟨f3,f1,f4,f5⟩
 ·obtain⟨ob,es,ep,ho,r⟩:=hm
  exact⟨ob,es,ep,k _ ob (fun z=>(hf _ z).2.1 rfl) ho,r⟩
 ·refine(I.hok b u e).stay (fun c v hc q=>k c v ?_ q) (fun _ q=>q) fun _ _ q=>q
  rcases hc with z|z
  ·rw[z];exact nch b u e
  ·exact nch c _ z
end
noncomputable def Ite (K:PySem.W.Frag)(a:Addr):It :=
 ⟨fun i H=>∃xs x,SqT K H a xs∧xs[i]?=some x,fun i H v H'=>∃p x,H p=none∧v=.ref p∧H'=upd H p (.tup [.int i,x])∧∀xs,SqT K H a xs→xs[i]?=some x,fun i H=>∃xs,SqT K H a xs∧xs.length≤i⟩
noncomputable def Itz (K:PySem.W.Frag)(a b:Addr):It :=
 ⟨fun i H=>∃xs ys x y,SqT K H a xs∧SqT K H b ys∧xs[i]?=some x∧ys[i]?=some y,
  fun i H v H'=>∃p x y,H p=none∧v=.ref p∧H'=upd H p (.tup [x,y])∧(∀xs,SqT K H a xs→xs[i]?=some x)∧∀ys,SqT K H b ys→ys[i]?=some y,
  fun i H=>∃xs ys,SqT K H a xs∧SqT K H b ys∧(xs.length≤i∨ys.length≤i)⟩
theorem turn_enumT {P:Program}{w:World}{K:PySem.W.Frag}{elts:List Expr} {x1}{tp:Pos}{e it a:Addr}(hne:e≠it)(hae:a≠e)(hai:a≠it) :
  Turn P w K (.Tuple elts x1 tp) (Ite K a) [e,it] e (fun i h=>(∃old,IsEnum h e it i old)∧h.IsTupleIter it a i) where
 mem:=by simp
 obj:=fun i h st b hb=>by
  obtain⟨⟨old,q⟩,⟨o,e1,c,d⟩⟩:=st
  rcases List.mem_cons.mp hb with z|z
  ·subst z;exact⟨_,q,fun v z=>by have z':Data.fields _=Data.cell v:=z;cases z'⟩
  ·have z:b=it:=by simpa using z
   subst z;exact⟨o,e1,fun v z=>by rw[d]at z;cases z⟩
 keep:=fun i h h' ⟨⟨old,q⟩,r⟩ k=>⟨⟨old,k e (by simp) _ q⟩,r.at fun o z=>k it (by simp) o z⟩
 item:=by
  intro X hP hw hK hc i pins s σ H E I hf st hg
  subst hP hw hK
  obtain⟨⟨old,he⟩,hit⟩:=st
  obtain⟨xs,x,hq,hx⟩:=hg
  obtain⟨its,rv,p,hz⟩:=I.tuple hq
  obtain⟨u,hu,ru⟩:=rv.get hx
  refine L3.enumT_pyNext he ⟨hit,p⟩ (x:=u) (by simpa using hu) hne hae hai fun h' o1 a1 tp1 sz k1=>⟨_,rfl,?_⟩
  refine wpAny_letOwnedTupleGo_enum o1 fun h2 e2 k2=>?_
  have hT:s.heap.objs.size≠e:=Nat.ne_of_gt (Heap.lt_size he)
  have kk:∀b v,b∉[e,it]→s.heap.get? b=some v→h2.get? b=some v:=fun b v hb q=>by
   have n1:b≠e:=fun z=>hb (by simp[z])
   have n2:b≠it:=fun z=>hb (by simp[z])
   exact(k2.2 b n1).trans (k1 b v n1 n2 q)
  have new:ObjOk X.prog X.w (upd H s.heap.objs.size (.tup [.int i,x])) h2 s.heap.objs.size (.tup [.int i,x]) :=
   ⟨by show 2≤sizeLine;decide,[.int i s.toks,u],.cons ⟨_,rfl⟩ (.cons ru .nil),⟨_,(k2.2 _ hT).trans tp1,rfl,_,rfl⟩,_,(k2.2 _ hT).trans tp1,rfl⟩
  have IL:Inv X pins σ (upd H s.heap.objs.size (.tup [.int i,x])) { s with heap:=h2,toks:=s.toks+1 }:=I.turnLay (t':=s.toks+1) (ch:=[e,it]) hf kk (Nat.le_refl _) new
  refine⟨.ref s.heap.objs.size,_,IL,rfl,⟨_,x,I.hok.fresh (Nat.le_refl _),rfl,rfl,fun ys hy=>by rw[I.tuple_inj hy hq];exact hx⟩,⟨⟨u,?_⟩,a1.iter.at fun o z=>(k2.2 it hne.symm).trans z⟩,fun b hb=>?_⟩
  ·have e3:IsEnum h2 e it ((i:Int)+1) u:=e2
   rw[show(((i+1:Nat):Int))=(i:Int)+1 by omega]
   exact e3
  ·rw[upd_ne (Nat.ne_of_lt ?_)]
   ·exact(hf b hb).1
   ·rcases List.mem_cons.mp hb with z|z
    ·rw[z];exact Heap.lt_size he
    ·have z:b=it:=by simpa using z
     obtain⟨o,q,_⟩:=hit
     rw[z];exact Heap.lt_size q
 done:=by
  intro X hP hw hK hc i pins s σ H E I hf st hg
  subst hP hw hK
  obtain⟨⟨old,he⟩,hit⟩:=st
  obtain⟨xs,hq,hx⟩:=hg
  obtain⟨its,rv,p,hz⟩:=I.tuple hq
  have hl:=rv.length
  refine L3.enumT_pyEnd (I.ok.hd hc) he ⟨hit,p⟩ (by simp;omega) fun h' k=>⟨rfl,I.turnMany (t':=s.toks) (ch:=[e,it]) hf fun b v hb q=>k b v (fun z=>hb (by simp[z])) q⟩
 self:=fun _ _ _ _ _ ⟨⟨_,q⟩,_⟩ h=>wpAny_pyIter_enum q h
theorem turn_zipT {P:Program}{w:World}{K:PySem.W.Frag}{elts:List Expr} {x1}{tp:Pos}{z TI TO i1 i2 a b:Addr}(D:ZipApart z TI TO i1 i2 a b) :
  Turn P w K (.Tuple elts x1 tp) (Itz K a b) [z,TI,TO,i1,i2] z (fun i h=>IsZip h z TI TO .none∧IsPair h TI (.ref i1) (.ref i2)∧(∃u v,IsPair h TO u v)∧h.IsTupleIter i1 a i∧h.IsTupleIter i2 b i) where
 mem:=by simp
 obj:=fun i h st c hc=>by
  obtain⟨q1,q2,⟨u,v,q3⟩,⟨o4,e4,c4,d4⟩,⟨o5,e5,c5,d5⟩⟩:=st
  simp only[List.mem_cons,List.not_mem_nil,or_false]at hc
  rcases hc with rfl|rfl|rfl|rfl|rfl
  ·exact⟨_,q1,fun v z=>by have z':Data.fields _=Data.cell v:=z;cases z'⟩
  ·exact⟨_,q2,fun v z=>by have z':Data.seq _ _=Data.cell v:=z;cases z'⟩
  ·exact⟨_,q3,fun v z=>by have z':Data.seq _ _=Data.cell v:=z;cases z'⟩
  ·exact⟨o4,e4,fun v z=>by rw[d4]at z;cases z⟩
  ·exact⟨o5,e5,fun v z=>by rw[d5]at z;cases z⟩
 keep:=fun i h h' ⟨q1,q2,⟨u,v,q3⟩,r4,r5⟩ k=>⟨k _ (by simp) _ q1,k _ (by simp) _ q2,⟨u,v,k _ (by simp) _ q3⟩,r4.at fun o q=>k _ (by simp) o q,r5.at fun o q=>k _ (by simp) o q⟩
 item:=by
  intro X hP hw hK hc i pins s σ H E I hf st hg
  subst hP hw hK
  have st0:=st
  obtain⟨q1,q2,q3,r4,r5⟩:=st
  obtain⟨xs,ys,x,y,hq,hq',hx,hy⟩:=hg
  obtain⟨its,rv,p,_⟩:=I.tuple hq
  obtain⟨its',rv',p',_⟩:=I.tuple hq'
  obtain⟨u,hu,ru⟩:=rv.get hx
  obtain⟨v,hv,rw'⟩:=rv'.get hy
  refine L3.zipT_pyNext D ⟨q1,q2,q3,⟨r4,p⟩,⟨r5,p'⟩⟩ (x:=u) (y:=v) (by simpa using hu) (by simpa using hv) fun h' Z tp1 sz k1=>⟨_,rfl,?_⟩
  refine wpAny_letOwnedTupleGo_zip Z.z fun h2 z2 k2=>?_
  have lt:∀c∈[z,TI,TO,i1,i2],c<s.heap.objs.size:=fun c hc=>by
   obtain⟨w1,w2,⟨_,_,w3⟩,⟨_,w4,_⟩,⟨_,w5,_⟩⟩:=st0
   simp only[List.mem_cons,List.not_mem_nil,or_false]at hc
   rcases hc with rfl|rfl|rfl|rfl|rfl
   ·exact Heap.lt_size w1
   ·exact Heap.lt_size w2
   ·exact Heap.lt_size w3
   ·exact Heap.lt_size w4
   ·exact Heap.lt_size w5
  have hT:s.heap.objs.size≠z:=Nat.ne_of_gt (lt z (by simp))
  have kk:∀c w',c∉[z,TI,TO,i1,i2]→s.heap.get? c=some w'→h2.get? c=some w':=fun c w' hc q=>by
   have n1:c≠z:=fun e=>hc (by simp[e])
   exact(k2.2 c n1).trans (k1 c w' n1 (fun e=>hc (by simp[e])) (fun e=>hc (by simp[e])) (fun e=>hc (by simp[e])) q)
  have new:ObjOk X.prog X.w (upd H s.heap.objs.size (.tup [x,y])) h2 s.heap.objs.size (.tup [x,y]) :=
   ⟨by show 2≤sizeLine;decide,[u,v],.cons ru (.cons rw' .nil),⟨_,(k2.2 _ hT).trans tp1,rfl,_,rfl⟩,_,(k2.2 _ hT).trans tp1,rfl⟩
  have IL:Inv X pins σ (upd H s.heap.objs.size (.tup [x,y])) { s with heap:=h2,toks:=s.toks }:=I.turnLay (t':=s.toks) (ch:=[z,TI,TO,i1,i2]) hf kk (Nat.le_refl _) new
  refine⟨.ref s.heap.objs.size,_,IL,rfl,
   ⟨_,x,y,I.hok.fresh (Nat.le_refl _),rfl,rfl,fun ys hy'=>by rw[I.tuple_inj hy' hq];exact hx,fun ys hy'=>by rw[I.tuple_inj hy' hq'];exact hy⟩,
   ⟨z2,(k2.2 _ D.TIz).trans Z.TI,?_,Z.one.iter.at fun o q=>(k2.2 _ D.i1z).trans q,Z.two.iter.at fun o q=>(k2.2 _ D.i2z).trans q⟩,fun c hc=>?_⟩
  ·obtain⟨a',b',q⟩:=Z.TO
   exact⟨a',b',(k2.2 _ D.TOz).trans q⟩
  ·rw[upd_ne (Nat.ne_of_lt (lt c hc))];exact(hf c hc).1
 done:=by
  intro X hP hw hK hc i pins s σ H E I hf st hg
  subst hP hw hK
  obtain⟨q1,q2,q3,r4,r5⟩:=st
  obtain⟨xs,ys,hq,hq',hx⟩:=hg
  obtain⟨its,rv,p,_⟩:=I.tuple hq
  obtain⟨its',rv',p',_⟩:=I.tuple hq'
  have hl:=rv.length
  have hl':=rv'.length
  refine L3.zipT_pyEnd (I.ok.hd hc) D ⟨q1,q2,q3,⟨r4,p⟩,⟨r5,p'⟩⟩ ?_ fun h' k=>⟨rfl,I.turnMany (t':=s.toks) (ch:=[z,TI,TO,i1,i2]) hf fun c v hc q =>
   k c v (fun e=>hc (by simp[e])) (fun e=>hc (by simp[e])) (fun e=>hc (by simp[e])) (fun e=>hc (by simp[e])) q⟩
  rcases hx with hx|hx
  ·exact .inl (by simp;omega)
  ·exact .inr (by simp;omega)
 self:=fun _ _ _ _ _ ⟨q,_⟩ h=>wpAny_pyIter_zip q h
section
variable {X:Cx}
def iEnumT (K:PySem.W.Frag)(ta:TA):TI:=fun σ H R=>ta σ H fun vs H1=>∃a,vs=[.ref a]∧(∃xs,SqT K H1 a xs)∧R (Ite K a) H1
def iZipT (K:PySem.W.Frag)(ta:TA):TI:=fun σ H R=>ta σ H fun vs H1=>∃a b,vs=[.ref a,.ref b]∧(∃xs,SqT K H1 a xs)∧(∃ys,SqT K H1 b ys)∧R (Itz K a b) H1
theorem pi_enumT {a:Expr}{ta:TA}{p pos tp:Pos}{elts:List Expr} {x1}(hg:Gl X "enumerate")(hm:X.mg "enumerate"=none)(ha:PA X [a] ta)(hs:starEach [a] X.env=[(false,eval a X.env)]:=by rfl) :
  PI X (.Tuple elts x1 tp) (.Call (.Name "enumerate" p) [a] [] pos) (iEnumT X.K ta):=by
 intro pins s σ H R I h
 refine Call_ (ld_blt I hg hm boot_enumerate (PyProof.Rows.callWith_type1 (thn (ha pos pins s σ H _ I h) fun us s1 ⟨vs,H1,I1,r1,q1⟩=>?_) hs rfl))
 obtain⟨t,e,⟨xs,hq⟩,q⟩:=q1
 subst e
 cases r1 with
 | cons r rr =>
  cases rr
  cases r
  obtain⟨its,rv,pt,hz⟩:=I1.tuple hq
  have pt':s1.heap.IsTuple t its.toArray:=pt
  have tlt:t<s1.heap.objs.size:=by obtain⟨o,ho,_⟩:=pt';exact Heap.lt_size ho
  refine L3.call_enumT pt' fun h' he a0 sz k=>?_
  have I2:Inv X pins σ H1 { s1 with heap:=h' }:=I1.kept (t':=s1.toks) k
  refine wpAny_pyIter_enum (it:=s1.heap.objs.size) (i:=0) (old:=.none) he ⟨_,[s1.heap.objs.size+1,s1.heap.objs.size],_,_,H1,rfl,I2,turn_enumT (a:=t) (Nat.ne_of_gt (Nat.lt_succ_self _)) (Nat.ne_of_lt (Nat.lt_succ_of_lt tlt)) (Nat.ne_of_lt tlt),⟨⟨_,he⟩,a0.iter⟩,fun b hb=>?_,q⟩
  have hb':s1.heap.objs.size≤b:=by
   simp only[List.mem_cons,List.not_mem_nil,or_false]at hb
   rcases hb with rfl|rfl
   ·exact Nat.le_succ _
   ·exact Nat.le_refl _
  exact I1.fpOk hb' (I1.hok.fresh hb')
theorem pi_zipT {a b:Expr}{ta:TA}{p pos tp:Pos}{elts:List Expr} {x1}(hg:Gl X "zip")(hm:X.mg "zip"=none)(ha:PA X [a,b] ta)
  (hs:starEach [a,b] X.env=[(false,eval a X.env),(false,eval b X.env)]:=by rfl)(hs2:starEach [b] X.env=[(false,eval b X.env)]:=by rfl):PI X (.Tuple elts x1 tp) (.Call (.Name "zip" p) [a,b] [] pos) (iZipT X.K ta):=by
 intro pins s σ H R I h
 refine Call_ (ld_blt I hg hm boot_zip (PyProof.Rows.callWith_type1 (thn (ha pos pins s σ H _ I h) fun us s1 ⟨vs,H1,I1,r1,q1⟩=>?_) (by rw[hs,hs2]) (by rw[hs2];rfl)))
 obtain⟨t,t2,e,⟨xs,hq⟩,⟨ys,hq'⟩,q⟩:=q1
 subst e
 cases r1 with
 | cons r rr =>
  cases rr with
  | cons r' rr =>
   cases rr
   cases r
   cases r'
   obtain⟨its,rv,pt,hz⟩:=I1.tuple hq
   obtain⟨its',rv',pt',hz'⟩:=I1.tuple hq'
   have T1:s1.heap.IsTuple t its.toArray:=pt
   have T2:s1.heap.IsTuple t2 its'.toArray:=pt'
   have l1:t<s1.heap.objs.size:=by obtain⟨o,ho,_⟩:=T1;exact Heap.lt_size ho
   have l2:t2<s1.heap.objs.size:=by obtain⟨o,ho,_⟩:=T2;exact Heap.lt_size ho
   refine L3.call_zipT T1 T2 fun h' Z sz k=>?_
   have I2:Inv X pins σ H1 { s1 with heap:=h' }:=I1.kept (t':=s1.toks) k
   have D:ZipApart (s1.heap.objs.size+4) (s1.heap.objs.size+2) (s1.heap.objs.size+3) s1.heap.objs.size (s1.heap.objs.size+1) t t2:=PyProof.Rows.zipApart_new l1 l2
   refine wpAny_pyIter_zip Z.z ⟨_,[s1.heap.objs.size+4,s1.heap.objs.size+2,s1.heap.objs.size+3,s1.heap.objs.size,s1.heap.objs.size+1],_,_,H1,rfl,I2,turn_zipT D,⟨Z.z,Z.TI,Z.TO,Z.one.iter,Z.two.iter⟩,fun c hc=>?_,q⟩
   have hc':s1.heap.objs.size≤c:=by
    simp only[List.mem_cons,List.not_mem_nil,or_false]at hc
    rcases hc with rfl|rfl|rfl|rfl|rfl<;>first|exact Nat.le_refl _|exact Nat.le_add_right _ _
   exact I1.fpOk hc' (I1.hok.fresh hc')
end
section
variable {X:Cx}
noncomputable def Cx.comp (X:Cx)(scope:Scope)(N':List Str)(C:Addr)(fp:List Addr)(pins:List (Addr×Obj))(s₂:Shared)(H₂:Hp):Cx :=
 { X with N:=N',s₀:=s₂,H₀:=H₂,env:=compEnvC scope (L3.closL X.env.cells scope.names []) C X.env,outer:=X.stack,ex:=fp,fn:=fun _=>false,pn:=X.pn++pins,xe:=fun _ _=>False }
theorem comp_look {scope:Scope}{x:Str}{c:Addr}(h:(L3.closL X.env.cells scope.names []).lookup x=some c):X.env.cells.lookup x=some c :=
 L3.closL_lookup (cs:=[]) (fun _ e=>by simp at e) h
variable {scope:Scope}{N':List Str}{sh:List Nat}{pins:List (Addr×Obj)}{σ:St}{H:Hp}{s:Shared}{C:Addr}{fp:List Addr}
theorem comp_free (cp:L3.CompParts X.env.scope scope X.N N' sh){x:Str}(h:(relabel scope X.env).names.lookup x=some .cell∨(relabel scope X.env).names.lookup x=some .free):(x,NameKind.free)∈scope.names∧X.env.kindOf x=some .cell:=by
 have q:(x,NameKind.free)∈scope.names:=by
  rcases h with h|h
  ·obtain⟨k0,h0,h1⟩:=L3.relab_inv h
   rcases h1 with h1|⟨h1,_⟩
   ·subst h1;exact absurd rfl (cp.cell _ (L3.mem_of_look h0))
   ·subst h1;exact L3.mem_of_look h0
  ·obtain⟨k0,h0,h1⟩:=L3.relab_inv h
   rcases h1 with h1|⟨_,h1⟩
   ·subst h1;exact L3.mem_of_look h0
   ·cases h1
 exact⟨q,cp.free _ q rfl⟩
theorem comp_ok (I:Inv X pins σ H s)(cp:L3.CompParts X.env.scope scope X.N N' sh)(hC:s.heap.objs.size≤C)(hf:∀b∈fp,FpOk X pins H b)(hlt:∀b∈fp,b<s.heap.objs.size):(X.comp scope N' C fp pins s H).Ok:=by
 refine⟨I.ok.mod,cp.kind,I.ok.glob,I.ok.blt,hC,fun x y c h1 h2=>I.ok.inj x y c (comp_look h1) (comp_look h2),fun x hx=>?_,fun x c z _=>?_,I.ok.hd,I.ok.frames,.inl rfl,fun b hb=>⟨?_,fun x c e=>?_⟩,I.bs,Nat.le_trans I.ok.bsz I.sz,fun b o e hb=>?_,fun b hb z=>?_,I.stack,I.stkFree⟩
 ·obtain⟨q,kq⟩:=comp_free cp hx
  obtain⟨d,hd⟩:=I.ok.has x (.inl kq)
  exact L3.closL_has hd q
 ·exact absurd (show false=true from z) Bool.false_ne_true
 ·exact Nat.ne_of_lt (Nat.lt_of_lt_of_le (hlt b hb) hC)
 ·exact(hf b hb).2.2.2.2.1 x c (comp_look e)
 ·rcases(hf b hb).2.2.2.1 with z|z
  ·exact I.ok.noex b o e z
  ·exact absurd (Nat.lt_of_lt_of_le (Heap.lt_size e) (Nat.le_trans I.ok.bsz z)) (Nat.lt_irrefl _)
 ·rcases List.mem_cons.mp (I.stkSub b z)with e|e
  ·exact(hf b hb).2.1 e
  ·exact(hf b hb).2.2.1 e
theorem comp_in (I:Inv X pins σ H s)(cp:L3.CompParts X.env.scope scope X.N N' sh){more:Nat}(hm:N'.length=X.N.length+more)(hC:s.heap.objs.size≤C)(hf:∀b∈fp,FpOk X pins H b)(hlt:∀b∈fp,b<s.heap.objs.size)
  {h1:Heap}{t:Nat}{m:Str→Option Value}(k:∀b o,s.heap.get? b=some o→h1.get? b=some o)(hn:h1.Ns C m):Inv (X.comp scope N' C fp pins s H) [] (L3.blank sh σ++List.replicate more none) H { s with heap:=h1,toks:=t }:=by
 have neC:∀b o,s.heap.get? b=some o→b≠C:=fun b o e=>Nat.ne_of_lt (Nat.lt_of_lt_of_le (Heap.lt_size e) hC)
 have lenσ:σ.length=X.N.length:=I.len
 refine⟨comp_ok I cp hC hf hlt,rfl,I.bare,Un.kept k,⟨m,hn,fun i x v e1 e2 e3=>?_⟩,fun x c e=>?_,I.hok.fresh hC,fun x c e=>I.freeC x c (comp_look e),fun p hp=>?_,I.hok.kept k,?_⟩
 ·have hi:i<(L3.blank sh σ).length:=by
   by_cases hi:i<(L3.blank sh σ).length
   ·exact hi
   ·rw[List.getElem?_append_right (Nat.le_of_not_lt hi),List.getElem?_replicate]at e2
    split at e2<;>cases e2
  rw[List.getElem?_append_left hi]at e2
  obtain⟨h1',h2'⟩:=L3.blank_get e2
  rw[L3.blank_length,lenσ]at hi
  have eN:X.N[i]?=some x:=by
   have q:(N'.take X.N.length)[i]?=some x:=by rw[List.getElem?_take_of_lt hi];exact e1
   rw[cp.pre]at q;exact q
  have e3':(relabel scope X.env).names.lookup x=some .local∨(relabel scope X.env).names.lookup x=some .cell∨(relabel scope X.env).names.lookup x=some .free:=e3
  rcases e3' with z|z
  ·obtain⟨k0,h0,hk⟩:=L3.relab_inv z
   have:k0=.local:=by
    rcases hk with q|⟨_,q⟩
    ·exact q.symm
    ·cases q
   subst this
   exact absurd (cp.shad i x eN h0) h1'
  ·obtain⟨q,kq⟩:=comp_free cp z
   obtain⟨m0,_,hl⟩:=I.loc
   obtain⟨u,ru,lu⟩:=hl i x v eN h2' (.inr (.inl kq))
   rcases lu with ⟨kl,_⟩|⟨_,c,hc,ic⟩
   ·rw[kq]at kl;cases kl
   ·obtain⟨c',hc'⟩:=L3.closL_has (cs:=[]) hc q
    have:=comp_look (X:=X) hc'
    rw[hc]at this;cases this
    exact⟨u,ru,.inr ⟨z,c,hc',ic.keeps k⟩⟩
 ·obtain⟨v,z⟩:=I.cell x c (comp_look e)
  exact⟨v,z.keeps k⟩
 ·have hp':p∈X.pn++pins:=by simpa[Cx.comp]using hp
  obtain⟨e,n,ne,nf,d⟩:=I.pin p hp'
  refine⟨k _ _ e,n,neC _ _ e,fun z=>?_,d⟩
  rcases List.mem_cons.mp (I.stkSub p.1 z)with q|q
  ·exact ne q
  ·exact nf q
 ·show(L3.blank sh σ++List.replicate more none).length=N'.length
  rw[List.length_append,L3.blank_length,List.length_replicate,lenσ,hm]
theorem comp_out {D:Addr}{n:Nat}{acc:List V}{ys:Array Value}{pl:List (Addr×Obj)}{σ4:St}{H4:Hp}{s4:Shared}{h':Heap}(I:Inv X pins σ H s)(hC:s.heap.objs.size≤C)(hf:∀b∈fp,FpOk X pins H b)
  (I4:Inv (X.comp scope N' C fp pins s H) pl σ4 H4 s4)(hD:s.heap.objs.size≤D)(hDC:D≠C)(gD:s4.heap.get? D=some { cls:=.type "list",data:=.seq ys n })(va:Vals acc ys.toList)(fD:H4 D=none)(hl:acc.length≤sizeLine)
  (sb:Heap.SameBut C s4.heap h'):Inv X pins σ (upd H4 D (.lst acc)) { s4 with heap:=h' }:=by
 have B:Un (frs X.stack) fp H H4 s.heap s4.heap:=I4.base
 have fC:H4 C=none:=I4.free
 have lo:∀b o,s.heap.get? b=some o→b≠C∧b≠D:=fun b o e=>⟨Nat.ne_of_lt (Nat.lt_of_lt_of_le (Heap.lt_size e) hC),Nat.ne_of_lt (Nat.lt_of_lt_of_le (Heap.lt_size e) hD)⟩
 have u:Un (frs X.stack) fp H (upd H4 D (.lst acc)) s.heap h':=by
  refine⟨fun b o e n hb hx=>(sb.2 b (lo b o e).1).trans (B.keep b o e n hb hx),fun b o e n hb hx=>?_,fun b o e n hx=>by rw[upd_ne (lo b o e).2];exact B.free b o e n hx,fun b o e hx=>?_,
   fun b xs e=>?_,fun b o v e=>?_,fun b ps e=>?_⟩
  ·obtain⟨sl,q⟩:=B.slot b o e n hb hx
   exact⟨sl,(sb.2 b (lo b o e).1).trans q⟩
  ·obtain⟨o',q⟩:=B.there b o e hx
   exact⟨o',(sb.2 b (lo b o e).1).trans q⟩
  ·have q:=B.tups b xs e
   rw[upd_ne (ne_of_none q fD)];exact q
  ·have q:=B.frzs b o v e
   rw[upd_ne (ne_of_none q fD)];exact q
  ·obtain⟨more,q⟩:=B.tbls b ps e
   exact⟨more,by rw[upd_ne (ne_of_none q fD)];exact q⟩
 have hok:HOk X.prog X.w (upd H4 D (.lst acc)) h':=fun b v e=>by
  by_cases hb:b=D
  ·subst hb
   rw[upd_same]at e;cases e
   exact⟨hl,ys.toList,n,va,by rw[sb.2 _ hDC,gD]⟩
  ·rw[upd_ne hb]at e
   refine(show ObjOk X.prog X.w H4 s4.heap b v from I4.hok b v e).stay (fun c w' hc q=>(sb.2 c ?_).trans q) (fun c q=>by rw[upd_ne (ne_of_none q fD)];exact q) fun c xs q=>by rw[upd_ne (ne_of_none q fD)];exact q
   rcases hc with z|z
   ·rw[z];exact ne_of_none e fC
   ·exact ne_of_none z fC
 exact I.call' (s':={ s4 with heap:=h' }) (ch:=fp) (show s4.os=s.os from I4.os) u hok I4.bare fun b hb=>⟨(hf b hb).2.2.2.1,(hf b hb).2.1,(hf b hb).2.2.2.2.1,(hf b hb).2.2.2.2.2⟩
end
def PIf (X:Cx)(ifs:List Expr)(tt:TT):Prop :=
 ∀(pins:List (Addr×Obj))(s:Shared)(σ:St)(H:Hp)(Q:Bool→Hp→Prop),Inv X pins σ H s→tt σ H Q→wpAny (model X.prog X.w) X.A (L3.testsOf ifs X.env) (TP X pins σ Q) X.xe s
theorem pif_nil {X:Cx}:PIf X [] (fun _ H Q=>Q true H):=fun _ _ _ H _ I h=>wpAny_tests_nil ⟨H,I,h⟩
theorem pif_one {X:Cx}{c:Expr}{t:TT}(h:PT X c t):PIf X [c] t:=fun pins s σ H Q I q=>wpAny_tests_one (h pins s σ H Q I q)
def compW (J:It)(g:TG)(tt:TT)(te:TE)(σ:St)(H:Hp)(Q:VK):Prop:=∃W:Nat→Nat→List V→St→Hp→Prop,(∃m,W 0 m [] σ H)∧∀i m acc σ' H',W i m acc σ' H' →
 (J.stop i H'∧acc.length≤sizeLine∧∀D,H' D=none→Q (.ref D) (upd H' D (.lst acc))) ∨
 (J.go i H'∧acc.length<sizeLine∧∃N:List V→St→Hp→Prop,(∀acc' σ2 H2,N acc' σ2 H2→∃m',m'<m∧W (i+1) m' acc' σ2 H2) ∧
  ∀x H2,J.yld i H' x H2→g x σ' H2 fun σ2 H3=>tt σ2 H3 fun b H4=>if b=true then te σ2 H4 fun y H5=>N (acc++[y]) σ2 H5 else N acc σ2 H4)
def tComp (wi:TI)(g:TG)(tt:TT)(te:TE)(sh:List Nat)(more:Nat):TE:=fun σ H Q=>wi σ H fun J H1=>compW J g tt te (L3.blank sh σ++List.replicate more none) H1 Q
theorem comp_any {X:Cx}{elt tg iter:Expr}{ifs:List Expr}{scope:Scope}{pos pos':Pos}{wi:TI}{g:TG}{tt:TT}{te:TE}{sh:List Nat}{N':List Str}{more:Nat}(hcalm:X.calm=true)(hi:PI X tg iter wi)
  (hg:∀C fp pins s H,PG (X.comp scope N' C fp pins s H) tg g)(ht:∀C fp pins s H,PIf (X.comp scope N' C fp pins s H) ifs tt)(he:∀C fp pins s H,PE (X.comp scope N' C fp pins s H) elt te)
  (hc:L3.compOk X.env.scope scope X.N N' sh=true)(hm:N'.length=X.N.length+more)(hs:∀x,foldedSetIterable iter X.env x=pure x){use:Option (Value→Sem Unit)}{Qv:Value→Shared→Prop}
  {pins:List (Addr×Obj)}{s:Shared}{σ:St}{H:Hp}{Q:VK}(I:Inv X pins σ H s)(h:tComp wi g tt te sh more σ H Q)
  (fin:∀(D C:Addr)(s2:Shared)(H2:Hp)(fp:List Addr)(pl:List (Addr×Obj))(σ4:St)(H4:Hp)(s4:Shared)(n:Nat)(ys:Array Value)(acc:List V),Inv X pins σ H2 s2→(∀b∈fp,FpOk X pins H2 b)→s2.heap.objs.size≤C→s2.heap.objs.size≤D→D≠C →
   Inv (X.comp scope N' C fp pins s2 H2) pl σ4 H4 s4→s4.heap.get? D=some { cls:=.type "list",data:=.seq ys n }→Vals acc ys.toList→H4 D=none→acc.length≤sizeLine→Q (.ref D) (upd H4 D (.lst acc))→compPost (model X.prog X.w) X.A X.xe use Qv (.ref D) C (.ok .next) s4) :
  wpAny (model X.prog X.w) X.A (comprehension (.ListComp elt [⟨tg,iter,ifs,0⟩] scope pos) scope X.env pos' (newList []) false (eval iter X.env) use) Qv X.xe s:=by
 have cp:=L3.compOk_parts hc
 refine wpAny_comprehension_free (cl:=L3.closL X.env.cells scope.names []) rfl hs (L3.closureFor_eq fun x hx hk=>?_) cp.kind cp.loc ?_
 ·obtain⟨c,q⟩:=I.ok.has x.1 (.inl (cp.free x hx hk))
  rw[q];rfl
 show wpAny _ X.A (eval iter X.env) _ _ s
 refine thn (hi pins s σ H _ I h) fun v s1 h1=>thn h1 fun itv s2 h2=>?_
 obtain⟨it,fp,tn,J,H2,e,I2,T,st2,f2,W,⟨m0,w0⟩,turn⟩:=h2
 subst e
 have hlt:∀b∈fp,b<s2.heap.objs.size:=fun b hb=>by
  obtain⟨o,q,_⟩:=T.obj 0 _ st2 b hb
  exact Heap.lt_size q
 refine wpAny_newObj_type (wpAny_newFunctionEnv cp.cell (by intro y hy;simp at hy) (fun h₁ hns hsb=>?_) cp.kind)
 dsimp only at hns hsb ⊢
 generalize hG:s2.heap.push { cls:=.type "list",dict:=none,data:=.seq ([]:List Value).toArray }=G at hns hsb ⊢
 have hz:G.objs.size=s2.heap.objs.size+1:=by rw[←hG,Heap.size_push]
 have hC:s2.heap.objs.size≤G.objs.size:=by omega
 have hDC:s2.heap.objs.size≠G.objs.size:=by omega
 have old:∀b o,s2.heap.get? b=some o→h₁.get? b=some o:=fun b o q=>by
  have hb:=Heap.lt_size q
  exact hsb.extBut b o (Nat.ne_of_lt (Nat.lt_of_lt_of_le hb hC)) (Heap.get?_push_of_some _ (hG▸Heap.get?_push_of_some _ q))
 have acc0:h₁.PlainList s2.heap.objs.size #[]:=⟨_,hsb.extBut _ _ hDC (Heap.get?_push_of_some _ (hG▸Heap.get?_push_size _ rfl))⟩
 have nfD:s2.heap.objs.size∉frs X.stack:=fun z=>by
  obtain⟨_,o,ho,_⟩:=I2.stack.mem z
  exact absurd (Heap.lt_size ho) (Nat.lt_irrefl _)
 have fpD:∀b∈fp,s2.heap.objs.size≠b:=fun b hb=>Nat.ne_of_gt (hlt b hb)
 have cD:∀x c,(L3.closL X.env.cells scope.names []).lookup x=some c→c≠s2.heap.objs.size:=fun x c q z=>by
  obtain⟨w',z'⟩:=I2.cell x c (comp_look q)
  rw[z]at z'
  exact absurd z'.lt (Nat.lt_irrefl _)
 have pnD:∀p∈X.pn++pins,p.1≠s2.heap.objs.size:=fun p hp z=>by
  have q:=(I2.pin p hp).1
  rw[z]at q
  exact absurd (Heap.lt_size q) (Nat.lt_irrefl _)
 have okX:(X.comp scope N' G.objs.size fp pins s2 H2).Ok:=comp_ok I2 cp hC f2 hlt
 -- the iterator's records,seen from the block
 have stat:∀{o:Obj}{H':Hp},(∀b∈fp,H' b=none)→∀b∈fp,FpOk (X.comp scope N' G.objs.size fp pins s2 H2) [(s2.heap.objs.size,o)] H' b:=fun {o H'} hn b hb=>by
  refine⟨hn b hb,(okX.exf b hb).1,okX.exfs b hb,.inl hb,(okX.exf b hb).2,fun p hp=>?_⟩
  rcases List.mem_append.mp hp with z|z
  ·exact(f2 b hb).2.2.2.2.2 p z
  ·have:p=(s2.heap.objs.size,o):=by simpa using z
   rw[this];exact fpD b hb
 -- the list so far,held as it is
 have hold:∀{σ':St}{H':Hp}{s':Shared}{o:Obj},Inv (X.comp scope N' G.objs.size fp pins s2 H2) [] σ' H' s'→s'.heap.get? s2.heap.objs.size=some o→H' s2.heap.objs.size=none→(∀v,o.data≠.cell v) →
   Inv (X.comp scope N' G.objs.size fp pins s2 H2) [(s2.heap.objs.size,o)] σ' H' s':=fun {σ' H' s' o} I' q n d=>I'.pins_of fun p hp=>by
  have:p=(s2.heap.objs.size,o):=by simpa using hp
  subst this
  exact⟨q,n,hDC,nfD,d⟩
 have loop:∀s₃:Shared,s₃={ s2 with heap:=h₁,toks:=s2.toks+([]:List (Str×Value)).length } →
   codeAny (model X.prog X.w) X.A (.compLoop (.ListComp elt [⟨tg,iter,ifs,0⟩] scope pos) 0 (.ref it) (.ref s2.heap.objs.size) (compEnvC scope (L3.closL X.env.cells scope.names []) G.objs.size X.env))
    (compPost (model X.prog X.w) X.A X.xe use Qv (.ref s2.heap.objs.size) G.objs.size) s₃:=by
  rintro s₃ rfl
  refine L3.comp_loop (fun n s'=>∃i acc ys σ' H',Inv (X.comp scope N' G.objs.size fp pins s2 H2) [] σ' H' s'∧tn i s'.heap∧(∀b∈fp,H' b=none)∧s'.heap.PlainList s2.heap.objs.size ys∧Vals acc ys.toList∧H' s2.heap.objs.size=none∧W i n acc σ' H') ?_ m0
   ⟨0,[],#[],_,H2,comp_in I2 cp hm hC f2 hlt old hns,T.keep _ _ _ st2 (fun b _ o q=>old b o q),fun b hb=>(f2 b hb).1,acc0,.nil,I2.hok.fresh (Nat.le_refl _),w0⟩
  rintro n s3 ⟨i,acc,ys,σ3,H3,I3,st3,fr3,⟨nn,gD⟩,va,fD,w3⟩
  have dD:∀v,({ cls:=.type "list",data:=.seq ys nn }:Obj).data≠.cell v:=fun v z=>by
   have z':Data.seq ys nn=Data.cell v:=z
   cases z'
  have I3':=hold I3 gD fD dD
  rcases turn i n acc σ3 H3 w3 with ⟨stop,hl,q⟩|⟨go,hl,N,hN,step⟩
  ·refine thn (T.done (X.comp scope N' G.objs.size fp pins s2 H2) rfl rfl rfl hcalm i _ s3 σ3 H3 (fun _ _=>False) I3' (stat fr3) st3 stop) fun r s4 ⟨hr,I4⟩=>?_
   subst hr
   have g4:=(I4.pin (s2.heap.objs.size,_) (List.mem_append_right _ List.mem_cons_self)).1
   exact fin _ _ s2 H2 fp _ _ _ s4 _ _ acc I2 f2 hC (Nat.le_refl _) hDC I4 g4 va fD hl (q _ fD)
  ·refine thn (T.item (X.comp scope N' G.objs.size fp pins s2 H2) rfl rfl rfl hcalm i _ s3 σ3 H3 (fun _ _=>False) I3' (stat fr3) st3 go) fun r s4 ⟨u,hr,h4⟩=>?_
   subst hr
   refine thn h4 fun _ s5 ⟨x,H5,I5,r5,y5,st5,fr5⟩=>?_
   have I5':=I5.pinned (stat fr5) (T.obj _ _ st5)
   refine thn (hg _ _ _ _ _ _ s5 σ3 H5 x u _ I5' r5 (step x H5 y5)) fun _ s6 ⟨σ6,H6,I6,q6⟩=>?_
   refine thn (ht _ _ _ _ _ _ s6 σ6 H6 _ I6 q6) fun b s7 ⟨H7,I7,q7⟩=>?_
   have inD:∀{o:Obj},(s2.heap.objs.size,o)∈[(s2.heap.objs.size,o)]++pinsAt fp s5.heap:=List.mem_append_left _ List.mem_cons_self
   have turned:∀{σ':St}{H':Hp}{s':Shared},Inv (X.comp scope N' G.objs.size fp pins s2 H2) ([(s2.heap.objs.size,({ cls:=.type "list",data:=.seq ys nn }:Obj))]++pinsAt fp s5.heap) σ' H' s' →
     (∀b∈fp,∀o,s5.heap.get? b=some o→s'.heap.get? b=some o)∧∀b∈fp,H' b=none:=fun I'=>by
    refine⟨fun b hb o q=>(I'.pin (b,o) (List.mem_append_right _ (List.mem_append_right _ (mem_pinsAt hb q)))).1,fun b hb=>?_⟩
    obtain⟨o,q,_⟩:=T.obj _ _ st5 b hb
    exact(I'.pin (b,o) (List.mem_append_right _ (List.mem_append_right _ (mem_pinsAt hb q)))).2.1
   cases b with
   | false =>
    rw[if_neg Bool.false_ne_true]at q7 ⊢
    obtain⟨m',hm',w7⟩:=hN _ _ _ q7
    have p7:=I7.pin (s2.heap.objs.size,_) (List.mem_append_right _ inD)
    exact⟨m',hm',i+1,acc,ys,σ6,H7,I7.pins_of (fun p hp=>absurd hp (by simp)),T.keep _ _ _ st5 (turned I7).1,(turned I7).2,⟨nn,p7.1⟩,va,p7.2.1,w7⟩
   | true =>
    rw[if_pos rfl]at q7 ⊢
    refine thn (he _ _ _ _ _ _ s7 σ6 H7 _ I7 q7) fun yv s8 ⟨y,H8,I8,r8,q8⟩=>?_
    obtain⟨m',hm',w8⟩:=hN _ _ _ q8
    have p8:=I8.pin (s2.heap.objs.size,_) (List.mem_append_right _ inD)
    have lenv:=va.length
    refine wpAny_list_append_plain (hsz:=by rw[←Array.length_toList,←lenv];exact Nat.le_of_lt hl) ⟨nn,p8.1⟩ fun h9 pl9 sb9=>?_
    have J8:Inv (X.comp scope N' G.objs.size fp pins s2 H2) [] σ6 H8 s8:=I8.pins_of fun p hp=>absurd hp (by simp)
    refine⟨m',hm',i+1,acc++[y],ys.push yv,σ6,H8,J8.turned (t':=s8.toks) (fun b o hb q=>(sb9.2 b hb).trans q) p8.2.1 hDC (.inr (Nat.le_refl _)) cD (fun p hp=>pnD p (by simpa[Cx.comp]using hp)),?_,(turned I8).2,pl9,?_,p8.2.1,w8⟩
    ·exact T.keep _ _ _ st5 fun b hb o q=>(sb9.2 b (fpD b hb).symm).trans ((turned I8).1 b hb o q)
    ·rw[Array.toList_push]
     exact va.append (.cons r8 .nil)
 exact codeAny_compStart_list (loop _ rfl) (T.self _ 0 _ _ _ (T.keep _ _ _ st2 fun b _ o q=>old b o q) (loop _ rfl))
theorem pe_comp {X:Cx}{elt tg iter:Expr}{ifs:List Expr}{scope:Scope}{pos:Pos}{wi:TI}{g:TG}{tt:TT}{te:TE}(sh:List Nat)(N':List Str)(more:Nat)(hcalm:X.calm=true)(hi:PI X tg iter wi)
  (hg:∀C fp pins s H,PG (X.comp scope N' C fp pins s H) tg g)(ht:∀C fp pins s H,PIf (X.comp scope N' C fp pins s H) ifs tt)(he:∀C fp pins s H,PE (X.comp scope N' C fp pins s H) elt te)
  (hc:L3.compOk X.env.scope scope X.N N' sh=true:=by rfl)(hm:N'.length=X.N.length+more:=by rfl)(hs:∀x,foldedSetIterable iter X.env x=pure x:=by intro _;rfl) :
  PE X (.ListComp elt [⟨tg,iter,ifs,0⟩] scope pos) (tComp wi g tt te sh more):=by
 intro pins s σ H Q I h
 rw[eval_ListComp]
 refine comp_any hcalm hi hg ht he hc hm hs (use:=none) I h fun D C s2 H2 fp pl σ4 H4 s4 n ys acc I2 f2 hC hD hDC I4 g4 va fD hl q=>?_
 obtain⟨m4,hn4,_⟩:=I4.loc
 exact⟨m4,hn4,fun h' sb=>⟨.ref D,_,comp_out I2 hC f2 I4 hD hDC g4 va fD hl sb,rfl,q⟩⟩
theorem ps_comp {X:Cx}{elt tg iter:Expr}{ifs:List Expr}{scope:Scope}{pos py spos:Pos}{y:Str}{wi:TI}{g:TG}{tt:TT}{te:TE}(i:Nat)(sh:List Nat)(N':List Str)(more:Nat)(hcalm:X.calm=true)(hN:X.N.Nodup)(hiy:X.N[i]?=some y)(hy:X.env.scope.names.lookup y=some .local)(hi:PI X tg iter wi)
  (hg:∀C fp pins s H,PG (X.comp scope N' C fp pins s H) tg g)(ht:∀C fp pins s H,PIf (X.comp scope N' C fp pins s H) ifs tt)(he:∀C fp pins s H,PE (X.comp scope N' C fp pins s H) elt te)
  (hc:L3.compOk X.env.scope scope X.N N' sh=true:=by rfl)(hm:N'.length=X.N.length+more:=by rfl)(hs:∀x,foldedSetIterable iter X.env x=pure x:=by intro _;rfl)
  (hsw:swapsWith (.ListComp elt [⟨tg,iter,ifs,0⟩] scope pos) (some (.Name y py)) spos.line X.env=pure true:=by rfl) :
  PS X (.Assign [.Name y py] (.ListComp elt [⟨tg,iter,ifs,0⟩] scope pos) spos) (tAsg (tComp wi g tt te sh more) (gName i)):=by
 intro pins s σ H D' I h
 rw[exec_Assign_Name_used _ _ _ _ hsw]
 refine wpAny_bind (wpAny_standAt (wpAny_bind ?_))
 show wpAny _ X.A (do let _ ←comprehension (.ListComp elt [⟨tg,iter,ifs,0⟩] scope pos) scope X.env _ (newList []) false (eval iter X.env) (some (assign (.Name y py) X.env))) _ _ s
 refine wpAny_bind (wpAny_mono (comp_any hcalm hi hg ht he hc hm hs (use:=some (assign (.Name y py) X.env)) (Qv:=fun _ s'=>SP X pins D' .next s') I h fun D C s2 H2 fp pl σ4 H4 s4 n ys acc I2 f2 hC hD hDC I4 g4 va fD hl q=>?_) (fun _ s' hq=>wpAny_pure (wpAny_pure hq)) fun _ _ e=>e)
 obtain⟨m4,hn4,_⟩:=I4.loc
 have Io:Inv X pins σ (upd H4 D (.lst acc)) s4:=comp_out I2 hC f2 I4 hD hDC g4 va fD hl (Heap.SameBut.refl ..)
 have lL:X.env.locals<C:=Nat.lt_of_lt_of_le I2.lt hC
 show wpAny _ X.A (assign (.Name y py) X.env (.ref D)) _ _ s4
 refine wpAny_assign_Name (store_ok2 Io hN hiy (.inl hy) (v:=.ref D) rfl (fun s5 I5 ⟨a,sb5,ha⟩=>?_) (.inr hy))
 have cC:∀x c,X.env.cells.lookup x=some c→c≠C:=fun x c z zz=>by
  obtain⟨v,z'⟩:=I2.cell x c z
  rw[zz]at z'
  exact absurd (Nat.lt_of_lt_of_le z'.lt hC) (Nat.lt_irrefl _)
 have aC:C≠a:=fun z=>by
  rcases ha with y'|y'
  ·rw[←z]at y';rw[y']at lL;exact absurd lL (Nat.lt_irrefl _)
  ·exact cC _ _ y' z.symm
 refine⟨m4,Heap.Ns.sameBut hn4 sb5 aC,fun h' sb=>⟨_,_,I5.turned (t':=s5.toks) (it:=C) (fun b o hb z=>(sb.2 b hb).trans z) ?_ (Nat.ne_of_gt lL) (.inr (Nat.le_trans I2.sz hC)) cC (fun p hp z=>?_),q⟩⟩
 ·rw[upd_ne hDC.symm]
  exact I4.free
 ·have q':=(I2.pin p hp).1
  rw[z]at q'
  exact absurd (Nat.lt_of_lt_of_le (Heap.lt_size q') hC) (Nat.lt_irrefl _)
theorem range_all:∀(bs:List Bool),((List.range bs.length).all fun i=>bs.getD i true)=bs.all id:=by
 intro bs
 rw[Bool.eq_iff_iff,List.all_eq_true,List.all_eq_true]
 constructor
 ·intro h b hb
  obtain⟨i,hi,e⟩:=List.mem_iff_getElem.mp hb
  have q:=h i (List.mem_range.mpr hi)
  rw[List.getD_eq_getElem?_getD,List.getElem?_eq_getElem hi]at q
  rw[←e];exact q
 ·intro h i hi
  have hi:=List.mem_range.mp hi
  rw[List.getD_eq_getElem?_getD,List.getElem?_eq_getElem hi]
  exact h _ (List.getElem_mem hi)
section
variable {X:Cx}
theorem call_allL (hc:X.calm=true):CallR X (.builtin "all") (fun xs H Q=>∃(p:Addr)(bs:List Bool),xs=[.ref p]∧SqL X.K H p (bs.map V.bl)∧Q (.bl (bs.all id)) H):=by
 intro pins s σ H xs us Q I r h
 obtain⟨p,bs,rfl,hq,q⟩:=h
 obtain⟨u,rfl,rx⟩:=vals1 r
 cases rx
 obtain⟨its,rv,pl,hz⟩:=I.list hq
 have hlen:its.length=bs.length:=by rw[←rv.length,List.length_map]
 have plt:p<s.heap.objs.size:=by
  obtain⟨o,ho,_⟩:=pl.isList
  exact Heap.lt_size ho
 have hh:X.A.in1.handled=none:=I.ok.hd hc
 refine call_all_walk (wpAny_pyIter_list pl.isList ⟨s.heap.objs.size,_,_,_,_,_,fun i=>bs.getD i true,rfl,Walks.list hh s.heap.objs.size p (Nat.ne_of_lt plt) its.toArray,⟨⟨_,Heap.get?_push_size _ rfl,rfl,rfl⟩,pl.isList.push _⟩,fun i v s' Q' E' hv hQ=>?_,fun h' tk k=>?_⟩)
 ·have hv':its[i]?=some v:=by simpa using hv
  have hi:i<bs.length:=by
   rw[←hlen];exact(List.getElem?_eq_some_iff.mp hv').1
  obtain⟨u,hu,ru⟩:=rv.get (i:=i) (x:=.bl bs[i]) (by rw[List.getElem?_map,List.getElem?_eq_getElem hi];rfl)
  rw[hv']at hu;cases hu
  cases ru
  have e:bs.getD i true=bs[i]:=by rw[List.getD_eq_getElem?_getD,List.getElem?_eq_getElem hi];rfl
  have hQ':Q' (bs.getD i true) s':=hQ
  rw[e]at hQ'
  exact wpAny_truthy_bool hQ'
 ·have e:its.toArray.size=bs.length:=by rw[List.size_toArray,hlen]
  rw[e,range_all]
  refine⟨.bl (bs.all id),H,?_,rfl,q⟩
  have I1:Inv X pins σ H { s with heap:=s.heap.push { cls:=.type "list_iterator",data:=.fields #[.ref p,.int 0 0] } }:=I.kept (t':=s.toks) fun b o z=>Heap.get?_push_of_some _ z
  refine I1.turnMany (t':=tk) (ch:=[s.heap.objs.size]) (fun b hb=>?_) fun b o hb z=>k b o (by simpa using hb) z
  have:b=s.heap.objs.size:=by simpa using hb
  subst this
  exact I.fpOk (Nat.le_refl _) (I.hok.fresh (Nat.le_refl _))
theorem call_isi:CallR X (.builtin "isinstance") (fun xs H Q=>∃x c t b,xs=[x,.ty c]∧TyOf X.K H x t∧PySem.W.kitOne X.K t (.type c)=some b∧Q (.bl b) H):=by
 intro pins s σ H xs us Q I r h
 obtain⟨x,c,t,b,rfl,ty,e,q⟩:=h
 obtain⟨u,v,rfl,rx,rc⟩:=vals2 r
 cases (show v=Value.type c from rc)
 exact isinst_ok I rx ty e fun tk=>⟨.bl b,H,I.tok _,rfl,q⟩
def rSl3 (K:PySem.W.Frag):V→Option Int→Option Int→Option Int→Hp→VK→Prop:=fun x lo hi st H Q=>∃a xs,x=.ref a∧SqT K H a xs∧st.getD 1≠0∧(L3.cutAt xs.length lo hi st).2.2≤sizeLine ∧
 (L3.wholeAt xs.length (L3.cutAt xs.length lo hi st)=true→Q (.ref a) H)∧(L3.wholeAt xs.length (L3.cutAt xs.length lo hi st)=false→∀p,H p=none→Q (.ref p) (upd H p (.tup (L3.pickAt xs (L3.cutAt xs.length lo hi st)))))
theorem vals_pick {xs:List V}{us:List Value}(r:Vals xs us)(f:Nat→Nat):∀l:List Nat,Vals (l.filterMap fun k=>xs[f k]?) (l.filterMap fun k=>us[f k]?)
 | []=>.nil
 | k::l=>by
  have ih:=vals_pick r f l
  rw[List.filterMap_cons,List.filterMap_cons]
  cases e:xs[f k]? with
  | none =>
   have e2:us[f k]?=none:=by
    rw[List.getElem?_eq_none_iff]at e ⊢
    rw[←r.length];exact e
   rw[e2];exact ih
  | some x =>
   obtain⟨u,hu,ru⟩:=r.get e
   rw[hu];exact .cons ru ih
def tSl3 (r:V→Option Int→Option Int→Option Int→Hp→VK→Prop)(te:TE)(tl th ts:TO):TE:=fun σ H Q=>te σ H fun x H1=>tl σ H1 fun l H2=>th σ H2 fun u H3=>ts σ H3 fun st H4=>r x l u st H4 Q
theorem pe_slice3 {e:Expr}{te:TE}{lo hi st:Option Expr}{tl th ts:TO}{pos p2:Pos}(he:PE X e te)(hl:PO X lo tl)(hu:PO X hi th)(hst:PO X st ts):PE X (.Subscript e (.Slice lo hi st p2) pos) (tSl3 (rSl3 X.K) te tl th ts):=by
 intro pins s σ H Q I h
 refine Subscript_ (thn (he pins s σ H _ I h) fun v s1 ⟨x,H1,I1,r1,q1⟩=>?_)
 refine wpAny_Slice (thn (hl pins s1 σ H1 _ I1 q1) fun vl s2 ⟨l,H2,I2,pl,q2⟩=>thn (hu pins s2 σ H2 _ I2 q2) fun vu s3 ⟨u,H3,I3,pu,q3⟩=>thn (hst pins s3 σ H3 _ I3 q3) fun vs s4 ⟨k,H4,I4,ps,q4⟩=>?_)
 obtain⟨a,xs,rfl,hx,h0,hz2,q5,q6⟩:=q4
 cases r1
 have I5:Inv X pins σ H4 { s4 with heap:=s4.heap.push { cls:=.type "slice",data:=.fields #[vl,vu,vs] } }:=I4.kept (t':=s4.toks) fun b ob q=>Heap.get?_push_of_some _ q
 obtain⟨its,r,ht,hz⟩:=I5.tuple hx
 have hlen:its.toArray.size=xs.length:=by rw[List.size_toArray];exact r.length.symm
 have hg:wpAny (model X.prog X.w) X.A (getItem (.ref a) (.ref s4.heap.objs.size)) (EP X pins σ Q) X.xe { s4 with heap:=s4.heap.push { cls:=.type "slice",data:=.fields #[vl,vu,vs] } }:=by
  refine L3.tupleCut ht (Heap.IsSliceOf.new ..) pl pu ps h0 (fun w=>?_) (fun w=>?_) (by rw[hlen];exact hz2)
  ·rw[hlen]at w
   exact⟨.ref a,H4,I5,rfl,q5 w⟩
  ·rw[hlen]at w ⊢
   refine⟨.ref _,_,I5.laid (t':=s4.toks) (o:=.tup (L3.pickAt xs (L3.cutAt xs.length l u k))) (fun b ob q=>Heap.get?_push_of_some _ q) (Nat.le_refl _) ?_,rfl,q6 w _ (I5.hok.fresh (Nat.le_refl _))⟩
   refine⟨?_,_,vals_pick r _ _,IsTup.new _ _,_,Heap.get?_push_size _ rfl,rfl⟩
   exact Nat.le_trans (List.length_filterMap_le _ _) (by rw[List.length_range];exact hz2)
 show wpAny (model X.prog X.w) X.A (subscriptTail e (.Slice lo hi st p2) (.ref a) (.ref s4.heap.objs.size)) (EP X pins σ Q) X.xe { s4 with heap:=s4.heap.push { cls:=.type "slice",data:=.fields #[vl,vu,vs] } }
 cases st with
 | none=>exact tail_any (ops:=[.ref s4.heap.objs.size,.ref a]) ht.typeIs PyProof.Rows.slot_tuple_getitem.lookup hg (by with_unfolding_all rfl)
 | some st=>exact tail_any (ops:=[.ref a,.ref s4.heap.objs.size]) ht.typeIs PyProof.Rows.slot_tuple_getitem.lookup hg (by with_unfolding_all rfl)
def rCat0 (K:PySem.W.Frag):R2:=fun x y H Q=>∃a b xs ys,x=.ref a∧y=.ref b∧SqT K H a xs∧SqT K H b ys∧xs.length+ys.length≤sizeLine ∧
 (xs=[]→Q (.ref b) H)∧(xs≠[]→ys=[]→Q (.ref a) H)∧(xs≠[]→ys≠[]→∀p,H p=none→Q (.ref p) (upd H p (.tup (xs++ys))))
theorem op_cat0:OpR X (binaryOp .Add) (rCat0 X.K):=by
 intro pins s σ H x y v u Q I rx ry h
 obtain⟨a,b,xs,ys,rfl,rfl,ha,hb,hz,q0,q1,q2⟩:=h
 by_cases hx:xs=[]
 ·cases rx
  cases ry
  obtain⟨its,r1,p1,_⟩:=I.tuple ha
  obtain⟨its2,r2,p2,_⟩:=I.tuple hb
  have e1:its=[]:=r1.nil_iff.mpr hx
  obtain⟨⟨cls,dd,data,sl⟩,ho,hc,n,hd⟩:=id p1
  obtain⟨⟨cls2,dd2,data2,sl2⟩,ho2,hc2,n2,hd2⟩:=id p2
  simp only at hc hd hc2 hd2
  subst hc hd hc2 hd2
  exact concat_meets ⟨_,ho,rfl⟩ ⟨_,ho2,rfl⟩ noFill_tuple_add seq_tuple_add PySem.F.slot_tuple_add PySem.F.entry_tuple_add (PySem.F.args_tuple_add_2 _ _)
   (tuple_addW0 a b its.toArray its2.toArray n n2 dd dd2 sl sl2 (by simp[e1])) ⟨ho,ho2,⟨.ref b,H,I,rfl,q0 hx⟩⟩
 ·exact op_catT pins s σ H _ _ v u Q I rx ry ⟨a,b,xs,ys,rfl,rfl,ha,hb,hx,hz,fun z=>q1 hx z,fun z=>q2 hx z⟩
end
end L2
namespace L2
open PySem PySem.Spec PyProof.Rows
structure Fn (P:Program)(w:World)(K:PySem.W.Frag)(mg:Str→Option Value)(base:Heap)(x:Str)(ps:List Str)(k:Nat)(sp:Sp):Prop where
 ex:∃f fd,FnOk P w K mg base CX0 k f fd ps sp∧mg x=some (.ref f)∧PySem.W.keepIn K (.ref f)=true∧Binds K fd ps []
theorem Fn.of {P:Program}{w:World}{K:PySem.W.Frag}{mg:Str→Option Value}{base:Heap}{x:Str}{ps:List Str}{k:Nat}{sp:Sp}{f:Addr}{fd:FuncData}(O:FnOk P w K mg base CX0 k f fd ps sp)(m:mg x=some (.ref f))(kp:PySem.W.keepIn K (.ref f)=true)(b:Binds K fd ps []) :
  Fn P w K mg base x ps k sp:=⟨f,fd,O,m,kp,b⟩
section
variable {X:Cx}{x:Str}{ps:List Str}{k k':Nat}{sp:Sp}{e:Expr}{es:List Expr}{t:TA}{p pos:Pos}
theorem pe_fn (F:Fn X.prog X.w X.K X.mg X.base x ps k sp)(hr:Room k' X.A)(ha:PA X (e::es) t)(hk:k≤k':=by first|decide|exact Nat.le_refl _)(hg:Gl X x:=by rfl)(hdb:(x==("__debug__" : Str))=false:=by decide)
  (he:starEach (e::es) X.env=(false,eval e X.env)::starEach es X.env:=by rfl)(hpl:(backTo pos (starEach es X.env)).any (·.1)=false:=by rfl):PE X (.Call (.Name x p) (e::es) [] pos) (tCall sp [] E0 t):=by
 obtain⟨f,fd,O,m,kp,b⟩:=F.ex
 exact pe_call O (hr.mono hk) hg m kp b .nil pass0 ha hdb he hpl
theorem ps_join {st:Stmt}{t:TS}(h:PS X st t):PS X st (fun D σ H=>∃J:St→Hp→Prop,(∀σ' H',J σ' H'→D.nx σ' H')∧t { D with nx:=J } σ H):=by
 intro pins s σ H D I q
 obtain⟨J,hJ,q⟩:=q
 refine thn (h pins s σ H _ I q) fun f s1 r=>?_
 cases f with
 | next =>
  obtain⟨σ',H',I',r⟩:=r
  exact⟨σ',H',I',hJ _ _ r⟩
 | ret v=>exact r
 | brk=>exact r
 | cont=>exact r
end
section
variable {X:Cx}
theorem pg_tupK (K:PySem.W.Frag)(n:Nat){es:List Expr}{k:Nat}{t:TGs}{pos:Pos}(hc:X.calm=true)(h:PGs X es t)(hK:X.K=K)(hn:(assignEach es X.env).length=n)(hst:(assignEach es X.env).findIdx? (·.1)=none):PG X (.Tuple es k pos) (gTup K n t):=by
 subst hK
 exact pg_tup hc h hn hst
theorem ix_tupK (K:PySem.W.Frag)(hK:X.K=K):IxR X (rIxT K):=by
 subst hK
 exact ix_tup
theorem ix_listK (K:PySem.W.Frag)(hK:X.K=K):IxR X (rIxL K):=by
 subst hK
 exact ix_list
theorem call_len_seqK (K:PySem.W.Frag)(hK:X.K=K):CallR X (.builtin "len") (fun xs H Q=>∃p ys,xs=[.ref p]∧(SqL K H p ys∨SqT K H p ys)∧Q (.int ys.length) H):=by
 subst hK
 exact call_len_seq
end
theorem same_new {H:Hp}{p:Addr}(h:H p=none)(o:HO):Same H (upd H p o):=fun b u q=>by rw[upd_ne (ne_of_none q h)];exact q
theorem small {n:Nat}(h:n≤1000000):n≤sizeLine:=Nat.le_trans h (by rw[sizeLine_eq];decide)
theorem smallL {n:Nat}(h:n≤1000000):n<sizeLine:=Nat.lt_of_le_of_lt h (by rw[sizeLine_eq];decide)
def Scr (K:PySem.W.Frag)(H:Hp)(a:Addr)(ns:List Int):Prop:=(∃o,H a=some (.frz o (.lst (ns.map V.int)))) ∨
 ∃(o:Obj)(its:Array Value)(n:Nat),K.lookup a=some o∧o.cls=.type "list"∧o.dict=none∧o.data=.seq its n∧its.size≤sizeLine∧Vals (ns.map V.int) its.toList
theorem Scr.seq {K:PySem.W.Frag}{H:Hp}{a:Addr}{ns:List Int}(h:Scr K H a ns):SqL K H a (ns.map V.int):=by
 rcases h with ⟨o,h⟩|h
 ·exact .inl (.inr ⟨o,h⟩)
 ·exact .inr h
theorem Scr.of {K:PySem.W.Frag}{H:Hp}{a:Addr}{ns:List Int}(h:SqL K H a (ns.map V.int))(o:Only H):Scr K H a ns:=by
 rcases h with (h|⟨ob,h⟩)|h
 ·rcases o a with z|⟨ob,xs,z⟩
  ·rw[z]at h;cases h
  ·rw[z]at h;cases h
 ·exact .inl ⟨ob,h⟩
 ·exact .inr h
noncomputable abbrev zeros (k:Nat):List V:=List.replicate k (V.int 0)
def Twn (H:Hp)(t:Addr)(k:Nat):Prop:=H t=some (.lst (zeros k))
def Grow (t:Addr)(H H':Hp):Prop:=∀b o,b≠t→H b=some o→H' b=some o
theorem Grow.refl (t:Addr)(H:Hp):Grow t H H:=fun _ _ _ h=>h
theorem Grow.trans {t:Addr}{H H1 H2:Hp}(a:Grow t H H1)(b:Grow t H1 H2):Grow t H H2:=fun c o n h=>b c o n (a c o n h)
theorem Grow.same {t:Addr}{H H1:Hp}(a:Same H H1):Grow t H H1:=fun c o _ h=>a c o h
theorem Grow.upd {t:Addr}{H:Hp}(o:HO):Grow t H (upd H t o):=fun c u n h=>by rw[upd_ne n];exact h
theorem Grow.scr {K:PySem.W.Frag}{t a:Addr}{H H':Hp}{ns:List Int}{k:Nat}(g:Grow t H H')(tw:Twn H t k)(s:Scr K H a ns):Scr K H' a ns:=by
 rcases s with ⟨o,h⟩|h
 ·exact .inl ⟨o,g _ _ (fun z=>by subst z;unfold Twn at tw;rw[tw]at h;cases h) h⟩
 ·exact .inr h
theorem Same.scr {K:PySem.W.Frag}{a:Addr}{H H':Hp}{ns:List Int}(g:Same H H')(s:Scr K H a ns):Scr K H' a ns:=by
 rcases s with ⟨o,h⟩|h
 ·exact .inl ⟨o,g _ _ h⟩
 ·exact .inr h
theorem Same.twn {t:Addr}{H H':Hp}{k:Nat}(g:Same H H')(s:Twn H t k):Twn H' t k:=g _ _ s
noncomputable def scl:V→Bool
 |.non=>true |.bl _=>true |.int _=>true |.str _=>true|_=>false
noncomputable def Eqv (H:Hp):Nat→V→V→Prop
 | 0,_,_=>False
 | n+1,x,y=>(x=y∧scl x=true)∨∃a b xs ys,x=.ref a∧y=.ref b∧H a=some (.tup xs)∧H b=some (.tup ys)∧xs.length≤1000000∧Paired (Eqv H n) xs ys
theorem Eqv.int {H:Hp}{n:Nat}(i:Int):Eqv H (n+1) (.int i) (.int i):=.inl ⟨rfl,rfl⟩
noncomputable def lcell (ns:List Int)(k:Nat):Int:=if ns=[]then 0 else ns.getD (k%ns.length) 0
noncomputable def drw1 (ns:List Int)(k:Nat):Int:=(lcell ns k+104729*(k:Int))%4294967291
noncomputable def drw2 (ns:List Int)(k:Nat):Int:=drw1 ns k*drw1 ns k%4294967279*48271%4294967291
noncomputable def drw3 (ns:List Int)(k:Nat):Int:=drw2 ns k*drw2 ns k%4294967279*69621%4294967291
noncomputable def drw (ns:List Int)(k:Nat)(m:Int):Int:=(drw2 ns k / 64*67108864+drw3 ns k / 64)%m
theorem drw_nn (ns:List Int)(k:Nat){m:Int}(h:0<m):0≤drw ns k m:=Int.emod_nonneg _ (by omega)
theorem drw_lt (ns:List Int)(k:Nat){m:Int}(h:0<m):drw ns k m<m:=Int.emod_lt_of_pos _ h
def spDraw (K:PySem.W.Frag):Sp:=fun vs H Q _=>∃(a t:Addr)(ns:List Int)(k:Nat)(m:Int),vs=[.ref a,.ref t,.int m]∧Scr K H a ns∧ns.length≤63∧Twn H t k∧k≤900000∧0<m ∧
 ∀H',Grow t H H'→Twn H' t (k+1)→Q (.int (drw ns (k+1) m)) H'
def spLaw (K:PySem.W.Frag):Sp:=fun vs H Q _=>∃(a:Addr)(ns:List Int),vs=[.ref a]∧Scr K H a ns∧ns.length≤63∧∀H',Q (.bl true) H'
end L2
set_option maxRecDepth 100000
namespace L2
open PySem
def Tr (B h:Heap)(e:Addr)(cls c fl:Value):Prop :=
 ∃oe vs T oT ts,h.get? e=some oe∧oe.cls=cls∧oe.data=.fields vs∧vs[2]?=some c∧vs[1]?=some (.ref T)∧B.get? T=none∧T≠e∧h.get? T=some oT∧oT.data=.fields ts∧ts[3]?=some fl
def Fl (B:Heap)(l:List Env)(e:Addr)(cls c fl:Value)(h:Heap):Prop :=
 B.StaysIn h∧B.get? e=none∧h.FunFrames B l∧Tr B h e cls c fl
theorem Fl.rest {B h:Heap}{env:Env}{outer:List Env}{e:Addr}{cls c fl:Value}(x:Fl B (env::outer) e cls c fl h):Fl B outer e cls c fl h:=by
 obtain⟨x1,x2,⟨_,_,x3⟩,x4⟩:=x
 exact⟨x1,x2,x3,x4⟩
section
variable {M:Model}{A:Around}{E:Value→Shared→Prop}{s:Shared}{B:Heap}{env:Env}{outer:List Env}{L e:Addr}{oe:Obj}{vs:Array Value}{cls c:Value}{Q:Unit→Shared→Prop}
theorem fl_entry {head:Value}{nx:Bool}(fA:A.frames=some (env::outer))(fF:s.heap.FunFrames B (env::outer))(fL:env.frame=some L)(e1:s.heap.get? e=some oe)(sB:B.StaysIn s.heap)(eB:B.get? e=none)(ed:oe.data=.fields vs)(ec:vs[2]?=some c)
  (q:∀g,Fl B (env::outer) e oe.cls c (rawInt L) g→s.heap.UpToSlots g→Q () { s with heap:=g }) :
  wpAny M A (do let a ←frameOf env;let pl ←entryPlaceOf L nx;let b ←EntryCells.newEntry head a .none (rawInt L) .none pl;setField (.ref e) 1 b) Q E s:=by
 have ez:2<vs.size:=(Array.getElem?_eq_some_iff.mp ec).1
 have notF:∀b o ws,s.heap.get? b=some o→o.data=.fields ws→b∉(env::outer).filterMap (·.frame):=fun b o ws e2 e3 y=>by
  obtain⟨_,o',e4,n4⟩:=fF.mem y
  rw[e2]at e4;cases e4;exact n4 ws e3
 refine wpAny_bind (wpAny_frameOf_fun fA fF fL fun g1 sl=>wpAny_bind (wpAny_entryPlaceOf fun pl hpl=>?_))
 unfold EntryCells.newEntry newFields
 refine wpAny_bind (wpAny_newObj_type ?_ (hpl.sizeOk5 _ _ _ _ _))
 have tb:∃ts,(.fields ([head,.ref L,.none,rawInt L,.none]++(if pl.isEmpty then List.replicate 6 Value.none else pl)).toArray:Data)=.fields ts∧ts[3]?=some (rawInt L):=⟨_,rfl,by simp⟩
 generalize (Data.fields ([head,.ref L,.none,rawInt L,.none]++(if pl.isEmpty then List.replicate 6 Value.none else pl)).toArray)=da at tb ⊢
 obtain⟨ts,rfl,t3⟩:=tb
 have g1e:g1.get? e=some oe:=(sl.2.1 e (notF e oe vs e1 ed)).trans e1
 have ob:=Heap.get?_push_of_some (h:=g1) { cls:=.type "traceback",dict:=none,data:=.fields ts } g1e
 have ob2:=Heap.get?_push_size g1 (o:={ cls:=.type "traceback",dict:=none,data:=.fields ts }) rfl
 refine wpAny_setField ob ed (by omega) (q _ ?_ ?_)
 all_goals
  have far:g1.objs.size≠e:=Nat.ne_of_gt (Heap.lt_size g1e)
  have kp:∀b o,b≠e→g1.get? b=some o→((g1.push { cls:=.type "traceback",dict:=none,data:=.fields ts }).update e (Obj.mapFields (·.setIfInBounds 1 (Value.ref g1.objs.size)))).get? b=some o:=fun b o n y =>
   (Heap.get?_update_other _ _ (Ne.symm n)).trans (Heap.get?_push_of_some _ y)
  have rec0:∀b o,s.heap.get? b=some o→(∀ws,o.data≠.fields ws)→b≠e:=fun b o y n z=>by
   subst z;rw[e1]at y;cases y;exact n vs ed
 ·have inB:∀b o,B.get? b=some o→g1.get? b=some o:=fun b o y=>(sl.2.1 b fun z=>by rw[(fF.mem z).1]at y;cases y).trans (sB b o y)
  have ed2:=Obj.data_mapFields ed (·.setIfInBounds 1 (Value.ref g1.objs.size))
  refine⟨fun b o y=>kp b o (fun z=>by subst z;rw[eB]at y;cases y) (inB b o y),eB,fF.of_keeps fun b o y n=>?_,_,_,g1.objs.size,_,ts,Heap.get?_update_self _ ob (Obj.isFreed_of_fields ed2),Obj.cls_mapFields _ _,ed2,?_,?_,?_,far,(Heap.get?_update_other _ _ (Ne.symm far)).trans ob2,rfl,t3⟩
  ·obtain⟨sl2,y2⟩:=sl.2.2 b o y
   exact⟨_,kp b _ (rec0 b o y n) y2,rfl⟩
  ·rw[Array.getElem?_setIfInBounds_ne (by decide)];exact ec
  ·simp[show 1<vs.size by omega]
  ·cases y:B.get? g1.objs.size with
   | none=>rfl
   | some o=>exact absurd (Heap.lt_size (inB _ _ y)) (Nat.lt_irrefl _)
 ·intro b o y n
  obtain⟨sl2,y2⟩:=sl.2.2 b o y
  exact⟨sl2,kp b _ (rec0 b o y n) y2⟩
theorem fl_new (fA:A.frames=some (env::outer))(fF:s.heap.FunFrames B (env::outer))(fL:env.frame=some L)(e1:s.heap.get? e=some oe)(sB:B.StaysIn s.heap)(eB:B.get? e=none)(ed:oe.data=.fields vs)(ec:vs[2]?=some c)(et:vs[1]?=some .none)
  (q:∀g,Fl B (env::outer) e oe.cls c (rawInt L) g→s.heap.UpToSlots g→Q () { s with heap:=g }):wpAny M A (noteFrame (.ref e) env) Q E s:=by
 unfold noteFrame
 simp only[fL]
 refine wpAny_bind (wpAny_field e1 ed et ?_)
 rw[if_neg (by decide)]
 exact fl_entry fA fF fL e1 sB eB ed ec q
theorem fl_note (fA : A.frames = some (env :: outer)) (fL : env.frame = some L) (x : Fl B (env :: outer) e cls c .none s.heap)
    (q : ∀ g,Fl B (env :: outer) e cls c (rawInt L) g→s.heap.UpToSlots g→Q () { s with heap:=g }) : wpAny M A (noteFrame (.ref e) env) Q E s:=by
  obtain ⟨sB,eB,fF,oe,vs,T,oT,ts,e1,rfl,ed,ec,et,tB,tn,t1,td,t3⟩:=x
  unfold noteFrame
  simp only [fL]
  refine wpAny_bind (wpAny_field e1 ed et ?_)
  rw [if_pos (show (Value.ref T != Value.none) = true by simp)]
  refine wpAny_bind (wpAny_field t1 td t3 ?_)
  rw [if_neg (show ¬ ((Value.none == rawInt L) = true) by simp [rawInt])]
  refine wpAny_bind (wpAny_setField t1 td (Array.getElem?_eq_some_iff.mp t3).1 ?_)
  have oth : ∀ b,b≠T→(s.heap.update T (Obj.mapFields (·.setIfInBounds 3 Value.none))).get? b = s.heap.get? b:=fun b n=>Heap.get?_update_other _ _ (Ne.symm n)
  have rec0 : ∀ b o,s.heap.get? b = some o→(∀ ws,o.data ≠ .fields ws)→b≠T:=fun b o y n z=>by
    subst z; rw [t1] at y; cases y; exact n ts td
  refine fl_entry (s := { s with heap:=s.heap.update T (Obj.mapFields (·.setIfInBounds 3 Value.none)) }) fA (fF.of_keeps fun b o y n=>⟨o,(oth b (rec0 b o y n)).trans y,rfl⟩) fL ((oth e (Ne.symm tn)).trans e1) (fun b o y=>(oth b fun z=>by subst z; rw [tB] at y; cases y).trans (sB b o y)) eB ed ec
    fun g y1 y2=>q g y1 fun b o z n=>y2 b o ((oth b (rec0 b o z n)).trans z) n
theorem fl_land {l : List Env} {fl : Value} (x : Fl B l e cls c fl s.heap) (q : ∀ g,Fl B l e cls c .none g→s.heap.UpToSlots g→Q () { s with heap:=g }) : wpAny M A (setFlight (.ref e) none) Q E s:=by
  obtain ⟨sB,eB,fF,oe,vs,T,oT,ts,e1,ek,ed,ec,et,tB,tn,t1,td,t3⟩:=x
  have z3 : 3 < ts.size:=(Array.getElem?_eq_some_iff.mp t3).1
  have oth : ∀ b,b≠T→(s.heap.update T (Obj.mapFields (·.setIfInBounds 3 ((none : Option Addr).elim Value.none fun f=>rawInt f)))).get? b = s.heap.get? b:=fun b n=>Heap.get?_update_other _ _ (Ne.symm n)
  have rec0 : ∀ b o,s.heap.get? b = some o→(∀ ws,o.data ≠ .fields ws)→b≠T:=fun b o y n z=>by
    subst z; rw [t1] at y; cases y; exact n ts td
  unfold setFlight
  refine wpAny_bind (wpAny_field e1 ed et ?_)
  rw [if_pos (show (Value.ref T != Value.none) = true by simp)]
  refine wpAny_setField t1 td z3 (q _ ⟨fun b o y=>(oth b fun z=>by subst z; rw [tB] at y; cases y).trans (sB b o y),eB,fF.of_keeps fun b o y n=>⟨o,(oth b (rec0 b o y n)).trans y,rfl⟩,oe,vs,T,_,_,(oth e (Ne.symm tn)).trans e1,ek,ed,ec,et,tB,tn,Heap.get?_update_self _ t1 (Obj.isFreed_of_fields (Obj.data_mapFields td _)),Obj.data_mapFields td _, ?_⟩ fun b o y n=>⟨o.slots,(oth b (rec0 b o y n)).trans y⟩)
  simp [z3]
theorem fl_leave (fA:A.frames=some (env::outer))(fL:env.frame=some L)(x:Fl B (env::outer) e cls c .none s.heap)
  (q:∀g,Fl B outer e cls c .none g→s.heap.UpToSlots g→Q () { s with heap:=g }):wpAny M A (leaving env (.ref e)) Q E s:=by
 unfold leaving
 exact wpAny_bind (fl_note fA fL x fun g1 y1 u1=>fl_land (s:={ s with heap:=g1 }) y1 fun g2 y2 u2=>q g2 y2.rest (u1.trans u2))
theorem fl_leaveNew (fA:A.frames=some (env::outer))(fF:s.heap.FunFrames B (env::outer))(fL:env.frame=some L)(e1:s.heap.get? e=some oe)(sB:B.StaysIn s.heap)(eB:B.get? e=none)(ed:oe.data=.fields vs)(ec:vs[2]?=some c)(et:vs[1]?=some .none)
  (q:∀g,Fl B outer e oe.cls c .none g→s.heap.UpToSlots g→Q () { s with heap:=g }):wpAny M A (leaving env (.ref e)) Q E s:=by
 unfold leaving
 exact wpAny_bind (fl_new fA fF fL e1 sB eB ed ec et fun g1 y1 u1=>fl_land (s:={ s with heap:=g1 }) y1 fun g2 y2 u2=>q g2 y2.rest (u1.trans u2))
end
end L2
namespace L2
open PySem
inductive Reach (h:Heap):Value→Value→Prop
 | refl (v:Value):Reach h v v
 | step {a:Addr}{o:Obj}{vs:Array Value}{v u:Value}:h.get? a=some o→o.data=.fields vs→vs[2]?=some v→Reach h v u→Reach h (.ref a) u
theorem Reach.snoc {h:Heap}{u:Value}{b:Addr}{o:Obj}{vs:Array Value}{v:Value}(x:Reach h u (.ref b))(e1:h.get? b=some o)(e2:o.data=.fields vs)(e3:vs[2]?=some v):Reach h u v:=by
 generalize hz:Value.ref b=z at x
 induction x with
 | refl y=>subst hz;exact .step e1 e2 e3 (.refl _)
 | step a1 a2 a3 _ ih=>exact .step a1 a2 a3 (ih hz)
noncomputable def Chain (h:Heap)(F:Addr→Prop):Nat→Value→Prop
 | 0,v=>v=.none
 | n+1,v=>v=.none∨∃a o vs c,v=.ref a∧h.get? a=some o∧F a∧o.data=.fields vs∧vs[2]?=some c∧Chain h F n c
theorem Chain.imp {h g:Heap}{F G:Addr→Prop}(k:∀a o vs,F a→h.get? a=some o→o.data=.fields vs→g.get? a=some o∧G a):∀{n:Nat}{v:Value},Chain h F n v→Chain g G n v
 | 0,_,x=>x
 | n+1,_,x=>by
  rcases x with x|⟨a,o,vs,c,e1,e2,e3,e4,e5,r⟩
  ·exact .inl x
  ·exact .inr ⟨a,o,vs,c,e1,(k a o vs e3 e2 e4).1,(k a o vs e3 e2 e4).2,e4,e5,Chain.imp k r⟩
noncomputable def ChainP (ps:List (Addr×Obj)):Nat→Value→Prop
 | 0,v=>v=.none
 | n+1,v=>v=.none∨∃a o vs c,v=.ref a∧(a,o)∈ps∧o.data=.fields vs∧vs[2]?=some c∧ChainP ps n c
theorem ChainP.more {ps qs:List (Addr×Obj)}(k:∀p∈ps,p∈qs):∀{n:Nat}{v:Value},ChainP ps n v→ChainP qs n v
 | 0,_,x=>x
 | n+1,_,x=>by
  rcases x with x|⟨a,o,vs,c,e1,e2,e4,e5,r⟩
  ·exact .inl x
  ·exact .inr ⟨a,o,vs,c,e1,k _ e2,e4,e5,ChainP.more k r⟩
theorem ChainP.chain {h:Heap}{F:Addr→Prop}{ps:List (Addr×Obj)}(k:∀p∈ps,h.get? p.1=some p.2∧F p.1):∀{n:Nat}{v:Value},ChainP ps n v→Chain h F n v
 | 0,_,x=>x
 | n+1,_,x=>by
  rcases x with x|⟨a,o,vs,c,e1,e2,e4,e5,r⟩
  ·exact .inl x
  ·exact .inr ⟨a,o,vs,c,e1,(k _ e2).1,(k _ e2).2,e4,e5,ChainP.chain k r⟩
theorem Chain.pins {h:Heap}{F:Addr→Prop}:∀{n:Nat}{v:Value},Chain h F n v→∃ps:List (Addr×Obj),(∀p∈ps,h.get? p.1=some p.2∧F p.1∧∃vs,p.2.data=.fields vs)∧ChainP ps n v
 | 0,_,x=>⟨[],fun _ y=>absurd y (by simp),x⟩
 | n+1,_,x=>by
  rcases x with x|⟨a,o,vs,c,e1,e2,e3,e4,e5,r⟩
  ·exact⟨[],fun _ y=>absurd y (by simp),.inl x⟩
  ·obtain⟨ps,k,r⟩:=Chain.pins r
   refine⟨(a,o)::ps,fun p y=>?_,.inr ⟨a,o,vs,c,e1,List.mem_cons_self,e4,e5,r.more fun p y=>List.mem_cons_of_mem _ y⟩⟩
   rcases List.mem_cons.mp y with rfl|y
   ·exact⟨e2,e3,vs,e4⟩
   ·exact k p y
theorem entry_unchain:entryFor table "proto.unchain"=some Builtin.«proto.unchain»:=entryFor_of_tree (by kernel_rfl)
section
variable {prog:Program}{w:World}
theorem unchain_ok {e:Addr}:∀(n:Nat){A:Around}{R:Result→Shared→Prop}{s:Shared}{o:Addr}{oo:Obj}{vs:Array Value}{c slow:Value}{tg:Bool},s.heap.get? o=some oo→oo.data=.fields vs→vs[2]?=some c→Chain s.heap (·≠e) n c→Reach s.heap slow (.ref o) →
  R (.ok (.ret .none)) s→codeAny (model prog w) A (.builtin "proto.unchain" ⟨[.ref e,.ref o,slow,.bool tg],[]⟩) R s:=by
 intro n
 induction n with
 | zero =>
  intro A R s o oo vs c slow tg e1 e2 e3 ch rc q
  obtain rfl:c=.none:=ch
  refine codeAny_builtin entry_unchain ?_
  unfold Builtin.«proto.unchain»
  refine wpAny_bind (wpAny_field e1 e2 e3 ?_)
  rw[if_pos (by simp)]
  exact wpAny_pure q
 | succ n ih =>
  intro A R s o oo vs c slow tg e1 e2 e3 ch rc q
  refine codeAny_builtin entry_unchain ?_
  unfold Builtin.«proto.unchain»
  refine wpAny_bind (wpAny_field e1 e2 e3 ?_)
  rcases ch with rfl|⟨a,oa,ws,d,rfl,a1,a2,a3,a4,r⟩
  ·rw[if_pos (by simp)]
   exact wpAny_pure q
  rw[if_neg (by simp),if_neg (by simpa using a2)]
  by_cases hs:(Value.ref a==slow)=true
  ·rw[if_pos hs]
   exact wpAny_bind (wpAny_rule (wpAny_pure q))
  rw[if_neg hs]
  have rc2:Reach s.heap slow (.ref a):=rc.snoc e1 e2 e3
  cases tg with
  | false=>exact wpAny_bind (wpAny_pure (wpAny_pure ⟨Code.quiet_builtin _ (by decide +kernel),ih a1 a3 a4 r rc2 q⟩))
  | true =>
   cases rc2 with
   | refl=>exact absurd (by simp) hs
   | step b1 b2 b3 rc3=>exact wpAny_bind (wpAny_field b1 b2 b3 (wpAny_pure ⟨Code.quiet_builtin _ (by decide +kernel),ih a1 a3 a4 r rc3 q⟩))
end
end L2
namespace L2
open PySem
section
variable {prog:Program}{w:World}{A:Around}{E:Value→Shared→Prop}{env:Env}
variable {nm q:Str}{C N:Addr}{bs bm bmB:List Value}{hdct:Bool}{sn:List Str}{sub:List Value}{ab:Bool}{col:Option Bool}{dd:Option Addr}{k0 k1 k2 k3 k5:Option Value}{newId:String}
def Behind (h:Heap)(F:Addr→Prop)(y:Addr):Prop:=∃n,Chain h F (n+1) (.ref y)
theorem raiseNew_behind {α:Type}{Q:α→Shared→Prop}{s:Shared}{e y:Addr}{oe:Obj}{vs:Array Value}(hh:A.handled=some (.ref y))(he:s.heap.get? e=some oe)(hd:oe.data=.fields vs)(hz:2<vs.size)(hy:Behind s.heap (·≠e) y)
  (hE:E (.ref e) { s with heap:=s.heap.update e (Obj.mapFields (·.setIfInBounds 2 (.ref y))) }):wpAny (model prog w) A (raiseNew (.ref e):Sem α) Q E s:=by
 obtain⟨n,z|⟨a,o,ws,c,z,e1,e2,e3,e4,r⟩⟩:=hy
 ·cases z
 cases z
 unfold raiseNew
 refine wpAny_bind (wpAny_handled ?_)
 rw[hh]
 dsimp only
 rw[if_pos (by simpa using e2)]
 refine wpAny_bind (wpAny_holding (wpAny_runValue (unchain_ok n e1 e3 e4 r (.refl _) ?_)))
 simp only[updateField]
 refine wpAny_bind (wpAny_bind (wpAny_load he ?_))
 rw[hd]
 dsimp only
 rw[if_pos hz]
 exact wpAny_update he (wpAny_throw hE)
theorem raiseStmt_behind {s:Shared}{x z:Sem Value}{Q:Flow→Shared→Prop}{y:Addr}(hbase:bm.contains (.type "BaseException")=true)(hh:A.handled=some (.ref y))(hz:∀s',wpAny (model prog w) A z (fun v s''=>v=.none∧s''=s') E s')
  (h:wpAny (model prog w) A x (fun v s₁=>∃e t,v=.ref e∧s₁.heap.get? C=some (excClassObj nm q C N bs bm hdct sn sub ab col dd k0 k1 k2 k3 k5 newId) ∧
   s₁.heap.get? e=some { cls:=.ref C,data:=.fields #[.ref t,.none,.none,.none,.bool false,.none] }∧Behind s₁.heap (·≠e) y ∧
   ∀g,g.get? e=some { cls:=.ref C,data:=.fields #[.ref t,.none,.ref y,.none,.bool true,.none] }→(∀b,b≠e→g.get? b=s₁.heap.get? b)→E (.ref e) { s₁ with heap:=g }) E s) :
  wpAny (model prog w) A (raiseStmt env (some x) (some z)) Q E s:=by
 have hcB:(Value.ref C::bm).contains (.type "BaseException")=true:=by rw[List.contains_cons,hbase,Bool.or_true]
 unfold raiseStmt
 refine wpAny_bind (wpAny_mono h (fun v s₁ h₁=>?_) fun _ _ u=>u)
 obtain⟨e,t,rfl,hC,he,hy,hE⟩:=h₁
 refine wpAny_bind (wpAny_holding (wpAny_mono (hz s₁) (fun v s₂ h₂=>?_) fun _ _ u=>u))
 obtain⟨rfl,rfl⟩:=h₂
 refine wpAny_bind (wpAny_pure ?_)
 obtain⟨hp,g,d,tk,os⟩:=s₂
 have hne:C≠e:=fun u=>by rw[u]at hC;have hw:=hC.symm.trans he;injection hw with hw;injection hw with _ _ hw;cases hw
 have he2:((hp.update e (Obj.mapFields (·.setIfInBounds 3 Value.none))).update e (Obj.mapFields (·.setIfInBounds 4 (Value.bool true)))).get? e=some { cls:=.ref C,data:=.fields #[.ref t,.none,.none,.none,.bool true,.none] } :=
  Heap.get?_update_self _ (Heap.get?_update_self _ he rfl) rfl
 have ot2:∀b,b≠e→((hp.update e (Obj.mapFields (·.setIfInBounds 3 Value.none))).update e (Obj.mapFields (·.setIfInBounds 4 (Value.bool true)))).get? b=hp.get? b:=fun b n =>
  (Heap.get?_update_other _ _ (Ne.symm n)).trans (Heap.get?_update_other _ _ (Ne.symm n))
 have hC2:=(ot2 C hne).trans hC
 repeat (first|with_reducible refine wpAny_loadPart_at he2 ?_|with_reducible refine wpAny_loadPart_at hC2 ?_|with_reducible refine wpAny_loadPart_at he ?_|with_reducible refine wpAny_loadPart_at hC ?_|(with_reducible refine wpAny_isSubtype_exc hC ?_;rw[hcB])|wp_step)
 refine raiseNew_behind hh he2 rfl (by show 2<6;decide) ?_ (hE _ (Heap.get?_update_self _ he2 rfl) fun b n=>(Heap.get?_update_other _ _ (Ne.symm n)).trans (ot2 b n))
 obtain⟨n,hy⟩:=hy
 exact⟨n,hy.imp fun a o _ na ea _=>⟨(ot2 a na).trans ea,na⟩⟩
end
end L2
namespace L2
open PySem
section
variable {prog:Program}{w:World}{A:Around}{E:Value→Shared→Prop}{s:Shared}{env:Env}
variable {nm q:Str}{C N:Addr}{bs bm bmB:List Value}{hdct:Bool}{sn:List Str}{sub:List Value}{ab:Bool}{col:Option Bool}{dd:Option Addr}{k0 k1 k2 k3 k5:Option Value}{T newId initId:String}
theorem Raise_behind (F:ExcBaseFacts T newId initId bmB){mN:Str→Option Value}{x:Str}{np cpos pos p2:Pos}{j:Nat}{args:List Expr}{Q:Flow→Shared→Prop}{y:Addr}(hb:bm.contains (.type "BaseException")=true)(hh:A.handled=some (.ref y))
  (hp:(backTo cpos (starEach args env)).any (·.1)=false)(hi:mN "__init__"=none)
  (h:wpAny (model prog w) A (eval (.Name x np) env) (fun f s₁=>f=.ref C∧wpAny (model prog w) A (evalArgs (.ref C) true (backTo cpos (starEach args env)) [])
   (fun a s₂=>a.kw=[]∧a.pos.length≤sizeLine∧s₂.heap.get? C=some (excClassObj nm q C N bs bm hdct sn sub ab col dd k0 k1 k2 k3 k5 newId)∧s₂.heap.Ns N mN∧OwnTail s₂.heap bmB bm ∧
    ∀h' e,Heap.MadeExcOf s₂.heap h' e (.ref C) a.pos→Behind h' (·≠e) y∧∀g t,g.get? e=some { cls:=.ref C,data:=.fields #[.ref t,.none,.ref y,.none,.bool true,.none] }→(∀b,b≠e→g.get? b=h'.get? b)→E (.ref e) { s₂ with heap:=g }) E s₁) E s) :
  wpAny (model prog w) A (exec (.Raise (some (.Call (.Name x np) args [] cpos)) (some (.Constant .none j p2)) pos) env) Q E s:=by
 rw[arm_exec_Raise]
 refine wpAny_bind (wpAny_standAt (raiseStmt_behind (C:=C) (N:=N) (nm:=nm) (q:=q) (bs:=bs) (bm:=bm) (sn:=sn) (sub:=sub) (hdct:=hdct) (ab:=ab) (col:=col) (dd:=dd) (k0:=k0) (k1:=k1) (k2:=k2) (k3:=k3) (k5:=k5) (newId:=newId) (y:=y) hb hh (fun s'=>?_) ?_))
 ·exact wpAny_bind (wpAny_Constant_none (wpAny_bind (wpAny_standAt (wpAny_pure ⟨rfl,rfl⟩))))
 refine wpAny_bind (wpAny_mono (wpAny_Call_ofName (wpAny_mono h (fun f s₁ z1=>?_) fun _ _ u=>u)) (fun v s₃ z3=>wpAny_bind (wpAny_standAt (wpAny_pure z3))) fun _ _ u=>u)
 obtain⟨rfl,z1⟩:=z1
 unfold callWith
 refine wpAny_bind (wpAny_holding (wpAny_mono z1 (fun a s₂ z2=>wpAny_bind (wpAny_standAt ?_)) fun _ _ u=>u))
 obtain⟨ap,ak⟩:=a
 obtain⟨ek,hl,hC,hn,ht,z2⟩:=z2
 obtain rfl:ak=[]:=ek
 obtain⟨hp2,g,d,tk,os⟩:=s₂
 simp only[hp]
 refine wpAny_bind (wpAny_keeperOf_exc hC ?_)
 refine wpAny_bind (wpAny_call_exc_subT (hrest:=hl) F ht hC hn hi fun h' e hm=>wpAny_bind (wpAny_holding (wpAny_point (wpAny_pure ?_))))
 obtain⟨t,e1,_,_⟩:=hm.there
 exact⟨e,t,rfl,hm.keeps _ _ hC,e1,(z2 h' e hm).1,fun g y1 y2=>(z2 h' e hm).2 g t y1 y2⟩
end
end L2
namespace L2
open PySem PySem.Spec PyProof.Rows
theorem hok_none {P:Program}{w:World}{H:Hp}{h:Heap}{a:Addr}(x:HOk P w H h)(e:h.get? a=none):H a=none:=by
 cases q:H a with
 | none=>rfl
 | some o =>
  have y:=x a o q
  have:∃ob,h.get? a=some ob:=by
   cases o with
   | lst xs=>obtain⟨_,_,_,_,e⟩:=y;exact⟨_,e⟩
   | tup xs=>obtain⟨_,_,_,⟨_,e,_⟩,_⟩:=y;exact⟨_,e⟩
   | dK kvs=>obtain⟨_,_,_,_,o,_,_,e,_⟩:=y;exact⟨_,e⟩
   | dT kvs=>obtain⟨_,_,_,_,o,_,_,e,_⟩:=y;exact⟨_,e⟩
   | set S n=>obtain⟨o,_,_,_,e,_⟩:=y;exact⟨_,e⟩
   | ins C dx fs=>obtain⟨_,_,_,e,_⟩:=y;exact⟨_,e⟩
   | own y=>obtain⟨_,e⟩:=y;exact⟨_,e⟩
   | xd fs=>obtain⟨_,⟨_,_,_,e,_⟩,_⟩:=y;exact⟨_,e⟩
   | rng lo hi=>obtain⟨_,_,_,e⟩:=y;exact⟨_,e⟩
   | frz ob u=>obtain⟨e,_⟩:=y;exact⟨_,e⟩
   | tbl ps=>exact⟨_,show h.get? a=some _ from y⟩
   | met f z=>exact⟨_,show h.get? a=some _ from y⟩
   | ext φ=>obtain⟨_,⟨_,e⟩,_⟩:=y;exact⟨_,e⟩
  obtain⟨ob,z⟩:=this
  rw[e]at z;cases z
structure Flown (P:Program)(w:World)(outer:List Env)(H:Hp)(s:Shared)(x C:Addr)(c:Value)(B:Heap)(H':Hp)(s':Shared):Prop where
 fly:Fl B outer x (.ref C) c .none s'.heap
 os:s'.os=s.os
 bare:AllBare s'.gens
 k1:∀b o,s.heap.get? b=some o→H b=none→b∉frs outer→B.get? b=some o
 k2:∀b o,s.heap.get? b=some o→H b=none→b∈frs outer→∃sl,s'.heap.get? b=some { o with slots:=sl }
 k3:∀b o,s.heap.get? b=some o→b∉frs outer→∃o',B.get? b=some o'
 free:∀b o,s.heap.get? b=some o→H b=none→H' b=none
 tups:∀b xs,H b=some (.tup xs)→H' b=some (.tup xs)
 frzs:∀b o u,H b=some (.frz o u)→H' b=some (.frz o u)
 tbls:∀b ps,H b=some (.tbl ps)→∃more,H' b=some (.tbl (ps++more))
 hok:HOk P w H' B
 new:H' x=none
 ch:∃n,Chain B (fun a=>H' a=none) n c
noncomputable def CXR (P:Program)(w:World):CXT:=fun outer H s E e s'=>∃(x C:Addr)(c:Value)(B:Heap)(H':Hp),e=.ref x∧Flown P w outer H s x C c B H' s'∧E (.ref C) none H'
theorem Flown.un {P:Program}{w:World}{outer:List Env}{H:Hp}{s:Shared}{x C:Addr}{c:Value}{B:Heap}{H':Hp}{s':Shared}(F:Flown P w outer H s x C c B H' s'){h:Heap}(st:B.StaysIn h)(up:s'.heap.UpToSlots h):Un (frs outer) [] H H' s.heap h:=by
 have nf:∀b∈frs outer,∀o,s'.heap.get? b=some o→∀vs,o.data≠.fields vs:=fun b hb o e=>by
  obtain⟨_,o',ho',n'⟩:=F.fly.2.2.1.mem hb
  rw[e]at ho';cases ho';exact n'
 refine⟨fun b o e n hb _=>st b o (F.k1 b o e n hb),fun b o e n hb _=>?_,fun b o e n _=>F.free b o e n,fun b o e _=>?_,F.tups,F.frzs,F.tbls⟩
 ·obtain⟨sl,q⟩:=F.k2 b o e n hb
  obtain⟨sl',q'⟩:=up b _ q (nf b hb _ q)
  exact⟨sl',q'⟩
 ·by_cases hb:b∈frs outer
  ·obtain⟨_,o',ho',n'⟩:=F.fly.2.2.1.mem hb
   obtain⟨sl',q'⟩:=up b _ ho' n'
   exact⟨_,q'⟩
  ·obtain⟨o',q⟩:=F.k3 b o e hb
   exact⟨o',st b o' q⟩
section
variable {P:Program}{w:World}{K:PySem.W.Frag}{mg:Str→Option Value}{base:Heap}{N:List Str}{qual:Str}{scope:Scope}{f:Addr}{cd:Value}{A:Around}{outer:List Env}{s:Shared}{H:Hp}{E:XK}
theorem frs_cons {env:Env}{l:List Env}{b:Addr}(h:b∈frs l):b∈frs (env::l):=by
 unfold frs at h ⊢
 obtain⟨e,he,hf⟩:=List.mem_filterMap.mp h
 exact List.mem_filterMap.mpr ⟨e,List.mem_cons_of_mem _ he,hf⟩
theorem cx_raise {pins:List (Addr×Obj)}{σ:St}{H1:Hp}{s1:Shared}{g:Heap}{x C:Addr}{oe:Obj}{vs:Array Value}{c:Value}(I:Inv (cxOf (CXR P w) P w K mg base N qual scope f cd A outer s H E) pins σ H1 s1)
  (kp:∀b o,s1.heap.get? b=some o→g.get? b=some o)(xn:s1.heap.get? x=none)(xg:g.get? x=some oe)(xk:oe.cls=.ref C)(xd:oe.data=.fields vs)(x1:vs[1]?=some .none)(x2:vs[2]?=some c)(xh:∃n,Chain s1.heap (fun a=>H1 a=none) n c)
  (q:E (.ref C) none H1):(cxOf (CXR P w) P w K mg base N qual scope f cd A outer s H E).xe (.ref x) { s1 with heap:=g }:=by
 have notF:∀b o,s.heap.get? b=some o→b∉frs outer→b∉frs (envOfC qual scope s.heap.objs.size f cd::outer):=fun b o e hb z=>by
  rcases List.mem_cons.mp (I.stkSub b z)with y|y
  ·exact absurd (Heap.lt_size e) (by rw[y];exact Nat.lt_irrefl _)
  ·exact hb y
 have noex:∀b:Addr,b∉(cxOf (CXR P w) P w K mg base N qual scope f cd A outer s H E).ex:=fun b z=>absurd (show b∈([]:List Addr)from z) (by simp)
 have fF:s1.heap.FunFrames (PySem.W.hideAll s1.heap (frs (envOfC qual scope s.heap.objs.size f cd::outer))) (envOfC qual scope s.heap.objs.size f cd::outer) :=
  PySem.W.funFrames_hide I.stack fun env he a ha=>List.mem_filterMap.mpr ⟨env,he,ha⟩
 have notR:∀b o ws,s1.heap.get? b=some o→o.data=.fields ws→b∉frs (envOfC qual scope s.heap.objs.size f cd::outer):=fun b o ws e2 e3 y=>by
  obtain⟨_,o',e4,n4⟩:=fF.mem y
  rw[e2]at e4;cases e4;exact n4 ws e3
 have nB:(PySem.W.hideAll s1.heap (frs (envOfC qual scope s.heap.objs.size f cd::outer))).get? x=none:=by
  cases z:(PySem.W.hideAll s1.heap (frs (envOfC qual scope s.heap.objs.size f cd::outer))).get? x with
  | none=>rfl
  | some o =>
   have z2:=PySem.W.of_hideAll _ z
   rw[xn]at z2;cases z2
 obtain⟨n,xh⟩:=xh
 refine fl_leaveNew (s:={ s1 with heap:=g }) (B:=PySem.W.hideAll s1.heap (frs (envOfC qual scope s.heap.objs.size f cd::outer))) (outer:=outer) (L:=s.heap.objs.size) I.ok.frames (fF.of_keeps fun b o y _=>⟨o,kp b o y,rfl⟩) rfl xg (fun b o z=>kp b o (PySem.W.of_hideAll _ z)) nB xd x2 x1
  fun g2 fl up=>⟨x,C,c,_,H1,rfl,⟨xk▸fl,I.os,I.bare,fun b o e n hb=>?_,fun b o e n hb=>?_,fun b o e hb=>?_,fun b o e n=>I.base.free b o e n (noex b),I.base.tups,I.base.frzs,I.base.tbls,fun b u e=>?_,hok_none I.hok xn,n,xh.imp fun a o ws na ea da=>⟨PySem.W.hideAll_get _ ea (notR a o ws ea da),na⟩⟩,q⟩
 ·exact PySem.W.hideAll_get _ (I.base.keep b o e n hb (noex b)) (notF b o e hb)
 ·obtain⟨sl,z⟩:=I.base.slot b o e n hb (noex b)
  obtain⟨_,o',ho',nf⟩:=I.funs.mem hb
  rw[z]at ho';cases ho'
  obtain⟨sl',z'⟩:=up b _ (kp _ _ z) nf
  exact⟨sl',z'⟩
 ·obtain⟨o',z⟩:=I.base.there b o e (noex b)
  exact⟨o',PySem.W.hideAll_get _ z (notF b o e hb)⟩
 ·have nfr:∀c v,H1 c=some v→c∉frs (envOfC qual scope s.heap.objs.size f cd::outer):=fun c v e z=>by
   rw[I.stkFree c z]at e;cases e
  refine(show ObjOk P w H1 s1.heap b u from I.hok b u e).stay (fun c v hc z=>PySem.W.hideAll_get _ z ?_) (fun _ z=>z) fun _ _ z=>z
  rcases hc with y|y
  ·rw[y];exact nfr b u e
  ·exact nfr c _ y
theorem cx_pass:Passes (CXR P w) (cxOf (CXR P w) P w K mg base N qual scope f cd A outer s H E) E:=by
 intro pins σ H1 s1 e s' I h
 obtain⟨x,C,c,B,H',rfl,F,q⟩:=h
 have noex:∀b:Addr,b∉(cxOf (CXR P w) P w K mg base N qual scope f cd A outer s H E).ex:=fun b z=>absurd (show b∈([]:List Addr)from z) (by simp)
 have notF:∀b o,s.heap.get? b=some o→b∉frs outer→b∉frs (envOfC qual scope s.heap.objs.size f cd::outer):=fun b o e hb z=>by
  rcases List.mem_cons.mp (I.stkSub b z)with y|y
  ·exact absurd (Heap.lt_size e) (by rw[y];exact Nat.lt_irrefl _)
  ·exact hb y
 refine fl_leave (outer:=outer) (L:=s.heap.objs.size) I.ok.frames rfl F.fly fun h'' fl up=>⟨x,C,c,B,H',rfl,⟨fl,F.os.trans I.os,F.bare,fun b o e n hb=>?_,fun b o e n hb=>?_,fun b o e hb=>?_,fun b o e n=>?_,fun b xs e=>F.tups b xs (I.base.tups b xs e),fun b o u e=>F.frzs b o u (I.base.frzs b o u e),fun b ps e=>?_,F.hok,F.new,F.ch⟩,q⟩
 ·exact F.k1 b o (I.base.keep b o e n hb (noex b)) (I.base.free b o e n (noex b)) (notF b o e hb)
 ·obtain⟨sl,z⟩:=I.base.slot b o e n hb (noex b)
  obtain⟨sl',z'⟩:=F.k2 b _ z (I.base.free b o e n (noex b)) (frs_cons hb)
  have hb':b∈frs (envOfC qual scope s.heap.objs.size f cd::outer):=frs_cons hb
  obtain⟨_,o2,ho2,nf2⟩:=F.fly.2.2.1.mem hb'
  rw[z']at ho2;cases ho2
  obtain⟨sl2,z2⟩:=up b _ z' nf2
  exact⟨sl2,z2⟩
 ·obtain⟨o',z⟩:=I.base.there b o e (noex b)
  exact F.k3 b o' z (notF b o e hb)
 ·obtain⟨o',z⟩:=I.base.there b o e (noex b)
  exact F.free b o' z (I.base.free b o e n (noex b))
 ·obtain⟨m1,e1⟩:=I.base.tbls b ps e
  obtain⟨m2,e2⟩:=F.tbls b _ e1
  exact⟨m1++m2,by rw[e2,Array.append_assoc]⟩
theorem Fun.okX {x qual:Str}{st:Stmt}{f:Addr}{fd:FuncData}{N ps:List Str}{k:Nat}{sp:Sp}(F:Fun K x qual st f fd)(S:FnScope N ps (defScope st))(len:∀vs H Q E,sp vs H Q E→vs.length=ps.length)
  (hbody:∀(cdv:Value)(A:Around)(outer:List Env)(s:Shared)(H:Hp)(vs:List V)(Q:VK)(E:XK),Room k (A.deeper (envOfC qual (defScope st) s.heap.objs.size f cdv))→sp vs H Q E →
   ∃t,PSs (cxOf (CXR P w) P w K mg base N qual (defScope st) f cdv A outer s H E) (defBody st) t∧t { nx:=fun _ H'=>Q .non H',rt:=Q } (start N vs) H):FnOk P w K mg base (CXR P w) (k+1) f fd ps sp:=by
 obtain⟨oc,od,kV,doc,pm,an,cdv,ct,osl,rfl,lk,hcd⟩:=F.ex
 exact fn_of lk hcd S len fun A outer s H vs Q E hr hsp=>hbody cdv A outer s H vs Q E hr hsp
end
structure FnX (P:Program)(w:World)(K:PySem.W.Frag)(mg:Str→Option Value)(base:Heap)(x:Str)(f:Addr)(fd:FuncData)(ps:List Str)(k:Nat)(sp:Sp):Prop where
 ok:FnOk P w K mg base (CXR P w) k f fd ps sp
 mg:mg x=some (.ref f)
 kp:PySem.W.keepIn K (.ref f)=true
 bd:Binds K fd ps []
end L2
namespace L2
open PySem PySem.Spec PyProof.Rows
structure Exc (K:PySem.W.Frag)(mg:Str→Option Value)(x:Str)(C:Addr)(mro:List Value):Prop where
 bound:mg x=some (.ref C)
 isin:PySem.W.excIn K C [.type "ValueError",.type "Exception",.type "BaseException",.type "object"] "ValueError.__new__"=true
 mro:∃c d cd sl,K.lookup C=some ⟨c,d,.cls cd,sl⟩∧cd.mro=mro
theorem Exc.obj {K:PySem.W.Frag}{mg:Str→Option Value}{x:Str}{C:Addr}{mro:List Value}(O:Exc K mg x C mro){h:Heap}(X:K.In h) :
  ∃bm N nm q bs hdct sn sub ab col dd k0 k1 k2 k3 k5 mN,h.get? C=some (excClassObj nm q C N bs bm hdct sn sub ab col dd k0 k1 k2 k3 k5 "ValueError.__new__")∧h.Ns N mN∧mN "__init__"=none ∧
   OwnTail h [.type "ValueError",.type "Exception",.type "BaseException",.type "object"] bm∧mro=.ref C::bm:=by
 obtain⟨_,q,c0,d0,cd0,sl0,lk,em⟩:=O
 unfold PySem.W.excIn at q
 rw[lk]at q
 split at q
 ·rename_i dd cd sl ho
  cases ho
  split at q
  ·rename_i C' bm k0 k1 k2 k3 n k5 hm hs
   simp only[Bool.and_eq_true,beq_iff_eq,Bool.not_eq_true']at q
   obtain⟨⟨⟨⟨⟨rfl,rfl⟩,hdel⟩,ht⟩,hok⟩,hni⟩:=q
   obtain⟨nm,bs,mr,ns,qn,hd,sn,sub,ab,col,del⟩:=cd0
   dsimp only at hm hdel hok hni em
   subst hm hdel
   have hsl:sl0=#[k0,k1,k2,k3,some (.builtin "ValueError.__new__"),k5]:=by
    obtain⟨l⟩:=sl0
    simp only at hs
    rw[hs]
   subst hsl
   exact⟨bm,ns,nm,qn,bs,hd,sn,sub,ab,col,d0,k0,k1,k2,k3,k5,_,X _ _ lk,.of_isNs (PySem.W.isNs_of_in X hok),PySem.W.nsMap_none_of_in X hok hni,PySem.W.tail_of_in X ht,em.symm⟩
  ·cases q
 ·cases q
def tRaise (C:Addr)(E:XK)(ta:TA):TS:=fun _ σ H=>ta σ H fun vs H1=>vs.length≤sizeLine∧E (.ref C) none H1
theorem ps_raise {P:Program}{w:World}{K:PySem.W.Frag}{mg:Str→Option Value}{base:Heap}{N:List Str}{qual:Str}{scope:Scope}{f:Addr}{cd:Value}{A:Around}{outer:List Env}{s₀:Shared}{H₀:Hp}{E:XK}
  {x:Str}{C:Addr}{mro:List Value}{e:Expr}{es:List Expr}{ta:TA}{np cpos pos:Pos}(O:Exc K mg x C mro)(ha:PA (cxOf (CXR P w) P w K mg base N qual scope f cd A outer s₀ H₀ E) (e::es) ta)
  (hg:Gl (cxOf (CXR P w) P w K mg base N qual scope f cd A outer s₀ H₀ E) x:=by rfl)(hdb:(x==("__debug__" : Str))=false:=by decide)
  (he:starEach (e::es) (envOfC qual scope s₀.heap.objs.size f cd)=(false,eval e (envOfC qual scope s₀.heap.objs.size f cd))::starEach es (envOfC qual scope s₀.heap.objs.size f cd):=by rfl)
  (hpl:(backTo cpos (starEach es (envOfC qual scope s₀.heap.objs.size f cd))).any (·.1)=false:=by rfl) :
  PS (cxOf (CXR P w) P w K mg base N qual scope f cd A outer s₀ H₀ E) (.Raise (some (.Call (.Name x np) (e::es) [] cpos)) none pos) (tRaise C E ta):=by
 intro pins s σ H D I h
 obtain⟨bm,N',nm,q,bs,hdct,sn,sub,ab,col,dd,k0,k1,k2,k3,k5,mN,hC,hN,hni,T,_⟩:=O.obj I.ok.mod.kin
 refine wpAny_Raise_call_subT (C:=C) (nm:=nm) (q:=q) (N:=N') (bs:=bs) (bm:=bm) (hdct:=hdct) (sn:=sn) (sub:=sub) (ab:=ab) (col:=col) (dd:=dd) (k0:=k0) (k1:=k1) (k2:=k2) (k3:=k3) (k5:=k5) (mN:=mN)
  PySem.F.excBase_ValueError (T.hasType PySem.F.excBase_ValueError.hasBase) (I.ok.hd rfl) ?_ hni (ld_glob I hg O.bound ⟨rfl,?_⟩ hdb)
 ·show(backTo cpos (starEach (e::es) (envOfC qual scope s₀.heap.objs.size f cd))).any (·.1)=false
  rw[he]
  show(false||(backTo cpos (starEach es (envOfC qual scope s₀.heap.objs.size f cd))).any (·.1))=false
  rw[hpl];rfl
 have hA:=ha cpos pins s σ H _ I h
 show wpAny _ _ (evalArgs (.ref C) true (backTo cpos (starEach (e::es) (envOfC qual scope s₀.heap.objs.size f cd))) []) _ _ s
 have hA':wpAny (model P w) (cxOf (CXR P w) P w K mg base N qual scope f cd A outer s₀ H₀ E).A (spliced (backTo cpos (starEach (e::es) (envOfC qual scope s₀.heap.objs.size f cd)))) _ _ s:=hA
 rw[he]at hA' ⊢
 refine Calls.evalArgs_plain (thn hA' fun us s1 ⟨vs,H1,I1,r,hz,q1⟩=>⟨rfl,by rw[←r.length];exact hz,I1.bk _ _ hC,hN.keeps I1.bk,T.keeps I1.bk,fun h' x' hm=>(let ⟨t,e1,_,_⟩:=hm.there;cx_raise I1 hm.keeps hm.new e1 rfl rfl rfl rfl ⟨0,rfl⟩ q1)⟩)
def XP (X:Cx)(pins:List (Addr×Obj))(σ:St)(Ex:XK)(e:Value)(s':Shared):Prop:=∃H1 s1,Inv X pins σ H1 s1∧CXR X.prog X.w X.stack H1 s1 Ex e s'
noncomputable abbrev TX:=St→Hp→VK→XK→Prop
def PEx (X:Cx)(e:Expr)(t:TX):Prop :=
 ∀(pins:List (Addr×Obj))(s:Shared)(σ:St)(H:Hp)(Q:VK)(Ex:XK),Inv X pins σ H s→t σ H Q Ex→wpAny (model X.prog X.w) X.A (eval e X.env) (EP X pins σ Q) (XP X pins σ Ex) s
section
variable {X:Cx}{e:Expr}{es:List Expr}{pos:Pos}
theorem noxe {α:Type}{t:Sem α}{Q:α→Shared→Prop}{M:Model}{A:Around}{E:Value→Shared→Prop}{s:Shared}(h:wpAny M A t Q X.nox.xe s):wpAny M A t Q E s:=wpAny_mono h (fun _ _ z=>z) fun _ _ z=>False.elim z
variable {k:Nat}{f C:Addr}{fd:FuncData}{ps:List Str}{sp:Sp}{m x:Str}{p apos:Pos}{o:Expr}{ta:TE}{t:TA}
theorem run_fnx {pins:List (Addr×Obj)}{σ:St}{H:Hp}{s:Shared}{Q:VK}{Ex:XK}{us:List Value}{vs:List V}(F:FnOk X.prog X.w X.K X.mg X.base (CXR X.prog X.w) k f fd ps sp)(hr:Room k X.A)(hb:Binds X.K fd ps [])
  (I:Inv X pins σ H s)(r:Vals vs us)(h:sp vs H Q Ex):wpAny (model X.prog X.w) X.A (call (.ref f) us) (EP X pins σ Q) (XP X pins σ Ex) s:=by
 have hl:(us++[]).length=ps.length:=by rw[List.append_nil,←r.length];exact F.len _ _ _ _ h
 have hb':=hb s us I.kIn hl
 rw[List.append_nil]at hb'
 refine wpAny_call (codeAny_mono (F.run X.A X.stack s H ⟨us,[]⟩ us vs Q Ex hr I.env0 hb' r h) fun r s' hq=>?_)
 cases r with
 | error e=>exact⟨H,s,I,hq⟩
 | ok fl =>
  cases fl with
  | ret u=>exact I.after hq
  | next=>exact False.elim hq
  | brk=>exact False.elim hq
  | cont=>exact False.elim hq
theorem px_callV (i:Nat){k':Nat}(hv:PE X.nox (.Name x p) (tVar i))(hr:Room k' X.A)(ha:PA X.nox (e::es) t)
  (he:starEach (e::es) X.env=(false,eval e X.env)::starEach es X.env:=by rfl)(hpl:(backTo pos (starEach es X.env)).any (·.1)=false:=by rfl) :
  PEx X.nox (.Call (.Name x p) (e::es) [] pos) (fun σ H Q Ex=>∃f fd k ps sp,σ[i]?=some (some (.ref f))∧FnOk X.prog X.w X.K X.mg X.base (CXR X.prog X.w) k f fd ps sp∧k≤k'∧PySem.W.keepIn X.K (.ref f)=true∧Binds X.K fd ps []∧t σ H fun vs H1=>sp vs H1 Q Ex):=by
 intro pins s σ H Q Ex I h
 obtain⟨f,fd,k,ps,sp,ef,F,hk,kp,hb,h⟩:=h
 refine wpAny_Call_Name_kw (thn (noxe (hv pins s σ H (fun v H'=>v=.ref f∧H'=H) I ⟨_,ef,rfl,rfl⟩)) fun u s1 ⟨v,H1,I1,rv,ev,eH⟩=>?_)
 subst ev eH
 obtain rfl:u=Value.ref f:=rv
 refine PySem.W.callWith_K (h₀:=X.base) I.ok.mod.kin kp (thn (noxe (ha pos pins s1 σ H1 _ I1 h)) fun us s2 ⟨vs,H2,I2,r,q⟩=>⟨I2.kIn,?_⟩) he hpl
 exact run_fnx (X:=X.nox) F (hr.mono hk) hb I2 r q
theorem px_call (F:FnOk X.prog X.w X.K X.mg X.base (CXR X.prog X.w) k f fd ps sp)(hr:Room k X.A)(hg:Gl X x)(hm:X.mg x=some (.ref f))(hk:PySem.W.keepIn X.K (.ref f)=true)(hb:Binds X.K fd ps [])(ha:PA X.nox (e::es) t)
  (hdb:(x==("__debug__" : Str))=false:=by decide)(he:starEach (e::es) X.env=(false,eval e X.env)::starEach es X.env:=by rfl)(hpl:(backTo pos (starEach es X.env)).any (·.1)=false:=by rfl) :
  PEx X.nox (.Call (.Name x p) (e::es) [] pos) (fun σ H Q Ex=>t σ H fun vs H1=>sp vs H1 Q Ex):=by
 intro pins s σ H Q Ex I h
 refine wpAny_Call_Name_kw (ld_glob I hg hm ?_ hdb)
 refine PySem.W.callWith_K (h₀:=X.base) I.ok.mod.kin hk (thn (noxe (ha pos pins s σ H _ I h)) fun us s1 ⟨vs,H1,I1,r,q⟩=>⟨I1.kIn,?_⟩) he hpl
 exact run_fnx (X:=X.nox) F hr hb I1 r q
end
theorem exc_matches {M:Model}{A:Around}{E:Value→Shared→Prop}{nm q nm' q':Str}{C N D N':Addr}{bs bm bs' bm':List Value}{hdct hdct':Bool}{sn sn':List Str}{sub sub':List Value}{ab ab':Bool}{col col':Option Bool}{dd dd':Option Addr}{k0 k1 k2 k3 k5 l0 l1 l2 l3 l5:Option Value}{newId newId':String}
  {h:Heap}{g:Array GenState}{d:Drawn}{t:Nat}{os:OsState}{e:Addr}{oe:Obj}{Q:Bool→Shared→Prop}
  (hC:h.get? C=some (excClassObj nm q C N bs bm hdct sn sub ab col dd k0 k1 k2 k3 k5 newId))(hD:h.get? D=some (excClassObj nm' q' D N' bs' bm' hdct' sn' sub' ab' col' dd' l0 l1 l2 l3 l5 newId'))
  (he:h.get? e=some oe)(hcls:oe.cls=.ref C)(hbase:bm'.contains (.type "BaseException")=true)(hq:Q ((Value.ref C::bm).contains (.ref D)) ⟨h,g,d,t,os⟩):wpAny M A (excMatches (.ref e) (.ref D)) Q E ⟨h,g,d,t,os⟩:=by
 have hcB:(Value.ref D::bm').contains (.type "BaseException")=true:=by rw[List.contains_cons,hbase,Bool.or_true]
 have f:=tc_notTuple
 unfold excMatches
 cases hb:(Value.ref C::bm).contains (.ref D)with
 | true =>
  rw[hb]at hq
  repeat (first|(with_reducible refine wpAny_loadPart_at he ?_;rw[hcls])|with_reducible refine wpAny_loadPart_at hD ?_|(with_reducible refine wpAny_isSubtype_exc hD ?_;rw[hcB])|(with_reducible refine wpAny_isSubtype_exc hC ?_;rw[hb])|wp_step)
  exact hq
 | false =>
  rw[hb]at hq
  repeat (first|(with_reducible refine wpAny_loadPart_at he ?_;rw[hcls])|with_reducible refine wpAny_loadPart_at hD ?_|(with_reducible refine wpAny_isSubtype_exc hD ?_;rw[hcB])|(with_reducible refine wpAny_isSubtype_exc hC ?_;rw[hb])|wp_step)
  exact hq
noncomputable abbrev Cx.caught (X:Cx)(x:Addr)(ps:List (Addr×Obj)):Cx:={ X with A:=X.A.mark (some (.ref x)),calm:=false,pn:=ps++X.pn }
theorem caught_ok {X:Cx}{e:Addr}{ps:List (Addr×Obj)}(ok:X.Ok):(X.caught e ps).Ok :=
 ⟨ok.mod,ok.kind,ok.glob,ok.blt,ok.above,ok.inj,ok.has,ok.cab,fun z=>absurd (show false=true from z) Bool.false_ne_true,ok.frames,ok.stk,ok.exf,ok.bs,ok.bsz,ok.noex,ok.exfs,ok.funs,ok.frf⟩
theorem Inv.caught {X:Cx}{e:Addr}{ps pins:List (Addr×Obj)}{σ:St}{H:Hp}{s:Shared}(I:Inv X pins σ H s)(hp:∀p∈ps,s.heap.get? p.1=some p.2∧H p.1=none∧p.1≠X.env.locals∧p.1∉X.fs∧∀v,p.2.data≠.cell v):Inv (X.caught e ps) pins σ H s :=
 ⟨caught_ok I.ok,I.os,I.bare,I.base,I.loc,I.cell,I.free,I.freeC,fun p z=>by
  rcases List.mem_append.mp z with z|z
  ·rcases List.mem_append.mp z with z|z
   ·exact hp p z
   ·exact I.pin p (List.mem_append_left _ z)
  ·exact I.pin p (List.mem_append_right _ z),I.hok,I.len⟩
theorem Inv.uncaught {X:Cx}{e:Addr}{ps pins:List (Addr×Obj)}{σ:St}{H:Hp}{s:Shared}(ok:X.Ok)(I:Inv (X.caught e ps) pins σ H s):Inv X pins σ H s:=⟨ok,I.os,I.bare,I.base,I.loc,I.cell,I.free,I.freeC,fun p z=>I.pin p (by
  rcases List.mem_append.mp z with z|z
  ·exact List.mem_append_left _ (List.mem_append_right _ z)
  ·exact List.mem_append_right _ z),I.hok,I.len⟩
theorem SP.uncaught {X:Cx}{e:Addr}{ps pins:List (Addr×Obj)}{D:Ends}{f:Flow}{s:Shared}(ok:X.Ok)(h:SP (X.caught e ps) pins D f s):SP X pins D f s:=by
 cases f with
 | next=>obtain⟨σ',H',I',q⟩:=h;exact⟨σ',H',I'.uncaught ok,q⟩
 | brk=>obtain⟨σ',H',I',q⟩:=h;exact⟨σ',H',I'.uncaught ok,q⟩
 | cont=>obtain⟨σ',H',I',q⟩:=h;exact⟨σ',H',I'.uncaught ok,q⟩
 | ret v=>obtain⟨x,σ',H',I',r,q⟩:=h;exact⟨x,σ',H',I'.uncaught ok,r,q⟩
def HeadP (ps:List (Addr×Obj))(x:Addr):Prop:=∃n,ChainP ps (n+1) (.ref x)
inductive Hs (X:Cx):List ExceptHandler→List (Addr×TS)→Prop where
 | nil:Hs X [] []
 | cons {x:Str}{C:Addr}{mro:List Value}{b₀:Stmt}{suite:List Stmt}{pos np:Pos}{rest:List ExceptHandler}{ts:TS}{l:List (Addr×TS)}(O:Exc X.K X.mg x C mro)(hg:Gl X x)(hdb:(x==("__debug__" : Str))=false)
   (hs:∀e ps,X.Ok→HeadP ps e→PSs (X.caught e ps) (b₀::suite) ts)(r:Hs X rest l):Hs X (.ExceptHandler (some (.Name x np)) none (b₀::suite) pos::rest) ((C,ts)::l)
noncomputable def pickH (mro:List Value):List (Addr×TS)→Option TS
 | []=>none
 |(C,t)::r=>if mro.contains (.ref C)=true then some t else pickH mro r
noncomputable abbrev TSx:=Ends→XK→St→Hp→Prop
def PSx (X:Cx)(st:Stmt)(t:TSx):Prop :=
 ∀(pins:List (Addr×Obj))(s:Shared)(σ:St)(H:Hp)(D:Ends)(Ex:XK),Inv X pins σ H s→t D Ex σ H→wpAny (model X.prog X.w) X.A (exec st X.env) (SP X pins D) (XP X pins σ Ex) s
theorem psx_ret {X:Cx}{e:Expr}{te:TX}{ap:Pos}(he:PEx X.nox e te):PSx X.nox (.Return (some e) ap) (fun D Ex σ H=>te σ H D.rt Ex):=by
 intro pins s σ H D Ex I h
 exact wpAny_Return_some (thn (he pins s σ H _ _ I h) fun v s1 ⟨y,H1,I1,r1,q1⟩=>⟨y,σ,H1,I1,r1,q1⟩)
def tTry (K:PySem.W.Frag)(mg:Str→Option Value)(te:TSx)(l:List (Addr×TS)):TS:=fun D σ H=>te D (fun c _ H1=>∃x C mro t,c=.ref C∧Exc K mg x C mro∧pickH mro l=some t∧t D σ H1) σ H
theorem ps_try {X:Cx}{st:Stmt}{te:TSx}{h₀:ExceptHandler}{hs:List ExceptHandler}{l:List (Addr×TS)}{pos:Pos}(he:PSx X.nox st te)(hh:Hs X (h₀::hs) l)(hf:X.env.frame=some X.env.locals)(hst:X.stack=X.env::X.outer)
  (hpa:∀v,PassesOwnAt (model X.prog X.w) (X.A.mark v) X.A X.env X.xe):PS X (.Try [st] (h₀::hs) [] [] pos) (tTry X.K X.mg te l):=by
 intro pins s σ H D I h
 refine wpAny_Try_except ?_
 refine wpAny_mono (Q:=SP X.nox pins D) (E:=XP X.nox pins σ fun c _ H1=>∃x C mro t,c=.ref C∧Exc X.K X.mg x C mro∧pickH mro l=some t∧t D σ H1) ?_ (fun f s1 q=>?_) fun ev s1 q=>?_
 ·refine wpAny_execs_cons (thn (he pins s σ H D _ (I.wish _) h) fun f s1 q=>?_)
  cases f with
  | next=>exact wpAny_execs_nil q
  | ret v=>exact q
  | brk=>exact q
  | cont=>exact q
 ·cases f with
  | next=>exact wpAny_execs_nil (SP.unwish q)
  | ret v=>exact SP.unwish q
  | brk=>exact SP.unwish q
  | cont=>exact SP.unwish q
 obtain⟨H1,s2,I1,xa,C,c,B,H',rfl,F,nmx,C',mro,t,ec,O,pk,qt⟩:=q
 cases ec
 have F':Flown X.prog X.w (X.env::X.outer) H1 s2 xa C c B H' s1:=by
  have:Flown X.prog X.w X.stack H1 s2 xa C c B H' s1:=F
  rw[hst]at this;exact this
 have hfr:X.A.frames=some (X.env::X.outer):=by rw[←hst];exact I.ok.frames
 have I1':Inv X pins σ H1 s2:=I1.unwish
 refine fl_note hfr hf F'.fly fun h4 held4 up4=>?_
 refine fl_land (s:={ s1 with heap:=h4 }) held4 fun h5 fl5 up5'=>?_
 have up5:=up4.trans up5'
 -- whatever the handlers find,the names stand
 have inv:∀{h:Heap},B.StaysIn h→s1.heap.UpToSlots h→Inv X pins σ H' { s1 with heap:=h }:=fun {h} st up=>by
  have u:=F.un st up
  exact I1'.call' (s':={ s1 with heap:=h }) (ch:=[]) F.os u (F.hok.kept st) F.bare fun b z=>absurd z (by simp)
 have ok:=I.ok
 have main:∀{hs':List ExceptHandler}{l':List (Addr×TS)},Hs X hs' l'→pickH mro l'=some t→wpAny (model X.prog X.w) X.A (handleBy (.ref xa) X.env hs') (SP X pins D) X.xe { s1 with heap:=h5 }:=by
  intro hs' l' hH
  induction hH with
  | nil=>intro z;cases z
  | @cons nm2 C2 mro2 b₀ suite p2 np rest ts l2 O2 hg hdb hsu r ih =>
   intro z
   have I5:Inv X pins σ H' { s1 with heap:=h5 }:=inv fl5.1 up5
   refine wpAny_handleBy_cons (codeAny_handlers_test ?_) (by intro q;cases q)
   have Ic:Inv (X.caught xa []) pins σ H' { s1 with heap:=h5 }:=I5.caught fun p hp=>absurd hp (by simp)
   refine wpAny_mono (E:=fun _ _=>False) (ld_glob Ic hg O2.bound (Q:=fun c s'=>c=.ref C2∧s'={ s1 with heap:=h5 }) ⟨rfl,rfl⟩ hdb) (fun c s' hc=>?_) fun _ _ z=>z.elim
   obtain⟨rfl,rfl⟩:=hc
   obtain⟨bm,N1,nm,q1,bs,hdct,sn,sub,ab,col,dd,k0,k1,k2,k3,k5,mN,hC,_,_,T,em⟩:=O.obj I5.kIn
   obtain⟨bm',N1',nm',q1',bs',hdct',sn',sub',ab',col',dd',l0,l1,l2',l3,l5,mN',hC',_,_,T',em'⟩:=O2.obj I5.kIn
   obtain⟨ob,vs5,_,_,_,hob,hobc,_⟩:=fl5.2.2.2
   refine exc_matches (oe:=ob) hC hC' hob hobc (T'.hasType PySem.F.excBase_ValueError.hasBase) ?_
   rw[←em]
   cases hb:mro.contains (.ref C2)with
   | true =>
    have z':(if mro.contains (.ref C2)=true then some ts else pickH mro l2)=some t:=z
    rw[hb,if_pos rfl]at z'
    cases z'
    refine codeAny_handlers_suite ?_
    refine fl_land (s:={ s1 with heap:=h5 }) fl5 fun h6 fl6 up6=>?_
    have I6:Inv X pins σ H' { s1 with heap:=h6 }:=inv fl6.1 (up5.trans up6)
    obtain⟨oe,vs,_,_,_,g1,g2,g3,g4,_⟩:=fl6.2.2.2
    obtain⟨n,chn⟩:=F.ch
    have chn6:Chain h6 (fun a=>H' a=none) (n+1) (.ref xa):=.inr ⟨xa,oe,vs,c,rfl,g1,F.new,g3,g4,chn.imp fun a o ws na ea _=>⟨fl6.1 a o ea,na⟩⟩
    obtain⟨ps,pk1,pk2⟩:=chn6.pins
    have Ic6:Inv (X.caught xa ps) pins σ H' { s1 with heap:=h6 }:=I6.caught fun p hp=>by
     obtain⟨a1,a2,ws,a3⟩:=pk1 p hp
     refine⟨a1,a2,fun y=>?_,fun y=>?_,fun v y=>?_⟩
     ·obtain⟨m,⟨o',es,ep,ho',hd',_⟩,_⟩:=I6.loc
      rw[y]at a1
      have a1':h6.get? X.env.locals=some o':=ho'
      rw[a1']at a1;cases a1
      rw[hd']at a3;cases a3
     ·obtain⟨_,o',ho',n'⟩:=I6.funs.mem y
      have a1':h6.get? p.1=some o':=ho'
      rw[a1']at a1;cases a1
      exact n' ws a3
     ·rw[a3]at y;cases y
    refine wpAny_passesOwnAt (hpa _) ?_
    exact wpAny_mono (hsu xa ps ok ⟨n,pk2⟩ pins _ σ H' D Ic6 qt) (fun f s' q=>SP.uncaught ok q) fun _ _ q=>q
   | false =>
    have z':(if mro.contains (.ref C2)=true then some ts else pickH mro l2)=some t:=z
    rw[hb,if_neg Bool.false_ne_true]at z'
    exact ih z'
 exact main hh pk
theorem ps_raiseH {P:Program}{w:World}{K:PySem.W.Frag}{mg:Str→Option Value}{base:Heap}{N:List Str}{qual:Str}{scope:Scope}{f:Addr}{cd:Value}{A:Around}{outer:List Env}{s₀:Shared}{H₀:Hp}{E:XK}{y:Addr}{ps:List (Addr×Obj)}
  {x:Str}{C:Addr}{mro:List Value}{e:Expr}{es:List Expr}{ta:TA}{np cpos pos p2:Pos}{j:Nat}(ok:(cxOf (CXR P w) P w K mg base N qual scope f cd A outer s₀ H₀ E).Ok)(hd:HeadP ps y)(O:Exc K mg x C mro)(ha:PA ((cxOf (CXR P w) P w K mg base N qual scope f cd A outer s₀ H₀ E).caught y ps) (e::es) ta)
  (hg:Gl (cxOf (CXR P w) P w K mg base N qual scope f cd A outer s₀ H₀ E) x:=by rfl)(hdb:(x==("__debug__" : Str))=false:=by decide)
  (he:starEach (e::es) (envOfC qual scope s₀.heap.objs.size f cd)=(false,eval e (envOfC qual scope s₀.heap.objs.size f cd))::starEach es (envOfC qual scope s₀.heap.objs.size f cd):=by rfl)
  (hpl:(backTo cpos (starEach es (envOfC qual scope s₀.heap.objs.size f cd))).any (·.1)=false:=by rfl) :
  PS ((cxOf (CXR P w) P w K mg base N qual scope f cd A outer s₀ H₀ E).caught y ps) (.Raise (some (.Call (.Name x np) (e::es) [] cpos)) (some (.Constant .none j p2)) pos) (tRaise C E ta):=by
 intro pins s σ H D I h
 obtain⟨bm,N',nm,q,bs,hdct,sn,sub,ab,col,ddd,k0,k1,k2,k3,k5,mN,hC,hN,hni,T,_⟩:=O.obj I.ok.mod.kin
 refine Raise_behind (C:=C) (nm:=nm) (q:=q) (N:=N') (bs:=bs) (bm:=bm) (hdct:=hdct) (sn:=sn) (sub:=sub) (ab:=ab) (col:=col) (dd:=ddd) (k0:=k0) (k1:=k1) (k2:=k2) (k3:=k3) (k5:=k5) (mN:=mN) (y:=y)
  PySem.F.excBase_ValueError (T.hasType PySem.F.excBase_ValueError.hasBase) rfl ?_ hni (ld_glob I hg O.bound ⟨rfl,?_⟩ hdb)
 ·show(backTo cpos (starEach (e::es) (envOfC qual scope s₀.heap.objs.size f cd))).any (·.1)=false
  rw[he]
  show(false||(backTo cpos (starEach es (envOfC qual scope s₀.heap.objs.size f cd))).any (·.1))=false
  rw[hpl];rfl
 have hA:=ha cpos pins s σ H _ I h
 show wpAny _ _ (evalArgs (.ref C) true (backTo cpos (starEach (e::es) (envOfC qual scope s₀.heap.objs.size f cd))) []) _ _ s
 have hA':wpAny (model P w) ((cxOf (CXR P w) P w K mg base N qual scope f cd A outer s₀ H₀ E).caught y ps).A (spliced (backTo cpos (starEach (e::es) (envOfC qual scope s₀.heap.objs.size f cd)))) _ _ s:=hA
 rw[he]at hA' ⊢
 refine Calls.evalArgs_plain (thn hA' fun us s1 ⟨vs,H1,I1,r,hz,q1⟩=>⟨rfl,by rw[←r.length];exact hz,I1.bk _ _ hC,hN.keeps I1.bk,T.keeps I1.bk,fun h' x' hm=>?_⟩)
 obtain⟨n,hd⟩:=hd
 have pin1:∀p∈ps,s1.heap.get? p.1=some p.2∧H1 p.1=none:=fun p z=>let w:=I1.pin p (List.mem_append_left _ (List.mem_append_left _ z));⟨w.1,w.2.1⟩
 refine⟨⟨n,hd.chain fun p z=>⟨hm.keeps _ _ (pin1 p z).1,fun z2=>?_⟩⟩,fun g t y1 y2=>?_⟩
 ·have z3:=(pin1 p z).1
  rw[z2,hm.new]at z3;cases z3
 ·refine cx_raise (I1.uncaught ok) (fun b o z=>(y2 b fun z2=>?_).trans (hm.keeps b o z)) hm.new y1 rfl rfl rfl rfl ⟨n+1,hd.chain pin1⟩ q1
  rw[z2,hm.new]at z;cases z
structure RoomH (k:Nat)(A:Around):Prop where
 dp:A.depth+3*k+5<recursionLimit
 un:A.units+16*k+200<cLine
theorem Room.h {k:Nat}{A:Around}(r:Room k A)(v:Option Value):RoomH k (A.mark v):=⟨r.dp,r.un⟩
structure FnOkH (P:Program)(w:World)(K:PySem.W.Frag)(mg:Str→Option Value)(base:Heap)(k:Nat)(f:Addr)(fd:FuncData)(ps:List Str)(sp:Sp):Prop where
 len:∀vs H Q E,sp vs H Q E→vs.length=ps.length
 run:∀(A:Around)(outer:List Env)(s:Shared)(H:Hp)(args:Args)(us:List Value)(vs:List V)(Q:VK)(E:XK),RoomH k A→Env0 P w K mg base A outer s H→BindsTo s fd args (ps.zip us)→Vals vs us→sp vs H Q E →
  codeAny (model P w) A (.call (.ref f) args) (CR CX0 outer P w H s Q E) s
noncomputable abbrev Cx.uncalm (X:Cx):Cx:={ X with calm:=false }
section
variable {P:Program}{w:World}{K:PySem.W.Frag}{mg:Str→Option Value}{base:Heap}
theorem Fun.okH {x qual:Str}{st:Stmt}{f:Addr}{fd:FuncData}{N ps:List Str}{k:Nat}{sp:Sp}(F:Fun K x qual st f fd)(S:FnScope N ps (defScope st))(len:∀vs H Q E,sp vs H Q E→vs.length=ps.length)
  (hbody:∀(cdv:Value)(A:Around)(outer:List Env)(s:Shared)(H:Hp)(vs:List V)(Q:VK)(E:XK),sp vs H Q E →
   ∃t,PSs (cxOf CX0 P w K mg base N qual (defScope st) f cdv A outer s H E).uncalm.nox (defBody st) t∧t { nx:=fun _ H'=>Q .non H',rt:=Q } (start N vs) H):FnOkH P w K mg base (k+1) f fd ps sp:=by
 obtain⟨oc,od,kV,doc,pm,an,cdv,ct,osl,rfl,lk,hcd⟩:=F.ex
 refine⟨len,fun A outer s H args us vs Q E hr e0 hb r hsp=>?_⟩
 have hl:=len _ _ _ _ hsp
 have KX:K.In s.heap:=e0.mod.kin.keeps fun b o e=>(e0.bs b o e).1
 have lim:s.heap.NoLimit:=e0.mod.nolimit.keeps fun b o e=>(e0.bs b o e).1
 have hkind:∀y∈ps.zip us,(defScope st).names.lookup y.1=some .local∨((defScope st).names.lookup y.1=some .cell∧((cellsFrom (s.heap.objs.size+1) (defScope st).names []).lookup y.1).isSome=true):=fun⟨n,v⟩ hy=>by
  rcases S.par n (List.of_mem_zip hy).1 with q|q
  ·exact .inl q
  ·exact .inr ⟨q,PySem.W.cellsFrom_some _ _ _ (.inl q)⟩
 refine codeAny_call_function (by have:=hr.dp;omega) (KX _ _ lk) rfl S.co S.gen rfl (PySem.W.codeRec_of KX hcd) (hb _ _ _ _ ?_)
 refine wpAny_newFunctionEnv_cells S.kind hkind fun env he s1 x=>?_
 subst he
 refine⟨lim.keeps x.toInCall.keep,codeAny_func ?_⟩
 obtain⟨t,ht,hq⟩:=hbody cdv A outer s H vs Q E hsp
 have e1:Env0 P w K mg base { A with handled:=none } outer s H:=⟨e0.frames,e0.mod,e0.bs,e0.bsz,e0.funs,e0.frf,e0.hok,e0.bare⟩
 have I0:Inv (cxOf CX0 P w K mg base N qual (defScope st) f cdv { A with handled:=none } outer s H E) [] (start N vs) H s1:=inv_start S rfl e1 hl r x
 have I:Inv (cxOf CX0 P w K mg base N qual (defScope st) f cdv A outer s H E).uncalm.nox [] (start N vs) H s1 :=
  ⟨⟨I0.ok.mod,I0.ok.kind,I0.ok.glob,I0.ok.blt,I0.ok.above,I0.ok.inj,I0.ok.has,I0.ok.cab,fun z=>absurd (show false=true from z) Bool.false_ne_true,Around.frames_deeper e0.frames,I0.ok.stk,I0.ok.exf,I0.ok.bs,I0.ok.bsz,I0.ok.noex,I0.ok.exfs,I0.ok.funs,I0.ok.frf⟩,I0.os,I0.bare,I0.base,I0.loc,I0.cell,I0.free,I0.freeC,I0.pin,I0.hok,I0.len⟩
 refine wpAny_mono (ht [] s1 (start N vs) H _ I hq) (fun fl s' hs=>?_) fun e s' hs=>False.elim hs
 have fin:∀{σ':St}{H':Hp}{v:V}{u:Value},Inv (cxOf CX0 P w K mg base N qual (defScope st) f cdv A outer s H E).uncalm.nox [] σ' H' s'→RelV v u→Q v H'→CE outer P w H s Q u s' :=
  fun {σ' H' v u} J rv q=>⟨v,H',J.os,J.bare,J.base,J.hok,rv,q⟩
 cases fl with
 | ret u =>
  obtain⟨v,σ',H',J,rv,q⟩:=hs
  exact fin J rv q
 | next =>
  obtain⟨σ',H',J,q⟩:=hs
  exact fin (v:=V.non) (u:=Value.none) J rfl q
 | brk =>
  obtain⟨_,_,_,q⟩:=hs
  exact False.elim q
 | cont =>
  obtain⟨_,_,_,q⟩:=hs
  exact False.elim q
end
section
variable {X:Cx}{k:Nat}{f C:Addr}{fd:FuncData}{ps:List Str}{sp:Sp}{m:Str}{pos apos:Pos}{e o:Expr}{es:List Expr}{ta:TE}{t:TA}
theorem pe_methH {pl:Sem Bool}(he:PE X o ta)(c:Cls X.K C)(hm:Meth X.K C m f)(F:FnOkH X.prog X.w X.K X.mg X.base k f fd ps sp)(hr:RoomH k X.A)(hb:Binds X.K fd ps [])(ha:PA X (e::es) t)
  (hst:starEach (e::es) X.env=(false,eval e X.env)::starEach es X.env:=by rfl)(hpl:(backTo pos (starEach es X.env)).any (·.1)=false:=by rfl)
  (ht:eval (.Call (.Attribute o m apos) (e::es) [] pos) X.env=(do
   let ov ←eval o X.env
   standAt apos.atName
   let (f,first) ←holding [ov] (getMethod ov m pl)
   callWith pos f first (backTo pos (starEach (e::es) X.env)) (backToKw pos (keywordEach [] X.env))):=by rfl) :
  PE X (.Call (.Attribute o m apos) (e::es) [] pos) (tMeth C m sp [] E0 ta t):=by
 intro pins s σ H Q I h
 refine PySem.W.methodCall_KW (pl:=pl) (thn (he pins s σ H _ I h) fun u s1 ⟨x,H1,I1,rx,a,dx,fs,ex,ea,l,q⟩=>?_) ht
 subst ex
 obtain rfl:u=Value.ref a:=rx
 refine getmeth_ok I1 ea c hm l ?_
 refine PySem.W.callWith_K (first:=[.ref a]) (h₀:=X.base) I.ok.mod.kin hm.kp (thn (ha pos pins s1 σ H1 _ I1 q) fun us s2 ⟨vs,H2,I2,r,q2⟩=>⟨I2.kIn,?_⟩) hst hpl
 have q2:sp (.ref a::(vs++[])) H2 Q E0:=q2
 rw[List.append_nil]at q2
 have r2:Vals (.ref a::vs) (.ref a::us):=.cons rfl r
 have hl:((.ref a::us)++([]:List Value)).length=ps.length:=by rw[List.append_nil,←r2.length];exact F.len _ _ _ _ q2
 have hb':=hb s2 (.ref a::us) I2.kIn hl
 rw[List.append_nil]at hb'
 refine wpAny_call (codeAny_mono (F.run X.A X.stack s2 H2 ⟨.ref a::us,[]⟩ (.ref a::us) (.ref a::vs) Q E0 hr I2.env0 hb' r2 q2) fun r s' hq=>?_)
 cases r with
 | error e=>exact False.elim hq
 | ok fl =>
  cases fl with
  | ret u=>exact I2.after hq
  | next=>exact False.elim hq
  | brk=>exact False.elim hq
  | cont=>exact False.elim hq
end
section
variable {P:Program}{w:World}{K:PySem.W.Frag}{mg:Str→Option Value}{base:Heap}{N:List Str}{qual:Str}{scope:Scope}{f':Addr}{cd:Value}{A:Around}{outer:List Env}{s₀:Shared}{H₀:Hp}{E:XK}
 {x:Str}{f:Addr}{fd:FuncData}{ps:List Str}{k k':Nat}{sp:Sp}{e:Expr}{es:List Expr}{t:TA}{p pos:Pos}
theorem pe_fnX (F:FnX P w K mg base x f fd ps k sp)(hr:Room k' (cxOf (CXR P w) P w K mg base N qual scope f' cd A outer s₀ H₀ E).A)(ha:PA (cxOf (CXR P w) P w K mg base N qual scope f' cd A outer s₀ H₀ E) (e::es) t)(hk:k≤k':=by first|decide|exact Nat.le_refl _)(hg:Gl (cxOf (CXR P w) P w K mg base N qual scope f' cd A outer s₀ H₀ E) x:=by rfl)(hdb:(x==("__debug__" : Str))=false:=by decide)
  (he:starEach (e::es) (envOfC qual scope s₀.heap.objs.size f' cd)=(false,eval e (envOfC qual scope s₀.heap.objs.size f' cd))::starEach es (envOfC qual scope s₀.heap.objs.size f' cd):=by rfl)(hpl:(backTo pos (starEach es (envOfC qual scope s₀.heap.objs.size f' cd))).any (·.1)=false:=by rfl) :
  PE (cxOf (CXR P w) P w K mg base N qual scope f' cd A outer s₀ H₀ E) (.Call (.Name x p) (e::es) [] pos) (tCall sp [] E t) :=
 pe_call F.ok (hr.mono hk) hg F.mg F.kp F.bd .nil cx_pass ha hdb he hpl
end
section
variable {X:Cx}{x:Str}{f:Addr}{fd:FuncData}{ps:List Str}{k k':Nat}{sp:Sp}{e:Expr}{es:List Expr}{t:TA}{p pos:Pos}
theorem px_fn (F:FnX X.prog X.w X.K X.mg X.base x f fd ps k sp)(hr:Room k' X.A)(ha:PA X.nox (e::es) t)(hk:k≤k':=by first|decide|exact Nat.le_refl _)(hg:Gl X x:=by rfl)(hdb:(x==("__debug__" : Str))=false:=by decide)
  (he:starEach (e::es) X.env=(false,eval e X.env)::starEach es X.env:=by rfl)(hpl:(backTo pos (starEach es X.env)).any (·.1)=false:=by rfl) :
  PEx X.nox (.Call (.Name x p) (e::es) [] pos) (fun σ H Q Ex=>t σ H fun vs H1=>sp vs H1 Q Ex) :=
 px_call F.ok (hr.mono hk) hg F.mg F.kp F.bd ha hdb he hpl
end
end L2
namespace L2
open PySem PySem.Spec PyProof.Rows
section
variable {X:Cx}{pos:Pos}
end
end L2
namespace L2
open PySem PySem.Spec PyProof.Rows
section
variable {X:Cx}
theorem call_sumL (hc:X.calm=true):CallR X (.builtin "sum") (fun xs H Q=>∃(p:Addr)(ns:List Int),xs=[.ref p]∧SqL X.K H p (ns.map V.int)∧Q (.int ns.sum) H):=by
 intro pins s σ H xs us Q I r h
 obtain⟨p,ns,rfl,hq,q⟩:=h
 obtain⟨u,rfl,rx⟩:=vals1 r
 cases rx
 obtain⟨its,rv,pl,hz⟩:=I.list hq
 have hlen:its.length=ns.length:=by rw[←rv.length,List.length_map]
 have plt:p<s.heap.objs.size:=by
  obtain⟨o,ho,_⟩:=pl.isList
  exact Heap.lt_size ho
 have hh:X.A.in1.handled=none:=I.ok.hd hc
 refine call_sum_walkG (wpAny_pyIter_list pl.isList ⟨s.heap.objs.size,_,_,_,_,_,fun i=>ns.getD i 0,rfl,Walks.list hh s.heap.objs.size p (Nat.ne_of_lt plt) its.toArray,⟨⟨_,Heap.get?_push_size _ rfl,rfl,rfl⟩,pl.isList.push _⟩,fun b hb=>?_,fun i v hv=>?_,fun h' tk t' k=>?_⟩)
 ·show b<(s.heap.push _).objs.size
  rw[Heap.size_push]
  have:b=s.heap.objs.size∨b=p:=by simpa using hb
  rcases this with rfl|rfl
  ·exact Nat.lt_succ_self _
  ·exact Nat.lt_succ_of_lt plt
 ·have hv':its[i]?=some v:=by simpa using hv
  have hi:i<ns.length:=by rw[←hlen];exact(List.getElem?_eq_some_iff.mp hv').1
  obtain⟨u,hu,ru⟩:=rv.get (i:=i) (x:=.int ns[i]) (by rw[List.getElem?_map,List.getElem?_eq_getElem hi];rfl)
  rw[hv']at hu;cases hu
  obtain⟨t,rfl⟩:=ru
  refine⟨t,?_⟩
  show Value.int ns[i] t=Value.int (ns.getD i 0) t
  rw[List.getD_eq_getElem?_getD,List.getElem?_eq_getElem hi]
  rfl
 ·have e:its.toArray.size=ns.length:=by rw[List.size_toArray,hlen]
  rw[e,preSum_getD,List.take_length]
  refine⟨.int ns.sum,H,?_,⟨_,rfl⟩,q⟩
  have I1:Inv X pins σ H { s with heap:=s.heap.push { cls:=.type "list_iterator",data:=.fields #[.ref p,.int 0 0] } }:=I.kept (t':=s.toks) fun b o z=>Heap.get?_push_of_some _ z
  refine I1.turnMany (t':=tk) (ch:=[s.heap.objs.size]) (fun b hb=>?_) fun b o hb z=>k b o (by simpa using hb) z
  have:b=s.heap.objs.size:=by simpa using hb
  subst this
  exact I.fpOk (Nat.le_refl _) (I.hok.fresh (Nat.le_refl _))
end
end L2
set_option maxRecDepth 100000
namespace L2
open PySem PySem.Spec PyProof.Rows
section
variable {X:Cx}
theorem call_sumT (hc:X.calm=true):CallR X (.builtin "sum") (fun xs H Q=>∃(p:Addr)(ns:List Int),xs=[.ref p]∧SqT X.K H p (ns.map V.int)∧Q (.int ns.sum) H):=by
 intro pins s σ H xs us Q I r h
 obtain⟨p,ns,rfl,hq,q⟩:=h
 obtain⟨u,rfl,rx⟩:=vals1 r
 cases rx
 obtain⟨its,rv,pl,hz⟩:=I.tuple hq
 have pl':s.heap.IsTuple p its.toArray:=pl
 have hlen:its.length=ns.length:=by rw[←rv.length,List.length_map]
 have plt:p<s.heap.objs.size:=by
  obtain⟨o,ho,_⟩:=pl'
  exact Heap.lt_size ho
 have hh:X.A.in1.handled=none:=I.ok.hd hc
 refine call_sum_walkG (wpAny_pyIter_tuple pl' ⟨s.heap.objs.size,_,_,_,_,_,fun i=>ns.getD i 0,rfl,Walks.tuple hh s.heap.objs.size p (Nat.ne_of_lt plt) its.toArray,⟨⟨_,Heap.get?_push_size _ rfl,rfl,rfl⟩,pl'.push _⟩,fun b hb=>?_,fun i v hv=>?_,fun h' tk t' k=>?_⟩)
 ·show b<(s.heap.push _).objs.size
  rw[Heap.size_push]
  have:b=s.heap.objs.size∨b=p:=by simpa using hb
  rcases this with rfl|rfl
  ·exact Nat.lt_succ_self _
  ·exact Nat.lt_succ_of_lt plt
 ·have hv':its[i]?=some v:=by simpa using hv
  have hi:i<ns.length:=by rw[←hlen];exact(List.getElem?_eq_some_iff.mp hv').1
  obtain⟨u,hu,ru⟩:=rv.get (i:=i) (x:=.int ns[i]) (by rw[List.getElem?_map,List.getElem?_eq_getElem hi];rfl)
  rw[hv']at hu;cases hu
  obtain⟨t,rfl⟩:=ru
  refine⟨t,?_⟩
  show Value.int ns[i] t=Value.int (ns.getD i 0) t
  rw[List.getD_eq_getElem?_getD,List.getElem?_eq_getElem hi]
  rfl
 ·have e:its.toArray.size=ns.length:=by rw[List.size_toArray,hlen]
  rw[e,preSum_getD,List.take_length]
  refine⟨.int ns.sum,H,?_,⟨_,rfl⟩,q⟩
  have I1:Inv X pins σ H { s with heap:=s.heap.push { cls:=.type "tuple_iterator",data:=.fields #[.ref p,.int 0 0] } }:=I.kept (t':=s.toks) fun b o z=>Heap.get?_push_of_some _ z
  refine I1.turnMany (t':=tk) (ch:=[s.heap.objs.size]) (fun b hb=>?_) fun b o hb z=>k b o (by simpa using hb) z
  have:b=s.heap.objs.size:=by simpa using hb
  subst this
  exact I.fpOk (Nat.le_refl _) (I.hok.fresh (Nat.le_refl _))
theorem PI.or {tg l:Expr}{w1 w2:TI}(h1:PI X tg l w1)(h2:PI X tg l w2):PI X tg l (fun σ H R=>w1 σ H R∨w2 σ H R):=by
 intro pins s σ H R I h
 rcases h with h|h
 ·exact h1 pins s σ H R I h
 ·exact h2 pins s σ H R I h
end
section
variable {prog:Program}{w:World}{A:Around}{E:Value→Shared→Prop}{s:Shared}
theorem tindex_loop {us:List Value}{ns:List Int}{z:Int}{tz:Tok}{j:Nat}{Q:Option Fin×Unit→Shared→Prop}(hi:IntsAre us ns)(hj:ns[j]?=some z)(hno:∀i,i<j→ns[i]?≠some z)(q:∀r,r=.done (.ret (.int j s.toks))→Q (some r,()) { s with toks:=s.toks+1 }) :
  ∀(k i:Nat),i+k=us.length→i≤j→wpAny (model prog w) A (forIn (List.range' i k) ((none,()):Option Fin×Unit) fun(i:Nat) __s =>
      match us.toArray[i]? with
      | some y=>do
       let __do_lift ←eqBool y (Value.int z tz)
       if __do_lift=true then do
         let __do_lift ←retInt ↑i
         pure (ForInStep.done (some __do_lift,()))
        else pure (ForInStep.yield (none,()))
      | _=>pure (ForInStep.yield (none,()))) Q E s:=by
 have hlen:us.length=ns.length:=by
  clear hj hno q
  induction hi with
  | nil=>rfl
  | cons _ _ _ ih=>simp[ih]
 have get:∀i (h:i<ns.length),∃t,us[i]?=some (Value.int ns[i] t):=by
  clear hj hno q hlen
  induction hi with
  | nil=>intro i h;exact absurd h (Nat.not_lt_zero _)
  | cons m t r ih =>
   intro i h
   cases i with
   | zero=>exact⟨t,rfl⟩
   | succ i=>obtain⟨t',e⟩:=ih i (by simpa using h);exact⟨t',by simpa using e⟩
 have hjl:j<ns.length:=(List.getElem?_eq_some_iff.mp hj).1
 intro k
 induction k with
 | zero=>intro i e h;omega
 | succ k ih =>
  intro i e h
  rw[List.range'_succ,List.forIn_cons]
  obtain⟨t,et⟩:=get i (by omega)
  have et':us.toArray[i]?=some (Value.int ns[i] t):=by simpa using et
  rw[et']
  refine wpAny_bind (wpAny_bind (wpAny_eqBool_int ?_))
  by_cases c:i=j
  ·subst c
   have ez:ns[i]=z:=by rw[List.getElem?_eq_getElem hjl]at hj;exact Option.some.inj hj
   rw[if_pos (by simp[ez])]
   unfold retInt
   refine wpAny_bind (wpAny_bind (wpAny_mkInt (wpAny_pure (wpAny_pure (wpAny_pure (q _ rfl))))))
  ·have ne:¬ns[i]=z:=fun y=>hno i (by omega) (by rw[List.getElem?_eq_getElem (by omega),y])
   rw[if_neg (by simpa using ne)]
   exact wpAny_pure (ih (i+1) (by omega) (by omega))
theorem tindex_body {t:Addr}{us:List Value}{ns:List Int}{z:Int}{tz:Tok}{j:Nat}{Q:Value→Shared→Prop}(hT:s.heap.IsTuple t us.toArray)(hi:IntsAre us ns)(hj:ns[j]?=some z)(hno:∀i,i<j→ns[i]?≠some z)
  (q:Q (.int j s.toks) { s with toks:=s.toks+1 }):wpAny (model prog w) A (Builtin.«tuple.index» ⟨[.ref t,.int z tz],[]⟩) (fun fin s'=>∃v,fin=.done (.ret v)∧Q v s') E s:=by
 obtain⟨hp,g,d,tk,os⟩:=s
 obtain⟨⟨cls,dd,data,sl⟩,ho,hc,n,hd⟩:=hT
 simp only at hc hd
 subst hc hd
 unfold Builtin.«tuple.index»
 simp only[Std.Legacy.Range.forIn_eq_forIn_range']
 wp_walk using AutoSeq1.wpAny_loadPart' ho
 have sz:[:min us.toArray.size us.toArray.size].size=us.length:=by simp[Std.Legacy.Range.size]
 rw[sz]
 refine tindex_loop (us:=us) (ns:=ns) (z:=z) (tz:=tz) (j:=j) hi hj hno (fun r er=>?_) us.length 0 (Nat.zero_add _) (Nat.zero_le _)
 subst er
 exact wpAny_pure ⟨_,rfl,q⟩
end
section
variable {X:Cx}
theorem mt_tindex:MtR X "tuple.index" (fun x xs H Q=>∃(a:Addr)(ns:List Int)(z:Int)(j:Nat),x=.ref a∧xs=[.int z]∧SqT X.K H a (ns.map V.int)∧ns[j]?=some z∧(∀i,i<j→ns[i]?≠some z)∧Q (.int (j:Int)) H):=by
 intro pins s σ H x xs v us Q I rx rv h
 obtain⟨a,ns,z,j,rfl,rfl,hq,hj,hno,q⟩:=h
 cases rx
 obtain⟨u,rfl,ru⟩:=rv.one
 obtain⟨tz,rfl⟩:=ru
 obtain⟨its,r,pt,_⟩:=I.tuple hq
 exact wpAny_call_entry PySem.F.slot_tuple_index pt.typeIs PySem.F.entry_tuple_index (tindex_body pt (intsAre_of r) hj hno ⟨.int (j:Int),H,I.tok _,⟨_,rfl⟩,q⟩) (PySem.F.args_tuple_index_2 _ _)
variable {o e:Expr}{es:List Expr}{to:TE}{t:TA}{name:Str}{apos cpos:Pos}{id:String}{r:V→List V→Hp→VK→Prop}
def tBMT (r:V→List V→Hp→VK→Prop)(to:TE)(t:TA):TE:=fun σ H Q=>to σ H fun x H1=>(∃p xs,x=.ref p∧H1 p=some (.tup xs))∧t σ H1 fun xs H2=>r x xs H2 Q
theorem pe_bmT (pa:PlainAttrs "tuple")(slot:Slot "tuple" name id)(hty:typeOf (.builtin id)=pure (.type "method_descriptor"))(hm:MtR X id r)(ho:PE X o to)(ha:PA X (e::es) t)
  (hbase:attributeBase o name X.env (eval o X.env)=eval o X.env:=by rfl)
  (hfew:((backTo cpos (starEach (e::es) X.env)).all (fun x=>!x.1)&&(backToKw cpos (keywordEach [] X.env)).all (fun x=>x.1.isSome)
   && decide ((e::es).length+([]:List Keyword).length+(if ([]:List Keyword).isEmpty then 0 else 1)<30))=true:=by rfl)
  (hline:(apos.endLine==cpos.line)=true:=by rfl)(hs:starEach (e::es) X.env=(false,eval e X.env)::starEach es X.env:=by rfl)(hplain:(backTo cpos (starEach es X.env)).any (·.1)=false:=by rfl) :
  PE X (.Call (.Attribute o name apos) (e::es) [] cpos) (tBMT r to t):=by
 intro pins s σ H Q I h
 refine wpAny_Call_method_late hbase hfew hline rfl (thn (ho pins s σ H _ I h) fun v s1 ⟨x,H1,I1,r1,⟨p,xs,ex,hp⟩,q1⟩=>?_)
 subst ex
 cases r1
 obtain⟨_,its,_,pt,ob,h2,h3⟩:=(show ObjOk X.prog X.w H1 s1.heap p (.tup xs)from I1.hok p _ hp)
 refine⟨"tuple",id,pa,slot,hty,pt.typeIs,fun a ea=>by cases ea;exact⟨ob,h2,h3⟩,?_⟩
 have hA:=ha cpos pins s1 σ H1 _ I1 q1
 rw[hs]at hA ⊢
 refine Calls.callWith_builtin (by show(false||(backTo cpos (starEach es X.env)).any (·.1))=false;rw[hplain]<;>rfl) (Calls.evalArgs_plain ?_)
 exact thn hA fun us s2 ⟨vs,H2,I2,r2,q2⟩=>hm pins s2 σ H2 (.ref p) vs (.ref p) us Q I2 rfl r2 q2
end
end L2
namespace L2
open PySem PySem.Spec PyProof.Rows
noncomputable def IteL (K:PySem.W.Frag)(a:Addr):It :=
 ⟨fun i H=>∃xs x,SqL K H a xs∧xs[i]?=some x,fun i H v H'=>∃p x,H p=none∧v=.ref p∧H'=upd H p (.tup [.int i,x])∧∀xs,SqL K H a xs→xs[i]?=some x,fun i H=>∃xs,SqL K H a xs∧xs.length≤i⟩
theorem turn_enumL {P:Program}{w:World}{K:PySem.W.Frag}{elts:List Expr} {x1}{tp:Pos}{e it a:Addr}(hne:e≠it)(hae:a≠e)(hai:a≠it) :
  Turn P w K (.Tuple elts x1 tp) (IteL K a) [e,it] e (fun i h=>(∃old,IsEnum h e it i old)∧h.IsListIter it a i) where
 mem:=by simp
 obj:=fun i h st b hb=>by
  obtain⟨⟨old,q⟩,⟨o,e1,c,d⟩⟩:=st
  rcases List.mem_cons.mp hb with z|z
  ·subst z;exact⟨_,q,fun v z=>by have z':Data.fields _=Data.cell v:=z;cases z'⟩
  ·have z:b=it:=by simpa using z
   subst z;exact⟨o,e1,fun v z=>by rw[d]at z;cases z⟩
 keep:=fun i h h' ⟨⟨old,q⟩,r⟩ k=>⟨⟨old,k e (by simp) _ q⟩,r.at fun o z=>k it (by simp) o z⟩
 item:=by
  intro X hP hw hK hc i pins s σ H E I hf st hg
  subst hP hw hK
  obtain⟨⟨old,he⟩,hit⟩:=st
  obtain⟨xs,x,hq,hx⟩:=hg
  obtain⟨its,rv,p,hz⟩:=I.list hq
  obtain⟨u,hu,ru⟩:=rv.get hx
  refine wpAny_pyNext_enum_item he hit p.isList (x:=u) (by simpa using hu) hne fun h' o1 a1 tp1 sz k1=>⟨_,rfl,?_⟩
  refine wpAny_letOwnedTupleGo_enum o1 fun h2 e2 k2=>?_
  have hT:s.heap.objs.size≠e:=Nat.ne_of_gt (Heap.lt_size he)
  have kk:∀b v,b∉[e,it]→s.heap.get? b=some v→h2.get? b=some v:=fun b v hb q=>by
   have n1:b≠e:=fun z=>hb (by simp[z])
   have n2:b≠it:=fun z=>hb (by simp[z])
   exact(k2.2 b n1).trans (k1 b v n1 n2 q)
  have new:ObjOk X.prog X.w (upd H s.heap.objs.size (.tup [.int i,x])) h2 s.heap.objs.size (.tup [.int i,x]) :=
   ⟨by show 2≤sizeLine;decide,[.int i s.toks,u],.cons ⟨_,rfl⟩ (.cons ru .nil),⟨_,(k2.2 _ hT).trans tp1,rfl,_,rfl⟩,_,(k2.2 _ hT).trans tp1,rfl⟩
  have IL:Inv X pins σ (upd H s.heap.objs.size (.tup [.int i,x])) { s with heap:=h2,toks:=s.toks+1 }:=I.turnLay (t':=s.toks+1) (ch:=[e,it]) hf kk (Nat.le_refl _) new
  refine⟨.ref s.heap.objs.size,_,IL,rfl,⟨_,x,I.hok.fresh (Nat.le_refl _),rfl,rfl,fun ys hy=>by rw[I.list_inj hy hq];exact hx⟩,⟨⟨u,?_⟩,a1.at fun o z=>(k2.2 it hne.symm).trans z⟩,fun b hb=>?_⟩
  ·have e3:IsEnum h2 e it ((i:Int)+1) u:=e2
   rw[show(((i+1:Nat):Int))=(i:Int)+1 by omega]
   exact e3
  ·rw[upd_ne (Nat.ne_of_lt ?_)]
   ·exact(hf b hb).1
   ·rcases List.mem_cons.mp hb with z|z
    ·rw[z];exact Heap.lt_size he
    ·have z:b=it:=by simpa using z
     obtain⟨o,q,_⟩:=hit
     rw[z];exact Heap.lt_size q
 done:=by
  intro X hP hw hK hc i pins s σ H E I hf st hg
  subst hP hw hK
  obtain⟨⟨old,he⟩,hit⟩:=st
  obtain⟨xs,hq,hx⟩:=hg
  obtain⟨its,rv,p,hz⟩:=I.list hq
  have hl:=rv.length
  refine wpAny_pyNext_enum_end (I.ok.hd hc) he hit p.isList (by simp;omega) fun h' k=>⟨rfl,I.turnMany (t':=s.toks) (ch:=[e,it]) hf fun b v hb q=>k b v (fun z=>hb (by simp[z])) q⟩
 self:=fun _ _ _ _ _ ⟨⟨_,q⟩,_⟩ h=>wpAny_pyIter_enum q h
section
variable {X:Cx}
def iEnumL (K:PySem.W.Frag)(ta:TA):TI:=fun σ H R=>ta σ H fun vs H1=>∃a,vs=[.ref a]∧(∃xs,SqL K H1 a xs)∧R (IteL K a) H1
theorem pi_enumL {a:Expr}{ta:TA}{p pos tp:Pos}{elts:List Expr} {x1}(hg:Gl X "enumerate")(hm:X.mg "enumerate"=none)(ha:PA X [a] ta)(hs:starEach [a] X.env=[(false,eval a X.env)]:=by rfl) :
  PI X (.Tuple elts x1 tp) (.Call (.Name "enumerate" p) [a] [] pos) (iEnumL X.K ta):=by
 intro pins s σ H R I h
 refine Call_ (ld_blt I hg hm boot_enumerate (PyProof.Rows.callWith_type1 (thn (ha pos pins s σ H _ I h) fun us s1 ⟨vs,H1,I1,r1,q1⟩=>?_) hs rfl))
 obtain⟨t,e,⟨xs,hq⟩,q⟩:=q1
 subst e
 cases r1 with
 | cons r rr =>
  cases rr
  cases r
  obtain⟨its,rv,pt,hz⟩:=I1.list hq
  have tlt:t<s1.heap.objs.size:=by obtain⟨o,ho,_⟩:=pt.isList;exact Heap.lt_size ho
  refine call_enumerate_list pt.isList fun h' he a0 sz k=>?_
  have I2:Inv X pins σ H1 { s1 with heap:=h' }:=I1.kept (t':=s1.toks) k
  refine wpAny_pyIter_enum (it:=s1.heap.objs.size) (i:=0) (old:=.none) he ⟨_,[s1.heap.objs.size+1,s1.heap.objs.size],_,_,H1,rfl,I2,turn_enumL (a:=t) (Nat.ne_of_gt (Nat.lt_succ_self _)) (Nat.ne_of_lt (Nat.lt_succ_of_lt tlt)) (Nat.ne_of_lt tlt),⟨⟨_,he⟩,a0⟩,fun b hb=>?_,q⟩
  have hb':s1.heap.objs.size≤b:=by
   simp only[List.mem_cons,List.not_mem_nil,or_false]at hb
   rcases hb with rfl|rfl
   ·exact Nat.le_succ _
   ·exact Nat.le_refl _
  exact I1.fpOk hb' (I1.hok.fresh hb')
end
end L2
namespace L2
open PySem PySem.Spec PyProof.Rows
section
variable {X:Cx}
end
end L2
set_option maxRecDepth 100000
namespace PySem
namespace R4
end R4
open PyProof.Rows
section
variable {prog:Program}{w:World}{A:Around}{E:Value→Shared→Prop}{s:Shared}
def Heap.IsRevT (h:Heap)(a t:Addr)(i:Int):Prop:=∃o,h.get? a=some o∧o.cls=.type "reversed"∧o.data=.fields #[.ref t,rawInt i]
theorem Heap.IsRevT.at {h h':Heap}{a t:Addr}{i:Int}(x:h.IsRevT a t i)(e:∀o,h.get? a=some o→h'.get? a=some o):h'.IsRevT a t i:=let ⟨o,ho,r⟩:=x;⟨o,e _ ho,r⟩
end
section
variable {prog:Program}{w:World}{A:Around}{E:Value→Shared→Prop}{s:Shared}{I:Addr}{fp wr:List Addr}{G:Array GenState→Array GenState→Prop}{n:Nat}{P:Nat→Value→Prop}{St:Nat→Shared→Prop}
end
end PySem
namespace L2
open PySem PySem.Spec PyProof.Rows
section
variable {X:Cx}
end
end L2
namespace HT
open PySem PyProof.Rows
section
open PySem.SeqAt
open PySem.AutoSeq1 (wpAny_loadPart')
open PySem.MeetsSeq PySem.MeetsSeq2 PySem.MeetsSeq3
end
section
variable {prog:Program}{w:World}{A:Around}{E:Value→Shared→Prop}{s:Shared}
end
end HT
namespace L2
open PySem PySem.Spec PyProof.Rows
section
variable {X:Cx}
end
noncomputable def ItrS (lo st:Int)(n:Nat):It:=⟨fun i _=>i<n,fun i H x H'=>H'=H∧x=.int (lo+i*st),fun i _=>n≤i⟩
theorem turn_rangeS {P:Program}{w:World}{K:PySem.W.Frag}{tg:Expr}(it:Addr)(lo st:Int)(n:Nat):Turn P w K tg (ItrS lo st n) [it] it (fun i h=>IsRangeIter h it (lo+(i:Nat)*st) ((n:Int)-(i:Nat)) st) where
 mem:=by simp
 obj:=fun i h st b hb=>by
  have e:b=it:=by simpa using hb
  subst e
  exact⟨_,st,fun v z=>by
   have z':Data.fields _=Data.cell v:=z
   cases z'⟩
 keep:=fun i h h' st k=>k it (by simp) _ st
 item:=by
  intro X hP hw hK hc i pins s σ H E I hf sti hg
  subst hP hw hK
  obtain⟨f0,f1,f2,f3,f4,f5⟩:=hf it (by simp)
  have W:=Walks.range (prog:=X.prog) (w:=X.w) (I.ok.hd hc) it lo st n
  refine W.item i s _ _ hg sti fun v h' tk hv st' kk=>?_
  obtain⟨t,rfl⟩:=hv
  have I1:Inv X pins σ H { s with heap:=h',toks:=tk }:=I.turned (fun b o hb e=>kk b o (by simpa using hb) e) f0 f1 f3 f4 f5
  exact⟨_,rfl,go_of (s:={ s with heap:=h',toks:=tk }) (n:="range_iterator") st' rfl rfl (by decide) ⟨.int (lo+i*st),H,I1,⟨t,rfl⟩,⟨rfl,rfl⟩,st',fun b hb=>(hf b hb).1⟩⟩
 done:=by
  intro X hP hw hK hc i pins s σ H E I hf st hg
  subst hP hw hK
  obtain⟨f0,f1,f2,f3,f4,f5⟩:=hf it (by simp)
  exact wpAny_pyNext_range_end (I.ok.hd hc) st (by have:n≤i:=hg;omega) fun h' eb=>⟨rfl,I.turned (t':=s.toks) (fun b o hb e=>eb b o hb e) f0 f1 f3 f4 f5⟩
 self:=fun _ _ _ _ _ st h=>wpAny_pyIter_rangeiter st h
section
variable {X:Cx}{tg:Expr}
end
end L2
namespace L2
open PySem PySem.Spec PyProof.Rows
theorem pe_calm {X:Cx}{e:Expr}{t:TX}(h:PEx X.nox e t):PE X.nox e (fun σ H Q=>t σ H Q fun _ _ _=>False):=by
 intro pins s σ H Q I q
 refine wpAny_mono (h pins s σ H Q _ I q) (fun _ _ z=>z) fun v s' z=>?_
 obtain⟨H1,s1,_,x,C,c,B,H',_,_,f⟩:=z
 exact f.elim
end L2
set_option maxRecDepth 100000
set_option maxHeartbeats 2000000
namespace L2
open PySem PySem.Spec PyProof.Rows
section
variable {κ:Type} [DecidableEq κ]
noncomputable def valV (kvs:List (κ×V))(k:κ):Option V:=(kvs.find? fun kv=>decide (kv.1=k)).map (·.2)
noncomputable def putK (kvs:List (κ×V))(k:κ)(v:V):List (κ×V) :=
 if (kvs.any fun kv=>decide (kv.1=k))=true then kvs.map (fun kv=>if kv.1=k then (kv.1,v)else kv)else kvs++[(k,v)]
theorem valV_pos {p:κ×V}{r:List (κ×V)}{k:κ}(e:p.1=k):valV (p::r) k=some p.2:=by simp[valV,List.find?_cons,e]
theorem valV_neg {p:κ×V}{r:List (κ×V)}{k:κ}(e:¬p.1=k):valV (p::r) k=valV r k:=by simp[valV,List.find?_cons,e]
theorem valV_any (k:κ):∀kvs:List (κ×V),(kvs.any fun kv=>decide (kv.1=k))=(valV kvs k).isSome
 | []=>rfl
 | p::r=>by
  rw[List.any_cons]
  by_cases e:p.1=k
  ·simp only[valV_pos e,decide_eq_true e,Bool.true_or,Option.isSome_some]
  ·rw[valV_neg e,decide_eq_false e,Bool.false_or];exact valV_any k r
theorem valV_map (k j:κ)(y:V):∀kvs:List (κ×V),valV (kvs.map fun kv=>if kv.1=k then (kv.1,y)else kv) j=(valV kvs j).map fun x=>if j=k then y else x
 | []=>rfl
 | p::r=>by
  have ih:=valV_map k j y r
  rw[List.map_cons]
  by_cases h:p.1=k
  ·rw[if_pos h]
   by_cases e:p.1=j
   ·rw[valV_pos (p:=(p.1,y)) e,valV_pos e,Option.map_some,if_pos (e.symm.trans h)]
   ·rw[valV_neg (p:=(p.1,y)) e,valV_neg e,ih]
  ·rw[if_neg h]
   by_cases e:p.1=j
   ·rw[valV_pos (p:=p) e,valV_pos e,Option.map_some,if_neg (fun z=>h (e.trans z))]
   ·rw[valV_neg (p:=p) e,valV_neg e,ih]
theorem valV_snoc (k j:κ)(y:V):∀kvs:List (κ×V),valV kvs k=none→valV (kvs++[(k,y)]) j=if j=k then some y else valV kvs j
 | [],_=>by
  by_cases e:k=j
  ·rw[if_pos e.symm];exact valV_pos (p:=(k,y)) e
  ·rw[if_neg (fun z=>e z.symm)];exact valV_neg (p:=(k,y)) e
 | p::r,hn=>by
  rw[List.cons_append]
  have hk:¬p.1=k:=fun z=>by rw[valV_pos z]at hn;cases hn
  rw[valV_neg hk]at hn
  have ih:=valV_snoc k j y r hn
  by_cases e:p.1=j
  ·rw[valV_pos e,valV_pos e,if_neg (fun z=>hk (e.trans z))]
  ·rw[valV_neg e,valV_neg e,ih]
theorem valV_put (kvs:List (κ×V))(k j:κ)(y:V):valV (putK kvs k y) j=if j=k then some y else valV kvs j:=by
 unfold putK
 by_cases a:(kvs.any fun kv=>decide (kv.1=k))=true
 ·rw[if_pos a,valV_map]
  rw[valV_any]at a
  by_cases e:j=k
  ·obtain⟨x,hx⟩:=Option.isSome_iff_exists.mp a
   rw[if_pos e,e,hx,Option.map_some,if_pos rfl]
  ·rw[if_neg e]
   cases valV kvs j with
   | none=>rfl
   | some x=>rw[Option.map_some,if_neg e]
 ·rw[if_neg a]
  refine valV_snoc k j y kvs ?_
  rw[valV_any]at a
  cases q:valV kvs k with
  | none=>rfl
  | some x=>rw[q]at a;exact(a rfl).elim
theorem length_putK (kvs:List (κ×V))(k:κ)(v:V):(putK kvs k v).length≤kvs.length+1:=by
 unfold putK
 split
 ·rw[List.length_map];omega
 ·rw[List.length_append,List.length_cons,List.length_nil];omega
theorem RelO.isSome_eq {o:Option V}{u:Option Value}(r:RelO o u):o.isSome=u.isSome:=by
 cases o with
 | none=>cases u with
  | none=>rfl
  | some _=>exact(show False from r).elim
 | some _=>cases u with
  | none=>exact(show False from r).elim
  | some _=>rfl
theorem RelO.getD {o:Option V}{u:Option Value}{d:V}{d':Value}(r:RelO o u)(rd:RelV d d'):RelV (o.getD d) (u.getD d'):=by
 cases o with
 | none=>cases u with
  | none=>exact rd
  | some _=>exact(show False from r).elim
 | some _=>cases u with
  | none=>exact(show False from r).elim
  | some _=>exact r
theorem KV.val {kvs:List (κ×V)}{vs:List (κ×Value)}(r:KV kvs vs)(k:κ):RelO (valV kvs k) (valueAt vs k):=by
 unfold KV at r
 induction r with
 | nil=>exact True.intro
 | @cons p q ps qs h t ih =>
  obtain⟨h1,h2⟩:=h
  by_cases e:p.1=k
  ·have e':q.1=k:=h1.symm.trans e
   have b:valueAt (q::qs) k=some q.2:=by simp[valueAt,List.find?_cons,e']
   rw[valV_pos e,b];exact h2
  ·have e':¬q.1=k:=fun z=>e (h1.trans z)
   have b:valueAt (q::qs) k=valueAt qs k:=by simp[valueAt,List.find?_cons,e']
   rw[valV_neg e,b];exact ih
theorem KV.any {kvs:List (κ×V)}{vs:List (κ×Value)}(r:KV kvs vs)(k:κ):(kvs.any fun kv=>decide (kv.1=k))=vs.any fun kv=>decide (kv.1=k):=by
 unfold KV at r
 induction r with
 | nil=>rfl
 | cons h t ih=>rw[List.any_cons,List.any_cons,ih,h.1]
theorem KV.repl {kvs:List (κ×V)}{vs:List (κ×Value)}(r:KV kvs vs)(k:κ){y:V}{u:Value}(ry:RelV y u) :
  KV (kvs.map fun kv=>if kv.1=k then (kv.1,y)else kv) (vs.map fun kv=>if kv.1=k then (kv.1,u)else kv):=by
 unfold KV at r ⊢
 induction r with
 | nil=>exact .nil
 | @cons p q ps qs h t ih =>
  rw[List.map_cons,List.map_cons]
  refine .cons ?_ ih
  obtain⟨h1,h2⟩:=h
  by_cases e:p.1=k
  ·rw[if_pos e,if_pos (h1.symm.trans e)];exact⟨h1,ry⟩
  ·rw[if_neg e,if_neg (fun z=>e (h1.trans z))];exact⟨h1,h2⟩
theorem KV.put {kvs:List (κ×V)}{vs:List (κ×Value)}(r:KV kvs vs)(k:κ){y:V}{u:Value}(ry:RelV y u):KV (putK kvs k y) (stored vs k u):=by
 unfold putK stored
 rw[r.any k]
 by_cases e:(vs.any fun kv=>decide (kv.1=k))=true
 ·rw[if_pos e,if_pos e];exact r.repl k ry
 ·rw[if_neg e,if_neg e];exact Paired.snoc r ⟨rfl,ry⟩
theorem KV.keys {kvs:List (κ×V)}{vs:List (κ×Value)}(r:KV kvs vs):kvs.map (·.1)=vs.map (·.1):=by
 unfold KV at r
 induction r with
 | nil=>rfl
 | cons h t ih=>rw[List.map_cons,List.map_cons,ih,h.1]
theorem KV.length {kvs:List (κ×V)}{vs:List (κ×Value)}(r:KV kvs vs):kvs.length=vs.length:=Paired.length r
end
theorem kV_is {P:Program}{w:World}{k:Key}{u:Value}(r:RelV (kV k) u):(mixKind P w).is k u=true:=by
 cases k with
 | inl i=>obtain⟨t,e⟩:=(show ∃t,u=Value.int i t from r);subst e;exact mixKind_int P w i t
 | inr x=>obtain⟨t,e⟩:=(show ∃t,u=Value.str x t from r);subst e;exact mixKind_str P w x t
theorem items_are {P:Program}{w:World}:∀{ks:List Key}{us:List Value},Vals (ks.map kV) us→ItemsAre (mixKind P w) ks us
 | [],_,r=>by rw[List.map_nil]at r;cases r;exact .nil
 | k::ks,_,r=>by
  rw[List.map_cons]at r
  cases r with
  | cons h t=>exact .cons (kV_is h) (items_are t)
abbrev KT (H:Hp):List (List Key×V)→List (List Key×Addr×Value)→Prop:=Paired fun p q=>p.1=q.1∧H q.2.1=some (.tup (p.1.map kV))∧RelV p.2 q.2.2
theorem KT.val {H:Hp}{kvs:List (List Key×V)}{xs:List (List Key×Addr×Value)}(r:KT H kvs xs)(k:List Key):RelO (valV kvs k) ((atKey xs k).map (·.2)):=by
 induction r with
 | nil=>exact True.intro
 | @cons p q ps qs h t ih =>
  obtain⟨h1,_,h2⟩:=h
  by_cases e:p.1=k
  ·have e':q.1=k:=h1.symm.trans e
   have b:atKey (q::qs) k=some q.2:=by simp[atKey,List.find?_cons,e']
   rw[valV_pos e,b];exact h2
  ·have e':¬q.1=k:=fun z=>e (h1.trans z)
   have b:atKey (q::qs) k=atKey qs k:=by simp[atKey,List.find?_cons,e']
   rw[valV_neg e,b];exact ih
theorem KT.repl {H:Hp}{kvs:List (List Key×V)}{xs:List (List Key×Addr×Value)}(r:KT H kvs xs)(k:List Key){y:V}{u:Value}(ry:RelV y u) :
  KT H (kvs.map fun kv=>if kv.1=k then (kv.1,y)else kv) (xs.map (putAt k u)):=by
 induction r with
 | nil=>exact .nil
 | @cons p q ps qs h t ih =>
  rw[List.map_cons,List.map_cons]
  refine .cons ?_ ih
  obtain⟨h1,h2,h3⟩:=h
  unfold putAt
  by_cases e:p.1=k
  ·rw[if_pos e,if_pos (h1.symm.trans e)];exact⟨h1,h2,ry⟩
  ·rw[if_neg e,if_neg (fun z=>e (h1.trans z))];exact⟨h1,h2,h3⟩
theorem KT.put {H:Hp}{kvs:List (List Key×V)}{xs:List (List Key×Addr×Value)}(r:KT H kvs xs)(k:List Key){b:Addr}{y:V}{u:Value}(hb:H b=some (.tup (k.map kV)))(ry:RelV y u) :
  KT H (putK kvs k y) (storedH xs k b u):=by
 have e:(kvs.any fun kv=>decide (kv.1=k))=(atKey xs k).isSome:=by
  rw[valV_any,(r.val k).isSome_eq,Option.isSome_map]
 unfold putK storedH
 rw[e]
 by_cases q:(atKey xs k).isSome=true
 ·rw[if_pos q,if_pos q];exact r.repl k ry
 ·rw[if_neg q,if_neg q];exact Paired.snoc r ⟨rfl,hb,ry⟩
theorem KT.keeps {H H':Hp}{kvs:List (List Key×V)}{xs:List (List Key×Addr×Value)}(r:KT H kvs xs)(ht:∀b ys,H b=some (.tup ys)→H' b=some (.tup ys)):KT H' kvs xs :=
 Paired.mapP r fun _ _ z=>⟨z.1,ht _ _ z.2.1,z.2.2⟩
section
variable {P:Program}{w:World}{H:Hp}{h:Heap}{a:Addr}
theorem rd_of {u:HO}(ok:HOk P w H h)(e:Rd H a u):ObjOk P w H h a u:=e.ok ok
theorem dk_rd {kvs:List (Key×V)}(ok:HOk P w H h)(e:Rd H a (.dK kvs)):kvs.length≤sizeLine∧(a==sysModules)=false∧∃vs,KV kvs vs∧h.DictOf (mixKind P w) a vs :=
 show ObjOk P w H h a (.dK kvs)from rd_of ok e
theorem dk_of {kvs:List (Key×V)}(ok:HOk P w H h)(e:H a=some (.dK kvs)):kvs.length≤sizeLine∧(a==sysModules)=false∧∃vs,KV kvs vs∧h.DictOf (mixKind P w) a vs:=dk_rd ok (.inl e)
theorem key_of {ks:List Key}(ok:HOk P w H h)(e:H a=some (.tup (ks.map kV))):(tupleKind (mixKind P w)).is h ks a:=by
 obtain⟨_,its,r,⟨o,h1,h2,n,h3⟩,_⟩:=(show ObjOk P w H h a (.tup (ks.map kV))from ok a _ e)
 exact⟨o,its.toArray,n,h1,h2,h3,by simpa using items_are r⟩
theorem dt_rd {kvs:List (List Key×V)}(ok:HOk P w H h)(e:Rd H a (.dT kvs)):kvs.length≤sizeLine∧(a==sysModules)=false ∧
  ∃xs,KT H kvs xs∧h.DictOfH (tupleKind (mixKind P w)) a xs:=by
 obtain⟨z,y,xs,r,o,es,ep,h1,h2,h3,h4,h5⟩:=(show ObjOk P w H h a (.dT kvs)from rd_of ok e)
 refine⟨z,y,xs,r,o,es,ep,h1,h2,h3,h4,fun x hx=>?_,h5⟩
 have all:∀{l:List (List Key×V)}{m:List (List Key×Addr×Value)},KT H l m→∀x∈m,(tupleKind (mixKind P w)).is h x.1 x.2.1:=by
  intro l m q
  induction q with
  | nil=>intro x hx;exact nomatch hx
  | @cons p q ps qs hq t ih =>
   intro x hx
   rcases List.mem_cons.mp hx with e|hx
   ·subst e
    exact key_of ok (by rw[←hq.1];exact hq.2.1)
   ·exact ih x hx
 exact all r x hx
theorem dt_of {kvs:List (List Key×V)}(ok:HOk P w H h)(e:H a=some (.dT kvs)):kvs.length≤sizeLine∧(a==sysModules)=false ∧
  ∃xs,KT H kvs xs∧h.DictOfH (tupleKind (mixKind P w)) a xs:=dt_rd ok (.inl e)
end
def DGet (H:Hp)(a:Addr)(y:V)(r:Option V):Prop :=
 (∃kvs k,Rd H a (.dK kvs)∧y=kV k∧r=valV kvs k)∨∃kvs k b,Rd H a (.dT kvs)∧y=.ref b∧H b=some (.tup (k.map kV))∧r=valV kvs k
def DPut (H:Hp)(a:Addr)(y v:V)(H':Hp):Prop :=
 (∃kvs k,H a=some (.dK kvs)∧y=kV k∧kvs.length<sizeLine∧H'=upd H a (.dK (putK kvs k v))) ∨
 ∃kvs k b,H a=some (.dT kvs)∧y=.ref b∧H b=some (.tup (k.map kV))∧kvs.length<sizeLine∧H'=upd H a (.dT (putK kvs k v))
theorem DGet.k {H:Hp}{a:Addr}{kvs:List (Key×V)}{k:Key}(e:H a=some (.dK kvs)):DGet H a (kV k) (valV kvs k):=.inl ⟨kvs,k,.inl e,rfl,rfl⟩
theorem DGet.t {H:Hp}{a b:Addr}{kvs:List (List Key×V)}{k:List Key}(e:H a=some (.dT kvs))(eb:H b=some (.tup (k.map kV))):DGet H a (.ref b) (valV kvs k):=.inr ⟨kvs,k,b,.inl e,rfl,eb,rfl⟩
theorem DPut.k {H:Hp}{a:Addr}{kvs:List (Key×V)}{k:Key}{v:V}(e:H a=some (.dK kvs))(hl:kvs.length<sizeLine):DPut H a (kV k) v (upd H a (.dK (putK kvs k v))):=.inl ⟨kvs,k,e,rfl,hl,rfl⟩
theorem DPut.t {H:Hp}{a b:Addr}{kvs:List (List Key×V)}{k:List Key}{v:V}(e:H a=some (.dT kvs))(eb:H b=some (.tup (k.map kV)))(hl:kvs.length<sizeLine) :
  DPut H a (.ref b) v (upd H a (.dT (putK kvs k v))):=.inr ⟨kvs,k,b,e,rfl,eb,hl,rfl⟩
section
variable {X:Cx}{pins:List (Addr×Obj)}{σ:St}{H:Hp}{s:Shared}{a:Addr}{y v:V}{u r:Value}{o:Option V}{A:Around}{E:Value→Shared→Prop}
theorem Inv.big (I:Inv X pins σ H s):sysModules<s.heap.objs.size:=by
 have h:mainGlobals<s.heap.objs.size:=(I.mod.glob.keeps I.bk).lt
 exact Nat.lt_trans (by decide) h
theorem d_getItem {Q:Value→Shared→Prop}(hu:A.units+1<cLine)(I:Inv X pins σ H s)(g:DGet H a y (some v))(ry:RelV y u)(h:∀w' s',Inv X pins σ H s'→RelV v w'→Q w' s') :
  wpAny (model X.prog X.w) A (getItem (.ref a) u) Q E s:=by
 rcases g with ⟨kvs,k,e,ey,l⟩|⟨kvs,k,b,e,ey,eb,l⟩
 ·subst ey
  obtain⟨z,hd,vs,rel,dd⟩:=dk_rd I.hok e
  obtain⟨w',hw,rw'⟩:=RelO.some_of (v:=v) (o:=valueAt vs k) (by rw[l];exact rel.val k)
  exact wpAny_getItem_of (kV_is ry) dd.mapOf hw (h w' _ (I.tok _) rw')
 ·subst ey
  cases (show u=Value.ref b from ry)
  obtain⟨z,hd,xs,rel,dd⟩:=dt_rd I.hok e
  obtain⟨w',hw,rw'⟩:=RelO.some_of (v:=v) (o:=(atKey xs k).map (·.2)) (by rw[l];exact rel.val k)
  obtain⟨p,hp,hp2⟩:=Option.map_eq_some_iff.mp hw
  refine wpAny_getItem_heap (tupleKind_room_in1 hu) (key_of I.hok eb) dd hp ?_
  rw[hp2]
  exact h w' _ (I.tok _) rw'
theorem d_write {h':Heap}{t':Nat}{ob:HO}(I:Inv X pins σ H s)(mu:Mut (H a))(hs:Heap.SameBut a s.heap h')(he:∃q,h'.get? a=some q)(new:ObjOk X.prog X.w (upd H a ob) h' a ob) :
  Inv X pins σ (upd H a ob) { s with heap:=h',toks:=t' } :=
 I.write (x:=a) (e:=a) mu (.inl rfl) (fun b q hb z=>(hs.2 b hb).trans z) he new
theorem dk_new {P:Program}{w:World}{H':Hp}{h':Heap}{kvs:List (Key×V)}{vs:List (Key×Value)}(z:kvs.length≤sizeLine)(hd:(a==sysModules)=false)(rel:KV kvs vs)(dd:h'.DictOf (mixKind P w) a vs) :
  ObjOk P w H' h' a (.dK kvs):=⟨z,hd,vs,rel,dd⟩
theorem d_setItem {H':Hp}{Q:Unit→Shared→Prop}(hu:A.units+1<cLine)(I:Inv X pins σ H s)(g:DPut H a y v H')(ry:RelV y u)(rv:RelV v r)(h:∀s',Inv X pins σ H' s'→Q () s') :
  wpAny (model X.prog X.w) A (setItem (.ref a) u r) Q E s:=by
 rcases g with ⟨kvs,k,e,ey,l,eH⟩|⟨kvs,k,b,e,ey,eb,l,eH⟩
 ·subst ey eH
  obtain⟨z,hd,vs,rel,dd⟩:=dk_of I.hok e
  have hz:vs.length≤sizeLine:=by rw[←rel.length];exact z
  have hl:(putK kvs k v).length≤sizeLine:=by have:=length_putK kvs k v;omega
  refine wpAny_setItem_pairs (hsz:=hz) (kV_is ry) dd fun h' dd' hs=>h _ ?_
  have he:∃q,h'.get? a=some q:=let ⟨q,_,_,hq,_⟩:=dd';⟨q,hq⟩
  exact d_write I (by rw[e];exact True.intro) hs he (dk_new hl hd (rel.put k rv) dd')
 ·subst ey eH
  cases (show u=Value.ref b from ry)
  obtain⟨z,hd,xs,rel,dd⟩:=dt_of I.hok e
  have hz:xs.length≤sizeLine:=by rw[←Paired.length rel];exact z
  have hl:(putK kvs k v).length≤sizeLine:=by have:=length_putK kvs k v;omega
  refine wpAny_setItem_heap (hsz:=hz) (tupleKind_room_in1 hu) (key_of I.hok eb) dd fun h' dd' hs=>h _ ?_
  obtain⟨q,es,ep,hq,h2,h3,h4,_,h5⟩:=dd'
  refine d_write I (by rw[e];exact True.intro) hs ⟨q,hq⟩ ⟨hl,hd,_,(rel.put k eb rv).keeps fun c ys ec=>?_,q,es,ep,hq,h2,h3,h4,h5⟩
  rw[upd_ne (ne_of ec e (fun z=>nomatch z))]
  exact ec
end
section
variable {X:Cx}{pins:List (Addr×Obj)}{σ:St}{H:Hp}{s:Shared}{a:Addr}{kvs:List (Key×V)}{k:Key}{u:Value}{A:Around}{E:Value→Shared→Prop}
end
def NoSl (i:Expr):Prop:=∀ov iv,subscripted i false ov iv=operate [ov,iv] (getItem ov iv)
theorem subD_of {prog:Program}{w:World}{A:Around}{E:Value→Shared→Prop}{s:Shared}{env:Env}{value slice:Expr}{pos:Pos}{T id:String}{Q:Value→Shared→Prop}
  (hl:typeLookup (.type T) "__getitem__"=pure (some (.builtin id)))(hs:NoSl slice)
  (h:wpAny (model prog w) A (eval value env) (fun o s₁=>wpAny (model prog w) A (eval slice env) (fun i s₂=>s₂.TypeIs o T∧wpAny (model prog w) A (getItem o i) Q E s₂) E s₁) E s) :
  wpAny (model prog w) A (eval (.Subscript value slice pos) env) Q E s:=by
 refine Subscript_ (wpAny_mono h (fun o s₁ h₁=>wpAny_mono h₁ (fun i s₂ h₂=>?_) fun _ _ x=>x) fun _ _ x=>x)
 obtain⟨hT,h₂⟩:=h₂
 unfold subscriptTail
 refine wpAny_bind ?_
 rw[getitemInPython_of_ne hT.not_modules]
 refine wpAny_bind (wpAny_specialOf hT hl ?_)
 have fin:wpAny (model prog w) A (subscripted slice false o i) (fun r s₃=>wpAny (model prog w) A (letTemporaryGo value o r >>= fun _=>pure r) Q E s₃) E s₂:=by
  rw[hs o i]
  exact wpAny_operating (wpAny_mono h₂ (fun r s₃ h₃=>wpAny_bind (wpAny_letTemporaryGo (wpAny_pure h₃))) fun _ _ x=>x)
 first
  | exact wpAny_pure (wpAny_bind fin)
  | exact wpAny_bind (wpAny_pure (wpAny_bind fin))
  | exact wpAny_bind fin
theorem dict_typeIs {X:Cx}{pins:List (Addr×Obj)}{σ:St}{H:Hp}{s:Shared}{a:Addr}{y:V}{o:Option V}(I:Inv X pins σ H s)(g:DGet H a y o):s.TypeIs (.ref a) "dict":=by
 rcases g with ⟨kvs,k,e,_,_⟩|⟨kvs,k,b,e,_,_,_⟩
 ·obtain⟨_,_,vs,_,dd⟩:=dk_rd I.hok e
  exact dd.typeIs
 ·obtain⟨_,_,xs,_,dd⟩:=dt_rd I.hok e
  exact dd.typeIs
def tDGet (td ty:TE):TE:=fun σ H Q=>td σ H fun x H1=>ty σ H1 fun y H2=>∃a v,x=.ref a∧DGet H2 a y (some v)∧Q v H2
def sDPut (td ty tv:TE):TS:=fun D σ H=>tv σ H fun v H1=>td σ H1 fun x H2=>ty σ H2 fun y H3=>∃a H4,x=.ref a∧DPut H3 a y v H4∧D.nx σ H4
section
variable {X:Cx}{o i e value:Expr}{pos pos' tpos:Pos}{td ty tv:TE}
theorem pe_dget (hu:X.A.units+1<cLine)(ho:PE X o td)(hi:PE X i ty)(hs:NoSl i):PE X (.Subscript o i pos) (tDGet td ty):=by
 intro pins s σ H Q I h
 refine subD_of PySem.F.slot_dict_getitem.lookup hs (thn (ho pins s σ H _ I h) fun u s1 ⟨x,H1,I1,rx,q1⟩=>thn (hi pins s1 σ H1 _ I1 q1) fun iv s2 ⟨y,H2,I2,ry,a,v,ex,g,q2⟩=>?_)
 subst ex
 obtain rfl:u=Value.ref a:=rx
 exact⟨dict_typeIs I2 g,d_getItem hu I2 g ry fun w' s3 I3 rw'=>⟨v,H2,I3,rw',q2⟩⟩
theorem ps_dput (hu:X.A.units+1<cLine)(ho:PE X o td)(hi:PE X i ty)(hv:PE X value tv)(hs:swapsWith value (some (.Subscript o i pos')) pos.line X.env=pure false) :
  PS X (.Assign [.Subscript o i pos'] value pos) (sDPut td ty tv):=by
 intro pins s σ H D I h
 refine wpAny_Assign_Subscript (thn (hv pins s σ H _ I h) fun r s1 ⟨v,H1,I1,rv,q1⟩=>thn (ho pins s1 σ H1 _ I1 q1) fun u s2 ⟨x,H2,I2,rx,q2⟩=>thn (hi pins s2 σ H2 _ I2 q2) fun iv s3 ⟨y,H3,I3,ry,a,H4,ex,g,q3⟩=>?_) hs
 subst ex
 obtain rfl:u=Value.ref a:=rx
 exact d_setItem hu I3 g ry rv fun s4 I4=>⟨σ,H4,I4,q3⟩
end
theorem dk_empty {P:Program}{w:World}{H:Hp}(h:Heap)(hb:sysModules<h.objs.size):ObjOk P w H (h.push { cls:=.type "dict",data:=.dict #[] }) h.objs.size (.dK []) :=
 ⟨Nat.zero_le _,beq_eq_false_iff_ne.mpr (Ne.symm (Nat.ne_of_lt hb)),[],.nil,Heap.DictOf.new h⟩
def tDNewK:TE:=fun _ H Q=>∀p,H p=none→Q (.ref p) (upd H p (.dK []))
section
variable {X:Cx}{pos:Pos}
theorem pe_dnewK:PE X (.Dict [] [] pos) tDNewK:=fun pins s σ H Q I h =>
 wpAny_Dict_empty ⟨.ref s.heap.objs.size,_,I.laid (a:=s.heap.objs.size) (o:=.dK []) (t':=s.toks) (fun _ _ q=>Heap.get?_push_of_some _ q) (Nat.le_refl _) (dk_empty s.heap I.big),rfl,h _ (I.hok.fresh (Nat.le_refl _))⟩
end
structure M1 (X:Cx)(o:Expr)(m:Str)(apos:Pos)(e:Expr)(cpos:Pos):Prop where
 base:attributeBase o m X.env (eval o X.env)=eval o X.env
 few:((backTo cpos (starEach [e] X.env)).all (fun x=>!x.1)&&(backToKw cpos (keywordEach [] X.env)).all (fun x=>x.1.isSome)
  && decide (([e]:List Expr).length+([]:List Keyword).length+(if ([]:List Keyword).isEmpty then 0 else 1)<30))=true
 line:(apos.endLine==cpos.line)=true
 trees:backTo cpos (starEach [e] X.env)=[(false,eval e X.env)]
structure M2 (X:Cx)(o:Expr)(m:Str)(apos:Pos)(e f:Expr)(cpos:Pos):Prop where
 base:attributeBase o m X.env (eval o X.env)=eval o X.env
 few:((backTo cpos (starEach [e,f] X.env)).all (fun x=>!x.1)&&(backToKw cpos (keywordEach [] X.env)).all (fun x=>x.1.isSome)
  && decide (([e,f]:List Expr).length+([]:List Keyword).length+(if ([]:List Keyword).isEmpty then 0 else 1)<30))=true
 line:(apos.endLine==cpos.line)=true
 trees:backTo cpos (starEach [e,f] X.env)=[(false,eval e X.env),(false,eval f X.env)]
def IsD (H:Hp)(a:Addr):Prop:=(∃kvs,Rd H a (.dK kvs))∨∃kvs,Rd H a (.dT kvs)
theorem isD_at {X:Cx}{pins:List (Addr×Obj)}{σ:St}{H:Hp}{s:Shared}{a:Addr}(I:Inv X pins σ H s)(d:IsD H a) :
  s.TypeIs (.ref a) "dict"∧(∀b,Value.ref a=.ref b→∃ob,s.heap.get? b=some ob∧ob.dict=none)∧(a==sysModules)=false:=by
 rcases d with ⟨kvs,e⟩|⟨kvs,e⟩
 ·obtain⟨_,hd,vs,_,dd⟩:=dk_rd I.hok e
  refine⟨dd.typeIs,fun b q=>?_,hd⟩
  cases q
  obtain⟨ob,_,_,h1,h2,_⟩:=dd
  exact⟨ob,h1,h2.2.1⟩
 ·obtain⟨_,hd,xs,_,dd⟩:=dt_rd I.hok e
  refine⟨dd.typeIs,fun b q=>?_,hd⟩
  cases q
  obtain⟨ob,_,_,h1,h2,_⟩:=dd
  exact⟨ob,h1,h2.2.1⟩
section
variable {X:Cx}{pins:List (Addr×Obj)}{σ:St}{H:Hp}{s:Shared}{a:Addr}{y d:V}{u r:Value}{o:Option V}{A:Around}{E:Value→Shared→Prop}
theorem d_get2 {Q:Value→Shared→Prop}(hu:A.units+1<cLine)(I:Inv X pins σ H s)(g:DGet H a y o)(ry:RelV y u)(rd:RelV d r)(h:∀w' s',Inv X pins σ H s'→RelV (o.getD d) w'→Q w' s') :
  wpAny (model X.prog X.w) A (call (.builtin "dict.get") [.ref a,u,r]) Q E s:=by
 rcases g with ⟨kvs,k,e,ey,l⟩|⟨kvs,k,b,e,ey,eb,l⟩
 ·subst ey
  obtain⟨z,hd,vs,rel,dd⟩:=dk_rd I.hok e
  refine call_meetsIn PySem.F.slot_dict_get dd.typeIs PySem.F.entry_dict_get (PySem.F.args_dict_get_3 _ _ _) (meets_dict_get_default (mixKind X.prog X.w) a (kV_is ry) hd r) ⟨_,dd.mapOf,h _ _ (I.tok _) ?_⟩
  rw[l]
  exact(rel.val k).getD rd
 ·subst ey
  cases (show u=Value.ref b from ry)
  obtain⟨z,hd,xs,rel,dd⟩:=dt_rd I.hok e
  refine call_meetsIn PySem.F.slot_dict_get dd.typeIs PySem.F.entry_dict_get (PySem.F.args_dict_get_3 _ _ _) (meetsH_dict_get_default (tupleKind (mixKind X.prog X.w)) a b hd r) ⟨tupleKind_room_in1 hu,k,xs,key_of I.hok eb,dd,h _ _ (I.tok _) ?_⟩
  rw[l]
  exact(rel.val k).getD rd
end
def tDGet2 (td ty tx:TE):TE:=fun σ H Q=>td σ H fun x H1=>∃a,x=.ref a∧IsD H1 a∧ty σ H1 fun y H2=>tx σ H2 fun z H3=>∃o,DGet H3 a y o∧Q (o.getD z) H3
section
variable {X:Cx}{o e f:Expr}{apos cpos:Pos}{td ty tx:TE}
theorem pe_dget2 (hu:X.A.units+1<cLine)(ho:PE X o td)(he:PE X e ty)(hf:PE X f tx)(m:M2 X o "get" apos e f cpos):PE X (.Call (.Attribute o "get" apos) [e,f] [] cpos) (tDGet2 td ty tx):=by
 intro pins s σ H Q I h
 refine wpAny_Call_method m.base m.few m.line PySem.F.plainAttrs_dict PySem.F.slot_dict_get PySem.F.type_dict_get (thn (ho pins s σ H _ I h) fun u s1 ⟨x,H1,I1,rx,a,ex,d,q1⟩=>?_)
 subst ex
 obtain rfl:u=Value.ref a:=rx
 obtain⟨t1,t2,_⟩:=isD_at I1 d
 refine⟨t1,t2,?_⟩
 rw[m.trees]
 refine Calls.callWith_builtin rfl (Calls.evalArgs_plain (Calls.spliced_cons (thn (he pins s1 σ H1 _ I1 q1) fun iv s2 ⟨y,H2,I2,ry,q2⟩ =>
  Calls.spliced_cons (thn (hf pins s2 σ H2 _ I2 q2) fun fv s3 ⟨z,H3,I3,rz,ov,g,q3⟩=>Calls.spliced_nil ?_))))
 exact d_get2 hu I3 g ry rz fun w' s4 I4 rw'=>⟨_,H3,I4,rw',q3⟩
end
section
variable {X:Cx}{pins:List (Addr×Obj)}{σ:St}{H:Hp}{s:Shared}{a:Addr}{kvs:List (Key×V)}{A:Around}{E:Value→Shared→Prop}
end
section
variable {X:Cx}{pins:List (Addr×Obj)}{σ:St}{H:Hp}{s:Shared}{a:Addr}{y:V}{u:Value}{A:Around}{E:Value→Shared→Prop}
end
end L2
namespace L2
open PySem PySem.Spec PyProof.Rows
section
variable {X:Cx}
end
section
variable {κ:Type} [DecidableEq κ]
end
end L2
namespace L2
open PySem PySem.Spec PyProof.Rows
theorem noFill_tuple_mul:fillsNumberSlot (.type "tuple") "mul"=pure false :=
 PySem.fillsNumberSlot_seq (id:="tuple.__mul__") (r:=some (.builtin "tuple.__rmul__")) PySem.F.slot_tuple_mul.lookup (by decide +kernel) PySem.F.slot_tuple_rmul.lookup (by decide +kernel)
theorem repeat_tuple:seqRepeat? (.type "tuple")=pure (some (.builtin "tuple.__mul__")):=by
 unfold seqRepeat?
 rw[PySem.seqSlot_of (T:="tuple") (name:="__mul__") (id:="tuple.__mul__") PySem.F.slot_tuple_mul.lookup (by decide +kernel),PySem.seqSlot_of (T:="tuple") (name:="__rmul__") (id:="tuple.__rmul__") PySem.F.slot_tuple_rmul.lookup (by decide +kernel)]
 all_goals rfl
theorem rmul_int_tuple (a:Int)(t:Tok)(l:Addr)(items:Array Value)(n:Nat)(dd:Option Addr)(sl:Array (Option Value)) :
  Meets (Builtin.«int.__rmul__» ⟨[.int a t,.ref l],[]⟩) (fun _ R s=>s.heap.get? l=some { cls:=.type "tuple",dict:=dd,data:=.seq items n,slots:=sl }∧R (.ok (.ret Value.notImplemented)) s) :=
 .of_wp fun prog w A R s h=>by
  obtain⟨hp,g,d,tk,os⟩:=s
  obtain⟨hl,h⟩:=h
  wp_walk
  exact⟨_,rfl,h⟩
section
variable {X:Cx}
end
end L2
namespace L2
open PySem
theorem se_List {es:List Expr}{env:Env}{elts:List Expr}{pos:Pos}:starEach (.List elts pos::es) env=(false,eval (.List elts pos) env)::starEach es env:=rfl
theorem se_Name {es:List Expr}{env:Env}{id:Str}{pos:Pos}:starEach (.Name id pos::es) env=(false,eval (.Name id pos) env)::starEach es env:=rfl
end L2
namespace L3
open PySem
open Sem (wp)
abbrev IsZipF (h:Heap)(z TI TO:Addr)(f0:Value)(f:Bool):Prop :=
 h.get? z=some { cls:=.type "zip",dict:=none,data:=.fields #[f0,.bool f,.bool false,.ref TI,.ref TO],slots:=#[] }
structure ZipOut (z TI TO i1 i2 t1 t2:Addr)(xs ys:Array Value)(i:Nat)(a:Addr)(f:Bool)(h:Heap):Prop where
 hz:IsZipF h z TI TO (rawInt a) f
 hTI:IsPair h TI (.ref i1) (.ref i2)
 one:AtT i1 t1 xs i h
 two:AtT i2 t2 ys i h
 al:∃o,h.get? a=some o
 az:a≠z
 a1:a≠i1
 a2:a≠i2
 lt:TO<h.objs.size
section
variable {prog:Program}{w:World}{A:Around}{E:Value→Shared→Prop}{s:Shared}
end
end L3
namespace L3
open PySem
section
variable {prog:Program}{w:World}{A:Around}{E:Value→Shared→Prop}{s:Shared}
end
end L3
namespace L2
open PySem PySem.Spec PyProof.Rows
end L2
namespace L2
open PySem PySem.Spec PyProof.Rows
end L2
namespace L2
open PySem PySem.Spec PyProof.Rows
theorem rangeSize_two (a b:Int):Builtin.Range.rangeSize a b 2=if a<b then (b-a-1) / 2+1 else 0:=by
 unfold Builtin.Range.rangeSize
 rw[if_pos (by decide)]
theorem small_two {a b:Int}(ha : -(2 ^ 61)≤a)(ha':a<2 ^ 61)(hb : -(2 ^ 61)≤b)(hb':b<2 ^ 61):Builtin.Range.small a b 2=true:=by
 unfold Builtin.Range.small
 rw[rangeSize_two]
 simp only[Builtin.Range.rangeFitsLong,Bool.and_eq_true,Bool.or_eq_true,decide_eq_true_eq,beq_iff_eq,show((2:Int)>0)by decide,if_true]
 split<;>omega
def iRngTwo (ta:TA):TI:=fun σ H R=>ta σ H fun vs H1=>∃(lo hi:Int),vs=[.int lo,.int hi,.int 2]∧(-(2 ^ 61)≤lo∧lo<2 ^ 61∧-(2 ^ 61)≤hi∧hi<2 ^ 61)∧R (ItrS lo 2 ((hi-lo+1) / 2).toNat) H1
section
variable {X:Cx}{tg:Expr}
theorem pi_rangeTwo {a b c:Expr}{ta:TA}{p pos:Pos}(hg:Gl X "range")(hm:X.mg "range"=none)(ha:PA X [a,b,c] ta)(hs:starEach [a,b,c] X.env=[(false,eval a X.env),(false,eval b X.env),(false,eval c X.env)]:=by rfl)
  (hs2:starEach [b,c] X.env=[(false,eval b X.env),(false,eval c X.env)]:=by rfl):PI X tg (.Call (.Name "range" p) [a,b,c] [] pos) (iRngTwo ta):=by
 intro pins s σ H R I h
 refine Call_ (ld_blt I hg hm boot_range (PyProof.Rows.callWith_type1 (thn (ha pos pins s σ H _ I h) fun us s1 ⟨vs,H1,I1,r1,q1⟩=>?_) (by rw[hs,hs2]) (by rw[hs2];rfl)))
 obtain⟨lo,hi,e,⟨q1,q2,q3,q4⟩,q⟩:=q1
 subst e
 cases r1 with
 | cons r rr =>
  cases rr with
  | cons r' rr =>
   cases rr with
   | cons r'' rr =>
    cases rr
    obtain⟨t,rfl⟩:=r
    obtain⟨t',rfl⟩:=r'
    obtain⟨t'',rfl⟩:=r''
    refine call_range_3 (by decide) ?_ (Or.inl (PyProof.noPylong_small (by omega)))
    refine wpAny_pyIter_range (IsRange.new ..) (small_two q1 q2 q3 q4) ?_
    have I2:Inv X pins σ H1 { s1 with heap:=s1.heap.push { cls:=.type "range",data:=.fields #[.int lo t,.int hi t',.int 2 t''] },toks:=s1.toks }:=I1.kept fun b o e=>Heap.get?_push_of_some _ e
    refine⟨_,[(s1.heap.push { cls:=.type "range",data:=.fields #[.int lo t,.int hi t',.int 2 t''] }).objs.size],_,_,H1,rfl,I2.kept (t':=s1.toks) fun b o e=>Heap.get?_push_of_some _ e,turn_rangeS _ lo 2 ((hi-lo+1) / 2).toNat,?_,fun b hb=>?_,q⟩
    ·have e1:lo+((0:Nat):Int)*2=lo:=by simp
     have e2:((((hi-lo+1) / 2).toNat:Nat):Int)-((0:Nat):Int)=Builtin.Range.rangeSize lo hi 2:=by
      rw[rangeSize_two]
      split<;>omega
     show IsRangeIter _ _ (lo+((0:Nat):Int)*2) ((((hi-lo+1) / 2).toNat:Int)-((0:Nat):Int)) 2
     rw[e1,e2]
     exact Heap.get?_push_size _ rfl
    ·have e:b=(s1.heap.push { cls:=.type "range",data:=.fields #[.int lo t,.int hi t',.int 2 t''] }).objs.size:=by simpa using hb
     subst e
     exact I2.fpOk (Nat.le_refl _) (I2.hok.fresh (Nat.le_refl _))
theorem ints_all (ns ms:List Int):((List.range (min ns.length ms.length)).all (fun j=>ns.getD j 0==ms.getD j 0)&&ns.length==ms.length)=decide (ns=ms):=by
 rw[Bool.eq_iff_iff]
 simp only[Bool.and_eq_true,List.all_eq_true,List.mem_range,beq_iff_eq,decide_eq_true_eq]
 constructor
 ·rintro ⟨h,hl⟩
  refine List.ext_getElem hl fun i h1 h2=>?_
  have:=h i (by omega)
  rw[List.getD_eq_getElem?_getD,List.getD_eq_getElem?_getD,List.getElem?_eq_getElem h1,List.getElem?_eq_getElem h2]at this
  exact this
 ·rintro rfl
  exact⟨fun _ _=>rfl,rfl⟩
theorem int_at {ns:List Int}{its:List Value}(r:Vals (ns.map V.int) its){j:Nat}(h:j<its.length):∃t,its[j]=Value.int (ns.getD j 0) t:=by
 have hl:=r.length
 rw[List.length_map]at hl
 obtain⟨u,hu,ru⟩:=r.get (i:=j) (x:=.int (ns.getD j 0)) (by rw[List.getElem?_map,List.getElem?_eq_getElem (by omega),List.getD_eq_getElem?_getD,List.getElem?_eq_getElem (by omega)];rfl)
 obtain⟨t,rfl⟩:=ru
 rw[List.getElem?_eq_getElem h]at hu
 exact⟨t,Option.some.inj hu⟩
theorem op_neTI (hu:X.A.units<cLine):OpR X (compareOp .NotEq) (fun x y H Q=>∃(p p2:Addr)(ns ms:List Int),x=.ref p∧y=.ref p2∧SqT X.K H p (ns.map V.int)∧SqT X.K H p2 (ms.map V.int)∧Q (.bl (!decide (ns=ms))) H):=by
 intro pins s σ H x y v u Q I rx ry h
 obtain⟨p,p2,ns,ms,rfl,rfl,h1,h2,q⟩:=h
 cases rx
 cases ry
 obtain⟨its,r1,l1,_⟩:=I.tuple h1
 obtain⟨its2,r2,l2,_⟩:=I.tuple h2
 have e1:=r1.length
 have e2:=r2.length
 rw[List.length_map]at e1 e2
 refine SeqAt.RcNeAt.tuples (e:=fun j=>ns.getD j 0==ms.getD j 0) (show s.heap.IsTuple p its.toArray from l1) (show s.heap.IsTuple p2 its2.toArray from l2) hu (fun j g1 g2=>?_) X.prog X.w _ _ ?_
 ·rw[List.size_toArray]at g1 g2
  obtain⟨t,w1⟩:=int_at r1 g1
  obtain⟨t',w2⟩:=int_at r2 g2
  rw[List.getElem_toArray,List.getElem_toArray,w1,w2]
  exact SeqAt.EqAt.int_int _ _ _ _
 ·rw[List.size_toArray,List.size_toArray,←e1,←e2,ints_all]
  exact⟨.bl _,H,I,rfl,q⟩
end
end L2
namespace L2
open PySem PySem.Spec PyProof.Rows
abbrev tJoin (t:TS):TS:=fun D σ H=>∃J:St→Hp→Prop,(∀σ' H',J σ' H'→D.nx σ' H')∧t { D with nx:=J } σ H
theorem ps_joinN {X:Cx}{st:Stmt}{t:TS}(h:PS X st t):PS X st (tJoin t):=ps_join h
end L2
namespace L2
open PySem PySem.Spec PyProof.Rows
section
variable {X:Cx}
end
end L2
namespace L2
open PySem PySem.Spec PyProof.Rows
end L2
namespace L2
open PySem PySem.Spec PyProof.Rows
theorem tuple_mul_one (l:Addr)(items:Array Value)(n:Nat)(dd:Option Addr)(sl:Array (Option Value))(u:Tok) :
  Meets (Builtin.«tuple.__mul__» ⟨[.ref l,.int 1 u],[]⟩) (fun _ R s=>s.heap.get? l=some { cls:=.type "tuple",dict:=dd,data:=.seq items n,slots:=sl }∧R (.ok (.ret (.ref l))) s) :=
 .of_wp fun prog w A R s h=>by
  obtain⟨hp,g,d,tk,os⟩:=s
  obtain⟨hl,h⟩:=h
  unfold Builtin.«tuple.__mul__»
  wp_walk using AutoSeq1.wpAny_loadPart' hl
  exact⟨_,rfl,h⟩
theorem tuple_mul_none (l:Addr)(items:Array Value)(n:Nat)(dd:Option Addr)(sl:Array (Option Value))(u:Tok)(hne:items.isEmpty=false) :
  Meets (Builtin.«tuple.__mul__» ⟨[.ref l,.int 0 u],[]⟩) (fun _ R s=>s.heap.get? l=some { cls:=.type "tuple",dict:=dd,data:=.seq items n,slots:=sl }∧R (.ok (.ret (.ref s.heap.objs.size))) { s with heap:=s.heap.push { cls:=.type "tuple",data:=.seq #[] } }) :=
 .of_wp fun prog w A R s h=>by
  obtain⟨hp,g,d,tk,os⟩:=s
  obtain⟨hl,h⟩:=h
  unfold Builtin.«tuple.__mul__»
  wp_walk using AutoSeq1.wpAny_loadPart' hl
  exact⟨_,rfl,h⟩
def rRepT01 (K:PySem.W.Frag):R2:=fun x y H Q=>∃l k xs,x=.ref l∧y=.int k∧SqT K H l xs∧xs≠[]∧((k=1∧Q (.ref l) H)∨(k=0∧∀p,H p=none→Q (.ref p) (upd H p (.tup []))))
section
variable {X:Cx}
theorem op_repT01:OpR X (binaryOp .Mult) (rRepT01 X.K):=by
 intro pins s σ H x y v u Q I rx ry h
 obtain⟨l,k,xs,rfl,rfl,hq,hne,h⟩:=h
 cases rx
 obtain⟨t,rfl⟩:=ry
 obtain⟨its,r,pl,hzl⟩:=I.tuple hq
 have hl:=r.length
 obtain⟨⟨oc,od,odt,osl⟩,e,hc,n,hd⟩:=id pl
 replace hc:oc=.type "tuple":=hc
 replace hd:odt=.seq its.toArray n:=hd
 subst hc hd
 have hne2:its.toArray.isEmpty=false:=by
  cases its with
  | nil =>
   cases xs with
   | nil=>exact absurd rfl hne
   | cons a b=>simp at hl
  | cons a b=>rfl
 rcases h with ⟨rfl,q⟩|⟨rfl,q⟩
 ·refine wpAny_binaryOp_repeat_ref (T:="tuple") (U:="int") (by decide) ⟨_,e,rfl⟩ (fun s'=>typeIs_int s' 1 t) noFill_tuple_mul PySem.F.fills_int_mul PySem.F.slot_int_rmul repeat_tuple PySem.F.slot_int_index.lookup
   (call_meets PySem.F.slot_int_rmul (typeIs_int s 1 t) PySem.F.entry_int_rmul (PySem.F.args_int_rmul_2 _ _) (rmul_int_tuple 1 t l its.toArray n od osl)
    ⟨e,rfl,⟨_,e,rfl⟩,call_meets PySem.F.slot_tuple_mul ⟨_,e,rfl⟩ PySem.F.entry_tuple_mul (PySem.F.args_tuple_mul_2 _ _) (tuple_mul_one l its.toArray n od osl t) ⟨e,?_⟩⟩)
  exact⟨.ref l,H,I,rfl,q⟩
 ·refine wpAny_binaryOp_repeat_ref (T:="tuple") (U:="int") (by decide) ⟨_,e,rfl⟩ (fun s'=>typeIs_int s' 0 t) noFill_tuple_mul PySem.F.fills_int_mul PySem.F.slot_int_rmul repeat_tuple PySem.F.slot_int_index.lookup
   (call_meets PySem.F.slot_int_rmul (typeIs_int s 0 t) PySem.F.entry_int_rmul (PySem.F.args_int_rmul_2 _ _) (rmul_int_tuple 0 t l its.toArray n od osl)
    ⟨e,rfl,⟨_,e,rfl⟩,call_meets PySem.F.slot_tuple_mul ⟨_,e,rfl⟩ PySem.F.entry_tuple_mul (PySem.F.args_tuple_mul_2 _ _) (tuple_mul_none l its.toArray n od osl t hne2) ⟨e,?_⟩⟩)
  refine⟨.ref _,_,I.laid (t':=s.toks) (o:=.tup []) (fun b u e=>Heap.get?_push_of_some _ e) (Nat.le_refl _) ?_,rfl,q _ (I.hok.fresh (Nat.le_refl _))⟩
  exact⟨Nat.zero_le _,_,.nil,IsTup.new _ _,_,Heap.get?_push_size _ rfl,rfl⟩
end
end L2
namespace L2
open PySem PySem.Spec PyProof.Rows
end L2
namespace L2
open PySem PySem.Spec PyProof.Rows
theorem comp_of {J:It}{n:Nat}{g:TG}{tt:TT}{te:TE}{σ:St}{H:Hp}{Q:VK}(Pv:Nat→List V→St→Hp→Prop)(h0:Pv 0 [] σ H)(hl:∀i acc σ H,i≤n→Pv i acc σ H→acc.length≤1000000)
  (hgo:∀i acc σ H,i<n→Pv i acc σ H→J.go i H)(hstop:∀acc σ H,Pv n acc σ H→J.stop n H)
  (hs:∀i acc σ H,i<n→Pv i acc σ H→∀x H2,J.yld i H x H2→g x σ H2 fun σ2 H3=>tt σ2 H3 fun b H4=>if b=true then te σ2 H4 fun y H5=>Pv (i+1) (acc++[y]) σ2 H5 else Pv (i+1) acc σ2 H4)
  (hd:∀acc σ H D,Pv n acc σ H→H D=none→Q (.ref D) (upd H D (.lst acc))):compW J g tt te σ H Q:=by
 refine⟨fun i m acc σ H=>m=n-i∧i≤n∧Pv i acc σ H,⟨n,by simp,Nat.zero_le _,h0⟩,?_⟩
 rintro i m acc σ H ⟨rfl,hi,p⟩
 have hz:=hl i acc σ H hi p
 by_cases hlt:i<n
 ·exact .inr ⟨hgo i acc σ H hlt p,smallL hz,Pv (i+1),fun acc' σ' H' p'=>⟨n-(i+1),by omega,rfl,hlt,p'⟩,hs i acc σ H hlt p⟩
 ·have e:i=n:=by omega
  subst e
  exact .inl ⟨hstop acc σ H p,small hz,fun D fD=>hd acc σ H D p fD⟩
theorem comp_range {lo:Int}{n:Nat}{g:TG}{tt:TT}{te:TE}{σ:St}{H:Hp}{Q:VK}(Pv:Nat→List V→St→Hp→Prop)(h0:Pv 0 [] σ H)(hl:∀i acc σ H,i≤n→Pv i acc σ H→acc.length≤1000000)
  (hs:∀i acc σ H,i<n→Pv i acc σ H→g (.int (lo+i)) σ H fun σ2 H3=>tt σ2 H3 fun b H4=>if b=true then te σ2 H4 fun y H5=>Pv (i+1) (acc++[y]) σ2 H5 else Pv (i+1) acc σ2 H4)
  (hd:∀acc σ H D,Pv n acc σ H→H D=none→Q (.ref D) (upd H D (.lst acc))):compW (Itr lo n) g tt te σ H Q :=
 comp_of Pv h0 hl (fun i acc σ H h _=>h) (fun acc σ H _=>Nat.le_refl _) (fun i acc σ H h p x H2 y=>by
  obtain⟨e,y⟩:=y
  subst e y
  exact hs i acc σ _ h p) hd
theorem comp_tup {K:PySem.W.Frag}{a:Addr}{xs:List V}{g:TG}{tt:TT}{te:TE}{σ:St}{H:Hp}{Q:VK}(Pv:Nat→List V→St→Hp→Prop)(h0:Pv 0 [] σ H)(hl:∀i acc σ H,i≤xs.length→Pv i acc σ H→acc.length≤1000000)
  (ha:∀i acc σ H,i≤xs.length→Pv i acc σ H→SqT K H a xs)
  (hs:∀i x acc σ H,xs[i]?=some x→Pv i acc σ H→g x σ H fun σ2 H3=>tt σ2 H3 fun b H4=>if b=true then te σ2 H4 fun y H5=>Pv (i+1) (acc++[y]) σ2 H5 else Pv (i+1) acc σ2 H4)
  (hd:∀acc σ H D,Pv xs.length acc σ H→H D=none→Q (.ref D) (upd H D (.lst acc))):compW (Itt K a) g tt te σ H Q :=
 comp_of Pv h0 hl (fun i acc σ H h p=>⟨xs,xs[i],ha i acc σ H (Nat.le_of_lt h) p,List.getElem?_eq_getElem h⟩) (fun acc σ H p=>⟨xs,ha _ acc σ H (Nat.le_refl _) p,Nat.le_refl _⟩) (fun i acc σ H h p x H2 y=>by
  obtain⟨e,y⟩:=y
  subst e
  exact hs i x acc σ _ (y xs (ha i acc σ _ (Nat.le_of_lt h) p)) p) hd
theorem comp_list {K:PySem.W.Frag}{a:Addr}{xs:List V}{g:TG}{tt:TT}{te:TE}{σ:St}{H:Hp}{Q:VK}(Pv:Nat→List V→St→Hp→Prop)(h0:Pv 0 [] σ H)(hl:∀i acc σ H,i≤xs.length→Pv i acc σ H→acc.length≤1000000)
  (ha:∀i acc σ H,i≤xs.length→Pv i acc σ H→SqL K H a xs)
  (hs:∀i x acc σ H,xs[i]?=some x→Pv i acc σ H→g x σ H fun σ2 H3=>tt σ2 H3 fun b H4=>if b=true then te σ2 H4 fun y H5=>Pv (i+1) (acc++[y]) σ2 H5 else Pv (i+1) acc σ2 H4)
  (hd:∀acc σ H D,Pv xs.length acc σ H→H D=none→Q (.ref D) (upd H D (.lst acc))):compW (Itl K a) g tt te σ H Q :=
 comp_of Pv h0 hl (fun i acc σ H h p=>⟨xs,xs[i],ha i acc σ H (Nat.le_of_lt h) p,List.getElem?_eq_getElem h⟩) (fun acc σ H p=>⟨xs,ha _ acc σ H (Nat.le_refl _) p,Nat.le_refl _⟩) (fun i acc σ H h p x H2 y=>by
  obtain⟨e,y⟩:=y
  subst e
  exact hs i x acc σ _ (y xs (ha i acc σ _ (Nat.le_of_lt h) p)) p) hd
theorem comp_enum {K:PySem.W.Frag}{a:Addr}{xs:List V}{g:TG}{tt:TT}{te:TE}{σ:St}{H:Hp}{Q:VK}(Pv:Nat→List V→St→Hp→Prop)(h0:Pv 0 [] σ H)(hl:∀i acc σ H,i≤xs.length→Pv i acc σ H→acc.length≤1000000)
  (ha:∀i acc σ H,i≤xs.length→Pv i acc σ H→SqT K H a xs)
  (hs:∀i x acc σ H p,xs[i]?=some x→Pv i acc σ H→H p=none→g (.ref p) σ (upd H p (.tup [.int i,x])) fun σ2 H3=>tt σ2 H3 fun b H4=>if b=true then te σ2 H4 fun y H5=>Pv (i+1) (acc++[y]) σ2 H5 else Pv (i+1) acc σ2 H4)
  (hd:∀acc σ H D,Pv xs.length acc σ H→H D=none→Q (.ref D) (upd H D (.lst acc))):compW (Ite K a) g tt te σ H Q :=
 comp_of Pv h0 hl (fun i acc σ H h p=>⟨xs,xs[i],ha i acc σ H (Nat.le_of_lt h) p,List.getElem?_eq_getElem h⟩) (fun acc σ H p=>⟨xs,ha _ acc σ H (Nat.le_refl _) p,Nat.le_refl _⟩) (fun i acc σ H h p x H2 y=>by
  obtain⟨q,z,fq,rfl,rfl,y⟩:=y
  exact hs i z acc σ _ q (y xs (ha i acc σ _ (Nat.le_of_lt h) p)) p fq) hd
theorem for_of {J:It}{n:Nat}{g:TG}{tb:TS}{D:Ends}{σ:St}{H:Hp}(Pv:Nat→St→Hp→Prop)(h0:Pv 0 σ H)(hgo:∀i σ H,i<n→Pv i σ H→J.go i H)(hstop:∀σ H,Pv n σ H→J.stop n H)
  (hs:∀i σ H,i<n→Pv i σ H→∀x H2,J.yld i H x H2→g x σ H2 fun σ2 H3=>tb { D with nx:=Pv (i+1),ct:=Pv (i+1),bk:=D.nx } σ2 H3)(hd:∀σ H,Pv n σ H→D.nx σ H) :
  ∃W:Nat→Nat→St→Hp→Prop,(∃m,W 0 m σ H)∧∀i m σ H,W i m σ H →
   (J.stop i H∧D.nx σ H)∨(J.go i H∧∃N:St→Hp→Prop,(∀σ' H',N σ' H'→∃m',m'<m∧W (i+1) m' σ' H')∧∀x H',J.yld i H x H'→g x σ H' fun σ2 H2=>tb { D with nx:=N,ct:=N,bk:=D.nx } σ2 H2):=by
 refine⟨fun i m σ H=>m=n-i∧i≤n∧Pv i σ H,⟨n,by simp,Nat.zero_le _,h0⟩,?_⟩
 rintro i m σ H ⟨rfl,hi,p⟩
 by_cases hlt:i<n
 ·exact .inr ⟨hgo i σ H hlt p,Pv (i+1),fun σ' H' p'=>⟨n-(i+1),by omega,rfl,hlt,p'⟩,hs i σ H hlt p⟩
 ·have e:i=n:=by omega
  subst e
  exact .inl ⟨hstop σ H p,hd σ H p⟩
theorem for_enum {K:PySem.W.Frag}{a:Addr}{xs:List V}{g:TG}{tb:TS}{D:Ends}{σ:St}{H:Hp}(Pv:Nat→St→Hp→Prop)(h0:Pv 0 σ H)(ha:∀i σ H,i≤xs.length→Pv i σ H→SqT K H a xs)
  (hs:∀i x σ H p,xs[i]?=some x→Pv i σ H→H p=none→g (.ref p) σ (upd H p (.tup [.int i,x])) fun σ2 H3=>tb { D with nx:=Pv (i+1),ct:=Pv (i+1),bk:=D.nx } σ2 H3)(hd:∀σ H,Pv xs.length σ H→D.nx σ H) :
  ∃W:Nat→Nat→St→Hp→Prop,(∃m,W 0 m σ H)∧∀i m σ H,W i m σ H →
   ((Ite K a).stop i H∧D.nx σ H)∨((Ite K a).go i H∧∃N:St→Hp→Prop,(∀σ' H',N σ' H'→∃m',m'<m∧W (i+1) m' σ' H')∧∀x H',(Ite K a).yld i H x H'→g x σ H' fun σ2 H2=>tb { D with nx:=N,ct:=N,bk:=D.nx } σ2 H2) :=
 for_of Pv h0 (fun i σ H h p=>⟨xs,xs[i],ha i σ H (Nat.le_of_lt h) p,List.getElem?_eq_getElem h⟩) (fun σ H p=>⟨xs,ha _ σ H (Nat.le_refl _) p,Nat.le_refl _⟩) (fun i σ H h p x H2 y=>by
  obtain⟨q,z,fq,rfl,rfl,y⟩:=y
  exact hs i z σ _ q (y xs (ha i σ _ (Nat.le_of_lt h) p)) p fq) hd
end L2
namespace L2
open PySem PySem.Spec PyProof.Rows
def Fit (n:Nat):Prop:=∃k,k≤8000∧n<2 ^ k
theorem Fit.le {m n:Nat}(h:Fit n)(l:m≤n):Fit m:=by
 obtain⟨k,h1,h2⟩:=h
 exact⟨k,h1,Nat.lt_of_le_of_lt l h2⟩
theorem Fit.of {n:Nat}(h:n<18446744073709551616):Fit n:=⟨64,by decide,h⟩
theorem Fit.log {n:Nat}(h:Fit n):n.log2<9000:=by
 obtain⟨k,h1,h2⟩:=h
 by_cases h0:n=0
 ·rw[h0];decide +kernel
 ·have:=(Nat.log2_lt h0).mpr h2
  omega
theorem Fit.bits {i:Int}(h:Fit i.natAbs):Builtin.Int.intBits i≤2 ^ 20:=by
 obtain⟨k,h1,h2⟩:=h
 refine Nat.le_trans (PyProof.Rows.intBits_le h2) (Nat.le_trans h1 ?_)
 decide
def CDivB (i j:Int):Prop:=0<j∧Fit j.natAbs
def CMulB (i j:Int):Prop:=Fit i.natAbs∧Fit j.natAbs
theorem Room.units1 {k:Nat}{A:Around}(r:Room k A):A.units+1<cLine:=by have:=r.un;omega
section
variable {X:Cx}
theorem op_fdivB:OpR X (binaryOp .FloorDiv) (rI CDivB fun i j=>.int (i / j)):=opI fun i j _ _ _ _ _ hc q=>by
 have h1:(0:Int)<j:=hc.1
 exact floordiv_int (by omega) (by rw[Int.fdiv_eq_ediv_of_nonneg i (by omega)];exact q) (.inl (PyProof.noPylong_of_log2 hc.2.log))
theorem op_mulB:OpR X (binaryOp .Mult) (rI CMulB fun i j=>.int (i*j)):=opI fun _ _ _ _ _ _ _ hc q=>mul_int q (IntMulOk.of_bits hc.1.bits hc.2.bits)
end
end L2
namespace PySem
open PySem.W PyProof.Rows
section
variable {prog:Program}{w:World}{A:Around}{E:Value→Shared→Prop}{s:Shared}{T:String}{r d:Addr}{n:Nat}{P:Nat→Value→Prop}{OK:Heap→Prop}
theorem collect_src {Q:List Value→Shared→Prop}(K:KdlSrc prog w T r d n P OK)(hh:A.handled=none)(hok:OK s.heap)(hn:n≤sizeLine)
  (hQ:∀(h':Heap)(tk:Nat)(acc:Array Value),(∀b o,s.heap.get? b=some o→h'.get? b=some o)→ItemsOf P acc n→Q acc.toList { s with heap:=h',toks:=tk }):wpAny (model prog w) A (collect (.ref r)) Q E s:=by
 unfold collect
 refine wpAny_bind (wpAny_runValue (codeAny_builtin F.entry_proto_collect ?_))
 rw[Around.under_plainId F.plain_proto_collect _]
 show wpAny _ A.in1 (newList [] >>= fun l=>again (.builtin "list.__iadd__" ⟨[l,.ref r],[]⟩)) _ _ s
 refine wpAny_bind (wpAny_newObj_type ?_)
 refine wpAny_pure ⟨plainId_quiet F.plain_list_iadd _,codeAny_builtin F.entry_list_iadd ?_⟩
 rw[Around.under_plainId F.plain_list_iadd _]
 show wpAny _ A.in1 (Builtin.List.listExtendWith (.ref s.heap.objs.size) (.ref r) (.ref s.heap.objs.size)) _ _ _
 have hlt:=K.there _ hok
 have hS0:(s.heap.push { cls:=.type "list",data:=.seq ([]:List Value).toArray }).get? s.heap.objs.size=some { cls:=.type "list",data:=.seq #[] 0 }:=Heap.get?_push_size _ rfl
 refine kdl_extend (R:=fun r s'=>match r with
  |.ok (.ret v)=>wpAny (model prog w) A (match v with
   |.ref a=>do
    let o ←load a
    match o.data with
     |.seq xs _=>pure xs.toList
     | _=>unsupported "internal:collect"
   | _=>unsupported "internal:collect") Q E s'
  |.ok _=>False
  |.error e=>E e s') (s:={ s with heap:=s.heap.push { cls:=.type "list",data:=.seq ([]:List Value).toArray } }) K hh (K.keep _ _ hok fun b _ o e=>Heap.get?_push_of_some _ e) _ (Nat.ne_of_gt hlt.1) (Nat.ne_of_gt hlt.2) _ 0 hS0 (fun h' tk acc c hk hS hacc=>?_) hn
 show wpAny _ A (load s.heap.objs.size >>= _) _ _ _
 refine wpAny_bind (wpAny_load hS ?_)
 exact wpAny_pure (hQ h' tk acc (fun b o e=>hk b o (Nat.ne_of_lt (Heap.lt_size e)) (Heap.get?_push_of_some _ e)) hacc)
end
end PySem
namespace L2
open PySem PySem.Spec PyProof.Rows PySem.W
theorem pairedGet {α β:Type}{F:α→β→Prop}:∀{l:List α}{m:List β},l.length=m.length→(∀(i:Nat) x y,l[i]?=some x→m[i]?=some y→F x y)→Paired F l m
 | [],[],_,_=>.nil
 | x::l,y::m,hl,h=>.cons (h 0 x y rfl rfl) (pairedGet (by simpa using hl) fun i a b e1 e2=>h (i+1) a b (by simpa using e1) (by simpa using e2))
 | [],_::_,hl,_=>by simp at hl
 | _::_,[],hl,_=>by simp at hl
theorem relKey {k:Key}{v:Value}(h:keyIs k v=true):RelV (kV k) v:=by
 rcases keyIs_shape h with ⟨i,t,rfl,rfl⟩|⟨x,t,rfl,rfl⟩
 ·exact⟨_,rfl⟩
 ·exact⟨_,rfl⟩
section
variable {X:Cx}
end
end L2
namespace L2
open PySem PySem.Spec PyProof.Rows
section
variable {X:Cx}
end
end L2
namespace L2
open PySem PySem.Spec PyProof.Rows
theorem vals_of_ints:∀{us:List Value}{ns:List Int},IntsAre us ns→Vals (ns.map V.int) us
 | _,_,.nil=>.nil
 | _,_,.cons n t h=>.cons ⟨t,rfl⟩ (vals_of_ints h)
end L2
namespace L2
open PySem PySem.Spec PyProof.Rows
section
variable {X:Cx}
end
end L2
namespace L2
open PySem PySem.Spec PyProof.Rows
end L2
set_option maxRecDepth 100000
namespace L2
open PySem PySem.Spec PyProof.Rows
section
variable {X:Cx}{ps pins:List (Addr×Obj)}{Kx:Value→Shared→Prop}{σ:St}{H:Hp}{s:Shared}{Ex:St→XK}
end
section
variable {X:Cx}{ps:List (Addr×Obj)}{Kx:Value→Shared→Prop}{Ex:St→XK}{k k':Nat}{f C:Addr}{fd:FuncData}{qs:List Str}{sp:Sp}{m x:Str}{p pos apos:Pos}{o e:Expr}{es:List Expr}{ta:TE}{t:TA}
end
end L2
namespace L3
open PySem
open Sem (wp)
open AutoSeq1 (wpAny_loadPart')
def AtQ (c:Bool)(it t:Addr)(xs:Array Value)(i:Nat)(h:Heap):Prop:=(c=true∧AtT it t xs i h)∨(c=false∧h.IsListIter it t i∧h.IsList t xs)
theorem AtQ.keeps {c:Bool}{it t:Addr}{xs:Array Value}{i:Nat}{h h':Heap}(a:AtQ c it t xs i h)(k1:∀o,h.get? it=some o→h'.get? it=some o)(k2:∀o,h.get? t=some o→h'.get? t=some o):AtQ c it t xs i h':=by
 rcases a with ⟨e,a⟩|⟨e,⟨o,ho,r⟩,o',ho',r'⟩
 ·exact .inl ⟨e,a.keeps k1 k2⟩
 ·exact .inr ⟨e,⟨o,k1 o ho,r⟩,o',k2 o' ho',r'⟩
def ItQ (c:Bool)(it t:Addr)(i:Nat)(h:Heap):Prop:=(c=true∧h.IsTupleIter it t i)∨(c=false∧h.IsListIter it t i)
theorem ItQ.at {c:Bool}{it t:Addr}{i:Nat}{h h':Heap}(a:ItQ c it t i h)(k:∀o,h.get? it=some o→h'.get? it=some o):ItQ c it t i h':=by
 rcases a with ⟨e,o,ho,r⟩|⟨e,o,ho,r⟩
 ·exact .inl ⟨e,o,k o ho,r⟩
 ·exact .inr ⟨e,o,k o ho,r⟩
def SeqQ (c:Bool)(t:Addr)(xs:Array Value)(h:Heap):Prop:=(c=true∧h.IsTuple t xs)∨(c=false∧h.IsList t xs)
theorem AtQ.of {c:Bool}{it t:Addr}{xs:Array Value}{i:Nat}{h:Heap}(a:ItQ c it t i h)(b:SeqQ c t xs h):AtQ c it t xs i h:=by
 rcases a with ⟨e,a⟩|⟨e,a⟩<;>rcases b with ⟨e',b⟩|⟨e',b⟩
 ·exact .inl ⟨e,a,b⟩
 ·rw[e]at e';cases e'
 ·rw[e]at e';cases e'
 ·exact .inr ⟨e,a,b⟩
theorem SeqQ.keeps {c:Bool}{t:Addr}{xs:Array Value}{h h':Heap}(b:SeqQ c t xs h)(k:∀o,h.get? t=some o→h'.get? t=some o):SeqQ c t xs h':=by
 rcases b with ⟨e,o,ho,r⟩|⟨e,o,ho,r⟩
 ·exact .inl ⟨e,o,k o ho,r⟩
 ·exact .inr ⟨e,o,k o ho,r⟩
section
variable {prog:Program}{w:World}{A:Around}{E:Value→Shared→Prop}{s:Shared}
structure ZipQ (c1 c2:Bool)(z TI TO i1 i2 t1 t2:Addr)(xs ys:Array Value)(i:Nat)(f0:Value)(h:Heap):Prop where
 z:IsZip h z TI TO f0
 TI:IsPair h TI (.ref i1) (.ref i2)
 TO:∃a b,IsPair h TO a b
 one:AtQ c1 i1 t1 xs i h
 two:AtQ c2 i2 t2 ys i h
theorem ZipQ.keeps {c1 c2:Bool}{z TI TO i1 i2 t1 t2:Addr}{xs ys:Array Value}{i:Nat}{f0:Value}{h h':Heap}(Z:ZipQ c1 c2 z TI TO i1 i2 t1 t2 xs ys i f0 h)(k:∀b∈[z,TI,TO,i1,i2],∀o,h.get? b=some o→h'.get? b=some o)
  (k1:∀o,h.get? t1=some o→h'.get? t1=some o)(k2:∀o,h.get? t2=some o→h'.get? t2=some o):ZipQ c1 c2 z TI TO i1 i2 t1 t2 xs ys i f0 h' :=
 ⟨k z (by simp) _ Z.z,k TI (by simp) _ Z.TI,let ⟨a,b,q⟩:=Z.TO;⟨a,b,k TO (by simp) _ q⟩,Z.one.keeps (k i1 (by simp)) k1,Z.two.keeps (k i2 (by simp)) k2⟩
end
section
variable {prog:Program}{w:World}{A:Around}{E:Value→Shared→Prop}{s:Shared}
end
end L3
namespace L2
open PySem PySem.Spec PyProof.Rows
section
variable {X:Cx}
end
end L2
namespace PySem
open PySem.W PyProof.Rows
section
variable {prog:Program}{w:World}{A:Around}{E:Value→Shared→Prop}{s:Shared}{r:Addr}{a b c:Int}{t u v:Tok}{n:Nat}
end
end PySem
namespace PyProof.Rows
open PySem
section
variable {prog:Program}{w:World}{A:Around}{E:Value→Shared→Prop}{s:Shared}
end
end PyProof.Rows
namespace L2
open PySem PySem.Spec PyProof.Rows
section
variable {X:Cx}
end
end L2
namespace PySem
open Sem (wp)
end PySem
namespace PySem.F
end PySem.F
namespace L2
open PySem PySem.Spec PyProof.Rows
end L2
namespace L2
open PySem PySem.Spec PyProof.Rows
section
variable {X:Cx}{tg:Expr}
end
end L2
namespace L2
open PySem PySem.Spec PyProof.Rows
section
variable {X:Cx}
end
end L2
namespace PySem
open Sem (wp)
section
variable {prog:Program}{w:World}{A:Around}{E:Value→Shared→Prop}{s:Shared}
end
end PySem
namespace L2
open PySem PySem.Spec PyProof.Rows PySem.W
section
variable {X:Cx}{tg:Expr}
end
end L2
namespace PySem
open Sem (wp)
section
variable {prog:Program}{w:World}{K:Type} [DecidableEq K]{knd:KeyKind prog w K}{A:Around}{E:Value→Shared→Prop}{s:Shared}
end
end PySem
namespace L2
open PySem PySem.Spec PyProof.Rows PySem.W
section
variable {X:Cx}{o e f:Expr}{apos cpos:Pos}{td ty tx:TE}
end
end L2
namespace L2
open PySem PySem.Spec PyProof.Rows PySem.W
section
variable {X:Cx}
end
end L2
namespace L2
open PySem PySem.Spec PyProof.Rows PySem.W
section
variable {X:Cx}
def rEqTA (K:PySem.W.Frag)(neg:Bool):R2:=fun x y H Q=>∃(a b:Addr)(d c:Str)(rest:List V),x=.ref a∧y=.ref b∧SqT K H a (.str d::rest)∧SqT K H b [.str c]∧Q (.bl (if neg then !(decide (d=c)&&rest.isEmpty)else (decide (d=c)&&rest.isEmpty))) H
theorem op_eqTA (hu:X.A.units+64<cLine):OpR X (compareOp .Eq) (rEqTA X.K false):=by
 intro pins s σ H x y v u Q I rx ry h
 obtain⟨a,b,d,c,rest,rfl,rfl,ha,hb,q⟩:=h
 cases rx
 cases ry
 obtain⟨its,r1,p1,_⟩:=I.tuple ha
 obtain⟨its2,r2,p2,_⟩:=I.tuple hb
 obtain⟨u2,rfl,ru2⟩:=vals1 r2
 obtain⟨t2,rfl⟩:=ru2
 have hl:=r1.length
 obtain⟨u1,us,rfl,t1,rfl⟩:∃u1 us,its=u1::us∧∃t,u1=.str d t:=by
  cases r1 with
  | cons r t=>obtain⟨t',rfl⟩:=r;exact⟨_,_,rfl,t',rfl⟩
 obtain⟨⟨oc,od,odt,osl⟩,e,hc,n,hd⟩:=id p1
 replace hc:oc=.type "tuple":=hc
 replace hd:odt=.seq (Value.str d t1::us).toArray n:=hd
 subst hc hd
 obtain⟨⟨oc,od2,odt,osl2⟩,e2,hc,n2,hd⟩:=id p2
 replace hc:oc=.type "tuple":=hc
 replace hd:odt=.seq [Value.str c t2].toArray n2:=hd
 subst hc hd
 have hlu:us.length=rest.length:=by simpa using hl.symm
 have hv:((List.range (min (Value.str d t1::us).toArray.size [Value.str c t2].toArray.size)).all (fun _=>decide (d=c))&&(Value.str d t1::us).toArray.size==[Value.str c t2].toArray.size)=(decide (d=c)&&rest.isEmpty):=by
  rw[List.size_toArray,List.size_toArray,List.length_cons,List.length_singleton,hlu,show min (rest.length+1) 1=1 by omega]
  show((decide (d=c)&&true)&&_)=_
  rw[Bool.and_true]
  congr 1
  cases rest<;>simp
 have ed:eqV (.str d) (.str c)=decide (d=c):=by
  show(d==c)=decide (d=c)
  by_cases z:d=c
  ·rw[decide_eq_true z,z];exact beq_self_eq_true _
  ·rw[decide_eq_false z]
   cases e:d==c with
   | false=>rfl
   | true=>exact absurd (eq_of_beq e) z
 exact richCompare_meets_room (op:=.Eq) ⟨_,e,rfl⟩ ⟨_,e2,rfl⟩ slot_tuple_eq entry_tuple_eq (args_tuple_eq _ _) (SeqAt.tuple_eqAt a b (Value.str d t1::us).toArray [Value.str c t2].toArray n n2 od od2 osl osl2 (fun _=>decide (d=c)))
  ⟨e,e2,fun j h1 h2=>by
   have:j=0:=by
    have:j<1:=h2
    omega
   subst this
   rw[←ed]
   exact eqAt_V (y:=.str d) (x:=.str c) ⟨t1,rfl⟩ ⟨t2,rfl⟩ rfl rfl,by
   rw[hv]
   exact⟨(fun x=>nomatch x),⟨.bl _,H,I,rfl,q⟩⟩⟩ (by omega)
theorem op_neTA (hu:X.A.units+64<cLine):OpR X (compareOp .NotEq) (rEqTA X.K true):=by
 intro pins s σ H x y v u Q I rx ry h
 obtain⟨a,b,d,c,rest,rfl,rfl,ha,hb,q⟩:=h
 cases rx
 cases ry
 obtain⟨its,r1,p1,_⟩:=I.tuple ha
 obtain⟨its2,r2,p2,_⟩:=I.tuple hb
 obtain⟨u2,rfl,ru2⟩:=vals1 r2
 obtain⟨t2,rfl⟩:=ru2
 have hl:=r1.length
 obtain⟨u1,us,rfl,t1,rfl⟩:∃u1 us,its=u1::us∧∃t,u1=.str d t:=by
  cases r1 with
  | cons r t=>obtain⟨t',rfl⟩:=r;exact⟨_,_,rfl,t',rfl⟩
 have hlu:us.length=rest.length:=by simpa using hl.symm
 have ed:eqV (.str d) (.str c)=decide (d=c):=by
  show(d==c)=decide (d=c)
  by_cases z:d=c
  ·rw[decide_eq_true z,z];exact beq_self_eq_true _
  ·rw[decide_eq_false z]
   cases e:d==c with
   | false=>rfl
   | true=>exact absurd (eq_of_beq e) z
 refine SeqAt.RcNeAt.tuples (e:=fun _=>decide (d=c)) (show s.heap.IsTuple a (Value.str d t1::us).toArray from p1) (show s.heap.IsTuple b [Value.str c t2].toArray from p2) (by omega) (fun j g1 g2=>?_) X.prog X.w _ _ ?_
 ·have:j=0:=by
   have:j<1:=g2
   omega
  subst this
  rw[←ed]
  exact eqAt_V (y:=.str d) (x:=.str c) ⟨t1,rfl⟩ ⟨t2,rfl⟩ rfl rfl
 ·have hv:((List.range (min (Value.str d t1::us).toArray.size [Value.str c t2].toArray.size)).all (fun _=>decide (d=c))&&(Value.str d t1::us).toArray.size==[Value.str c t2].toArray.size)=(decide (d=c)&&rest.isEmpty):=by
   rw[List.size_toArray,List.size_toArray,List.length_cons,List.length_singleton,hlu,show min (rest.length+1) 1=1 by omega]
   show((decide (d=c)&&true)&&_)=_
   rw[Bool.and_true]
   congr 1
   cases rest<;>simp
  rw[hv]
  exact⟨.bl _,H,I,rfl,q⟩
end
end L2
namespace PySem
open Sem (wp)
section
variable {prog:Program}{w:World}{A:Around}{E:Value→Shared→Prop}{s:Shared}
theorem wpAny_pyHash_none {Q:Int→Shared→Prop}(h:Q 4238894112 { s with toks:=s.toks+1 }):wpAny (model prog w) A (pyHash .none) Q E s:=by
 unfold pyHash
 have hv:[Value.none].any Value.onHeap=false:=rfl
 refine wpAny_bind ?_
 rw[cRoomFor,if_neg (by rw[hv];exact Bool.false_ne_true)];refine wpAny_pure ?_
 refine wpAny_bind (wpAny_specialOf (typeIs_none s) F.slot_NoneType_hash.lookup ?_)
 show wpAny _ _ (if (some (Value.builtin "NoneType.__hash__")==some Value.none)=true then _ else _) Q E s
 rw[if_neg (by rw[beq_builtin_none];exact Bool.false_ne_true)]
 refine wpAny_bind (wpAny_specialOf (typeIs_none s) F.slot_NoneType_hash.lookup ?_)
 show wpAny _ _ (callSpecialIfBoundUnlessNone? .none "__hash__" _ >>= _) Q E s
 refine wpAny_bind (wpAny_callSpecialIfBoundUnlessNone?_slot (typeIs_none s) F.slot_NoneType_hash
  (wpAny_call_entry F.slot_NoneType_hash (typeIs_none s) F.entry_NoneType_hash
   (show wpAny _ _ (do ret (←mkInt 4238894112)) _ _ s from wpAny_ret_mkInt ?_) (F.args_NoneType_hash_1 _)))
 show wpAny _ _ (if (decide (-(2:Int) ^ 63≤4238894112)&&decide ((4238894112:Int)<2 ^ 63))=true then _ else _) Q E _
 rw[if_pos (by decide)]
 exact wpAny_pure h
end
end PySem
namespace L2
open PySem PySem.Spec PyProof.Rows
noncomputable def oIs:Option Int→Value→Bool
 | none,.none=>true
 | none,_=>false
 | some i,v=>Value.isInt i v
noncomputable def oH:Option Int→Int
 | none=>4238894112
 | some i=>hashInt i
theorem oIs_shape:∀{k:Option Int}{v:Value},oIs k v=true→(k=none∧v=Value.none)∨(∃i t,k=some i∧v=Value.int i t)
 | none,v,h=>by
  cases v with
  | none=>exact .inl ⟨rfl,rfl⟩
  | _=>cases h
 | some i,v,h=>by
  obtain⟨t,e⟩:=Value.isInt_shape (k:=i) (v:=v) h
  exact .inr ⟨i,t,rfl,e⟩
noncomputable def noneKind (prog:Program)(w:World):PySem.KeyKind prog w (Option Int) where
 is:=oIs
 hash:=oH
 inj:=fun v a b ha hb=>by
  rcases oIs_shape ha with ⟨rfl,rfl⟩|⟨i,t,rfl,rfl⟩
  ·rcases oIs_shape hb with ⟨rfl,e⟩|⟨j,u,rfl,e⟩
   ·rfl
   ·exact nomatch e
  ·rcases oIs_shape hb with ⟨rfl,e⟩|⟨j,u,rfl,e⟩
   ·exact nomatch e
   ·injection e with e1 _;rw[e1]
 byValue:=fun k v h=>by
  rcases oIs_shape h with ⟨rfl,rfl⟩|⟨i,t,rfl,rfl⟩<;>rfl
 pyHash:=fun hv h=>by
  rcases oIs_shape hv with ⟨rfl,rfl⟩|⟨i,t,rfl,rfl⟩
  ·exact wpAny_pyHash_none h
  ·exact wpAny_pyHash_int h
 eqBool:=fun {A E s a b u v Q} hu hv h=>by
  rcases oIs_shape hu with ⟨rfl,rfl⟩|⟨i,t,rfl,rfl⟩
  ·rcases oIs_shape hv with ⟨rfl,rfl⟩|⟨j,u,rfl,rfl⟩
   ·exact SeqAt.EqAt.same .none _ _ _ _ h
   ·exact SeqAt.EqAt.none_int j u _ _ _ _ h
  ·rcases oIs_shape hv with ⟨rfl,rfl⟩|⟨j,u,rfl,rfl⟩
   ·exact SeqAt.EqAt.int_none i t _ _ _ _ h
   ·have e:decide ((some i:Option Int)=some j)=(i==j):=by
     by_cases c:i=j
     ·subst c;simp
     ·rw[decide_eq_false (fun z=>c (Option.some.inj z))];exact(beq_eq_false_iff_ne.mpr c).symm
    rw[e]at h
    exact wpAny_eqBool_int h
 «strs»:=fun k x t v h=>by
  rcases oIs_shape h with ⟨_,e⟩|⟨_,_,_,e⟩<;>exact nomatch e
noncomputable def oV:Option Int→V
 | none=>.non
 | some i=>.int i
theorem oV_is:∀{k:Option Int}{v:Value},RelV (oV k) v→oIs k v=true
 | none,_,r=>by cases (show _=Value.none from r);rfl
 | some i,_,r=>by
  obtain⟨t,rfl⟩:=r
  simp[oIs,Value.isInt]
theorem oItems {P:Program}{w:World}:∀{ks:List (Option Int)}{us:List Value},Vals (ks.map oV) us→ItemsAre (noneKind P w) ks us
 | [],_,r=>by rw[List.map_nil]at r;cases r;exact .nil
 | k::ks,_,r=>by
  rw[List.map_cons]at r
  cases r with
  | cons h t=>exact .cons (oV_is h) (oItems t)
theorem oKey {P:Program}{w:World}{H:Hp}{h:Heap}{a:Addr}{ks:List (Option Int)}(ok:HOk P w H h)(e:H a=some (.tup (ks.map oV))):(tupleKind (noneKind P w)).is h ks a:=by
 obtain⟨_,its,r,⟨o,h1,h2,n,h3⟩,_⟩:=(show ObjOk P w H h a (.tup (ks.map oV))from ok a _ e)
 exact⟨o,its.toArray,n,h1,h2,h3,by simpa using oItems r⟩
def OD (P:Program)(w:World)(H:Hp)(h:Heap)(S:Addr)(ks:List (List (Option Int))):Prop:=∃(xs:List (List (Option Int)×Addr×Value))(o:Obj)(es:Array DictEntry)(ep:Nat),xs.map (·.1)=ks∧(∀x∈xs,H x.2.1=some (.tup (x.1.map oV)))∧h.get? S=some o∧o.ExactDict∧o.data=.dict es ep∧es.toList=xs.map (entryOfKey (tupleKind (noneKind P w)))
theorem OD.set {X:Cx}{pins:List (Addr×Obj)}{σ:St}{H:Hp}{s:Shared}{S a:Addr}{r:Value}{A:Around}{E:Value→Shared→Prop}{ks:List (List (Option Int))}{k:List (Option Int)}{Q:Unit→Shared→Prop}(I:Inv X pins σ H s)(d:OD X.prog X.w H s.heap S ks)(hn:(ks++[k]).Nodup)(l:ks.length≤1000000)(hu:A.units<cLine)(ha:H a=some (.tup (k.map oV)))
  (h:∀h' tk,Heap.SameBut S s.heap h'→OD X.prog X.w H h' S (ks++[k])→Q () { s with heap:=h',toks:=tk }):wpAny (model X.prog X.w) A (dictSet S (.ref a) r) Q E s:=by
 obtain⟨xs,o,es,ep,e1,e2,e3,e4,e5,e6⟩:=d
 rw[List.nodup_append]at hn
 have hx:∀x∈xs,(tupleKind (noneKind X.prog X.w)).is s.heap x.1 x.2.1:=fun x hx=>oKey I.hok (e2 x hx)
 have dd:s.heap.DictOfH (tupleKind (noneKind X.prog X.w)) S xs:=⟨o,es,ep,e3,e4,e5,e6,hx,by rw[e1];exact hn.1⟩
 have hz:xs.length≤sizeLine:=by
  have:xs.length=ks.length:=by rw[←e1,List.length_map]
  exact Nat.le_trans (show xs.length≤1000000 by omega) (by decide)
 refine wpAny_dictSet_heap (knd:=tupleKind (noneKind X.prog X.w)) (hsz:=hz) hu (oKey I.hok ha) dd fun h' dd' hs=>h h' _ hs ?_
 have hnew:atKey xs k=none:=atKey_none_of_get fun j p hj=>hn.2.2 k (by rw[←e1];exact List.mem_map.mpr ⟨_,List.mem_of_getElem? hj,rfl⟩) k (by simp) rfl
 rw[storedH_new hnew]at dd'
 obtain⟨o',es',ep',f1,f2,f3,f4,f5,f6⟩:=dd'
 refine⟨_,o',es',ep',by rw[List.map_append,e1];rfl,fun x hx=>?_,f1,f2,f3,f4⟩
 rcases List.mem_append.mp hx with y|y
 ·exact e2 x y
 ·have:x=(k,a,r):=by simpa using y
  rw[this];exact ha
theorem paired_getR {α β:Type}{F:α→β→Prop}:∀{l:List α}{m:List β}{i:Nat}{x:α}{y:β},Paired F l m→l[i]?=some x→m[i]?=some y→F x y
 | _,_,_,_,_,.nil,h,_=>by simp at h
 | _,_,0,_,_,.cons r _,h,h'=>by
  simp at h h';subst h;subst h';exact r
 | _,_,i+1,_,_,.cons _ t,h,h'=>paired_getR (i:=i) t (by simpa using h) (by simpa using h')
section
variable {X:Cx}
theorem call_maxL (hc:X.calm=true):CallR X (.builtin "max") (fun xs H Q=>∃(p:Addr)(ns:List Int),xs=[.ref p]∧SqL X.K H p (ns.map V.int)∧0<ns.length∧∀M,M∈ns→(∀a∈ns,a≤M)→Q (.int M) H):=by
 intro pins s σ H xs us Q I r h
 obtain⟨p,ns,rfl,hq,hne,q⟩:=h
 obtain⟨u,rfl,rx⟩:=vals1 r
 cases rx
 obtain⟨its,rv,pl,hz⟩:=I.list hq
 have hi:=intsAre_of rv
 have hl:=pl.isList
 obtain⟨ys,e⟩:=hi.allInts.items
 have hns:ns=ys.toList.map (·.1):=by
  rw[←hi.numsOf,←nums_intItems,←e]
 have hsz:0<ys.size:=by
  have h3:=hne;rw[hns,List.length_map,Array.length_toList]at h3;exact h3
 rw[e]at hl
 have hh:X.A.handled=none:=I.ok.hd hc
 refine max_intList hh hl hsz fun v h' tk hv hk=>?_
 obtain⟨t,rfl⟩:=intItems_at hv
 obtain⟨h1,h2⟩:=argBest_gt (numAt ys) (ys.size-1)
 refine⟨.int _,H,I.kept (t':=tk) hk,⟨t,rfl⟩,q _ ?_ fun a ha=>?_⟩
 ·rw[hns,numAt_eq];exact getD_mem (by rw[List.length_map,Array.length_toList];omega)
 ·rw[hns]at ha
  obtain⟨j,hj,rfl⟩:=mem_getD ha
  rw[List.length_map,Array.length_toList]at hj
  rw[←numAt_eq];exact h2 j (by omega)
def tSumVals (te:TE):TE:=fun σ H Q=>te σ H fun x H1=>∃(a:Addr)(kvs:List (Key×V))(ns:List Int),x=.ref a∧H1 a=some (.dK kvs)∧kvs.map (·.2)=ns.map V.int∧Q (.int ns.sum) H1
theorem pe_sumVals {o:Expr}{to:TE}{p pos apos cpos:Pos}(hc:X.calm=true)(hg:Gl X "sum")(hm:X.mg "sum"=none)(ho:PE X o to)
  (hbase:attributeBase o "values" X.env (eval o X.env)=eval o X.env:=by rfl)(hline:(apos.endLine==cpos.line)=true:=by rfl)
  (hs2:starEach [.Call (.Attribute o "values" apos) [] [] cpos] X.env=[(false,eval (.Call (.Attribute o "values" apos) [] [] cpos) X.env)]:=by rfl):PE X (.Call (.Name "sum" p) [.Call (.Attribute o "values" apos) [] [] cpos] [] pos) (tSumVals to):=by
 intro pins s σ H Q I h
 refine Call_ (ld_blt I hg hm L3.bt_sum (PyProof.Rows.callWith_builtin1 ?_ hs2 rfl))
 rw[hs2]
 show wpAny _ _ (spliced ((false,eval (.Call (.Attribute o "values" apos) [] [] cpos) X.env)::backTo pos [])) _ _ s
 refine Calls.spliced_cons ?_
 refine wpAny_Call_method0_late hbase hline (thn (ho pins s σ H _ I h) fun v s1 ⟨x,H1,I1,r1,a,kvs,ns,ex,ha,hvs,q⟩=>?_)
 subst ex
 obtain rfl:v=Value.ref a:=r1
 obtain⟨t1,t2,_⟩:=isD_at I1 (.inl ⟨kvs,.inl ha⟩)
 refine⟨"dict","dict.values",PySem.F.plainAttrs_dict,PySem.F.slot_dict_values,PySem.F.type_dict_values,t1,t2,Calls.callWith_builtin rfl (PySem.evalArgs_none ?_)⟩
 obtain⟨hz,hd,vs,rel,dd⟩:=dk_of I1.hok ha
 refine call_meetsIn PySem.F.slot_dict_values dd.typeIs PySem.F.entry_dict_values (PySem.F.args_dict_values_1 _) (meets_dict_values (mixKind X.prog X.w) a hd) ⟨⟨vs,dd⟩,?_⟩
 refine Calls.spliced_nil ?_
 obtain⟨ep,da⟩:=dd.dictAt
 have I2:Inv X pins σ H1 { s1 with heap:=s1.heap.push { cls:=.type "dict_values",data:=.fields #[.ref a] },toks:=s1.toks }:=I1.kept (t':=s1.toks) fun b o e=>Heap.get?_push_of_some _ e
 have hh:X.A.in1.handled=none:=I1.ok.hd hc
 have K:=PySem.W.kdl_values (prog:=X.prog) (w:=X.w) (knd:=mixKind X.prog X.w) (r:=s1.heap.objs.size) (d:=a) (kvs:=vs) (ep:=ep)
 have hok:(s1.heap.push { cls:=.type "dict_values",data:=.fields #[.ref a] }).IsValuesView s1.heap.objs.size a∧(s1.heap.push { cls:=.type "dict_values",data:=.fields #[.ref a] }).DictAt (mixKind X.prog X.w) a vs ep:=⟨⟨_,Heap.get?_push_size _ rfl,rfl,rfl⟩,da.push _⟩
 have hlen:vs.length=ns.length:=by
  have h1:=rel.length
  have h2:=congrArg List.length hvs
  rw[List.length_map,List.length_map]at h2
  omega
 refine call_sum_walkAnyS ?_
 obtain⟨oI,St,hit,W,st⟩:=K.iter X.A.in1 { s1 with heap:=s1.heap.push { cls:=.type "dict_values",data:=.fields #[.ref a] } } hh hok
 refine hit _ _ ⟨_,_,_,_,vs.length,_,_,fun i=>ns.getD i 0,rfl,W.toS,st,fun b hb=>?_,fun i v ⟨k,hk⟩=>?_,fun s' t' hm'=>?_⟩
 ·show b<((s1.heap.push _).push oI).objs.size
  rw[size_push']
  rcases List.mem_cons.mp hb with e|hb
  ·rw[e];exact Nat.lt_succ_self _
  ·rw[List.mem_singleton.mp hb];exact Nat.lt_succ_of_lt (K.there _ hok).2
 ·have hi:i<ns.length:=by rw[←hlen];exact(List.getElem?_eq_some_iff.mp hk).1
  have hki:i<kvs.length:=by have:=rel.length;omega
  have hr:=paired_getR rel (List.getElem?_eq_getElem hki) hk
  have e2:(kvs.map (·.2))[i]?=some (V.int ns[i]):=by rw[hvs,List.getElem?_map,List.getElem?_eq_getElem hi];rfl
  rw[List.getElem?_map,List.getElem?_eq_getElem hki]at e2
  have e3:kvs[i].2=V.int ns[i]:=Option.some.inj e2
  have hr2:=hr.2
  rw[e3]at hr2
  obtain⟨t,ht⟩:=hr2
  refine⟨t,?_⟩
  show v=Value.int (ns.getD i 0) t
  rw[List.getD_eq_getElem?_getD,List.getElem?_eq_getElem hi]
  exact ht
 ·have hk:∀b o,(s1.heap.push { cls:=.type "dict_values",data:=.fields #[.ref a] }).get? b=some o→s'.heap.get? b=some o:=fun b o e =>
   hm'.heap b o (fun hI=>absurd (Heap.lt_size e) (by rw[List.mem_singleton.mp hI];exact Nat.lt_irrefl _)) (Heap.get?_push_of_some _ e)
  rw[Moved.eq_with hm',hlen,preSum_getD,List.take_length]
  exact⟨.int ns.sum,H1,I2.kept (t':=s'.toks) hk,⟨_,rfl⟩,q⟩
theorem call_sortedD (hc:X.calm=true):CallR X (.builtin "sorted") (fun xs H Q=>∃(a:Addr)(kvs:List (Key×V))(ns:List Int),xs=[.ref a]∧H a=some (.dK kvs)∧(kvs.map fun kv=>kV kv.1)=ns.map V.int∧ns.length<64∧∀(l:Addr)(ns':List Int),H l=none→ns'.Perm ns→ns'.Pairwise (·≤·)→Q (.ref l) (upd H l (.lst (ns'.map V.int)))):=by
 intro pins s σ H xs us Q I r h
 obtain⟨a,kvs,ns,rfl,ha,hks,h64,q⟩:=h
 obtain⟨u,rfl,rx⟩:=vals1 r
 cases rx
 obtain⟨hz,hd,vs,rel,dd⟩:=dk_of I.hok ha
 obtain⟨ep,dd⟩:=dd.dictAt
 have hl:=rel.length
 have hln:kvs.length=ns.length:=by
  have:=congrArg List.length hks
  rw[List.length_map,List.length_map]at this
  exact this
 have hh:X.A.in1.handled=none:=I.ok.hd hc
 refine Calls.call_function_entry kind_sorted plain_sorted entry_sorted (args_sorted1 _) ?_
 unfold Builtin.«sorted»
 refine wpAny_bind (m:=checkCount "sorted" 1 1 _) (wpAny_pure ?_)
 refine wpAny_bind (PySem.collect_src (PySem.W.kdl_dict (knd:=mixKind X.prog X.w) (kvs:=vs) (ep:=ep) hd) hh dd (by omega) fun h' tk acc kp hacc=>?_)
 have I1:Inv X pins σ H { s with heap:=h',toks:=tk }:=I.kept (t':=tk) kp
 have rv:Vals (ns.map V.int) acc.toList:=by
  rw[←hks]
  refine pairedGet (by have:=hacc.1;simp only[List.length_map,Array.length_toList];omega) fun i x y e1 e2=>?_
  obtain⟨k,z,ek,hk⟩:=hacc.2 i y (by rw[←Array.getElem?_toList];exact e2)
  have e3:(kvs.map (·.1))[i]?=some k:=by rw[rel.keys,List.getElem?_map,ek];rfl
  rw[List.getElem?_map]at e1 e3
  cases eq:kvs[i]? with
  | none=>rw[eq]at e3;cases e3
  | some kv =>
   rw[eq]at e1 e3
   cases e1
   cases e3
   exact relKey hk
 have hI:=intsAre_of rv
 have hal:acc.toList.length=ns.length:=by rw[←rv.length,List.length_map]
 refine wpAny_bind (wpAny_newList ?_ (by rw[hal];exact Nat.le_trans (Nat.le_of_lt h64) (by decide)))
 have hoL:(h'.push (seqObj "list" acc.toList.toArray 0)).get? h'.objs.size=some (seqObj "list" acc.toList.toArray 0):=Heap.get?_push_size _ rfl
 show wpAny _ _ _ _ _ { s with heap:=h'.push (seqObj "list" acc.toList.toArray 0),toks:=tk }
 refine wpAny_bind (wpAny_holding (wpAny_call_entry slot_list_sort ⟨_,hoL,rfl⟩ entry_list_sort (list_sort_tree (s:={ s with heap:=h'.push (seqObj "list" acc.toList.toArray 0),toks:=tk }) hoL hI (by omega) fun out ns' i1 p1 s1=>⟨_,rfl,?_⟩) (args_list_sort _)))
 refine wpAny_pure ⟨_,rfl,?_⟩
 obtain⟨e,he⟩:=sortedHeap_at (out:=out) hoL
 have hl':=p1.length_eq
 refine⟨.ref h'.objs.size,_,I1.laid (t':=tk) (fun b o x=>?_) (Nat.le_refl _) (show ObjOk X.prog X.w _ _ _ (.lst (ns'.map V.int))from ⟨?_,out.toList,e,vals_of_ints i1,?_⟩),rfl,q _ ns' (I1.hok.fresh (Nat.le_refl _)) p1 s1⟩
 ·have hlt:b<h'.objs.size:=Heap.lt_size x
  rw[sortedHeap_old (Nat.ne_of_lt hlt) (by rw[size_push'];exact Nat.lt_succ_of_lt hlt),Heap.get?_push_ne _ _ _ (Nat.ne_of_lt hlt)]
  exact x
 ·rw[List.length_map,hl']
  exact Nat.le_trans (Nat.le_of_lt h64) (by decide)
 ·rw[Array.toArray_toList]
  exact he
end
end L2
namespace L2
open PySem PySem.Spec PyProof.Rows
def TyQ (K:PySem.W.Frag)(H:Hp)(x:V)(t:Value):Prop:=TyOf K H x t∨(t=.type "tuple"∧∃a ys,x=.ref a∧SqT K H a ys)
theorem call_isiQ {X:Cx}:CallR X (.builtin "isinstance") (fun xs H Q=>∃x c t b,xs=[x,.ty c]∧TyQ X.K H x t∧PySem.W.kitOne X.K t (.type c)=some b∧Q (.bl b) H):=by
 intro pins s σ H xs us Q I r h
 obtain⟨x,c,t,b,rfl,ty,e,q⟩:=h
 rcases ty with ty|⟨rfl,a,ys,rfl,hq⟩
 ·exact call_isi pins s σ H _ us Q I r ⟨x,c,t,b,rfl,ty,e,q⟩
 ·obtain⟨u1,u2,rfl,r1,r2⟩:=vals2 r
  cases (show u1=Value.ref a from r1)
  cases (show u2=Value.type c from r2)
  obtain⟨its,rv,p,_⟩:=I.tuple hq
  obtain⟨o,h1,h2,_⟩:=p
  exact PySem.W.kia_one PySem.W.kitx_tuple I.kIn ⟨o,h1,h2⟩ e (fun z=>nomatch z) fun tk=>⟨.bl b,H,I.kept (t':=tk) fun _ _ e=>e,rfl,q⟩
end L2
namespace L2
open PySem PySem.Spec PyProof.Rows
section
variable {X:Cx}
end
end L2
namespace L2
open PySem PySem.Spec PyProof.Rows
section
variable {X:Cx}
end
end L2
namespace L2
open PySem PySem.Spec PyProof.Rows
section
variable {X:Cx}
end
end L2
set_option maxRecDepth 100000
namespace L2
open PySem PyProof.Rows
section
variable {prog:Program}{w:World}{A:Around}{E:Value→Shared→Prop}{s:Shared}{kd:SortKind}{k:Keyed→Int}{G:Keyed→Prop}
end
end L2
namespace L2
open PySem PyProof.Rows
def Up (k:Keyed→Int)(l:List Keyed):Prop:=l.Pairwise fun x y=>k x≤k y
structure MI (k:Keyed→Int)(tot L ra rb:List Keyed):Prop where
 perm:(L++ra++rb).Perm tot
 up:Up k L
 ua:Up k ra
 ub:Up k rb
 bnd:∀x∈L,∀y,y∈ra∨y∈rb→k x≤k y
theorem Up.app {k:Keyed→Int}{u v:List Keyed}(h1:Up k u)(h2:Up k v)(h:∀x∈u,∀y∈v,k x≤k y):Up k (u++v):=List.pairwise_append.mpr ⟨h1,h2,h⟩
theorem Up.left {k:Keyed→Int}{u v:List Keyed}(h:Up k (u++v)):Up k u:=(List.pairwise_append.mp h).1
theorem Up.right {k:Keyed→Int}{u v:List Keyed}(h:Up k (u++v)):Up k v:=(List.pairwise_append.mp h).2.1
theorem Up.mid {k:Keyed→Int}{u v:List Keyed}(h:Up k (u++v)):∀x∈u,∀y∈v,k x≤k y:=(List.pairwise_append.mp h).2.2
namespace MI
variable {k:Keyed→Int}{tot L ra rb:List Keyed}
theorem take {u ra':List Keyed}(h:MI k tot L ra rb)(e:ra=u++ra')(hu:∀x∈u,∀y∈rb,k x≤k y):MI k tot (L++u) ra' rb:=by
 subst e
 refine⟨?_,h.up.app h.ua.left fun x hx y hy=>h.bnd x hx y (.inl (List.mem_append_left _ hy)),h.ua.right,h.ub,fun x hx y hy=>?_⟩
 ·rw[List.append_assoc L u];exact h.perm
 ·rcases List.mem_append.mp hx with hx|hx
  ·exact h.bnd x hx y (hy.imp (List.mem_append_right _) id)
  ·rcases hy with hy|hy
   ·exact h.ua.mid x hx y hy
   ·exact hu x hx y hy
end MI
section
variable {prog:Program}{w:World}{A:Around}{E:Value→Shared→Prop}{s:Shared}{kd:SortKind}{k:Keyed→Int}{G:Keyed→Prop}
end
end L2
namespace L2
open PySem PyProof.Rows
section
variable {prog:Program}{w:World}{A:Around}{E:Value→Shared→Prop}{s:Shared}{kd:SortKind}{k:Keyed→Int}{G:Keyed→Prop}
end
end L2
namespace L2
open PySem PyProof.Rows
section
variable {prog:Program}{w:World}{A:Around}{E:Value→Shared→Prop}{s:Shared}{kd:SortKind}{k:Keyed→Int}{G:Keyed→Prop}
end
end L2
namespace L2
open PySem PyProof.Rows
structure Kp (xs ys:Array Keyed)(lo:Nat):Prop where
 perm:ys.Perm xs
 low:∀i,i<lo→ys[i]?=xs[i]?
theorem Kp.trans {xs ys zs:Array Keyed}{lo:Nat}(h:Kp xs ys lo)(h':Kp ys zs lo):Kp xs zs lo:=⟨h'.perm.trans h.perm,fun i hi=>(h'.low i hi).trans (h.low i hi)⟩
theorem Kp.size {xs ys:Array Keyed}{lo:Nat}(h:Kp xs ys lo):ys.size=xs.size:=h.perm.size_eq
section
variable {prog:Program}{w:World}{A:Around}{E:Value→Shared→Prop}{s:Shared}{kd:SortKind}{k:Keyed→Int}{G:Keyed→Prop}{ps:Array (Nat×Nat×Nat)}{g:Nat}
end
end L2
namespace L2
open PySem PyProof.Rows
noncomputable def Mt:Nat→List (Nat×Nat×Nat)→List (List Keyed)→Prop
 | _,[],[]=>True
 | p,(a,n,_)::r,z::zs=>a=p∧n=z.length∧0<z.length∧Mt (p+z.length) r zs
 | _,_,_=>False
theorem Mt.len:∀{l:List (Nat×Nat×Nat)}{zs:List (List Keyed)}{p:Nat},Mt p l zs→l.length=zs.length
 | [],[],_,_=>rfl
 | [],_::_,_,h=>h.elim
 | _::_,[],_,h=>h.elim
 |(_,_,_)::r,z::zs,p,h=>by
  have:=Mt.len h.2.2.2
  simp[this]
theorem Mt.size:∀{l:List (Nat×Nat×Nat)}{zs:List (List Keyed)}{p:Nat},Mt p l zs→zs.length≤zs.flatten.length
 | [],[],_,_=>Nat.le_refl _
 | [],_::_,_,h=>h.elim
 | _::_,[],_,h=>h.elim
 |(_,_,_)::r,z::zs,p,h=>by
  have:=Mt.size h.2.2.2
  have:=h.2.2.1
  rw[List.flatten_cons,List.length_append,List.length_cons]
  omega
structure RI (k:Keyed→Int)(x0:List Keyed)(xs:Array Keyed)(ps:Array (Nat×Nat×Nat))(zs:List (List Keyed))(S:List Keyed):Prop where
 perm:xs.toList.Perm x0
 cut:xs.toList=zs.flatten++S
 told:Mt 0 ps.toList zs
 up:∀z∈zs,Up k z
section
variable {prog:Program}{w:World}{A:Around}{E:Value→Shared→Prop}{s:Shared}{kd:SortKind}{k:Keyed→Int}{G:Keyed→Prop}
end
end L2
namespace L2
open PySem PyProof.Rows
section
variable {prog:Program}{w:World}{A:Around}{E:Value→Shared→Prop}{s:Shared}{kd:SortKind}{k:Keyed→Int}{G:Keyed→Prop}
end
section
variable {prog:Program}{w:World}{A:Around}{E:Value→Shared→Prop}{s:Shared}
end
section
variable {prog:Program}{w:World}{A:Around}{E:Value→Shared→Prop}{s:Shared}
end
end L2
namespace L2
open PySem PySem.Spec PyProof.Rows
section
variable {X:Cx}
end
end L2
namespace L2
open PySem PySem.Spec PyProof.Rows
section
variable {X:Cx}
end
end L2
namespace L2
open PySem PySem.Spec PyProof.Rows
section
variable {X:Cx}
theorem op_notIn_seqK (K:PySem.W.Frag)(hK:X.K=K):OpR X (compareOp .NotIn) (rIn K true):=by
 subst hK
 exact op_notIn_seq
end
end L2
namespace L2
open PySem PySem.Spec PyProof.Rows
section
variable {X:Cx}
end
end L2
namespace L2
open PySem PySem.Spec PyProof.Rows
section
variable {X:Cx}
end
end L2
set_option maxRecDepth 100000
namespace PySem
open Sem (wp)
mutual
noncomputable def hashD (w:World):PyData→Int
 |.none=>4238894112
 |.int i=>hashInt i
 |.str x=>hashStr w x
 |.tuple xs=>reduceHash (Builtin.Tuple.tupleHashOf (hashDs w xs))
 |.bool _=>0
 |.list _=>0
 |.dict _=>0
noncomputable def hashDs (w:World):List PyData→List Int
 | []=>[]
 | x::xs=>hashD w x::hashDs w xs
end
noncomputable def kOk:Nat→PyData→Bool
 | _,.none=>true
 | _,.int _=>true
 | _,.str x=>PyData.strOk x
 | n+1,.tuple xs=>xs.all (kOk n)
 | _,_=>false
theorem kOk_lay:∀(n:Nat)(d:PyData),kOk n d=true→d.canLay0=true∧d.depth≤n
 | _,.none,_=>⟨rfl,Nat.zero_le _⟩
 | _,.int _,_=>⟨rfl,Nat.zero_le _⟩
 | n,.str x,h=>by
  refine⟨?_,Nat.zero_le _⟩
  cases n<;>simpa[kOk,PyData.canLay0]using h
 | 0,.tuple _,h=>by simp[kOk]at h
 | n+1,.tuple xs,h=>by
  have hx:∀x∈xs,kOk n x=true:=List.all_eq_true.mp (by simpa[kOk]using h)
  have go:∀ys:List PyData,(∀x∈ys,kOk n x=true)→PyData.canLayAll0 ys=true∧PyData.depthAll ys≤n:=by
   intro ys
   induction ys with
   | nil=>exact fun _=>⟨rfl,Nat.zero_le _⟩
   | cons y ys ih =>
    intro hy
    have h1:=kOk_lay n y (hy y List.mem_cons_self)
    have h2:=ih fun x hx=>hy x (List.mem_cons_of_mem _ hx)
    exact⟨by simp only[PyData.canLayAll0,h1.1,h2.1,Bool.and_self],by simp only[PyData.depthAll];exact Nat.max_le.mpr ⟨h1.2,h2.2⟩⟩
  have g:=go xs hx
  exact⟨by simpa[PyData.canLay0]using g.1,by simp only[PyData.depth];omega⟩
 | n,.bool _,h=>by cases n<;>simp[kOk]at h
 | n,.list _,h=>by cases n<;>simp[kOk]at h
 | n,.dict _,h=>by cases n<;>simp[kOk]at h
theorem hashDs_append (w:World):∀xs ys:List PyData,hashDs w (xs++ys)=hashDs w xs++hashDs w ys
 | [],_=>rfl
 | x::xs,ys=>by
  show hashD w x::hashDs w (xs++ys)=hashD w x::(hashDs w xs++hashDs w ys)
  rw[hashDs_append w xs ys]
theorem pyHash_dat {prog:Program}{w:World}:∀(n:Nat)(d:PyData),kOk n d=true→∀{A:Around}{E:Value→Shared→Prop}{s:Shared}{v:Value}{as:List Addr}{Q:Int→Shared→Prop},Reads s.heap v d as→A.units+n<cLine →
  (∀tk,Q (hashD w d) { s with toks:=tk })→wpAny (model prog w) A (pyHash v) Q E s:=by
 intro n
 induction n with
 | zero =>
  intro d hk A E s v as Q r hu h
  cases r with
  | none=>exact wpAny_pyHash_none (h _)
  | int i t=>exact wpAny_pyHash_int (h _)
  | str x t=>exact wpAny_pyHash_str (h _)
  | bool b=>simp[kOk]at hk
  | list=>simp[kOk]at hk
  | tuple=>simp[kOk]at hk
  | dict=>simp[kOk]at hk
 | succ n ih =>
  intro d hk A E s v as Q r hu h
  cases r with
  | none=>exact wpAny_pyHash_none (h _)
  | int i t=>exact wpAny_pyHash_int (h _)
  | str x t=>exact wpAny_pyHash_str (h _)
  | bool b=>simp[kOk]at hk
  | list=>simp[kOk]at hk
  | dict=>simp[kOk]at hk
  | @tuple a o items k xs as ho hc hd hi =>
   have hx:∀x∈xs,kOk n x=true:=List.all_eq_true.mp (by simpa[kOk]using hk)
   have hT:s.TypeIs (.ref a) "tuple":=⟨o,ho,hc⟩
   unfold pyHash
   first|unfold pyHashByItsType|skip
   first|refine wpAny_bind (wpAny_cRoomFor_or (.inr (by omega)) ?_)|skip
   refine wpAny_bind (wpAny_specialOf hT F.slot_tuple_hash.lookup ?_)
   show wpAny _ _ (if (some (Value.builtin "tuple.__hash__")==some Value.none)=true then _ else _) _ _ _
   rw[if_neg (by rw[beq_builtin_none];exact Bool.false_ne_true)]
   refine wpAny_bind (wpAny_specialOf hT F.slot_tuple_hash.lookup ?_)
   show wpAny _ _ (callSpecialIfBoundUnlessNone? (.ref a) "__hash__" _ >>= _) _ _ _
   refine wpAny_bind (wpAny_callSpecialIfBoundUnlessNone?_slot hT F.slot_tuple_hash (wpAny_call_entry F.slot_tuple_hash hT F.entry_tuple_hash ?_ (F.args_tuple_hash_1 _)))
   show wpAny _ _ (Builtin.Tuple.tupleItemsOf (.ref a) >>= _) _ _ _
   refine wpAny_bind (wpAny_tupleItemsOf ho hd (wpAny_bind ?_))
   rw[←Array.forIn_toList]
   refine wpAny_forIn_list _ (fun rest (b:Array Int) s'=>∃done left bs,xs=done++left∧ReadsAll s.heap rest left bs∧b.toList=hashDs w done∧∃tk,s'={ s with toks:=tk }) _ ?_ ?_ _ _ ⟨[],xs,as,rfl,hi,rfl,s.toks,rfl⟩
   ·rintro x rest b s' ⟨done,left,bs,rfl,hl,hb,tk,rfl⟩
    cases hl with
    | @cons _ _ d ds b1 b2 h1 hl' =>
     refine wpAny_bind (ih d (hx d (by simp)) h1 (by show A.units+1+n<cLine;omega) fun tk2=>?_)
     have e:∀{P:Prop},(P↔P):=Iff.rfl
     first
      | exact wpAny_pure ⟨done++[d],ds,b2,by simp,hl',by rw[hashDs_append];simp[hb,hashDs],tk2,rfl⟩
      | exact wpAny_bind (wpAny_pure (wpAny_pure ⟨done++[d],ds,b2,by simp,hl',by rw[hashDs_append];simp[hb,hashDs],tk2,rfl⟩))
   ·rintro b s' ⟨done,left,bs,rfl,hl,hb,tk,rfl⟩
    cases hl
    rw[List.append_nil]at h
    show wpAny _ _ (retInt (Builtin.Tuple.tupleHashOf b.toList)) _ _ _
    rw[hb]
    refine wpAny_ret_mkInt ?_
    have hh:hashD w (.tuple done)=reduceHash (Builtin.Tuple.tupleHashOf (hashDs w done)):=by simp only[hashD]
    rw[hh]at h
    generalize Builtin.Tuple.tupleHashOf (hashDs w done)=z at h ⊢
    unfold reduceHash at h
    show wpAny _ _ (if (decide (-(2:Int) ^ 63≤z)&&decide (z<2 ^ 63))=true then _ else _) _ _ _
    by_cases hr:(decide (-(2:Int) ^ 63≤z)&&decide (z<2 ^ 63))=true
    ·rw[if_pos hr]
     rw[if_pos hr]at h
     exact wpAny_pure (h _)
    ·rw[if_neg hr]
     rw[if_neg hr]at h
     exact wpAny_bind (wpAny_rule (wpAny_pure (h _)))
theorem quiet_dat {prog:Program}{w:World}:∀(n:Nat)(d:PyData),kOk n d=true→∀{A:Around}{E:Value→Shared→Prop}{s:Shared}{v:Value}{as:List Addr}{Q:Bool→Shared→Prop}{m:Nat},Reads s.heap v d as→n≤m →
  Q true s→wpAny (model prog w) A (eqIsQuiet m v) Q E s:=by
 intro n
 induction n with
 | zero =>
  intro d hk A E s v as Q m r hm h
  cases r with
  | none=>rw[eqIsQuiet_byValue _ rfl];exact wpAny_pure h
  | int i t=>rw[eqIsQuiet_byValue _ rfl];exact wpAny_pure h
  | str x t=>rw[eqIsQuiet_byValue _ rfl];exact wpAny_pure h
  | bool b=>simp[kOk]at hk
  | list=>simp[kOk]at hk
  | tuple=>simp[kOk]at hk
  | dict=>simp[kOk]at hk
 | succ n ih =>
  intro d hk A E s v as Q m r hm h
  cases r with
  | none=>rw[eqIsQuiet_byValue _ rfl];exact wpAny_pure h
  | int i t=>rw[eqIsQuiet_byValue _ rfl];exact wpAny_pure h
  | str x t=>rw[eqIsQuiet_byValue _ rfl];exact wpAny_pure h
  | bool b=>simp[kOk]at hk
  | list=>simp[kOk]at hk
  | dict=>simp[kOk]at hk
  | @tuple a o items k xs as ho hc hd hi =>
   have hx:∀x∈xs,kOk n x=true:=List.all_eq_true.mp (by simpa[kOk]using hk)
   have hT:s.TypeIs (.ref a) "tuple":=⟨o,ho,hc⟩
   obtain⟨m',rfl⟩:∃m',m=m'+1:=⟨m-1,by omega⟩
   unfold eqIsQuiet
   refine wpAny_bind (wpAny_specialOf hT F.slot_tuple_eq.lookup ?_)
   show wpAny _ _ (isInstance (.ref a) (.type "tuple") >>= _) _ _ _
   refine wpAny_bind (wpAny_isInstance hT isSubtype_tuple_tuple ?_)
   simp only[Bool.not_true,Bool.false_eq_true,if_false]
   refine wpAny_bind (wpAny_seqItems ho hd (wpAny_bind ?_))
   show wpAny _ _ (forIn items _ _) _ _ _
   rw[←Array.forIn_toList]
   refine wpAny_forIn_list _ (fun rest r s'=>r.1=none∧s'=s∧∃left bs,(∀x∈left,kOk n x=true)∧ReadsAll s.heap rest left bs) _ ?_ ?_ _ _ ⟨rfl,rfl,xs,as,hx,hi⟩
   ·rintro v rest r s' ⟨hr,rfl,left,bs,hl,hrd⟩
    cases hrd with
    | @cons _ _ d ds b1 b2 h1 h2 =>
     refine wpAny_bind (ih d (hl d List.mem_cons_self) h1 (by omega) ?_)
     simp only[Bool.not_true,Bool.false_eq_true,if_false]
     exact wpAny_pure ⟨rfl,rfl,ds,b2,fun x hx=>hl x (List.mem_cons_of_mem _ hx),h2⟩
   ·rintro ⟨r1,r2⟩ s' ⟨hr,rfl,_⟩
    simp only at hr
    subst hr
    exact wpAny_pure h
structure KD (K:Type) [DecidableEq K] where
 dat:K→PyData
 ok:∀k,kOk 8 (dat k)=true
 eq:∀x y,PyData.eqv (dat x) (dat y)=decide (x=y)
section
variable {prog:Program}{w:World}{K:Type} [DecidableEq K]{kd:KD K}
def KD.At (kd:KD K)(h:Heap)(k:K)(v:Value):Prop:=∃as,Reads h v (kd.dat k) as
theorem KD.inj {h:Heap}{x y:K}{v:Value}(hx:kd.At h x v)(hy:kd.At h y v):x=y:=by
 obtain⟨as,r⟩:=hx
 obtain⟨bs,q⟩:=hy
 have e:=SeqAt.Reads.unique _ _ _ _ _ (kOk_lay 8 _ (kd.ok x)).1 r q
 have h1:=kd.eq x y
 rw[←e,SeqAt.eqv_refl _ (kOk_lay 8 _ (kd.ok x)).1]at h1
 exact of_decide_eq_true h1.symm
variable {A:Around}{E:Value→Shared→Prop}{s:Shared}
theorem KD.same {x y:K}{u v:Value}{Q:Bool→Shared→Prop}(hu:A.units+8<cLine)(hx:kd.At s.heap x u)(hy:kd.At s.heap y v)(h:Q (decide (x=y)) s):wpAny (model prog w) A (eqBool u v) Q E s:=by
 obtain⟨as,r⟩:=hx
 obtain⟨bs,q⟩:=hy
 have h1:=kOk_lay 8 _ (kd.ok x)
 have h2:=kOk_lay 8 _ (kd.ok y)
 refine SeqAt.eqAt_reads _ _ A s u v as bs r q h1.1 h2.1 ?_ prog w E Q (by rw[kd.eq];exact h)
 have:=Nat.min_le_left (kd.dat x).depth (kd.dat y).depth
 omega
theorem KD.hashed {k:K}{v:Value}{Q:Int→Shared→Prop}(hu:A.units+8<cLine)(hk:kd.At s.heap k v)(h:∀tk,Q (hashD w (kd.dat k)) { s with toks:=tk }):wpAny (model prog w) A (pyHash v) Q E s :=
 let ⟨_,r⟩:=hk
 pyHash_dat 8 _ (kd.ok k) r hu h
end
end PySem
namespace PySem
open Sem (wp)
section
variable {prog:Program}{w:World}{K:Type} [DecidableEq K]{kd:KD K}{A:Around}{E:Value→Shared→Prop}{s:Shared}
noncomputable def KD.ent (kd:KD K)(w:World)(x:K×Value×Value):DictEntry:=⟨hashD w (kd.dat x.1),x.2.1,x.2.2⟩
structure KD.Ents (kd:KD K)(w:World)(h:Heap)(xs:List (K×Value×Value))(es:Array DictEntry):Prop where
 es:es.toList=xs.map (kd.ent w)
 is:∀x∈xs,kd.At h x.1 x.2.1
 nd:(xs.map (·.1)).Nodup
theorem KD.Ents.at {h:Heap}{xs:List (K×Value×Value)}{es:Array DictEntry}(e:kd.Ents w h xs es)(j:Nat):es[j]?=(xs[j]?).map (kd.ent w):=by
 rw[←Array.getElem?_toList,e.es,List.getElem?_map]
theorem KD.Ents.size {h:Heap}{xs:List (K×Value×Value)}{es:Array DictEntry}(e:kd.Ents w h xs es):es.size=xs.length:=by
 rw[←Array.length_toList,e.es,List.length_map]
theorem ix_one {xs:List (K×Value×Value)}(hn:(xs.map (·.1)).Nodup){i j:Nat}{k:K}{p q:Value×Value}(hi:xs[i]?=some (k,p))(hj:xs[j]?=some (k,q)):i=j:=by
 have hi':(xs.map (·.1))[i]?=some k:=by rw[List.getElem?_map,hi];rfl
 have hj':(xs.map (·.1))[j]?=some k:=by rw[List.getElem?_map,hj];rfl
 exact(List.getElem?_inj (List.getElem?_eq_some_iff.mp hi').1 hn).mp (hi'.trans hj'.symm)
theorem KD.mayTell {k:K}{key:Value}{stored:List Value}{Q:Bool→Shared→Prop}(hkey:kd.At s.heap k key)(hst:∀v∈stored,∃k',kd.At s.heap k' v)(h:Q false s):wpAny (model prog w) A (tableMayTell key stored) Q E s:=by
 unfold tableMayTell
 split
 ·exact wpAny_pure h
 ·obtain⟨_,r⟩:=hkey
  refine wpAny_bind (quiet_dat 8 _ (kd.ok k) r (Nat.le_refl _) ?_)
  simp only[Bool.not_true,Bool.false_eq_true,if_false]
  refine wpAny_bind ?_
  refine wpAny_forIn_list _ (fun rest r s'=>s'=s∧r=(none,())∧∀v∈rest,∃k',kd.At s.heap k' v) _ ?_ ?_ _ _ ⟨rfl,rfl,hst⟩
  ·rintro x rest r s' ⟨rfl,rfl,hr⟩
   obtain⟨k',_,hb⟩:=hr x List.mem_cons_self
   refine wpAny_bind (quiet_dat 8 _ (kd.ok k') hb (Nat.le_refl _) ?_)
   simp only[Bool.not_true,Bool.false_eq_true,if_false]
   exact wpAny_pure ⟨rfl,rfl,fun v hv=>hr v (List.mem_cons_of_mem _ hv)⟩
  ·rintro r s' ⟨rfl,rfl,_⟩
   exact wpAny_pure h
theorem KD.shape {h:Heap}{k:K}{v:Value}(hk:kd.At h k v):v=.none∨(∃i t,v=.int i t)∨(∃x t,v=.str x t∧kd.dat k=.str x)∨∃a,v=.ref a:=by
 obtain⟨as,r⟩:=hk
 have ok:=kd.ok k
 generalize kd.dat k=d at r ok
 cases r with
 | none=>exact .inl rfl
 | int i t=>exact .inr (.inl ⟨_,_,rfl⟩)
 | str x t=>exact .inr (.inr (.inl ⟨_,_,rfl,rfl⟩))
 | bool b=>simp[kOk]at ok
 | list=>exact .inr (.inr (.inr ⟨_,rfl⟩))
 | dict=>exact .inr (.inr (.inr ⟨_,rfl⟩))
 | tuple=>exact .inr (.inr (.inr ⟨_,rfl⟩))
theorem wp_ite {M:Model}{A:Around}{α:Type}{Q:α→Shared→Prop}{E:Value→Shared→Prop}{s:Shared}{c:Prop} [Decidable c]{x y:Sem α}(h1:c→wpAny M A x Q E s)(h2:¬c→wpAny M A y Q E s):wpAny M A (if c then x else y) Q E s:=by
 by_cases h:c
 ·rw[if_pos h];exact h1 h
 ·rw[if_neg h];exact h2 h
theorem KD.found {d : Addr} {o : Obj} {es : Array DictEntry} {ep : Nat} {xs : List (K × Value × Value)} {k : K} {key : Value} {Q : Option Nat→Shared→Prop} (hu : A.units + 8 < cLine) (hkey : kd.At s.heap k key) (ho : s.heap.get? d = some o) (hd : o.data = .dict es ep) (he : kd.Ents w s.heap xs es)
    (hnone : (∀ (j : Nat) (p : Value × Value),xs[j]?≠some (k,p))→Q none s) (hsome : ∀ (j : Nat) (p : Value × Value),xs[j]? = some (k,p)→Q (some j) s) : wpAny (model prog w) A (dictFind d key (hashD w (kd.dat k))) Q E s:=by
  have hat:=he.at
  have hpl : ∀ j ∈ placesWithHash es.size (fun i=>es[i]?.map (·.hash)) (hashD w (kd.dat k)), ∃ k' v z,xs[j]? = some (k',v,z)∧es[j]? = some ⟨hashD w (kd.dat k'),v,z⟩∧kd.At s.heap k' v∧(hashD w (kd.dat k') == hashD w (kd.dat k)) = true:=by
    intro j hj
    obtain ⟨h1,h2⟩:=List.mem_filter.mp hj
    have hlt : j < xs.length:=by rw [← he.size]; exact List.mem_range.mp h1
    have hx : xs[j]? = some xs[j]:=List.getElem?_eq_getElem hlt
    dsimp only at h2
    rw [hat j,hx] at h2
    refine ⟨xs[j].1,xs[j].2.1,xs[j].2.2,hx,by rw [hat j,hx]; rfl,he.is _ (List.getElem_mem hlt), ?_⟩
    simpa [KD.ent] using h2
  have hin : ∀ (j : Nat) (p : Value × Value),xs[j]? = some (k,p)→j ∈ placesWithHash es.size (fun i=>es[i]?.map (·.hash)) (hashD w (kd.dat k)):=by
    intro j p hj
    have hlt : j < xs.length:=(List.getElem?_eq_some_iff.mp hj).1
    refine List.mem_filter.mpr ⟨List.mem_range.mpr (by rw [he.size]; exact hlt), ?_⟩
    show ((es[j]?.map (·.hash)) == some (hashD w (kd.dat k))) = true
    rw [hat j,hj]
    simp [KD.ent]
  have hst : ∀ v ∈ (placesWithHash es.size (fun i=>es[i]?.map (·.hash)) (hashD w (kd.dat k))).filterMap (fun i=>es[i]?.map (·.key)), ∃ k',kd.At s.heap k' v:=by
    intro v hv
    obtain ⟨i,hi,e⟩:=List.mem_filterMap.mp hv
    obtain ⟨k',v',z,_,h2,h3,_⟩:=hpl i hi
    rw [h2] at e
    cases e
    exact ⟨k',h3⟩
  have hnd : (placesWithHash es.size (fun i=>es[i]?.map (·.hash)) (hashD w (kd.dat k))).Nodup:=List.Nodup.sublist List.filter_sublist List.nodup_range
  generalize hps : placesWithHash es.size (fun i=>es[i]?.map (·.hash)) (hashD w (kd.dat k)) = ps at hpl hin hst hnd
  have plain : wpAny (model prog w) A (dictWalkPlain d key (hashD w (kd.dat k)) es ps) Q E s:=by
    refine wpAny_bind ?_
    refine wpAny_forIn_list _ (fun rest b s'=>s' = s∧b = (none,()) ∧ ∃ pre,ps = pre ++ rest ∧ ∀ j ∈ pre, ∀ p : Value × Value,xs[j]?≠some (k,p)) _ ?_ ?_ _ _ ⟨rfl,rfl, [],rfl,fun j hj=>nomatch hj⟩
    · rintro x rest b s' ⟨rfl,rfl,pre,hpre,hno⟩
      obtain ⟨k',v,z,hx,hex,hv,hh⟩:=hpl x (by rw [hpre]; simp)
      rw [hex]
      dsimp only
      rw [if_pos hh]
      refine wpAny_bind (wpAny_dictEpoch ho hd (wpAny_bind (kd.same (x:=k') (y:=k) hu hv hkey (wpAny_bind (wpAny_dictEpoch ho hd ?_)))))
      show wpAny _ _ (if (ep != ep) = true then _ else _) _ _ _
      rw [if_neg (by simp)]
      by_cases hkk : k' = k
      · rw [decide_eq_true hkk]
        subst hkk
        exact wpAny_bind (wpAny_rule (wpAny_pure (wpAny_pure (hsome x _ hx))))
      · rw [decide_eq_false hkk]
        refine wpAny_bind (wpAny_rule (wpAny_pure ⟨rfl,rfl,pre ++ [x],by simp [hpre],fun j hj p hp => ?_⟩))
        rcases List.mem_append.mp hj with y | y
        · exact hno j y p hp
        · obtain rfl : j = x:=by simpa using y
          rw [hx] at hp
          injection hp with hp
          injection hp with hp
          exact hkk hp
    · rintro b s' ⟨rfl,rfl,pre,hpre,hno⟩
      refine wpAny_pure (hnone fun j p hj => ?_)
      have:=hin j p hj
      rw [hpre,List.append_nil] at this
      exact hno j this p hj
  unfold dictFind
  try with_reducible refine wpAny_holding ?_
  refine wpAny_bind (wpAny_dictEntries ho hd ?_)
  dsimp only
  rw [hps]
  have byTxt : ∀ (x : Str) (t : Tok),key = .str x t→kd.dat k = .str x→es.all (fun e=>isExactStrKey e.key) = true→wpAny (model prog w) A (foundByValue d key es x) Q E s:=by
    rintro x t rfl hdk hall
    unfold foundByValue
    cases hf : es.findIdx? (fun e=>e.key.isStr x) with
    | none =>
      refine wpAny_pure (hnone fun j p hj => ?_)
      have h1:=Array.findIdx?_eq_none_iff.mp hf
      have h2:=hat j
      rw [hj] at h2
      have h3:=h1 _ (Array.mem_of_getElem? h2)
      obtain ⟨as,r⟩:=he.is _ (List.mem_of_getElem? hj)
      obtain ⟨p1,p2⟩:=p
      rw [show kd.dat (k,p1,p2).1 = _ from hdk] at r
      replace h3 : ¬ p1.isStr x = true:=by simpa [KD.ent] using h3
      replace r : Reads s.heap p1 (.str x) as:=r
      cases r
      simp [Value.isStr] at h3
    | some i =>
      obtain ⟨hlt,hi,_⟩:=Array.findIdx?_eq_some_iff_getElem.mp hf
      have hx : xs[i]? = some (xs[i]'(by rw [← he.size]; exact hlt)):=List.getElem?_eq_getElem _
      have h2:=hat i
      rw [hx,Array.getElem?_eq_getElem hlt] at h2
      have h3 : es[i] = kd.ent w (xs[i]'(by rw [← he.size]; exact hlt)):=Option.some.inj h2
      have hA:=he.is _ (List.mem_of_getElem? hx)
      rw [h3] at hi
      have hkk : (xs[i]'(by rw [← he.size]; exact hlt)).1 = k:=by
        generalize xs[i]'(by rw [← he.size]; exact hlt) = y at hi hA
        obtain ⟨k',v,z⟩:=y
        rcases KD.shape hA with e | ⟨j,u,e⟩ | ⟨y,u,e,e2⟩ | ⟨a,e⟩
        · rw [show (kd.ent w (k',v,z)).key = v from rfl,show v = _ from e] at hi; simp [Value.isStr] at hi
        · rw [show (kd.ent w (k',v,z)).key = v from rfl,show v = _ from e] at hi; simp [Value.isStr] at hi
        · rw [show (kd.ent w (k',v,z)).key = v from rfl,show v = _ from e] at hi
          have e3 : y = x:=by simpa [Value.isStr] using hi
          have h5:=kd.eq k' k
          rw [show kd.dat k' = _ from e2,hdk,e3,SeqAt.eqv_refl (.str x) (by rw [← hdk]; exact (kOk_lay 8 _ (kd.ok k)).1)] at h5
          exact of_decide_eq_true h5.symm
        · rw [show (kd.ent w (k',v,z)).key = v from rfl,show v = _ from e] at hi; simp [Value.isStr] at hi
      simp only [Array.getElem?_eq_getElem hlt]
      rw [h3]
      refine wpAny_bind (wpAny_dictEpoch ho hd (wpAny_bind (kd.same (y:=k) hu hA hkey (wpAny_bind (wpAny_dictEpoch ho hd ?_)))))
      show wpAny _ _ (if (ep != ep) = true then _ else _) _ _ _
      rw [if_neg (by simp),decide_eq_true hkk]
      refine wpAny_bind (wpAny_rule (wpAny_pure (hsome i (xs[i]'(by rw [← he.size]; exact hlt)).2 ?_)))
      rw [hx, ← hkk]
  have hany : ∀ a,key = .ref a → ¬ (es.any fun e=>e.key == Value.ref a && e.hash != hashD w (kd.dat k)) = true:=by
    rintro a rfl hc
    rw [← Array.any_toList,List.any_eq_true] at hc
    obtain ⟨e,hin',hc⟩:=hc
    rw [he.es] at hin'
    obtain ⟨y,hy,rfl⟩:=List.mem_map.mp hin'
    simp only [KD.ent,Bool.and_eq_true,beq_iff_eq,bne_iff_ne,ne_eq] at hc
    have h1:=he.is y hy
    rw [hc.1] at h1
    exact hc.2 (by rw [KD.inj h1 hkey])
  by_cases hstr : ∃ x t,key = .str x t∧kd.dat k = .str x∧es.all (fun e=>isExactStrKey e.key) = true
  · obtain ⟨x,t,rfl,hdk,hall⟩:=hstr
    dsimp only
    rw [if_pos hall]
    exact byTxt x t rfl hdk hall
  rcases KD.shape hkey with rfl | ⟨i,t,rfl⟩ | ⟨x,t,rfl,hdk⟩ | ⟨a,rfl⟩
  all_goals
    dsimp only
    first | rw [if_neg (fun y=>hstr ⟨_,_,rfl,hdk,y⟩)] | skip
  all_goals
    first | refine (wp_ite (fun _=>plain) fun hall => ?_) | skip
  all_goals
    first | rw [if_neg (hany _ rfl)] | skip
  all_goals
    refine (fun key0=>wp_ite (fun _=>wpAny_bind (wpAny_pure key0)) fun _=>wpAny_bind (KD.mayTell hkey hst key0)) ?_
  all_goals
    rw [if_neg (by simp)]
    refine wpAny_bind ?_
    refine wpAny_forIn_list _ (fun rest b s'=>s' = s ∧ ∃ hit,b = (none,hit) ∧ ∃ pre,ps = pre ++ rest∧((hit = none ∧ ∀ j ∈ pre, ∀ p : Value × Value,xs[j]?≠some (k,p)) ∨ ∃ j p,j ∈ pre∧hit = some j∧xs[j]? = some (k,p))) _ ?_ ?_ _ _ ⟨rfl,none,rfl, [],rfl, .inl ⟨rfl,fun j hj=>nomatch hj⟩⟩
    · rintro x rest b s' ⟨rfl,hit,rfl,pre,hpre,hH⟩
      obtain ⟨k',v,z,hx,hex,hv,hh⟩:=hpl x (by rw [hpre]; simp)
      rw [hex]
      dsimp only
      rw [if_pos hh]
      refine wpAny_bind (wpAny_dictEpoch ho hd (wpAny_bind (kd.same (x:=k') (y:=k) hu hv hkey (wpAny_bind (wpAny_dictEpoch ho hd ?_)))))
      show wpAny _ _ (if (ep != ep) = true then _ else _) _ _ _
      rw [if_neg (by simp)]
      by_cases hkk : k' = k
      · rw [decide_eq_true hkk]
        subst hkk
        rcases hH with ⟨rfl,_⟩ | ⟨j,p,hj,_,hjx⟩
        · first | rw [if_pos rfl] | skip
          simp only [Option.isSome_none,Bool.false_eq_true,if_false]
          first | refine wpAny_bind (wpAny_pure ?_) | skip
          refine wpAny_bind (wpAny_rule ?_)
          split
          · exact wpAny_pure (wpAny_pure (hsome x _ hx))
          · exact wpAny_pure ⟨rfl,some x,rfl,pre ++ [x],by simp [hpre], .inr ⟨x,_,by simp,rfl,hx⟩⟩
        · exfalso
          have e:=ix_one he.nd hjx hx
          rw [hpre] at hnd
          have:=(List.nodup_append.mp hnd).2.2 x (by rw [← e]; exact hj) x (by simp)
          exact this rfl
      · rw [decide_eq_false hkk]
        simp only [Bool.false_eq_true,if_false]
        have nx : (hit = none ∧ ∀ j ∈ pre ++ [x], ∀ p : Value × Value,xs[j]?≠some (k,p)) ∨ ∃ j p,j ∈ pre ++ [x]∧hit = some j∧xs[j]? = some (k,p):=by
          rcases hH with ⟨h1,hno⟩ | ⟨j,p,hj,h1,h2⟩
          · refine .inl ⟨h1,fun j hj p hp => ?_⟩
            rcases List.mem_append.mp hj with y | y
            · exact hno j y p hp
            · obtain rfl : j = x:=by simpa using y
              rw [hx] at hp
              injection hp with hp
              injection hp with hp
              exact hkk hp
          · exact .inr ⟨j,p,List.mem_append_left _ hj,h1,h2⟩
        refine wpAny_bind (wpAny_rule ?_)
        first | rw [if_neg (by simp)] | skip
        first
          | exact wpAny_pure ⟨rfl,hit,rfl,pre ++ [x],by simp [hpre],nx⟩
          | exact wpAny_bind (wpAny_pure (wpAny_pure ⟨rfl,hit,rfl,pre ++ [x],by simp [hpre],nx⟩))
    · rintro b s' ⟨rfl,hit,rfl,pre,hpre,hH⟩
      rw [List.append_nil] at hpre
      rcases hH with ⟨rfl,hno⟩ | ⟨j,p,_,rfl,hj⟩
      · exact wpAny_pure (hnone fun j p hj=>hno j (by rw [← hpre]; exact hin j p hj) p hj)
      · exact wpAny_pure (hsome j p hj)
def KD.Dict (kd:KD K)(w:World)(h:Heap)(d:Addr)(xs:List (K×Value×Value)):Prop:=∃o es ep,h.get? d=some o∧o.ExactDict∧o.data=.dict es ep∧kd.Ents w h xs es
noncomputable def atX {α:Type}(xs:List (K×α))(k:K):Option α:=(xs.find? fun x=>decide (x.1=k)).map (·.2)
theorem atX_none {α:Type}{xs:List (K×α)}{k:K}(h:∀(j:Nat)(p:α),xs[j]?≠some (k,p)):atX xs k=none:=by
 have:(xs.find? fun x=>decide (x.1=k))=none:=by
  rw[List.find?_eq_none]
  intro x hx hk
  obtain⟨j,hj⟩:=List.mem_iff_getElem?.mp hx
  have hk':x.1=k:=of_decide_eq_true hk
  exact h j x.2 (by rw[hj,←hk'])
 simp[atX,this]
theorem atX_some {α:Type}:∀{xs:List (K×α)}{j:Nat}{k:K}{p:α},(xs.map (·.1)).Nodup→xs[j]?=some (k,p)→atX xs k=some p
 | [],_,_,_,_,h=>by simp at h
 | x::xs,0,k,p,_,h=>by
  simp only[List.getElem?_cons_zero,Option.some.injEq]at h
  subst h
  simp[atX]
 | x::xs,j+1,k,p,hn,h=>by
  rw[List.map_cons,List.nodup_cons]at hn
  simp only[List.getElem?_cons_succ]at h
  have hne:¬x.1=k:=fun e=>hn.1 (e▸List.mem_map.mpr ⟨(k,p),List.mem_of_getElem? h,rfl⟩)
  have:=atX_some hn.2 h
  simpa[atX,List.find?_cons,hne]using this
theorem KD.get {d:Addr}{xs:List (K×Value×Value)}{k:K}{key:Value}{Q:Option Value→Shared→Prop}(hu:A.units+8<cLine)(hkey:kd.At s.heap k key)(hm:kd.Dict w s.heap d xs)(h:∀tk,Q ((atX xs k).map (·.2)) { s with toks:=tk }):wpAny (model prog w) A (dictGet d key) Q E s:=by
 obtain⟨o,es,ep,ho,_,hd,he⟩:=hm
 unfold dictGet
 try with_reducible refine wpAny_holding ?_
 refine wpAny_bind (KD.hashed hu hkey fun tk=>wpAny_bind (KD.found (s:={ s with toks:=tk }) hu hkey ho hd he ?_ ?_))
 ·intro hno
  rw[atX_none hno]at h
  exact wpAny_pure (h tk)
 ·intro j p hj
  rw[atX_some he.nd hj]at h
  refine wpAny_bind (wpAny_dictEntries (s:={ s with toks:=tk }) ho hd ?_)
  rw[he.at j,hj]
  exact wpAny_pure (h tk)
noncomputable def putX {α β:Type}:List (K×β×α)→K→β→α→List (K×β×α)
 | [],k,u,v=>[(k,u,v)]
 | x::xs,k,u,v=>if x.1=k then (x.1,x.2.1,v)::xs else x::putX xs k u v
theorem putX_new {α β:Type}(f:K×Value×α→β){k:K}{u:Value}{v:α}:∀{xs:List (K×Value×α)},(∀(j:Nat)(p:Value×α),xs[j]?≠some (k,p))→(putX xs k u v).map f=xs.map f++[f (k,u,v)]
 | [],_=>rfl
 | x::xs,h=>by
  have hne:¬x.1=k:=fun e=>h 0 x.2 (by rw[←e];rfl)
  rw[putX,if_neg hne,List.map_cons,putX_new f (xs:=xs) fun j p=>h (j+1) p]
  rfl
theorem putX_old {α β:Type}(f:K×Value×α→β)(g:β→β){k:K}{u:Value}{v:α}(hg:∀a b,g (f (k,a,b))=f (k,a,v)):∀{xs:List (K×Value×α)}{j:Nat}{p:Value×α},(xs.map (·.1)).Nodup→xs[j]?=some (k,p)→(putX xs k u v).map f=(xs.map f).modify j g
 | [],_,_,_,h=>by simp at h
 | x::xs,0,p,_,h=>by
  simp only[List.getElem?_cons_zero,Option.some.injEq]at h
  subst h
  rw[putX,if_pos rfl,List.map_cons,List.map_cons,List.modify_zero_cons,hg]
 | x::xs,j+1,p,hn,h=>by
  rw[List.map_cons,List.nodup_cons]at hn
  simp only[List.getElem?_cons_succ]at h
  have hne:¬x.1=k:=fun e=>hn.1 (e▸List.mem_map.mpr ⟨(k,p),List.mem_of_getElem? h,rfl⟩)
  rw[putX,if_neg hne,List.map_cons,putX_old f g hg hn.2 h,List.map_cons,List.modify_succ_cons]
theorem putX_keys {α:Type}{k:K}{u:Value}{v:α}{x:K}:∀{xs:List (K×Value×α)},x∈(putX xs k u v).map (·.1)→x=k∨x∈xs.map (·.1)
 | [],h=>.inl (by simpa[putX]using h)
 | y::xs,h=>by
  unfold putX at h
  split at h
  ·exact .inr (by simpa using h)
  ·rw[List.map_cons,List.mem_cons]at h
   rcases h with e|e
   ·exact .inr (by simp[e])
   ·rcases putX_keys e with z|z
    ·exact .inl z
    ·exact .inr (by rw[List.map_cons];exact List.mem_cons_of_mem _ z)
theorem putX_nd {α:Type}{k:K}{u:Value}{v:α}:∀{xs:List (K×Value×α)},(xs.map (·.1)).Nodup→((putX xs k u v).map (·.1)).Nodup
 | [],_=>by simp[putX]
 | y::xs,h=>by
  rw[List.map_cons,List.nodup_cons]at h
  unfold putX
  split
  ·exact List.nodup_cons.mpr h
  ·rename_i hne
   refine List.nodup_cons.mpr ⟨fun z=>?_,putX_nd h.2⟩
   rcases putX_keys z with e|e
   ·exact hne e
   ·exact h.1 e
theorem putX_mem {α:Type}{k:K}{u:Value}{v:α}{x:K×Value×α}:∀{xs:List (K×Value×α)},x∈putX xs k u v→x=(k,u,v)∨∃y∈xs,y.1=x.1∧y.2.1=x.2.1
 | [],h=>.inl (by simpa[putX]using h)
 | y::xs,h=>by
  unfold putX at h
  split at h
  ·rcases List.mem_cons.mp h with e|e
   ·exact .inr ⟨y,by simp,by rw[e],by rw[e]⟩
   ·exact .inr ⟨x,by simp[e],rfl,rfl⟩
  ·rcases List.mem_cons.mp h with e|e
   ·exact .inr ⟨y,by simp,by rw[e],by rw[e]⟩
   ·rcases putX_mem e with z|⟨c,hc,e1⟩
    ·exact .inl z
    ·exact .inr ⟨c,List.mem_cons_of_mem _ hc,e1⟩
theorem KD.At.keeps {h h':Heap}{k:K}{v:Value}{d:Addr}{o:Obj}{es:Array DictEntry}{ep:Nat}(x:kd.At h k v)(ho:h.get? d=some o)(hd:o.data=.dict es ep)(hs:Heap.SameBut d h h'):kd.At h' k v:=by
 obtain⟨as,r⟩:=x
 have go:∀(n:Nat)(e:PyData),kOk n e=true→∀{v:Value}{as:List Addr},Reads h v e as→Reads h' v e as:=by
  intro n
  induction n with
  | zero =>
   intro e he v as r
   cases r with
   | none=>exact .none
   | int i t=>exact .int i t
   | str x t=>exact .str x t
   | bool b=>exact .bool b
   | list=>simp[kOk]at he
   | tuple=>simp[kOk]at he
   | dict=>simp[kOk]at he
  | succ n ih =>
   intro e he v as r
   cases r with
   | none=>exact .none
   | int i t=>exact .int i t
   | str x t=>exact .str x t
   | bool b=>exact .bool b
   | list=>simp[kOk]at he
   | dict=>simp[kOk]at he
   | @tuple a o' items k xs as h1 h2 h3 h4 =>
    have hx:∀x∈xs,kOk n x=true:=List.all_eq_true.mp (by simpa[kOk]using he)
    have hne:a≠d:=by
     rintro rfl
     rw[h1]at ho
     cases ho
     rw[h3]at hd
     cases hd
    refine .tuple ((hs.2 a hne).trans h1) h2 h3 ?_
    have all:∀{vs:List Value}{ds:List PyData}{bs:List Addr},(∀x∈ds,kOk n x=true)→ReadsAll h vs ds bs→ReadsAll h' vs ds bs:=by
     intro vs ds
     induction ds generalizing vs with
     | nil=>intro bs _ r;cases r;exact .nil
     | cons d ds ih2 =>
      intro bs hd r
      cases r with
      | cons r1 r2=>exact .cons (ih d (hd d List.mem_cons_self) r1) (ih2 (fun x hx=>hd x (List.mem_cons_of_mem _ hx)) r2)
    exact all hx h4
 exact⟨as,go 8 _ (kd.ok k) r⟩
theorem KD.set {d : Addr} {xs : List (K × Value × Value)} {k : K} {key v : Value} {Q : Unit→Shared→Prop} (hu : A.units + 8 < cLine) (hkey : kd.At s.heap k key) (hm : kd.Dict w s.heap d xs) (hsz : xs.length≤sizeLine)
    (hQ : ∀ h' tk,kd.Dict w h' d (putX xs k key v)→Heap.SameBut d s.heap h'→Q () { s with heap:=h',toks:=tk }) : wpAny (model prog w) A (dictSet d key v) Q E s:=by
  obtain ⟨o,es,ep,ho,hc,hd,he⟩:=hm
  have hall : ∀ h',Heap.SameBut d s.heap h' → ∀ x ∈ putX xs k key v,kd.At h' x.1 x.2.1:=fun h' hs x hx=>by
    rcases putX_mem hx with e | ⟨y,hy,e1,e2⟩
    · rw [e]; exact hkey.keeps ho hd hs
    · rw [← e1, ← e2]; exact (he.is y hy).keeps ho hd hs
  unfold dictSet
  try with_reducible refine wpAny_holding ?_
  refine wpAny_bind (KD.hashed hu hkey fun tk => ?_)
  unfold dictSetHashed
  try with_reducible refine wpAny_holding ?_
  refine wpAny_bind (KD.found (s := { s with toks:=tk }) hu hkey ho hd he ?_ ?_)
  · intro hno
    refine wpAny_bind (wpAny_rule (wpAny_updateDictKeys (hz:=by rw [he.size]; exact hsz) (s := { s with toks:=tk }) ho hd (hQ _ _ ⟨_,_,ep + 1,Heap.get?_update_self _ ho (Obj.isFreed_of_dict (Obj.data_mapDictKeys hd _)),hc.mapDictKeys _,Obj.data_mapDictKeys hd _, ?_,hall _ (Heap.SameBut.update ..),putX_nd he.nd⟩ (Heap.SameBut.update ..))))
    rw [putX_new (kd.ent w) hno]
    simp [he.es,KD.ent]
  · intro j p hj
    refine wpAny_bind (wpAny_rule (wpAny_bind (wpAny_updateDict (s := { s with toks:=tk }) ho hd (wpAny_point (hQ _ _ ⟨_,_,ep,Heap.get?_update_self _ ho (Obj.isFreed_of_dict (Obj.data_mapDict hd _)),hc.mapDict _,Obj.data_mapDict hd _, ?_,hall _ (Heap.SameBut.update ..),putX_nd he.nd⟩ (Heap.SameBut.update ..))))))
    rw [putX_old (kd.ent w) (fun e : DictEntry => { e with val:=v }) (fun _ _=>rfl) he.nd hj, ← he.es]
    obtain ⟨l⟩:=es
    simp
end
end PySem
namespace L2
open PySem PySem.Spec PyProof.Rows PySem.W
mutual
inductive KeyAt (H:Hp):PyData→V→Prop
 | non:KeyAt H .none .non
 | int (i:Int):KeyAt H (.int i) (.int i)
 | str (x:Str):KeyAt H (.str x) (.str x)
 | tup {a:Addr}{vs:List V}{ds:List PyData}:H a=some (.tup vs)→KeysAt H ds vs→KeyAt H (.tuple ds) (.ref a)
inductive KeysAt (H:Hp):List PyData→List V→Prop
 | nil:KeysAt H [] []
 | cons {d:PyData}{v:V}{ds:List PyData}{vs:List V}:KeyAt H d v→KeysAt H ds vs→KeysAt H (d::ds) (v::vs)
end
theorem KeyAt.keeps {H H':Hp}(ht:∀b xs,H b=some (.tup xs)→H' b=some (.tup xs)):∀(n:Nat)(d:PyData),kOk n d=true→∀{v:V},KeyAt H d v→KeyAt H' d v:=by
 intro n
 induction n with
 | zero =>
  intro d hd v k
  cases k with
  | non=>exact .non
  | int i=>exact .int i
  | str x=>exact .str x
  | tup=>simp[kOk]at hd
 | succ n ih =>
  intro d hd v k
  cases k with
  | non=>exact .non
  | int i=>exact .int i
  | str x=>exact .str x
  | @tup a vs ds e ks =>
   have hx:∀x∈ds,kOk n x=true:=List.all_eq_true.mp (by simpa[kOk]using hd)
   have all:∀{ds:List PyData}{vs:List V},(∀x∈ds,kOk n x=true)→KeysAt H ds vs→KeysAt H' ds vs:=by
    intro ds
    induction ds with
    | nil=>intro vs _ k;cases k;exact .nil
    | cons d ds ih2 =>
     intro vs hx k
     cases k with
     | cons k1 k2=>exact .cons (ih d (hx d List.mem_cons_self) k1) (ih2 (fun x hh=>hx x (List.mem_cons_of_mem _ hh)) k2)
   exact .tup (ht _ _ e) (all hx ks)
section
variable {K:Type} [DecidableEq K]
def KsIn (H:Hp)(kd:KD K)(kvs:List (K×V×V)):Prop:=∀p∈kvs,KeyAt H (kd.dat p.1) p.2.1
theorem KsIn.keeps {H H':Hp}{kd:KD K}{kvs:List (K×V×V)}(k:KsIn H kd kvs)(ht:∀b xs,H b=some (.tup xs)→H' b=some (.tup xs)):KsIn H' kd kvs:=fun p hp=>(k p hp).keeps ht 8 _ (kd.ok p.1)
variable {X:Cx}{pins:List (Addr×Obj)}{σ:St}{H:Hp}{s:Shared}{a:Addr}{kd:KD K}{kvs:List (K×V×V)}{k:K}{y v d:V}{u r:Value}{A:Around}{E:Value→Shared→Prop}
end
end L2
namespace L2
open PySem PySem.Spec PyProof.Rows PySem.W
section
variable {K:Type} [DecidableEq K]
variable {X:Cx}{o i e f value:Expr}{pos pos' apos cpos:Pos}{td ty tx tv:TE}(kd:KD K)
end
end L2
namespace PyProof.Rows
open PySem PySem.Spec
section
variable {prog:Program}{w:World}{A:Around}{E:Value→Shared→Prop}
end
end PyProof.Rows
namespace L2
open PySem PySem.Spec PyProof.Rows PySem.W
section
variable {X:Cx}{pos:Pos}
end
end L2
namespace L2
open PySem PySem.Spec PyProof.Rows
section
variable {M:Model}{A:Around}{E:Value→Shared→Prop}{s:Shared}{B:Heap}{env:Env}{outer:List Env}{L e:Addr}{cls c:Value}{Q:Unit→Shared→Prop}
end
section
variable {P:Program}{w:World}{K:PySem.W.Frag}{mg:Str→Option Value}{base:Heap}{N:List Str}{qual:Str}{scope:Scope}{f:Addr}{cd:Value}{A:Around}{outer:List Env}{s:Shared}{H:Hp}{E:XK}
end
section
variable {prog:Program}{w:World}{A:Around}{R:Result→Shared→Prop}{s:Shared}
end
section
variable {P:Program}{w:World}{K:PySem.W.Frag}{mg:Str→Option Value}{base:Heap}{N:List Str}{qual:Str}{scope:Scope}{f':Addr}{cd:Value}{A:Around}{outer:List Env}{s₀:Shared}{H₀:Hp}{E:XK}
 {x:Str}{f:Addr}{fd:FuncData}{ps:List Str}{k k':Nat}{sp:Sp}{e:Expr}{es:List Expr}{t:TA}{p pos:Pos}{scope':Scope}{N':List Str}{C:Addr}{fp:List Addr}{pins:List (Addr×Obj)}{σ0:St}{s2:Shared}{H2:Hp}
end
end L2
namespace L2
open PySem PySem.Spec PyProof.Rows PySem.W
section
variable {K:Type} [DecidableEq K]
end
end L2
namespace PySem
open Sem (wp)
section
variable {prog:Program}{w:World}{K:Type} [DecidableEq K]{kd:KD K}{A:Around}{E:Value→Shared→Prop}{s:Shared}
end
end PySem
namespace L2
open PySem PySem.Spec PyProof.Rows PySem.W
section
variable {K:Type} [DecidableEq K]{kd:KD K}{X:Cx}{pins:List (Addr×Obj)}{σ:St}{H:Hp}{s:Shared}{A:Around}{E:Value→Shared→Prop}{a:Addr}{kvs:List (K×V×V)}{k:K}{y v d:V}{u r:Value}
end
section
variable {K:Type} [DecidableEq K](kd:KD K){X:Cx}{o e f:Expr}{apos cpos:Pos}{td ty tx:TE}
end
end L2
namespace L2
open PySem PySem.Spec PyProof.Rows PySem.W
section
variable {K:Type} [DecidableEq K](kd:KD K){X:Cx}
end
end L2
namespace L2
open PySem PySem.Spec PyProof.Rows PySem.W
section
variable {X:Cx}
end
end L2
set_option maxRecDepth 100000
namespace L2
open PySem PySem.Spec PyProof.Rows
noncomputable abbrev LamO (f:Addr)(qual:Str)(params:Arguments)(body:Expr)(scope:Scope)(clos:List (Str×Addr))(pm:Value)(c':Addr):HO :=
 .ext fun h=>∃ctv,h.get? f=some (PySem.W.kla_obj "<lambda>" qual params body scope clos pm c' ctv)
noncomputable def codeHdIn (K:PySem.W.Frag)(c P:Addr):Bool:=match K.lookup c with
 | some ⟨.type "code",_,.fields vs,_⟩=>(match (vs[11]?:Option Value),vs.getD 18 .none,vs.getD 7 .none,vs.getD 9 .none,vs.getD 10 .none with
   | some (Value.ref p),Value.str _ _,Value.int _ _,Value.bool _,Value.int _ _=>decide (p=P)&&decide (c≠P)
   | _,_,_,_,_=>false)
 | _=>false
structure LamEnv (X:Cx)(c P bm:Addr):Prop where
 code:X.env.code=.ref c
 hd:codeHdIn X.K c P=true
 mb:X.mg "__builtins__"=some (.ref bm)
 ob:X.K.lookup bm=some { cls:=.type "module",dict:=some builtinsNs }
 n1:bm≠builtinsNs
 n2:bm≠mainGlobals
structure LamOk (P:Program)(w:World)(K:PySem.W.Frag)(mg:Str→Option Value)(base:Heap)(CX:CXT)(k:Nat)(f:Addr)(n:Nat)(sp:Sp):Prop where
 len:∀vs H Q E,sp vs H Q E→vs.length=n
 run:∀(A:Around)(outer:List Env)(s:Shared)(H:Hp)(us:List Value)(vs:List V)(Q:VK)(E:XK),Room k A→Env0 P w K mg base A outer s H→Vals vs us→sp vs H Q E →
  codeAny (model P w) A (.call (.ref f) ⟨us,[]⟩) (CR CX outer P w H s Q E) s
end L2
namespace L2
open PySem PySem.Spec PyProof.Rows
end L2
namespace L2
open PySem PySem.Spec PyProof.Rows
def IsLam (H:Hp)(f:Addr):Prop:=∃qual params body scope clos pm c',H f=some (LamO f qual params body scope clos pm c')
theorem IsLam.at {P:Program}{w:World}{H:Hp}{h:Heap}{f:Addr}(x:IsLam H f)(ok:HOk P w H h):PySem.W.FnAt f h:=by
 obtain⟨qual,params,body,scope,clos,pm,c',e⟩:=x
 obtain⟨⟨ctv,z⟩,_⟩:=ok f _ e
 exact⟨_,_,_,_,z⟩
section
variable {X:Cx}{x:Str}{e:Expr}{es:List Expr}{t:TA}{p pos:Pos}
end
section
variable {X:Cx}
end
end L2
namespace L2
open PySem PySem.Spec PyProof.Rows
section
variable {X:Cx}{pins:List (Addr×Obj)}{σ:List (Option V)}{H:Hp}{s:Shared}
end
structure LmScope (ps:List Str)(x:Str)(sc:Scope):Prop where
 kind:sc.kind=.function
 co:sc.isCoroutine=false
 gen:sc.isGenerator=false
 nd:(ps++[x]).Nodup
 par:∀y∈ps,sc.names.lookup y=some .local
 nocell:∀y∈sc.names,y.2≠.cell
 free:∀y,sc.names.lookup y=some .free→y=x
 is:sc.names.lookup x=some .free
end L2
namespace L2
open PySem PySem.Spec PyProof.Rows
section
variable {X:Cx}
end
section
variable {X:Cx}{x:Str}{f:Addr}{fd:FuncData}{ps:List Str}{k k':Nat}{sp:Sp}{e:Expr}{es:List Expr}{t:TA}{p pos:Pos}
end
end L2
set_option maxRecDepth 100000
namespace L2
open PySem PySem.Spec PyProof.Rows
section
variable {X:Cx}{pins:List (Addr×Obj)}{σ:St}{H:Hp}{s:Shared}{e C:Addr}
end
section
variable {X:Cx}{x:Str}{f:Addr}{fd:FuncData}{ps:List Str}{k:Nat}{sp:Sp}{e:Expr}{es:List Expr}{t:TA}{p pos:Pos}
end
end L2
namespace L2
open PySem PySem.Spec PyProof.Rows Builtin.ObjectAttr Builtin.Getset_descriptor PySem.SeqAt
section
variable {prog:Program}{w:World}{A:Around}{E:Value→Shared→Prop}{s:Shared}{K:PySem.W.Frag}{x D:Addr}
structure XCl (K:PySem.W.Frag)(D:Addr):Prop where
 gb:PySem.W.findIn K (.ref D) "__getattribute__"=some (some (.builtin "BaseException.__getattribute__"))
 ga:PySem.W.findIn K (.ref D) "__getattr__"=some none
 cl:PySem.W.findIn K (.ref D) "__class__"=some (some (.builtin "object.__class__"))
 sp:PySem.W.specialIn K (.builtin "object.__class__") "__get__"=some (some (.builtin "getset_descriptor.__get__"))
 tk:PySem.W.takesIn K (.builtin "object.__class__")=some true
 mr:PySem.W.mroIn K D (.type "object")=some true
 is:(PySem.W.clsIn K D).isSome=true
 mb:PySem.W.mroIn K D (.type "BaseException")=some true
open PySem.W in
open PySem.W in
open PySem.W in
end
noncomputable def EqS (H:Hp):Nat→V→V→Prop
 | 0,_,_=>False
 | n+1,x,y=>(x=y∧((∃i,x=.int i)∨∃t,x=.str t))∨∃a b xs ys,x=.ref a∧y=.ref b∧((H a=some (.tup xs)∧H b=some (.tup ys))∨(H a=some (.lst xs)∧H b=some (.lst ys)))∧Paired (EqS H n) xs ys
section
variable {X:Cx}{pins:List (Addr×Obj)}{σ:St}{H:Hp}{s:Shared}
theorem prd_pts {R:V→V→Prop}{xs ys:List V}(h:Paired R xs ys):xs.length=ys.length∧∀(j:Nat)(x y:V),xs[j]?=some x→ys[j]?=some y→R x y:=by
 induction h with
 | nil=>exact⟨rfl,fun j x y e=>by simp at e⟩
 | cons r t ih =>
  refine⟨by rw[List.length_cons,List.length_cons,ih.1],fun j x y e1 e2=>?_⟩
  cases j with
  | zero=>simp at e1 e2;subst e1 e2;exact r
  | succ j=>exact ih.2 j x y (by simpa using e1) (by simpa using e2)
theorem eqAt_s (I:Inv X pins σ H s):∀(n:Nat){x y:V}{v u:Value}{A:Around},EqS H n x y→RelV x v→RelV y u→A.units+n<cLine→EqAt A s v u true:=by
 intro n
 induction n with
 | zero=>intro x y v u A h;exact h.elim
 | succ n ih =>
  intro x y v u A h rx ry hu
  have hA:A.in1.units+n<cLine:=by
   have:A.in1.units=A.units+1:=rfl
   omega
  have items:∀{xs ys:List V}{its its2:List Value},Paired (EqS H n) xs ys→Vals xs its→Vals ys its2→∀j (h1:j<its.toArray.size)(h2:j<its2.toArray.size),EqAt A.in1 s its.toArray[j] its2.toArray[j] true:=fun {xs ys its its2} p r1 r2 j h1 h2=>by
   obtain⟨hl,hp⟩:=prd_pts p
   have k1:=r1.length
   have k2:=r2.length
   rw[List.size_toArray]at h1 h2
   rw[List.getElem_toArray,List.getElem_toArray]
   obtain⟨w1,hw1,rw1⟩:=r1.get (i:=j) (x:=xs[j]) (List.getElem?_eq_getElem (by omega))
   obtain⟨w2,hw2,rw2⟩:=r2.get (i:=j) (x:=ys[j]) (List.getElem?_eq_getElem (by omega))
   rw[List.getElem?_eq_getElem h1]at hw1
   rw[List.getElem?_eq_getElem h2]at hw2
   rw[Option.some.inj hw1,Option.some.inj hw2]
   exact ih (hp j _ _ (List.getElem?_eq_getElem (by omega)) (List.getElem?_eq_getElem (by omega))) rw1 rw2 hA
  rcases h with ⟨rfl,h⟩|⟨a,b,xs,ys,rfl,rfl,h,hp⟩
  ·rcases h with ⟨i,rfl⟩|⟨t,rfl⟩
   ·obtain⟨t1,rfl⟩:=rx
    obtain⟨t2,rfl⟩:=ry
    have:=EqAt.int_int (A:=A) (s:=s) i t1 i t2
    rwa[beq_self_eq_true]at this
   ·obtain⟨t1,rfl⟩:=rx
    obtain⟨t2,rfl⟩:=ry
    have:=EqAt.str_str (A:=A) (s:=s) t t1 t t2
    rwa[beq_self_eq_true]at this
  ·cases (show v=Value.ref a from rx)
   cases (show u=Value.ref b from ry)
   by_cases c:a=b
   ·subst c
    exact EqAt.same _
   ·refine EqAt.of_refs c ?_
    obtain⟨hl,_⟩:=prd_pts hp
    rcases h with ⟨h1,h2⟩|⟨h1,h2⟩
    ·obtain⟨t1,w1,x1,_⟩:=I.tuple (SqT.of h1)
     obtain⟨t2,w2,x2,_⟩:=I.tuple (SqT.of h2)
     have:=RcAt.tuples (A:=A) (e:=fun _=>true) x1 x2 (by omega) (items hp w1 w2)
     have hz:(t1.toArray.size==t2.toArray.size)=true:=by
      rw[beq_iff_eq,List.size_toArray,List.size_toArray,←w1.length,←w2.length,hl]
     rw[hz,show(List.range (min t1.toArray.size t2.toArray.size)).all (fun _=>true)=true from List.all_eq_true.mpr fun _ _=>rfl]at this
     exact this
    ·obtain⟨t1,n1,w1,e1,_⟩:=I.lst h1
     obtain⟨t2,n2,w2,e2,_⟩:=I.lst h2
     have hz:t1.toArray.size=t2.toArray.size:=by rw[List.size_toArray,List.size_toArray,←w1.length,←w2.length,hl]
     have:=RcAt.lists (A:=A) (e:=fun _=>true) ⟨_,e1,rfl,n1,rfl⟩ ⟨_,e2,rfl,n2,rfl⟩ hz (by omega) (items hp w1 w2)
     rw[show(List.range t1.toArray.size).all (fun _=>true)=true from List.all_eq_true.mpr fun _ _=>rfl]at this
     exact this
end
theorem op_neS {X:Cx}(hu:X.A.units+64<cLine):OpR X (compareOp .NotEq) (fun x y H Q=>∃(n:Nat)(a b:Addr)(xs ys:List V),n≤8∧x=.ref a∧y=.ref b∧((H a=some (.tup xs)∧H b=some (.tup ys))∨(H a=some (.lst xs)∧H b=some (.lst ys)))∧Paired (EqS H n) xs ys∧Q (.bl false) H):=by
 intro pins s σ H x y v u Q I rx ry h
 obtain⟨n,a,b,xs,ys,hn,rfl,rfl,h,hp,q⟩:=h
 cases (show v=Value.ref a from rx)
 cases (show u=Value.ref b from ry)
 obtain⟨hl,hpt⟩:=prd_pts hp
 have items:∀{its its2:List Value},Vals xs its→Vals ys its2→∀j (h1:j<its.toArray.size)(h2:j<its2.toArray.size),EqAt X.A.in1 s its.toArray[j] its2.toArray[j] true:=fun {its its2} r1 r2 j h1 h2=>by
  have k1:=r1.length
  have k2:=r2.length
  rw[List.size_toArray]at h1 h2
  rw[List.getElem_toArray,List.getElem_toArray]
  obtain⟨w1,hw1,rw1⟩:=r1.get (i:=j) (x:=xs[j]) (List.getElem?_eq_getElem (by omega))
  obtain⟨w2,hw2,rw2⟩:=r2.get (i:=j) (x:=ys[j]) (List.getElem?_eq_getElem (by omega))
  rw[List.getElem?_eq_getElem h1]at hw1
  rw[List.getElem?_eq_getElem h2]at hw2
  rw[Option.some.inj hw1,Option.some.inj hw2]
  refine eqAt_s I n (hpt j _ _ (List.getElem?_eq_getElem (by omega)) (List.getElem?_eq_getElem (by omega))) rw1 rw2 ?_
  have:X.A.in1.units=X.A.units+1:=rfl
  omega
 rcases h with ⟨h1,h2⟩|⟨h1,h2⟩
 ·obtain⟨t1,w1,x1,_⟩:=I.tuple (SqT.of h1)
  obtain⟨t2,w2,x2,_⟩:=I.tuple (SqT.of h2)
  have hz:(t1.toArray.size==t2.toArray.size)=true:=by
   rw[beq_iff_eq,List.size_toArray,List.size_toArray,←w1.length,←w2.length,hl]
  refine SeqAt.RcNeAt.tuples (e:=fun _=>true) x1 x2 (by omega) (items w1 w2) X.prog X.w _ _ ?_
  rw[hz]
  have e0:(!((List.range (min t1.toArray.size t2.toArray.size)).all (fun _=>true)&&true))=false:=by simp
  rw[e0]
  exact⟨.bl _,H,I,rfl,q⟩
 ·obtain⟨t1,n1,w1,e1,_⟩:=I.lst h1
  obtain⟨t2,n2,w2,e2,_⟩:=I.lst h2
  have hz:t1.toArray.size=t2.toArray.size:=by rw[List.size_toArray,List.size_toArray,←w1.length,←w2.length,hl]
  refine SeqAt.RcNeAt.lists (e:=fun _=>true) ⟨_,e1,rfl,n1,rfl⟩ ⟨_,e2,rfl,n2,rfl⟩ hz (by omega) (items w1 w2) X.prog X.w _ _ ?_
  have e0:(!(List.range t1.toArray.size).all fun _=>true)=false:=by simp
  rw[e0]
  exact⟨.bl _,H,I,rfl,q⟩
end L2
set_option maxHeartbeats 4000000
namespace Lw
open PySem L2
structure PB (X:Cx)(es:List Expr)(t:TA):Prop where
 go:PA X es t
theorem pb_nil {X:Cx}:PB X [] tNil:=⟨pa_nil⟩
theorem pb_cons {X:Cx}{e:Expr}{es:List Expr}{te:TE}{t:TA}(ha:PE X e te)(hr:PB X es t)(hs:starEach (e::es) X.env=(false,eval e X.env)::starEach es X.env:=by rfl):PB X (e::es) (tCons te t):=⟨pa_cons ha hr.go hs⟩
noncomputable def top (i:Nat):Stmt:=PySem.Challenge.pw_bitdraws_k41_whole_shares_agree.main.body.getD i (.Pass ⟨0,0,0,0⟩)
noncomputable abbrev s_Y8:Stmt:=top 11
noncomputable abbrev p_Y8:List Str:=["bits","draw","shape"]
theorem sc_Y8:FnScope ["bits","draw","shape","used_before"] ["bits","draw","shape"] (defScope s_Y8):=⟨rfl,rfl,rfl,by decide +kernel,rfl,by decide +kernel,by decide +kernel⟩
noncomputable abbrev s_Y9:Stmt:=top 12
noncomputable abbrev p_Y9:List Str:=["state"]
theorem sc_Y9:FnScope ["state"] ["state"] (defScope s_Y9):=⟨rfl,rfl,rfl,by decide +kernel,rfl,by decide +kernel,by decide +kernel⟩
noncomputable abbrev s_Y29:Stmt:=top 13
noncomputable abbrev p_Y29:List Str:=["seed","many"]
theorem sc_Y29:FnScope ["seed","many","state","row"] ["seed","many"] (defScope s_Y29):=⟨rfl,rfl,rfl,by decide +kernel,rfl,by decide +kernel,by decide +kernel⟩
noncomputable abbrev s_Y2:Stmt:=top 15
noncomputable abbrev p_Y2:List Str:=["one","other"]
theorem sc_Y2:FnScope ["one","other","great","small","rest"] ["one","other"] (defScope s_Y2):=⟨rfl,rfl,rfl,by decide +kernel,rfl,by decide +kernel,by decide +kernel⟩
noncomputable abbrev s_Y25:Stmt:=top 16
noncomputable abbrev p_Y25:List Str:=["upper","lower"]
theorem sc_Y25:FnScope ["upper","lower","divisor"] ["upper","lower"] (defScope s_Y25):=⟨rfl,rfl,rfl,by decide +kernel,rfl,by decide +kernel,by decide +kernel⟩
noncomputable abbrev s_Y32:Stmt:=top 18
noncomputable abbrev p_Y32:List Str:=["bits","many"]
theorem sc_Y32:FnScope ["bits","many"] ["bits","many"] (defScope s_Y32):=⟨rfl,rfl,rfl,by decide +kernel,rfl,by decide +kernel,by decide +kernel⟩
noncomputable abbrev s_Y20:Stmt:=top 19
noncomputable abbrev p_Y20:List Str:=["bits","many"]
theorem sc_Y20:FnScope ["bits","many","number","size"] ["bits","many"] (defScope s_Y20):=⟨rfl,rfl,rfl,by decide +kernel,rfl,by decide +kernel,by decide +kernel⟩
noncomputable abbrev s_Y21:Stmt:=top 21
noncomputable abbrev p_Y21:List Str:=["weights"]
theorem sc_Y21:FnScope ["weights","high","left","small","great","table","number","other"] ["weights"] (defScope s_Y21):=⟨rfl,rfl,rfl,by decide +kernel,rfl,by decide +kernel,by decide +kernel⟩
noncomputable abbrev s_Y23:Stmt:=top 22
noncomputable abbrev p_Y23:List Str:=["table","high"]
theorem sc_Y23:FnScope ["table","high","parts","number","column","below"] ["table","high"] (defScope s_Y23):=⟨rfl,rfl,rfl,by decide +kernel,rfl,by decide +kernel,by decide +kernel⟩
noncomputable abbrev s_Y1:Stmt:=top 23
noncomputable abbrev p_Y1:List Str:=["table","high"]
theorem sc_Y1:FnScope ["table","high"] ["table","high"] (defScope s_Y1):=⟨rfl,rfl,rfl,by decide +kernel,rfl,by decide +kernel,by decide +kernel⟩
noncomputable abbrev s_Y22:Stmt:=top 24
noncomputable abbrev p_Y22:List Str:=["bits","table","high"]
theorem sc_Y22:FnScope ["bits","table","high","number","column"] ["bits","table","high"] (defScope s_Y22):=⟨rfl,rfl,rfl,by decide +kernel,rfl,by decide +kernel,by decide +kernel⟩
noncomputable abbrev s_Y30:Stmt:=top 25
noncomputable abbrev p_Y30:List Str:=["weights"]
theorem sc_Y30:FnScope ["weights","sums","together","weight"] ["weights"] (defScope s_Y30):=⟨rfl,rfl,rfl,by decide +kernel,rfl,by decide +kernel,by decide +kernel⟩
noncomputable abbrev s_Y12:Stmt:=top 26
noncomputable abbrev p_Y12:List Str:=["sums","place"]
theorem sc_Y12:FnScope ["sums","place","number","together"] ["sums","place"] (defScope s_Y12):=⟨rfl,rfl,rfl,by decide +kernel,rfl,by decide +kernel,by decide +kernel⟩
noncomputable abbrev s_Y34:Stmt:=top 29
noncomputable abbrev p_Y34:List Str:=["bits","weights"]
theorem sc_Y34:FnScope ["bits","weights","total"] ["bits","weights"] (defScope s_Y34):=⟨rfl,rfl,rfl,by decide +kernel,rfl,by decide +kernel,by decide +kernel⟩
noncomputable abbrev s_Y11:Stmt:=top 30
noncomputable abbrev p_Y11:List Str:=["bits","weights"]
theorem sc_Y11:FnScope ["bits","weights","total","rests","place","ends"] ["bits","weights"] (defScope s_Y11):=⟨rfl,rfl,rfl,by decide +kernel,rfl,by decide +kernel,by decide +kernel⟩
noncomputable abbrev s_Y28:Stmt:=top 31
noncomputable abbrev p_Y28:List Str:=["plan","depth"]
theorem sc_Y28:FnScope ["plan","depth"] ["plan","depth"] (defScope s_Y28):=⟨rfl,rfl,rfl,by decide +kernel,rfl,by decide +kernel,by decide +kernel⟩
noncomputable abbrev s_Y33:Stmt:=top 32
noncomputable abbrev p_Y33:List Str:=["plan"]
theorem sc_Y33:FnScope ["plan"] ["plan"] (defScope s_Y33):=⟨rfl,rfl,rfl,by decide +kernel,rfl,by decide +kernel,by decide +kernel⟩
noncomputable abbrev s_Y4:Stmt:=top 33
noncomputable abbrev p_Y4:List Str:=["plan"]
theorem sc_Y4:FnScope ["plan","ends"] ["plan"] (defScope s_Y4):=⟨rfl,rfl,rfl,by decide +kernel,rfl,by decide +kernel,by decide +kernel⟩
noncomputable abbrev s_Y31:Stmt:=top 34
noncomputable abbrev p_Y31:List Str:=["depth","deepest"]
theorem sc_Y31:FnScope ["depth","deepest"] ["depth","deepest"] (defScope s_Y31):=⟨rfl,rfl,rfl,by decide +kernel,rfl,by decide +kernel,by decide +kernel⟩
noncomputable abbrev s_Y16:Stmt:=top 35
noncomputable abbrev p_Y16:List Str:=["plan"]
theorem sc_Y16:FnScope ["plan","deepest","rows","depth","number","total"] ["plan"] (defScope s_Y16):=⟨rfl,rfl,rfl,by decide +kernel,rfl,by decide +kernel,by decide +kernel⟩
noncomputable abbrev s_Y26:Stmt:=top 36
noncomputable abbrev p_Y26:List Str:=["bits","plan"]
theorem sc_Y26:FnScope ["bits","plan"] ["bits","plan"] (defScope s_Y26):=⟨rfl,rfl,rfl,by decide +kernel,rfl,by decide +kernel,by decide +kernel⟩
noncomputable abbrev s_Y5:Stmt:=top 37
noncomputable abbrev p_Y5:List Str:=["bits","plan"]
theorem sc_Y5:FnScope ["bits","plan","part"] ["bits","plan"] (defScope s_Y5):=⟨rfl,rfl,rfl,by decide +kernel,rfl,by decide +kernel,by decide +kernel⟩
noncomputable abbrev s_Y27:Stmt:=top 38
noncomputable abbrev p_Y27:List Str:=["weights"]
theorem sc_Y27:FnScope ["weights","total","depth","ends","parts","place","asks"] ["weights"] (defScope s_Y27):=⟨rfl,rfl,rfl,by decide +kernel,rfl,by decide +kernel,by decide +kernel⟩
noncomputable abbrev s_Y13:Stmt:=top 40
noncomputable abbrev p_Y13:List Str:=["_law_got","_law_due"]
theorem sc_Y13:FnScope ["_law_got","_law_due"] ["_law_got","_law_due"] (defScope s_Y13):=⟨rfl,rfl,rfl,by decide +kernel,rfl,by decide +kernel,by decide +kernel⟩
noncomputable abbrev s_Y19:Stmt:=top 41
noncomputable abbrev p_Y19:List Str:=["_law_script","_law_town","_law_many"]
theorem sc_Y19:FnScope ["_law_script","_law_town","_law_many","_law_k","_law_cell","_law_number","_law_more"] ["_law_script","_law_town","_law_many"] (defScope s_Y19):=⟨rfl,rfl,rfl,by decide +kernel,rfl,by decide +kernel,by decide +kernel⟩
noncomputable abbrev s_Y24:Stmt:=top 42
noncomputable abbrev p_Y24:List Str:=["_law_script","_law_town","_law_some"]
theorem sc_Y24:FnScope ["_law_script","_law_town","_law_some"] ["_law_script","_law_town","_law_some"] (defScope s_Y24):=⟨rfl,rfl,rfl,by decide +kernel,rfl,by decide +kernel,by decide +kernel⟩
noncomputable abbrev s_Y17:Stmt:=top 43
noncomputable abbrev p_Y17:List Str:=["_law_upper","_law_lower"]
theorem sc_Y17:FnScope ["_law_upper","_law_lower","_law_one_here","_law_other"] ["_law_upper","_law_lower"] (defScope s_Y17):=⟨rfl,rfl,rfl,by decide +kernel,rfl,by decide +kernel,by decide +kernel⟩
noncomputable abbrev s_Y18:Stmt:=top 44
noncomputable abbrev p_Y18:List Str:=["_law_one_here","_law_other"]
theorem sc_Y18:FnScope ["_law_one_here","_law_other"] ["_law_one_here","_law_other"] (defScope s_Y18):=⟨rfl,rfl,rfl,by decide +kernel,rfl,by decide +kernel,by decide +kernel⟩
noncomputable abbrev s_Y7:Stmt:=top 45
noncomputable abbrev p_Y7:List Str:=["_law_script","_law_town"]
theorem sc_Y7:FnScope ["_law_script","_law_town","_law_top","_law_weights_here"] ["_law_script","_law_town"] (defScope s_Y7):=⟨rfl,rfl,rfl,by decide +kernel,rfl,by decide +kernel,by decide +kernel⟩
noncomputable abbrev s_law:Stmt:=top 46
noncomputable abbrev p_law:List Str:=["_law_script"]
theorem sc_law:FnScope ["_law_script","_law_town","_law_k","_law_weights_here","_law_total","_law_by","_law_whole","_law_due","_law_together","_law_number","_law_share","_law_great","_law_bits","_law_some","_law_turn","_law_said"] ["_law_script"] (defScope s_law):=⟨rfl,rfl,rfl,by decide +kernel,rfl,by decide +kernel,by decide +kernel⟩
noncomputable abbrev s_Y3:Stmt:=inClass (top 10) 0
noncomputable abbrev p_Y3:List Str:=["self","row"]
theorem sc_Y3:FnScope ["self","row"] ["self","row"] (defScope s_Y3):=⟨rfl,rfl,rfl,by decide +kernel,rfl,by decide +kernel,by decide +kernel⟩
noncomputable abbrev s_Y14:Stmt:=inClass (top 10) 1
noncomputable abbrev p_Y14:List Str:=["self"]
theorem sc_Y14:FnScope ["self","bit"] ["self"] (defScope s_Y14):=⟨rfl,rfl,rfl,by decide +kernel,rfl,by decide +kernel,by decide +kernel⟩
noncomputable abbrev s_Y15:Stmt:=inClass (top 10) 2
noncomputable abbrev p_Y15:List Str:=["self"]
theorem sc_Y15:FnScope ["self"] ["self"] (defScope s_Y15):=⟨rfl,rfl,rfl,by decide +kernel,rfl,by decide +kernel,by decide +kernel⟩
noncomputable abbrev s_Y10:Stmt:=inClass (top 10) 3
noncomputable abbrev p_Y10:List Str:=["self"]
theorem sc_Y10:FnScope ["self"] ["self"] (defScope s_Y10):=⟨rfl,rfl,rfl,by decide +kernel,rfl,by decide +kernel,by decide +kernel⟩
noncomputable abbrev s_Y6:Stmt:=inClass (top 10) 4
noncomputable abbrev p_Y6:List Str:=["self","many"]
theorem sc_Y6:FnScope ["self","many"] ["self","many"] (defScope s_Y6):=⟨rfl,rfl,rfl,by decide +kernel,rfl,by decide +kernel,by decide +kernel⟩
theorem nd_1:(["_law_got","_law_due","_law_one_here","_law_other"]:List Str).Nodup:=by decide +kernel
theorem nd_2:(["bits","weights","total","rests","place","ends","number","rest"]:List Str).Nodup:=by decide +kernel
theorem nd_3:(["bits","weights","total","rests","place","ends","rest"]:List Str).Nodup:=by decide +kernel
theorem nd_4:(["_law_script","_law_town","_law_top","_law_weights_here","_law_k"]:List Str).Nodup:=by decide +kernel
theorem nd_5:(["plan","ends","depth","end"]:List Str).Nodup:=by decide +kernel
theorem nd_6:(["plan","depth","end"]:List Str).Nodup:=by decide +kernel
theorem nd_7:(["plan","deepest","rows","depth","number","total"]:List Str).Nodup:=by decide +kernel
theorem nd_8:(["weights","total","depth","ends","parts","place","asks","number","weight"]:List Str).Nodup:=by decide +kernel
theorem nd_9:(["weights","total","depth","ends","parts","place","asks","left"]:List Str).Nodup:=by decide +kernel
theorem nd_10:(["weights","total","depth","ends","parts","place","asks","weight","end"]:List Str).Nodup:=by decide +kernel
theorem nd_11:(["weights","high","left","small","great","table","number","other","weight"]:List Str).Nodup:=by decide +kernel
theorem nd_12:(["weights","high","left","small","great","table","number","other","part"]:List Str).Nodup:=by decide +kernel
theorem nd_13:(["weights","high","left","small","great","table","number","other","part"]:List Str).Nodup:=by decide +kernel
theorem nd_14:(["weights","high","left","small","great","table","number","other"]:List Str).Nodup:=by decide +kernel
theorem nd_15:(["table","high","parts","number","column","below"]:List Str).Nodup:=by decide +kernel
theorem nd_16:(["table","high","part"]:List Str).Nodup:=by decide +kernel
theorem nd_17:(["_law_script","_law_town","_law_k","_law_weights_here","_law_total","_law_by","_law_whole","_law_due","_law_together","_law_number","_law_share","_law_great","_law_bits","_law_some","_law_turn","_law_said","_law_weight"]:List Str).Nodup:=by decide +kernel
theorem nd_18:(["_law_script","_law_town","_law_k","_law_weights_here","_law_total","_law_by","_law_whole","_law_due","_law_together","_law_number","_law_share","_law_great","_law_bits","_law_some","_law_turn","_law_said","_law_weight"]:List Str).Nodup:=by decide +kernel
theorem nd_19:(["_law_script","_law_town","_law_k","_law_weights_here","_law_total","_law_by","_law_whole","_law_due","_law_together","_law_number","_law_share","_law_great","_law_bits","_law_some","_law_turn","_law_said"]:List Str).Nodup:=by decide +kernel
structure Bl (mg:Str→Option Value):Prop where
 abs_:mg "abs"=none
 all_:mg "all"=none
 bool_:mg "bool"=none
 enumerate_:mg "enumerate"=none
 int_:mg "int"=none
 isinstance_:mg "isinstance"=none
 len_:mg "len"=none
 max_:mg "max"=none
 min_:mg "min"=none
 range_:mg "range"=none
 sorted_:mg "sorted"=none
 str_:mg "str"=none
 sum_:mg "sum"=none
 tuple_:mg "tuple"=none
 zip_:mg "zip"=none
structure Cn (K:PySem.W.Frag)(mg:Str→Option Value):Prop where
 STATES:∃t,mg "STATES"=some (.int 4294967296 t)
 HALF_OF_STATES:∃t,mg "HALF_OF_STATES"=some (.int 2147483648 t)
 FACTOR:∃t,mg "FACTOR"=some (.int 1664525 t)
 ADDED:∃t,mg "ADDED"=some (.int 1013904223 t)
 AGAIN:∃g,mg "AGAIN"=some (.ref g)∧∀H,SqT K H g [.str "again"]
theorem cell_at {ns:List Int}(h:ns≠[])(k:Nat):atI (ns.map V.int) ((k:Int)%((ns.map V.int).length:Int))=some (.int (lcell ns k)):=by
 have hp:0<ns.length:=List.length_pos_iff.mpr h
 have e:((k:Int)%((ns.map V.int).length:Int))=(((k%ns.length:Nat)):Int):=by rw[List.length_map];omega
 have hk:k%ns.length<ns.length:=Nat.mod_lt _ hp
 rw[e]
 refine atI_nat ?_
 rw[List.getElem?_map,List.getElem?_eq_getElem hk]
 unfold lcell
 rw[if_neg h,List.getD_eq_getElem?_getD,List.getElem?_eq_getElem hk]
 rfl
theorem emod_bd (i:Int){m:Int}(h:0<m)(h2:m<18446744073709551616) : -(2 ^ 64)<i%m∧i%m<2 ^ 64:=by
 have a:=Int.emod_nonneg i (show m≠0 by omega)
 have b:=Int.emod_lt_of_pos i h
 exact⟨by omega,by omega⟩
section
variable {P:Program}{w:World}{K:PySem.W.Frag}{mg:Str→Option Value}{base:Heap}{f:Addr}{fd:FuncData}
theorem ok_Y19 (F_Y19:Fun K "_law_draw" "_law_draw" s_Y19 f fd)(B:Bl mg):FnOk P w K mg base CX0 1 f fd p_Y19 (spDraw K):=by
 refine F_Y19.ok sc_Y19 (fun vs H Q E h=>?_) (fun cdv A outer s H vs Q E hr h=>?_)
 ·obtain⟨a,t,ns,k,m,rfl,_⟩:=h
  rfl
 obtain⟨a,t,ns,k,m,rfl,hS,h63,hT,hk,hm,q⟩:=h
 refine⟨_,(pss_cons (ps_expr (pe_bm PySem.F.plainAttrs_list PySem.F.slot_list_append PySem.F.type_list_append mt_append (pv 1) (pa_cons pe_int pa_nil)))
   (pss_cons (ps_set (i:=3) sc_Y19.nd rfl (Or.inl rfl) (pe_callB call_len_seq rfl B.len_ L3.bt_len (pa_cons (pv 1) pa_nil)))
   (pss_cons (ps_set (i:=4) sc_Y19.nd rfl (Or.inl rfl) pe_int)
   (pss_cons (ps_join (ps_if (pt_truth (pv 0) (fun _=>rfl)) (pss_one (ps_set (i:=4) sc_Y19.nd rfl (Or.inl rfl) (pe_ix ix_list (pv 0) (pe_op op_mod (pv 3) (pe_callB call_len_seq rfl B.len_ L3.bt_len (pa_cons (pv 0) pa_nil))) (fun _ _=>rfl)))) pss_nil))
   (pss_cons (ps_set (i:=5) sc_Y19.nd rfl (Or.inl rfl) (pe_op op_mod (pe_op op_add (pv 4) (pe_op op_mul pe_int (pv 3))) pe_int))
   (pss_cons (ps_set (i:=5) sc_Y19.nd rfl (Or.inl rfl) (pe_op op_mod (pe_op op_mul (pe_op op_mod (pe_op op_mul (pv 5) (pv 5)) pe_int) pe_int) pe_int))
   (pss_cons (ps_set (i:=6) sc_Y19.nd rfl (Or.inl rfl) (pe_op op_mod (pe_op op_mul (pe_op op_mod (pe_op op_mul (pv 5) (pv 5)) pe_int) pe_int) pe_int))
   (pss_one (ps_ret (pe_op op_mod (pe_op op_add (pe_op op_mul (pe_op op_fdiv (pv 5) pe_int) pe_int) (pe_op op_fdiv (pv 6) pe_int)) (pv 2))))))))))),?_⟩
 have hT':H t=some (.lst (zeros k)):=hT
 have g1:Grow t H (upd H t (.lst (zeros k++[V.int 0]))):=Grow.upd _
 have t1:Twn (upd H t (.lst (zeros k++[V.int 0]))) t (k+1):=by
  unfold Twn
  rw[upd_same]
  show some (HO.lst (List.replicate k (V.int 0)++[V.int 0]))=some (HO.lst (List.replicate (k+1) (V.int 0)))
  rw[List.replicate_succ']
 have s1:=g1.scr hT hS
 have hl:(((zeros k++[V.int 0]).length:Nat):Int)=((k+1:Nat):Int):=by simp
 refine⟨_,rfl,.inl ⟨rfl,_,SqL.of hT'⟩,t,_,_,rfl,rfl,hT',(by rw[List.length_replicate];exact smallL (by omega)),?_⟩
 refine⟨_,rfl,t,_,rfl,.inl (SqL.of upd_same),?_⟩
 rw[hl]
 refine⟨fun σ' H'=>σ'=[some (.ref a),some (.ref t),some (.int m),some (.int ((k+1:Nat):Int)),some (.int (lcell ns (k+1))),none,none]∧H'=upd H t (.lst (zeros k++[V.int 0])),?_,?_⟩
 ·rintro σ' H' ⟨rfl,rfl⟩
  refine⟨_,rfl,_,rfl,_,_,rfl,rfl,.inl ⟨by decide,by decide⟩,_,_,rfl,rfl,_,_,rfl,rfl,(by show(0:Int)<4294967291;decide),?_⟩
  refine⟨_,rfl,_,rfl,_,_,rfl,rfl,.inl (emod_bd _ (by decide) (by decide)),_,_,rfl,rfl,(by show(0:Int)<4294967279;decide),_,_,rfl,rfl,.inr ⟨by decide,by decide⟩,_,_,rfl,rfl,(by show(0:Int)<4294967291;decide),?_⟩
  refine⟨_,rfl,_,rfl,_,_,rfl,rfl,.inl (emod_bd _ (by decide) (by decide)),_,_,rfl,rfl,(by show(0:Int)<4294967279;decide),_,_,rfl,rfl,.inr ⟨by decide,by decide⟩,_,_,rfl,rfl,(by show(0:Int)<4294967291;decide),?_⟩
  refine⟨_,rfl,_,_,rfl,rfl,⟨by decide,by decide⟩,_,_,rfl,rfl,.inr ⟨by decide,by decide⟩,_,rfl,_,_,rfl,rfl,⟨by decide,by decide⟩,_,_,rfl,rfl,_,rfl,_,_,rfl,rfl,hm,?_⟩
  exact q _ g1 t1
 ·by_cases hn:ns=[]
  ·refine⟨_,rfl,false,.inl ⟨_,s1.seq,by rw[hn];rfl⟩,iteF ⟨?_,rfl⟩⟩
   unfold lcell
   rw[if_pos hn]
   rfl
  ·refine⟨_,rfl,true,.inl ⟨_,s1.seq,by cases ns with|nil=>exact absurd rfl hn|cons _ _=>rfl⟩,iteT ?_⟩
   refine⟨_,rfl,_,rfl,_,rfl,a,_,rfl,.inl s1.seq,_,_,rfl,rfl,?_,a,_,_,_,rfl,rfl,s1.seq,cell_at hn (k+1),rfl,rfl⟩
   show(0:Int)<(((ns.map V.int).length:Nat):Int)
   rw[List.length_map]
   have:=List.length_pos_iff.mpr hn
   omega
end
def spOne (K:PySem.W.Frag):Sp:=fun vs H Q _=>∃(a t l:Addr)(ns:List Int)(k:Nat)(xs:List V),vs=[.ref a,.ref t,.ref l]∧Scr K H a ns∧ns.length≤63∧Twn H t k∧k≤800000∧H l=some (.lst xs)∧l≠t∧0<xs.length∧xs.length≤1000 ∧
 ∀(i:Nat)(v:V) H',i=(drw ns (k+1) (xs.length:Int)).toNat→xs[i]?=some v→Grow t H H'→Twn H' t (k+1)→Q v H'
section
variable {P:Program}{w:World}{K:PySem.W.Frag}{mg:Str→Option Value}{base:Heap}{f:Addr}{fd:FuncData}
theorem ok_Y24 (F_Y24:Fun K "_law_one" "_law_one" s_Y24 f fd)(B:Bl mg)(g_Y19:Fn P w K mg base "_law_draw" p_Y19 1 (spDraw K)):FnOk P w K mg base CX0 2 f fd p_Y24 (spOne K):=by
 refine F_Y24.ok sc_Y24 (fun vs H Q E h=>?_) (fun cdv A outer s H vs Q E hr h=>?_)
 ·obtain⟨a,t,l,ns,k,xs,rfl,_⟩:=h
  rfl
 obtain⟨a,t,l,ns,k,xs,rfl,hS,h63,hT,hk,hL,hlt,hx,hx2,q⟩:=h
 refine⟨_,(pss_one (ps_ret (pe_ix ix_list (pv 2) (pe_fn g_Y19 hr (pa_cons (pv 0) (pa_cons (pv 1) (pa_cons (pe_callB call_len_seq rfl B.len_ L3.bt_len (pa_cons (pv 2) pa_nil)) pa_nil)))) (fun _ _=>rfl)))),?_⟩
 refine⟨_,rfl,_,rfl,_,rfl,_,rfl,l,_,rfl,.inl (SqL.of hL),a,t,ns,k,_,rfl,hS,h63,hT,by omega,by omega,fun H1 g1 t1=>?_⟩
 have n0:=drw_nn ns (k+1) (show(0:Int)<(xs.length:Int)by omega)
 have n1:=drw_lt ns (k+1) (show(0:Int)<(xs.length:Int)by omega)
 have hi:(drw ns (k+1) (xs.length:Int)).toNat<xs.length:=by omega
 have key:∀(d:Int)(i:Nat)(hi:i<xs.length),d=(i:Int)→atI xs d=some xs[i]:=fun d i hi e=>by
  subst e
  exact atI_nat (List.getElem?_eq_getElem hi)
 have at':=key (drw ns (k+1) (xs.length:Int)) _ hi (by omega)
 exact⟨l,_,_,_,rfl,rfl,SqL.of (g1 _ _ hlt hL),at',q _ _ _ rfl (List.getElem?_eq_getElem hi) g1 t1⟩
end
section
variable {P:Program}{w:World}{K:PySem.W.Frag}{mg:Str→Option Value}{base:Heap}{f:Addr}{fd:FuncData}
theorem ko_bb (K:PySem.W.Frag):PySem.W.kitOne K (.type "bool") (.type "bool")=some true:=by kernel_rfl
theorem ko_ib (K:PySem.W.Frag):PySem.W.kitOne K (.type "int") (.type "bool")=some false:=by kernel_rfl
theorem ko_it (K:PySem.W.Frag):PySem.W.kitOne K (.type "int") (.type "tuple")=some false:=by kernel_rfl
theorem ko_is (K:PySem.W.Frag):PySem.W.kitOne K (.type "int") (.type "str")=some false:=by kernel_rfl
theorem ko_ii (K:PySem.W.Frag):PySem.W.kitOne K (.type "int") (.type "int")=some true:=by kernel_rfl
theorem ko_sb (K:PySem.W.Frag):PySem.W.kitOne K (.type "str") (.type "bool")=some false:=by kernel_rfl
theorem ko_st (K:PySem.W.Frag):PySem.W.kitOne K (.type "str") (.type "tuple")=some false:=by kernel_rfl
theorem ko_ss (K:PySem.W.Frag):PySem.W.kitOne K (.type "str") (.type "str")=some true:=by kernel_rfl
theorem ko_tb (K:PySem.W.Frag):PySem.W.kitOne K (.type "tuple") (.type "bool")=some false:=by kernel_rfl
theorem ko_tt (K:PySem.W.Frag):PySem.W.kitOne K (.type "tuple") (.type "tuple")=some true:=by kernel_rfl
theorem paired_at {α β:Type}{F:α→β→Prop}:∀{l:List α}{m:List β}{i:Nat}{x:α}{y:β},Paired F l m→l[i]?=some x→m[i]?=some y→F x y
 | _,_,_,_,_,.nil,h,_=>by simp at h
 | _,_,0,_,_,.cons r _,h,h'=>by
  simp at h h';subst h;subst h';exact r
 | _,_,i+1,_,_,.cons _ t,h,h'=>paired_at (i:=i) t (by simpa using h) (by simpa using h')
def TupAt (K:PySem.W.Frag)(H:Hp)(a:Addr)(xs:List V):Prop:=H a=some (.tup xs)∨∀H',SqT K H' a xs
theorem TupAt.sq {K:PySem.W.Frag}{H:Hp}{a:Addr}{xs:List V}(h:TupAt K H a xs):SqT K H a xs:=h.elim SqT.of fun z=>z H
theorem TupAt.same {K:PySem.W.Frag}{H H':Hp}{a:Addr}{xs:List V}(h:TupAt K H a xs)(s:Same H H'):TupAt K H' a xs:=h.imp (s _ _) id
noncomputable def EqvS (K:PySem.W.Frag)(H:Hp):Nat→V→V→Prop
 | 0,_,_=>False
 | n+1,x,y=>(x=y∧scl x=true)∨∃a b xs ys,x=.ref a∧y=.ref b∧TupAt K H a xs∧H b=some (.tup ys)∧xs.length≤1000000∧Paired (EqvS K H n) xs ys
theorem EqvS.same {K:PySem.W.Frag}{H H':Hp}(g:Same H H'):∀{n:Nat}{x y:V},EqvS K H n x y→EqvS K H' n x y
 | 0,_,_,h=>h
 | n+1,x,y,h=>by
  rcases h with h|⟨a,b,xs,ys,e1,e2,h1,h2,hz,p⟩
  ·exact .inl h
  ·exact .inr ⟨a,b,xs,ys,e1,e2,h1.same g,g _ _ h2,hz,Paired.mapP p fun _ _ q=>EqvS.same g q⟩
def spSameS (K:PySem.W.Frag)(n:Nat):Sp:=fun vs H Q _=>∃x y,vs=[x,y]∧EqvS K H n x y∧∀H',Same H H'→Q (.bl true) H'
theorem ok__law_same1 {n:Nat}(F_Y13:Fun K "_law_same" "_law_same" s_Y13 f fd)(B:Bl mg)(g_Y13:Fn P w K mg base "_law_same" p_Y13 n (spSameS K n)):FnOk P w K mg base CX0 (n+1) f fd p_Y13 (spSameS K (n+1)):=by
 refine F_Y13.ok sc_Y13 (fun vs H Q E h=>?_) (fun cdv A outer s H vs Q E hr h=>?_)
 ·obtain⟨x,y,rfl,_⟩:=h
  rfl
 obtain⟨x,y,rfl,hE,q⟩:=h
 refine⟨_,(pss_cons (ps_if (pt_cmpR op_isN (pv 1) pe_non (nomark _)) (pss_one (ps_ret (pe_cmpR op_isN (pv 0) pe_non (nomark _)))) pss_nil)
   (pss_cons (ps_if (pt_truth (pe_callB call_isi rfl B.isinstance_ L3.bt_isinstance (pa_cons (pv 1) (pa_cons (pe_bltn (v:=.ty "bool") rfl B.bool_ L3.bt_bool rfl) pa_nil))) (fun _=>rfl)) (pss_one (ps_ret (pe_and (pe_callB call_isi rfl B.isinstance_ L3.bt_isinstance (pa_cons (pv 0) (pa_cons (pe_bltn (v:=.ty "bool") rfl B.bool_ L3.bt_bool rfl) pa_nil))) (pe_one (pe_cmpR op_eq (pv 0) (pv 1) (nomark _)))))) pss_nil)
   (pss_cons (ps_if (pt_truth (pe_callB call_isi rfl B.isinstance_ L3.bt_isinstance (pa_cons (pv 1) (pa_cons (pe_bltn (v:=.ty "tuple") rfl B.tuple_ L3.bt_tuple rfl) pa_nil))) (fun _=>rfl)) (pss_cons (ps_if (PW.pt (pw_or (pt_not (pt_truth (pe_callB call_isiQ rfl B.isinstance_ L3.bt_isinstance (pa_cons (pv 0) (pa_cons (pe_bltn (v:=.ty "tuple") rfl B.tuple_ L3.bt_tuple rfl) pa_nil))) (fun _=>rfl))) (pw_or1 (pt_cmpR op_ne (pe_callB call_len_seq rfl B.len_ L3.bt_len (pa_cons (pv 0) pa_nil)) (pe_callB call_len_seq rfl B.len_ L3.bt_len (pa_cons (pv 1) pa_nil)) (nomark _))))) (pss_one (ps_ret pe_bl)) pss_nil)
   (pss_one (ps_ret (pe_callB (call_allL rfl) rfl B.all_ L3.bt_all (pa_cons (pe_comp [] ["_law_got","_law_due","_law_one_here","_law_other"] 2 rfl (pi_zipT rfl B.zip_ (pa_cons (pv 0) (pa_cons (pv 1) pa_nil))) (fun _ _ _ _ _=>(pg_tupK K 2 rfl (pgs_cons (pg_name (i:=2) nd_1 rfl (Or.inl rfl) (Or.inr rfl)) (pgs_cons (pg_name (i:=3) nd_1 rfl (Or.inl rfl) (Or.inr rfl)) pgs_nil)) rfl rfl rfl)) (fun _ _ _ _ _=>pif_nil) (fun _ _ _ _ _=>(pe_fn g_Y13 hr (pa_cons (pv 2) (pa_cons (pv 3) pa_nil))))) pa_nil))))) pss_nil)
   (pss_cons (ps_if (pt_truth (pe_callB call_isi rfl B.isinstance_ L3.bt_isinstance (pa_cons (pv 1) (pa_cons (pe_bltn (v:=.ty "str") rfl B.str_ L3.bt_str rfl) pa_nil))) (fun _=>rfl)) (pss_one (ps_ret (pe_and (pe_callB call_isi rfl B.isinstance_ L3.bt_isinstance (pa_cons (pv 0) (pa_cons (pe_bltn (v:=.ty "str") rfl B.str_ L3.bt_str rfl) pa_nil))) (pe_one (pe_cmpR op_eq (pv 0) (pv 1) (nomark _)))))) pss_nil)
   (pss_one (ps_ret (pe_and (pe_callB call_isi rfl B.isinstance_ L3.bt_isinstance (pa_cons (pv 0) (pa_cons (pe_bltn (v:=.ty "int") rfl B.int_ L3.bt_int rfl) pa_nil))) (pe_and (pe_not (pe_callB call_isi rfl B.isinstance_ L3.bt_isinstance (pa_cons (pv 0) (pa_cons (pe_bltn (v:=.ty "bool") rfl B.bool_ L3.bt_bool rfl) pa_nil)))) (pe_one (pe_cmpR op_eq (pv 0) (pv 1) (nomark _))))))))))),?_⟩
 rcases hE with ⟨rfl,hs⟩|⟨a,b,xs,ys,rfl,rfl,h1,h2,hz,hp⟩
 ·cases x with
  | non =>
   refine⟨_,rfl,rfl,_,rfl,iteT ?_⟩
   refine⟨_,rfl,rfl,?_⟩
   exact q H (Same.refl _)
  | bl c =>
   refine⟨_,rfl,rfl,_,rfl,iteF ?_⟩
   refine⟨_,rfl,_,_,_,_,rfl,.bl c,ko_bb _,_,rfl,iteT ?_⟩
   refine⟨_,rfl,_,_,_,_,rfl,.bl c,ko_bb _,_,rfl,iteT ?_⟩
   refine⟨_,rfl,_,rfl,rfl,?_⟩
   rw[decide_eq_true rfl]
   exact q H (Same.refl _)
  | int i =>
   refine⟨_,rfl,rfl,_,rfl,iteF ?_⟩
   refine⟨_,rfl,_,_,_,_,rfl,.int i,ko_ib _,_,rfl,iteF ?_⟩
   refine⟨_,rfl,_,_,_,_,rfl,.int i,ko_it _,_,rfl,iteF ?_⟩
   refine⟨_,rfl,_,_,_,_,rfl,.int i,ko_is _,_,rfl,iteF ?_⟩
   refine⟨_,rfl,_,_,_,_,rfl,.int i,ko_ii _,_,rfl,iteT ?_⟩
   refine⟨_,rfl,_,_,_,_,rfl,.int i,ko_ib _,_,rfl,_,rfl,iteT ?_⟩
   refine⟨_,rfl,_,rfl,rfl,?_⟩
   rw[decide_eq_true rfl]
   exact q H (Same.refl _)
  | str z =>
   refine⟨_,rfl,rfl,_,rfl,iteF ?_⟩
   refine⟨_,rfl,_,_,_,_,rfl,.str z,ko_sb _,_,rfl,iteF ?_⟩
   refine⟨_,rfl,_,_,_,_,rfl,.str z,ko_st _,_,rfl,iteF ?_⟩
   refine⟨_,rfl,_,_,_,_,rfl,.str z,ko_ss _,_,rfl,iteT ?_⟩
   refine⟨_,rfl,_,_,_,_,rfl,.str z,ko_ss _,_,rfl,iteT ?_⟩
   refine⟨_,rfl,_,rfl,rfl,?_⟩
   rw[decide_eq_true rfl]
   exact q H (Same.refl _)
  | byt _=>cases hs
  | flt _=>cases hs
  | ref _=>cases hs
  | ty _=>cases hs
 ·have hl:xs.length=ys.length:=hp.length
  refine⟨_,rfl,rfl,_,rfl,iteF ?_⟩
  refine⟨_,rfl,_,_,_,_,rfl,.tup h2,ko_tb _,_,rfl,iteF ?_⟩
  refine⟨_,rfl,_,_,_,_,rfl,.tup h2,ko_tt _,_,rfl,iteT ?_⟩
  refine⟨_,rfl,_,_,_,_,rfl,.inr ⟨rfl,a,xs,rfl,h1.sq⟩,ko_tt _,_,rfl,iteF ?_⟩
  refine⟨_,rfl,a,_,rfl,.inr (h1.sq),_,rfl,b,_,rfl,.inr (SqT.of h2),rfl,_,rfl,iteNS (by rw[hl]) ?_⟩
  refine⟨_,rfl,_,rfl,a,b,rfl,⟨_,h1.sq⟩,⟨_,SqT.of h2⟩,?_⟩
  refine⟨fun i m acc σ' H'=>m=xs.length-i∧i≤xs.length∧acc=List.replicate i (V.bl true)∧Same H H'∧σ'.length=4,⟨xs.length,rfl,Nat.zero_le _,rfl,Same.refl _,rfl⟩,?_⟩
  rintro i m acc σ' H' ⟨rfl,hi,rfl,hs,hσ⟩
  by_cases hlt:i<xs.length
  ·refine .inr ⟨⟨xs,ys,xs[i],ys[i],(h1.same hs).sq,SqT.of (hs _ _ h2),List.getElem?_eq_getElem hlt,List.getElem?_eq_getElem (by omega)⟩,?_,fun acc' σ2 H2=>acc'=List.replicate (i+1) (V.bl true)∧Same H H2∧σ2.length=4,?_,?_⟩
   ·rw[List.length_replicate];exact smallL (by omega)
   ·rintro acc' σ2 H2 ⟨rfl,s2,l2⟩
    exact⟨xs.length-(i+1),by omega,rfl,hlt,rfl,s2,l2⟩
   ·rintro v H2 ⟨p,u,v',fp,rfl,rfl,e1,e2⟩
    have u1:=e1 xs ((h1.same hs).sq)
    have u2:=e2 ys (SqT.of (hs _ _ h2))
    have s2:Same H (upd H' p (.tup [u,v'])):=hs.trans (same_new fp _)
    obtain⟨o1,o2,o3,o4,rfl⟩:∃o1 o2 o3 o4,σ'=[o1,o2,o3,o4]:=by
     match σ',hσ with
     | [o1,o2,o3,o4],_=>exact⟨o1,o2,o3,o4,rfl⟩
    refine⟨p,_,rfl,SqT.of upd_same,rfl,_,_,rfl,_,_,rfl,rfl,?_⟩
    refine⟨_,rfl,_,rfl,u,v',rfl,(paired_at hp u1 u2).same s2,fun H3 s3=>⟨?_,s2.trans s3,rfl⟩⟩
    rw[List.replicate_succ']
  ·have e:i=xs.length:=by omega
   refine .inl ⟨⟨xs,ys,(h1.same hs).sq,SqT.of (hs _ _ h2),.inl (by omega)⟩,?_,fun D fD=>?_⟩
   ·rw[List.length_replicate];exact small (by omega)
   ·refine⟨D,List.replicate i true,rfl,SqL.of (by rw[upd_same,List.map_replicate]),?_⟩
    have e2:(List.replicate i true).all id=true:=by simp
    rw[e2]
    exact q _ (hs.trans (same_new fD _))
end
theorem ok__law_same0 {P:Program}{w:World}{K:PySem.W.Frag}{mg:Str→Option Value}{base:Heap}{f:Addr}{fd:FuncData}{ps:List Str}{sp:Sp}(no:∀vs H Q E,¬sp vs H Q E):FnOk P w K mg base CX0 0 f fd ps sp :=
 ⟨fun vs H Q E h=>absurd h (no vs H Q E),fun A outer s H args us vs Q E _ _ _ _ h=>absurd h (no vs H Q E)⟩
theorem rp:¬(("row" : Str) = "place"):=by decide +kernel
noncomputable def flds (r:Addr)(z:Int):List (Str×V):=putF "place" (.int z) (putF "row" (.ref r) [])
theorem flds_eq (r:Addr)(z:Int):flds r z=([("row",V.ref r),("place",V.int z)]:List (Str×V)):=by
 show(if ("row" : Str) = "place" then [(("row" : Str),V.int z)]else (("row" : Str),V.ref r)::putF "place" (V.int z) [])=([("row",V.ref r),("place",V.int z)]:List (Str×V))
 rw[if_neg rp]
 all_goals rfl
theorem flds_row (r:Addr)(z:Int):(flds r z).lookup ("row" : Str)=some (.ref r):=by
 unfold flds
 rw[lookup_putF,if_neg rp,lookup_putF,if_pos rfl]
theorem flds_place (r:Addr)(z:Int):(flds r z).lookup ("place" : Str)=some (.int z):=by
 unfold flds
 rw[lookup_putF,if_pos rfl]
theorem flds_no (r:Addr)(z:Int){m:Str}(h1:¬m = "place")(h2:¬m = "row"):(flds r z).lookup m=none:=by
 unfold flds
 rw[lookup_putF,if_neg h1,lookup_putF,if_neg h2]
 all_goals rfl
theorem flds_put (r:Addr)(z y:Int):putF "place" (.int y) (flds r z)=flds r y:=by
 rw[flds_eq,flds_eq]
 show(if ("row" : Str) = "place" then _ else (("row" : Str),V.ref r)::(if ("place" : Str) = "place" then [(("place" : Str),V.int y)]else _))=([("row",V.ref r),("place",V.int y)]:List (Str×V))
 rw[if_neg rp,if_pos rfl]
theorem flds_lt (r:Addr)(z:Int):(flds r z).length<1000:=by
 rw[flds_eq]
 show 2<1000
 decide
structure Txt (K:PySem.W.Frag)(mg:Str→Option Value)(C fI fT fU fL fG:Addr)(dI dT dU dL dG:FuncData):Prop where
 cl:Cls K C
 nR:NoAttr K C "row"
 nP:NoAttr K C "place"
 mgC:mg "Bits"=some (.ref C)
 made:Mk K C fI
 m_take:Meth K C "take" fT
 m_used:Meth K C "used" fU
 m_left:Meth K C "left" fL
 m_go_back:Meth K C "go_back" fG
 b_init:Binds K dI p_Y3 []
 b_take:Binds K dT p_Y14 []
 b_used:Binds K dU p_Y15 []
 b_left:Binds K dL p_Y10 []
 b_go_back:Binds K dG p_Y6 []
def spInit (C:Addr):Sp:=fun vs H Q _=>∃(p dx r:Addr)(xs:List V),vs=[.ref p,.ref r]∧H p=some (.ins C dx [])∧H r=some (.tup xs) ∧
 ∀H',H' p=some (.ins C dx (flds r 0))→(∀b o,H b=some o→b≠p→H' b=some o)→Q .non H'
def spUsed (C:Addr):Sp:=fun vs H Q _=>∃(p dx r:Addr)(z:Nat),vs=[.ref p]∧H p=some (.ins C dx (flds r z))∧Q (.int z) H
def spLeft (C:Addr):Sp:=fun vs H Q _=>∃(p dx r:Addr)(xs:List V)(z:Nat),vs=[.ref p]∧H p=some (.ins C dx (flds r z))∧H r=some (.tup xs)∧Q (.int ((xs.length:Int)-(z:Int))) H
def spTake (C CN:Addr):Sp:=fun vs H Q E=>∃(p dx r:Addr)(xs:List V)(z:Nat),vs=[.ref p]∧H p=some (.ins C dx (flds r z))∧H r=some (.tup xs)∧z≤xs.length ∧
 (∀v,xs[z]?=some v→Q v (upd H p (.ins C dx (flds r ((z+1:Nat):Int)))))∧(z=xs.length→E (.ref CN) none H)
def spBackH (C:Addr):Sp:=fun vs H Q _=>∃(p dx r:Addr)(z m:Nat),vs=[.ref p,.int m]∧H p=some (.ins C dx (flds r z))∧m≤z∧Q .non (upd H p (.ins C dx (flds r m)))
section
variable {P:Program}{w:World}{K:PySem.W.Frag}{mg:Str→Option Value}{base:Heap}{f C fI fT fU fL fG CN CP:Addr}{fd dI dT dU dL dG:FuncData}{mN mP:List Value}
theorem ok_init (F_Y3:Fun K "__init__" "Bits.__init__" s_Y3 f fd)(B:Bl mg)(T:Txt K mg C fI fT fU fL fG dI dT dU dL dG):FnOk P w K mg base CX0 1 f fd p_Y3 (spInit C):=by
 refine F_Y3.ok sc_Y3 (fun vs H Q E h=>?_) (fun cdv A outer s H vs Q E hr h=>?_)
 ·obtain⟨p,dx,r,xs,rfl,_⟩:=h
  rfl
 obtain⟨p,dx,r,xs,rfl,hp,hR,q⟩:=h
 refine⟨_,(pss_cons (ps_fld (pv 0) (pe_callTy call_tuple_of rfl B.tuple_ L3.bt_tuple (pa_cons (pv 1) pa_nil)) rfl)
   (pss_one (ps_fld (pv 0) pe_int rfl))),?_⟩
 refine⟨_,rfl,r,xs,rfl,.inr ⟨SqT.of hR,_,rfl,p,C,dx,[],rfl,hp,T.cl,T.nR,(by show 0<1000;decide),?_⟩⟩
 refine⟨_,rfl,p,C,dx,_,rfl,upd_same,T.cl,T.nP,(by show 1<1000;decide),?_⟩
 refine q _ upd_same fun b o e hb=>?_
 rw[upd_ne hb,upd_ne hb]
 exact e
theorem ok_used (F_Y15:Fun K "used" "Bits.used" s_Y15 f fd)(T:Txt K mg C fI fT fU fL fG dI dT dU dL dG):FnOk P w K mg base CX0 1 f fd p_Y15 (spUsed C):=by
 refine F_Y15.ok sc_Y15 (fun vs H Q E h=>?_) (fun cdv A outer s H vs Q E hr h=>?_)
 ·obtain⟨p,dx,r,z,rfl,_⟩:=h
  rfl
 obtain⟨p,dx,r,z,rfl,hp,q⟩:=h
 refine⟨_,(pss_one (ps_ret (pe_fld (pv 0) rfl))),?_⟩
 exact⟨_,rfl,p,C,dx,_,_,rfl,hp,T.cl,T.nP,flds_place _ _,q⟩
theorem ok_left (F_Y10:Fun K "left" "Bits.left" s_Y10 f fd)(B:Bl mg)(T:Txt K mg C fI fT fU fL fG dI dT dU dL dG):FnOk P w K mg base CX0 1 f fd p_Y10 (spLeft C):=by
 refine F_Y10.ok sc_Y10 (fun vs H Q E h=>?_) (fun cdv A outer s H vs Q E hr h=>?_)
 ·obtain⟨p,dx,r,xs,z,rfl,_⟩:=h
  rfl
 obtain⟨p,dx,r,xs,z,rfl,hp,hR,q⟩:=h
 refine⟨_,(pss_one (ps_ret (pe_op op_sub (pe_callB call_len_seq rfl B.len_ L3.bt_len (pa_cons (pe_fld (pv 0) rfl) pa_nil)) (pe_fld (pv 0) rfl)))),?_⟩
 exact⟨_,rfl,p,C,dx,_,_,rfl,hp,T.cl,T.nR,flds_row _ _,r,xs,rfl,.inr (SqT.of hR),_,rfl,p,C,dx,_,_,rfl,hp,T.cl,T.nP,flds_place _ _,_,_,rfl,rfl,q⟩
theorem ok_take (F_Y14:Fun K "take" "Bits.take" s_Y14 f fd)(T:Txt K mg C fI fT fU fL fG dI dT dU dL dG)(X_E1:Exc K mg "NoBits" CN mN)(g_left:FnOk P w K mg base CX0 1 fL dL p_Y10 (spLeft C)):FnOk P w K mg base (CXR P w) 2 f fd p_Y14 (spTake C CN):=by
 refine F_Y14.okX sc_Y14 (fun vs H Q E h=>?_) (fun cdv A outer s H vs Q E hr h=>?_)
 ·obtain⟨p,dx,r,xs,z,rfl,_⟩:=h
  rfl
 obtain⟨p,dx,r,xs,z,rfl,hp,hR,hz,q,e⟩:=h
 refine⟨_,(pss_cons (ps_if (pt_cmpR op_eq (pe_meth0 (pv 0) T.cl T.m_left g_left (hr.mono (by first|decide|omega)) T.b_left .nil pass0) pe_int (nomark _)) (pss_one (ps_raise X_E1 (pa_cons pe_str pa_nil))) pss_nil)
   (pss_cons (ps_set (i:=1) sc_Y14.nd rfl (Or.inl rfl) (pe_ix ix_tup (pe_fld (pv 0) rfl) (pe_fld (pv 0) rfl) (fun _ _=>rfl)))
   (pss_cons (ps_fld (pv 0) (pe_op op_add (pe_fld (pv 0) rfl) pe_int) rfl)
   (pss_one (ps_ret (pv 1)))))),?_⟩
 refine⟨_,rfl,p,dx,_,rfl,hp,flds_no _ _ (by decide +kernel) (by decide +kernel),p,dx,r,xs,z,rfl,hp,hR,rfl,_,rfl,?_⟩
 refine ite2 (fun c=>?_) (fun c=>?_)
 ·have c':V.int ((xs.length:Int)-(z:Int))=V.int 0:=of_decide_eq_true c
  injection c' with c'
  exact⟨(by show 1≤sizeLine;decide),e (by omega)⟩
 ·have c':¬V.int ((xs.length:Int)-(z:Int))=V.int 0:=of_decide_eq_false (Bool.eq_false_iff.mpr c)
  have hlt:z<xs.length:=by
   rcases Nat.lt_or_ge z xs.length with y|y
   ·exact y
   ·exact absurd (by rw[show(xs.length:Int)-(z:Int)=0 by omega]) c'
  have hv:=List.getElem?_eq_getElem hlt
  refine⟨_,rfl,p,C,dx,_,_,rfl,hp,T.cl,T.nR,flds_row _ _,_,rfl,p,C,dx,_,_,rfl,hp,T.cl,T.nP,flds_place _ _,r,xs,_,_,rfl,rfl,SqT.of hR,atI_nat hv,?_⟩
  refine⟨_,rfl,p,C,dx,_,_,rfl,hp,T.cl,T.nP,flds_place _ _,_,_,rfl,rfl,_,rfl,p,C,dx,_,rfl,hp,T.cl,T.nP,flds_lt _ _,?_⟩
  refine⟨_,rfl,?_⟩
  rw[flds_put]
  exact q _ hv
theorem okH_go_back (F_Y6:Fun K "go_back" "Bits.go_back" s_Y6 f fd)(T:Txt K mg C fI fT fU fL fG dI dT dU dL dG):FnOkH P w K mg base 1 f fd p_Y6 (spBackH C):=by
 refine F_Y6.okH sc_Y6 (fun vs H Q E h=>?_) (fun cdv A outer s H vs Q E h=>?_)
 ·obtain⟨p,dx,r,z,m,rfl,_⟩:=h
  rfl
 obtain⟨p,dx,r,z,m,rfl,hp,hm,q⟩:=h
 refine⟨_,(pss_cons (ps_if (PW.pt (pw_or (pt_cmpR op_lt (pv 1) pe_int (nomark _)) (pw_or1 (pt_cmpR op_gt (pv 1) (pe_fld (pv 0) rfl) (nomark _))))) (pss_one ps_never) pss_nil)
   (pss_one (ps_fld (pv 0) (pv 1) rfl))),?_⟩
 refine⟨_,rfl,_,_,rfl,rfl,_,rfl,?_⟩
 refine ite2 (fun c=>?_) (fun c=>?_)
 ·have c':(m:Int)<0:=of_decide_eq_true c
  omega
 ·refine⟨_,rfl,_,rfl,p,C,dx,_,_,rfl,hp,T.cl,T.nP,flds_place _ _,_,_,rfl,rfl,_,rfl,?_⟩
  refine ite2 (fun c2=>?_) (fun c2=>?_)
  ·have c3:(m:Int)>(z:Int):=of_decide_eq_true c2
   omega
  ·refine⟨_,rfl,_,rfl,p,C,dx,_,rfl,hp,T.cl,T.nP,flds_lt _ _,?_⟩
   rw[flds_put]
   exact q
end
theorem lo62 (n:Nat):(-(2 ^ 62):Int)≤(n:Int):=Int.le_trans (by decide) (Int.natCast_nonneg n)
theorem hi62 {n:Nat}(h:n≤1000000):(n:Int)<2 ^ 62:=Int.lt_of_le_of_lt (Int.ofNat_le.mpr h) (by decide)
theorem nat_of {z:Int}(h:0≤z):∃n:Nat,z=(n:Int):=⟨z.toNat,by omega⟩
noncomputable abbrev vbits (bl:List Nat):List V:=bl.map fun(b:Nat)=>V.int (b:Int)
structure At (C:Addr)(H:Hp)(b dx r:Addr)(bl:List Nat)(z:Nat):Prop where
 obj:H b=some (.ins C dx (flds r z))
 row:H r=some (.tup (vbits bl))
 le:z≤bl.length
theorem At.same {C:Addr}{H H':Hp}{b dx r:Addr}{bl:List Nat}{z:Nat}(h:At C H b dx r bl z)(s:Same H H'):At C H' b dx r bl z:=⟨s _ _ h.obj,s _ _ h.row,h.le⟩
theorem At.ne {C:Addr}{H:Hp}{b dx r:Addr}{bl:List Nat}{z:Nat}(h:At C H b dx r bl z):r≠b:=fun e=>by
 have a:=h.row
 rw[e,h.obj]at a
 cases a
theorem At.grow {C t:Addr}{H H':Hp}{b dx r:Addr}{bl:List Nat}{z:Nat}(h:At C H b dx r bl z)(s:Grow t H H')(hb:b≠t)(hr:r≠t):At C H' b dx r bl z:=⟨s _ _ hb h.obj,s _ _ hr h.row,h.le⟩
theorem At.to {C:Addr}{H:Hp}{b dx r:Addr}{bl:List Nat}{z:Nat}(h:At C H b dx r bl z){y:Nat}(hy:y≤bl.length):At C (upd H b (.ins C dx (flds r y))) b dx r bl y:=⟨upd_same,by rw[upd_ne h.ne];exact h.row,hy⟩
theorem vbits_at {bl:List Nat}{z:Nat}{v:V}(h:(vbits bl)[z]?=some v):∃x,bl[z]?=some x∧v=.int (x:Int):=by
 rw[List.getElem?_map]at h
 cases e:bl[z]? with
 | none=>rw[e]at h;cases h
 | some x=>rw[e]at h;exact⟨x,rfl,(Option.some.inj h).symm⟩
theorem vbits_len (bl:List Nat):(vbits bl).length=bl.length:=List.length_map _
def spTakeB (C CN:Addr):Sp:=fun vs H Q E=>∃(b dx r:Addr)(bl:List Nat)(z:Nat),vs=[.ref b]∧At C H b dx r bl z ∧
 (∀x H',bl[z]?=some x→Grow b H H'→At C H' b dx r bl (z+1)→Q (.int (x:Int)) H')∧(z=bl.length→E (.ref CN) none H)
theorem take_imp {C CN:Addr}:∀vs H Q E,spTakeB C CN vs H Q E→spTake C CN vs H Q E:=by
 rintro vs H Q E ⟨b,dx,r,bl,z,rfl,hA,q,e⟩
 refine⟨b,dx,r,vbits bl,z,rfl,hA.obj,hA.row,by rw[vbits_len];exact hA.le,fun v hv=>?_,fun hz=>e (by rw[vbits_len]at hz;exact hz)⟩
 obtain⟨x,hx,rfl⟩:=vbits_at hv
 have hlt:z<bl.length:=by
  rcases Nat.lt_or_ge z bl.length with y|y
  ·exact y
  ·rw[List.getElem?_eq_none y]at hx;cases hx
 exact q x _ hx (Grow.upd _) (hA.to hlt)
def spRaw {α:Type}(C CN:Addr)(Sh:Hp→V→α→Prop)(F:α→List Nat→Option (V×Nat)):Sp:=fun vs H Q E=>∃(b dx r:Addr)(bl:List Nat)(z:Nat)(x:V)(a:α),vs=[.ref b,x]∧At C H b dx r bl z∧Sh H x a ∧
 (∀v u H',F a (bl.drop z)=some (v,u)→Grow b H H'→At C H' b dx r bl (z+u)→Q v H') ∧
 (∀z' H',F a (bl.drop z)=none→z≤z'→Grow b H H'→At C H' b dx r bl z'→E (.ref CN) none H')
def spDone {α:Type}(C CN:Addr)(Sh:Hp→V→α→Prop)(F:α→List Nat→Option (V×Nat)):Sp:=fun vs H Q E=>∃(b dx r:Addr)(bl:List Nat)(z:Nat)(x:V)(a:α),vs=[.ref b,x]∧At C H b dx r bl z∧Sh H x a ∧
 (∀v u H',F a (bl.drop z)=some (v,u)→Grow b H H'→At C H' b dx r bl (z+u)→Q v H') ∧
 (∀H',F a (bl.drop z)=none→Grow b H H'→At C H' b dx r bl z→E (.ref CN) none H')
def spDW (P:Program)(w:World)(K:PySem.W.Frag)(mg:Str→Option Value)(base:Heap)(k0:Nat)(C CN:Addr):Sp:=fun vs H Q E=>∃(b dx r f:Addr)(bl:List Nat)(z:Nat)(x:V)(fd:FuncData)(ps:List Str)(k:Nat)(sp:Sp),
 vs=[.ref b,.ref f,x]∧FnOk P w K mg base (CXR P w) k f fd ps sp∧k≤k0∧PySem.W.keepIn K (.ref f)=true∧Binds K fd ps []∧At C H b dx r bl z ∧
 ∀Ex:XK,(∀z' H1,z≤z'→At C H1 b dx r bl z'→(∀H2,Grow b H1 H2→At C H2 b dx r bl z→E (.ref CN) none H2)→Ex (.ref CN) none H1)→sp [.ref b,x] H Q Ex
theorem dw_of {α:Type}{P:Program}{w:World}{K:PySem.W.Frag}{mg:Str→Option Value}{base:Heap}{k k0:Nat}{C CN f:Addr}{fd:FuncData}{ps:List Str}{x:Str}{Sh:Hp→V→α→Prop}{F:α→List Nat→Option (V×Nat)}(G:FnX P w K mg base x f fd ps k (spRaw C CN Sh F))(hk:k≤k0)
  {b dx r:Addr}{bl:List Nat}{z:Nat}{y:V}{a:α}{H:Hp}{Q:VK}{E:XK}(hA:At C H b dx r bl z)(hS:Sh H y a)(q:∀v u H',F a (bl.drop z)=some (v,u)→Grow b H H'→At C H' b dx r bl (z+u)→Q v H')
  (e:∀H',F a (bl.drop z)=none→Grow b H H'→At C H' b dx r bl z→E (.ref CN) none H'):spDW P w K mg base k0 C CN [.ref b,.ref f,y] H Q E :=
 ⟨b,dx,r,f,bl,z,y,fd,ps,k,_,rfl,G.ok,hk,G.kp,G.bd,hA,fun Ex hE=>⟨b,dx,r,bl,z,y,a,rfl,hA,hS,q,fun z' H1 n1 l1 g1 a1=>hE z' H1 l1 a1 fun H2 g2 a2=>e H2 n1 (g1.trans g2) a2⟩⟩
section
variable {P:Program}{w:World}{K:PySem.W.Frag}{mg:Str→Option Value}{base:Heap}{f C fI fT fU fL fG CN:Addr}{fd dI dT dU dL dG:FuncData}{mN:List Value}
theorem ok_Y8 {k0:Nat}(F_Y8:Fun K "drawn_whole" "drawn_whole" s_Y8 f fd)(T:Txt K mg C fI fT fU fL fG dI dT dU dL dG)(X_E1:Exc K mg "NoBits" CN mN)(hNN:mN.contains (.ref CN)=true)(g_used:FnOk P w K mg base CX0 1 fU dU p_Y15 (spUsed C))(gH_go_back:FnOkH P w K mg base 1 fG dG p_Y6 (spBackH C)) :
  FnOk P w K mg base (CXR P w) (k0+1+1) f fd p_Y8 (spDW P w K mg base (k0+1) C CN):=by
 refine F_Y8.okX sc_Y8 (fun vs H Q E h=>?_) (fun cdv A outer s H vs Q E hr h=>?_)
 ·obtain⟨b,dx,r,f,bl,z,x,fd,ps,k,sp,rfl,_⟩:=h
  rfl
 obtain⟨b,dx,r,f',bl,z,x,fd',ps',k,sp,rfl,F,hk,kp,hb,hA,q⟩:=h
 refine⟨_,(pss_cons (ps_set (i:=3) sc_Y8.nd rfl (Or.inl rfl) (pe_meth0 (pv 0) T.cl T.m_used g_used (hr.mono (by first|decide|omega)) T.b_used .nil pass0))
   (pss_one (ps_try (psx_ret (px_callV 1 (pv 1) hr (pa_cons (pv 0) (pa_cons (pv 2) pa_nil)))) (Hs.cons X_E1 rfl (by decide) (fun y ps ok hd=>(pss_cons (ps_expr (pe_methH (pv 0) T.cl T.m_go_back gH_go_back ((hr.mono (by first|decide|omega)).h _) T.b_go_back (pa_cons (pv 3) pa_nil)))
   (pss_one (ps_raiseH ok hd X_E1 (pa_cons pe_str pa_nil))))) .nil) rfl rfl (fun _=>PassesOwnAt.leaving)))),?_⟩
 refine⟨_,rfl,b,dx,_,rfl,hA.obj,flds_no _ _ (by decide +kernel) (by decide +kernel),b,dx,r,z,rfl,hA.obj,?_⟩
 refine⟨f',fd',k,ps',sp,rfl,F,hk,kp,hb,_,rfl,_,rfl,q _ fun z' H1 hz hA1 e=>?_⟩
 refine⟨"NoBits",CN,mN,_,rfl,X_E1,if_pos hNN,?_⟩
 refine⟨_,rfl,b,dx,_,rfl,hA1.obj,flds_no _ _ (by decide +kernel) (by decide +kernel),_,rfl,b,dx,r,z',z,rfl,hA1.obj,hz,?_⟩
 exact⟨(by show 1≤sizeLine;decide),e _ (Grow.upd _) (hA1.to hA.le)⟩
end
noncomputable def evR (m:Nat):Nat→Nat→Nat→List Nat→Option (Nat×Nat)
 | _,_,_,[]=>none
 | n,s,u,b::bs=>if 2*s<m then evR m (2*n+b) (2*s) (u+1) bs else if 2*n+b<m then some (2*n+b,u+1)else evR m (2*n+b-m) (2*s-m) (u+1) bs
noncomputable def evG (m n s u:Nat)(bs:List Nat):Option (Nat×Nat):=if s<m then evR m n s u bs else if n<m then some (n,u)else evR m (n-m) (s-m) u bs
noncomputable def evF (m:Nat)(bs:List Nat):Option (Nat×Nat):=evG m 0 1 0 bs
noncomputable def evV (m:Nat)(bs:List Nat):Option (V×Nat):=(evF m bs).map fun p=>(V.int (p.1:Int),p.2)
theorem evG_nil {m n s u:Nat}(h:s<m):evG m n s u []=none:=by
 unfold evG
 rw[if_pos h]
 rfl
theorem evG_step {m n s u b:Nat}{bs:List Nat}(h:s<m):evG m n s u (b::bs)=evG m (2*n+b) (2*s) (u+1) bs:=by
 unfold evG
 rw[if_pos h]
 rfl
theorem evG_less {m n s u:Nat}{bs:List Nat}(h:¬s<m)(h2:¬n<m)(h3:s<2*m):evG m n s u bs=evG m (n-m) (s-m) u bs:=by
 unfold evG
 rw[if_neg h,if_neg h2,if_pos (by omega)]
theorem evG_end {m n s u:Nat}{bs:List Nat}(h:¬s<m)(h2:n<m):evG m n s u bs=some (n,u):=by
 unfold evG
 rw[if_neg h,if_pos h2]
theorem drop_at {bl:List Nat}{z x:Nat}(h:bl[z]?=some x):bl.drop z=x::bl.drop (z+1):=by
 have hlt:z<bl.length:=by
  rcases Nat.lt_or_ge z bl.length with y|y
  ·exact y
  ·rw[List.getElem?_eq_none y]at h;cases h
 rw[List.drop_eq_getElem_cons hlt]
 rw[List.getElem?_eq_getElem hlt]at h
 rw[Option.some.inj h]
def ShN (_:Hp)(x:V)(m:Nat):Prop:=x=.int (m:Int)∧0<m
section
variable {P:Program}{w:World}{K:PySem.W.Frag}{mg:Str→Option Value}{base:Heap}{f C fI fT fU fL fG CN:Addr}{fd dI dT dU dL dG:FuncData}{mN:List Value}
theorem ok_Y20 (F_Y20:Fun K "take_even" "take_even" s_Y20 f fd)(T:Txt K mg C fI fT fU fL fG dI dT dU dL dG)(g_take:FnOk P w K mg base (CXR P w) 2 fT dT p_Y14 (spTakeB C CN)) :
  FnOk P w K mg base (CXR P w) 3 f fd p_Y20 (spRaw C CN ShN evV):=by
 refine F_Y20.okX sc_Y20 (fun vs H Q E h=>?_) (fun cdv A outer s H vs Q E hr h=>?_)
 ·obtain⟨b,dx,r,bl,z,x,a,rfl,_⟩:=h
  rfl
 obtain⟨b,dx,r,bl,z,x,m,rfl,hA,⟨rfl,hm⟩,q,e⟩:=h
 refine⟨_,(pss_cons (ps_set (i:=2) sc_Y20.nd rfl (Or.inl rfl) pe_int)
   (pss_cons (ps_set (i:=3) sc_Y20.nd rfl (Or.inl rfl) pe_int)
   (pss_one (ps_while (PassesOwn.leaving (M:=model P w)) (pt_truth pe_bl (fun _=>rfl)) (pss_cons (ps_while (PassesOwn.leaving (M:=model P w)) (pt_cmpR op_lt (pv 3) (pv 1) (nomark _)) (pss_cons (ps_set (i:=2) sc_Y20.nd rfl (Or.inl rfl) (pe_op op_add (pe_op op_mul pe_int (pv 2)) (pe_meth0 (pv 0) T.cl T.m_take g_take (hr.mono (by first|decide|omega)) T.b_take .nil cx_pass)))
   (pss_one (ps_set (i:=3) sc_Y20.nd rfl (Or.inl rfl) (pe_op op_mul pe_int (pv 3))))))
   (pss_cons (ps_if (pt_cmpR op_lt (pv 2) (pv 1) (nomark _)) (pss_one (ps_ret (pv 2))) pss_nil)
   (pss_cons (ps_set (i:=2) sc_Y20.nd rfl (Or.inl rfl) (pe_op op_sub (pv 2) (pv 1)))
   (pss_one (ps_set (i:=3) sc_Y20.nd rfl (Or.inl rfl) (pe_op op_sub (pv 3) (pv 1))))))))))),?_⟩
 refine⟨fun mu σ' H'=>∃(n sz u:Nat),mu=2*(bl.length-(z+u))+(if sz<m then 0 else 1)∧σ'=[some (.ref b),some (.int (m:Int)),some (.int (n:Int)),some (.int (sz:Int))]∧Grow b H H'∧At C H' b dx r bl (z+u)∧sz<2*m∧evF m (bl.drop z)=evG m n sz u (bl.drop (z+u)),⟨_,0,1,0,rfl,rfl,Grow.refl _ _,hA,by omega,rfl⟩,?_⟩
 rintro mu σ1 H1 ⟨n,sz,u,rfl,rfl,g1,a1,hsz,hev⟩
 refine⟨_,rfl,iteT ?_⟩
 refine⟨_,fun _ _ z=>z,?_⟩
 refine⟨fun m2 σ' H'=>∃(n2 sz2 u2:Nat),m2=bl.length-(z+u2)∧σ'=[some (.ref b),some (.int (m:Int)),some (.int (n2:Int)),some (.int (sz2:Int))]∧Grow b H H'∧At C H' b dx r bl (z+u2)∧sz2<2*m∧evF m (bl.drop z)=evG m n2 sz2 u2 (bl.drop (z+u2))∧u≤u2∧(u2=u→sz2=sz),⟨_,n,sz,u,rfl,rfl,g1,a1,hsz,hev,Nat.le_refl _,fun _=>rfl⟩,?_⟩
 rintro m2 σ2 H2 ⟨n2,sz2,u2,rfl,rfl,g2,a2,hsz2,hev2,hu2,hk2⟩
 refine⟨_,rfl,_,rfl,_,_,rfl,rfl,_,rfl,ite2 (fun c=>?_) (fun c=>?_)⟩
 ·have c':(sz2:Int)<(m:Int):=of_decide_eq_true c
  have hlt:sz2<m:=by omega
  refine⟨_,fun _ _ z=>z,?_⟩
  refine⟨_,rfl,_,_,rfl,rfl,.inl ⟨by decide,by decide⟩,_,rfl,b,dx,_,rfl,a2.obj,flds_no _ _ (by decide +kernel) (by decide +kernel),b,dx,r,bl,z+u2,rfl,a2,fun x H3 hx g3 a3=>?_,fun hz=>?_⟩
  ·have hl3:=a3.le
   refine⟨_,_,rfl,rfl,?_⟩
   refine⟨_,rfl,_,_,rfl,rfl,.inl ⟨by decide,by decide⟩,?_⟩
   refine⟨bl.length-(z+(u2+1)),by omega,2*n2+x,2*sz2,u2+1,rfl,?_,g2.trans g3,a3,by omega,?_,by omega,fun h=>by omega⟩
   ·show _=[some (V.ref b),some (V.int (m:Int)),some (V.int ((2*n2+x:Nat):Int)),some (V.int ((2*sz2:Nat):Int))]
    rw[Int.natCast_add,Int.natCast_mul,Int.natCast_mul]
    rfl
   ·rw[hev2,drop_at hx,evG_step hlt]
    rfl
  ·refine e (z+u2) H2 ?_ (by omega) g2 a2
   unfold evV
   rw[hev2,List.drop_eq_nil_of_le (by omega),evG_nil hlt]
   rfl
 ·have c':¬(sz2:Int)<(m:Int):=of_decide_eq_false (Bool.eq_false_iff.mpr c)
  have hge:¬sz2<m:=by omega
  refine⟨_,rfl,_,rfl,_,_,rfl,rfl,_,rfl,ite2 (fun c2=>?_) (fun c2=>?_)⟩
  ·have c3:(n2:Int)<(m:Int):=of_decide_eq_true c2
   refine⟨_,rfl,q _ u2 H2 ?_ g2 a2⟩
   unfold evV
   rw[hev2,evG_end hge (by omega)]
   rfl
  ·have c3:¬(n2:Int)<(m:Int):=of_decide_eq_false (Bool.eq_false_iff.mpr c2)
   refine⟨_,rfl,_,rfl,_,_,rfl,rfl,?_⟩
   refine⟨_,rfl,_,rfl,_,_,rfl,rfl,?_⟩
   have l2:=a2.le
   refine⟨2*(bl.length-(z+u2))+(if sz2-m<m then 0 else 1),?_,n2-m,sz2-m,u2,rfl,?_,g2,a2,by omega,by rw[hev2,evG_less hge (by omega) hsz2]⟩
   ·rw[if_pos (show sz2-m<m by omega)]
    by_cases hu:u2=u
    ·have:=hk2 hu
     subst this
     subst hu
     rw[if_neg hge]
     omega
    ·omega
   ·show _=[some (V.ref b),some (V.int (m:Int)),some (V.int ((n2-m:Nat):Int)),some (V.int ((sz2-m:Nat):Int))]
    rw[Int.ofNat_sub (by omega),Int.ofNat_sub (by omega)]
    rfl
theorem ok_Y32 (F_Y32:Fun K "even" "even" s_Y32 f fd){fD fR:Addr}{dD dR:FuncData}(g_Y8:FnX P w K mg base "drawn_whole" fD dD p_Y8 5 (spDW P w K mg base 4 C CN))(g_Y20:FnX P w K mg base "take_even" fR dR p_Y20 3 (spRaw C CN ShN evV)) :
  FnOk P w K mg base (CXR P w) 6 f fd p_Y32 (spDone C CN ShN evV):=by
 refine F_Y32.okX sc_Y32 (fun vs H Q E h=>?_) (fun cdv A outer s H vs Q E hr h=>?_)
 ·obtain⟨b,dx,r,bl,z,x,a,rfl,_⟩:=h
  rfl
 obtain⟨b,dx,r,bl,z,x,m,rfl,hA,hS,q,e⟩:=h
 refine⟨_,(pss_one (ps_ret (pe_fnX g_Y8 hr (pa_cons (pv 0) (pa_cons (pe_glob (v:=.ref _) rfl g_Y20.mg rfl) (pa_cons (pv 1) pa_nil)))))),?_⟩
 exact⟨_,rfl,_,rfl,dw_of g_Y20 (by decide) hA hS q e⟩
end
noncomputable def vnats (l:List Nat):List V:=l.map fun(n:Nat)=>V.int (n:Int)
theorem vnats_ints (l:List Nat):vnats l=(l.map fun(n:Nat)=>(n:Int)).map V.int:=by rw[List.map_map];rfl
theorem vnats_at {l:List Nat}{j:Nat}(h:j<l.length):(vnats l)[j]?=some (V.int (l.getD j 0:Int)):=by
 rw[vnats,List.getElem?_map,List.getElem?_eq_getElem h,List.getD_eq_getElem?_getD,List.getElem?_eq_getElem h]
 rfl
theorem vnats_len (l:List Nat):(vnats l).length=l.length:=List.length_map _
theorem sum_nats:∀l:List Nat,(l.map fun(n:Nat)=>(n:Int)).sum=((l.sum:Nat):Int)
 | []=>rfl
 | a::l=>by rw[List.map_cons,List.sum_cons,List.sum_cons,sum_nats l,Int.natCast_add]
theorem vnats_in (T:Nat)(l:List Nat):inV (V.int (T:Int)) (vnats l)=decide (T∈l):=by
 unfold inV vnats
 rw[Bool.eq_iff_iff,List.any_eq_true,decide_eq_true_iff]
 constructor
 ·rintro ⟨x,hx,e⟩
  obtain⟨n,hn,rfl⟩:=List.mem_map.mp hx
  have e':((n:Int)==(T:Int))=true:=e
  have:n=T:=by have:=eq_of_beq e';omega
  exact this▸hn
 ·intro h
  exact⟨_,List.mem_map.mpr ⟨T,h,rfl⟩,by show((T:Int)==(T:Int))=true;simp⟩
theorem vnats_flat (l:List Nat):(vnats l).all flatV=true:=by
 rw[List.all_eq_true]
 intro x hx
 obtain⟨n,_,rfl⟩:=List.mem_map.mp hx
 rfl
theorem idx_at {T:Nat}{l:List Nat}(h:T∈l):(l.map fun(n:Nat)=>(n:Int))[l.idxOf T]?=some (T:Int)∧∀i,i<l.idxOf T→(l.map fun(n:Nat)=>(n:Int))[i]?≠some (T:Int):=by
 have hl:l.idxOf T<l.length:=List.idxOf_lt_length_of_mem h
 refine⟨?_,fun i hi e=>?_⟩
 ·rw[List.getElem?_map,List.getElem?_eq_getElem hl,List.getElem_idxOf hl]
  rfl
 ·have hil:i<l.length:=Nat.lt_trans hi hl
  rw[List.getElem?_map,List.getElem?_eq_getElem hil]at e
  have e':((l[i]:Nat):Int)=(T:Int):=Option.some.inj e
  exact absurd (show l[i]=T by omega) (by simpa using List.not_of_lt_findIdx (p:=fun x=>x==T) hi)
noncomputable def digs (T:Nat)(rs:List Nat):List Nat:=(List.range rs.length).filter fun i=>decide (T≤2*rs.getD i 0)
noncomputable def stepR (T:Nat)(rs:List Nat):List Nat:=rs.map fun r=>2*r%T
noncomputable def pkR (T:Nat):List Nat→Nat→Nat→List Nat→Option (Nat×Nat)
 | _,_,_,[]=>none
 | rs,p,u,b::bs=>if 2*p+b<(digs T rs).length then some ((digs T rs).getD (2*p+b) 0,u+1)else pkR T (stepR T rs) (2*p+b-(digs T rs).length) (u+1) bs
theorem mem_digs {T:Nat}{rs:List Nat}{j:Nat}:j∈digs T rs↔j<rs.length∧T≤2*rs.getD j 0:=by
 unfold digs
 rw[List.mem_filter,List.mem_range,decide_eq_true_iff]
theorem digs_len_sum {T:Nat}(hT:0<T):∀(rs:List Nat),(∀r∈rs,r<T)→2*rs.sum=(stepR T rs).sum+(rs.filter fun r=>decide (T≤2*r)).length*T
 | [],_=>by simp[stepR]
 | r::rs,h=>by
  have hr:=h r List.mem_cons_self
  have ih:=digs_len_sum hT rs fun x hx=>h x (List.mem_cons_of_mem _ hx)
  show 2*(r::rs).sum=(2*r%T::stepR T rs).sum+_
  rw[List.sum_cons,List.sum_cons,List.filter_cons]
  by_cases c:T≤2*r
  ·rw[if_pos (by simpa using c),List.length_cons,Nat.mod_eq_sub_mod c,Nat.mod_eq_of_lt (by omega),Nat.add_mul]
   omega
  ·rw[if_neg (by simpa using c),Nat.mod_eq_of_lt (by omega)]
   omega
theorem digs_length (T:Nat)(rs:List Nat):(digs T rs).length=(rs.filter fun r=>decide (T≤2*r)).length:=by
 unfold digs
 have:∀(rs:List Nat),((List.range rs.length).filter fun i=>decide (T≤2*rs.getD i 0)).length=(rs.filter fun r=>decide (T≤2*r)).length:=by
  intro rs
  induction rs with
  | nil=>rfl
  | cons r rs ih =>
   rw[List.length_cons,List.range_succ_eq_map,List.filter_cons,List.filter_map,List.filter_cons]
   have e:((fun i=>decide (T≤2*(r::rs).getD i 0))∘Nat.succ)=fun i=>decide (T≤2*rs.getD i 0):=by
    funext i;rfl
   rw[e]
   show(if decide (T≤2*r)=true then _ else _:List Nat).length=_
   by_cases c:T≤2*r
   ·rw[if_pos (by simpa using c),if_pos (by simpa using c),List.length_cons,List.length_cons,List.length_map,ih]
   ·rw[if_neg (by simpa using c),if_neg (by simpa using c),List.length_map,ih]
 exact this rs
theorem digs_step {T R:Nat}{rs:List Nat}(hT:0<T)(h:∀r∈rs,r<T)(hs:rs.sum=R*T):∃R',2*R=(digs T rs).length+R'∧(stepR T rs).sum=R'*T∧∀r∈stepR T rs,r<T:=by
 have e:=digs_len_sum hT rs h
 rw[←digs_length,hs]at e
 refine⟨2*R-(digs T rs).length,?_,?_,fun r hr=>?_⟩
 ·have:(digs T rs).length*T≤2*R*T:=by rw[Nat.mul_assoc];omega
  have:=Nat.le_of_mul_le_mul_right this hT
  omega
 ·rw[Nat.sub_mul,Nat.mul_assoc]
  omega
 ·obtain⟨x,_,rfl⟩:=List.mem_map.mp hr
  exact Nat.mod_lt _ hT
noncomputable def figs (T:Nat)(rs:List Nat)(i:Nat):List Nat:=(List.range i).filter fun k=>decide (T≤2*rs.getD k 0)
theorem figs_len (T:Nat)(rs:List Nat)(i:Nat):(figs T rs i).length≤i:=Nat.le_trans (List.length_filter_le _ _) (by rw[List.length_range];exact Nat.le_refl _)
theorem figs_yes {T:Nat}{rs:List Nat}{i:Nat}(h:T≤2*rs.getD i 0):vnats (figs T rs (i+1))=vnats (figs T rs i)++[V.int (i:Int)]:=by
 unfold figs
 rw[List.range_succ,List.filter_append,vnats,vnats,List.map_append,List.filter_cons_of_pos (by simpa using h)]
 rfl
theorem figs_no {T:Nat}{rs:List Nat}{i:Nat}(h:¬T≤2*rs.getD i 0):vnats (figs T rs (i+1))=vnats (figs T rs i):=by
 unfold figs
 rw[List.range_succ,List.filter_append,vnats,vnats,List.map_append,List.filter_cons_of_neg (by simpa using h)]
 exact List.append_nil _
theorem step_more {T:Nat}{rs:List Nat}{i:Nat}(h:i<rs.length):vnats (stepR T (rs.take (i+1)))=vnats (stepR T (rs.take i))++[V.int ((2*rs.getD i 0%T:Nat):Int)]:=by
 rw[List.take_add_one,List.getElem?_eq_getElem h,List.getD_eq_getElem?_getD,List.getElem?_eq_getElem h]
 unfold stepR vnats
 rw[List.map_append,List.map_append]
 rfl
theorem step_len (T:Nat)(rs:List Nat):(stepR T rs).length=rs.length:=List.length_map _
noncomputable def pkF (ws bs:List Nat):Option (Nat×Nat):=if ws.sum∈ws then some (ws.idxOf ws.sum,0)else pkR ws.sum ws 0 0 bs
noncomputable def pkV (ws bs:List Nat):Option (V×Nat):=(pkF ws bs).map fun p=>(V.int (p.1:Int),p.2)
def ShW (H:Hp)(x:V)(ws:List Nat):Prop:=∃r,x=.ref r∧H r=some (.tup (vnats ws))∧0<ws.sum∧ws.sum<1073741824∧ws.length≤1000
def ShX (H:Hp)(x:V)(ws:List Nat):Prop:=ShW H x ws∧ws.sum∉ws
section
variable {P:Program}{w:World}{K:PySem.W.Frag}{mg:Str→Option Value}{base:Heap}{f C fI fT fU fL fG CN:Addr}{fd dI dT dU dL dG:FuncData}{mN:List Value}
theorem ok_Y11 (F_Y11:Fun K "take_pick" "take_pick" s_Y11 f fd)(B:Bl mg)(T:Txt K mg C fI fT fU fL fG dI dT dU dL dG)(g_take:FnOk P w K mg base (CXR P w) 2 fT dT p_Y14 (spTakeB C CN)) :
  FnOk P w K mg base (CXR P w) 3 f fd p_Y11 (spRaw C CN ShX pkV):=by
 refine F_Y11.okX sc_Y11 (fun vs H Q E h=>?_) (fun cdv A outer s H vs Q E hr h=>?_)
 ·obtain⟨b,dx,r,bl,z,x,a,rfl,_⟩:=h
  rfl
 obtain⟨b,dx,r0,bl,z,x,ws,rfl,hA,⟨⟨wr,rfl,hW,hT,hT2,hwl⟩,hno⟩,q,e⟩:=h
 refine⟨_,(pss_cons (ps_set (i:=2) sc_Y11.nd rfl (Or.inr rfl) (pe_callB (call_sumT rfl) rfl B.sum_ L3.bt_sum (pa_cons (pv 1) pa_nil)))
   (pss_cons (ps_set (i:=3) sc_Y11.nd rfl (Or.inl rfl) (pv 1))
   (pss_cons (ps_set (i:=4) sc_Y11.nd rfl (Or.inl rfl) pe_int)
   (pss_one (ps_while (PassesOwn.leaving (M:=model P w)) (pt_truth pe_bl (fun _=>rfl)) (pss_cons (ps_set (i:=4) sc_Y11.nd rfl (Or.inl rfl) (pe_op op_add (pe_op op_mul pe_int (pv 4)) (pe_meth0 (pv 0) T.cl T.m_take g_take (hr.mono (by first|decide|omega)) T.b_take .nil cx_pass)))
   (pss_cons (ps_join (ps_comp 5 [] ["bits","weights","total","rests","place","ends","number","rest"] 2 rfl sc_Y11.nd rfl rfl (PI.or (pi_enumT rfl B.enumerate_ (pa_cons (pv 3) pa_nil)) (pi_enumL rfl B.enumerate_ (pa_cons (pv 3) pa_nil))) (fun _ _ _ _ _=>(pg_tupK K 2 rfl (pgs_cons (pg_name (i:=6) nd_2 rfl (Or.inl rfl) (Or.inr rfl)) (pgs_cons (pg_name (i:=7) nd_2 rfl (Or.inl rfl) (Or.inr rfl)) pgs_nil)) rfl rfl rfl)) (fun _ _ _ _ _=>(pif_one (pt_cmpR op_ge (pe_op op_mul pe_int (pv 7)) (pv 2) (nomark _)))) (fun _ _ _ _ _=>(pv 6))))
   (pss_cons (ps_if (pt_cmpR op_lt (pv 4) (pe_callB call_len_seq rfl B.len_ L3.bt_len (pa_cons (pv 5) pa_nil)) (nomark _)) (pss_one (ps_ret (pe_ix ix_list (pv 5) (pv 4) (fun _ _=>rfl)))) pss_nil)
   (pss_cons (ps_set (i:=4) sc_Y11.nd rfl (Or.inl rfl) (pe_op op_sub (pv 4) (pe_callB call_len_seq rfl B.len_ L3.bt_len (pa_cons (pv 5) pa_nil))))
   (pss_one (ps_joinN (ps_comp 3 [] ["bits","weights","total","rests","place","ends","rest"] 1 rfl sc_Y11.nd rfl rfl (PI.or (pi_tup (pv 3)) (pi_list (pv 3))) (fun _ _ _ _ _=>(pg_name (i:=6) nd_3 rfl (Or.inl rfl) (Or.inr rfl))) (fun _ _ _ _ _=>pif_nil) (fun _ _ _ _ _=>(pe_op op_mod (pe_op op_mul pe_int (pv 6)) (pv 2))))))))))))))),?_⟩
 refine⟨_,rfl,wr,ws.map (fun(n:Nat)=>(n:Int)),rfl,SqT.of (by rw[←vnats_ints];exact hW),?_⟩
 rw[sum_nats]
 refine⟨_,rfl,?_⟩
 have hpk:pkF ws (bl.drop z)=pkR ws.sum ws 0 0 (bl.drop z):=if_neg hno
 generalize hS:ws.sum=S at hT hT2 hpk
 refine⟨fun mu σ' H'=>∃(rs:List Nat)(pl u:Nat)(r:Addr)(o5:Option V),mu=bl.length-(z+u)∧σ'=[some (.ref b),some (.ref wr),some (.int (S:Int)),some (.ref r),some (.int (pl:Int)),o5]∧Grow b H H'∧At C H' b dx r0 bl (z+u)∧(H' r=some (.tup (vnats rs))∨H' r=some (.lst (vnats rs)))∧rs.length≤1000∧pkF ws (bl.drop z)=pkR S rs pl u (bl.drop (z+u)),
  ⟨_,ws,0,0,wr,none,rfl,rfl,Grow.refl _ _,hA,.inl hW,hwl,hpk⟩,?_⟩
 rintro mu σ1 H1 ⟨rs,pl,u,r,o5,rfl,rfl,g1,a1,hrs,hrl,hev⟩
 refine⟨_,rfl,iteT ?_⟩
 refine⟨_,fun _ _ z=>z,?_⟩
 -- place
 refine⟨_,rfl,_,_,rfl,rfl,.inl ⟨by decide,by decide⟩,_,rfl,b,dx,_,rfl,a1.obj,flds_no _ _ (by decide +kernel) (by decide +kernel),b,dx,r0,bl,z+u,rfl,a1,fun x H2 hx g2 a2=>?_,fun hz=>?_⟩
 rotate_left
 ·refine e (z+u) H1 ?_ (by omega) g1 a1
  unfold pkV
  rw[hev,List.drop_eq_nil_of_le (by omega)]
  rfl
 have hl2:=a2.le
 have hrb:r≠b:=fun y=>by
  rcases hrs with hh|hh<;>(rw[y,a1.obj]at hh;cases hh)
 replace hrs:H2 r=some (.tup (vnats rs))∨H2 r=some (.lst (vnats rs)):=hrs.imp (fun y=>g2 _ _ hrb y) (fun y=>g2 _ _ hrb y)
 refine⟨_,_,rfl,rfl,?_⟩
 have ep:(2:Int)*(pl:Int)+(x:Int)=((2*pl+x:Nat):Int):=by omega
 -- ends
 refine⟨fun σ' H'=>∃D:Addr,σ'=[some (.ref b),some (.ref wr),some (.int (S:Int)),some (.ref r),some (.int ((2*pl+x:Nat):Int)),some (.ref D)]∧Same H2 H'∧H' D=some (.lst (vnats (digs S rs))),?_,?_⟩
 rotate_left
 ·rcases hrs with hrs|hrs
  ·refine .inl ⟨_,rfl,r,rfl,⟨_,SqT.of hrs⟩,?_⟩
   refine⟨fun i mm acc σ' H'=>mm=rs.length-i∧i≤rs.length∧acc=vnats (figs S rs i)∧Same H2 H'∧∃o6 o7:Option V,σ'=[some (.ref b),some (.ref wr),some (.int (S:Int)),some (.ref r),some (.int ((2:Int)*(pl:Int)+(x:Int))),o5,o6,o7],⟨rs.length,rfl,Nat.zero_le _,rfl,Same.refl _,_,_,rfl⟩,?_⟩
   rintro i mm acc σ' H3 ⟨rfl,hi,rfl,s3,o6,o7,rfl⟩
   have hfl:=figs_len S rs i
   by_cases hlt:i<rs.length
   ·refine .inr ⟨⟨_,_,SqT.of (s3 _ _ hrs),vnats_at hlt⟩,smallL (by rw[vnats_len];omega),fun acc' σ2 H4=>acc'=vnats (figs S rs (i+1))∧Same H2 H4∧∃o6 o7:Option V,σ2=[some (.ref b),some (.ref wr),some (.int (S:Int)),some (.ref r),some (.int ((2:Int)*(pl:Int)+(x:Int))),o5,o6,o7],?_,?_⟩
    ·rintro acc' σ2 H4 ⟨rfl,s4,o6',o7',rfl⟩
     exact⟨rs.length-(i+1),by omega,rfl,hlt,rfl,s4,_,_,rfl⟩
    ·rintro v H4 ⟨p,y,fp,rfl,rfl,ex⟩
     have ex':=ex _ (SqT.of (s3 _ _ hrs))
     rw[vnats_at hlt]at ex'
     obtain rfl:=Option.some.inj ex'
     have s4:=s3.trans (same_new fp (.tup [V.int (i:Int),V.int ((rs.getD i 0:Nat):Int)]))
     refine⟨p,_,rfl,SqT.of upd_same,rfl,_,_,rfl,_,_,rfl,rfl,?_⟩
     refine⟨_,rfl,_,_,rfl,rfl,.inl ⟨by decide,by decide⟩,_,rfl,_,_,rfl,rfl,_,rfl,ite2 (fun c=>?_) (fun c=>?_)⟩
     ·have c':(S:Int)≤2*((rs.getD i 0:Nat):Int):=of_decide_eq_true c
      refine⟨_,rfl,?_,s4,_,_,rfl⟩
      rw[figs_yes (by omega)]
     ·have c':¬(S:Int)≤2*((rs.getD i 0:Nat):Int):=of_decide_eq_false (Bool.eq_false_iff.mpr c)
      refine⟨?_,s4,_,_,rfl⟩
      rw[figs_no (by omega)]
   ·have ei:i=rs.length:=by omega
    subst ei
    refine .inl ⟨⟨_,SqT.of (s3 _ _ hrs),by rw[vnats_len];exact Nat.le_refl _⟩,small (by rw[vnats_len];omega),fun D fD=>⟨D,?_,s3.trans (same_new fD _),upd_same⟩⟩
    rw[←ep]
    rfl
  ·refine .inr ⟨_,rfl,r,rfl,⟨_,SqL.of hrs⟩,?_⟩
   refine⟨fun i mm acc σ' H'=>mm=rs.length-i∧i≤rs.length∧acc=vnats (figs S rs i)∧Same H2 H'∧∃o6 o7:Option V,σ'=[some (.ref b),some (.ref wr),some (.int (S:Int)),some (.ref r),some (.int ((2:Int)*(pl:Int)+(x:Int))),o5,o6,o7],⟨rs.length,rfl,Nat.zero_le _,rfl,Same.refl _,_,_,rfl⟩,?_⟩
   rintro i mm acc σ' H3 ⟨rfl,hi,rfl,s3,o6,o7,rfl⟩
   have hfl:=figs_len S rs i
   by_cases hlt:i<rs.length
   ·refine .inr ⟨⟨_,_,SqL.of (s3 _ _ hrs),vnats_at hlt⟩,smallL (by rw[vnats_len];omega),fun acc' σ2 H4=>acc'=vnats (figs S rs (i+1))∧Same H2 H4∧∃o6 o7:Option V,σ2=[some (.ref b),some (.ref wr),some (.int (S:Int)),some (.ref r),some (.int ((2:Int)*(pl:Int)+(x:Int))),o5,o6,o7],?_,?_⟩
    ·rintro acc' σ2 H4 ⟨rfl,s4,o6',o7',rfl⟩
     exact⟨rs.length-(i+1),by omega,rfl,hlt,rfl,s4,_,_,rfl⟩
    ·rintro v H4 ⟨p,y,fp,rfl,rfl,ex⟩
     have ex':=ex _ (SqL.of (s3 _ _ hrs))
     rw[vnats_at hlt]at ex'
     obtain rfl:=Option.some.inj ex'
     have s4:=s3.trans (same_new fp (.tup [V.int (i:Int),V.int ((rs.getD i 0:Nat):Int)]))
     refine⟨p,_,rfl,SqT.of upd_same,rfl,_,_,rfl,_,_,rfl,rfl,?_⟩
     refine⟨_,rfl,_,_,rfl,rfl,.inl ⟨by decide,by decide⟩,_,rfl,_,_,rfl,rfl,_,rfl,ite2 (fun c=>?_) (fun c=>?_)⟩
     ·have c':(S:Int)≤2*((rs.getD i 0:Nat):Int):=of_decide_eq_true c
      refine⟨_,rfl,?_,s4,_,_,rfl⟩
      rw[figs_yes (by omega)]
     ·have c':¬(S:Int)≤2*((rs.getD i 0:Nat):Int):=of_decide_eq_false (Bool.eq_false_iff.mpr c)
      refine⟨?_,s4,_,_,rfl⟩
      rw[figs_no (by omega)]
   ·have ei:i=rs.length:=by omega
    subst ei
    refine .inl ⟨⟨_,SqL.of (s3 _ _ hrs),by rw[vnats_len];exact Nat.le_refl _⟩,small (by rw[vnats_len];omega),fun D fD=>⟨D,?_,s3.trans (same_new fD _),upd_same⟩⟩
    rw[←ep]
    rfl
 rintro σ3 H3 ⟨D,rfl,s3,hD⟩
 have a3:=a2.same s3
 have hrs3:H3 r=some (.tup (vnats rs))∨H3 r=some (.lst (vnats rs)):=hrs.imp (fun y=>s3 _ _ y) (fun y=>s3 _ _ y)
 have g3:Grow b H H3:=(g1.trans g2).trans (.same s3)
 have hev2:pkF ws (bl.drop z)=if 2*pl+x<(digs S rs).length then some ((digs S rs).getD (2*pl+x) 0,u+1)else pkR S (stepR S rs) (2*pl+x-(digs S rs).length) (u+1) (bl.drop (z+(u+1))):=by
  rw[hev,drop_at hx]
  rfl
 refine⟨_,rfl,_,rfl,D,_,rfl,.inl (SqL.of hD),_,_,rfl,rfl,_,rfl,?_⟩
 rw[vnats_len]
 refine ite2 (fun c=>?_) (fun c=>?_)
 ·have c':((2*pl+x:Nat):Int)<(((digs S rs).length:Nat):Int):=of_decide_eq_true c
  have hlt:2*pl+x<(digs S rs).length:=by omega
  rw[if_pos hlt]at hev2
  refine⟨_,rfl,_,rfl,D,_,_,_,rfl,rfl,SqL.of hD,atI_nat (vnats_at hlt),q _ (u+1) H3 ?_ g3 a3⟩
  unfold pkV
  rw[hev2]
  rfl
 have c':¬((2*pl+x:Nat):Int)<(((digs S rs).length:Nat):Int):=of_decide_eq_false (Bool.eq_false_iff.mpr c)
 have hge:¬2*pl+x<(digs S rs).length:=by omega
 rw[if_neg hge]at hev2
 refine⟨_,rfl,_,rfl,D,_,rfl,.inl (SqL.of hD),_,_,rfl,rfl,?_⟩
 rw[vnats_len]
 have es:((2*pl+x:Nat):Int)-(((digs S rs).length:Nat):Int)=((2*pl+x-(digs S rs).length:Nat):Int):=by rw[Int.ofNat_sub (by omega)]
 -- rests
 refine⟨fun σ' H'=>∃D2:Addr,σ'=[some (.ref b),some (.ref wr),some (.int (S:Int)),some (.ref D2),some (.int ((2*pl+x-(digs S rs).length:Nat):Int)),some (.ref D)]∧Same H3 H'∧H' D2=some (.lst (vnats (stepR S rs))),?_,?_⟩
 rotate_left
 ·rcases hrs3 with hrs|hrs
  ·refine .inl ⟨_,rfl,r,rfl,⟨_,SqT.of hrs⟩,?_⟩
   refine⟨fun i mm acc σ' H'=>mm=rs.length-i∧i≤rs.length∧acc=vnats (stepR S (rs.take i))∧H'=H3∧∃o6:Option V,σ'=[some (.ref b),some (.ref wr),some (.int (S:Int)),some (.ref r),some (.int (((2*pl+x:Nat):Int)-(((digs S rs).length:Nat):Int))),some (.ref D),o6],⟨rs.length,rfl,Nat.zero_le _,rfl,rfl,_,rfl⟩,?_⟩
   rintro i mm acc σ' H4 ⟨rfl,hi,rfl,rfl,o6,rfl⟩
   have hsl:(stepR S (rs.take i)).length≤1000:=by rw[step_len,List.length_take];omega
   by_cases hlt:i<rs.length
   ·refine .inr ⟨⟨_,_,SqT.of hrs,vnats_at hlt⟩,smallL (by rw[vnats_len];omega),fun acc' σ2 H5=>acc'=vnats (stepR S (rs.take (i+1)))∧H5=H4∧∃o6:Option V,σ2=[some (.ref b),some (.ref wr),some (.int (S:Int)),some (.ref r),some (.int (((2*pl+x:Nat):Int)-(((digs S rs).length:Nat):Int))),some (.ref D),o6],?_,?_⟩
    ·rintro acc' σ2 H5 ⟨rfl,rfl,o6',rfl⟩
     exact⟨rs.length-(i+1),by omega,rfl,hlt,rfl,rfl,_,rfl⟩
    ·rintro v H5 ⟨rfl,ex⟩
     have ex':=ex _ (SqT.of hrs)
     rw[vnats_at hlt]at ex'
     obtain rfl:=Option.some.inj ex'
     refine⟨_,rfl,_,_,rfl,rfl,.inl ⟨by decide,by decide⟩,_,rfl,_,_,rfl,rfl,(by show(0:Int)<(S:Int);omega),?_,rfl,_,rfl⟩
     rw[step_more hlt]
     rfl
   ·have ei:i=rs.length:=by omega
    subst ei
    refine .inl ⟨⟨_,SqT.of hrs,by rw[vnats_len];exact Nat.le_refl _⟩,small (by rw[vnats_len];omega),fun D2 fD=>⟨D2,?_,same_new fD _,?_⟩⟩
    ·rw[←es]
     rfl
    ·rw[upd_same,List.take_length]
  ·refine .inr ⟨_,rfl,r,rfl,⟨_,SqL.of hrs⟩,?_⟩
   refine⟨fun i mm acc σ' H'=>mm=rs.length-i∧i≤rs.length∧acc=vnats (stepR S (rs.take i))∧H'=H3∧∃o6:Option V,σ'=[some (.ref b),some (.ref wr),some (.int (S:Int)),some (.ref r),some (.int (((2*pl+x:Nat):Int)-(((digs S rs).length:Nat):Int))),some (.ref D),o6],⟨rs.length,rfl,Nat.zero_le _,rfl,rfl,_,rfl⟩,?_⟩
   rintro i mm acc σ' H4 ⟨rfl,hi,rfl,rfl,o6,rfl⟩
   have hsl:(stepR S (rs.take i)).length≤1000:=by rw[step_len,List.length_take];omega
   by_cases hlt:i<rs.length
   ·refine .inr ⟨⟨_,_,SqL.of hrs,vnats_at hlt⟩,smallL (by rw[vnats_len];omega),fun acc' σ2 H5=>acc'=vnats (stepR S (rs.take (i+1)))∧H5=H4∧∃o6:Option V,σ2=[some (.ref b),some (.ref wr),some (.int (S:Int)),some (.ref r),some (.int (((2*pl+x:Nat):Int)-(((digs S rs).length:Nat):Int))),some (.ref D),o6],?_,?_⟩
    ·rintro acc' σ2 H5 ⟨rfl,rfl,o6',rfl⟩
     exact⟨rs.length-(i+1),by omega,rfl,hlt,rfl,rfl,_,rfl⟩
    ·rintro v H5 ⟨rfl,ex⟩
     have ex':=ex _ (SqL.of hrs)
     rw[vnats_at hlt]at ex'
     obtain rfl:=Option.some.inj ex'
     refine⟨_,rfl,_,_,rfl,rfl,.inl ⟨by decide,by decide⟩,_,rfl,_,_,rfl,rfl,(by show(0:Int)<(S:Int);omega),?_,rfl,_,rfl⟩
     rw[step_more hlt]
     rfl
   ·have ei:i=rs.length:=by omega
    subst ei
    refine .inl ⟨⟨_,SqL.of hrs,by rw[vnats_len];exact Nat.le_refl _⟩,small (by rw[vnats_len];omega),fun D2 fD=>⟨D2,?_,same_new fD _,?_⟩⟩
    ·rw[←es]
     rfl
    ·rw[upd_same,List.take_length]
 rintro σ4 H4 ⟨D2,rfl,s4,hD2⟩
 exact⟨bl.length-(z+(u+1)),by omega,stepR S rs,2*pl+x-(digs S rs).length,u+1,D2,some (.ref D),rfl,rfl,g3.trans (.same s4),a3.same s4,.inr hD2,by rw[step_len];exact hrl,hev2⟩
theorem ok_Y34 (F_Y34:Fun K "pick" "pick" s_Y34 f fd)(B:Bl mg){fD fR:Addr}{dD dR:FuncData}(g_Y8:FnX P w K mg base "drawn_whole" fD dD p_Y8 5 (spDW P w K mg base 4 C CN))(g_Y11:FnX P w K mg base "take_pick" fR dR p_Y11 3 (spRaw C CN ShX pkV)) :
  FnOk P w K mg base (CXR P w) 6 f fd p_Y34 (spDone C CN ShW pkV):=by
 refine F_Y34.okX sc_Y34 (fun vs H Q E h=>?_) (fun cdv A outer s H vs Q E hr h=>?_)
 ·obtain⟨b,dx,r,bl,z,x,a,rfl,_⟩:=h
  rfl
 obtain⟨b,dx,r,bl,z,x,ws,rfl,hA,hSh,q,e⟩:=h
 obtain⟨wr,rfl,hW,hT,hT2,hwl⟩:=id hSh
 have hsq:∀{H'},H' wr=some (.tup (vnats ws))→SqT K H' wr ((ws.map (fun(n:Nat)=>(n:Int))).map V.int):=fun {H'} y=>SqT.of (by rw[←vnats_ints];exact y)
 refine⟨_,(pss_cons (ps_set (i:=2) sc_Y34.nd rfl (Or.inl rfl) (pe_callB (call_sumT rfl) rfl B.sum_ L3.bt_sum (pa_cons (pv 1) pa_nil)))
   (pss_cons (ps_if (pt_cmpR op_in_seq (pv 2) (pv 1) rfl) (pss_one (ps_ret (pe_bmT PySem.F.plainAttrs_tuple PySem.F.slot_tuple_index PySem.F.type_tuple_index mt_tindex (pv 1) (pa_cons (pv 2) pa_nil)))) pss_nil)
   (pss_one (ps_ret (pe_fnX g_Y8 hr (pa_cons (pv 0) (pa_cons (pe_glob (v:=.ref _) rfl g_Y11.mg rfl) (pa_cons (pv 1) pa_nil)))))))),?_⟩
 refine⟨_,rfl,wr,ws.map (fun(n:Nat)=>(n:Int)),rfl,hsq hW,?_⟩
 rw[sum_nats]
 refine⟨_,rfl,_,rfl,wr,vnats ws,rfl,.inr (SqT.of hW),rfl,vnats_flat ws,_,rfl,?_⟩
 rw[vnats_in]
 refine ite2 (fun c=>?_) (fun c=>?_)
 ·have c':ws.sum∈ws:=of_decide_eq_true c
  obtain⟨i1,i2⟩:=idx_at c'
  refine⟨_,rfl,⟨wr,_,rfl,hW⟩,_,rfl,wr,_,_,ws.idxOf ws.sum,rfl,rfl,hsq hW,i1,i2,q _ 0 H ?_ (Grow.refl _ _) hA⟩
  unfold pkV pkF
  rw[if_pos c']
  rfl
 ·have c':¬ws.sum∈ws:=of_decide_eq_false (Bool.eq_false_iff.mpr c)
  exact⟨_,rfl,_,rfl,dw_of g_Y11 (by decide) hA ⟨hSh,c'⟩ q e⟩
end
theorem vnats_app (a b:List Nat):vnats (a++b)=vnats a++vnats b:=List.map_append
theorem twn_tup {H:Hp}{t b:Addr}{k:Nat}{xs:List V}(h:Twn H t k)(hb:H b=some (.tup xs)):b≠t:=fun e=>by
 unfold Twn at h
 rw[e,h]at hb
 cases hb
theorem twn_ins {H:Hp}{t b:Addr}{k:Nat}{C dx:Addr}{fs:List (Str×V)}(h:Twn H t k)(hb:H b=some (.ins C dx fs)):b≠t:=fun e=>by
 unfold Twn at h
 rw[e,h]at hb
 cases hb
theorem At.town {C t:Addr}{H H':Hp}{b dx r:Addr}{bl:List Nat}{z k:Nat}(h:At C H b dx r bl z)(tw:Twn H t k)(g:Grow t H H'):At C H' b dx r bl z:=h.grow g (twn_ins tw h.obj) (twn_tup tw h.row)
theorem grow_twnB {C t:Addr}{H H':Hp}{b dx r:Addr}{bl:List Nat}{z k:Nat}(g:Grow b H H')(h:At C H b dx r bl z)(tw:Twn H t k):Twn H' t k:=g _ _ (fun e=>twn_ins tw h.obj e.symm) tw
theorem grow_scrB {K:PySem.W.Frag}{C a:Addr}{H H':Hp}{b dx r:Addr}{bl:List Nat}{z:Nat}{ns:List Int}(g:Grow b H H')(h:At C H b dx r bl z)(s:Scr K H a ns):Scr K H' a ns:=by
 rcases s with ⟨o,y⟩|y
 ·exact .inl ⟨o,g _ _ (fun e=>by rw[e,h.obj]at y;cases y) y⟩
 ·exact .inr y
theorem twn_new {H:Hp}{t p:Addr}{k:Nat}(h:Twn H t k)(hp:H p=none):p≠t:=fun y=>by
 unfold Twn at h
 rw[←y,hp]at h
 cases h
theorem vnats_set (l:List Nat)(j x:Nat):(vnats l).set j (V.int (x:Int))=vnats (l.set j x):=by rw[vnats,vnats,List.map_set]
theorem ixN_nat {n j:Nat}(h:j<n):ixN n (j:Int)=some j:=by
 unfold ixN
 rw[if_pos (by omega),if_pos (by omega)]
 simp
noncomputable def frU (u l:Nat):Nat:=u / Nat.gcd u l
noncomputable def frL (u l:Nat):Nat:=l / Nat.gcd u l
noncomputable def frV (u l:Nat):List V:=[.int (frU u l:Int),.int (frL u l:Int)]
theorem gcd_pos {u l:Nat}(h:0<l):0<Nat.gcd u l:=Nat.gcd_pos_of_pos_right _ h
theorem gcd_le {u l:Nat}(h:0<l):Nat.gcd u l≤l:=Nat.le_of_dvd h (Nat.gcd_dvd_right _ _)
theorem frL_pos {u l:Nat}(h:0<l):0<frL u l:=Nat.div_pos (gcd_le h) (gcd_pos h)
theorem fr_cop {u l:Nat}(h:0<l):Nat.Coprime (frU u l) (frL u l):=Nat.coprime_div_gcd_div_gcd (gcd_pos h)
theorem frU_mul (u l:Nat):frU u l*Nat.gcd u l=u:=Nat.div_mul_cancel (Nat.gcd_dvd_left _ _)
theorem frL_mul (u l:Nat):frL u l*Nat.gcd u l=l:=Nat.div_mul_cancel (Nat.gcd_dvd_right _ _)
theorem frU_le (u l:Nat):frU u l≤u:=Nat.div_le_self _ _
theorem frL_le (u l:Nat):frL u l≤l:=Nat.div_le_self _ _
theorem fr_uniq {a b c d:Nat}(h1:Nat.Coprime a b)(h2:Nat.Coprime c d)(hb:0<b)(e:a*d=c*b):a=c∧b=d:=by
 have d1:b ∣ d:=h1.symm.dvd_of_dvd_mul_left (by rw[e];exact Nat.dvd_mul_left _ _)
 have d2:d ∣ b:=h2.symm.dvd_of_dvd_mul_left (by rw[←e];exact Nat.dvd_mul_left _ _)
 have ed:=Nat.dvd_antisymm d1 d2
 subst ed
 exact⟨Nat.eq_of_mul_eq_mul_right hb e,rfl⟩
theorem fr_eq {a b c d : Nat} (hb : 0 < b) (hd : 0 < d) (e : a * d = c * b) : frU a b = frU c d∧frL a b = frL c d:=by
  refine fr_uniq (fr_cop hb) (fr_cop hd) (frL_pos hb) ?_
  have g1:=gcd_pos (u:=a) hb
  have g2:=gcd_pos (u:=c) hd
  refine Nat.eq_of_mul_eq_mul_right (Nat.mul_pos g1 g2) ?_
  calc frU a b * frL c d * (Nat.gcd a b * Nat.gcd c d) = (frU a b * Nat.gcd a b) * (frL c d * Nat.gcd c d):=by
        rw [Nat.mul_assoc,Nat.mul_assoc,Nat.mul_left_comm (frL c d)]
    _ = a * d:=by rw [frU_mul,frL_mul]
    _ = c * b:=e
    _ = (frU c d * Nat.gcd c d) * (frL a b * Nat.gcd a b):=by rw [frU_mul,frL_mul]
    _ = frU c d * frL a b * (Nat.gcd a b * Nat.gcd c d):=by
        rw [Nat.mul_assoc,Nat.mul_assoc,Nat.mul_left_comm (Nat.gcd c d),Nat.mul_comm (Nat.gcd c d)]
theorem frV_eq {a b c d:Nat}(hb:0<b)(hd:0<d)(e:a*d=c*b):frV a b=frV c d:=by
 obtain⟨h1,h2⟩:=fr_eq hb hd e
 unfold frV
 rw[h1,h2]
theorem fr_add {a c d : Nat} (hd : 0 < d) : frV (frU a d * frL c d + frU c d * frL a d) (frL a d * frL c d) = frV (a + c) d:=by
  refine frV_eq (Nat.mul_pos (frL_pos hd) (frL_pos hd)) hd ?_
  have e1 : frU a d * d = a * frL a d:=by
    have:=frU_mul a d
    have h2:=frL_mul a d
    calc frU a d * d = frU a d * (frL a d * Nat.gcd a d):=by rw [h2]
      _ = (frU a d * Nat.gcd a d) * frL a d:=by rw [Nat.mul_assoc,Nat.mul_comm (Nat.gcd a d)]
      _ = a * frL a d:=by rw [this]
  have e2 : frU c d * d = c * frL c d:=by
    have:=frU_mul c d
    have h2:=frL_mul c d
    calc frU c d * d = frU c d * (frL c d * Nat.gcd c d):=by rw [h2]
      _ = (frU c d * Nat.gcd c d) * frL c d:=by rw [Nat.mul_assoc,Nat.mul_comm (Nat.gcd c d)]
      _ = c * frL c d:=by rw [this]
  calc (frU a d * frL c d + frU c d * frL a d) * d = (frU a d * d) * frL c d + (frU c d * d) * frL a d:=by
        rw [Nat.add_mul,Nat.mul_right_comm,Nat.mul_right_comm (frU c d)]
    _ = a * frL a d * frL c d + c * frL c d * frL a d:=by rw [e1,e2]
    _ = (a + c) * (frL a d * frL c d):=by rw [Nat.add_mul,Nat.mul_assoc,Nat.mul_assoc,Nat.mul_comm (frL c d)]
theorem fit_gcd {u l:Nat}(h:0<l)(f:Fit l):Fit ((Nat.gcd u l:Nat):Int).natAbs:=by
 rw[Int.natAbs_natCast]
 exact f.le (gcd_le h)
def spCD:Sp:=fun vs H Q _=>∃u l:Nat,vs=[.int (u:Int),.int (l:Int)]∧Q (.int ((Nat.gcd u l:Nat):Int)) H
def spFrac:Sp:=fun vs H Q _=>∃u l:Nat,vs=[.int (u:Int),.int (l:Int)]∧0<l∧Fit l∧∀p H',Same H H'→H' p=some (.tup (frV u l))→Q (.ref p) H'
section
variable {P:Program}{w:World}{K:PySem.W.Frag}{mg:Str→Option Value}{base:Heap}{f:Addr}{fd:FuncData}
theorem ok_Y2 (F_Y2:Fun K "common_divisor" "common_divisor" s_Y2 f fd)(B:Bl mg):FnOk P w K mg base CX0 1 f fd p_Y2 spCD:=by
 refine F_Y2.ok sc_Y2 (fun vs H Q E h=>?_) (fun cdv A outer s H vs Q E hr h=>?_)
 ·obtain⟨u,l,rfl,_⟩:=h
  rfl
 obtain⟨u,l,rfl,q⟩:=h
 refine⟨_,(pss_cons (ps_set (i:=2) sc_Y2.nd rfl (Or.inl rfl) (pe_callB call_abs rfl B.abs_ L3.bt_abs (pa_cons (pv 0) pa_nil)))
   (pss_cons (ps_set (i:=3) sc_Y2.nd rfl (Or.inl rfl) (pe_callB call_abs rfl B.abs_ L3.bt_abs (pa_cons (pv 1) pa_nil)))
   (pss_cons (ps_while PassesOwn.never (pt_cmpR op_gt (pv 3) pe_int (nomark _)) (pss_cons (ps_set (i:=4) sc_Y2.nd rfl (Or.inl rfl) (pe_op op_mod (pv 2) (pv 3)))
   (pss_cons (ps_set (i:=2) sc_Y2.nd rfl (Or.inl rfl) (pv 3))
   (pss_one (ps_set (i:=3) sc_Y2.nd rfl (Or.inl rfl) (pv 4))))))
   (pss_one (ps_ret (pv 2)))))),?_⟩
 refine⟨_,rfl,_,rfl,?_⟩
 rw[if_neg (by omega)]
 refine⟨_,rfl,_,rfl,?_⟩
 rw[if_neg (by omega)]
 refine⟨fun m σ' H'=>∃(g:Nat)(o4:Option V),σ'=[some (.int (u:Int)),some (.int (l:Int)),some (.int (g:Int)),some (.int (m:Int)),o4]∧H'=H∧Nat.gcd g m=Nat.gcd u l,⟨l,u,_,rfl,rfl,rfl⟩,?_⟩
 rintro m σ' H' ⟨g,o4,rfl,rfl,hg⟩
 refine⟨_,rfl,_,_,rfl,rfl,_,rfl,ite2 (fun c=>?_) (fun c=>?_)⟩
 ·have c':(0:Int)<(m:Int):=of_decide_eq_true c
  refine⟨fun σ' H''=>∃o4:Option V,σ'=[some (.int (u:Int)),some (.int (l:Int)),some (.int (m:Int)),some (.int ((g%m:Nat):Int)),o4]∧H''=H',fun σ' H'' ⟨o,e1,e2⟩=>⟨g%m,Nat.mod_lt _ (by omega),m,o,e1,e2,?_⟩,?_⟩
  ·rw[←hg,Nat.gcd_comm m,←Nat.gcd_rec,Nat.gcd_comm]
  refine⟨_,rfl,_,rfl,_,_,rfl,rfl,c',?_⟩
  refine⟨_,rfl,_,rfl,some (.int ((g%m:Nat):Int)),?_,rfl⟩
  rw[Int.natCast_emod]
  rfl
 ·have c':¬(0:Int)<(m:Int):=of_decide_eq_false (Bool.eq_false_iff.mpr c)
  have:m=0:=by omega
  subst this
  refine⟨_,rfl,?_⟩
  rw[Nat.gcd_zero_right]at hg
  rw[←hg]at q
  exact q
theorem ok_Y25 (F_Y25:Fun K "fraction" "fraction" s_Y25 f fd)(g_Y2:Fn P w K mg base "common_divisor" p_Y2 1 spCD):FnOk P w K mg base CX0 2 f fd p_Y25 spFrac:=by
 refine F_Y25.ok sc_Y25 (fun vs H Q E h=>?_) (fun cdv A outer s H vs Q E hr h=>?_)
 ·obtain⟨u,l,rfl,_⟩:=h
  rfl
 obtain⟨u,l,rfl,hl,hf,q⟩:=h
 refine⟨_,(pss_cons (ps_if (pt_cmpR op_eq (pv 1) pe_int (nomark _)) (pss_one ps_never) pss_nil)
   (pss_cons (ps_set (i:=2) sc_Y25.nd rfl (Or.inl rfl) (pe_fn g_Y2 hr (pa_cons (pv 0) (pa_cons (pv 1) pa_nil))))
   (pss_cons (ps_join (ps_if (pt_cmpR op_lt (pv 1) pe_int (nomark _)) (pss_one (ps_set (i:=2) sc_Y25.nd rfl (Or.inl rfl) (pe_un un_neg (pv 2)))) pss_nil))
   (pss_one (ps_ret (pe_tup (pa_cons (pe_op op_fdivB (pv 0) (pv 2)) (pa_cons (pe_op op_fdivB (pv 1) (pv 2)) pa_nil)))))))),?_⟩
 have hg:=gcd_pos (u:=u) hl
 refine⟨_,rfl,rfl,_,rfl,?_⟩
 rw[show decide (V.int (l:Int)=V.int 0)=false from decide_eq_false (fun z=>by injection z with z;omega)]
 refine iteF ⟨_,rfl,_,rfl,u,l,rfl,?_⟩
 refine⟨fun σ' H'=>σ'=[some (.int (u:Int)),some (.int (l:Int)),some (.int ((Nat.gcd u l:Nat):Int))]∧H'=H,?_,?_⟩
 ·rintro σ' H' ⟨rfl,rfl⟩
  refine⟨_,rfl,_,rfl,_,_,rfl,rfl,⟨by omega,fit_gcd hl hf⟩,_,rfl,_,rfl,_,_,rfl,rfl,⟨by omega,fit_gcd hl hf⟩,(by show 2≤sizeLine;decide),fun p fp=>?_⟩
  refine q p _ (same_new fp _) ?_
  rw[upd_same]
  show some (HO.tup [V.int ((u:Int) / ((Nat.gcd u l:Nat):Int)),V.int ((l:Int) / ((Nat.gcd u l:Nat):Int))])=_
  rw[←Int.natCast_ediv,←Int.natCast_ediv]
  rfl
 ·refine⟨_,rfl,_,_,rfl,rfl,_,rfl,?_⟩
  rw[decide_eq_false (by omega)]
  exact iteF ⟨rfl,rfl⟩
theorem ok_Y17 (F_Y17:Fun K "_law_frac" "_law_frac" s_Y17 f fd)(B:Bl mg):FnOk P w K mg base CX0 1 f fd p_Y17 spFrac:=by
 refine F_Y17.ok sc_Y17 (fun vs H Q E h=>?_) (fun cdv A outer s H vs Q E hr h=>?_)
 ·obtain⟨u,l,rfl,_⟩:=h
  rfl
 obtain⟨u,l,rfl,hl,hf,q⟩:=h
 refine⟨_,(pss_cons (ps_par (i:=2) (j:=3) rfl sc_Y17.nd rfl rfl (by decide) rfl rfl (pa_cons (pv 0) (pa_cons (pv 1) pa_nil)) rfl)
   (pss_cons (ps_while PassesOwn.never (pt_cmpR op_ne (pv 3) pe_int (nomark _)) (pss_one (ps_par (i:=2) (j:=3) rfl sc_Y17.nd rfl rfl (by decide) rfl rfl (pa_cons (pv 3) (pa_cons (pe_op op_mod (pv 2) (pv 3)) pa_nil)) rfl)))
   (pss_cons (ps_set (i:=2) sc_Y17.nd rfl (Or.inl rfl) (pe_ifExp (pt_cmpR op_gt (pv 1) pe_int (nomark _)) (pe_callB call_abs rfl B.abs_ L3.bt_abs (pa_cons (pv 2) pa_nil)) (pe_un un_neg (pe_callB call_abs rfl B.abs_ L3.bt_abs (pa_cons (pv 2) pa_nil)))))
   (pss_one (ps_ret (pe_tup (pa_cons (pe_op op_fdivB (pv 0) (pv 2)) (pa_cons (pe_op op_fdivB (pv 1) (pv 2)) pa_nil)))))))),?_⟩
 have hg:=gcd_pos (u:=u) hl
 refine⟨_,rfl,_,rfl,_,_,rfl,?_⟩
 refine⟨fun m σ' H'=>∃(g:Nat),σ'=[some (.int (u:Int)),some (.int (l:Int)),some (.int (g:Int)),some (.int (m:Int))]∧H'=H∧Nat.gcd g m=Nat.gcd u l,⟨l,u,rfl,rfl,rfl⟩,?_⟩
 rintro m σ' H' ⟨g,rfl,rfl,hgs⟩
 refine⟨_,rfl,rfl,_,rfl,?_⟩
 by_cases c:m=0
 ·subst c
  rw[show(!decide (V.int ((0:Nat):Int)=V.int 0))=false from rfl]
  rw[Nat.gcd_zero_right]at hgs
  subst hgs
  refine iteF ⟨_,rfl,_,_,rfl,rfl,_,rfl,?_⟩
  rw[decide_eq_true (by omega)]
  refine iteT ⟨_,rfl,_,rfl,?_⟩
  rw[if_neg (by omega)]
  refine⟨_,rfl,_,rfl,_,_,rfl,rfl,⟨by omega,fit_gcd hl hf⟩,_,rfl,_,rfl,_,_,rfl,rfl,⟨by omega,fit_gcd hl hf⟩,(by show 2≤sizeLine;decide),fun p fp=>?_⟩
  refine q p _ (same_new fp _) ?_
  rw[upd_same]
  show some (HO.tup [V.int ((u:Int) / ((Nat.gcd u l:Nat):Int)),V.int ((l:Int) / ((Nat.gcd u l:Nat):Int))])=_
  rw[←Int.natCast_ediv,←Int.natCast_ediv]
  rfl
 ·rw[show(!decide (V.int (m:Int)=V.int 0))=true from by rw[decide_eq_false (fun z=>by injection z with z;omega)];rfl]
  refine iteT ⟨fun σ' H''=>σ'=[some (.int (u:Int)),some (.int (l:Int)),some (.int (m:Int)),some (.int ((g%m:Nat):Int))]∧H''=H',fun σ' H'' ⟨e1,e2⟩=>⟨g%m,Nat.mod_lt _ (by omega),m,e1,e2,?_⟩,?_⟩
  ·rw[←hgs,Nat.gcd_comm m,←Nat.gcd_rec,Nat.gcd_comm]
  refine⟨_,rfl,_,rfl,_,rfl,_,_,rfl,rfl,(by show(0:Int)<(m:Int);omega),_,_,rfl,?_,rfl⟩
  rw[Int.natCast_emod]
  rfl
end
def spPlus:Sp:=fun vs H Q _=>∃(a b:Addr)(x y z v:Nat),vs=[.ref a,.ref b]∧H a=some (.tup [.int (x:Int),.int (y:Int)])∧H b=some (.tup [.int (z:Int),.int (v:Int)])∧0<y∧0<v∧Fit x∧Fit y∧Fit z∧Fit v∧Fit (y*v)∧∀p H',Same H H'→H' p=some (.tup (frV (x*v+z*y) (y*v)))→Q (.ref p) H'
section
variable {P:Program}{w:World}{K:PySem.W.Frag}{mg:Str→Option Value}{base:Heap}{f:Addr}{fd:FuncData}
theorem ok_Y18 (F_Y18:Fun K "_law_plus" "_law_plus" s_Y18 f fd)(g_Y17:Fn P w K mg base "_law_frac" p_Y17 1 spFrac):FnOk P w K mg base CX0 2 f fd p_Y18 spPlus:=by
 refine F_Y18.ok sc_Y18 (fun vs H Q E h=>?_) (fun cdv A outer s H vs Q E hr h=>?_)
 ·obtain⟨a,b,x,y,z,v,rfl,_⟩:=h
  rfl
 obtain⟨a,b,x,y,z,v,rfl,ha,hb,hy,hv,fx,fy,fz,fv,fm,q⟩:=h
 refine⟨_,(pss_one (ps_ret (pe_fn g_Y17 hr (pa_cons (pe_op op_add (pe_op op_mulB (pe_ix ix_tup (pv 0) pe_int (fun _ _=>rfl)) (pe_ix ix_tup (pv 1) pe_int (fun _ _=>rfl))) (pe_op op_mulB (pe_ix ix_tup (pv 1) pe_int (fun _ _=>rfl)) (pe_ix ix_tup (pv 0) pe_int (fun _ _=>rfl)))) (pa_cons (pe_op op_mulB (pe_ix ix_tup (pv 0) pe_int (fun _ _=>rfl)) (pe_ix ix_tup (pv 1) pe_int (fun _ _=>rfl))) pa_nil))))),?_⟩
 refine⟨_,rfl,a,_,_,_,rfl,rfl,SqT.of ha,rfl,_,rfl,b,_,_,_,rfl,rfl,SqT.of hb,rfl,_,_,rfl,rfl,⟨fx,fv⟩,_,rfl,b,_,_,_,rfl,rfl,SqT.of hb,rfl,_,rfl,a,_,_,_,rfl,rfl,SqT.of ha,rfl,_,_,rfl,rfl,⟨fz,fy⟩,_,_,rfl,rfl,?_⟩
 refine⟨_,rfl,a,_,_,_,rfl,rfl,SqT.of ha,rfl,_,rfl,b,_,_,_,rfl,rfl,SqT.of hb,rfl,_,_,rfl,rfl,⟨fy,fv⟩,?_⟩
 exact⟨x*v+z*y,y*v,by rw[Int.natCast_add,Int.natCast_mul,Int.natCast_mul,Int.natCast_mul];rfl,Nat.mul_pos hy hv,fm,q⟩
end
theorem grow_none {t:Addr}{H H':Hp}{c:Addr}(g:Grow t H H')(hc:c≠t)(h:H' c=none):H c=none:=by
 cases e:H c with
 | none=>rfl
 | some o=>have:=g _ _ hc e;rw[h]at this;cases this
theorem le_sum:∀{l:List Nat}{w:Nat},w∈l→w≤l.sum
 | a::l,w,hw=>by
  rw[List.sum_cons]
  rcases List.mem_cons.mp hw with rfl|hw
  ·omega
  ·have:=le_sum hw
   omega
def spWts (K:PySem.W.Frag):Sp:=fun vs H Q _=>∃(a t:Addr)(ns:List Int)(k:Nat),vs=[.ref a,.ref t]∧Scr K H a ns∧ns.length≤63∧Twn H t k∧k≤700000 ∧
 ∀p ws k' H',Grow t H H'→Twn H' t k'→k'≤k+11→H' p=some (.tup (vnats ws))→0<ws.length→ws.length≤7→0<ws.sum→(∀x∈ws,x≤400)→Q (.ref p) H'
section
variable {P:Program}{w:World}{K:PySem.W.Frag}{mg:Str→Option Value}{base:Heap}{f:Addr}{fd:FuncData}
theorem ok_Y7 (F_Y7:Fun K "_law_weights" "_law_weights" s_Y7 f fd)(B:Bl mg)(g_Y19:Fn P w K mg base "_law_draw" p_Y19 1 (spDraw K))(g_Y24:Fn P w K mg base "_law_one" p_Y24 2 (spOne K)):FnOk P w K mg base CX0 3 f fd p_Y7 (spWts K):=by
 refine F_Y7.ok sc_Y7 (fun vs H Q E h=>?_) (fun cdv A outer s H vs Q E hr h=>?_)
 ·obtain⟨a,t,ns,k,rfl,_⟩:=h
  rfl
 obtain⟨a,t,ns,k,rfl,hS,h63,hT,hk,q⟩:=h
 refine⟨_,(pss_cons (ps_set (i:=2) sc_Y7.nd rfl (Or.inr rfl) (pe_fn g_Y24 hr (PB.go (pb_cons (pv 0) (pb_cons (pv 1) (pb_cons (pe_lst (pa_cons pe_int (pa_cons pe_int (pa_cons pe_int (pa_cons pe_int pa_nil))))) pb_nil se_List) se_Name) se_Name))))
   (pss_cons (ps_comp 3 [] ["_law_script","_law_town","_law_top","_law_weights_here","_law_k"] 1 rfl sc_Y7.nd rfl rfl (pi_range1 rfl B.range_ (pa_cons (pe_op op_add pe_int (pe_fn g_Y19 hr (pa_cons (pv 0) (pa_cons (pv 1) (pa_cons pe_int pa_nil))))) pa_nil)) (fun _ _ _ _ _=>(pg_name (i:=4) nd_4 rfl (Or.inl rfl) (Or.inr rfl))) (fun _ _ _ _ _=>pif_nil) (fun _ _ _ _ _=>(pe_fn g_Y19 hr (pa_cons (pv 0) (pa_cons (pv 1) (pa_cons (pv 2) pa_nil))))))
   (pss_cons (ps_join (ps_if (pt_cmpR op_eq (pe_callB (call_sumL rfl) rfl B.sum_ L3.bt_sum (pa_cons (pv 3) pa_nil)) pe_int (nomark _)) (pss_one (ps_asg (pe_op op_add pe_int (pe_fn g_Y19 hr (pa_cons (pv 0) (pa_cons (pv 1) (pa_cons pe_int pa_nil))))) (pg_sub (pv 3) (pe_fn g_Y19 hr (pa_cons (pv 0) (pa_cons (pv 1) (pa_cons (pe_callB call_len_seq rfl B.len_ L3.bt_len (pa_cons (pv 3) pa_nil)) pa_nil)))) set_list))) pss_nil))
   (pss_one (ps_ret (pe_callTy call_tuple_of rfl B.tuple_ L3.bt_tuple (pa_cons (pv 3) pa_nil))))))),?_⟩
 refine⟨_,rfl,_,rfl,(by show 4≤sizeLine;decide),fun l fl=>?_⟩
 have yl:=same_new fl (.lst [V.int 2,V.int 5,V.int 16,V.int 400])
 have wl:(upd H l (.lst [V.int 2,V.int 5,V.int 16,V.int 400])) l=some (.lst [V.int 2,V.int 5,V.int 16,V.int 400]):=upd_same
 generalize upd H l (.lst [V.int 2,V.int 5,V.int 16,V.int 400])=G1 at yl wl ⊢
 have t1:=yl.twn hT
 have hS1:=yl.scr hS
 refine⟨a,t,l,ns,k,_,rfl,hS1,h63,t1,by omega,wl,twn_new hT fl,(by show 0<4;decide),(by show 4≤1000;decide),fun jj v H3 _ hv g3 t3=>?_⟩
 obtain⟨m0,rfl,hm0,hm1⟩:∃m0:Int,v=.int m0∧0<m0∧m0≤400:=by
  match jj,hv with
  | 0,hv=>exact⟨2,(Option.some.inj hv).symm,by decide,by decide⟩
  | 1,hv=>exact⟨5,(Option.some.inj hv).symm,by decide,by decide⟩
  | 2,hv=>exact⟨16,(Option.some.inj hv).symm,by decide,by decide⟩
  | 3,hv=>exact⟨400,(Option.some.inj hv).symm,by decide,by decide⟩
 have hS3:=g3.scr t1 hS1
 have G03:Grow t H H3:=(Grow.same yl).trans g3
 clear yl wl t1 hS1 g3
 refine⟨_,rfl,_,rfl,a,t,ns,k+1,7,rfl,hS3,h63,t3,by omega,by decide,fun H4 g4 t4=>⟨_,_,rfl,rfl,?_⟩⟩
 have d0:=drw_nn ns (k+1+1) (show(0:Int)<7 by decide)
 have d1:=drw_lt ns (k+1+1) (show(0:Int)<7 by decide)
 generalize drw ns (k+1+1) 7=dd at d0 d1
 obtain⟨d,rfl⟩:=nat_of d0
 have en:((1:Int)+(d:Int))=((1+d:Nat):Int):=by omega
 dsimp only
 rw[en]
 refine⟨_,rfl,lo62 _,hi62 (by omega),?_⟩
 rw[Int.toNat_natCast]
 have hS4:=g4.scr t3 hS3
 have G04:=G03.trans g4
 refine⟨fun i2 mm acc σ' H'=>mm=1+d-i2∧i2≤1+d∧Grow t H4 H'∧Scr K H' a ns∧Twn H' t (k+1+1+i2)∧(∃ws:List Nat,acc=vnats ws∧ws.length=i2∧∀x∈ws,x≤400)∧∃o4:Option V,σ'=[some (.ref a),some (.ref t),some (.int m0),none,o4],
  ⟨1+d,rfl,Nat.zero_le _,Grow.refl _ _,hS4,t4,⟨[],rfl,rfl,fun x hx=>by cases hx⟩,_,rfl⟩,?_⟩
 rintro i2 mm acc σ' H5 ⟨rfl,hi2,g5,hS5,t5,⟨ws,rfl,hwl,hw4⟩,o4,rfl⟩
 by_cases hli:i2<1+d
 ·refine .inr ⟨hli,smallL (by rw[vnats_len];omega),fun acc' σ2 H'=>Grow t H4 H'∧Scr K H' a ns∧Twn H' t (k+1+1+(i2+1))∧(∃ws:List Nat,acc'=vnats ws∧ws.length=i2+1∧∀x∈ws,x≤400)∧∃o4:Option V,σ2=[some (.ref a),some (.ref t),some (.int m0),none,o4],?_,?_⟩
  ·rintro acc' σ2 H' ⟨z1,z2,z3,z4,z5⟩
   exact⟨1+d-(i2+1),by omega,rfl,hli,z1,z2,z3,z4,z5⟩
  ·rintro v H' ⟨rfl,rfl⟩
   refine⟨_,rfl,_,rfl,_,rfl,a,t,ns,_,m0,rfl,hS5,h63,t5,by omega,hm0,fun H6 g6 t6=>?_⟩
   have e0:=drw_nn ns (k+1+1+i2+1) hm0
   have e1:=drw_lt ns (k+1+1+i2+1) hm0
   generalize drw ns (k+1+1+i2+1) m0=ee at e0 e1
   obtain⟨e,rfl⟩:=nat_of e0
   refine⟨g5.trans g6,g6.scr t5 hS5,t6,⟨ws++[e],by rw[vnats_app];rfl,by rw[List.length_append,hwl];rfl,fun x hx=>?_⟩,_,rfl⟩
   rcases List.mem_append.mp hx with hx|hx
   ·exact hw4 x hx
   ·have:x=e:=by simpa using hx
    omega
 have ei:i2=1+d:=by omega
 subst ei
 refine .inl ⟨Nat.le_refl _,small (by rw[vnats_len];omega),fun D fD=>?_⟩
 have nD:D≠t:=twn_new t5 fD
 have G05:=G04.trans g5
 have fD0:=grow_none G05 nD fD
 have yD:=same_new fD (.lst (vnats ws))
 have wD:(upd H5 D (.lst (vnats ws))) D=some (.lst (vnats ws)):=upd_same
 generalize upd H5 D (.lst (vnats ws))=H6 at yD wD ⊢
 have G06:=G05.trans (.same yD)
 have t6:=yD.twn t5
 have hS6:=yD.scr hS5
 clear hS hS3 hS4 hS5 t3 t4 t5 g4 g5 G03 G04 yD fD hT
 refine⟨fun σ' H'=>∃(ws:List Nat)(k':Nat),σ'=[some (.ref a),some (.ref t),some (.int m0),some (.ref D)]∧Grow t H H'∧Twn H' t k'∧k'≤k+11∧H' D=some (.lst (vnats ws))∧0<ws.length∧ws.length≤7∧0<ws.sum∧∀x∈ws,x≤400,?_,?_⟩
 ·rintro σ' H7 ⟨ws,k',rfl,g7,t7,hk7,hD7,h1,h2,h3,h4⟩
  exact⟨_,rfl,D,_,rfl,.inl ⟨SqL.of hD7,fun t' ft=>q t' ws k' _ (g7.trans (.same (same_new ft _))) ((same_new ft _).twn t7) hk7 upd_same h1 h2 h3 h4⟩⟩
 have hDi:SqL K H6 D ((ws.map fun(n:Nat)=>(n:Int)).map V.int):=by rw[←vnats_ints];exact SqL.of wD
 refine⟨_,rfl,D,_,rfl,hDi,rfl,_,rfl,?_⟩
 rw[sum_nats]
 by_cases c:ws.sum=0
 ·rw[show decide (V.int ((ws.sum:Nat):Int)=V.int 0)=true from decide_eq_true (by rw[c];rfl)]
  refine iteT ⟨_,rfl,_,rfl,a,t,ns,_,5,rfl,hS6,h63,t6,by omega,by decide,fun H7 g7 t7=>⟨_,_,rfl,rfl,?_⟩⟩
  have e0:=drw_nn ns (k+1+1+(1+d)+1) (show(0:Int)<5 by decide)
  have e1:=drw_lt ns (k+1+1+(1+d)+1) (show(0:Int)<5 by decide)
  generalize drw ns (k+1+1+(1+d)+1) 5=ee at e0 e1
  obtain⟨e,rfl⟩:=nat_of e0
  have hD7:=g7 _ _ nD wD
  refine⟨_,rfl,_,rfl,_,rfl,_,rfl,D,_,rfl,.inl (SqL.of hD7),a,t,ns,_,_,rfl,g7.scr t6 hS6,h63,t7,by omega,by rw[vnats_len];omega,fun H8 g8 t8=>?_⟩
  have hw0:(0:Int)<(((vnats ws).length:Nat):Int):=by rw[vnats_len];omega
  have j0:=drw_nn ns (k+1+1+(1+d)+1+1) hw0
  have j1:=drw_lt ns (k+1+1+(1+d)+1+1) hw0
  generalize drw ns (k+1+1+(1+d)+1+1) (((vnats ws).length:Nat):Int)=jj at j0 j1
  obtain⟨j,rfl⟩:=nat_of j0
  rw[vnats_len]at j1
  have hj:j<ws.length:=by omega
  have hD8:=g8 _ _ nD hD7
  refine⟨D,_,_,j,rfl,rfl,hD8,ixN_nat (by rw[vnats_len];exact hj),?_⟩
  have ev:((1:Int)+(e:Int))=((1+e:Nat):Int):=by omega
  dsimp only
  rw[ev,vnats_set]
  refine⟨ws.set j (1+e),k+1+1+(1+d)+1+1,rfl,fun c' o hc e'=>?_,?_,by omega,upd_same,by rw[List.length_set];omega,by rw[List.length_set];omega,?_,fun x hx=>?_⟩
  ·rw[upd_ne (fun z=>by rw[z,fD0]at e';cases e')]
   exact((G06.trans g7).trans g8) _ _ hc e'
  ·show upd H8 D _ t=_
   rw[upd_ne (Ne.symm nD)]
   exact t8
  ·have:1+e∈ws.set j (1+e):=List.mem_set hj _
   have:=le_sum this
   omega
  ·rcases List.mem_or_eq_of_mem_set hx with y|y
   ·exact hw4 x y
   ·omega
 ·rw[show decide (V.int ((ws.sum:Nat):Int)=V.int 0)=false from decide_eq_false (fun z=>c (by injection z with z;omega))]
  exact iteF ⟨ws,_,rfl,G06,t6,by omega,wD,by omega,by omega,by omega,hw4⟩
end
inductive Pn where
 | num (n:Nat)
 | again
 | ask (l r:Pn)
noncomputable def Pn.has:Pn→Bool
 |.num _=>true
 |.again=>false
 |.ask l r=>l.has||r.has
noncomputable def Pn.dp:Pn→Nat
 |.num _=>0
 |.again=>0
 |.ask l r=>max l.dp r.dp+1
noncomputable def ends:Pn→Nat→List (Option Nat×Nat)
 |.num n,d=>[(some n,d)]
 |.again,d=>[(none,d)]
 |.ask l r,d=>ends l (d+1)++ends r (d+1)
noncomputable def stl (root:Pn):Pn→Pn
 |.again=>root
 | c=>c
noncomputable def wk (root:Pn):Pn→List Nat→Option (Nat×Nat)
 | cur,[]=>match stl root cur with
  |.num n=>some (n,0)
  | _=>none
 | cur,b::bs=>match stl root cur with
  |.num n=>some (n,0)
  |.again=>none
  |.ask l r=>(wk root (if b=0 then l else r) bs).map fun x=>(x.1,x.2+1)
theorem has_ends:∀(p:Pn)(d:Nat),(ends p d).any (fun e=>e.1.isSome)=p.has
 |.num _,_=>rfl
 |.again,_=>rfl
 |.ask l r,d=>by rw[ends,List.any_append,has_ends l,has_ends r,Pn.has]
theorem ends_deep:∀(p:Pn)(d:Nat),∀e∈ends p d,d≤e.2∧e.2≤d+p.dp
 |.num m,d,e,h=>by
  have:e=(some m,d):=by simpa[ends]using h
  rw[this];exact⟨Nat.le_refl _,Nat.le_add_right _ _⟩
 |.again,d,e,h=>by
  have:e=(none,d):=by simpa[ends]using h
  rw[this];exact⟨Nat.le_refl _,Nat.le_add_right _ _⟩
 |.ask l r,d,e,h=>by
  rw[Pn.dp]
  rcases List.mem_append.mp h with h|h
  ·have:=ends_deep l (d+1) e h
   omega
  ·have:=ends_deep r (d+1) e h
   omega
theorem ends_len:∀(p:Pn)(d:Nat),(ends p d).length≤2 ^ p.dp
 |.num _,_=>Nat.le_refl _
 |.again,_=>Nat.le_refl _
 |.ask l r,d=>by
  rw[ends,List.length_append,Pn.dp,Nat.pow_succ]
  have h1:=ends_len l (d+1)
  have h2:=ends_len r (d+1)
  have h3:2 ^ l.dp≤2 ^ max l.dp r.dp:=Nat.pow_le_pow_right (by decide) (Nat.le_max_left _ _)
  have h4:2 ^ r.dp≤2 ^ max l.dp r.dp:=Nat.pow_le_pow_right (by decide) (Nat.le_max_right _ _)
  omega
theorem has_root {p:Pn}(h:p.has=true):p≠.again:=fun e=>by rw[e]at h;cases h
noncomputable def leafP (o:Option Nat):Pn:=o.elim .again .num
noncomputable def figO (es:List (Option Nat×Nat))(p:Nat):List (Option Nat):=(es.filter fun e=>decide (e.2 / 2 ^ p%2=1)).map (·.1)
noncomputable def asks:List Pn→List Pn
 | a::b::l=>.ask a b::asks l
 | _=>[]
noncomputable def parts (es:List (Option Nat×Nat)):Nat→List Pn
 | 0=>[]
 | k+1=>(figO es k).map leafP++asks (parts es k)
theorem asks_len:∀l:List Pn,(asks l).length=l.length / 2
 | []=>rfl
 | [_]=>by simp[asks]
 | a::b::l=>by rw[asks,List.length_cons,List.length_cons,List.length_cons,asks_len l];omega
theorem asks_get:∀(l:List Pn)(i:Nat)(a b:Pn),l[2*i]?=some a→l[2*i+1]?=some b→(asks l)[i]?=some (.ask a b)
 | [],i,a,b,h,_=>by simp at h
 | [_],i,a,b,_,h=>by simp at h
 | x::y::l,0,a,b,h,h'=>by
  simp at h h'
  rw[asks,h,h'];rfl
 | x::y::l,i+1,a,b,h,h'=>by
  rw[asks,List.getElem?_cons_succ]
  refine asks_get l i a b ?_ ?_
  ·rw[show 2*(i+1)=2*i+1+1 by omega,List.getElem?_cons_succ,List.getElem?_cons_succ]at h;exact h
  ·rw[show 2*(i+1)+1=2*i+1+1+1 by omega,List.getElem?_cons_succ,List.getElem?_cons_succ]at h';exact h'
noncomputable def asksTo (l:List Pn)(i:Nat):List Pn:=asks (l.take (2*i))
theorem asks_app:∀(l m:List Pn),l.length%2=0→asks (l++m)=asks l++asks m
 | [],m,_=>rfl
 | [_],m,h=>by simp at h
 | a::b::l,m,h=>by
  have:l.length%2=0:=by simp at h;omega
  show Pn.ask a b::asks (l++m)=Pn.ask a b::(asks l++asks m)
  rw[asks_app l m this]
theorem asksTo_succ {l:List Pn}{i:Nat}{a b:Pn}(h:l[2*i]?=some a)(h':l[2*i+1]?=some b):asksTo l (i+1)=asksTo l i++[.ask a b]:=by
 have hl:2*i+1<l.length:=(List.getElem?_eq_some_iff.mp h').1
 unfold asksTo
 rw[show 2*(i+1)=2*i+1+1 by omega,List.take_add_one,List.take_add_one,h,h',List.append_assoc,asks_app _ _ (by rw[List.length_take];omega)]
 rfl
theorem asksTo_all {l:List Pn}(h:l.length%2=0):asksTo l (l.length / 2)=asks l:=by
 unfold asksTo
 rw[List.take_of_length_le (by omega)]
noncomputable def low (es:List (Option Nat×Nat))(k:Nat):Nat:=(es.map fun e=>e.2%2 ^ k).sum
noncomputable def tot (es:List (Option Nat×Nat)):Nat:=(es.map fun e=>e.2).sum
theorem low_zero (es:List (Option Nat×Nat)):low es 0=0:=by
 induction es with
 | nil=>rfl
 | cons e l ih=>unfold low at ih ⊢;rw[List.map_cons,List.sum_cons,ih,Nat.pow_zero,Nat.mod_one]
theorem mod_two_pow (x k:Nat):x%2 ^ (k+1)=x%2 ^ k+2 ^ k*(x / 2 ^ k%2):=by
 rw[Nat.pow_succ,Nat.mod_mul]
theorem low_succ (es:List (Option Nat×Nat))(k:Nat):low es (k+1)=low es k+2 ^ k*(figO es k).length:=by
 induction es with
 | nil=>rfl
 | cons e l ih =>
  unfold low figO at ih ⊢
  rw[List.map_cons,List.sum_cons,List.map_cons,List.sum_cons,ih,mod_two_pow,List.filter_cons]
  have h2:e.2 / 2 ^ k%2=0∨e.2 / 2 ^ k%2=1:=by omega
  rcases h2 with h|h
  ·rw[h,if_neg (by simp),Nat.mul_zero];omega
  ·rw[h,if_pos (by simp),List.map_cons,List.length_cons,Nat.mul_one,Nat.mul_succ];omega
theorem low_mod (es:List (Option Nat×Nat))(k:Nat):∃m,tot es=low es k+2 ^ k*m:=by
 induction es with
 | nil=>exact⟨0,rfl⟩
 | cons e l ih =>
  obtain⟨m,hm⟩:=ih
  refine⟨e.2 / 2 ^ k+m,?_⟩
  unfold tot low at hm ⊢
  rw[List.map_cons,List.sum_cons,List.map_cons,List.sum_cons,hm]
  have:=Nat.mod_add_div e.2 (2 ^ k)
  rw[Nat.mul_add]
  omega
theorem parts_len {es:List (Option Nat×Nat)}{D:Nat}(h:tot es=2 ^ D):∀k,k≤D+1→(parts es k).length*2 ^ k=2*low es k∧(k≤D→(parts es k).length%2=0)
 | 0,_=>by rw[low_zero];exact⟨rfl,fun _=>rfl⟩
 | k+1,hk=>by
  obtain⟨h1,h2⟩:=parts_len h k (by omega)
  have h2:=h2 (by omega)
  have e1:(parts es (k+1)).length*2 ^ (k+1)=2*low es (k+1):=by
   rw[parts,List.length_append,List.length_map,asks_len,low_succ,Nat.pow_succ]
   have:(parts es k).length=2*((parts es k).length / 2):=by omega
   generalize (parts es k).length / 2=q at this ⊢
   rw[this]at h1
   generalize (figO es k).length=f
   generalize low es k=lw at h1 ⊢
   generalize 2 ^ k=p at h1 ⊢
   grind
  refine⟨e1,fun hD=>?_⟩
  obtain⟨m,hm⟩:=low_mod es (k+1)
  rw[h]at hm
  have hp:2 ^ D=2 ^ (k+1)*2 ^ (D-(k+1)):=by rw[←Nat.pow_add];congr 1;omega
  rw[hp]at hm
  generalize (parts es (k+1)).length=L at e1 ⊢
  generalize 2 ^ (D-(k+1))=c at hm
  have hpos:=Nat.two_pow_pos (k+1)
  generalize 2 ^ (k+1)=p at e1 hm hpos
  generalize low es (k+1)=lw at e1 hm
  have hc:m≤c:=by
   apply Nat.le_of_mul_le_mul_left _ hpos
   omega
  obtain⟨d,rfl⟩:∃d,c=m+d:=⟨c-m,by omega⟩
  have:lw=p*d:=by rw[Nat.mul_add]at hm;omega
  rw[this,Nat.mul_comm L,←Nat.mul_assoc,Nat.mul_comm 2,Nat.mul_assoc]at e1
  have:=Nat.eq_of_mul_eq_mul_left hpos e1
  omega
theorem le_tot {es:List (Option Nat×Nat)}{e:Option Nat×Nat}(h:e∈es):e.2≤tot es:=by
 induction es with
 | nil=>cases h
 | cons a l ih =>
  unfold tot at ih ⊢
  rw[List.map_cons,List.sum_cons]
  rcases List.mem_cons.mp h with rfl|h
  ·omega
  ·have:=ih h;omega
theorem low_all {es:List (Option Nat×Nat)}{k:Nat}(h:∀e∈es,e.2<2 ^ k):low es k=tot es:=by
 unfold low tot
 congr 1
 exact List.map_congr_left fun e he=>Nat.mod_eq_of_lt (h e he)
theorem lt_succ_pow {es:List (Option Nat×Nat)}{D:Nat}(h:tot es=2 ^ D):∀e∈es,e.2<2 ^ (D+1):=fun e he=>by
 have:=le_tot he
 have h2:=Nat.two_pow_pos D
 rw[Nat.pow_succ];omega
theorem parts_one {es:List (Option Nat×Nat)}{D:Nat}(h:tot es=2 ^ D):(parts es (D+1)).length=1:=by
 obtain⟨h1,_⟩:=parts_len h (D+1) (Nat.le_refl _)
 rw[low_all (lt_succ_pow h),h,Nat.pow_succ,Nat.mul_comm (2 ^ D) 2]at h1
 have hp:=Nat.two_pow_pos D
 exact Nat.eq_of_mul_eq_mul_right (show 0<2*2 ^ D by omega) (by rw[h1,Nat.one_mul])
noncomputable def planP (es:List (Option Nat×Nat))(D:Nat):Pn:=(parts es (D+1)).headD .again
theorem plan_parts {es:List (Option Nat×Nat)}{D:Nat}(h:tot es=2 ^ D):parts es (D+1)=[planP es D]:=by
 have:=parts_one h
 unfold planP
 cases e:parts es (D+1)with
 | nil=>rw[e]at this;cases this
 | cons a l =>
  rw[e]at this
  cases l with
  | nil=>rfl
  | cons _ _=>simp at this
noncomputable def endsD (es:List (Option Nat×Nat)):Nat→Nat→List (Option Nat×Nat)
 | 0,_=>[]
 | k+1,d=>(figO es k).map (·,d)++endsD es k (d+1)
theorem ends_leaf (o:Option Nat)(d:Nat):ends (leafP o) d=[(o,d)]:=by cases o<;>rfl
theorem ends_leafs (d:Nat):∀l:List (Option Nat),(l.map leafP).flatMap (ends · d)=l.map (·,d)
 | []=>rfl
 | o::l=>by rw[List.map_cons,List.flatMap_cons,ends_leaf,ends_leafs d l];rfl
theorem ends_asks (d:Nat):∀l:List Pn,l.length%2=0→(asks l).flatMap (ends · d)=l.flatMap (ends · (d+1))
 | [],_=>rfl
 | [_],h=>by simp at h
 | a::b::l,h=>by
  have:l.length%2=0:=by simp at h;omega
  rw[asks,List.flatMap_cons,List.flatMap_cons,List.flatMap_cons,ends_asks d l this,←List.append_assoc]
  rfl
theorem ends_parts {es:List (Option Nat×Nat)}{D:Nat}(h:tot es=2 ^ D):∀k d,k≤D+1→(parts es k).flatMap (ends · d)=endsD es k d
 | 0,_,_=>rfl
 | k+1,d,hk=>by
  rw[parts,List.flatMap_append,ends_leafs,ends_asks d _ ((parts_len h k (by omega)).2 (by omega)),ends_parts h k (d+1) (by omega)]
  rfl
theorem ends_plan {es:List (Option Nat×Nat)}{D:Nat}(h:tot es=2 ^ D):ends (planP es D) 0=endsD es (D+1) 0:=by
 rw[←ends_parts h (D+1) 0 (Nat.le_refl _),plan_parts h]
 show _=ends _ 0++[]
 rw[List.append_nil]
theorem endsD_mem {es:List (Option Nat×Nat)}:∀{k d:Nat}{e:Option Nat×Nat},e∈endsD es k d→d≤e.2∧e.2<d+k∧∃x∈es,x.1=e.1∧x.2≠0
 | 0,_,_,h=>by cases h
 | k+1,d,e,h=>by
  rcases List.mem_append.mp h with h|h
  ·obtain⟨o,ho,rfl⟩:=List.mem_map.mp h
   refine⟨Nat.le_refl _,by show d<d+(k+1);omega,?_⟩
   obtain⟨x,hx,rfl⟩:=List.mem_map.mp ho
   refine⟨x,(List.mem_filter.mp hx).1,rfl,fun z=>?_⟩
   have:=of_decide_eq_true (List.mem_filter.mp hx).2
   rw[z,Nat.zero_div]at this
   omega
  ·obtain⟨h1,h2,h3⟩:=endsD_mem h
   exact⟨by omega,by omega,h3⟩
noncomputable def shP (P:Option Nat→Bool)(l:List (Option Nat×Nat))(D:Nat):Nat:=(l.map fun e=>if P e.1 then 2 ^ (D-e.2)else 0).sum
theorem shP_app (P:Option Nat→Bool)(l m:List (Option Nat×Nat))(D:Nat):shP P (l++m) D=shP P l D+shP P m D:=by
 unfold shP
 rw[List.map_append,List.sum_append]
noncomputable def lowP (P:Option Nat→Bool)(es:List (Option Nat×Nat))(k:Nat):Nat:=(es.map fun e=>if P e.1 then e.2%2 ^ k else 0).sum
theorem shP_figs (P:Option Nat→Bool)(D d k:Nat)(hd:d+k=D):∀es:List (Option Nat×Nat),shP P ((figO es k).map (·,d)) D+lowP P es k=lowP P es (k+1)
 | []=>rfl
 | e::l=>by
  have ih:=shP_figs P D d k hd l
  unfold shP figO lowP at ih ⊢
  rw[List.filter_cons,List.map_cons,List.sum_cons,List.map_cons,List.sum_cons,mod_two_pow]
  have h2:e.2 / 2 ^ k%2=0∨e.2 / 2 ^ k%2=1:=by omega
  rcases h2 with h|h
  ·rw[h,if_neg (by simp),Nat.mul_zero]
   split<;>omega
  ·rw[h,if_pos (by simp),List.map_cons,List.map_cons,List.map_cons,List.sum_cons,Nat.mul_one,show D-d=k by omega]
   dsimp only
   split<;>omega
theorem lowP_zero (P:Option Nat→Bool):∀es:List (Option Nat×Nat),lowP P es 0=0
 | []=>rfl
 | e::l=>by
  have ih:=lowP_zero P l
  unfold lowP at ih ⊢
  rw[List.map_cons,List.sum_cons,ih,Nat.pow_zero,Nat.mod_one]
  split<;>rfl
theorem shP_endsD (P:Option Nat→Bool)(es:List (Option Nat×Nat))(D:Nat):∀k d,d+k=D+1→shP P (endsD es k d) D=lowP P es k
 | 0,d,_=>by rw[lowP_zero];rfl
 | k+1,d,h=>by
  rw[endsD,shP_app,shP_endsD P es D k (d+1) (by omega),shP_figs P D d k (by omega) es]
theorem shP_deeper (P:Option Nat→Bool){l:List (Option Nat×Nat)}{d D:Nat}(h:∀e∈l,e.2≤d)(hd:d≤D):shP P l D=shP P l d*2 ^ (D-d):=by
 induction l with
 | nil=>unfold shP;rw[List.map_nil,List.map_nil,List.sum_nil,Nat.zero_mul]
 | cons e l ih =>
  have ih:=ih fun x hx=>h x (List.mem_cons_of_mem _ hx)
  have he:=h e List.mem_cons_self
  unfold shP at ih ⊢
  rw[List.map_cons,List.sum_cons,List.map_cons,List.sum_cons,ih,Nat.add_mul]
  congr 1
  split
  ·rw[←Nat.pow_add];congr 1;omega
  ·rw[Nat.zero_mul]
theorem lowP_all (P:Option Nat→Bool){es:List (Option Nat×Nat)}{k:Nat}(h:∀e∈es,e.2<2 ^ k):lowP P es k=(es.map fun e=>if P e.1 then e.2 else 0).sum:=by
 unfold lowP
 congr 1
 exact List.map_congr_left fun e he=>by rw[Nat.mod_eq_of_lt (h e he)]
noncomputable def numE (ws:List Nat):List (Option Nat×Nat):=(List.range ws.length).map fun i=>(some i,ws.getD i 0)
noncomputable def esW (ws:List Nat)(D:Nat):List (Option Nat×Nat):=numE ws++[(none,2 ^ D-ws.sum)]
theorem range_getD (ws:List Nat):((List.range ws.length).map fun i=>ws.getD i 0)=ws:=by
 apply List.ext_getElem
 ·rw[List.length_map,List.length_range]
 ·intro i h1 h2
  rw[List.getElem_map,List.getElem_range,List.getD_eq_getElem?_getD,List.getElem?_eq_getElem h2]
  rfl
theorem numE_sum (ws:List Nat):((numE ws).map fun e=>e.2).sum=ws.sum:=by
 unfold numE
 rw[List.map_map]
 exact congrArg List.sum (range_getD ws)
theorem esW_tot {ws:List Nat}{D:Nat}(h:ws.sum≤2 ^ D):tot (esW ws D)=2 ^ D:=by
 unfold tot esW
 rw[List.map_append,List.sum_append,numE_sum]
 show ws.sum+(2 ^ D-ws.sum+0)=_
 omega
theorem sum_one (f:Nat→Nat)(n:Nat):∀m,((List.range m).map fun i=>if some i==some n then f i else 0).sum=if n<m then f n else 0
 | 0=>by rw[if_neg (by omega)];rfl
 | m+1=>by
  rw[List.range_succ,List.map_append,List.sum_append,sum_one f n m]
  show _+((if some m==some n then f m else 0)+0)=_
  by_cases c:m=n
  ·subst c
   rw[if_neg (by omega),if_pos (by simp),if_pos (by omega)];omega
  ·rw[if_neg (show ¬(some m==some n)=true by simpa using c)]
   by_cases d:n<m
   ·rw[if_pos d,if_pos (by omega)];omega
   ·rw[if_neg d,if_neg (by omega)]
theorem esW_one {ws:List Nat}{D n:Nat}:((esW ws D).map fun e=>if e.1==some n then e.2 else 0).sum=ws.getD n 0:=by
 unfold esW numE
 rw[List.map_append,List.sum_append,List.map_map]
 show((List.range ws.length).map fun i=>if some i==some n then ws.getD i 0 else 0).sum+0=_
 rw[sum_one,Nat.add_zero]
 by_cases c:n<ws.length
 ·rw[if_pos c]
 ·rw[if_neg c,List.getD_eq_getElem?_getD,List.getElem?_eq_none (by omega)];rfl
theorem esW_some {ws:List Nat}{D:Nat}:((esW ws D).map fun e=>if e.1.isSome then e.2 else 0).sum=ws.sum:=by
 unfold esW numE
 rw[List.map_append,List.sum_append,List.map_map]
 show((List.range ws.length).map fun i=>ws.getD i 0).sum+0=_
 rw[range_getD,Nat.add_zero]
theorem dp_at:∀(p:Pn)(d:Nat),∃e∈ends p d,e.2=d+p.dp
 |.num m,d=>⟨(some m,d),by simp[ends],rfl⟩
 |.again,d=>⟨(none,d),by simp[ends],rfl⟩
 |.ask l r,d=>by
  rw[Pn.dp]
  by_cases c:l.dp≤r.dp
  ·obtain⟨e,he,h⟩:=dp_at r (d+1)
   exact⟨e,List.mem_append_right _ he,by omega⟩
  ·obtain⟨e,he,h⟩:=dp_at l (d+1)
   exact⟨e,List.mem_append_left _ he,by omega⟩
def isD (S D:Nat):Prop:=S≤2 ^ D∧∀j,j<D→2 ^ j<S
theorem isD_uniq {S D D':Nat}(h:isD S D)(h':isD S D'):D=D':=by
 rcases Nat.lt_trichotomy D D' with c|c|c
 ·have:=h'.2 D c;have:=h.1;omega
 ·exact c
 ·have:=h.2 D' c;have:=h'.1;omega
theorem isD_le {S D:Nat}(h:isD S D)(hS:S≤4096):D≤12:=by
 rcases Nat.lt_or_ge 12 D with c|c
 ·have:=h.2 12 c;omega
 ·exact c
noncomputable def plW (ws:List Nat)(D:Nat):Pn:=planP (esW ws D) D
section
variable {ws:List Nat}{D:Nat}
theorem plW_ends (h:ws.sum≤2 ^ D):ends (plW ws D) 0=endsD (esW ws D) (D+1) 0:=ends_plan (esW_tot h)
theorem plW_dp (h:ws.sum≤2 ^ D):(plW ws D).dp≤D:=by
 obtain⟨e,he,hd⟩:=dp_at (plW ws D) 0
 rw[plW_ends h]at he
 have:=(endsD_mem he).2.1
 omega
theorem plW_sh (P:Option Nat→Bool)(h:ws.sum≤2 ^ D):shP P (ends (plW ws D) 0) (plW ws D).dp*2 ^ (D-(plW ws D).dp)=((esW ws D).map fun e=>if P e.1 then e.2 else 0).sum:=by
 rw[←shP_deeper P (fun e he=>by have:=(ends_deep _ 0 e he).2;omega) (plW_dp h),plW_ends h,shP_endsD P _ D (D+1) 0 (by omega),lowP_all P (lt_succ_pow (esW_tot h))]
theorem plW_one (n:Nat)(h:ws.sum≤2 ^ D):shP (·==some n) (ends (plW ws D) 0) (plW ws D).dp*2 ^ (D-(plW ws D).dp)=ws.getD n 0:=by
 rw[plW_sh _ h,esW_one]
theorem plW_all (h:ws.sum≤2 ^ D):shP (·.isSome) (ends (plW ws D) 0) (plW ws D).dp*2 ^ (D-(plW ws D).dp)=ws.sum:=by
 rw[plW_sh _ h,esW_some]
theorem shP_pos {P:Option Nat→Bool}{D:Nat}:∀{l:List (Option Nat×Nat)},0<shP P l D→∃e∈l,P e.1=true
 | [],h=>absurd h (by show ¬0<0;omega)
 | e::l,h=>by
  by_cases c:P e.1=true
  ·exact⟨e,List.mem_cons_self,c⟩
  ·unfold shP at h
   rw[List.map_cons,List.sum_cons,if_neg c,Nat.zero_add]at h
   obtain⟨x,hx,h'⟩:=shP_pos (l:=l) h
   exact⟨x,List.mem_cons_of_mem _ hx,h'⟩
theorem shP_mem {P:Option Nat→Bool}{D:Nat}{e:Option Nat×Nat}(hp:P e.1=true):∀{l:List (Option Nat×Nat)},e∈l→0<shP P l D
 | a::l,h=>by
  unfold shP
  rw[List.map_cons,List.sum_cons]
  rcases List.mem_cons.mp h with rfl|h
  ·rw[if_pos hp];have:=Nat.two_pow_pos (D-e.2);omega
  ·have:=shP_mem (D:=D) hp h
   unfold shP at this
   omega
theorem plW_has (h:ws.sum≤2 ^ D)(h0:0<ws.sum):(plW ws D).has=true:=by
 rw[←has_ends _ 0,List.any_eq_true]
 apply shP_pos (P:=fun o=>o.isSome) (D:=(plW ws D).dp)
 have:=plW_all h
 rcases Nat.eq_zero_or_pos (shP (fun o=>o.isSome) (ends (plW ws D) 0) (plW ws D).dp)with z|z
 ·rw[z,Nat.zero_mul]at this;omega
 ·exact z
theorem plW_mem (h:ws.sum≤2 ^ D)(n:Nat):(∃d,(some n,d)∈ends (plW ws D) 0)↔0<ws.getD n 0:=by
 have e:=plW_one n h
 constructor
 ·rintro ⟨d,hd⟩
  have:=shP_mem (P:=(·==some n)) (D:=(plW ws D).dp) (e:=(some n,d)) (by simp) hd
  rw[←e]
  exact Nat.mul_pos this (Nat.two_pow_pos _)
 ·intro h0
  have:0<shP (·==some n) (ends (plW ws D) 0) (plW ws D).dp:=by
   rcases Nat.eq_zero_or_pos (shP (·==some n) (ends (plW ws D) 0) (plW ws D).dp)with z|z
   ·rw[z,Nat.zero_mul]at e;omega
   ·exact z
  obtain⟨x,hx,hp⟩:=shP_pos this
  have:x.1=some n:=by simpa using hp
  exact⟨x.2,by rw[←this];exact hx⟩
end
noncomputable def Rp (f:Nat→Bool):Nat→List Nat→Prop
 | _,[]=>True
 | z,b::bs=>b=(if f z=true then 0 else 1)∧Rp f (z+1) bs
theorem Rp.drop {f:Nat→Bool}:∀{bs:List Nat}{z:Nat}(n:Nat),Rp f z bs→Rp f (z+n) (bs.drop n)
 | bs,z,0,h=>h
 | [],z,n+1,_=>trivial
 | b::bs,z,n+1,h=>by
  have:=Rp.drop n h.2
  rw[show z+1+n=z+(n+1)by omega]at this
  exact this
noncomputable def vl (f:Nat→Bool):Nat→Nat→Nat→Nat
 | q,_,0=>q
 | q,z,d+1=>vl f (2*q+(if f z=true then 1 else 0)) (z+1) d
theorem vl_eq (f:Nat→Bool):∀(d q z:Nat),vl f q z d=q*2 ^ d+vl f 0 z d
 | 0,q,z=>by show q=q*1+0;omega
 | d+1,q,z=>by
  show vl f _ (z+1) d=_+vl f _ (z+1) d
  rw[vl_eq f d (2*q+_),vl_eq f d (2*0+_),Nat.add_mul,Nat.pow_succ]
  have:2*q*2 ^ d=q*(2 ^ d*2):=by rw[Nat.mul_comm 2 q,Nat.mul_assoc,Nat.mul_comm 2]
  rw[this];simp only[Nat.mul_zero,Nat.zero_add];omega
theorem vl_succ (f:Nat→Bool)(z d:Nat):vl f 0 z (d+1)=(if f z=true then 1 else 0)*2 ^ d+vl f 0 (z+1) d:=by
 show vl f (2*0+_) (z+1) d=_
 rw[vl_eq,Nat.mul_zero,Nat.zero_add]
theorem vl_lt (f:Nat→Bool):∀(d z:Nat),vl f 0 z d<2 ^ d
 | 0,_=>by show 0<1;decide
 | d+1,z=>by
  rw[vl_succ,Nat.pow_succ]
  have:=vl_lt f d (z+1)
  split<;>omega
theorem vl_zeros {f:Nat→Bool}{j:Nat}:∀{d z:Nat},vl f 0 z d<2 ^ j→∀i,i+j<d→f (z+i)=false
 | 0,_,_,i,h=>absurd h (Nat.not_lt_zero _)
 | d+1,z,h,i,hi=>by
  rw[vl_succ]at h
  cases i with
  | zero =>
   cases e:f (z+0)with
   | false=>rfl
   | true =>
    rw[if_pos (show f z=true from e)]at h
    have:=Nat.pow_le_pow_right (show 0<2 by decide) (show j≤d by omega)
    omega
  | succ i =>
   have:=vl_zeros (f:=f) (d:=d) (z:=z+1) (j:=j) (by omega) i (by omega)
   rw[show z+(i+1)=z+1+i by omega];exact this
noncomputable def Shp (j:Nat)(f:Nat→Bool)(z n:Nat):Option (Nat×Nat)→Prop
 | none=>∀i,i+j<n→f (z+i)=false
 | some (_,u)=>u≤n∧∀i,i+(j+1)<u→f (z+i)=false
noncomputable def ShV (j:Nat)(f:Nat→Bool)(q z u n:Nat):Option (Nat×Nat)→Prop
 | none=>vl f q z n<2 ^ j
 | some (_,u')=>∃d,u'=u+(d+1)∧d<n∧vl f q z d<2 ^ j
theorem ShV.shp {j z n:Nat}{f:Nat→Bool}{r:Option (Nat×Nat)}(h:ShV j f 0 z 0 n r):Shp j f z n r:=by
 cases r with
 | none=>exact vl_zeros h
 | some r =>
  obtain⟨d,h1,h2,h3⟩:=h
  exact⟨by omega,fun i hi=>vl_zeros h3 i (by omega)⟩
theorem ShV.step {j q z u n:Nat}{f:Nat→Bool}{r:Option (Nat×Nat)}(h:ShV j f (2*q+(if f z=true then 1 else 0)) (z+1) (u+1) n r):ShV j f q z u (n+1) r:=by
 cases r with
 | none=>exact h
 | some r =>
  obtain⟨d,h1,h2,h3⟩:=h
  exact⟨d+1,by omega,by omega,h3⟩
theorem sum_lessN {T:Nat}:∀{rs:List Nat},(∀r∈rs,r<T)→rs.sum+rs.length≤rs.length*T
 | [],_=>by simp
 | r::rs,h=>by
  have:=sum_lessN fun x hx=>h x (List.mem_cons_of_mem _ hx)
  have:=h r List.mem_cons_self
  rw[List.sum_cons,List.length_cons,Nat.succ_mul];omega
theorem pk_shape {T:Nat}(hT:0<T){f:Nat→Bool}:∀(bs rs:List Nat)(p u z q R:Nat),Rp f z bs→(∀r∈rs,r<T)→rs.sum=R*T→rs.length≤7→q+p+1=R→ShV 3 f q z u bs.length (pkR T rs p u bs)
 | bs,rs,p,u,z,q,R,hb,hr,hs,hl,hq=>by
  have hR:R<8:=by
   have:=sum_lessN hr
   have h2:rs.length*T≤7*T:=Nat.mul_le_mul_right _ hl
   rw[hs]at this
   have h3:R*T≤7*T:=by omega
   have:=Nat.le_of_mul_le_mul_right h3 hT
   omega
  cases bs with
  | nil=>show q<8;omega
  | cons b bs =>
   rw[pkR]
   by_cases c:2*p+b<(digs T rs).length
   ·rw[if_pos c]
    exact⟨0,by omega,by simp,by show q<8;omega⟩
   ·rw[if_neg c]
    obtain⟨R',h1,h2,h3⟩:=digs_step hT hr hs
    refine ShV.step (pk_shape hT bs _ _ _ _ _ R' hb.2 h3 h2 (by unfold stepR;rw[List.length_map];exact hl) ?_)
    have:=hb.1
    split at this<;>(rename_i e;simp only[e];subst this;simp only[if_true,if_false,Bool.false_eq_true];omega)
theorem mem_sum:∀{l:List Nat}{x:Nat},x∈l→x≤l.sum
 | a::l,x,h=>by
  rw[List.sum_cons]
  rcases List.mem_cons.mp h with rfl|h
  ·omega
  ·have:=mem_sum h;omega
theorem pkF_shape {ws bs:List Nat}{f:Nat→Bool}{z:Nat}(hb:Rp f z bs)(h0:0<ws.sum)(hl:ws.length≤7):Shp 3 f z bs.length (pkF ws bs):=by
 unfold pkF
 by_cases c:ws.sum∈ws
 ·rw[if_pos c];exact⟨Nat.zero_le _,fun i hi=>absurd hi (Nat.not_lt_zero _)⟩
 ·rw[if_neg c]
  refine ShV.shp (pk_shape h0 bs ws 0 0 z 0 1 hb (fun r hr=>?_) (by rw[Nat.one_mul]) hl rfl)
  have:=mem_sum hr
  rcases Nat.lt_or_ge r ws.sum with x|x
  ·exact x
  ·exact absurd (by rw[show ws.sum=r by omega];exact hr) c
theorem ev_shape {m j:Nat}(hm:m≤2 ^ j){f:Nat→Bool}:∀(bs:List Nat)(n s u z q:Nat),Rp f z bs→s<m→q+n+1=s→ShV j f q z u bs.length (evR m n s u bs)
 | [],n,s,u,z,q,_,hs,hq=>by show q<2 ^ j;omega
 | b::bs,n,s,u,z,q,hb,hs,hq=>by
  have e:2*q+(if f z=true then 1 else 0)+(2*n+b)+1=2*s:=by
   have:=hb.1
   split at this<;>(rename_i e;simp only[e];subst this;simp only[if_true,if_false,Bool.false_eq_true];omega)
  rw[evR]
  by_cases c:2*s<m
  ·rw[if_pos c]
   exact ShV.step (ev_shape hm bs _ _ _ _ _ hb.2 c e)
  ·rw[if_neg c]
   by_cases d:2*n+b<m
   ·rw[if_pos d]
    exact⟨0,by omega,by simp,by show q<2 ^ j;omega⟩
   ·rw[if_neg d]
    exact ShV.step (ev_shape hm bs _ _ _ _ _ hb.2 (by omega) (by omega))
theorem evF_shape {m j:Nat}(hm:m≤2 ^ j)(h0:0<m){bs:List Nat}{f:Nat→Bool}{z:Nat}(hb:Rp f z bs):Shp j f z bs.length (evF m bs):=by
 unfold evF evG
 by_cases c:1<m
 ·rw[if_pos c]
  exact(ev_shape hm bs 0 1 0 z 0 hb c rfl).shp
 ·rw[if_neg c,if_pos h0]
  exact⟨Nat.zero_le _,fun i hi=>absurd hi (Nat.not_lt_zero _)⟩
noncomputable def wb:Nat→Nat→List Bool
 | 0,_=>[]
 | d+1,v=>decide (v / 2 ^ d%2=1)::wb d v
theorem wb_len:∀d v,(wb d v).length=d
 | 0,_=>rfl
 | d+1,v=>by rw[wb,List.length_cons,wb_len d v]
theorem wb_low (c y e:Nat):∀d,d≤e→wb d (c*2 ^ e+y)=wb d y
 | 0,_=>rfl
 | d+1,h=>by
  rw[wb,wb,wb_low c y e d (by omega)]
  congr 1
  obtain⟨t,rfl⟩:∃t,e=d+(t+1):=⟨e-d-1,by omega⟩
  rw[Nat.pow_add,Nat.pow_succ,Nat.mul_left_comm,Nat.add_comm,Nat.add_mul_div_left _ _ (Nat.two_pow_pos _),←Nat.mul_assoc,Nat.add_mul_mod_self_right]
theorem Oc_wb (f:Nat→Bool):∀d z,Oc f (wb d (vl f 0 z d)) z
 | 0,_=>trivial
 | d+1,z=>by
  have h:=vl_lt f d (z+1)
  rw[vl_succ,wb]
  refine⟨?_,by rw[wb_low _ _ _ _ (Nat.le_refl _)];exact Oc_wb f d (z+1)⟩
  rw[Nat.add_comm,Nat.add_mul_div_right _ _ (Nat.two_pow_pos _),Nat.div_eq_of_lt h,Nat.zero_add]
  cases f z<;>rfl
inductive Ch (f:Nat→Bool)(S:List (List Bool)):Nat→Nat→Prop
 | nil (s:Nat):Ch f S s s
 | cons {w:List Bool}{s e:Nat}:w∈S→w≠[]→Oc f w s→Ch f S (s+w.length) e→Ch f S s e
noncomputable def hdB (b:Bool):List Bool→Option (List Bool)
 | []=>none
 | x::t=>if x=b then some t else none
noncomputable def stp (S:List (List Bool))(b:Bool)(st:List (List Bool)):List (List Bool):=(if st.any (·.isEmpty)then S.filterMap (hdB b)else [])++st.filterMap (hdB b)
noncomputable def rn (S:List (List Bool)):List (List Bool)→List Bool→List (List Bool)
 | st,[]=>st
 | st,b::u=>rn S (stp S b st) u
section
variable {f:Nat→Bool}{S:List (List Bool)}
theorem rn_ne:∀(u:List Bool)(st:List (List Bool))(n:Nat)(r:List Bool)(e:Nat),r∈st→Oc f r n→Ch f S (n+r.length) e→n+u.length≤e→Oc f u n→rn S st u≠[]
 | [],st,n,r,e,hr,_,_,_,_=>fun h=>by rw[show st=[]from h]at hr;cases hr
 | b::u,st,n,x::t,e,hr,ho,hc,hl,hu=>by
  have e1:x=b:=ho.1.symm.trans hu.1
  refine rn_ne u (stp S b st) (n+1) t e (List.mem_append_right _ (List.mem_filterMap.mpr ⟨_,hr,if_pos e1⟩)) ho.2 ?_ (by rw[List.length_cons]at hl;omega) hu.2
  rw[List.length_cons]at hc
  rw[show n+1+t.length=n+(t.length+1)by omega];exact hc
 | b::u,st,n,[],e,hr,_,hc,hl,hu=>by
  rw[List.length_cons]at hl
  have hc:Ch f S n e:=hc
  cases hc with
  | nil=>omega
  | @cons w _ _ hw hn ho hc =>
   cases w with
   | nil=>exact absurd rfl hn
   | cons x t =>
    have e1:x=b:=ho.1.symm.trans hu.1
    refine rn_ne u (stp S b st) (n+1) t e (List.mem_append_left _ ?_) ho.2 ?_ (by omega) hu.2
    ·rw[if_pos (List.any_eq_true.mpr ⟨[],hr,rfl⟩)]
     exact List.mem_filterMap.mpr ⟨_,hw,if_pos e1⟩
    ·rw[List.length_cons]at hc
     rw[show n+1+t.length=n+(t.length+1)by omega];exact hc
theorem Oc_drop:∀{w:List Bool}{s:Nat}(k:Nat),Oc f w s→Oc f (w.drop k) (s+k)
 | w,s,0,h=>h
 | [],s,k+1,_=>trivial
 | b::w,s,k+1,h=>by have:=Oc_drop k h.2;rw[show s+1+k=s+(k+1)by omega]at this;exact this
noncomputable def st0 (S:List (List Bool)):List (List Bool):=[]::S.flatMap fun w=>(List.range w.length).map fun k=>w.drop k
theorem ch_at {s e:Nat}(h:Ch f S s e):∀{n:Nat},s≤n→n≤e→∃r,r∈st0 S∧Oc f r n∧Ch f S (n+r.length) e:=by
 induction h with
 | nil s=>intro n h1 h2;exact⟨[],List.mem_cons_self,trivial,by rw[show n+([]:List Bool).length=s by show n+0=s;omega];exact Ch.nil s⟩
 | @cons w s e hw hn ho hc ih =>
  intro n h1 h2
  by_cases c:s+w.length≤n
  ·exact ih c h2
  ·refine⟨w.drop (n-s),List.mem_cons_of_mem _ (List.mem_flatMap.mpr ⟨w,hw,List.mem_map.mpr ⟨n-s,List.mem_range.mpr (by omega),rfl⟩⟩),?_,?_⟩
   ·have:=Oc_drop (n-s) ho
    rw[show s+(n-s)=n by omega]at this;exact this
   ·rw[List.length_drop,show n+(w.length-(n-s))=s+w.length by omega];exact hc
theorem no_pat {s e n:Nat}{u:List Bool}(h:Ch f S s e)(hu:Oc f u n)(h1:s≤n)(h2:n+u.length≤e):rn S (st0 S) u≠[]:=by
 obtain⟨r,hr,ho,hc⟩:=ch_at h h1 (by omega)
 exact rn_ne u _ n r e hr ho hc h2 hu
end
section
variable {ws:List Nat}{D:Nat}
noncomputable def aW (ws:List Nat)(D k:Nat):Nat:=(2 ^ D-ws.sum) / 2 ^ k%2
noncomputable def nP (ws:List Nat)(D k:Nat):Nat:=(parts (esW ws D) k).length
noncomputable def ndA (ws:List Nat)(D k q:Nat):Pn:=(parts (esW ws D) k).getD (nP ws D k-1-q) .again
theorem figO_both (ws:List Nat)(D k:Nat):figO (esW ws D) k=figO (numE ws) k++(if aW ws D k=1 then [none]else []):=by
 unfold figO esW aW
 rw[List.filter_append,List.map_append]
 congr 1
 rw[List.filter_cons]
 by_cases c:(2 ^ D-ws.sum) / 2 ^ k%2=1
 ·rw[if_pos (decide_eq_true c),if_pos c];rfl
 ·rw[if_neg (by simpa using c),if_neg c];rfl
theorem figO_num {ws:List Nat}{k:Nat}{o:Option Nat}(h:o∈figO (numE ws) k):∃n,o=some n:=by
 obtain⟨x,hx,rfl⟩:=List.mem_map.mp h
 obtain⟨i,_,rfl⟩:=List.mem_map.mp (List.mem_filter.mp hx).1
 exact⟨i,rfl⟩
theorem nP_succ (ws:List Nat)(D k:Nat):nP ws D (k+1)=(figO (numE ws) k).length+(if aW ws D k=1 then 1 else 0)+nP ws D k / 2:=by
 unfold nP
 rw[parts,List.length_append,List.length_map,asks_len,figO_both,List.length_append]
 split<;>rfl
theorem getD_some {l:List Pn}{i:Nat}{x:Pn}(h:l[i]?=some x):l.getD i .again=x:=by rw[List.getD_eq_getElem?_getD,h];rfl
theorem node_at (h:ws.sum≤2 ^ D){k q:Nat}(hk:k≤D)(hq:q<nP ws D (k+1)) :
  (q<nP ws D k / 2∧ndA ws D (k+1) q=.ask (ndA ws D k (2*q+1)) (ndA ws D k (2*q))∧2*q+1<nP ws D k) ∨
  (q=nP ws D k / 2∧aW ws D k=1∧ndA ws D (k+1) q=.again)∨∃v,ndA ws D (k+1) q=.num v:=by
 have hev:=(parts_len (esW_tot h) k (by omega)).2 hk
 have hn:=nP_succ ws D k
 have hp:parts (esW ws D) (k+1)=(figO (esW ws D) k).map leafP++asks (parts (esW ws D) k):=rfl
 have hfl:((figO (esW ws D) k).map leafP).length=(figO (numE ws) k).length+(if aW ws D k=1 then 1 else 0):=by
  rw[List.length_map,figO_both,List.length_append]
  split<;>rfl
 have hev:nP ws D k%2=0:=hev
 by_cases c:q<nP ws D k / 2
 ·left
  refine⟨c,getD_some ?_,by omega⟩
  rw[hp,List.getElem?_append_right (by rw[hfl];omega)]
  have e:nP ws D (k+1)-1-q-((figO (esW ws D) k).map leafP).length=nP ws D k / 2-1-q:=by rw[hfl];omega
  rw[e]
  apply asks_get
  ·unfold ndA
   rw[List.getD_eq_getElem?_getD,show 2*(nP ws D k / 2-1-q)=nP ws D k-1-(2*q+1)by omega,List.getElem?_eq_getElem (show nP ws D k-1-(2*q+1)<(parts (esW ws D) k).length by show _<nP ws D k;omega)]
   rfl
  ·unfold ndA
   rw[List.getD_eq_getElem?_getD,show 2*(nP ws D k / 2-1-q)+1=nP ws D k-1-2*q by omega,List.getElem?_eq_getElem (show nP ws D k-1-2*q<(parts (esW ws D) k).length by show _<nP ws D k;omega)]
   rfl
 ·right
  have hi:nP ws D (k+1)-1-q<((figO (esW ws D) k).map leafP).length:=by rw[hfl];omega
  by_cases d:nP ws D (k+1)-1-q<(figO (numE ws) k).length
  ·right
   obtain⟨v,hv⟩:=figO_num (List.getElem_mem d)
   refine⟨v,getD_some ?_⟩
   rw[hp,List.getElem?_append_left hi,List.getElem?_map,figO_both,List.getElem?_append_left d,List.getElem?_eq_getElem d,hv]
   rfl
  ·left
   by_cases a:aW ws D k=1
   ·rw[if_pos a]at hn hfl
    refine⟨by omega,a,getD_some ?_⟩
    rw[hp,List.getElem?_append_left hi,List.getElem?_map,figO_both,if_pos a,List.getElem?_append_right (by omega),show nP ws D (k+1)-1-q-(figO (numE ws) k).length=0 by omega]
    rfl
   ·rw[if_neg a]at hn hfl
    omega
theorem wk_num (root:Pn)(v:Nat)(bs:List Nat):wk root (.num v) bs=some (v,0):=by cases bs<;>rfl
theorem wk_map0 (x:Option (Nat×Nat)):x=x.map fun y=>(y.1,y.2+0):=by cases x<;>rfl
theorem wk_down (h:ws.sum≤2 ^ D)(root:Pn){f:Nat→Bool}:∀(k:Nat),k≤D→∀(q z:Nat)(bs:List Nat),q<nP ws D (k+1)→Rp f z bs →
  (∃v d,wk root (ndA ws D (k+1) q) bs=some (v,d)∧d≤k∧d≤bs.length) ∨
  (∃d,d≤k∧d≤bs.length∧aW ws D (k-d)=1∧vl f q z d=nP ws D (k-d) / 2∧wk root (ndA ws D (k+1) q) bs=(wk root .again (bs.drop d)).map fun x=>(x.1,x.2+d)) ∨
  (bs.length<k∧wk root (ndA ws D (k+1) q) bs=none):=by
 intro k
 induction k with
 | zero =>
  intro hk q z bs hq hb
  rcases node_at h hk hq with ⟨c,_⟩|⟨c,a,e⟩|⟨v,e⟩
  ·exact absurd c (by show ¬q<0 / 2;omega)
  ·rw[e];exact .inr (.inl ⟨0,Nat.le_refl _,Nat.zero_le _,a,c,wk_map0 _⟩)
  ·rw[e];exact .inl ⟨v,0,wk_num _ _ _,Nat.le_refl _,Nat.zero_le _⟩
 | succ k ih =>
  intro hk q z bs hq hb
  rcases node_at h hk hq with ⟨c,e,hl⟩|⟨c,a,e⟩|⟨v,e⟩
  ·rw[e]
   cases bs with
   | nil=>exact .inr (.inr ⟨Nat.succ_pos _,rfl⟩)
   | cons b bs =>
    have hw:wk root (.ask (ndA ws D (k+1) (2*q+1)) (ndA ws D (k+1) (2*q))) (b::bs)=(wk root (ndA ws D (k+1) (2*q+(if f z=true then 1 else 0))) bs).map fun x=>(x.1,x.2+1):=by
     show(wk root (if b=0 then _ else _) bs).map _=_
     have:=hb.1
     split at this<;>(rename_i e;subst this;simp[e])
    rw[hw]
    rcases ih (by omega) (2*q+(if f z=true then 1 else 0)) (z+1) bs (by split<;>omega) hb.2 with ⟨v,d,h1,h2,h3⟩|⟨d,h1,h2,h3,h4,h5⟩|⟨h1,h2⟩
    ·exact .inl ⟨v,d+1,by rw[h1];rfl,by omega,by rw[List.length_cons];omega⟩
    ·refine .inr (.inl ⟨d+1,by omega,by rw[List.length_cons];omega,by rw[Nat.add_sub_add_right];exact h3,by rw[Nat.add_sub_add_right];exact h4,?_⟩)
     rw[h5,Option.map_map]
     rfl
    ·exact .inr (.inr ⟨by rw[List.length_cons];omega,by rw[h2];rfl⟩)
  ·rw[e];exact .inr (.inl ⟨0,Nat.zero_le _,Nat.zero_le _,a,c,wk_map0 _⟩)
  ·rw[e];exact .inl ⟨v,0,wk_num _ _ _,Nat.zero_le _,Nat.zero_le _⟩
noncomputable def Tail (f:Nat→Bool)(S:List (List Bool))(D z n:Nat):Option (Nat×Nat)→Prop
 | none=>∃e,Ch f S z e∧z≤e∧e≤z+n∧z+n≤e+D
 | some (_,u)=>∃e,Ch f S z e∧z≤e∧e≤z+u∧z+u≤e+D∧u≤n
theorem plan_chain (h:ws.sum≤2 ^ D)(h0:0<ws.sum){f:Nat→Bool}{S:List (List Bool)}(hS:∀t,0<t→t≤D→aW ws D (D-t)=1→wb t (nP ws D (D-t) / 2)∈S):∀(N:Nat)(bs:List Nat)(z:Nat),bs.length≤N→Rp f z bs→Tail f S D z bs.length (wk (plW ws D) (plW ws D) bs):=by
 have h1:nP ws D (D+1)=1:=parts_one (esW_tot h)
 have hr:ndA ws D (D+1) 0=plW ws D:=by
  unfold ndA plW planP
  rw[h1]
  cases parts (esW ws D) (D+1)<;>rfl
 have hno:plW ws D≠.again:=has_root (plW_has h h0)
 have hag:∀bs,wk (plW ws D) .again bs=wk (plW ws D) (plW ws D) bs:=fun bs=>by
  generalize plW ws D=root at hno
  cases root with
  | again=>exact absurd rfl hno
  | num v=>cases bs<;>rfl
  | ask l r=>cases bs<;>rfl
 intro N
 induction N with
 | zero =>
  intro bs z hN hb
  rcases wk_down h (plW ws D) D (Nat.le_refl _) 0 z bs (by omega) hb with ⟨v,d,e,h2,h3⟩|⟨d,h2,h3,h4,_⟩|⟨h2,e⟩
  ·rw[hr]at e;rw[e];exact⟨z,Ch.nil z,Nat.le_refl _,by omega,by omega,h3⟩
  ·have:d=0:=by omega
   subst this
   unfold aW at h4
   rw[Nat.sub_zero,Nat.div_eq_of_lt (by have:=Nat.two_pow_pos D;omega)]at h4
   cases h4
  ·rw[hr]at e;rw[e];exact⟨z,Ch.nil z,Nat.le_refl _,by omega,by omega⟩
 | succ N ih =>
  intro bs z hN hb
  rcases wk_down h (plW ws D) D (Nat.le_refl _) 0 z bs (by omega) hb with ⟨v,d,e,h2,h3⟩|⟨d,h2,h3,h4,h5,e⟩|⟨h2,e⟩
  ·rw[hr]at e;rw[e];exact⟨z,Ch.nil z,Nat.le_refl _,by omega,by omega,h3⟩
  ·have hd:0<d:=by
    rcases Nat.eq_zero_or_pos d with z|z
    ·subst z
     unfold aW at h4
     rw[Nat.sub_zero,Nat.div_eq_of_lt (by have:=Nat.two_pow_pos D;omega)]at h4
     cases h4
    ·exact z
   have hi:=ih (bs.drop d) (z+d) (by rw[List.length_drop];omega) (hb.drop d)
   rw[hr,hag]at e
   have hw:=hS d hd h2 h4
   have ho:=Oc_wb f d z
   rw[h5]at ho
   have hl:=wb_len d (nP ws D (D-d) / 2)
   have hn:wb d (nP ws D (D-d) / 2)≠[]:=fun x=>by rw[x]at hl;simp at hl;omega
   have hj:∀{x:Nat},Ch f S (z+d) x→Ch f S z x:=fun {x} c=>Ch.cons hw hn ho (by rw[hl];exact c)
   rw[List.length_drop]at hi
   rw[e]
   cases hx:wk (plW ws D) (plW ws D) (bs.drop d)with
   | none =>
    rw[hx]at hi
    obtain⟨x,c,i1,i2,i3⟩:=hi
    exact⟨x,hj c,by omega,by omega,by omega⟩
   | some r =>
    rw[hx]at hi
    obtain⟨x,c,i1,i2,i3,i4⟩:=hi
    exact⟨x,hj c,by omega,by show x≤z+(r.2+d);omega,by show z+(r.2+d)≤x+D;omega,by show r.2+d≤bs.length;omega⟩
  ·rw[hr]at e;rw[e];exact⟨z,Ch.nil z,Nat.le_refl _,by omega,by omega⟩
end
noncomputable def gvs (g:List (List Nat))(t:Nat):List Nat:=if t<2 then []else if t<6 then g.getD (t-2) []else [0,1,2,3,4,5,6,7]
noncomputable def gwd (g:List (List Nat)):List (List Bool):=(List.range 13).flatMap fun t=>(gvs g t).map (wb t)
noncomputable def vgg:List (List (List Nat)):=[[[1,2],[0,1,2],[0,1,2,3],[0,1,2,3,4,5,6,7]],
 [[3],[5],[5],[4]],
 [[3],[1,4],[0,1,2,3,7],[0,1,2,3,4,5,6,7]],
 [[3],[5],[5,7],[6]],
 [[],[6,7],[4,5],[0,1,2,3,4,5,6,7]],
 [[3],[5],[2,7],[0,1,2,3,4]],
 [[0,3],[3,6,7],[0,1,2,3,6,7],[0,1,2,3,4,5,6,7]],
 [[2],[3],[0,1,2,3,6,7],[0,1,2,3,4,5,6,7]],
 [[3],[4],[5],[0,1,2,3,4,5,6,7]],
 [[3],[3],[4],[0,1,2,3,4,5,6,7]],
 [[3],[5],[4],[6,7]],
 [[3],[5],[0,5,7],[0,1,2,3,5,7]],
 [[2],[3],[4,5],[0,1,2,3,4,5,6,7]],
 [[3],[5],[6],[4,5]],
 [[3],[3],[5],[0,1,2,3,4,5,6,7]],
 [[3],[0,2,7],[0,1,2,3],[0,1,2,3,4,5,6,7]],
 [[3],[5],[3,4],[0,1,2,3,4,5]],
 [[3],[5,6,7],[1,6],[0,1,2,3,6,7]],
 [[3],[4],[4,6],[0,1,2,3,4,5,6,7]]]
noncomputable def forb (g:List (List Nat))(u:List Bool):Bool:=(rn (gwd g) (st0 (gwd g)) u).isEmpty&&(decide (0<u.length)&&decide (u.length≤9))
theorem forb_all:((vgr.zip vgg).all fun x=>x.1.all (forb x.2))=true:=by decide +kernel
theorem vgg_len:vgr.length=vgg.length:=by decide
noncomputable def tlo (g:List (List Nat))(t I:Nat):Bool:=(List.range 13).all fun s=>decide (s≤t)||(List.range 8).all fun v=>decide (2 ^ (s-t)*I≤v)||(gvs g s).contains v
noncomputable def ckT:Nat→List (List (List Nat))→Nat→Nat→Bool
 | 0,_,_,_=>false
 | n+1,L,t,I=>L.any (fun g=>tlo g t I)||(decide (t<12)&&(List.range 8).all fun J=>(decide (2*I<J)||ckT n L (t+1) J)&&(decide (2*I<J+1)||ckT n (L.filter fun g=>(gvs g (t+1)).contains J) (t+1) J))
theorem ckT_ok {A Is:Nat→Nat}:∀(n:Nat)(L:List (List (List Nat)))(t:Nat),ckT n L t (Is t)=true→(∀s,t<s→s≤12→Is s≤7∧Is s+A s≤2*Is (s-1))→∃g∈L,∀s,t<s→s≤12→A s=1→Is s∈gvs g s
 | 0,_,_,h,_=>by cases h
 | n+1,L,t,h,hc=>by
  rw[ckT,Bool.or_eq_true]at h
  rcases h with h|h
  ·obtain⟨g,hg,ht⟩:=List.any_eq_true.mp h
   refine⟨g,hg,fun s h1 h2 ha=>?_⟩
   have grow:∀k,t+k≤12→Is (t+k)≤2 ^ k*Is t:=by
    intro k
    induction k with
    | zero=>intro _;rw[Nat.pow_zero,Nat.one_mul];exact Nat.le_refl _
    | succ k ih =>
     intro hk
     have:=ih (by omega)
     have h3:=(hc (t+(k+1)) (by omega) hk).2
     rw[show t+(k+1)-1=t+k by omega]at h3
     rw[Nat.pow_succ,Nat.mul_comm (2 ^ k),Nat.mul_assoc];omega
   have h3:=hc s h1 h2
   have h4:=grow (s-1-t) (by omega)
   rw[show t+(s-1-t)=s-1 by omega]at h4
   have h5:Is s<2 ^ (s-t)*Is t:=by
    rw[show s-t=s-1-t+1 by omega,Nat.pow_succ,Nat.mul_comm (2 ^ _),Nat.mul_assoc];omega
   have h6:=List.all_eq_true.mp ht s (List.mem_range.mpr (by omega))
   rw[decide_eq_false (by omega),Bool.false_or]at h6
   have h7:=List.all_eq_true.mp h6 (Is s) (List.mem_range.mpr (by omega))
   rw[decide_eq_false (by omega),Bool.false_or]at h7
   exact List.contains_iff_mem.mp h7
  ·rw[Bool.and_eq_true]at h
   have ht:=of_decide_eq_true h.1
   obtain⟨h1,h2⟩:=hc (t+1) (by omega) (by omega)
   rw[Nat.add_sub_cancel]at h2
   have h3:=List.all_eq_true.mp h.2 (Is (t+1)) (List.mem_range.mpr (by omega))
   rw[Bool.and_eq_true]at h3
   by_cases a:A (t+1)=1
   ·have h4:=h3.2
    rw[decide_eq_false (by omega),Bool.false_or]at h4
    obtain⟨g,hg,h5⟩:=ckT_ok n _ (t+1) h4 fun s x y=>hc s (by omega) y
    refine⟨g,(List.mem_filter.mp hg).1,fun s x y z=>?_⟩
    rcases Nat.lt_or_ge (t+1) s with c|c
    ·exact h5 s c y z
    ·rw[show s=t+1 by omega];exact List.contains_iff_mem.mp (List.mem_filter.mp hg).2
   ·have h4:=h3.1
    rw[decide_eq_false (by omega),Bool.false_or]at h4
    obtain⟨g,hg,h5⟩:=ckT_ok n _ (t+1) h4 fun s x y=>hc s (by omega) y
    refine⟨g,hg,fun s x y z=>?_⟩
    rcases Nat.lt_or_ge (t+1) s with c|c
    ·exact h5 s c y z
    ·exact absurd (show A (t+1)=1 by rw[←z];congr 1;omega) a
theorem ckT_all:(ckT 13 vgg 1 0&&(ckT 13 vgg 1 1&&ckT 13 vgg 1 2))=true:=by decide +kernel
section
variable {ws:List Nat}{D:Nat}
theorem nP_le (h:ws.sum≤2 ^ D)(hl:ws.length≤7){k:Nat}(hk:k≤D):nP ws D k / 2≤7:=by
 have h1:=(parts_len (esW_tot h) k (by omega)).1
 have h2:=sum_lessN (T:=2 ^ k) (rs:=(esW ws D).map fun e=>e.2%2 ^ k) fun r hr=>by
  obtain⟨e,_,rfl⟩:=List.mem_map.mp hr
  exact Nat.mod_lt _ (Nat.two_pow_pos _)
 have h3:(esW ws D).length≤8:=by
  unfold esW numE
  rw[List.length_append,List.length_map,List.length_range];show ws.length+1≤8;omega
 rw[List.length_map]at h2
 have h4:low (esW ws D) k≤8*2 ^ k-(esW ws D).length:=by
  have:(esW ws D).length*2 ^ k≤8*2 ^ k:=Nat.mul_le_mul_right _ h3
  show((esW ws D).map fun e=>e.2%2 ^ k).sum≤_
  omega
 have h5:0<(esW ws D).length:=by unfold esW;rw[List.length_append];exact Nat.succ_pos _
 have hp:=Nat.two_pow_pos k
 have h6:nP ws D k*2 ^ k<16*2 ^ k:=by
  show(parts (esW ws D) k).length*2 ^ k<_
  omega
 have:=Nat.lt_of_mul_lt_mul_right h6
 omega
theorem grp_of (hD:isD ws.sum D)(hl:ws.length≤7)(h12:D≤12):∃g∈vgg,∀t,0<t→t≤D→aW ws D (D-t)=1→wb t (nP ws D (D-t) / 2)∈gwd g:=by
 have h:=hD.1
 have step:∀t,0<t→t≤D→nP ws D (D-t) / 2+aW ws D (D-t)≤2*(nP ws D (D-(t-1)) / 2)∨t=0:=fun t h1 h2=>by
  have e:=nP_succ ws D (D-t)
  have ev:nP ws D (D-t+1)%2=0:=(parts_len (esW_tot h) (D-t+1) (by omega)).2 (by omega)
  have ha:aW ws D (D-t)=0∨aW ws D (D-t)=1:=by unfold aW;omega
  rw[show D-(t-1)=D-t+1 by omega]
  rcases ha with a|a
  ·rw[a,if_neg (by decide)]at e;omega
  ·rw[a,if_pos rfl]at e;omega
 have h0:nP ws D D / 2≤1:=by
  have e:=nP_succ ws D D
  have:=parts_one (esW_tot h)
  have:nP ws D (D+1)=1:=this
  omega
 have hc:∀s,1<s→s≤12→(if s≤D then nP ws D (D-s) / 2 else 0)≤7∧(if s≤D then nP ws D (D-s) / 2 else 0)+(if s≤D then aW ws D (D-s)else 0)≤2*(if s-1≤D then nP ws D (D-(s-1)) / 2 else 0):=fun s h1 h2=>by
  by_cases c:s≤D
  ·rw[if_pos c,if_pos c,if_pos (by omega)]
   refine⟨nP_le h hl (by omega),?_⟩
   rcases step s (by omega) c with x|x<;>omega
  ·rw[if_neg c,if_neg c];omega
 have hI1:(if 1≤D then nP ws D (D-1) / 2 else 0)≤2:=by
  split
  ·next c =>
   rcases step 1 (by omega) c with x|x
   ·rw[show D-(1-1)=D by omega]at x;omega
   ·omega
  ·omega
 have hk:ckT 13 vgg 1 (if 1≤D then nP ws D (D-1) / 2 else 0)=true:=by
  have hall:=ckT_all
  rw[Bool.and_eq_true,Bool.and_eq_true]at hall
  generalize (if 1≤D then nP ws D (D-1) / 2 else 0)=x at hI1
  have:x=0∨x=1∨x=2:=by omega
  rcases this with rfl|rfl|rfl
  ·exact hall.1
  ·exact hall.2.1
  ·exact hall.2.2
 obtain⟨g,hg,h1⟩:=ckT_ok (A:=fun s=>if s≤D then aW ws D (D-s)else 0) (Is:=fun s=>if s≤D then nP ws D (D-s) / 2 else 0) 13 vgg 1 hk hc
 refine⟨g,hg,fun t t1 t2 ha=>?_⟩
 have t3:1<t:=by
  rcases Nat.lt_or_ge 1 t with c|c
  ·exact c
  ·have:t=1:=by omega
   subst this
   have:=hD.2 (D-1) (by omega)
   unfold aW at ha
   rw[Nat.div_eq_of_lt ?_]at ha
   ·cases ha
   ·have e:2 ^ D=2 ^ (D-1)*2:=by rw[←Nat.pow_succ];congr 1;omega
    omega
 have h2:=h1 t t3 (by omega) (by simp only[if_pos t2];exact ha)
 simp only[if_pos t2]at h2
 exact List.mem_flatMap.mpr ⟨t,List.mem_range.mpr (by omega),List.mem_map.mpr ⟨_,h2,rfl⟩⟩
theorem pat_of {g:List (List Nat)}(hg:g∈vgg):∃p∈vgr,∀u∈p,rn (gwd g) (st0 (gwd g)) u=[]∧0<u.length∧u.length≤9:=by
 obtain⟨i,hi,rfl⟩:=List.getElem_of_mem hg
 have hi2:i<vgr.length:=by rw[vgg_len];exact hi
 refine⟨vgr[i],List.getElem_mem hi2,fun u hu=>?_⟩
 have hz:(vgr[i],vgg[i])∈vgr.zip vgg:=by
  have hz:i<(vgr.zip vgg).length:=by rw[List.length_zip];omega
  have:=List.getElem_mem hz
  rw[List.getElem_zip]at this
  exact this
 have h1:=List.all_eq_true.mp (List.all_eq_true.mp forb_all _ hz) u hu
 unfold forb at h1
 rw[Bool.and_eq_true,Bool.and_eq_true]at h1
 exact⟨List.isEmpty_iff.mp h1.1,of_decide_eq_true h1.2.1,of_decide_eq_true h1.2.2⟩
end
def Rg (f:Nat→Bool)(p q:Nat):Prop:=∀x,p≤x→x+57≤q→∃y,x≤y∧y+13≤x+57∧∀r,r<13→f (y+r)=false
theorem Rg.of {f:Nat→Bool}{p p1 p2 q:Nat}(h1:p1≤p+12)(h2:∀i,p1≤i→i+16<p2→f i=false)(h3:∀i,p2≤i→i+4<q→f i=false):Rg f p q:=fun x hx hq=>by
 by_cases c:(if x≤p1 then p1 else x)+29≤p2
 ·refine⟨if x≤p1 then p1 else x,by split<;>omega,by split<;>omega,fun r hr=>h2 _ ?_ ?_⟩
  ·split<;>omega
  ·split at c<;>split<;>omega
 ·refine⟨if x≤p2 then p2 else x,by split<;>omega,by split at c<;>split<;>omega,fun r hr=>h3 _ ?_ ?_⟩
  ·split<;>omega
  ·split at c<;>split<;>omega
theorem sm_zero {g:Nat→Nat}(h:∀i,g i=0):∀m k,sm g m k=0
 | 0,_=>rfl
 | m+1,k=>by show sm g m k+g (k+m)=0;rw[sm_zero h m k,h]
theorem sm_eq {g h:Nat→Nat}:∀m,(∀i,i<m→g i=h i)→sm g m 0=sm h m 0
 | 0,_=>rfl
 | m+1,e=>by
  show sm g m 0+g (0+m)=sm h m 0+h (0+m)
  rw[sm_eq m fun i hi=>e i (by omega),Nat.zero_add,e m (by omega)]
theorem sm_one {g h:Nat→Nat}(hg:∀i,h i≤g i+1)(h2:∀i j,i<j→g i<h i→g j<h j→False):∀m,sm h m 0≤sm g m 0+1∧(sm g m 0<sm h m 0→∃i,i<m∧g i<h i)
 | 0=>⟨by show 0≤0+1;omega,fun z=>absurd z (Nat.lt_irrefl _)⟩
 | m+1=>by
  obtain⟨a,b⟩:=sm_one hg h2 m
  show sm h m 0+h (0+m)≤sm g m 0+g (0+m)+1∧(sm g m 0+g (0+m)<sm h m 0+h (0+m)→_)
  rw[Nat.zero_add]
  have c:=hg m
  by_cases d:g m<h m
  ·have:¬sm g m 0<sm h m 0:=fun z=>by
    obtain⟨i,hi,e⟩:=b z
    exact h2 i m hi e d
   exact⟨by omega,fun _=>⟨m,by omega,d⟩⟩
  ·exact⟨by omega,fun z=>by
    obtain⟨i,hi,e⟩:=b (by omega)
    exact⟨i,by omega,e⟩⟩
structure Wd (f:Nat→Bool)(S:List (List Bool))(d:Nat)(g nn ee:Nat→Nat):Prop where
 off:d<128
 one:∀i,g i=0∨g i=1
 pat:∀i,g i=1→d+128*i≤nn i∧nn i<d+128*i+63∧nn i<ee i∧ee i≤nn i+9∧∃u,Oc f u (nn i)∧nn i+u.length=ee i∧rn S (st0 S) u=[]
 run:∀i,g i=1→∀j,j≤115→¬ ∀r,r<13→f (d+128*i+j+r)=false
 many:14≤sm g 30 0
noncomputable def cnt (g ee:Nat→Nat)(x:Nat):Nat:=sm (fun i=>if ee i≤x then g i else 0) 30 0
section
variable {f:Nat→Bool}{S:List (List Bool)}{d:Nat}{g nn ee:Nat→Nat}(W:Wd f S d g nn ee)
include W
theorem cnt_zero:cnt g ee 0=0:=by
 apply sm_zero
 intro i
 rcases W.one i with h|h
 ·rw[h];split<;>rfl
 ·rw[if_neg (by have:=W.pat i h;omega)]
theorem cnt_all:14≤cnt g ee 4000:=by
 have:=W.many
 unfold cnt
 rw[sm_eq (h:=g) 30 fun i hi=>?_]
 ·exact this
 ·rcases W.one i with h|h
  ·rw[h];split<;>rfl
  ·rw[if_pos (by have:=W.pat i h;have:=W.off;omega)]
theorem cnt_step {e s e':Nat}(hR:Rg f e s)(hC:Ch f S s e')(he:e≤e'):cnt g ee e'≤cnt g ee e+1:=by
 refine(sm_one (fun i=>?_) (fun i j hij hi hj=>?_) 30).1
 ·rcases W.one i with h|h<;>rw[h]<;>split<;>split<;>omega
 ·have key:∀i,(if ee i≤e then g i else 0)<(if ee i≤e' then g i else 0)→g i=1∧e<ee i∧nn i<s:=fun i hi=>by
   rcases W.one i with h|h
   ·rw[h]at hi;split at hi<;>split at hi<;>omega
   ·rw[h]at hi
    have h1:¬ee i≤e:=fun z=>by rw[if_pos z]at hi;split at hi<;>omega
    have h2:ee i≤e':=Decidable.byContradiction fun z=>by rw[if_neg z]at hi;omega
    refine⟨h,by omega,Decidable.byContradiction fun z=>?_⟩
    obtain⟨_,_,_,_,u,o,l,n⟩:=W.pat i h
    exact no_pat hC o (by omega) (by omega) n
  obtain⟨g1,e1,n1⟩:=key i hi
  obtain⟨g2,e2,n2⟩:=key j hj
  obtain⟨a1,a2,a3,a4,_⟩:=W.pat i g1
  obtain⟨b1,b2,b3,b4,_⟩:=W.pat j g2
  have hm:128*(i+1)≤128*j:=Nat.mul_le_mul_left _ hij
  obtain⟨y,y1,y2,y3⟩:=hR (ee i) (by omega) (by omega)
  refine W.run i g1 (y-(d+128*i)) (by omega) fun r hr=>?_
  rw[show d+128*i+(y-(d+128*i))+r=y+r by omega]
  exact y3 r hr
end
def Trn (f:Nat→Bool)(g ee:Nat→Nat)(i z:Nat):Prop:=∃e p,e≤p∧p≤z∧z≤4000∧p≤e+12∧(∀j,p≤j→j+16<z→f j=false)∧cnt g ee e≤i
theorem Trn.zero {f:Nat→Bool}{S:List (List Bool)}{d:Nat}{g nn ee:Nat→Nat}(W:Wd f S d g nn ee):Trn f g ee 0 0:=⟨0,0,Nat.le_refl _,Nat.le_refl _,by decide,by decide,fun j _ h=>by omega,by rw[cnt_zero W];exact Nat.le_refl _⟩
theorem turn {f:Nat→Bool}{g nn ee:Nat→Nat}{ws:List Nat}{D d m i z:Nat}{S:List (List Bool)}{bl:List Nat}(W:Wd f S d g nn ee)(hb:Rp f 0 bl)(hl:bl.length=4000)(hD:isD ws.sum D)(h12:D≤12)(h0:0<ws.sum)(hw:ws.length≤7)(hS:∀t,0<t→t≤D→aW ws D (D-t)=1→wb t (nP ws D (D-t) / 2)∈S)(hm0:0<m)(hm:m≤2 ^ 15)(hi:i<12)(h:Trn f g ee i z) :
  ∃v1 u1 v2 u2 v3 u3,pkF ws (bl.drop z)=some (v1,u1)∧wk (plW ws D) (plW ws D) (bl.drop (z+u1))=some (v2,u2)∧evF m (bl.drop (z+u1+u2))=some (v3,u3)∧Trn f g ee (i+1) (z+u1+u2+u3):=by
 have hall:=cnt_all W
 obtain⟨e,p,e1,e2,e3,e4,e5,e6⟩:=h
 have rp:∀n,Rp f n (bl.drop n):=fun n=>by have:=hb.drop n;rw[Nat.zero_add]at this;exact this
 have ln:∀n,(bl.drop n).length=4000-n:=fun n=>by rw[List.length_drop,hl]
 have hp:=pkF_shape (rp z) h0 hw
 rw[ln]at hp
 cases x1:pkF ws (bl.drop z)with
 | none =>
  rw[x1]at hp
  have:=cnt_step W (Rg.of (p1:=p) (p2:=z) (q:=4000) e4 (fun j a b=>e5 j a b) (fun j a b=>by have:=hp (j-z) (by omega);rw[show z+(j-z)=j by omega]at this;exact this)) (Ch.nil 4000) (by omega)
  omega
 | some r1 =>
  obtain⟨v1,u1⟩:=r1
  rw[x1]at hp
  obtain⟨q1,q2⟩:=hp
  have R1:Rg f e (z+u1):=Rg.of (p1:=p) (p2:=z) e4 e5 (fun j a b=>by have:=q2 (j-z) (by omega);rw[show z+(j-z)=j by omega]at this;exact this)
  have hk:=plan_chain hD.1 h0 hS _ _ (z+u1) (Nat.le_refl _) (rp (z+u1))
  rw[ln]at hk
  cases x2:wk (plW ws D) (plW ws D) (bl.drop (z+u1))with
  | none =>
   rw[x2]at hk
   obtain⟨e',c,k1,k2,k3⟩:=hk
   have s1:=cnt_step W R1 c (by omega)
   have s2:=cnt_step W (Rg.of (p:=e') (p1:=4000) (p2:=4000) (q:=4000) (by omega) (fun j a b=>by omega) (fun j a b=>by omega)) (Ch.nil 4000) (by omega)
   omega
  | some r2 =>
   obtain⟨v2,u2⟩:=r2
   rw[x2]at hk
   obtain⟨e',c,k1,k2,k3,k4⟩:=hk
   have s1:=cnt_step W R1 c (by omega)
   have he:=evF_shape hm hm0 (rp (z+u1+u2))
   rw[ln]at he
   cases x3:evF m (bl.drop (z+u1+u2))with
   | none =>
    rw[x3]at he
    have s2:=cnt_step W (Rg.of (p:=e') (p1:=z+u1+u2) (p2:=4000) (q:=4000) (by omega) (fun j a b=>by have:=he (j-(z+u1+u2)) (by omega);rw[show z+u1+u2+(j-(z+u1+u2))=j by omega]at this;exact this) (fun j a b=>by omega)) (Ch.nil 4000) (by omega)
    omega
   | some r3 =>
    obtain⟨v3,u3⟩:=r3
    rw[x3]at he
    obtain⟨t1,t2⟩:=he
    refine⟨v1,u1,v2,u2,v3,u3,rfl,x2,x3,e',z+u1+u2,by omega,by omega,by omega,by omega,fun j a b=>?_,by omega⟩
    have:=t2 (j-(z+u1+u2)) (by omega)
    rw[show z+u1+u2+(j-(z+u1+u2))=j by omega]at this;exact this
theorem enough (hall:∀i,i<4096→vck (1048576*i)=true){x:Nat}(hx:x<4294967296){ws:List Nat}{D:Nat}(hD:isD ws.sum D)(h12:D≤12)(hw:ws.length≤7):∃S d g nn ee,Wd (cb x) S d g nn ee∧∀t,0<t→t≤D→aW ws D (D-t)=1→wb t (nP ws D (D-t) / 2)∈S:=by
 obtain⟨G,hG,hS⟩:=grp_of hD hw h12
 obtain⟨p,hp,hu⟩:=pat_of hG
 obtain⟨d,g,h1,h2,h3⟩:=win hall hx hp
 have hn:∀i,∃a b,g i=1→d+128*i≤a∧a<d+128*i+63∧a<b∧b≤a+9∧∃u,Oc (cb x) u a∧a+u.length=b∧rn (gwd G) (st0 (gwd G)) u=[]:=fun i=>by
  rcases h2 i with z|⟨z,⟨j,hj,u,hu1,ho⟩,_⟩
  ·exact⟨0,0,fun y=>by omega⟩
  ·obtain⟨f1,f2,f3⟩:=hu u hu1
   exact⟨d+128*i+j,d+128*i+j+u.length,fun _=>⟨by omega,by omega,by omega,by omega,u,ho,rfl,f1⟩⟩
 refine⟨gwd G,d,g,fun i=>Classical.choose (hn i),fun i=>Classical.choose (Classical.choose_spec (hn i)),⟨h1,fun i=>?_,fun i=>Classical.choose_spec (Classical.choose_spec (hn i)),fun i hi=>?_,h3⟩,hS⟩
 ·rcases h2 i with z|⟨z,_⟩
  ·exact .inl z
  ·exact .inr z
 ·rcases h2 i with z|⟨_,_,z⟩
  ·omega
  ·exact z
def AgAt (K:PySem.W.Frag)(H:Hp)(p:Addr):Prop:=H p=some (.tup [.str "again"])∨∀H',SqT K H' p [.str "again"]
theorem AgAt.sq {K:PySem.W.Frag}{H:Hp}{p:Addr}(h:AgAt K H p):SqT K H p [.str "again"]:=h.elim SqT.of fun z=>z H
noncomputable def PnAt (K:PySem.W.Frag)(H:Hp):Pn→V→Prop
 |.num n,v=>∃p,v=.ref p∧H p=some (.tup [.str "is",.int (n:Int)])
 |.again,v=>∃p,v=.ref p∧AgAt K H p
 |.ask l r,v=>∃p y z,v=.ref p∧H p=some (.tup [.str "ask",y,z])∧PnAt K H l y∧PnAt K H r z
theorem PnAt.keep {K:PySem.W.Frag}{H H':Hp}(k:∀c xs,H c=some (.tup xs)→H' c=some (.tup xs)):∀{p:Pn}{v:V},PnAt K H p v→PnAt K H' p v
 |.num _,_,⟨p,e,h⟩=>⟨p,e,k _ _ h⟩
 |.again,_,⟨p,e,h⟩=>⟨p,e,h.imp (k _ _) id⟩
 |.ask _ _,_,⟨p,y,z,e,h,h1,h2⟩=>⟨p,y,z,e,k _ _ h,h1.keep k,h2.keep k⟩
theorem PnAt.same {K:PySem.W.Frag}{H H':Hp}{p:Pn}{v:V}(h:PnAt K H p v)(s:Same H H'):PnAt K H' p v:=h.keep fun _ _ e=>s _ _ e
theorem PnAt.growB {K:PySem.W.Frag}{C:Addr}{H H':Hp}{b dx r:Addr}{bl:List Nat}{z:Nat}{p:Pn}{v:V}(h:PnAt K H p v)(a:At C H b dx r bl z)(g:Grow b H H'):PnAt K H' p v:=h.keep fun c _ e=>g _ _ (fun y=>by rw[y,a.obj]at e;cases e) e
noncomputable def ag:Pn→Nat
 |.again=>1
 | _=>0
theorem ag_le (p:Pn):ag p≤1:=by cases p<;>first|exact Nat.le_refl _|exact Nat.zero_le _
def LeafV (K:PySem.W.Frag)(H:Hp)(o:Option Nat)(v:V):Prop:=PnAt K H (o.elim .again .num) v
def EndsL (K:PySem.W.Frag)(H:Hp)(as:List Addr)(es:List (Option Nat×Nat)):Prop:=as.length=es.length∧∀(j:Nat)(a:Addr)(e:Option Nat×Nat),as[j]?=some a→es[j]?=some e→∃v,H a=some (.tup [.int (e.2:Int),v])∧LeafV K H e.1 v
theorem EndsL.same {K:PySem.W.Frag}{H H':Hp}{as:List Addr}{es:List (Option Nat×Nat)}(h:EndsL K H as es)(s:Same H H'):EndsL K H' as es:=⟨h.1,fun j a e e1 e2=>by
 obtain⟨v,h1,h2⟩:=h.2 j a e e1 e2
 exact⟨v,s _ _ h1,PnAt.same h2 s⟩⟩
theorem EndsL.app {K:PySem.W.Frag}{H:Hp}{as bs:List Addr}{es fs:List (Option Nat×Nat)}(h:EndsL K H as es)(g:EndsL K H bs fs):EndsL K H (as++bs) (es++fs):=by
 refine⟨by rw[List.length_append,List.length_append,h.1,g.1],fun j a e e1 e2=>?_⟩
 by_cases c:j<as.length
 ·rw[List.getElem?_append_left c]at e1
  rw[List.getElem?_append_left (by rw[←h.1];exact c)]at e2
  exact h.2 j a e e1 e2
 ·rw[List.getElem?_append_right (by omega)]at e1
  rw[List.getElem?_append_right (by rw[←h.1];omega),←h.1]at e2
  exact g.2 _ a e e1 e2
def spEnds (K:PySem.W.Frag)(n:Nat):Sp:=fun vs H Q _=>∃(v:V)(pl:Pn)(d:Nat),vs=[v,.int (d:Int)]∧PnAt K H pl v∧pl.dp≤n∧n≤12∧∀l as H',H l=none→Same H H'→H' l=some (.lst (as.map V.ref))→EndsL K H' as (ends pl d)→Q (.ref l) H'
theorem op_neTAK {X:Cx}(K:PySem.W.Frag)(hK:X.K=K)(hu:X.A.units+64<cLine):OpR X (compareOp .NotEq) (rEqTA K true):=by
 subst hK
 exact op_neTA hu
def spNE (K:PySem.W.Frag)(CS:Addr):Sp:=fun vs H Q E=>∃(v:V)(pl:Pn),vs=[v]∧PnAt K H pl v∧pl.dp≤12∧(pl.has=true→∀x H',Same H H'→Q x H')∧(pl.has=false→∀H',Same H H'→E (.ref CS) none H')
noncomputable def nums (es:List (Option Nat×Nat)):List (Nat×Nat):=es.filterMap fun e=>e.1.map fun n=>(n,e.2)
theorem nums_has:∀es:List (Option Nat×Nat),decide (0<(nums es).length)=es.any (fun e=>e.1.isSome)
 | []=>rfl
 |(none,d)::es=>by
  have:=nums_has es
  rw[List.any_cons]
  exact this
 |(some n,d)::es=>by
  rw[List.any_cons]
  show decide (0<(nums es).length+1)=_
  exact decide_eq_true (by omega)
def NumL (H:Hp)(as:List Addr)(nd:List (Nat×Nat)):Prop:=as.length=nd.length∧∀(j:Nat)(a:Addr)(e:Nat×Nat),as[j]?=some a→nd[j]?=some e→H a=some (.tup [.int (e.2:Int),.int (e.1:Int)])
theorem NumL.same {H H':Hp}{as:List Addr}{nd:List (Nat×Nat)}(h:NumL H as nd)(s:Same H H'):NumL H' as nd:=⟨h.1,fun j a e e1 e2=>s _ _ (h.2 j a e e1 e2)⟩
theorem NumL.snoc {H:Hp}{as:List Addr}{nd:List (Nat×Nat)}{p:Addr}{n d:Nat}(h:NumL H as nd)(hp:H p=some (.tup [.int (d:Int),.int (n:Int)])):NumL H (as++[p]) (nd++[(n,d)]):=by
 refine⟨by rw[List.length_append,List.length_append,h.1];rfl,fun j a e e1 e2=>?_⟩
 by_cases c:j<as.length
 ·rw[List.getElem?_append_left c]at e1
  rw[List.getElem?_append_left (by rw[←h.1];exact c)]at e2
  exact h.2 j a e e1 e2
 ·rw[List.getElem?_append_right (by omega)]at e1
  rw[List.getElem?_append_right (by rw[←h.1];omega),←h.1]at e2
  have hj:j-as.length=0:=by
   have:=(List.getElem?_eq_some_iff.mp e1).1
   simpa using this
  rw[hj]at e1 e2
  cases e1
  cases e2
  exact hp
def spNE2 (K:PySem.W.Frag)(CS:Addr):Sp:=fun vs H Q E=>∃(v:V)(pl:Pn),vs=[v]∧PnAt K H pl v∧pl.dp≤12∧(pl.has=true→∀l as H',Same H H'→H' l=some (.lst (as.map V.ref))→NumL H' as (nums (ends pl 0))→Q (.ref l) H')∧(pl.has=false→∀H',Same H H'→E (.ref CS) none H')
def ShP (K:PySem.W.Frag)(H:Hp)(x:V)(pl:Pn):Prop:=PnAt K H pl x∧pl.has=true
def spRawP (K:PySem.W.Frag)(C CN:Addr)(F:Pn→List Nat→Option (V×Nat)):Sp:=fun vs H Q E=>∃(b dx r:Addr)(bl:List Nat)(z:Nat)(x:V)(pl:Pn),vs=[.ref b,x]∧At C H b dx r bl z∧(∀y∈bl,y≤1)∧ShP K H x pl ∧
 (∀v u H',F pl (bl.drop z)=some (v,u)→Grow b H H'→At C H' b dx r bl (z+u)→Q v H') ∧
 (∀z' H',F pl (bl.drop z)=none→z≤z'→Grow b H H'→At C H' b dx r bl z'→E (.ref CN) none H')
def spByP (K:PySem.W.Frag)(C CN CS:Addr)(F:Pn→List Nat→Option (V×Nat)):Sp:=fun vs H Q E=>∃(b dx r:Addr)(bl:List Nat)(z:Nat)(x:V)(pl:Pn),vs=[.ref b,x]∧At C H b dx r bl z∧(∀y∈bl,y≤1)∧PnAt K H pl x∧pl.dp≤12 ∧
 (∀v u H',pl.has=true→F pl (bl.drop z)=some (v,u)→Grow b H H'→At C H' b dx r bl (z+u)→Q v H') ∧
 (∀H',pl.has=true→F pl (bl.drop z)=none→Grow b H H'→At C H' b dx r bl z→E (.ref CN) none H') ∧
 (∀H',pl.has=false→Same H H'→E (.ref CS) none H')
noncomputable def wkV (pl:Pn)(bs:List Nat):Option (V×Nat):=(wk pl pl bs).map fun x=>(V.int (x.1:Int),x.2)
section
variable {P:Program}{w:World}{K:PySem.W.Frag}{mg:Str→Option Value}{base:Heap}{f C fI fT fU fL fG CN CS:Addr}{fd dI dT dU dL dG:FuncData}{mN mS:List Value}
theorem ok_Y28 {lv n:Nat}{spG:Sp}(F_Y28:Fun K "ends_of" "ends_of" s_Y28 f fd)(g_Y28:Fn P w K mg base "ends_of" p_Y28 lv spG)(hg:∀m vs H Q E,n=m+1→spEnds K m vs H Q E→spG vs H Q E):FnOk P w K mg base CX0 (lv+1) f fd p_Y28 (spEnds K n):=by
 refine F_Y28.ok sc_Y28 (fun vs H Q E h=>?_) (fun cdv A outer s H vs Q E hr h=>?_)
 ·obtain⟨v,pl,d,rfl,_⟩:=h
  rfl
 obtain⟨v,pl,d,rfl,hP,hd,hn,q⟩:=h
 refine⟨_,(pss_cons (ps_if (pt_cmpR op_eq (pe_ix ix_tup (pv 0) pe_int (fun _ _=>rfl)) pe_str (nomark _)) (pss_one (ps_ret (pe_op op_cat (pe_fn g_Y28 hr (pa_cons (pe_ix ix_tup (pv 0) pe_int (fun _ _=>rfl)) (pa_cons (pe_op op_add (pv 1) pe_int) pa_nil))) (pe_fn g_Y28 hr (pa_cons (pe_ix ix_tup (pv 0) pe_int (fun _ _=>rfl)) (pa_cons (pe_op op_add (pv 1) pe_int) pa_nil)))))) pss_nil)
   (pss_one (ps_ret (pe_lst (pa_cons (pe_tup (pa_cons (pv 1) (pa_cons (pv 0) pa_nil))) pa_nil))))),?_⟩
 have leaf:∀(o:Option Nat),ends (o.elim .again .num) d=[(o,d)]:=fun o=>by cases o<;>rfl
 have last:∀(o:Option Nat)(v:V)(p l:Addr),LeafV K H o v→pl=o.elim .again .num→H p=none→(upd H p (.tup [V.int (d:Int),v])) l=none→Q (.ref l) (upd (upd H p (.tup [V.int (d:Int),v])) l (.lst [V.ref p])):=fun o v p l hv e fp fl=>by
  have y1:=same_new fp (.tup [V.int (d:Int),v])
  have y2:=same_new fl (.lst [V.ref p])
  have nl:H l=none:=by
   cases e:H l with
   | none=>rfl
   | some o=>have:=y1 _ _ e;rw[fl]at this;cases this
  refine q l [p] _ nl (y1.trans y2) upd_same ?_
  rw[e,leaf o]
  refine⟨rfl,fun j a e' h1 h2=>?_⟩
  have hj:j=0:=by
   have:=(List.getElem?_eq_some_iff.mp h1).1
   simpa using this
  subst hj
  cases h1
  cases h2
  exact⟨v,y2 _ _ upd_same,PnAt.same hv (y1.trans y2)⟩
 cases pl with
 | num m =>
  obtain⟨p,rfl,h⟩:=id hP
  refine⟨_,rfl,p,_,_,_,rfl,rfl,SqT.of h,rfl,rfl,_,rfl,ite2 (fun c=>absurd (of_decide_eq_true c) (by decide +kernel)) (fun _=>?_)⟩
  exact⟨_,rfl,_,rfl,(by show 2≤sizeLine;decide),fun p' fp=>⟨(by show 1≤sizeLine;decide),fun l fl=>last (some m) _ p' l hP rfl fp fl⟩⟩
 | again =>
  obtain⟨p,rfl,h⟩:=id hP
  refine⟨_,rfl,p,_,_,_,rfl,rfl,h.sq,rfl,rfl,_,rfl,ite2 (fun c=>absurd (of_decide_eq_true c) (by decide +kernel)) (fun _=>?_)⟩
  exact⟨_,rfl,_,rfl,(by show 2≤sizeLine;decide),fun p' fp=>⟨(by show 1≤sizeLine;decide),fun l fl=>last none _ p' l hP rfl fp fl⟩⟩
 | ask pl1 pl2 =>
  clear last leaf
  obtain⟨p,y,z,rfl,h,h1,h2⟩:=id hP
  have hd':max pl1.dp pl2.dp+1≤n:=hd
  obtain⟨m,rfl⟩:∃m,n=m+1:=⟨n-1,by omega⟩
  refine⟨_,rfl,p,_,_,_,rfl,rfl,SqT.of h,rfl,rfl,_,rfl,ite2 (fun _=>?_) (fun c=>absurd (by decide +kernel) c)⟩
  refine⟨_,rfl,p,_,_,_,rfl,rfl,SqT.of h,rfl,_,rfl,_,_,rfl,rfl,hg m _ _ _ _ rfl ⟨y,pl1,d+1,rfl,h1,by omega,by omega,fun l1 as1 H1 n1 s1 w1 e1=>?_⟩⟩
  refine⟨_,rfl,p,_,_,_,rfl,rfl,SqT.of (s1 _ _ h),rfl,_,rfl,_,_,rfl,rfl,hg m _ _ _ _ rfl ⟨z,pl2,d+1,rfl,h2.same s1,by omega,by omega,fun l2 as2 H2 n2 s2 w2 e2=>?_⟩⟩
  have e1':=e1.same s2
  have b1:=ends_len pl1 (d+1)
  have b2:=ends_len pl2 (d+1)
  have c1:2 ^ pl1.dp≤4096:=Nat.le_trans (Nat.pow_le_pow_right (n:=2) (by decide) (show pl1.dp≤12 by omega)) (by decide)
  have c2:2 ^ pl2.dp≤4096:=Nat.le_trans (Nat.pow_le_pow_right (n:=2) (by decide) (show pl2.dp≤12 by omega)) (by decide)
  refine⟨l1,l2,_,_,rfl,rfl,s2 _ _ w1,w2,small (by rw[List.length_map,List.length_map,e1.1,e2.1];omega),fun l3 f3=>?_⟩
  have y3:=same_new f3 (.lst (as1.map V.ref++as2.map V.ref))
  have n3:H l3=none:=by
   cases e:H l3 with
   | none=>rfl
   | some o=>have:=s2 _ _ (s1 _ _ e);rw[f3]at this;cases this
  refine q l3 (as1++as2) _ n3 ((s1.trans s2).trans y3) (by rw[upd_same,List.map_append]) ((e1'.app e2).same y3)
theorem ends_all (F:Fun K "ends_of" "ends_of" s_Y28 f fd)(mo:∀{k:Nat}{sp:Sp},FnOk P w K mg base CX0 k f fd p_Y28 sp→Fn P w K mg base "ends_of" p_Y28 k sp):∀n:Nat,FnOk P w K mg base CX0 (n+1) f fd p_Y28 (spEnds K n)
 | 0=>ok_Y28 (lv:=0) (n:=0) F (mo (ok__law_same0 (sp:=fun _ _ _ _=>False) (fun _ _ _ _ h=>h))) (fun m vs H Q E e=>by cases e)
 | n+1=>ok_Y28 (lv:=n+1) (n:=n+1) F (mo (ends_all F mo n)) (fun m vs H Q E e h=>by cases e;exact h)
theorem ok_Y4 (F_Y4:Fun K "numbered_ends" "numbered_ends" s_Y4 f fd)(B:Bl mg)(C':Cn K mg)(X_E2:Exc K mg "NoShares" CS mS)(g_Y28:Fn P w K mg base "ends_of" p_Y28 13 (spEnds K 12)):FnOk P w K mg base (CXR P w) 14 f fd p_Y4 (spNE2 K CS):=by
 refine F_Y4.okX sc_Y4 (fun vs H Q E h=>?_) (fun cdv A outer s H vs Q E hr h=>?_)
 ·obtain⟨v,pl,rfl,_⟩:=h
  rfl
 obtain⟨v,pl,rfl,hP,hd,q,e⟩:=h
 obtain⟨A_AGAIN,C_AGAIN,hAg⟩:=C'.AGAIN
 refine⟨_,(pss_cons (ps_comp 1 [] ["plan","ends","depth","end"] 2 rfl sc_Y4.nd rfl rfl (pi_list (pe_fn g_Y28 hr (pa_cons (pv 0) (pa_cons pe_int pa_nil)))) (fun _ _ _ _ _=>(pg_tupK K 2 rfl (pgs_cons (pg_name (i:=2) nd_5 rfl (Or.inl rfl) (Or.inr rfl)) (pgs_cons (pg_name (i:=3) nd_5 rfl (Or.inl rfl) (Or.inr rfl)) pgs_nil)) rfl rfl rfl)) (fun _ _ _ _ _=>(pif_one (pt_cmpR (op_neTAK K rfl hr.units) (pv 3) (pe_glob (v:=.ref A_AGAIN) rfl C_AGAIN rfl) (nomark _)))) (fun _ _ _ _ _=>(pe_tup (pa_cons (pv 2) (pa_cons (pe_ix (ix_tupK K rfl) (pv 3) pe_int (fun _ _=>rfl)) pa_nil)))))
   (pss_cons (ps_if (pt_cmpR op_eq (pe_callB call_len_seq rfl B.len_ L3.bt_len (pa_cons (pv 1) pa_nil)) pe_int (nomark _)) (pss_one (ps_raise X_E2 (pa_cons pe_str pa_nil))) pss_nil)
   (pss_one (ps_ret (pv 1))))),?_⟩
 refine⟨_,rfl,v,pl,0,rfl,hP,hd,by decide,fun l as H1 nl s1 w1 e1=>?_⟩
 have b1:=ends_len pl 0
 have c1:2 ^ pl.dp≤4096:=Nat.le_trans (Nat.pow_le_pow_right (n:=2) (by decide) hd) (by decide)
 refine⟨l,rfl,⟨_,SqL.of w1⟩,comp_list (xs:=as.map V.ref) (fun j acc σ' H'=>∃(bs:List Addr)(o2 o3:Option V),acc=bs.map V.ref∧bs.length≤j∧NumL H' bs (nums ((ends pl 0).take j))∧Same H1 H'∧σ'=[some v,none,o2,o3]) ⟨[],_,_,rfl,Nat.le_refl _,⟨rfl,fun j a e h=>by simp at h⟩,Same.refl _,rfl⟩
  (fun j acc σ' H' hj ⟨bs,_,_,e',hb,_⟩=>by
   rw[e',List.length_map]
   rw[List.length_map,e1.1]at hj
   omega) (fun j acc σ' H' _ ⟨_,_,_,_,_,_,y,_⟩=>SqL.of (y _ _ w1)) ?_ ?_⟩
 ·rintro j x acc σ' H' hx ⟨bs,o2,o3,rfl,hb,hN,y,rfl⟩
  obtain⟨a,hja⟩:∃a,as[j]?=some a:=by
   rw[List.getElem?_map]at hx
   cases e:as[j]? with
   | none=>rw[e]at hx;cases hx
   | some r=>exact⟨r,rfl⟩
  rw[List.getElem?_map,hja]at hx
  cases hx
  have hj:j<(ends pl 0).length:=by rw[←e1.1];exact(List.getElem?_eq_some_iff.mp hja).1
  obtain⟨en,hen⟩:∃en,(ends pl 0)[j]?=some en:=⟨_,List.getElem?_eq_getElem hj⟩
  obtain⟨lv,ha,hleaf⟩:=e1.2 j a en hja hen
  have ha':=y _ _ ha
  have hnext:nums ((ends pl 0).take (j+1))=nums ((ends pl 0).take j)++nums [en]:=by
   rw[List.take_add_one,hen]
   exact List.filterMap_append
  refine⟨a,_,rfl,SqT.of ha',rfl,_,_,rfl,_,_,rfl,rfl,?_⟩
  unfold LeafV at hleaf
  obtain⟨eo,ed⟩:=en
  cases eo with
  | none =>
   obtain⟨p,rfl,hp⟩:=hleaf
   refine⟨_,rfl,p,A_AGAIN,_,_,_,rfl,rfl,AgAt.sq (K:=K) (H:=H') (p:=p) (hp.imp (y _ _) id),hAg _,_,rfl,ite2 (fun c=>absurd c (by decide +kernel)) (fun _=>⟨bs,_,_,rfl,by omega,?_,y,rfl⟩)⟩
   rw[hnext]
   show NumL H' bs (_++[])
   rw[List.append_nil]
   exact hN
  | some n =>
   obtain⟨p,rfl,hp⟩:=hleaf
   refine⟨_,rfl,p,A_AGAIN,_,_,_,rfl,rfl,SqT.of (y _ _ hp),hAg _,_,rfl,ite2 (fun _=>?_) (fun c=>absurd (by show(!(decide (("is" : Str) = "again")&&false))=true;rw[Bool.and_false];rfl) c)⟩
   refine⟨_,rfl,_,rfl,p,_,_,_,rfl,rfl,SqT.of (y _ _ hp),rfl,(by show 2≤sizeLine;decide),fun p2 fp2=>?_⟩
   refine⟨bs++[p2],_,_,by rw[List.map_append];rfl,by rw[List.length_append];show bs.length+1≤_;omega,?_,y.trans (same_new fp2 _),rfl⟩
   rw[hnext]
   exact(hN.same (same_new fp2 _)).snoc upd_same
 rintro acc σ' H2 D ⟨bs,o2,o3,rfl,hb,hN,y,rfl⟩ fD
 rw[List.length_map,e1.1,List.take_length]at hN
 have hany:=nums_has (ends pl 0)
 rw[has_ends,←hN.1]at hany
 have yD:=same_new fD (.lst (bs.map V.ref))
 have s12:=(s1.trans y).trans yD
 refine⟨_,rfl,D,_,rfl,.inl (SqL.of upd_same),rfl,_,rfl,ite2 (fun c=>?_) (fun c=>?_)⟩
 ·have c':=of_decide_eq_true c
  rw[List.length_map]at c'
  injection c' with c'
  have:pl.has=false:=by rw[←hany];exact decide_eq_false (by omega)
  exact⟨(by show 1≤sizeLine;decide),e this _ s12⟩
 ·have c':¬bs.length=0:=fun z=>c (decide_eq_true (by rw[List.length_map,z];rfl))
  have:pl.has=true:=by rw[←hany];exact decide_eq_true (by omega)
  exact⟨_,rfl,q this D bs _ s12 upd_same (hN.same yD)⟩
theorem ne_imp:∀vs H Q E,spNE K CS vs H Q E→spNE2 K CS vs H Q E:=by
 rintro vs H Q E ⟨v,pl,e,hP,hd,q,q2⟩
 exact⟨v,pl,e,hP,hd,fun h l as H' s _ _=>q h _ H' s,q2⟩
theorem ok_Y5 (F_Y5:Fun K "take_by_plan" "take_by_plan" s_Y5 f fd)(C':Cn K mg)(T:Txt K mg C fI fT fU fL fG dI dT dU dL dG)(g_take:FnOk P w K mg base (CXR P w) 2 fT dT p_Y14 (spTakeB C CN)):FnOk P w K mg base (CXR P w) 3 f fd p_Y5 (spRawP K C CN wkV):=by
 refine F_Y5.okX sc_Y5 (fun vs H Q E h=>?_) (fun cdv A outer s H vs Q E hr h=>?_)
 ·obtain⟨b,dx,r,bl,z,x,a,rfl,_⟩:=h
  rfl
 obtain⟨b,dx,r,bl,z,x,pl,rfl,hA,hbit,⟨hP,hhas⟩,q,e⟩:=h
 obtain⟨A_AGAIN,C_AGAIN,hAg⟩:=C'.AGAIN
 refine⟨_,(pss_cons (ps_set (i:=2) sc_Y5.nd rfl (Or.inl rfl) (pv 1))
   (pss_cons (ps_while (PassesOwn.leaving (M:=model P w)) (pt_cmpR op_ne (pe_ix ix_tup (pv 2) pe_int (fun _ _=>rfl)) pe_str (nomark _)) (pss_one (ps_joinN (ps_if (pt_cmpR (op_eqTA hr.units) (pv 2) (pe_glob (v:=.ref A_AGAIN) rfl C_AGAIN rfl) (nomark _)) (pss_one (ps_set (i:=2) sc_Y5.nd rfl (Or.inl rfl) (pv 1))) (pss_one (ps_set (i:=2) sc_Y5.nd rfl (Or.inl rfl) (pe_ix ix_tup (pv 2) (pe_op op_add pe_int (pe_meth0 (pv 0) T.cl T.m_take g_take (hr.mono (by first|decide|omega)) T.b_take .nil cx_pass)) (fun _ _=>rfl))))))))
   (pss_one (ps_ret (pe_ix ix_tup (pv 2) pe_int (fun _ _=>rfl)))))),?_⟩
 have hroot:=has_root hhas
 refine⟨_,rfl,?_⟩
 refine⟨fun m σ' H'=>∃(cur:Pn)(cv:V)(u:Nat),m=2*(bl.length-(z+u))+ag cur∧σ'=[some (.ref b),some x,some cv]∧Grow b H H'∧At C H' b dx r bl (z+u)∧PnAt K H' pl x∧PnAt K H' cur cv∧wk pl pl (bl.drop z)=(wk pl cur (bl.drop (z+u))).map (fun y=>(y.1,y.2+u)),⟨_,pl,x,0,rfl,rfl,Grow.refl _ _,hA,hP,hP,?_⟩,?_⟩
 ·rw[Nat.add_zero]
  cases wk pl pl (bl.drop z)<;>rfl
 rintro m σ' H1 ⟨cur,cv,u,rfl,rfl,g1,a1,hP1,hC1,hw⟩
 cases cur with
 | num n =>
  obtain⟨p,rfl,hp⟩:=id hC1
  refine⟨_,rfl,p,_,_,_,rfl,rfl,SqT.of hp,rfl,rfl,_,rfl,ite2 (fun c=>absurd c (by decide +kernel)) (fun _=>?_)⟩
  refine⟨_,rfl,p,_,_,_,rfl,rfl,SqT.of hp,rfl,q _ u H1 ?_ g1 a1⟩
  unfold wkV
  rw[hw]
  cases bl.drop (z+u)<;>(show some (V.int (n:Int),0+u)=_;rw[Nat.zero_add])
 | again =>
  obtain⟨p,rfl,hp⟩:=id hC1
  refine⟨_,rfl,p,_,_,_,rfl,rfl,hp.sq,rfl,rfl,_,rfl,ite2 (fun _=>?_) (fun c=>absurd (by decide +kernel) c)⟩
  refine⟨_,fun _ _ z=>z,_,fun _ _ z=>z,_,rfl,p,A_AGAIN,_,_,_,rfl,rfl,hp.sq,hAg _,_,rfl,ite2 (fun _=>?_) (fun c=>absurd (by decide +kernel) c)⟩
  refine⟨_,rfl,_,?_,pl,x,u,rfl,rfl,g1,a1,hP1,hP1,?_⟩
  ·have:ag pl=0:=by cases pl<;>first|rfl|exact absurd rfl hroot
   rw[this]
   exact Nat.lt_succ_self _
  ·rw[hw]
   have:wk pl .again (bl.drop (z+u))=wk pl pl (bl.drop (z+u)):=by
    have st:stl pl pl=pl:=by cases pl<;>first|rfl|exact absurd rfl hroot
    cases bl.drop (z+u)with
    | nil=>rw[wk,wk,st];rfl
    | cons _ _=>rw[wk,wk,st];rfl
   rw[this]
 | ask l r' =>
  obtain⟨p,y1,y2,rfl,hp,h1,h2⟩:=id hC1
  refine⟨_,rfl,p,_,_,_,rfl,rfl,SqT.of hp,rfl,rfl,_,rfl,ite2 (fun _=>?_) (fun c=>absurd (by decide +kernel) c)⟩
  refine⟨_,fun _ _ z=>z,_,fun _ _ z=>z,_,rfl,p,A_AGAIN,_,_,_,rfl,rfl,SqT.of hp,hAg _,_,rfl,ite2 (fun c=>absurd c (by show ¬(decide (("ask" : Str) = "again")&&false)=true;rw[Bool.and_false];decide)) (fun _=>?_)⟩
  refine⟨_,rfl,_,rfl,b,dx,_,rfl,a1.obj,flds_no _ _ (by decide +kernel) (by decide +kernel),b,dx,r,bl,z+u,rfl,a1,fun x' H3 hx g3 a3=>?_,fun hz=>?_⟩
  ·have hx1:=hbit x' (List.mem_of_getElem? hx)
   have hx2:x'=0∨x'=1:=by omega
   have hp3:=g3 _ _ (fun e'=>by rw[e',a1.obj]at hp;cases hp) hp
   have l3:=a3.le
   have hd:bl.drop (z+u)=x'::bl.drop (z+(u+1)):=by
    obtain⟨hi,e'⟩:=List.getElem?_eq_some_iff.mp hx
    rw[List.drop_eq_getElem_cons hi,e']
    rfl
   rw[hd]at hw
   rcases hx2 with rfl|rfl
   ·refine⟨_,_,rfl,rfl,p,_,_,y1,rfl,rfl,SqT.of hp3,rfl,_,?_,l,y1,u+1,rfl,rfl,g1.trans g3,a3,hP1.growB a1 g3,h1.growB a1 g3,?_⟩
    ·have:=ag_le l
     show 2*(bl.length-(z+(u+1)))+ag l<2*(bl.length-(z+u))+0
     omega
    ·rw[hw,wk]
     show((wk pl (if 0=0 then l else r') (bl.drop (z+(u+1)))).map _).map _=_
     rw[if_pos rfl,Option.map_map]
     congr 1
     funext y
     show(y.1,y.2+1+u)=(y.1,y.2+(u+1))
     rw[Nat.add_assoc,Nat.add_comm 1 u]
   ·refine⟨_,_,rfl,rfl,p,_,_,y2,rfl,rfl,SqT.of hp3,rfl,_,?_,r',y2,u+1,rfl,rfl,g1.trans g3,a3,hP1.growB a1 g3,h2.growB a1 g3,?_⟩
    ·have:=ag_le r'
     show 2*(bl.length-(z+(u+1)))+ag r'<2*(bl.length-(z+u))+0
     omega
    ·rw[hw,wk]
     show((wk pl (if 1=0 then l else r') (bl.drop (z+(u+1)))).map _).map _=_
     rw[if_neg (by decide),Option.map_map]
     congr 1
     funext y
     show(y.1,y.2+1+u)=(y.1,y.2+(u+1))
     rw[Nat.add_assoc,Nat.add_comm 1 u]
  ·refine e (z+u) H1 ?_ (by omega) g1 a1
   unfold wkV
   rw[hw,List.drop_eq_nil_of_le (by omega)]
   rfl
theorem ok_Y26 (F_Y26:Fun K "by_plan" "by_plan" s_Y26 f fd){fN fD fR:Addr}{dN dD dR:FuncData}(g_Y4:FnX P w K mg base "numbered_ends" fN dN p_Y4 14 (spNE K CS))(g_Y8:FnX P w K mg base "drawn_whole" fD dD p_Y8 5 (spDW P w K mg base 4 C CN))(g_Y5:FnX P w K mg base "take_by_plan" fR dR p_Y5 3 (spRawP K C CN wkV)) :
  FnOk P w K mg base (CXR P w) 15 f fd p_Y26 (spByP K C CN CS wkV):=by
 refine F_Y26.okX sc_Y26 (fun vs H Q E h=>?_) (fun cdv A outer s H vs Q E hr h=>?_)
 ·obtain⟨b,dx,r,bl,z,x,a,rfl,_⟩:=h
  rfl
 obtain⟨b,dx,r,bl,z,x,pl,rfl,hA,hbit,hP,hd,q,e,e2⟩:=h
 refine⟨_,(pss_cons (ps_expr (pe_fnX g_Y4 hr (pa_cons (pv 1) pa_nil)))
   (pss_one (ps_ret (pe_fnX g_Y8 hr (pa_cons (pv 0) (pa_cons (pe_glob (v:=.ref _) rfl g_Y5.mg rfl) (pa_cons (pv 1) pa_nil))))))),?_⟩
 refine⟨_,rfl,x,pl,rfl,hP,hd,fun hh v1 H1 s1=>?_,fun hh H1 s1=>e2 H1 hh s1⟩
 have hA1:=hA.same s1
 have g1:Grow b H H1:=.same s1
 refine⟨_,rfl,_,rfl,b,dx,r,fR,bl,z,x,dR,_,3,_,rfl,g_Y5.ok,by decide,g_Y5.kp,g_Y5.bd,hA1,fun Ex hE=>⟨b,dx,r,bl,z,x,pl,rfl,hA1,hbit,⟨hP.same s1,hh⟩,fun v u H' h1 g' a'=>q v u H' hh h1 (g1.trans g') a',fun z' H2 n1 l1 g2 a2=>hE z' H2 l1 a2 fun H3 g3 a3=>e H3 hh n1 (g1.trans (g2.trans g3)) a3⟩⟩
end
def spDeep (K:PySem.W.Frag):Sp:=fun vs H Q _=>∃(v:V)(pl:Pn),vs=[v]∧PnAt K H pl v∧pl.dp≤12∧∀H',Same H H'→Q (.int (pl.dp:Int)) H'
def spRowsTo:Sp:=fun vs H Q _=>∃(d D:Nat),vs=[.int (d:Int),.int (D:Int)]∧d≤D∧D≤12∧Q (.int ((2 ^ (D-d):Nat):Int)) H
section
variable {P:Program}{w:World}{K:PySem.W.Frag}{mg:Str→Option Value}{base:Heap}{f:Addr}{fd:FuncData}
theorem ok_Y31 (F_Y31:Fun K "rows_to" "rows_to" s_Y31 f fd):FnOk P w K mg base CX0 1 f fd p_Y31 spRowsTo:=by
 refine F_Y31.ok sc_Y31 (fun vs H Q E h=>?_) (fun cdv A outer s H vs Q E hr h=>?_)
 ·obtain⟨d,D,rfl,_⟩:=h
  rfl
 obtain⟨d,D,rfl,hd,hD,q⟩:=h
 refine⟨_,(pss_one (ps_ret (pe_op op_shl pe_int (pe_op op_sub (pv 1) (pv 0))))),?_⟩
 refine⟨_,rfl,_,rfl,_,_,rfl,rfl,_,_,rfl,rfl,⟨by omega,by omega,by decide⟩,?_⟩
 show Q (V.int (1*2 ^ ((D:Int)-(d:Int)).toNat)) H
 rw[show((D:Int)-(d:Int)).toNat=D-d by omega,Int.one_mul]
 rw[Int.natCast_pow]at q
 exact q
theorem ok_Y33 (F_Y33:Fun K "deep" "deep" s_Y33 f fd)(B:Bl mg)(g_Y28:Fn P w K mg base "ends_of" p_Y28 13 (spEnds K 12)):FnOk P w K mg base CX0 14 f fd p_Y33 (spDeep K):=by
 refine F_Y33.ok sc_Y33 (fun vs H Q E h=>?_) (fun cdv A outer s H vs Q E hr h=>?_)
 ·obtain⟨v,pl,rfl,_⟩:=h
  rfl
 obtain⟨v,pl,rfl,hP,hd,q⟩:=h
 refine⟨_,(pss_one (ps_ret (pe_callB (call_maxL rfl) rfl B.max_ L3.bt_max (pa_cons (pe_comp [] ["plan","depth","end"] 2 rfl (pi_list (pe_fn g_Y28 hr (pa_cons (pv 0) (pa_cons pe_int pa_nil)))) (fun _ _ _ _ _=>(pg_tupK K 2 rfl (pgs_cons (pg_name (i:=1) nd_6 rfl (Or.inl rfl) (Or.inr rfl)) (pgs_cons (pg_name (i:=2) nd_6 rfl (Or.inl rfl) (Or.inr rfl)) pgs_nil)) rfl rfl rfl)) (fun _ _ _ _ _=>pif_nil) (fun _ _ _ _ _=>(pv 1))) pa_nil)))),?_⟩
 refine⟨_,rfl,v,pl,0,rfl,hP,hd,by decide,fun l as H1 nl s1 w1 e1=>?_⟩
 have b1:=ends_len pl 0
 have c1:2 ^ pl.dp≤4096:=Nat.le_trans (Nat.pow_le_pow_right (n:=2) (by decide) hd) (by decide)
 refine⟨l,rfl,⟨_,SqL.of w1⟩,comp_list (xs:=as.map V.ref) (fun j acc σ' H'=>∃(o2 o3:Option V),acc=((((ends pl 0).take j).map fun e=>(e.2:Int))).map V.int∧H'=H1∧σ'=[some v,o2,o3]) ⟨_,_,rfl,rfl,rfl⟩
  (fun j acc σ' H' hj ⟨_,_,e',_⟩=>by
   rw[e',List.length_map,List.length_map,List.length_take]
   omega) (fun j acc σ' H' _ ⟨_,_,_,y,_⟩=>SqL.of (by rw[y];exact w1)) ?_ ?_⟩
 ·rintro j x acc σ' H' hx ⟨o2,o3,rfl,rfl,rfl⟩
  obtain⟨a,hja⟩:∃a,as[j]?=some a:=by
   rw[List.getElem?_map]at hx
   cases e:as[j]? with
   | none=>rw[e]at hx;cases hx
   | some r=>exact⟨r,rfl⟩
  rw[List.getElem?_map,hja]at hx
  cases hx
  have hj:j<(ends pl 0).length:=by rw[←e1.1];exact(List.getElem?_eq_some_iff.mp hja).1
  obtain⟨en,hen⟩:∃en,(ends pl 0)[j]?=some en:=⟨_,List.getElem?_eq_getElem hj⟩
  obtain⟨lv,ha,hleaf⟩:=e1.2 j a en hja hen
  refine⟨a,_,rfl,SqT.of ha,rfl,_,_,rfl,_,_,rfl,rfl,_,rfl,_,_,?_,rfl,rfl⟩
  rw[List.take_add_one,hen,List.map_append,List.map_append]
  rfl
 rintro acc σ' H2 D ⟨o2,o3,rfl,rfl,rfl⟩ fD
 rw[List.length_map,e1.1,List.take_length]
 have yD:=same_new fD (.lst (((ends pl 0).map fun e=>(e.2:Int)).map V.int))
 refine⟨D,_,rfl,SqL.of upd_same,?_,fun M hM hle=>?_⟩
 ·obtain⟨e,he,_⟩:=dp_at pl 0
  rw[List.length_map]
  exact List.length_pos_of_mem he
 ·have:M=(pl.dp:Int):=by
   obtain⟨e,he,hd⟩:=dp_at pl 0
   have h1:=hle _ (List.mem_map.mpr ⟨e,he,rfl⟩)
   obtain⟨e',he',rfl⟩:=List.mem_map.mp hM
   have:=ends_deep pl 0 e' he'
   omega
  rw[this]
  exact q _ (s1.trans yD)
end
noncomputable def bump:List (Nat×Nat)→Nat→Nat→List (Nat×Nat)
 | [],n,c=>[(n,c)]
 |(m,d)::l,n,c=>if m=n then (m,d+c)::l else (m,d)::bump l n c
noncomputable def getc:List (Nat×Nat)→Nat→Nat
 | [],_=>0
 |(m,d)::l,n=>if m=n then d else getc l n
noncomputable def toK (cs:List (Nat×Nat)):List (Key×V):=cs.map fun e=>(.inl (e.1:Int),.int (e.2:Int))
theorem bump_sum:∀(cs:List (Nat×Nat))(n c:Nat),((bump cs n c).map (·.2)).sum=(cs.map (·.2)).sum+c
 | [],n,c=>by show c+0=0+c;omega
 |(m,d)::l,n,c=>by
  rw[bump]
  split
  ·rw[List.map_cons,List.sum_cons,List.map_cons,List.sum_cons];dsimp only;omega
  ·rw[List.map_cons,List.sum_cons,List.map_cons,List.sum_cons,bump_sum l n c];omega
theorem bump_keys:∀(cs:List (Nat×Nat))(n c x:Nat),x∈(bump cs n c).map (·.1)↔x=n∨x∈cs.map (·.1)
 | [],n,c,x=>by simp[bump]
 |(m,d)::l,n,c,x=>by
  rw[bump]
  by_cases h:m=n
  ·rw[if_pos h];subst h;simp
  ·rw[if_neg h,List.map_cons,List.mem_cons,bump_keys l n c x,List.map_cons,List.mem_cons]
   constructor
   ·rintro (h|h|h)
    ·exact .inr (.inl h)
    ·exact .inl h
    ·exact .inr (.inr h)
   ·rintro (h|h|h)
    ·exact .inr (.inl h)
    ·exact .inl h
    ·exact .inr (.inr h)
theorem bump_nodup:∀(cs:List (Nat×Nat))(n c:Nat),(cs.map (·.1)).Nodup→((bump cs n c).map (·.1)).Nodup
 | [],n,c,_=>by simp[bump]
 |(m,d)::l,n,c,h=>by
  rw[List.map_cons,List.nodup_cons]at h
  rw[bump]
  by_cases e:m=n
  ·rw[if_pos e,List.map_cons,List.nodup_cons];exact h
  ·rw[if_neg e,List.map_cons,List.nodup_cons]
   refine⟨fun z=>?_,bump_nodup l n c h.2⟩
   rcases(bump_keys l n c m).mp z with y|y
   ·exact e y
   ·exact h.1 y
theorem getc_bump:∀(cs:List (Nat×Nat))(n c x:Nat),getc (bump cs n c) x=getc cs x+if x=n then c else 0
 | [],n,c,x=>by
  show(if n=x then c else 0)=0+_
  by_cases h:n=x
  ·rw[if_pos h,if_pos h.symm];omega
  ·rw[if_neg h,if_neg (Ne.symm h)]
 |(m,d)::l,n,c,x=>by
  rw[bump]
  by_cases e:m=n
  ·rw[if_pos e,getc,getc]
   by_cases h:m=x
   ·rw[if_pos h,if_pos h,if_pos (by omega)]
   ·rw[if_neg h,if_neg h,if_neg (by omega)];rfl
  ·rw[if_neg e,getc,getc]
   by_cases h:m=x
   ·rw[if_pos h,if_pos h,if_neg (by omega)];rfl
   ·rw[if_neg h,if_neg h,getc_bump l n c x]
theorem toK_any:∀(cs:List (Nat×Nat))(n:Nat),((toK cs).any fun kv=>decide (kv.1=(Sum.inl (n:Int):Key)))=decide (n∈cs.map (·.1))
 | [],n=>rfl
 |(m,d)::l,n=>by
  have ih:=toK_any l n
  unfold toK at ih ⊢
  rw[List.map_cons,List.any_cons,ih]
  by_cases h:m=n
  ·subst h;simp
  ·have:¬((Sum.inl (m:Int):Key)=Sum.inl (n:Int)):=fun z=>h (by injection z with z;omega)
   simp only[decide_eq_false this,Bool.false_or]
   rw[decide_eq_decide,List.map_cons,List.mem_cons]
   exact⟨fun z=>.inr z,fun z=>z.resolve_left (Ne.symm h)⟩
theorem toK_same:∀(cs:List (Nat×Nat))(n:Nat)(v:V),n∉cs.map (·.1)→(toK cs).map (fun kv=>if kv.1=(Sum.inl (n:Int):Key)then (kv.1,v)else kv)=toK cs
 | [],n,v,_=>rfl
 |(m,d)::l,n,v,h=>by
  rw[List.map_cons,List.mem_cons,not_or]at h
  have ih:=toK_same l n v h.2
  unfold toK at ih ⊢
  have:¬((Sum.inl (m:Int):Key)=Sum.inl (n:Int)):=fun z=>h.1 (by injection z with z;omega)
  rw[List.map_cons,List.map_cons,ih,if_neg this]
theorem toK_map:∀(cs:List (Nat×Nat))(n c:Nat),(cs.map (·.1)).Nodup→n∈cs.map (·.1)→(toK cs).map (fun kv=>if kv.1=(Sum.inl (n:Int):Key)then (kv.1,V.int ((getc cs n+c:Nat):Int))else kv)=toK (bump cs n c)
 | [],n,c,_,h=>by cases h
 |(m,d)::l,n,c,nd,h=>by
  rw[List.map_cons,List.nodup_cons]at nd
  by_cases e:m=n
  ·subst e
   have:=toK_same l m (V.int ((getc ((m,d)::l) m+c:Nat):Int)) nd.1
   have e2:getc ((m,d)::l) m=d:=if_pos rfl
   rw[bump,if_pos rfl]
   show(if (Sum.inl (m:Int):Key)=Sum.inl (m:Int)then _ else _)::(toK l).map _=_::toK l
   rw[if_pos rfl,this,e2]
  ·have h':n∈l.map (·.1):=by
    rw[List.map_cons,List.mem_cons]at h
    exact h.resolve_left (Ne.symm e)
   have ih:=toK_map l n c nd.2 h'
   have e2:getc ((m,d)::l) n=getc l n:=if_neg e
   have:¬((Sum.inl (m:Int):Key)=Sum.inl (n:Int)):=fun z=>e (by injection z with z;omega)
   rw[bump,if_neg e,e2]
   show(if (Sum.inl (m:Int):Key)=Sum.inl (n:Int)then _ else _)::(toK l).map _=_::toK (bump l n c)
   rw[if_neg this,ih]
theorem bump_new:∀(cs:List (Nat×Nat))(n c:Nat),n∉cs.map (·.1)→bump cs n c=cs++[(n,c)]∧getc cs n=0
 | [],n,c,_=>⟨rfl,rfl⟩
 |(m,d)::l,n,c,h=>by
  rw[List.map_cons,List.mem_cons,not_or]at h
  obtain⟨h1,h2⟩:=bump_new l n c h.2
  rw[bump,if_neg (Ne.symm h.1),h1,getc,if_neg (Ne.symm h.1)]
  exact⟨rfl,h2⟩
theorem toK_put {cs:List (Nat×Nat)}{n c:Nat}(nd:(cs.map (·.1)).Nodup):putK (toK cs) (Sum.inl (n:Int):Key) (V.int ((getc cs n+c:Nat):Int))=toK (bump cs n c):=by
 unfold putK
 rw[toK_any]
 by_cases h:n∈cs.map (·.1)
 ·rw[if_pos (decide_eq_true h),toK_map cs n c nd h]
 ·rw[if_neg (by rw[decide_eq_false h];decide)]
  obtain⟨h1,h2⟩:=bump_new cs n c h
  rw[h1,h2,Nat.zero_add]
  unfold toK
  rw[List.map_append]
  rfl
theorem toK_get:∀(cs:List (Nat×Nat))(n:Nat),valV (toK cs) (Sum.inl (n:Int):Key)=if n∈cs.map (·.1)then some (V.int (getc cs n:Int))else none
 | [],n=>rfl
 |(m,d)::l,n=>by
  have ih:=toK_get l n
  unfold toK at ih ⊢
  by_cases e:m=n
  ·subst e
   rw[List.map_cons,valV_pos rfl,if_pos (by simp),getc,if_pos rfl]
  ·have:¬((Sum.inl (m:Int):Key)=Sum.inl (n:Int)):=fun z=>e (by injection z with z;omega)
   rw[List.map_cons,valV_neg this,ih,getc,if_neg e]
   by_cases h:n∈l.map (·.1)
   ·rw[if_pos h,if_pos (by rw[List.map_cons,List.mem_cons];exact .inr h)]
   ·rw[if_neg h,if_neg (by rw[List.map_cons,List.mem_cons];rintro (z|z);exact e z.symm;exact h z)]
theorem toK_getD (cs:List (Nat×Nat))(n:Nat):(valV (toK cs) (Sum.inl (n:Int):Key)).getD (.int 0)=V.int (getc cs n:Int):=by
 rw[toK_get]
 by_cases h:n∈cs.map (·.1)
 ·rw[if_pos h];rfl
 ·rw[if_neg h,(bump_new cs n 0 h).2];rfl
noncomputable def cts (nd:List (Nat×Nat))(D:Nat):List (Nat×Nat):=nd.foldl (fun cs e=>bump cs e.1 (2 ^ (D-e.2))) []
theorem cts_snoc (nd:List (Nat×Nat))(e:Nat×Nat)(D:Nat):cts (nd++[e]) D=bump (cts nd D) e.1 (2 ^ (D-e.2)):=by
 unfold cts
 rw[List.foldl_append]
 rfl
theorem fold_nodup (D:Nat):∀(nd cs:List (Nat×Nat)),(cs.map (·.1)).Nodup→((nd.foldl (fun cs e=>bump cs e.1 (2 ^ (D-e.2))) cs).map (·.1)).Nodup
 | [],cs,h=>h
 | e::l,cs,h=>fold_nodup D l _ (bump_nodup cs e.1 _ h)
theorem cts_nodup (nd:List (Nat×Nat))(D:Nat):((cts nd D).map (·.1)).Nodup:=fold_nodup D nd [] List.nodup_nil
theorem fold_keys (D x:Nat):∀(nd cs:List (Nat×Nat)),x∈(nd.foldl (fun cs e=>bump cs e.1 (2 ^ (D-e.2))) cs).map (·.1)↔x∈cs.map (·.1)∨x∈nd.map (·.1)
 | [],cs=>by simp
 | e::l,cs=>by
  rw[List.foldl_cons,fold_keys D x l,bump_keys,List.map_cons,List.mem_cons]
  constructor
  ·rintro ((h|h)|h)
   ·exact .inr (.inl h)
   ·exact .inl h
   ·exact .inr (.inr h)
  ·rintro (h|h|h)
   ·exact .inl (.inr h)
   ·exact .inl (.inl h)
   ·exact .inr h
theorem cts_keys (nd:List (Nat×Nat))(D x:Nat):x∈(cts nd D).map (·.1)↔x∈nd.map (·.1):=by
 unfold cts
 rw[fold_keys]
 simp
theorem fold_sum (D:Nat):∀(nd cs:List (Nat×Nat)),((nd.foldl (fun cs e=>bump cs e.1 (2 ^ (D-e.2))) cs).map (·.2)).sum=(cs.map (·.2)).sum+(nd.map fun e=>2 ^ (D-e.2)).sum
 | [],cs=>rfl
 | e::l,cs=>by rw[List.foldl_cons,fold_sum D l,bump_sum,List.map_cons,List.sum_cons];omega
theorem fold_get (D x:Nat):∀(nd cs:List (Nat×Nat)),getc (nd.foldl (fun cs e=>bump cs e.1 (2 ^ (D-e.2))) cs) x=getc cs x+(nd.map fun e=>if x=e.1 then 2 ^ (D-e.2)else 0).sum
 | [],cs=>rfl
 | e::l,cs=>by rw[List.foldl_cons,fold_get D x l,getc_bump,List.map_cons,List.sum_cons];omega
theorem nums_sum (D:Nat):∀es:List (Option Nat×Nat),((nums es).map fun e=>2 ^ (D-e.2)).sum=shP (·.isSome) es D
 | []=>rfl
 |(none,d)::l=>by
  have:=nums_sum D l
  unfold shP at this ⊢
  rw[List.map_cons,List.sum_cons,if_neg (by show ¬false=true;decide),Nat.zero_add]
  exact this
 |(some n,d)::l=>by
  have:=nums_sum D l
  unfold shP at this ⊢
  rw[List.map_cons,List.sum_cons,if_pos (by rfl),←this]
  rfl
theorem nums_get (D x:Nat):∀es:List (Option Nat×Nat),((nums es).map fun e=>if x=e.1 then 2 ^ (D-e.2)else 0).sum=shP (·==some x) es D
 | []=>rfl
 |(none,d)::l=>by
  have:=nums_get D x l
  unfold shP at this ⊢
  rw[List.map_cons,List.sum_cons,if_neg (by simp),Nat.zero_add]
  exact this
 |(some n,d)::l=>by
  have:=nums_get D x l
  unfold shP at this ⊢
  rw[List.map_cons,List.sum_cons,←this]
  show(if x=n then 2 ^ (D-d)else 0)+_=_
  congr 1
  by_cases h:x=n
  ·rw[if_pos h,if_pos (by simpa using h.symm)]
  ·rw[if_neg h,if_neg (by simpa using Ne.symm h)]
theorem cts_sum (es:List (Option Nat×Nat))(D:Nat):((cts (nums es) D).map (·.2)).sum=shP (·.isSome) es D:=by
 unfold cts
 rw[fold_sum,nums_sum]
 show 0+_=_
 rw[Nat.zero_add]
theorem cts_get (es:List (Option Nat×Nat))(D x:Nat):getc (cts (nums es) D) x=shP (·==some x) es D:=by
 unfold cts
 rw[fold_get,nums_get]
 show 0+_=_
 rw[Nat.zero_add]
theorem nums_mem (es:List (Option Nat×Nat))(x:Nat):x∈(nums es).map (·.1)↔∃d,(some x,d)∈es:=by
 unfold nums
 rw[List.mem_map]
 constructor
 ·rintro ⟨e,he,rfl⟩
  obtain⟨e',he',h⟩:=List.mem_filterMap.mp he
  obtain⟨o,d⟩:=e'
  cases o with
  | none=>cases h
  | some n=>cases h;exact⟨d,he'⟩
 ·rintro ⟨d,h⟩
  exact⟨(x,d),List.mem_filterMap.mpr ⟨_,h,rfl⟩,rfl⟩
theorem nodup_le {α:Type} [DecidableEq α]:∀{l m:List α},l.Nodup→(∀x∈l,x∈m)→l.length≤m.length
 | [],_,_,_=>Nat.zero_le _
 | a::l,m,nd,h=>by
  rw[List.nodup_cons]at nd
  have ha:=h a (by simp)
  have h1:∀x∈l,x∈m.erase a:=fun x hx=>(List.mem_erase_of_ne (fun e=>nd.1 (by rw[←e];exact hx))).mpr (h x (by simp[hx]))
  have h2:=nodup_le nd.2 h1
  rw[List.length_erase_of_mem ha]at h2
  have h3:=List.length_pos_of_mem ha
  rw[List.length_cons]
  omega
theorem sorted_nats {ks:List Nat}{ns:List Int}(nd:ks.Nodup)(hp:ns.Perm (ks.map fun(n:Nat)=>(n:Int)))(ho:ns.Pairwise (·≤·)):∃ms:List Nat,ns=ms.map (fun(n:Nat)=>(n:Int))∧ms.Pairwise (· < ·)∧∀n,n∈ms↔n∈ks:=by
 have hnn:∀z∈ns,0≤z:=fun z hz=>by
  obtain⟨n,_,rfl⟩:=List.mem_map.mp (hp.mem_iff.mp hz)
  omega
 have e1:ns=(ns.map Int.toNat).map (fun(n:Nat)=>(n:Int)):=by
  rw[List.map_map]
  conv=>lhs;rw[←List.map_id ns]
  refine List.map_congr_left fun z hz=>?_
  have:=hnn z hz
  show z=((z.toNat:Nat):Int)
  omega
 have hnd:ns.Nodup:=by
  rw[hp.nodup_iff]
  exact List.Pairwise.map _ (fun a b h e=>h (by omega)) nd
 have hlt:ns.Pairwise (· < ·):=by
  have:=List.Pairwise.and ho hnd
  exact this.imp fun {a b} ⟨h1,h2⟩=>by omega
 refine⟨ns.map Int.toNat,e1,?_,fun n=>?_⟩
 ·rw[e1]at hlt
  rw[List.pairwise_map]at hlt
  exact hlt.imp fun {a b} h=>by omega
 ·constructor
  ·intro h
   have:(n:Int)∈ns:=by
    rw[e1]
    exact List.mem_map.mpr ⟨n,h,rfl⟩
   obtain⟨m,hm,e⟩:=List.mem_map.mp (hp.mem_iff.mp this)
   have:m=n:=by omega
   rw[←this];exact hm
  ·intro h
   have:(n:Int)∈ns:=hp.mem_iff.mpr (List.mem_map.mpr ⟨n,h,rfl⟩)
   exact List.mem_map.mpr ⟨_,this,by omega⟩
theorem shP_le (P:Option Nat→Bool):∀(l:List (Option Nat×Nat))(D:Nat),shP P l D≤l.length*2 ^ D
 | [],D=>Nat.zero_le _
 | e::l,D=>by
  have ih:=shP_le P l D
  unfold shP at ih ⊢
  rw[List.map_cons,List.sum_cons,List.length_cons,Nat.succ_mul]
  have:2 ^ (D-e.2)≤2 ^ D:=Nat.pow_le_pow_right (by decide) (by omega)
  have h3:=Nat.two_pow_pos D
  split<;>omega
def spSh (K:PySem.W.Frag):Sp:=fun vs H Q _=>∃(v:V)(pl:Pn),vs=[v]∧PnAt K H pl v∧pl.dp≤12∧pl.has=true∧(∀(n d:Nat),(some n,d)∈ends pl 0→n<60) ∧
 ∀p (rs:List Addr)(ms:List Nat) H',Same H H'→H' p=some (.tup (rs.map V.ref))→ms.Pairwise (· < ·)→(∀(n:Nat),n∈ms↔∃d,(some n,d)∈ends pl 0)→rs.length=ms.length →
  (∀(j:Nat)(r:Addr)(n:Nat),rs[j]?=some r→ms[j]?=some n→∃fp,H' r=some (.tup [.int (n:Int),.ref fp])∧H' fp=some (.tup (frV (shP (·==some n) (ends pl 0) pl.dp) (shP (·.isSome) (ends pl 0) pl.dp))))→Q (.ref p) H'
section
variable {P:Program}{w:World}{K:PySem.W.Frag}{mg:Str→Option Value}{base:Heap}{f CS:Addr}{fd:FuncData}
theorem ok_Y16 (F_Y16:Fun K "shares_of" "shares_of" s_Y16 f fd)(B:Bl mg){fN:Addr}{dN:FuncData}(g_Y4:FnX P w K mg base "numbered_ends" fN dN p_Y4 14 (spNE2 K CS))(g_Y33:Fn P w K mg base "deep" p_Y33 14 (spDeep K))(g_Y31:Fn P w K mg base "rows_to" p_Y31 14 spRowsTo)(g_Y25:Fn P w K mg base "fraction" p_Y25 14 spFrac):FnOk P w K mg base CX0 15 f fd p_Y16 (spSh K):=by
 refine F_Y16.ok sc_Y16 (fun vs H Q E h=>?_) (fun cdv A outer s H vs Q E hr h=>?_)
 ·obtain⟨v,pl,rfl,_⟩:=h
  rfl
 obtain⟨v,pl,rfl,hP,hd,hh,h60,q⟩:=h
 refine⟨_,(pss_cons (ps_set (i:=1) sc_Y16.nd rfl (Or.inl rfl) (pe_fn g_Y33 hr (pa_cons (pv 0) pa_nil)))
   (pss_cons (ps_set (i:=2) sc_Y16.nd rfl (Or.inr rfl) pe_dnewK)
   (pss_cons (ps_for PassesOwn.never rfl (pi_list (pe_calm (px_fn g_Y4 hr (pa_cons (pv 0) pa_nil)))) (pg_tup rfl (pgs_cons (pg_name (i:=3) sc_Y16.nd rfl (Or.inl rfl)) (pgs_cons (pg_name (i:=4) sc_Y16.nd rfl (Or.inl rfl)) pgs_nil))) (pss_one (ps_dput hr.units1 (pv 2) (pv 4) (pe_op op_add (pe_dget2 hr.units1 (pv 2) (pv 4) pe_int ⟨rfl,rfl,rfl,rfl⟩) (pe_fn g_Y31 hr (pa_cons (pv 3) (pa_cons (pv 1) pa_nil)))) rfl)))
   (pss_cons (ps_set (i:=5) sc_Y16.nd rfl (Or.inr rfl) (pe_sumVals rfl rfl B.sum_ (pv 2)))
   (pss_one (ps_ret (pe_callTy call_tuple_of rfl B.tuple_ L3.bt_tuple (pa_cons (pe_comp [4] ["plan","deepest","rows","depth","number","total"] 0 rfl (pi_list (pe_callB (call_sortedD rfl) rfl B.sorted_ L3.bt_sorted (pa_cons (pv 2) pa_nil))) (fun _ _ _ _ _=>(pg_name (i:=4) nd_7 rfl (Or.inl rfl) (Or.inr rfl))) (fun _ _ _ _ _=>pif_nil) (fun _ _ _ _ _=>(pe_tup (pa_cons (pv 4) (pa_cons (pe_fn g_Y25 hr (pa_cons (pe_dget hr.units1 (pv 2) (pv 4) (fun _ _=>rfl)) (pa_cons (pv 5) pa_nil))) pa_nil))))) pa_nil)))))))),?_⟩
 refine⟨_,rfl,v,pl,rfl,hP,hd,fun H1 s1=>?_⟩
 refine fun d fd'=>?_
 have yd:=same_new fd' (.dK [])
 have wd:(upd H1 d (.dK [])) d=some (.dK []):=upd_same
 generalize upd H1 d (.dK [])=H2 at yd wd ⊢
 have s2:=s1.trans yd
 refine⟨_,rfl,v,pl,rfl,hP.same s2,hd,fun _ l as H3 s3 w3 e3=>?_,fun c=>by rw[hh]at c;cases c⟩
 have b1:=ends_len pl 0
 have c1:2 ^ pl.dp≤4096:=Nat.le_trans (Nat.pow_le_pow_right (n:=2) (by decide) hd) (by decide)
 have hdl:∀e∈nums (ends pl 0),e.2≤pl.dp:=fun e he=>by
  obtain⟨e',he',h⟩:=List.mem_filterMap.mp he
  have:=(ends_deep pl 0 e' he').2
  obtain⟨o,d⟩:=e'
  cases o with
  | none=>cases h
  | some n=>cases h;show d≤_;omega
 have fdH:∀c o,H c=some o→c≠d:=fun c o e z=>by rw[z]at e;have:=s1 _ _ e;rw[fd']at this;cases this
 have hnl:(nums (ends pl 0)).length≤4096:=Nat.le_trans (List.length_filterMap_le _ _) (by omega)
 refine⟨l,rfl,⟨_,SqL.of w3⟩,for_list (xs:=as.map V.ref) (fun j σ' H'=>∃(o3 o4:Option V),σ'=[some v,some (.int (pl.dp:Int)),some (.ref d),o3,o4,none]∧(∀c o,c≠d→H3 c=some o→H' c=some o)∧H' d=some (.dK (toK (cts ((nums (ends pl 0)).take j) pl.dp))))
  ⟨_,_,rfl,fun c o _ e=>e,s3 _ _ wd⟩ (fun j σ' H' _ ⟨_,_,_,y,_⟩=>SqL.of (y _ _ (fun z=>by rw[z,s3 _ _ wd]at w3;cases w3) w3)) ?_ ?_⟩
 ·rintro j x σ' H4 hx ⟨o3,o4,rfl,y,hD⟩
  obtain⟨a,hja⟩:∃a,as[j]?=some a:=by
   rw[List.getElem?_map]at hx
   cases e:as[j]? with
   | none=>rw[e]at hx;cases hx
   | some r=>exact⟨r,rfl⟩
  rw[List.getElem?_map,hja]at hx
  cases hx
  have hj:j<(nums (ends pl 0)).length:=by rw[←e3.1];exact(List.getElem?_eq_some_iff.mp hja).1
  obtain⟨en,hen⟩:∃en,(nums (ends pl 0))[j]?=some en:=⟨_,List.getElem?_eq_getElem hj⟩
  have ha:=e3.2 j a en hja hen
  have ha':=y a _ (fun z=>by rw[z,s3 _ _ wd]at ha;cases ha) ha
  have hle:=hdl en (List.mem_of_getElem? hen)
  have hnext:cts ((nums (ends pl 0)).take (j+1)) pl.dp=bump (cts ((nums (ends pl 0)).take j) pl.dp) en.1 (2 ^ (pl.dp-en.2)):=by
   rw[List.take_add_one,hen]
   exact cts_snoc _ _ _
  have hlen:(cts ((nums (ends pl 0)).take j) pl.dp).length≤60:=by
   have:=nodup_le (cts_nodup ((nums (ends pl 0)).take j) pl.dp) (m:=List.range 60) fun x hx=>by
    rw[cts_keys]at hx
    obtain⟨e,he,rfl⟩:=List.mem_map.mp hx
    obtain⟨d',hd'⟩:=(nums_mem (ends pl 0) e.1).mp (List.mem_map.mpr ⟨e,List.mem_of_mem_take he,rfl⟩)
    exact List.mem_range.mpr (h60 _ _ hd')
   rw[List.length_map,List.length_range]at this
   exact this
  have hnd:=cts_nodup ((nums (ends pl 0)).take j) pl.dp
  generalize cts ((nums (ends pl 0)).take j) pl.dp=cs at hD hnext hlen hnd
  refine⟨a,_,rfl,SqT.of ha',rfl,_,_,rfl,_,_,rfl,rfl,?_⟩
  refine⟨_,rfl,d,rfl,.inl ⟨_,.inl hD⟩,_,rfl,_,DGet.k (k:=.inl (en.1:Int)) hD,_,rfl,_,rfl,en.2,pl.dp,rfl,hle,hd,_,_,toK_getD cs en.1,rfl,?_⟩
  refine⟨_,rfl,_,rfl,d,_,rfl,DPut.k (k:=.inl (en.1:Int)) hD (smallL (by unfold toK;rw[List.length_map];omega)),?_⟩
  refine⟨_,_,rfl,fun c o hc e=>by rw[upd_ne hc];exact y c o hc e,?_⟩
  rw[upd_same,hnext,←toK_put hnd]
  rfl
 rintro σ' H4 ⟨o3,o4,rfl,y,hD⟩
 rw[List.length_map,e3.1,List.take_length]at hD
 have hnd:=cts_nodup (nums (ends pl 0)) pl.dp
 have hlen:(cts (nums (ends pl 0)) pl.dp).length≤60:=by
  have:=nodup_le hnd (m:=List.range 60) fun x hx=>by
   rw[cts_keys]at hx
   obtain⟨d',hd'⟩:=(nums_mem (ends pl 0) x).mp hx
   exact List.mem_range.mpr (h60 _ _ hd')
  rw[List.length_map,List.length_range]at this
  exact this
 have hsum:=cts_sum (ends pl 0) pl.dp
 have hget:=cts_get (ends pl 0) pl.dp
 have hkey:∀x,x∈(cts (nums (ends pl 0)) pl.dp).map (·.1)↔∃d,(some x,d)∈ends pl 0:=fun x=>by rw[cts_keys];exact nums_mem _ x
 generalize cts (nums (ends pl 0)) pl.dp=cs at hD hnd hlen hsum hget hkey
 have hpos:0<shP (fun o=>o.isSome) (ends pl 0) pl.dp:=by
  have hh2:=hh
  rw[←has_ends pl 0,List.any_eq_true]at hh2
  obtain⟨e,he,hs⟩:=hh2
  exact shP_mem (P:=fun o=>o.isSome) (e:=e) hs he
 generalize hT:shP (fun o=>o.isSome) (ends pl 0) pl.dp=T at hpos hsum q
 refine⟨_,rfl,d,_,(cs.map fun e=>(e.2:Int)),rfl,hD,by unfold toK;rw[List.map_map,List.map_map];rfl,?_⟩
 have es:(cs.map fun e=>(e.2:Int)).sum=(T:Int):=by
  rw[←hsum,←sum_nats,List.map_map]
  rfl
 rw[es]
 refine⟨_,rfl,d,_,(cs.map (·.1)).map (fun(n:Nat)=>(n:Int)),rfl,hD,by unfold toK;rw[List.map_map,List.map_map,List.map_map];rfl,by rw[List.length_map,List.length_map];omega,fun L ns' fL hp ho=>?_⟩
 obtain⟨ms,rfl,hms,hmem⟩:=sorted_nats hnd hp ho
 have yL:=same_new fL (.lst ((ms.map fun(n:Nat)=>(n:Int)).map V.int))
 have wL:(upd H4 L (.lst ((ms.map fun(n:Nat)=>(n:Int)).map V.int))) L=some (.lst ((ms.map fun(n:Nat)=>(n:Int)).map V.int)):=upd_same
 generalize upd H4 L (.lst ((ms.map fun(n:Nat)=>(n:Int)).map V.int))=H5 at yL wL ⊢
 have hD5:=yL _ _ hD
 have hml:ms.length≤60:=by
  have:=hp.length_eq
  rw[List.length_map,List.length_map,List.length_map]at this
  omega
 have hTf:Fit T:=by
  refine Fit.of ?_
  have h1:=shP_le (fun o=>o.isSome) (ends pl 0) pl.dp
  rw[hT]at h1
  have h2:(ends pl 0).length*2 ^ pl.dp≤4096*4096:=Nat.mul_le_mul (by omega) c1
  omega
 refine⟨L,rfl,⟨_,SqL.of wL⟩,comp_list (xs:=(ms.map fun(n:Nat)=>(n:Int)).map V.int) (fun j acc σ' H'=>∃(rs:List Addr)(o3 o4:Option V),acc=rs.map V.ref∧rs.length=j∧σ'=[some v,some (.int (pl.dp:Int)),some (.ref d),o3,o4,some (.int (T:Int))]∧Same H5 H'∧∀(i:Nat)(r:Addr)(n:Nat),rs[i]?=some r→ms[i]?=some n→∃fp,H' r=some (.tup [.int (n:Int),.ref fp])∧H' fp=some (.tup (frV (getc cs n) T)))
  ⟨[],_,_,rfl,rfl,rfl,Same.refl _,fun i r n e=>by simp at e⟩
  (fun j acc σ' H' hj ⟨rs,_,_,e',hb,_⟩=>by
   rw[e',List.length_map]
   rw[List.length_map,List.length_map]at hj
   omega) (fun j acc σ' H' _ ⟨_,_,_,_,_,_,y',_⟩=>SqL.of (y' _ _ wL)) ?_ ?_⟩
 ·rintro j x acc σ' H6 hx ⟨rs,o3,o4,rfl,hrl,rfl,y6,hr6⟩
  rw[List.getElem?_map,List.getElem?_map]at hx
  obtain⟨n,hn⟩:∃n,ms[j]?=some n:=by
   cases e:ms[j]? with
   | none=>rw[e]at hx;cases hx
   | some r=>exact⟨r,rfl⟩
  rw[hn]at hx
  obtain rfl:V.int (n:Int)=x:=Option.some.inj hx
  have hin:n∈cs.map (·.1):=(hmem n).mp (List.mem_of_getElem? hn)
  have hg:=DGet.k (k:=.inl (n:Int)) (y6 _ _ hD5)
  rw[toK_get,if_pos hin]at hg
  refine⟨_,rfl,_,rfl,_,rfl,d,_,rfl,hg,_,rfl,getc cs n,T,rfl,hpos,hTf,fun fp H7 y7 w7=>?_⟩
  refine⟨(by show 2≤sizeLine;decide),fun p fp'=>?_⟩
  have y8:=same_new fp' (.tup [V.int (n:Int),V.ref fp])
  have w8:(upd H7 p (.tup [V.int (n:Int),V.ref fp])) p=some (.tup [V.int (n:Int),V.ref fp]):=upd_same
  generalize upd H7 p (.tup [V.int (n:Int),V.ref fp])=H8 at y8 w8 ⊢
  refine⟨rs++[p],_,_,by rw[List.map_append];rfl,by rw[List.length_append,hrl];rfl,rfl,(y6.trans y7).trans y8,fun i r n' e1 e2=>?_⟩
  by_cases c:i<rs.length
  ·rw[List.getElem?_append_left c]at e1
   obtain⟨fp2,z1,z2⟩:=hr6 i r n' e1 e2
   exact⟨fp2,y8 _ _ (y7 _ _ z1),y8 _ _ (y7 _ _ z2)⟩
  ·rw[List.getElem?_append_right (by omega)]at e1
   have hi:i-rs.length=0:=by
    have:=(List.getElem?_eq_some_iff.mp e1).1
    simpa using this
   rw[hi]at e1
   cases e1
   have hi2:i=j:=by omega
   subst hi2
   rw[hn]at e2
   cases e2
   exact⟨fp,w8,y8 _ _ w7⟩
 rintro acc σ' H6 D ⟨rs,o3,o4,rfl,hrl,rfl,y6,hr6⟩ fD
 rw[List.length_map,List.length_map]at hrl
 have yD:=same_new fD (.lst (rs.map V.ref))
 refine⟨D,_,rfl,.inl ⟨SqL.of upd_same,fun p fp=>?_⟩⟩
 have yp:=same_new fp (.tup (rs.map V.ref))
 refine q p rs ms _ (fun c o e=>?_) upd_same hms (fun n=>?_) hrl (fun i r n e1 e2=>?_)
 ·have e3:=s3 _ _ (s2 _ _ e)
  exact yp _ _ (yD _ _ (y6 _ _ (yL _ _ (y c o (fdH c o e) e3))))
 ·rw[hmem,hkey]
 ·obtain⟨fp2,z1,z2⟩:=hr6 i r n e1 e2
  rw[hget]at z2
  exact⟨fp2,yp _ _ (yD _ _ z1),yp _ _ (yD _ _ z2)⟩
end
theorem comp_rangeS {lo st:Int}{n:Nat}{g:TG}{tt:TT}{te:TE}{σ:St}{H:Hp}{Q:VK}(Pv:Nat→List V→St→Hp→Prop)(h0:Pv 0 [] σ H)(hl:∀i acc σ H,i≤n→Pv i acc σ H→acc.length≤1000000)
  (hs:∀i acc σ H,i<n→Pv i acc σ H→g (.int (lo+i*st)) σ H fun σ2 H3=>tt σ2 H3 fun b H4=>if b=true then te σ2 H4 fun y H5=>Pv (i+1) (acc++[y]) σ2 H5 else Pv (i+1) acc σ2 H4)
  (hd:∀acc σ H D,Pv n acc σ H→H D=none→Q (.ref D) (upd H D (.lst acc))):compW (ItrS lo st n) g tt te σ H Q :=
 comp_of Pv h0 hl (fun i acc σ H h _=>h) (fun acc σ H _=>Nat.le_refl _) (fun i acc σ H h p x H2 y=>by
  obtain⟨e,e2⟩:=y
  subst e e2
  exact hs i acc σ _ h p) hd
def PL (K:PySem.W.Frag)(H:Hp)(vs:List V)(ps:List Pn):Prop:=vs.length=ps.length∧∀(j:Nat)(v:V)(p:Pn),vs[j]?=some v→ps[j]?=some p→PnAt K H p v
theorem PL.same {K:PySem.W.Frag}{H H':Hp}{vs:List V}{ps:List Pn}(h:PL K H vs ps)(s:Same H H'):PL K H' vs ps:=⟨h.1,fun j v p e1 e2=>(h.2 j v p e1 e2).same s⟩
theorem PL.nil {K:PySem.W.Frag}{H:Hp}:PL K H [] []:=⟨rfl,fun j v p e=>by simp at e⟩
theorem PL.app {K:PySem.W.Frag}{H:Hp}{vs us:List V}{ps qs:List Pn}(h:PL K H vs ps)(g:PL K H us qs):PL K H (vs++us) (ps++qs):=by
 refine⟨by rw[List.length_append,List.length_append,h.1,g.1],fun j a e e1 e2=>?_⟩
 by_cases c:j<vs.length
 ·rw[List.getElem?_append_left c]at e1
  rw[List.getElem?_append_left (by rw[←h.1];exact c)]at e2
  exact h.2 j a e e1 e2
 ·rw[List.getElem?_append_right (by omega)]at e1
  rw[List.getElem?_append_right (by rw[←h.1];omega),←h.1]at e2
  exact g.2 _ a e e1 e2
theorem PL.one {K:PySem.W.Frag}{H:Hp}{v:V}{p:Pn}(h:PnAt K H p v):PL K H [v] [p]:=by
 refine⟨rfl,fun j a e e1 e2=>?_⟩
 have hj:j=0:=by
  have:=(List.getElem?_eq_some_iff.mp e1).1
  simpa using this
 subst hj
 cases e1
 cases e2
 exact h
theorem PL.at' {K:PySem.W.Frag}{H:Hp}{vs:List V}{ps:List Pn}(h:PL K H vs ps){j:Nat}(hj:j<ps.length):∃v p,vs[j]?=some v∧ps[j]?=some p∧PnAt K H p v :=
 ⟨_,_,List.getElem?_eq_getElem (by rw[h.1];exact hj),List.getElem?_eq_getElem hj,h.2 j _ _ (List.getElem?_eq_getElem (by rw[h.1];exact hj)) (List.getElem?_eq_getElem hj)⟩
theorem EndsL.snoc {K:PySem.W.Frag}{H:Hp}{as:List Addr}{es:List (Option Nat×Nat)}{p:Addr}{o:Option Nat}{d:Nat}{v:V}(h:EndsL K H as es)(hp:H p=some (.tup [.int (d:Int),v]))(hv:LeafV K H o v):EndsL K H (as++[p]) (es++[(o,d)]):=by
 refine h.app ⟨rfl,fun j a e e1 e2=>?_⟩
 have hj:j=0:=by
  have:=(List.getElem?_eq_some_iff.mp e1).1
  simpa using this
 subst hj
 cases e1
 cases e2
 exact⟨v,hp,hv⟩
theorem figO_take (es:List (Option Nat×Nat))(k j:Nat)(e:Option Nat×Nat)(h:es[j]?=some e):figO (es.take (j+1)) k=figO (es.take j) k++(if e.2 / 2 ^ k%2=1 then [e.1]else []):=by
 unfold figO
 rw[List.take_add_one,h,List.filter_append,List.map_append]
 congr 1
 show(([e].filter _).map _:List (Option Nat))=_
 rw[List.filter_cons]
 by_cases c:e.2 / 2 ^ k%2=1
 ·rw[if_pos c,if_pos (decide_eq_true c)];rfl
 ·rw[if_neg c,if_neg (by rw[decide_eq_false c];decide)];rfl
theorem figO_le (es:List (Option Nat×Nat))(k:Nat):(figO es k).length≤es.length:=by
 unfold figO
 rw[List.length_map]
 exact List.length_filter_le _ _
theorem parts_le (es:List (Option Nat×Nat)):∀k,(parts es k).length≤2*es.length
 | 0=>Nat.zero_le _
 | k+1=>by
  have ih:=parts_le es k
  have:=figO_le es k
  rw[parts,List.length_append,List.length_map,asks_len]
  omega
def spOf (K:PySem.W.Frag):Sp:=fun vs H Q _=>∃(r:Addr)(ws:List Nat),vs=[.ref r]∧H r=some (.tup (vnats ws))∧0<ws.sum∧ws.sum≤4096∧ws.length≤8∧∀v D H',Same H H'→isD ws.sum D→PnAt K H' (plW ws D) v→Q v H'
section
variable {P:Program}{w:World}{K:PySem.W.Frag}{mg:Str→Option Value}{base:Heap}{f:Addr}{fd:FuncData}
theorem ok_Y27 (F_Y27:Fun K "plan_of" "plan_of" s_Y27 f fd)(B:Bl mg)(C':Cn K mg):FnOk P w K mg base CX0 1 f fd p_Y27 (spOf K):=by
 refine F_Y27.ok sc_Y27 (fun vs H Q E h=>?_) (fun cdv A outer s H vs Q E hr h=>?_)
 ·obtain⟨r,ws,rfl,_⟩:=h
  rfl
 obtain⟨r,ws,rfl,hW,h0,h4,h8,q⟩:=h
 obtain⟨A_AGAIN,C_AGAIN,hAg⟩:=C'.AGAIN
 refine⟨_,(pss_cons (ps_set (i:=1) sc_Y27.nd rfl (Or.inl rfl) (pe_callB (call_sumT rfl) rfl B.sum_ L3.bt_sum (pa_cons (pv 0) pa_nil)))
   (pss_cons (ps_set (i:=2) sc_Y27.nd rfl (Or.inl rfl) pe_int)
   (pss_cons (ps_while PassesOwn.never (pt_cmpR op_lt (pe_op op_shl pe_int (pv 2)) (pv 1) (nomark _)) (pss_one (ps_set (i:=2) sc_Y27.nd rfl (Or.inl rfl) (pe_op op_add (pv 2) pe_int))))
   (pss_cons (ps_comp 3 [] ["weights","total","depth","ends","parts","place","asks","number","weight"] 2 rfl sc_Y27.nd rfl rfl (pi_enumT rfl B.enumerate_ (pa_cons (pv 0) pa_nil)) (fun _ _ _ _ _=>(pg_tupK K 2 rfl (pgs_cons (pg_name (i:=7) nd_8 rfl (Or.inl rfl) (Or.inr rfl)) (pgs_cons (pg_name (i:=8) nd_8 rfl (Or.inl rfl) (Or.inr rfl)) pgs_nil)) rfl rfl rfl)) (fun _ _ _ _ _=>pif_nil) (fun _ _ _ _ _=>(pe_tup (pa_cons (pv 8) (pa_cons (pe_tup (pa_cons pe_str (pa_cons (pv 7) pa_nil))) pa_nil)))))
   (pss_cons (ps_expr (pe_bm PySem.F.plainAttrs_list PySem.F.slot_list_append PySem.F.type_list_append mt_append (pv 3) (pa_cons (pe_tup (pa_cons (pe_op op_sub (pe_op op_shl pe_int (pv 2)) (pv 1)) (pa_cons (pe_glob (v:=.ref A_AGAIN) rfl C_AGAIN rfl) pa_nil))) pa_nil)))
   (pss_cons (ps_set (i:=4) sc_Y27.nd rfl (Or.inr rfl) (pe_lst pa_nil))
   (pss_cons (ps_for PassesOwn.never rfl (pi_range1 rfl B.range_ (pa_cons (pe_op op_add (pv 2) pe_int) pa_nil)) (pg_name (i:=5) sc_Y27.nd rfl (Or.inr rfl)) (pss_cons (ps_comp 6 [] ["weights","total","depth","ends","parts","place","asks","left"] 1 rfl sc_Y27.nd rfl rfl (pi_rangeTwo rfl B.range_ (pa_cons pe_int (pa_cons (pe_callB call_len_seq rfl B.len_ L3.bt_len (pa_cons (pv 4) pa_nil)) (pa_cons pe_int pa_nil)))) (fun _ _ _ _ _=>(pg_name (i:=7) nd_9 rfl (Or.inl rfl) (Or.inr rfl))) (fun _ _ _ _ _=>pif_nil) (fun _ _ _ _ _=>(pe_tup (pa_cons pe_str (pa_cons (pe_ix (ix_listK K rfl) (pv 4) (pv 7) (fun _ _=>rfl)) (pa_cons (pe_ix (ix_listK K rfl) (pv 4) (pe_op op_add (pv 7) pe_int) (fun _ _=>rfl)) pa_nil))))))
   (pss_one (ps_set (i:=4) sc_Y27.nd rfl (Or.inr rfl) (pe_op op_cat (pe_comp [] ["weights","total","depth","ends","parts","place","asks","weight","end"] 2 rfl (pi_list (pv 3)) (fun _ _ _ _ _=>(pg_tupK K 2 rfl (pgs_cons (pg_name (i:=7) nd_10 rfl (Or.inl rfl) (Or.inr rfl)) (pgs_cons (pg_name (i:=8) nd_10 rfl (Or.inl rfl) (Or.inr rfl)) pgs_nil)) rfl rfl rfl)) (fun _ _ _ _ _=>(pif_one (pt_cmpR op_eq (pe_op op_mod (pe_op op_shr (pv 7) (pv 5)) pe_int) pe_int (nomark _)))) (fun _ _ _ _ _=>(pv 8))) (pv 6))))))
   (pss_one (ps_ret (pe_ix ix_list (pv 4) pe_int (fun _ _=>rfl))))))))))),?_⟩
 have hsq:SqT K H r ((ws.map (fun(n:Nat)=>(n:Int))).map V.int):=SqT.of (by rw[←vnats_ints];exact hW)
 refine⟨_,rfl,r,ws.map (fun(n:Nat)=>(n:Int)),rfl,hsq,?_⟩
 rw[sum_nats]
 generalize hS:ws.sum=S at h0 h4 q
 refine⟨fun m σ' H'=>∃D:Nat,m=13-D∧D≤12∧σ'=[some (.ref r),some (.int (S:Int)),some (.int (D:Int)),none,none,none,none]∧H'=H∧∀j,j<D→2 ^ j<S,⟨_,0,rfl,by decide,rfl,rfl,fun j hj=>absurd hj (Nat.not_lt_zero _)⟩,?_⟩
 rintro m σ' H' ⟨D,rfl,hD12,rfl,eH,hD⟩
 obtain rfl:H=H':=eH.symm
 clear eH
 have ep:(1:Int)*2 ^ ((D:Int)).toNat=((2 ^ D:Nat):Int):=by rw[Int.toNat_natCast,Int.one_mul,Int.natCast_pow];rfl
 refine⟨_,rfl,_,_,rfl,rfl,⟨by omega,by omega,by decide⟩,_,rfl,_,_,rfl,rfl,_,rfl,ite2 (fun c=>?_) (fun c=>?_)⟩
 ·have c':(1:Int)*2 ^ ((D:Int)).toNat<(S:Int):=of_decide_eq_true c
  rw[ep]at c'
  have hlt:2 ^ D<S:=by omega
  have hD11:D<12:=by
   rcases Nat.lt_or_ge D 12 with z|z
   ·exact z
   ·have:2 ^ 12≤2 ^ D:=Nat.pow_le_pow_right (by decide) z
    omega
  exact⟨_,fun _ _ z=>z,_,rfl,_,_,rfl,rfl,13-(D+1),by omega,D+1,rfl,by omega,rfl,rfl,fun j hj=>by
   rcases Nat.lt_or_ge j D with z|z
   ·exact hD j z
   ·have:j=D:=by omega
    rw[this];exact hlt⟩
 have c':¬(1:Int)*2 ^ ((D:Int)).toNat<(S:Int):=of_decide_eq_false (Bool.eq_false_iff.mpr c)
 rw[ep]at c'
 have hge:S≤2 ^ D:=by omega
 have hisD:isD S D:=⟨hge,hD⟩
 clear c c'
 -- ends
 refine⟨_,rfl,r,rfl,⟨_,SqT.of hW⟩,comp_enum (xs:=vnats ws) (fun j acc σ' H'=>∃(as:List Addr)(o7 o8:Option V),acc=as.map V.ref∧as.length=j∧σ'=[some (.ref r),some (.int (S:Int)),some (.int (D:Int)),none,none,none,none,o7,o8]∧Same H H'∧EndsL K H' as ((numE ws).take j))
  ⟨[],_,_,rfl,rfl,rfl,Same.refl _,rfl,fun j a e h=>by simp at h⟩
  (fun j acc σ' H' hj ⟨as,_,_,e',hb,_⟩=>by
   rw[e',List.length_map]
   rw[vnats_len]at hj
   omega) (fun j acc σ' H' _ ⟨_,_,_,_,_,_,y,_⟩=>SqT.of (y _ _ hW)) ?_ ?_⟩
 ·rintro j x acc σ' H1 p hx ⟨as,o7,o8,rfl,hal,rfl,y,hE⟩ fp
  have hj:j<ws.length:=by rw[←vnats_len];exact(List.getElem?_eq_some_iff.mp hx).1
  rw[vnats_at hj]at hx
  obtain rfl:=Option.some.inj hx
  have y1:=same_new fp (.tup [V.int (j:Int),V.int ((ws.getD j 0:Nat):Int)])
  have w1:(upd H1 p (.tup [V.int (j:Int),V.int ((ws.getD j 0:Nat):Int)])) p=some (.tup [V.int (j:Int),V.int ((ws.getD j 0:Nat):Int)]):=upd_same
  generalize upd H1 p (.tup [V.int (j:Int),V.int ((ws.getD j 0:Nat):Int)])=H2 at y1 w1 ⊢
  refine⟨p,_,rfl,SqT.of w1,rfl,_,_,rfl,_,_,rfl,rfl,_,rfl,_,rfl,(by show 2≤sizeLine;decide),fun p2 fp2=>?_⟩
  have y2:=same_new fp2 (.tup [V.str "is",V.int (j:Int)])
  have w2:(upd H2 p2 (.tup [V.str "is",V.int (j:Int)])) p2=some (.tup [V.str "is",V.int (j:Int)]):=upd_same
  generalize upd H2 p2 (.tup [V.str "is",V.int (j:Int)])=H3 at y2 w2 ⊢
  refine⟨(by show 2≤sizeLine;decide),fun p3 fp3=>?_⟩
  have y3:=same_new fp3 (.tup [V.int ((ws.getD j 0:Nat):Int),V.ref p2])
  have hn:(numE ws).take (j+1)=(numE ws).take j++[(some j,ws.getD j 0)]:=by
   rw[List.take_add_one]
   congr 1
   unfold numE
   rw[List.getElem?_map,List.getElem?_range hj]
   rfl
  refine⟨as++[p3],_,_,by rw[List.map_append];rfl,by rw[List.length_append,hal];rfl,rfl,((y.trans y1).trans y2).trans y3,?_⟩
  rw[hn]
  exact(hE.same ((y1.trans y2).trans y3)).snoc upd_same ⟨p2,rfl,y3 _ _ w2⟩
 rintro acc σ' H1 LE ⟨as,o7,o8,rfl,hal,rfl,y,hE⟩ fLE
 rw[vnats_len]at hal hE
 rw[List.take_of_length_le (by unfold numE;rw[List.length_map,List.length_range];exact Nat.le_refl _)]at hE
 have yE:=same_new fLE (.lst (as.map V.ref))
 have wE:(upd H1 LE (.lst (as.map V.ref))) LE=some (.lst (as.map V.ref)):=upd_same
 have fLEH:H LE=none:=by
  cases e:H LE with
  | none=>rfl
  | some o=>have:=y _ _ e;rw[fLE]at this;cases this
 generalize upd H1 LE (.lst (as.map V.ref))=H2 at yE wE ⊢
 have yH2:=y.trans yE
 have hE2:=hE.same yE
 clear hE y fLE
 refine⟨_,rfl,.inl ⟨rfl,_,SqL.of wE⟩,_,rfl,_,_,rfl,rfl,⟨by omega,by omega,by decide⟩,_,rfl,_,_,rfl,rfl,(by show 2≤sizeLine;decide),fun p4 fp4=>?_⟩
 have ew:(1:Int)*2 ^ ((D:Int)).toNat-(S:Int)=((2 ^ D-S:Nat):Int):=by rw[ep];omega
 dsimp only
 rw[ew]
 have y4:=same_new fp4 (.tup [V.int ((2 ^ D-S:Nat):Int),V.ref A_AGAIN])
 have w4:(upd H2 p4 (.tup [V.int ((2 ^ D-S:Nat):Int),V.ref A_AGAIN])) p4=some (.tup [V.int ((2 ^ D-S:Nat):Int),V.ref A_AGAIN]):=upd_same
 generalize upd H2 p4 (.tup [V.int ((2 ^ D-S:Nat):Int),V.ref A_AGAIN])=H3 at y4 w4 ⊢
 have wE3:=y4 _ _ wE
 have hE3:EndsL K H3 (as++[p4]) (esW ws D):=by
  unfold esW
  rw[hS]
  exact(hE2.same y4).snoc w4 ⟨A_AGAIN,rfl,.inr hAg⟩
 have np:∀c xs,H3 c=some (.tup xs)→c≠LE:=fun c xs e z=>by rw[z,wE3]at e;cases e
 refine⟨LE,_,_,rfl,rfl,wE3,smallL (by rw[List.length_map];omega),?_⟩
 have wE4:(upd H3 LE (.lst (as.map V.ref++[V.ref p4]))) LE=some (.lst ((as++[p4]).map V.ref)):=by rw[upd_same,List.map_append];rfl
 have k4:∀c xs,H3 c=some (.tup xs)→(upd H3 LE (.lst (as.map V.ref++[V.ref p4]))) c=some (.tup xs):=fun c xs e=>by rw[upd_ne (np c xs e)];exact e
 have yH4:Same H (upd H3 LE (.lst (as.map V.ref++[V.ref p4]))):=fun c o e=>by rw[upd_ne (ne_of_none e fLEH)];exact y4 _ _ (yH2 _ _ e)
 have hE4:EndsL K (upd H3 LE (.lst (as.map V.ref++[V.ref p4]))) (as++[p4]) (esW ws D):=⟨hE3.1,fun j a e e1 e2=>by
  obtain⟨v,z1,z2⟩:=hE3.2 j a e e1 e2
  exact⟨v,k4 _ _ z1,PnAt.keep k4 z2⟩⟩
 generalize upd H3 LE (.lst (as.map V.ref++[V.ref p4]))=H4 at wE4 yH4 hE4
 generalize as++[p4]=bs at wE4 hE4
 clear hE3 hE2 wE3 wE y4 w4 np k4 yE yH2
 have hEl:(esW ws D).length≤9:=by unfold esW numE;rw[List.length_append,List.length_map,List.length_range];show ws.length+1≤9;omega
 have ht:tot (esW ws D)=2 ^ D:=esW_tot (by rw[hS];exact hge)
 generalize hes:esW ws D=es at hE4 hEl ht
 -- parts
 refine⟨(by show 0≤sizeLine;decide),fun l0 fl0=>?_⟩
 have y5:=same_new fl0 (.lst ([]:List V))
 have w5:(upd H4 l0 (.lst ([]:List V))) l0=some (.lst []):=upd_same
 generalize upd H4 l0 (.lst ([]:List V))=H5 at y5 w5 ⊢
 refine⟨_,rfl,_,_,rfl,rfl,D+1,rfl,lo62 _,hi62 (n:=D+1) (by omega),for_range (lo:=0) (n:=D+1) (fun i σ' H'=>∃(lp:Addr)(vs:List V)(o5 o6:Option V),σ'=[some (.ref r),some (.int (S:Int)),some (.int (D:Int)),some (.ref LE),some (.ref lp),o5,o6]∧Same H5 H'∧H' lp=some (.lst vs)∧PL K H' vs (parts es i))
  ⟨l0,[],_,_,rfl,Same.refl _,w5,PL.nil⟩ ?_ ?_⟩
 ·rintro i σ' H6 hi ⟨lp,vs,o5,o6,rfl,y6,wp,hPL⟩
  have hev:(parts es i).length%2=0:=(parts_len ht i (by omega)).2 (by omega)
  have hpl:=parts_le es i
  have hvl:=hPL.1
  refine⟨_,rfl,lp,vs,rfl,.inl (SqL.of wp),0,((vs.length:Nat):Int),rfl,⟨by decide,by decide,by omega,by omega⟩,?_⟩
  have en:((((vs.length:Nat):Int)-0+1) / 2).toNat=(parts es i).length / 2:=by omega
  rw[en]
  refine comp_rangeS (fun j acc σ' H'=>∃(o7:Option V),acc.length=j∧σ'=[some (.ref r),some (.int (S:Int)),some (.int (D:Int)),some (.ref LE),some (.ref lp),some (.int (0+(i:Int))),o6,o7]∧Same H6 H'∧PL K H' acc (asksTo (parts es i) j))
   ⟨_,rfl,rfl,Same.refl _,PL.nil⟩ (fun j acc σ' H' hj ⟨_,e',_⟩=>by omega) ?_ ?_
  ·rintro j acc σ' H7 hj ⟨o7,hal,rfl,y7,hP7⟩
   obtain⟨v1,q1,e1,f1,g1⟩:=hPL.at' (j:=2*j) (by omega)
   obtain⟨v2,q2,e2,f2,g2⟩:=hPL.at' (j:=2*j+1) (by omega)
   have ex:(0:Int)+(j:Int)*2=((2*j:Nat):Int):=by omega
   rw[ex]
   have wp7:=y7 _ _ wp
   refine⟨_,rfl,_,rfl,lp,_,_,v1,rfl,rfl,SqL.of wp7,atI_nat e1,_,rfl,_,rfl,_,_,rfl,rfl,lp,_,_,v2,rfl,rfl,SqL.of wp7,(by
    show atI vs (((2*j:Nat):Int)+1)=some v2
    rw[show(((2*j:Nat):Int)+1)=((2*j+1:Nat):Int)by omega]
    exact atI_nat e2),(by show 3≤sizeLine;decide),fun p8 fp8=>?_⟩
   have y8:=same_new fp8 (.tup [V.str "ask",v1,v2])
   refine⟨_,by rw[List.length_append,hal];rfl,rfl,y7.trans y8,?_⟩
   rw[asksTo_succ f1 f2]
   exact(hP7.same y8).app (PL.one ⟨p8,v1,v2,rfl,upd_same,(g1.same y7).same y8,(g2.same y7).same y8⟩)
  rintro acc σ' H7 LA ⟨o7,hal,rfl,y7,hP7⟩ fLA
  rw[asksTo_all hev]at hP7
  have y8:=same_new fLA (.lst acc)
  have w8:(upd H7 LA (.lst acc)) LA=some (.lst acc):=upd_same
  generalize upd H7 LA (.lst acc)=H8 at y8 w8 ⊢
  have hP8:=hP7.same y8
  have y68:=y7.trans y8
  have wE8:=y68 _ _ (y6 _ _ (y5 _ _ wE4))
  have hE8:=((hE4.same y5).same y6).same y68
  have hbl:bs.length=es.length:=hE8.1
  refine⟨_,rfl,LE,rfl,⟨_,SqL.of wE8⟩,comp_list (xs:=bs.map V.ref) (fun j acc2 σ' H'=>∃(o7 o8:Option V),acc2.length≤j∧σ'=[some (.ref r),some (.int (S:Int)),some (.int (D:Int)),some (.ref LE),some (.ref lp),some (.int (0+(i:Int))),some (.ref LA),o7,o8]∧Same H8 H'∧PL K H' acc2 ((figO (es.take j) i).map leafP))
   ⟨_,_,Nat.le_refl _,rfl,Same.refl _,PL.nil⟩ (fun j acc2 σ' H' hj ⟨_,_,e',_⟩=>by rw[List.length_map]at hj;omega) (fun j acc2 σ' H' _ ⟨_,_,_,_,y',_⟩=>SqL.of (y' _ _ wE8)) ?_ ?_⟩
  ·rintro j x acc2 σ' H9 hx ⟨o7,o8,hal2,rfl,y9,hP9⟩
   obtain⟨a,hja⟩:∃a,bs[j]?=some a:=by
    rw[List.getElem?_map]at hx
    cases e:bs[j]? with
    | none=>rw[e]at hx;cases hx
    | some r=>exact⟨r,rfl⟩
   rw[List.getElem?_map,hja]at hx
   cases hx
   have hj:j<es.length:=by rw[←hbl];exact(List.getElem?_eq_some_iff.mp hja).1
   obtain⟨en,hen⟩:∃en,es[j]?=some en:=⟨_,List.getElem?_eq_getElem hj⟩
   obtain⟨lv,ha,hleaf⟩:=hE8.2 j a en hja hen
   have ha9:=y9 _ _ ha
   have hnext:=figO_take es i j en hen
   refine⟨a,_,rfl,SqT.of ha9,rfl,_,_,rfl,_,_,rfl,rfl,?_⟩
   refine⟨_,rfl,_,rfl,_,_,rfl,rfl,(by show(0:Int)≤0+(i:Int);omega),_,_,rfl,rfl,(by show(0:Int)<2;decide),rfl,_,rfl,?_⟩
   have et:decide (V.int ((en.2:Int) / 2 ^ (0+(i:Int)).toNat%2)=V.int 1)=decide (en.2 / 2 ^ i%2=1):=by
    rw[show(0+(i:Int)).toNat=i by omega]
    have e3:(en.2:Int) / 2 ^ i%2=((en.2 / 2 ^ i%2:Nat):Int):=by
     rw[Int.natCast_emod,Int.natCast_ediv,Int.natCast_pow];rfl
    rw[e3,decide_eq_decide]
    exact⟨fun z=>by injection z with z;omega,fun z=>by rw[z];rfl⟩
   try dsimp only
   rw[et]
   refine ite2 (fun c=>?_) (fun c=>?_)
   ·have c':=of_decide_eq_true c
    refine⟨_,rfl,_,_,by rw[List.length_append];show acc2.length+1≤j+1;omega,rfl,y9,?_⟩
    rw[hnext,if_pos c',List.map_append]
    exact hP9.app (PL.one (PnAt.same hleaf y9))
   ·have c':=of_decide_eq_false (Bool.eq_false_iff.mpr c)
    refine⟨_,_,by omega,rfl,y9,?_⟩
    rw[hnext,if_neg c',List.append_nil]
    exact hP9
  rintro acc2 σ' H9 LF ⟨o7,o8,hal2,rfl,y9,hP9⟩ fLF
  rw[List.length_map,hbl,List.take_length]at hP9
  have y10:=same_new fLF (.lst acc2)
  have hl9:=hP9.1
  have hl8:=hP8.1
  rw[List.length_map]at hl9
  rw[asks_len]at hl8
  have hfl:=figO_le es i
  refine⟨_,rfl,LF,LA,acc2,acc,rfl,rfl,upd_same,y10 _ _ (y9 _ _ w8),small (by omega),fun ln fln=>?_⟩
  have y11:=same_new fln (.lst (acc2++acc))
  refine⟨ln,acc2++acc,_,_,rfl,((y6.trans y68).trans y9).trans (y10.trans y11),upd_same,?_⟩
  exact((hP9.same y10).same y11).app (((hP8.same y9).same y10).same y11)
 ·rintro σ' H6 ⟨lp,vs,o5,o6,rfl,y6,wp,hPL⟩
  rw[plan_parts ht]at hPL
  obtain⟨v1,q1,e1,f1,g1⟩:=hPL.at' (j:=0) (by show 0<1;decide)
  have:q1=planP es D:=(Option.some.inj f1).symm
  subst this
  refine⟨_,rfl,lp,_,_,v1,rfl,rfl,SqL.of wp,atI_nat e1,q v1 D H6 ((yH4.trans y5).trans y6) hisD ?_⟩
  unfold plW
  rw[hes]
  exact g1
end
theorem fm_all {g:Nat→Option V}:∀{m:Nat},(∀k,k<m→(g k).isSome=true)→((List.range m).filterMap g).length=m∧∀j,j<m→((List.range m).filterMap g)[j]?=g j
 | 0,_=>⟨rfl,fun j h=>absurd h (Nat.not_lt_zero j)⟩
 | m+1,h=>by
  obtain⟨h1,h2⟩:=fm_all (m:=m) fun k hk=>h k (by omega)
  obtain⟨x,hx⟩:=Option.isSome_iff_exists.mp (h m (by omega))
  have e:(List.range (m+1)).filterMap g=(List.range m).filterMap g++[x]:=by
   rw[List.range_succ,List.filterMap_append,List.filterMap_cons,hx]
   rfl
  rw[e]
  refine⟨by rw[List.length_append,h1];rfl,fun j hj=>?_⟩
  by_cases c:j<m
  ·rw[List.getElem?_append_left (by omega)]
   exact h2 j c
  ·have:j=m:=by omega
   subst this
   rw[List.getElem?_append_right (by omega),h1,Nat.sub_self,hx]
   rfl
theorem cat34 {K:PySem.W.Frag}{H:Hp}{a b:Addr}{xs ys:List V}{Q:VK}(ha:H a=some (.tup xs))(hb:H b=some (.tup ys))(hz:xs.length+ys.length≤300000)(q:∀p H',Same H H'→H' p=some (.tup (xs++ys))→Q (.ref p) H'):rCat0 K (.ref a) (.ref b) H Q:=by
 refine⟨a,b,xs,ys,rfl,rfl,SqT.of ha,SqT.of hb,small (by omega),fun e=>?_,fun _ e=>?_,fun _ _ p fp=>q p _ (same_new fp _) upd_same⟩
 ·subst e
  exact q b H (Same.refl _) hb
 ·subst e
  refine q a H (Same.refl _) ?_
  rw[List.append_nil]
  exact ha
noncomputable def tabR (hi:Nat):Nat→List Nat→List Nat→List Nat→List (Nat×Nat)→List (Nat×Nat)
 | 0,_,_,_,tab=>tab
 | n+1,left,s::sm,g::gr,tab =>
  if left.getD g 0+left.getD s 0-hi<hi then tabR hi n (left.set g (left.getD g 0+left.getD s 0-hi)) (sm++[g]) gr (tab.set s (left.getD s 0,g))
  else tabR hi n (left.set g (left.getD g 0+left.getD s 0-hi)) sm (g::gr) (tab.set s (left.getD s 0,g))
 | _+1,_,_,_,tab=>tab
structure TInv (hi m:Nat)(left sm gr:List Nat)(tab:List (Nat×Nat)):Prop where
 ll:left.length=m
 tl:tab.length=m
 nd:(sm++gr).Nodup
 lt:∀i∈sm++gr,i<m
 sml:∀i∈sm,left.getD i 0<hi
 grt:∀i∈gr,hi≤left.getD i 0
 sum:(sm.map fun i=>left.getD i 0).sum+(gr.map fun i=>left.getD i 0).sum=hi*(sm.length+gr.length)
 ok:∀c∈tab,c.1≤hi∧c.2<m
theorem sum_less {f:Nat→Nat}{hi:Nat}:∀{l:List Nat},(∀i∈l,f i<hi)→(l.map f).sum+l.length≤hi*l.length
 | [],_=>by simp
 | a::l,h=>by
  have h1:=h a List.mem_cons_self
  have h2:=sum_less fun i hi'=>h i (List.mem_cons_of_mem _ hi')
  rw[List.map_cons,List.sum_cons,List.length_cons,Nat.mul_add]
  omega
theorem TInv.great {hi m s:Nat}{left sm gr:List Nat}{tab:List (Nat×Nat)}(h:TInv hi m left (s::sm) gr tab):∃g r,gr=g::r:=by
 cases gr with
 | cons g r=>exact⟨g,r,rfl⟩
 | nil =>
  have h1:=sum_less h.sml
  have h2:=h.sum
  simp only[List.map_nil,List.sum_nil,List.length_nil,Nat.add_zero]at h2
  rw[h2]at h1
  simp only[List.length_cons]at h1
  omega
theorem getD_set_ne {l:List Nat}{i j v:Nat}(h:i≠j):(l.set i v).getD j 0=l.getD j 0:=by
 rw[List.getD_eq_getElem?_getD,List.getD_eq_getElem?_getD,List.getElem?_set_ne h]
theorem getD_set_eq {l:List Nat}{i v:Nat}(h:i<l.length):(l.set i v).getD i 0=v:=by
 rw[List.getD_eq_getElem?_getD,List.getElem?_set_self h]
 rfl
theorem map_set_ne {left l:List Nat}{g v:Nat}(h:g∉l):(l.map fun i=>(left.set g v).getD i 0)=l.map fun i=>left.getD i 0 :=
 List.map_congr_left fun i hi=>getD_set_ne fun e=>h (e▸hi)
theorem tab_set {hi m s c o:Nat}{tab:List (Nat×Nat)}(h:∀c∈tab,c.1≤hi∧c.2<m)(hc:c≤hi)(ho:o<m):∀x∈tab.set s (c,o),x.1≤hi∧x.2<m:=fun x hx=>by
 rcases List.mem_or_eq_of_mem_set hx with y|y
 ·exact h x y
 ·rw[y]
  exact⟨hc,ho⟩
theorem TInv.step {hi m s g:Nat}{left sm gr:List Nat}{tab:List (Nat×Nat)}(h:TInv hi m left (s::sm) (g::gr) tab) :
  (left.getD g 0+left.getD s 0-hi<hi→TInv hi m (left.set g (left.getD g 0+left.getD s 0-hi)) (sm++[g]) gr (tab.set s (left.getD s 0,g))) ∧
  (hi≤left.getD g 0+left.getD s 0-hi→TInv hi m (left.set g (left.getD g 0+left.getD s 0-hi)) sm (g::gr) (tab.set s (left.getD s 0,g))):=by
 have hs:=h.sml s List.mem_cons_self
 have hg:=h.grt g List.mem_cons_self
 have hgm:=h.lt g (by simp)
 have nd:=h.nd
 rw[List.cons_append,List.nodup_cons,List.nodup_append]at nd
 obtain⟨n1,n2,n3,n4⟩:=nd
 rw[List.nodup_cons]at n3
 have gsm:g∉sm:=fun y=>n4 g y g List.mem_cons_self rfl
 have gs:g≠s:=fun e=>n1 (by rw[←e];simp)
 have hsum:=h.sum
 simp only[List.map_cons,List.sum_cons,List.length_cons]at hsum
 have e1:hi*(sm.length+1+(gr.length+1))=hi*(sm.length+gr.length)+hi+hi:=by
  rw[show sm.length+1+(gr.length+1)=sm.length+gr.length+1+1 by omega,Nat.mul_add,Nat.mul_add,Nat.mul_one]
 have hT:=tab_set (s:=s) h.ok (Nat.le_of_lt hs) hgm
 have hgl:g<left.length:=by rw[h.ll];exact hgm
 refine⟨fun c=>⟨by rw[List.length_set,h.ll],by rw[List.length_set,h.tl],?_,fun i hi'=>?_,fun i hi'=>?_,fun i hi'=>?_,?_,hT⟩,fun c=>⟨by rw[List.length_set,h.ll],by rw[List.length_set,h.tl],?_,fun i hi'=>?_,fun i hi'=>?_,fun i hi'=>?_,?_,hT⟩⟩
 ·rw[List.append_assoc,List.nodup_append]
  exact⟨n2,List.nodup_cons.mpr n3,fun a ha b hb=>n4 a ha b hb⟩
 ·exact h.lt i (by simp only[List.mem_append,List.mem_cons,List.not_mem_nil,or_false]at hi' ⊢;rcases hi' with (y|y)|y<;>simp[y])
 ·rcases List.mem_append.mp hi' with y|y
  ·rw[getD_set_ne fun(e:g=i)=>gsm (by rw[e];exact y)]
   exact h.sml i (List.mem_cons_of_mem _ y)
  ·have:i=g:=by simpa using y
   subst this
   rw[getD_set_eq hgl]
   exact c
 ·rw[getD_set_ne fun(e:g=i)=>n3.1 (by rw[e];exact hi')]
  exact h.grt i (List.mem_cons_of_mem _ hi')
 ·rw[List.map_append,List.sum_append,map_set_ne gsm,map_set_ne n3.1,List.length_append]
  simp only[List.map_cons,List.map_nil,List.sum_cons,List.sum_nil,List.length_cons,List.length_nil,getD_set_eq hgl]
  have e2:hi*(sm.length+(0+1)+gr.length)=hi*(sm.length+gr.length)+hi:=by
   rw[show sm.length+(0+1)+gr.length=sm.length+gr.length+1 by omega,Nat.mul_add,Nat.mul_one]
  omega
 ·rw[List.nodup_append]
  exact⟨n2,List.nodup_cons.mpr n3,n4⟩
 ·exact h.lt i (by simp only[List.mem_append,List.mem_cons]at hi' ⊢;rcases hi' with y|y|y<;>simp[y])
 ·rw[getD_set_ne fun(e:g=i)=>gsm (by rw[e];exact hi')]
  exact h.sml i (List.mem_cons_of_mem _ hi')
 ·rcases List.mem_cons.mp hi' with y|y
  ·subst y
   rw[getD_set_eq hgl]
   exact c
  ·rw[getD_set_ne fun(e:g=i)=>n3.1 (by rw[e];exact y)]
   exact h.grt i (List.mem_cons_of_mem _ y)
 ·simp only[List.map_cons,List.sum_cons,List.length_cons,getD_set_eq hgl]
  rw[map_set_ne gsm,map_set_ne n3.1]
  have e2:hi*(sm.length+(gr.length+1))=hi*(sm.length+gr.length)+hi:=by
   rw[show sm.length+(gr.length+1)=sm.length+gr.length+1 by omega,Nat.mul_add,Nat.mul_one]
  omega
theorem tabR_ok {hi m:Nat}:∀{n:Nat}{left sm gr:List Nat}{tab:List (Nat×Nat)},TInv hi m left sm gr tab→(tabR hi n left sm gr tab).length=m∧∀c∈tabR hi n left sm gr tab,c.1≤hi∧c.2<m
 | 0,_,_,_,_,h=>⟨h.tl,h.ok⟩
 | n+1,left,[],gr,tab,h=>by unfold tabR;exact⟨h.tl,h.ok⟩
 | n+1,left,s::sm,[],tab,h=>by unfold tabR;exact⟨h.tl,h.ok⟩
 | n+1,left,s::sm,g::gr,tab,h=>by
  rw[tabR]
  split
  ·rename_i c
   exact tabR_ok (h.step.1 c)
  ·rename_i c
   exact tabR_ok (h.step.2 (by omega))
noncomputable def lefts (ws:List Nat):List Nat:=ws.map fun w=>w*ws.length
noncomputable def smalls (ws:List Nat):List Nat:=(List.range ws.length).filter fun i=>decide ((lefts ws).getD i 0<ws.sum)
noncomputable def greats (ws:List Nat):List Nat:=(List.range ws.length).filter fun i=>decide (ws.sum≤(lefts ws).getD i 0)
noncomputable def tab0 (ws:List Nat):List (Nat×Nat):=(List.range ws.length).map fun i=>(ws.sum,i)
noncomputable def tabF (ws:List Nat):List (Nat×Nat):=tabR ws.sum ((smalls ws).length+(greats ws).length) (lefts ws) (smalls ws) (greats ws) (tab0 ws)
theorem part_sum (f:Nat→Nat)(hi:Nat):∀l:List Nat,((l.filter fun i=>decide (f i<hi)).map f).sum+((l.filter fun i=>decide (hi≤f i)).map f).sum=(l.map f).sum
 | []=>rfl
 | a::l=>by
  have ih:=part_sum f hi l
  by_cases c:f a<hi
  ·rw[List.filter_cons_of_pos (by simpa using c),List.filter_cons_of_neg (by simpa using c),List.map_cons,List.map_cons,List.sum_cons,List.sum_cons]
   omega
  ·rw[List.filter_cons_of_neg (by simpa using c),List.filter_cons_of_pos (by simpa using c),List.map_cons,List.map_cons,List.sum_cons,List.sum_cons]
   omega
theorem part_len (f:Nat→Nat)(hi:Nat):∀l:List Nat,(l.filter fun i=>decide (f i<hi)).length+(l.filter fun i=>decide (hi≤f i)).length=l.length
 | []=>rfl
 | a::l=>by
  have ih:=part_len f hi l
  by_cases c:f a<hi
  ·rw[List.filter_cons_of_pos (by simpa using c),List.filter_cons_of_neg (by simpa using c),List.length_cons,List.length_cons]
   omega
  ·rw[List.filter_cons_of_neg (by simpa using c),List.filter_cons_of_pos (by simpa using c),List.length_cons,List.length_cons]
   omega
theorem map_range {l:List Nat}:((List.range l.length).map fun i=>l.getD i 0)=l:=by
 refine List.ext_getElem (by simp) fun i h1 h2=>?_
 rw[List.getElem_map,List.getElem_range,List.getD_eq_getElem?_getD,List.getElem?_eq_getElem h2]
 rfl
theorem sum_scale (k:Nat):∀l:List Nat,(l.map fun w=>w*k).sum=l.sum*k
 | []=>by simp
 | a::l=>by rw[List.map_cons,List.sum_cons,List.sum_cons,sum_scale k l,Nat.add_mul]
theorem tinv0 (ws:List Nat):TInv ws.sum ws.length (lefts ws) (smalls ws) (greats ws) (tab0 ws) where
 ll:=by rw[lefts,List.length_map]
 tl:=by rw[tab0,List.length_map,List.length_range]
 nd:=by
  rw[List.nodup_append]
  refine⟨List.Nodup.sublist List.filter_sublist List.nodup_range,List.Nodup.sublist List.filter_sublist List.nodup_range,fun a ha b hb e=>?_⟩
  subst e
  have h1:=(List.mem_filter.mp ha).2
  have h2:=(List.mem_filter.mp hb).2
  simp only[decide_eq_true_eq]at h1 h2
  omega
 lt:=fun i hi=>by
  rcases List.mem_append.mp hi with y|y
  ·exact List.mem_range.mp (List.mem_filter.mp y).1
  ·exact List.mem_range.mp (List.mem_filter.mp y).1
 sml:=fun i hi=>by simpa using (List.mem_filter.mp hi).2
 grt:=fun i hi=>by simpa using (List.mem_filter.mp hi).2
 sum:=by
  have hl:(lefts ws).length=ws.length:=by rw[lefts,List.length_map]
  rw[smalls,greats,part_sum,part_len,List.length_range,←hl,map_range,lefts,sum_scale,List.length_map]
 ok:=fun c hc=>by
  obtain⟨i,hi,rfl⟩:=List.mem_map.mp hc
  exact⟨Nat.le_refl _,List.mem_range.mp hi⟩
theorem tabF_ok (ws:List Nat):(tabF ws).length=ws.length∧∀c∈tabF ws,c.1≤ws.sum∧c.2<ws.length:=tabR_ok (tinv0 ws)
noncomputable def partT (tab:List (Nat×Nat))(hi j:Nat):Nat:=(tab.getD j (0,0)).1+((tab.filter fun c=>decide (c.2=j)).map fun c=>hi-c.1).sum
theorem sum_all0:∀{l:List Nat},(∀x∈l,x=0)→l.sum=0
 | [],_=>rfl
 | a::l,h=>by
  rw[List.sum_cons,h a List.mem_cons_self,sum_all0 fun x hx=>h x (List.mem_cons_of_mem _ hx)]
theorem filt_sum {α:Type}(p:α→Bool)(f:α→Nat):∀l:List α,((l.filter p).map f).sum=(l.map fun c=>if p c=true then f c else 0).sum
 | []=>rfl
 | a::l=>by
  have ih:=filt_sum p f l
  by_cases h:p a=true
  ·rw[List.filter_cons_of_pos h,List.map_cons,List.sum_cons,List.map_cons,List.sum_cons,ih,if_pos h]
  ·rw[List.filter_cons_of_neg h,List.map_cons,List.sum_cons,ih,if_neg h,Nat.zero_add]
theorem sum_set {α:Type}(f:α→Nat)(v:α):∀(l:List α)(s:Nat)(x:α),l[s]?=some x→((l.set s v).map f).sum+f x=(l.map f).sum+f v
 | [],s,x,h=>by cases h
 | a::l,0,x,h=>by
  have:a=x:=by simpa using h
  subst this
  simp only[List.set_cons_zero,List.map_cons,List.sum_cons]
  omega
 | a::l,s+1,x,h=>by
  have ih:=sum_set f v l s x (by simpa using h)
  simp only[List.set_cons_succ,List.map_cons,List.sum_cons]
  omega
theorem part_sum2 (tab:List (Nat×Nat))(hi j:Nat):partT tab hi j=(tab.getD j (0,0)).1+(tab.map fun c=>if decide (c.2=j)=true then hi-c.1 else 0).sum:=by
 unfold partT
 rw[filt_sum]
theorem part_set {tab:List (Nat×Nat)}{hi s x g:Nat}(hs:tab[s]?=some (hi,s))(j:Nat) :
  partT (tab.set s (x,g)) hi j+(if s=j then hi else 0)=partT tab hi j+(if s=j then x else 0)+(if g=j then hi-x else 0):=by
 have hl:s<tab.length:=(List.getElem?_eq_some_iff.mp hs).1
 have h1:=sum_set (fun c:Nat×Nat=>if decide (c.2=j)=true then hi-c.1 else 0) (x,g) tab s (hi,s) hs
 have z:(if decide (s=j)=true then hi-hi else 0)=0:=by split<;>omega
 dsimp only at h1
 rw[z]at h1
 rw[part_sum2,part_sum2]
 have e3:(if decide (g=j)=true then hi-x else 0)=(if g=j then hi-x else 0):=by
  by_cases c:g=j
  ·rw[if_pos (decide_eq_true c),if_pos c]
  ·rw[if_neg (by simpa using c),if_neg c]
 rw[e3]at h1
 by_cases c:s=j
 ·subst c
  have e1:(tab.set s (x,g)).getD s (0,0)=(x,g):=by rw[List.getD_eq_getElem?_getD,List.getElem?_set_self hl];rfl
  have e2:tab.getD s (0,0)=(hi,s):=by rw[List.getD_eq_getElem?_getD,hs];rfl
  rw[e1,e2,if_pos rfl,if_pos rfl]
  dsimp only
  omega
 ·have e1:(tab.set s (x,g)).getD j (0,0)=tab.getD j (0,0):=by rw[List.getD_eq_getElem?_getD,List.getD_eq_getElem?_getD,List.getElem?_set_ne c]
  rw[e1,if_neg c,if_neg c]
  omega
structure PInv (hi:Nat)(W:Nat→Nat)(m:Nat)(left sm gr:List Nat)(tab:List (Nat×Nat)):Prop where
 un:∀j∈sm++gr,tab[j]?=some (hi,j)
 open_:∀j∈sm++gr,partT tab hi j+left.getD j 0=W j+hi
 done:∀j,j<m→j∉sm++gr→partT tab hi j=W j
theorem PInv.step {hi m s g:Nat}{W:Nat→Nat}{left sm gr:List Nat}{tab:List (Nat×Nat)}(T:TInv hi m left (s::sm) (g::gr) tab)(h:PInv hi W m left (s::sm) (g::gr) tab){sm' gr':List Nat}(hm:∀j,j∈sm'++gr'↔(j≠s∧j∈(s::sm)++(g::gr))) :
  PInv hi W m (left.set g (left.getD g 0+left.getD s 0-hi)) sm' gr' (tab.set s (left.getD s 0,g)):=by
 have hs:=T.sml s List.mem_cons_self
 have hg:=T.grt g List.mem_cons_self
 have hgm:g∈(s::sm)++(g::gr):=by simp
 have hsm:s∈(s::sm)++(g::gr):=by simp
 have gs:g≠s:=fun e=>by rw[e]at hg;omega
 have hgl:g<left.length:=by rw[T.ll];exact T.lt g hgm
 have us:=h.un s hsm
 refine⟨fun j hj=>?_,fun j hj=>?_,fun j hjm hj=>?_⟩
 ·obtain⟨hne,hj⟩:=(hm j).mp hj
  rw[List.getElem?_set_ne (Ne.symm hne)]
  exact h.un j hj
 ·obtain⟨hne,hj⟩:=(hm j).mp hj
  have p:=part_set (x:=left.getD s 0) (g:=g) us j
  rw[if_neg (Ne.symm hne),if_neg (Ne.symm hne)]at p
  have o:=h.open_ j hj
  by_cases c:g=j
  ·subst c
   rw[if_pos rfl]at p
   rw[getD_set_eq hgl]
   omega
  ·rw[if_neg c]at p
   rw[getD_set_ne c]
   omega
 ·have p:=part_set (x:=left.getD s 0) (g:=g) us j
  by_cases c:s=j
  ·subst c
   rw[if_pos rfl,if_pos rfl,if_neg gs]at p
   have o:=h.open_ s hsm
   omega
  ·have hj':j∉(s::sm)++(g::gr):=fun y=>hj ((hm j).mpr ⟨Ne.symm c,y⟩)
   have cg:g≠j:=fun e=>hj' (by rw[←e];exact hgm)
   rw[if_neg c,if_neg c,if_neg cg]at p
   have o:=h.done j hjm hj'
   omega
theorem all_hi {f:Nat→Nat}{hi:Nat}:∀{l:List Nat},(∀i∈l,hi≤f i)→(l.map f).sum=hi*l.length→∀i∈l,f i=hi
 | [],_,_,i,h=>by cases h
 | a::l,h,e,i,hi'=>by
  have h1:=h a List.mem_cons_self
  have h2:hi*l.length≤(l.map f).sum:=by
   have:∀{l:List Nat},(∀i∈l,hi≤f i)→hi*l.length≤(l.map f).sum:=by
    intro l
    induction l with
    | nil=>intro _;simp
    | cons b l ih =>
     intro h
     have y1:=h b List.mem_cons_self
     have y2:=ih fun i hi=>h i (List.mem_cons_of_mem _ hi)
     rw[List.map_cons,List.sum_cons,List.length_cons,Nat.mul_add,Nat.mul_one]
     omega
   exact this fun i hi=>h i (List.mem_cons_of_mem _ hi)
  rw[List.map_cons,List.sum_cons,List.length_cons,Nat.mul_add,Nat.mul_one]at e
  rcases List.mem_cons.mp hi' with rfl|y
  ·omega
  ·exact all_hi (fun i hi=>h i (List.mem_cons_of_mem _ hi)) (by omega) i y
theorem mem_one {s g:Nat}{sm gr:List Nat}(nd:((s::sm)++(g::gr)).Nodup)(i:Nat):i∈(sm++[g])++gr↔(i≠s∧i∈(s::sm)++(g::gr)):=by
 rw[List.cons_append,List.nodup_cons]at nd
 simp only[List.mem_append,List.mem_cons,List.not_mem_nil,or_false,List.cons_append]at nd ⊢
 constructor
 ·intro y
  refine⟨fun e=>nd.1 ?_,?_⟩
  ·rw[e]at y
   rcases y with (y|y)|y
   ·exact .inl y
   ·exact .inr (.inl y)
   ·exact .inr (.inr y)
  ·rcases y with (y|y)|y<;>simp[y]
 ·rintro ⟨hne,y|y|y|y⟩
  ·exact absurd y hne
  ·exact .inl (.inl y)
  ·exact .inl (.inr y)
  ·exact .inr y
theorem mem_two {s g:Nat}{sm gr:List Nat}(nd:((s::sm)++(g::gr)).Nodup)(i:Nat):i∈sm++(g::gr)↔(i≠s∧i∈(s::sm)++(g::gr)):=by
 rw[List.cons_append,List.nodup_cons]at nd
 simp only[List.mem_append,List.mem_cons,List.cons_append]at nd ⊢
 constructor
 ·intro y
  refine⟨fun e=>nd.1 ?_,?_⟩
  ·rw[e]at y
   exact y
  ·rcases y with y|y|y<;>simp[y]
 ·rintro ⟨hne,y|y⟩
  ·exact absurd y hne
  ·exact y
theorem tabR_part {hi m:Nat}{W:Nat→Nat}:∀{n:Nat}{left sm gr:List Nat}{tab:List (Nat×Nat)},n=sm.length+gr.length→TInv hi m left sm gr tab→PInv hi W m left sm gr tab→∀j,j<m→partT (tabR hi n left sm gr tab) hi j=W j
 | 0,left,sm,gr,tab,hn,T,h,j,hj=>by
  have e1:sm=[]:=List.eq_nil_of_length_eq_zero (by omega)
  have e2:gr=[]:=List.eq_nil_of_length_eq_zero (by omega)
  subst e1 e2
  exact h.done j hj (by simp)
 | n+1,left,[],gr,tab,hn,T,h,j,hj=>by
  unfold tabR
  by_cases c:j∈[]++gr
  ·have o:=h.open_ j c
   have ah:=all_hi (f:=fun i=>left.getD i 0) T.grt (by have:=T.sum;simpa using this) j (by simpa using c)
   omega
  ·exact h.done j hj c
 | n+1,left,s::sm,[],tab,hn,T,h,j,hj=>by
  obtain⟨g,r,e⟩:=T.great
  cases e
 | n+1,left,s::sm,g::gr,tab,hn,T,h,j,hj=>by
  rw[tabR]
  split
  ·rename_i c
   exact tabR_part (by simp only[List.length_cons,List.length_append,List.length_nil]at hn ⊢;omega) (T.step.1 c) (h.step T (mem_one T.nd)) j hj
  ·rename_i c
   exact tabR_part (by simp only[List.length_cons]at hn ⊢;omega) (T.step.2 (by omega)) (h.step T (mem_two T.nd)) j hj
theorem range_part (ws:List Nat)(j:Nat):j∈smalls ws++greats ws↔j<ws.length:=by
 unfold smalls greats
 simp only[List.mem_append,List.mem_filter,List.mem_range,decide_eq_true_eq]
 omega
theorem pinv0 (ws:List Nat):PInv ws.sum (fun j=>ws.getD j 0*ws.length) ws.length (lefts ws) (smalls ws) (greats ws) (tab0 ws) where
 un:=fun j hj=>by
  have hj:=(range_part ws j).mp hj
  rw[tab0,List.getElem?_map,List.getElem?_range hj]
  rfl
 open_:=fun j hj=>by
  have hj:=(range_part ws j).mp hj
  have e1:(lefts ws).getD j 0=ws.getD j 0*ws.length:=by
   rw[lefts,List.getD_eq_getElem?_getD,List.getElem?_map,List.getElem?_eq_getElem hj,List.getD_eq_getElem?_getD,List.getElem?_eq_getElem hj]
   rfl
  have e2:(tab0 ws).getD j (0,0)=(ws.sum,j):=by
   rw[tab0,List.getD_eq_getElem?_getD,List.getElem?_map,List.getElem?_range hj]
   rfl
  have e3:((tab0 ws).map fun c=>if decide (c.2=j)=true then ws.sum-c.1 else 0).sum=0:=by
   rw[tab0,List.map_map]
   refine sum_all0 fun x hx=>?_
   obtain⟨i,_,rfl⟩:=List.mem_map.mp hx
   show(if decide (i=j)=true then ws.sum-ws.sum else 0)=0
   split<;>omega
  rw[part_sum2,e1,e2,e3]
  dsimp only
  omega
 done:=fun j hj hn=>absurd ((range_part ws j).mpr hj) hn
theorem tabF_part (ws:List Nat){j:Nat}(hj:j<ws.length):partT (tabF ws) ws.sum j=ws.getD j 0*ws.length:=tabR_part rfl (tinv0 ws) (pinv0 ws) j hj
theorem flt_succ (f:Nat→Bool)(i:Nat):(List.range (i+1)).filter f=(List.range i).filter f++(if f i=true then [i]else []):=by
 rw[List.range_succ,List.filter_append]
 by_cases h:f i=true
 ·rw[if_pos h,List.filter_cons_of_pos h]
  rfl
 ·rw[if_neg h,List.filter_cons_of_neg h]
  rfl
theorem flt_len (f:Nat→Bool)(i:Nat):((List.range i).filter f).length≤i:=Nat.le_trans (List.length_filter_le _ _) (by rw[List.length_range];exact Nat.le_refl _)
theorem flt_yes {f:Nat→Bool}{i:Nat}(h:f i=true):vnats ((List.range i).filter f)++[V.int (i:Int)]=vnats ((List.range (i+1)).filter f):=by
 rw[flt_succ,if_pos h,vnats_app]
 rfl
theorem flt_no {f:Nat→Bool}{i:Nat}(h:f i=false):vnats ((List.range i).filter f)=vnats ((List.range (i+1)).filter f):=by
 rw[flt_succ,if_neg (by rw[h];decide),List.append_nil]
theorem comp_enumL {K:PySem.W.Frag}{H:Hp}{l:Addr}{ns:List Nat}(hl:H l=some (.lst (vnats ns)))(hz:ns.length≤1000){g:TG}{tt:TT}{te:TE}{σ0:St}{Q:VK}(f:Nat→Bool)(Sg:St→Prop)(hs:Sg σ0)
  (step:∀(i:Nat)(p:Addr) σ H',i<ns.length→Same H H'→Sg σ→H' p=some (.tup [.int (i:Int),.int ((ns.getD i 0:Nat):Int)]) →
   g (.ref p) σ H' fun σ2 H3=>tt σ2 H3 fun b H4=>if b=true then te σ2 H4 fun y H5=>(Sg σ2∧Same H H5∧vnats ((List.range i).filter f)++[y]=vnats ((List.range (i+1)).filter f))else (Sg σ2∧Same H H4∧vnats ((List.range i).filter f)=vnats ((List.range (i+1)).filter f)))
  (fin:∀D H',H D=none→Same H H'→H' D=some (.lst (vnats ((List.range ns.length).filter f)))→Q (.ref D) H'):compW (IteL K l) g tt te σ0 H Q:=by
 refine⟨fun i m acc σ' H'=>m=ns.length-i∧i≤ns.length∧acc=vnats ((List.range i).filter f)∧Sg σ'∧Same H H',⟨_,rfl,Nat.zero_le _,rfl,hs,Same.refl _⟩,?_⟩
 rintro i m acc σ' H' ⟨rfl,hi,rfl,hσ,sH⟩
 have hl':=sH _ _ hl
 have hal:(vnats ((List.range i).filter f)).length≤1000:=by rw[vnats_len];exact Nat.le_trans (flt_len f i) (by omega)
 by_cases hlt:i<ns.length
 ·have hg:=vnats_at hlt
  refine .inr ⟨⟨_,_,SqL.of hl',hg⟩,smallL (by omega),fun acc' σ2 H2=>Sg σ2∧Same H H2∧acc'=vnats ((List.range (i+1)).filter f),?_,?_⟩
  ·rintro acc' σ2 H2 ⟨z1,z2,z3⟩
   exact⟨_,by omega,rfl,hlt,z3,z1,z2⟩
  ·rintro v H2 ⟨p,x,fp,rfl,rfl,ex⟩
   have ex':=ex _ (SqL.of hl')
   rw[hg]at ex'
   obtain rfl:=Option.some.inj ex'
   have s2:=same_new fp (.tup [V.int (i:Int),V.int ((ns.getD i 0:Nat):Int)])
   exact step i p σ' _ hlt (sH.trans s2) hσ upd_same
 ·have e:i=ns.length:=by omega
  subst e
  exact .inl ⟨⟨_,SqL.of hl',by rw[vnats_len];exact Nat.le_refl _⟩,small (by omega),fun D fD=>fin D _ (by
   cases z:H D with
   | none=>rfl
   | some o=>have:=sH _ _ z;rw[fD]at this;cases this) (sH.trans (same_new fD _)) upd_same⟩
theorem ne_of_some {H:Hp}{b c:Addr}{o:HO}(h:H b=none)(h':H c=some o):b≠c:=fun e=>by rw[e,h']at h;cases h
theorem tabR_nil {hi:Nat}:∀{n:Nat}{left gr:List Nat}{tab:List (Nat×Nat)},tabR hi n left [] gr tab=tab
 | 0,_,_,_=>rfl
 | n+1,_,_,_=>by unfold tabR;rfl
theorem idx_0 {x:V}{r:List V}:seqIndex? 0 (x::r).length=some 0:=by
 unfold seqIndex?
 simp
theorem at_v0 {x:V}{r:List V}:atI (x::r) 0=some x:=by
 show atI (x::r) ((0:Nat):Int)=some x
 exact atI_nat rfl
theorem left_take {ws:List Nat}{i:Nat}(h:i<ws.length):(lefts ws).take (i+1)=(lefts ws).take i++[ws.getD i 0*ws.length]:=by
 rw[List.take_add_one,lefts,List.getElem?_map,List.getElem?_eq_getElem h,List.getD_eq_getElem?_getD,List.getElem?_eq_getElem h]
 rfl
def Tab (H:Hp)(ps:List Addr)(tb:List (Nat×Nat)):Prop:=ps.length=tb.length∧∀(j:Nat) p c,ps[j]?=some p→tb[j]?=some c→H p=some (.tup [.int (c.1:Int),.int (c.2:Int)])
theorem Tab.same {H H':Hp}{ps:List Addr}{tb:List (Nat×Nat)}(h:Tab H ps tb)(s:∀c xs,H c=some (.tup xs)→H' c=some (.tup xs)):Tab H' ps tb:=⟨h.1,fun j p c e1 e2=>s _ _ (h.2 j p c e1 e2)⟩
def spTab:Sp:=fun vs H Q _=>∃(a:Addr)(ws:List Nat),vs=[.ref a]∧H a=some (.tup (vnats ws))∧ws.length≤1000∧∀p ps H',Same H H'→H' p=some (.tup (ps.map V.ref))→Tab H' ps (tabF ws)→Q (.ref p) H'
section
variable {P:Program}{w:World}{K:PySem.W.Frag}{mg:Str→Option Value}{base:Heap}{f:Addr}{fd:FuncData}
theorem ok_Y21 (F_Y21:Fun K "table_of" "table_of" s_Y21 f fd)(B:Bl mg):FnOk P w K mg base CX0 1 f fd p_Y21 spTab:=by
 refine F_Y21.ok sc_Y21 (fun vs H Q E h=>?_) (fun cdv A outer s H vs Q E hr h=>?_)
 ·obtain⟨a,ws,rfl,_⟩:=h
  rfl
 obtain⟨a,ws,rfl,hA,hz,q⟩:=h
 refine⟨_,(pss_cons (ps_set (i:=1) sc_Y21.nd rfl (Or.inr rfl) (pe_callB (call_sumT rfl) rfl B.sum_ L3.bt_sum (pa_cons (pv 0) pa_nil)))
   (pss_cons (ps_comp 2 [] ["weights","high","left","small","great","table","number","other","weight"] 1 rfl sc_Y21.nd rfl rfl (pi_tup (pv 0)) (fun _ _ _ _ _=>(pg_name (i:=8) nd_11 rfl (Or.inl rfl) (Or.inr rfl))) (fun _ _ _ _ _=>pif_nil) (fun _ _ _ _ _=>(pe_op op_mul (pv 8) (pe_callB (call_len_seqK K rfl) rfl B.len_ L3.bt_len (pa_cons (pv 0) pa_nil)))))
   (pss_cons (ps_comp 3 [6] ["weights","high","left","small","great","table","number","other","part"] 1 rfl sc_Y21.nd rfl rfl (pi_enumL rfl B.enumerate_ (pa_cons (pv 2) pa_nil)) (fun _ _ _ _ _=>(pg_tupK K 2 rfl (pgs_cons (pg_name (i:=6) nd_12 rfl (Or.inl rfl) (Or.inr rfl)) (pgs_cons (pg_name (i:=8) nd_12 rfl (Or.inl rfl) (Or.inr rfl)) pgs_nil)) rfl rfl rfl)) (fun _ _ _ _ _=>(pif_one (pt_cmpR op_lt (pv 8) (pv 1) (nomark _)))) (fun _ _ _ _ _=>(pv 6)))
   (pss_cons (ps_comp 4 [6] ["weights","high","left","small","great","table","number","other","part"] 1 rfl sc_Y21.nd rfl rfl (pi_enumL rfl B.enumerate_ (pa_cons (pv 2) pa_nil)) (fun _ _ _ _ _=>(pg_tupK K 2 rfl (pgs_cons (pg_name (i:=6) nd_13 rfl (Or.inl rfl) (Or.inr rfl)) (pgs_cons (pg_name (i:=8) nd_13 rfl (Or.inl rfl) (Or.inr rfl)) pgs_nil)) rfl rfl rfl)) (fun _ _ _ _ _=>(pif_one (pt_cmpR op_ge (pv 8) (pv 1) (nomark _)))) (fun _ _ _ _ _=>(pv 6)))
   (pss_cons (ps_comp 5 [6] ["weights","high","left","small","great","table","number","other"] 0 rfl sc_Y21.nd rfl rfl (pi_range1 rfl B.range_ (pa_cons (pe_callB (call_len_seqK K rfl) rfl B.len_ L3.bt_len (pa_cons (pv 0) pa_nil)) pa_nil)) (fun _ _ _ _ _=>(pg_name (i:=6) nd_14 rfl (Or.inl rfl) (Or.inr rfl))) (fun _ _ _ _ _=>pif_nil) (fun _ _ _ _ _=>(pe_tup (pa_cons (pv 1) (pa_cons (pv 6) pa_nil)))))
   (pss_cons (ps_while PassesOwn.never (pt_cmpR op_gt (pe_callB call_len_seq rfl B.len_ L3.bt_len (pa_cons (pv 3) pa_nil)) pe_int (nomark _)) (pss_cons (ps_set (i:=6) sc_Y21.nd rfl (Or.inl rfl) (pe_bm PySem.F.plainAttrs_list PySem.F.slot_list_pop PySem.F.type_list_pop mt_popAt (pv 3) (pa_cons pe_int pa_nil)))
   (pss_cons (ps_set (i:=7) sc_Y21.nd rfl (Or.inl rfl) (pe_ix ix_list (pv 4) pe_int (fun _ _=>rfl)))
   (pss_cons (ps_asg (pe_tup (pa_cons (pe_ix ix_list (pv 2) (pv 6) (fun _ _=>rfl)) (pa_cons (pv 7) pa_nil))) (pg_sub (pv 5) (pv 6) set_list))
   (pss_cons (ps_asg (pe_op op_sub (pe_ix ix_list (pv 2) (pv 7) (fun _ _=>rfl)) (pe_op op_sub (pv 1) (pe_ix ix_list (pv 2) (pv 6) (fun _ _=>rfl)))) (pg_sub (pv 2) (pv 7) set_list))
   (pss_one (ps_joinN (ps_if (pt_cmpR op_lt (pe_ix ix_list (pv 2) (pv 7) (fun _ _=>rfl)) (pv 1) (nomark _)) (pss_one (ps_expr (pe_bm PySem.F.plainAttrs_list PySem.F.slot_list_append PySem.F.type_list_append mt_append (pv 3) (pa_cons (pe_bm PySem.F.plainAttrs_list PySem.F.slot_list_pop PySem.F.type_list_pop mt_popAt (pv 4) (pa_cons pe_int pa_nil)) pa_nil)))) pss_nil))))))))
   (pss_one (ps_ret (pe_callTy call_tuple_of rfl B.tuple_ L3.bt_tuple (pa_cons (pv 5) pa_nil)))))))))),?_⟩
 have hAi:SqT K H a ((ws.map fun(n:Nat)=>(n:Int)).map V.int):=by rw[←vnats_ints];exact SqT.of hA
 refine⟨_,rfl,a,_,rfl,hAi,?_⟩
 rw[sum_nats]
 -- left
 refine⟨_,rfl,a,rfl,⟨_,SqT.of hA⟩,?_⟩
 refine⟨fun i m acc σ' H'=>m=ws.length-i∧i≤ws.length∧acc=vnats ((lefts ws).take i)∧H'=H∧∃o8:Option V,σ'=[some (.ref a),some (.int ((ws.sum:Nat):Int)),none,none,none,none,none,none,o8],⟨ws.length,rfl,Nat.zero_le _,rfl,rfl,_,rfl⟩,?_⟩
 rintro i m acc σ' H1 ⟨rfl,hi,rfl,rfl,o8,rfl⟩
 by_cases hli:i<ws.length
 ·have hg:=vnats_at hli
  refine .inr ⟨⟨_,_,SqT.of hA,hg⟩,smallL (by rw[vnats_len,List.length_take];omega),fun acc' σ2 H2=>acc'=vnats ((lefts ws).take (i+1))∧H2=H1∧∃o8:Option V,σ2=[some (.ref a),some (.int ((ws.sum:Nat):Int)),none,none,none,none,none,none,o8],?_,?_⟩
  ·rintro acc' σ2 H2 ⟨rfl,rfl,hσ⟩
   exact⟨ws.length-(i+1),by omega,rfl,hli,rfl,rfl,hσ⟩
  ·rintro v H2 ⟨rfl,ex⟩
   have ex':=ex _ (SqT.of hA)
   rw[hg]at ex'
   obtain rfl:=Option.some.inj ex'
   refine⟨_,rfl,_,rfl,a,_,rfl,.inr (SqT.of hA),_,_,rfl,rfl,?_,?_,rfl,_,rfl⟩
   ·rw[vnats_len]
    exact .inr ⟨by omega,by omega⟩
   ·show vnats ((lefts ws).take i)++[V.int (((ws.getD i 0:Nat):Int)*(((vnats ws).length:Nat):Int))]=_
    rw[vnats_len,left_take hli,vnats_app,←Int.natCast_mul]
    rfl
 have ei:i=ws.length:=by omega
 subst ei
 refine .inl ⟨⟨_,SqT.of hA,by rw[vnats_len];exact Nat.le_refl _⟩,small (by rw[vnats_len,List.length_take];omega),fun L fL=>?_⟩
 have hll:(lefts ws).length=ws.length:=by rw[lefts,List.length_map]
 rw[List.take_of_length_le (by omega)]
 have yL:=same_new fL (.lst (vnats (lefts ws)))
 have wL:(upd H1 L (.lst (vnats (lefts ws)))) L=some (.lst (vnats (lefts ws))):=upd_same
 generalize upd H1 L (.lst (vnats (lefts ws)))=G0 at yL wL ⊢
 -- small
 refine⟨_,rfl,L,rfl,⟨_,SqL.of wL⟩,comp_enumL wL (by omega) (fun i=>decide ((lefts ws).getD i 0<ws.sum)) (fun σ=>∃o6 o8:Option V,σ=[some (.ref a),some (.int ((ws.sum:Nat):Int)),some (.ref L),none,none,none,o6,none,o8]) ⟨_,_,rfl⟩ ?_ ?_⟩
 ·rintro j p σ2 H2 hj s2 ⟨o6,o8,rfl⟩ hp
  refine⟨p,_,rfl,SqT.of hp,rfl,_,_,rfl,_,_,rfl,rfl,?_⟩
  refine⟨_,rfl,_,rfl,_,_,rfl,rfl,_,rfl,?_⟩
  by_cases c:(lefts ws).getD j 0<ws.sum
  ·rw[decide_eq_true (by omega)]
   exact iteT ⟨_,rfl,⟨_,_,rfl⟩,s2,flt_yes (decide_eq_true c)⟩
  ·rw[decide_eq_false (by omega)]
   exact iteF ⟨⟨_,_,rfl⟩,s2,flt_no (decide_eq_false c)⟩
 intro S G1 fS y1 wS
 rw[hll]at wS
 have wL1:=y1 _ _ wL
 -- great
 refine⟨_,rfl,L,rfl,⟨_,SqL.of wL1⟩,comp_enumL wL1 (by omega) (fun i=>decide (ws.sum≤(lefts ws).getD i 0)) (fun σ=>∃o6 o8:Option V,σ=[some (.ref a),some (.int ((ws.sum:Nat):Int)),some (.ref L),some (.ref S),none,none,o6,none,o8]) ⟨_,_,rfl⟩ ?_ ?_⟩
 ·rintro j p σ2 H2 hj s2 ⟨o6,o8,rfl⟩ hp
  refine⟨p,_,rfl,SqT.of hp,rfl,_,_,rfl,_,_,rfl,rfl,?_⟩
  refine⟨_,rfl,_,rfl,_,_,rfl,rfl,_,rfl,?_⟩
  by_cases c:ws.sum≤(lefts ws).getD j 0
  ·rw[decide_eq_true (by omega)]
   exact iteT ⟨_,rfl,⟨_,_,rfl⟩,s2,flt_yes (decide_eq_true c)⟩
  ·rw[decide_eq_false (by omega)]
   exact iteF ⟨⟨_,_,rfl⟩,s2,flt_no (decide_eq_false c)⟩
 intro G G2 fG y2 wG
 rw[hll]at wG
 have sA:Same H1 G2:=yL.trans (y1.trans y2)
 have hA2:=sA _ _ hA
 -- table
 refine⟨_,rfl,a,_,rfl,.inr (SqT.of hA2),_,rfl,lo62 _,hi62 (by rw[vnats_len];omega),?_⟩
 rw[Int.toNat_natCast,vnats_len]
 refine⟨fun i2 mm acc σ' H'=>mm=ws.length-i2∧i2≤ws.length∧Same G2 H'∧(∃ps:List Addr,acc=ps.map V.ref∧ps.length=i2∧∀(j:Nat) p,ps[j]?=some p→H' p=some (.tup [.int ((ws.sum:Nat):Int),.int (j:Int)]))∧∃o6:Option V,σ'=[some (.ref a),some (.int ((ws.sum:Nat):Int)),some (.ref L),some (.ref S),some (.ref G),none,o6,none],
  ⟨ws.length,rfl,Nat.zero_le _,Same.refl _,⟨[],rfl,rfl,fun j p e=>by cases e⟩,_,rfl⟩,?_⟩
 rintro i2 mm acc σ' G3 ⟨rfl,hi2,s3,⟨ps,rfl,hpl,hps⟩,o6,rfl⟩
 by_cases hli:i2<ws.length
 ·refine .inr ⟨hli,smallL (by rw[List.length_map];omega),fun acc' σ2 H'=>Same G2 H'∧(∃ps:List Addr,acc'=ps.map V.ref∧ps.length=i2+1∧∀(j:Nat) p,ps[j]?=some p→H' p=some (.tup [.int ((ws.sum:Nat):Int),.int (j:Int)]))∧∃o6:Option V,σ2=[some (.ref a),some (.int ((ws.sum:Nat):Int)),some (.ref L),some (.ref S),some (.ref G),none,o6,none],?_,?_⟩
  ·rintro acc' σ2 H' ⟨z1,z2,z3⟩
   exact⟨ws.length-(i2+1),by omega,rfl,hli,z1,z2,z3⟩
  ·rintro v H' ⟨rfl,rfl⟩
   refine⟨_,rfl,_,rfl,(by show 2≤sizeLine;decide),fun p fp=>?_⟩
   have y:=same_new fp (.tup [V.int ((ws.sum:Nat):Int),V.int (0+(i2:Int))])
   refine⟨s3.trans y,⟨ps++[p],by rw[List.map_append];rfl,by rw[List.length_append,hpl];rfl,fun j p' e=>?_⟩,_,rfl⟩
   by_cases hj:j<ps.length
   ·rw[List.getElem?_append_left hj]at e
    exact y _ _ (hps j p' e)
   ·rw[List.getElem?_append_right (by omega)]at e
    have hj2:j=i2:=by
     have:=(List.getElem?_eq_some_iff.mp e).1
     simp only[List.length_cons,List.length_nil]at this
     omega
    subst hj2
    rw[hpl,Nat.sub_self]at e
    cases e
    rw[upd_same,Int.zero_add]
 have ei:i2=ws.length:=by omega
 subst ei
 refine .inl ⟨Nat.le_refl _,small (by rw[List.length_map];omega),fun T fT=>?_⟩
 have yT:=same_new fT (.lst (ps.map V.ref))
 have wT:(upd G3 T (.lst (ps.map V.ref))) T=some (.lst (ps.map V.ref)):=upd_same
 have fT2:=fT
 generalize upd G3 T (.lst (ps.map V.ref))=G4 at yT wT ⊢
 have s24:=s3.trans yT
 have wL4:=s24 _ _ (y2 _ _ wL1)
 have wS4:=s24 _ _ (y2 _ _ wS)
 have wG4:=s24 _ _ wG
 have hTab:Tab G4 ps (tab0 ws):=⟨by rw[hpl,tab0,List.length_map,List.length_range],fun j p c e1 e2=>by
  have hj:j<ws.length:=by rw[←hpl];exact(List.getElem?_eq_some_iff.mp e1).1
  rw[tab0,List.getElem?_map,List.getElem?_range hj]at e2
  cases e2
  exact yT _ _ (hps j p e1)⟩
 have s04:Same H1 G4:=sA.trans s24
 -- unlike,and all new
 have nLS:S≠L:=ne_of_some fS wL
 have nLG:G≠L:=ne_of_some fG wL1
 have nSG:G≠S:=ne_of_some fG wS
 have fT4:∀{c o},G3 c=some o→T≠c:=fun {c o} h e=>by rw[←e,fT]at h;cases h
 have nTL:T≠L:=fT4 (s3 _ _ (y2 _ _ wL1))
 have nTS:T≠S:=fT4 (s3 _ _ (y2 _ _ wS))
 have nTG:T≠G:=fT4 (s3 _ _ wG)
 have bk:∀{c:Addr}{Ga:Hp},Same H1 Ga→Ga c=none→H1 c=none:=fun {c Ga} s h=>by
  cases z:H1 c with
  | none=>rfl
  | some o=>have:=s _ _ z;rw[h]at this;cases this
 have fS1:=bk yL fS
 have fG1:=bk (yL.trans y1) fG
 have fT1:=bk (sA.trans s3) fT
 obtain⟨W,hW⟩:∃W:Nat→St→Hp→Prop,W=fun m σ' H'=>∃(left sm gr:List Nat)(tab:List (Nat×Nat))(qs:List Addr)(o6 o7:Option V),σ'=[some (.ref a),some (.int ((ws.sum:Nat):Int)),some (.ref L),some (.ref S),some (.ref G),some (.ref T),o6,o7]∧TInv ws.sum ws.length left sm gr tab∧m=sm.length+gr.length∧m≤ws.length∧tabR ws.sum m left sm gr tab=tabF ws∧H' L=some (.lst (vnats left))∧H' S=some (.lst (vnats sm))∧H' G=some (.lst (vnats gr))∧H' T=some (.lst (qs.map V.ref))∧Tab H' qs tab∧Same H1 H' :=⟨_,rfl⟩
 refine⟨W,⟨(smalls ws).length+(greats ws).length,by rw[hW];exact⟨lefts ws,smalls ws,greats ws,tab0 ws,ps,_,_,rfl,tinv0 ws,rfl,by rw[smalls,greats,part_len,List.length_range];exact Nat.le_refl _,rfl,wL4,wS4,wG4,wT,hTab,s04⟩⟩,fun m σ' H2 hw=>?_⟩
 rw[hW]at hw
 obtain⟨left,sm,gr,tab,qs,o6',o7,rfl,hI,rfl,hml,hR,hL,hS,hG,hT,hB,s2⟩:=hw
 clear wL4 wS4 wG4 wT hTab s04 fT4 bk
 refine⟨_,rfl,S,_,rfl,.inl (SqL.of hS),_,_,rfl,rfl,_,rfl,?_⟩
 rw[vnats_len]
 cases sm with
 | nil =>
  rw[show decide (((([]:List Nat).length:Nat):Int)>0)=false from rfl]
  refine iteF ⟨_,rfl,T,_,rfl,.inl ⟨SqL.of hT,fun t ft=>q t qs _ (s2.trans (same_new ft _)) upd_same ?_⟩⟩
  rw[←hR,tabR_nil]
  exact hB.same fun c xs e=>same_new ft _ _ _ e
 | cons s0 sm =>
  obtain⟨g,gr,rfl⟩:=hI.great
  rw[show decide ((((s0::sm).length:Nat):Int)>0)=true from decide_eq_true (by rw[List.length_cons];omega)]
  refine iteT ⟨W (sm.length+gr.length+1),fun σ' H' h=>⟨_,by rw[List.length_cons,List.length_cons];omega,h⟩,?_⟩
  have hsm:s0<ws.length:=hI.lt s0 (by simp)
  have hgm:g<ws.length:=hI.lt g (by simp)
  have hsl:s0<left.length:=by rw[hI.ll];exact hsm
  have hgl:g<left.length:=by rw[hI.ll];exact hgm
  have hge:ws.sum≤left.getD g 0:=hI.grt g (by simp)
  have hql:qs.length=ws.length:=by rw[hB.1,hI.tl]
  -- number
  refine⟨_,rfl,.inl ⟨rfl,_,SqL.of hS⟩,S,_,0,0,_,rfl,rfl,hS,by decide,by decide,idx_0,rfl,?_⟩
  have hS3:(upd H2 S (.lst ((vnats (s0::sm)).eraseIdx 0))) S=some (.lst (vnats sm)):=upd_same
  have u3:∀{c},c≠S→(upd H2 S (.lst ((vnats (s0::sm)).eraseIdx 0))) c=H2 c:=fun {c} h=>upd_ne h
  generalize upd H2 S (.lst ((vnats (s0::sm)).eraseIdx 0))=H3 at hS3 u3 ⊢
  have hG3:H3 G=_:=(u3 nSG).trans hG
  have hL3:H3 L=_:=(u3 nLS.symm).trans hL
  have hT3:H3 T=_:=(u3 nTS).trans hT
  -- other
  refine⟨_,rfl,G,_,_,_,rfl,rfl,SqL.of hG3,at_v0,?_⟩
  -- the column
  refine⟨_,rfl,_,rfl,L,_,_,_,rfl,rfl,SqL.of hL3,atI_nat (vnats_at hsl),_,rfl,(by show 2≤sizeLine;decide),fun p fp=>?_⟩
  have hP4:(upd H3 p (.tup [V.int ((left.getD s0 0:Nat):Int),V.int (g:Int)])) p=some (.tup [V.int ((left.getD s0 0:Nat):Int),V.int (g:Int)]):=upd_same
  have u4:∀{c},c≠p→(upd H3 p (.tup [V.int ((left.getD s0 0:Nat):Int),V.int (g:Int)])) c=H3 c:=fun {c} h=>upd_ne h
  generalize upd H3 p (.tup [V.int ((left.getD s0 0:Nat):Int),V.int (g:Int)])=H4 at hP4 u4 ⊢
  have np:∀{c o},H3 c=some o→c≠p:=fun {c o} h e=>by rw[e,fp]at h;cases h
  have hS4:H4 S=_:=(u4 (np hS3)).trans hS3
  have hG4:H4 G=_:=(u4 (np hG3)).trans hG3
  have hL4:H4 L=_:=(u4 (np hL3)).trans hL3
  have hT4:H4 T=_:=(u4 (np hT3)).trans hT3
  refine⟨_,rfl,_,rfl,T,_,_,s0,rfl,rfl,hT4,ixN_nat (by rw[List.length_map,hql];exact hsm),?_⟩
  have hT5:(upd H4 T (.lst ((qs.map V.ref).set s0 (V.ref p)))) T=some (.lst ((qs.set s0 p).map V.ref)):=by rw[upd_same,List.map_set]
  have u5:∀{c},c≠T→(upd H4 T (.lst ((qs.map V.ref).set s0 (V.ref p)))) c=H4 c:=fun {c} h=>upd_ne h
  generalize upd H4 T (.lst ((qs.map V.ref).set s0 (V.ref p)))=H5 at hT5 u5 ⊢
  have hS5:H5 S=_:=(u5 nTS.symm).trans hS4
  have hG5:H5 G=_:=(u5 nTG.symm).trans hG4
  have hL5:H5 L=_:=(u5 nTL.symm).trans hL4
  -- what is left of the other
  refine⟨_,rfl,_,rfl,L,_,_,_,rfl,rfl,SqL.of hL5,atI_nat (vnats_at hgl),_,rfl,_,rfl,_,rfl,L,_,_,_,rfl,rfl,SqL.of hL5,atI_nat (vnats_at hsl),_,_,rfl,rfl,_,_,rfl,rfl,?_⟩
  refine⟨_,rfl,_,rfl,L,_,_,g,rfl,rfl,hL5,ixN_nat (by rw[vnats_len];exact hgl),?_⟩
  have ed:((left.getD g 0:Nat):Int)-(((ws.sum:Nat):Int)-((left.getD s0 0:Nat):Int))=((left.getD g 0+left.getD s0 0-ws.sum:Nat):Int):=by omega
  dsimp only
  rw[ed,vnats_set]
  have hL6:(upd H5 L (.lst (vnats (left.set g (left.getD g 0+left.getD s0 0-ws.sum))))) L=some (.lst (vnats (left.set g (left.getD g 0+left.getD s0 0-ws.sum)))):=upd_same
  have u6:∀{c},c≠L→(upd H5 L (.lst (vnats (left.set g (left.getD g 0+left.getD s0 0-ws.sum))))) c=H5 c:=fun {c} h=>upd_ne h
  generalize upd H5 L (.lst (vnats (left.set g (left.getD g 0+left.getD s0 0-ws.sum))))=H6 at hL6 u6 ⊢
  have hS6:H6 S=_:=(u6 nLS).trans hS5
  have hG6:H6 G=_:=(u6 nLG).trans hG5
  have hT6:H6 T=_:=(u6 nTL).trans hT5
  have tp6:∀c xs,H2 c=some (.tup xs)→H6 c=some (.tup xs):=fun c xs e=>by
   have n1:c≠S:=fun z=>by rw[z,hS]at e;cases e
   have n2:c≠T:=fun z=>by rw[z,hT]at e;cases e
   have n3:c≠L:=fun z=>by rw[z,hL]at e;cases e
   have e3:H3 c=_:=(u3 n1).trans e
   exact(u6 n3).trans ((u5 n2).trans ((u4 (np e3)).trans e3))
  have s6:Same H1 H6:=fun c o e=>by
   have e2:=s2 _ _ e
   have n1:c≠S:=fun z=>by rw[z,fS1]at e;cases e
   have n2:c≠T:=fun z=>by rw[z,fT1]at e;cases e
   have n3:c≠L:=fun z=>by rw[z,fL]at e;cases e
   have e3:H3 c=_:=(u3 n1).trans e2
   exact(u6 n3).trans ((u5 n2).trans ((u4 (np e3)).trans e3))
  have hp6:H6 p=some (.tup [V.int ((left.getD s0 0:Nat):Int),V.int (g:Int)]):=(u6 (np hL3).symm).trans ((u5 (np hT3).symm).trans hP4)
  have hB6:Tab H6 (qs.set s0 p) (tab.set s0 (left.getD s0 0,g)):=⟨by rw[List.length_set,List.length_set];exact hB.1,fun j p' c e1 e2=>by
   by_cases hj:s0=j
   ·subst hj
    rw[List.getElem?_set_self (by rw[hql];exact hsm)]at e1
    rw[List.getElem?_set_self (by rw[hI.tl];exact hsm)]at e2
    cases e1
    cases e2
    exact hp6
   ·rw[List.getElem?_set_ne hj]at e1 e2
    exact tp6 _ _ (hB.2 j p' c e1 e2)⟩
  have hlen:(s0::sm).length+(g::gr).length=(sm.length+gr.length+1)+1:=by rw[List.length_cons,List.length_cons];omega
  rw[hlen]at hR hml
  rw[tabR]at hR
  have hst:=hI.step
  refine⟨W (sm.length+gr.length+1),fun _ _ h=>h,_,rfl,_,rfl,L,_,_,_,rfl,rfl,SqL.of hL6,atI_nat (vnats_at (by rw[List.length_set];exact hgl)),_,rfl,_,_,rfl,rfl,_,rfl,?_⟩
  rw[getD_set_eq hgl]
  by_cases c:left.getD g 0+left.getD s0 0-ws.sum<ws.sum
  ·rw[decide_eq_true (by omega)]
   rw[if_pos c]at hR
   refine iteT ⟨_,rfl,.inl ⟨rfl,_,SqL.of hS6⟩,_,rfl,.inl ⟨rfl,_,SqL.of hG6⟩,G,_,0,0,_,rfl,rfl,hG6,by decide,by decide,idx_0,rfl,?_⟩
   have hG7:(upd H6 G (.lst ((vnats (g::gr)).eraseIdx 0))) G=some (.lst (vnats gr)):=upd_same
   have u7:∀{c},c≠G→(upd H6 G (.lst ((vnats (g::gr)).eraseIdx 0))) c=H6 c:=fun {c} h=>upd_ne h
   generalize upd H6 G (.lst ((vnats (g::gr)).eraseIdx 0))=H7 at hG7 u7 ⊢
   have hS7:H7 S=_:=(u7 nSG.symm).trans hS6
   refine⟨S,_,_,rfl,rfl,hS7,smallL (by rw[vnats_len];omega),?_⟩
   have hS8:(upd H7 S (.lst (vnats sm++[V.int (g:Int)]))) S=some (.lst (vnats (sm++[g]))):=by
    rw[upd_same,vnats_app]
    rfl
   have u8:∀{c},c≠S→(upd H7 S (.lst (vnats sm++[V.int (g:Int)]))) c=H7 c:=fun {c} h=>upd_ne h
   generalize upd H7 S (.lst (vnats sm++[V.int (g:Int)]))=H8 at hS8 u8 ⊢
   have k8:∀{c o},c≠S→c≠G→H6 c=some o→H8 c=some o:=fun {c o} n1 n2 e=>(u8 n1).trans ((u7 n2).trans e)
   have hG8:H8 G=_:=(u8 nSG).trans hG7
   show W (sm.length+gr.length+1) _ H8
   rw[hW]
   refine⟨_,sm++[g],gr,_,qs.set s0 p,_,_,rfl,hst.1 c,by rw[List.length_append];show _=sm.length+1+_;omega,by omega,hR,k8 nLS.symm nLG.symm hL6,hS8,hG8,k8 nTS nTG hT6,hB6.same fun c xs e=>k8 (fun z=>by rw[z,hS6]at e;cases e) (fun z=>by rw[z,hG6]at e;cases e) e,fun c o e=>?_⟩
   exact k8 (fun z=>by rw[z,fS1]at e;cases e) (fun z=>by rw[z,fG1]at e;cases e) (s6 _ _ e)
  ·rw[decide_eq_false (by omega)]
   rw[if_neg c]at hR
   refine iteF ?_
   show W (sm.length+gr.length+1) _ H6
   rw[hW]
   exact⟨_,sm,g::gr,_,qs.set s0 p,_,_,rfl,hst.2 (by omega),by rw[List.length_cons];omega,by omega,hR,hL6,hS6,hG6,hT6,hB6,s6⟩
end
def TabAt (H:Hp)(p:Addr)(tab:List (Nat×Nat)):Prop:=∃ps:List Addr,H p=some (.tup (ps.map V.ref))∧Tab H ps tab
theorem TabAt.at {H : Hp} {p : Addr} {tab : List (Nat × Nat)} (h : TabAt H p tab) {j : Nat} (hj : j < tab.length) : ∃ (ps : List Addr) (c : Addr),H p = some (.tup (ps.map V.ref))∧atI (ps.map V.ref) (j : Int) = some (.ref c)∧H c = some (.tup [.int ((tab.getD j (0,0)).1 : Int), .int ((tab.getD j (0,0)).2 : Int)]):=by
  obtain ⟨ps,h1,h2,h3⟩:=h
  have hp : j < ps.length:=by omega
  refine ⟨ps,ps[j],h1,atI_nat (by rw [List.getElem?_map,List.getElem?_eq_getElem hp]; rfl), ?_⟩
  have:=h3 j _ _ (List.getElem?_eq_getElem hp) (List.getElem?_eq_getElem hj)
  rw [List.getD_eq_getElem?_getD,List.getElem?_eq_getElem hj]
  exact this
theorem TabAt.same {H H':Hp}{p:Addr}{tab:List (Nat×Nat)}(h:TabAt H p tab)(s:Same H H'):TabAt H' p tab:=by
 obtain⟨ps,h1,h2⟩:=h
 exact⟨ps,s _ _ h1,h2.same fun c xs e=>s _ _ e⟩
noncomputable def accT (tab:List (Nat×Nat))(hi i j:Nat):Nat:=(if j<i then (tab.getD j (0,0)).1 else 0)+(((tab.take i).filter fun c=>decide (c.2=j)).map fun c=>hi-c.1).sum
theorem accT_succ {tab:List (Nat×Nat)}{hi i:Nat}{c:Nat×Nat}(h:tab[i]?=some c)(j:Nat):accT tab hi (i+1) j=accT tab hi i j+(if j=i then c.1 else 0)+(if j=c.2 then hi-c.1 else 0):=by
 unfold accT
 have tk:tab.take (i+1)=tab.take i++[c]:=by rw[List.take_add_one,h];rfl
 rw[tk,List.filter_append,List.map_append,List.sum_append]
 have e1:(([c].filter fun d=>decide (d.2=j)).map fun d=>hi-d.1).sum=if j=c.2 then hi-c.1 else 0:=by
  by_cases e:j=c.2
  ·rw[if_pos e,List.filter_cons_of_pos (by simp[e])]
   rfl
  ·rw[if_neg e,List.filter_cons_of_neg (by simpa using Ne.symm e)]
   rfl
 rw[e1]
 by_cases e:j=i
 ·subst e
  rw[if_pos (show j<j+1 by omega),if_neg (show ¬j<j by omega),if_pos rfl,List.getD_eq_getElem?_getD,h]
  show c.1+_=_
  omega
 ·rw[if_neg e]
  by_cases l:j<i
  ·rw[if_pos l,if_pos (by omega)];omega
  ·rw[if_neg l,if_neg (by omega)];omega
theorem accT_all {tab:List (Nat×Nat)}{hi j:Nat}(h:j<tab.length):accT tab hi tab.length j=partT tab hi j:=by
 unfold accT partT
 rw[if_pos h,List.take_length]
def Dn (kvs:List (Key×V))(F:Nat→Nat):Prop:=∀j:Nat,(valV kvs (.inl (j:Int))).getD (.int 0)=.int ((F j:Nat):Int)
theorem Dn.put {kvs:List (Key×V)}{F:Nat→Nat}(h:Dn kvs F)(i x:Nat):Dn (putK kvs (.inl (i:Int)) (.int (x:Int))) (fun j=>if j=i then x else F j):=fun j=>by
 rw[valV_put]
 dsimp only
 by_cases e:j=i
 ·subst e
  rw[if_pos rfl,if_pos rfl]
  rfl
 ·rw[if_neg e,if_neg (fun z=>by injection z with z;omega)]
  exact h j
theorem Dn.congr {kvs:List (Key×V)}{F G:Nat→Nat}(h:Dn kvs F)(e:∀j,F j=G j):Dn kvs G:=fun j=>by rw[←e j];exact h j
theorem put_some {kvs:List (Key×V)}{k j:Key}{v:V}(h:(valV kvs j).isSome=true):(valV (putK kvs k v) j).isSome=true:=by
 rw[valV_put]
 split
 ·rfl
 ·exact h
def spParts:Sp:=fun vs H Q _=>∃(p:Addr)(tab:List (Nat×Nat))(hi:Nat),vs=[.ref p,.int (hi:Int)]∧TabAt H p tab∧(∀c∈tab,c.1≤hi)∧tab.length≤1000 ∧
 ∀L H',Same H H'→H' L=some (.lst (vnats ((List.range tab.length).map (partT tab hi))))→Q (.ref L) H'
section
variable {P:Program}{w:World}{K:PySem.W.Frag}{mg:Str→Option Value}{base:Heap}{f:Addr}{fd:FuncData}
theorem ok_Y23 (F_Y23:Fun K "parts_of" "parts_of" s_Y23 f fd)(B:Bl mg):FnOk P w K mg base CX0 1 f fd p_Y23 spParts:=by
 refine F_Y23.ok sc_Y23 (fun vs H Q E h=>?_) (fun cdv A outer s H vs Q E hr h=>?_)
 ·obtain⟨p,tab,hi,rfl,_⟩:=h
  rfl
 obtain⟨p,tab,hi,rfl,hP,hc,hz,q⟩:=h
 refine⟨_,(pss_cons (ps_set (i:=2) sc_Y23.nd rfl (Or.inr rfl) pe_dnewK)
   (pss_cons (ps_for PassesOwn.never rfl (pi_enumT rfl B.enumerate_ (pa_cons (pv 0) pa_nil)) (pg_tup rfl (pgs_cons (pg_name (i:=3) sc_Y23.nd rfl (Or.inl rfl)) (pgs_cons (pg_name (i:=4) sc_Y23.nd rfl (Or.inl rfl)) pgs_nil))) (pss_cons (ps_set (i:=5) sc_Y23.nd rfl (Or.inl rfl) (pe_callB (call_max2 rfl) rfl B.max_ L3.bt_max (pa_cons pe_int (pa_cons (pe_callB (call_min2 rfl) rfl B.min_ L3.bt_min (pa_cons (pe_ix ix_tup (pv 4) pe_int (fun _ _=>rfl)) (pa_cons (pv 1) pa_nil))) pa_nil))))
   (pss_cons (ps_dput hr.units1 (pv 2) (pv 3) (pe_op op_add (pe_dget2 hr.units1 (pv 2) (pv 3) pe_int ⟨rfl,rfl,rfl,rfl⟩) (pv 5)) rfl)
   (pss_one (ps_dput hr.units1 (pv 2) (pe_ix ix_tup (pv 4) pe_int (fun _ _=>rfl)) (pe_op op_sub (pe_op op_add (pe_dget2 hr.units1 (pv 2) (pe_ix ix_tup (pv 4) pe_int (fun _ _=>rfl)) pe_int ⟨rfl,rfl,rfl,rfl⟩) (pv 1)) (pv 5)) rfl)))))
   (pss_one (ps_ret (pe_comp [3] ["table","high","parts","number","column","below"] 0 rfl (pi_range1 rfl B.range_ (pa_cons (pe_callB (call_len_seqK K rfl) rfl B.len_ L3.bt_len (pa_cons (pv 0) pa_nil)) pa_nil)) (fun _ _ _ _ _=>(pg_name (i:=3) nd_15 rfl (Or.inl rfl) (Or.inr rfl))) (fun _ _ _ _ _=>pif_nil) (fun _ _ _ _ _=>(pe_dget hr.units1 (pv 2) (pv 3) (fun _ _=>rfl)))))))),?_⟩
 refine fun d fd'=>?_
 have yd:=same_new fd' (.dK [])
 have wd:(upd H d (.dK [])) d=some (.dK []):=upd_same
 generalize upd H d (.dK [])=H1 at yd wd ⊢
 obtain⟨ps,hp1,hp2,hp3⟩:=id hP
 refine⟨_,rfl,p,rfl,⟨_,SqT.of (yd _ _ hp1)⟩,for_enum (xs:=ps.map V.ref) (fun i σ' H'=>∃(kvs:List (Key×V))(o3 o4 o5:Option V),σ'=[some (.ref p),some (.int (hi:Int)),some (.ref d),o3,o4,o5]∧Same H H'∧H' d=some (.dK kvs)∧Dn kvs (accT tab hi i)∧(∀j:Nat,j<i→(valV kvs (.inl (j:Int))).isSome=true)∧kvs.length≤2*i)
  ⟨[],_,_,_,rfl,yd,wd,fun j=>rfl,fun j hj=>absurd hj (Nat.not_lt_zero _),Nat.le_refl _⟩ (fun i σ' H' _ ⟨_,_,_,_,_,s',_⟩=>SqT.of (s' _ _ hp1)) ?_ ?_⟩
 ·rintro i x σ' H' q' hx ⟨kvs,o3,o4,o5,rfl,s',hd,hD,hsm,hkl⟩ fq
  rw[List.getElem?_map]at hx
  cases ex:ps[i]? with
  | none=>rw[ex]at hx;cases hx
  | some c =>
   rw[ex]at hx
   obtain rfl:V.ref c=x:=Option.some.inj hx
   have hi':i<tab.length:=by rw[←hp2];exact(List.getElem?_eq_some_iff.mp ex).1
   have et:=List.getElem?_eq_getElem hi'
   have hcm:=hc _ (List.getElem_mem hi')
   have hC:=hp3 i c _ ex et
   generalize tab[i]=e at et hcm hC
   have yq:=same_new fq (.tup [V.int (i:Int),V.ref c])
   have wq:(upd H' q' (.tup [V.int (i:Int),V.ref c])) q'=some (.tup [V.int (i:Int),V.ref c]):=upd_same
   generalize upd H' q' (.tup [V.int (i:Int),V.ref c])=H2 at yq wq ⊢
   have hd2:=yq _ _ hd
   have hC2:=yq _ _ (s' _ _ hC)
   refine⟨q',_,rfl,SqT.of wq,rfl,_,_,rfl,_,_,rfl,rfl,?_⟩
   refine⟨_,rfl,c,_,_,_,rfl,rfl,SqT.of hC2,rfl,_,rfl,_,_,rfl,_,_,rfl,?_⟩
   have e1:(if (if (hi:Int)<(e.1:Int)then (hi:Int)else (e.1:Int))>0 then (if (hi:Int)<(e.1:Int)then (hi:Int)else (e.1:Int))else 0)=(e.1:Int):=by
    rw[if_neg (show ¬(hi:Int)<(e.1:Int)by omega)]
    split<;>omega
   rw[e1]
   refine⟨_,rfl,d,rfl,.inl ⟨_,.inl hd2⟩,_,rfl,_,DGet.k (k:=.inl (i:Int)) hd2,_,rfl,_,_,hD i,rfl,?_⟩
   refine⟨_,rfl,_,rfl,d,_,rfl,DPut.k (k:=.inl (i:Int)) hd2 (smallL (by omega)),?_⟩
   have hD3:=hD.put i (accT tab hi i i+e.1)
   have hl3:=length_putK kvs (.inl (i:Int)) (V.int ((accT tab hi i i:Nat)+(e.1:Nat):Int))
   have hs3:∀j:Nat,j<i+1→(valV (putK kvs (.inl (i:Int)) (V.int ((accT tab hi i i:Nat)+(e.1:Nat):Int))) (.inl (j:Int))).isSome=true:=fun j hj=>by
    by_cases ej:j=i
    ·rw[valV_put,if_pos (by rw[ej])]
     rfl
    ·exact put_some (hsm j (by omega))
   have hd3:(upd H2 d (.dK (putK kvs (.inl (i:Int)) (V.int ((accT tab hi i i:Nat)+(e.1:Nat):Int))))) d=some (.dK (putK kvs (.inl (i:Int)) (V.int ((accT tab hi i i:Nat)+(e.1:Nat):Int)))):=upd_same
   have u3:∀{b},b≠d→(upd H2 d (.dK (putK kvs (.inl (i:Int)) (V.int ((accT tab hi i i:Nat)+(e.1:Nat):Int))))) b=H2 b:=fun {b} h=>upd_ne h
   rw[Int.natCast_add]at hD3
   generalize upd H2 d (.dK (putK kvs (.inl (i:Int)) (V.int ((accT tab hi i i:Nat)+(e.1:Nat):Int))))=H3 at hd3 u3 ⊢
   generalize putK kvs (.inl (i:Int)) (V.int ((accT tab hi i i:Nat)+(e.1:Nat):Int))=kvs3 at hd3 hD3 hl3 hs3
   have hC3:H3 c=_:=(u3 (fun z=>by rw[z,hd2]at hC2;cases hC2)).trans hC2
   refine⟨_,rfl,d,rfl,.inl ⟨_,.inl hd3⟩,_,rfl,c,_,_,_,rfl,rfl,SqT.of hC3,rfl,_,DGet.k (k:=.inl (e.2:Int)) hd3,_,rfl,_,_,hD3 e.2,rfl,_,rfl,_,_,rfl,rfl,?_⟩
   refine⟨_,rfl,_,rfl,c,_,_,_,rfl,rfl,SqT.of hC3,rfl,d,_,rfl,DPut.k (k:=.inl (e.2:Int)) hd3 (smallL (by omega)),?_⟩
   have ev:(((if e.2=i then accT tab hi i i+e.1 else accT tab hi i e.2:Nat):Int)+(hi:Int)-(e.1:Int))=(((if e.2=i then accT tab hi i i+e.1 else accT tab hi i e.2)+(hi-e.1):Nat):Int):=by omega
   dsimp only
   rw[ev]
   have hD4:=hD3.put e.2 ((if e.2=i then accT tab hi i i+e.1 else accT tab hi i e.2)+(hi-e.1))
   refine⟨_,_,_,_,rfl,?_,upd_same,hD4.congr fun j=>?_,fun j hj=>put_some (hs3 j hj),Nat.le_trans (length_putK _ _ _) (by omega)⟩
   ·intro b o hb
    have nb:b≠d:=ne_of_none hb fd'
    rw[upd_ne nb,u3 nb]
    exact yq _ _ (s' _ _ hb)
   ·rw[accT_succ et j]
    by_cases j1:j=e.2
    ·subst j1
     rw[if_pos rfl,if_pos rfl]
     by_cases j2:e.2=i
     ·rw[if_pos j2,if_pos j2,j2]
     ·rw[if_neg j2,if_neg j2]
      omega
    ·rw[if_neg j1,if_neg j1]
     by_cases j2:j=i
     ·subst j2
      rw[if_pos rfl,if_pos rfl]
      omega
     ·rw[if_neg j2,if_neg j2]
      omega
 rintro σ' H' ⟨kvs,o3,o4,o5,rfl,s',hd,hD,hsm,hkl⟩
 rw[List.length_map,hp2]at hD hsm hkl
 refine⟨_,rfl,p,_,rfl,.inr (SqT.of (s' _ _ hp1)),_,rfl,lo62 _,hi62 (by rw[List.length_map];omega),?_⟩
 rw[Int.toNat_natCast,List.length_map,hp2]
 refine comp_range (fun j acc σ2 H2=>acc=vnats ((List.range j).map (partT tab hi))∧H2=H'∧∃o:Option V,σ2=[some (.ref p),some (.int (hi:Int)),some (.ref d),o,o4,o5]) ⟨rfl,rfl,_,rfl⟩ (fun j acc σ2 H2 hj ⟨e,_⟩=>by rw[e,vnats_len,List.length_map,List.length_range];omega) ?_ ?_
 ·rintro j acc σ2 H2 hj ⟨rfl,rfl,o,rfl⟩
  have eg:valV kvs (.inl (0+(j:Int)))=some (.int ((partT tab hi j:Nat):Int)):=by
   have h1:=hD j
   have h2:=hsm j hj
   rw[Int.zero_add,←accT_all hj]
   cases ez:valV kvs (.inl (j:Int))with
   | none=>rw[ez]at h2;cases h2
   | some v =>
    rw[ez]at h1
    exact congrArg some h1
  have dg:=DGet.k (k:=.inl (0+(j:Int))) hd
  rw[eg]at dg
  refine⟨_,rfl,_,rfl,d,_,rfl,dg,?_,rfl,_,rfl⟩
  rw[List.range_succ,List.map_append,vnats_app]
  rfl
 rintro acc σ2 H2 D ⟨rfl,rfl,o,rfl⟩ fD
 exact q D _ (s'.trans (same_new fD _)) upd_same
end
def Frs (H:Hp)(ps:List Addr)(us:List Nat)(l:Nat):Prop:=ps.length=us.length∧∀(j:Nat) q u,ps[j]?=some q→us[j]?=some u→H q=some (.tup (frV u l))
theorem Frs.same {H H':Hp}{ps:List Addr}{us:List Nat}{l:Nat}(h:Frs H ps us l)(s:Same H H'):Frs H' ps us l:=⟨h.1,fun j q u e1 e2=>s _ _ (h.2 j q u e1 e2)⟩
theorem Frs.snoc {H:Hp}{ps:List Addr}{us:List Nat}{l:Nat}(h:Frs H ps us l){q:Addr}{u:Nat}(hq:H q=some (.tup (frV u l))):Frs H (ps++[q]) (us++[u]) l:=by
 refine⟨by rw[List.length_append,List.length_append,h.1];rfl,fun j q' u' e1 e2=>?_⟩
 by_cases c:j<ps.length
 ·rw[List.getElem?_append_left c]at e1
  rw[List.getElem?_append_left (by rw[←h.1];exact c)]at e2
  exact h.2 j q' u' e1 e2
 ·rw[List.getElem?_append_right (by omega)]at e1
  rw[List.getElem?_append_right (by rw[←h.1];omega),←h.1]at e2
  have:j-ps.length=0:=by
   have:=(List.getElem?_eq_some_iff.mp e1).1
   simp only[List.length_cons,List.length_nil]at this
   omega
  rw[this]at e1 e2
  cases e1
  cases e2
  exact hq
theorem Frs.nil {H:Hp}{l:Nat}:Frs H [] [] l:=⟨rfl,fun j q u e=>by cases e⟩
def spShT:Sp:=fun vs H Q _=>∃(p:Addr)(tab:List (Nat×Nat))(hi:Nat),vs=[.ref p,.int (hi:Int)]∧TabAt H p tab∧(∀c∈tab,c.1≤hi)∧tab.length≤1000∧0<tab.length∧0<hi∧hi≤1000000 ∧
 ∀t ps H',Same H H'→H' t=some (.tup (ps.map V.ref))→Frs H' ps ((List.range tab.length).map (partT tab hi)) (hi*tab.length)→Q (.ref t) H'
section
variable {P:Program}{w:World}{K:PySem.W.Frag}{mg:Str→Option Value}{base:Heap}{f:Addr}{fd:FuncData}
theorem ok_Y1 (F_Y1:Fun K "shares_of_table" "shares_of_table" s_Y1 f fd)(B:Bl mg)(g_Y23:Fn P w K mg base "parts_of" p_Y23 1 spParts)(g_Y25:Fn P w K mg base "fraction" p_Y25 2 spFrac):FnOk P w K mg base CX0 3 f fd p_Y1 spShT:=by
 refine F_Y1.ok sc_Y1 (fun vs H Q E h=>?_) (fun cdv A outer s H vs Q E hr h=>?_)
 ·obtain⟨p,tab,hi,rfl,_⟩:=h
  rfl
 obtain⟨p,tab,hi,rfl,hP,hc,hz,hz0,h0,h02,q⟩:=h
 refine⟨_,(pss_one (ps_ret (pe_callTy call_tuple_of rfl B.tuple_ L3.bt_tuple (pa_cons (pe_comp [] ["table","high","part"] 1 rfl (pi_list (pe_fn g_Y23 hr (pa_cons (pv 0) (pa_cons (pv 1) pa_nil)))) (fun _ _ _ _ _=>(pg_name (i:=2) nd_16 rfl (Or.inl rfl) (Or.inr rfl))) (fun _ _ _ _ _=>pif_nil) (fun _ _ _ _ _=>(pe_fn g_Y25 hr (pa_cons (pv 2) (pa_cons (pe_op op_mul (pv 1) (pe_callB (call_len_seqK K rfl) rfl B.len_ L3.bt_len (pa_cons (pv 0) pa_nil))) pa_nil))))) pa_nil)))),?_⟩
 refine⟨_,rfl,_,rfl,p,tab,hi,rfl,hP,hc,hz,fun L H1 s1 hL=>?_⟩
 have hm:0<hi*tab.length:=Nat.mul_pos h0 hz0
 have hm2:hi*tab.length≤1000000*1000:=Nat.mul_le_mul h02 hz
 refine⟨L,rfl,⟨_,SqL.of hL⟩,comp_list (xs:=vnats ((List.range tab.length).map (partT tab hi))) (fun j acc σ2 H2=>Same H1 H2∧(∃ps:List Addr,acc=ps.map V.ref∧ps.length=j∧Frs H2 ps (((List.range tab.length).map (partT tab hi)).take j) (hi*tab.length))∧∃o:Option V,σ2=[some (.ref p),some (.int (hi:Int)),o]) ⟨Same.refl _,⟨[],rfl,rfl,.nil⟩,_,rfl⟩
  (fun j acc σ2 H2 hj ⟨_,⟨ps,e,e2,_⟩,_⟩=>by rw[vnats_len,List.length_map,List.length_range]at hj;rw[e,List.length_map];omega) (fun j acc σ2 H2 hj ⟨s2,_⟩=>SqL.of (s2 _ _ hL)) ?_ ?_⟩
 ·rintro j x acc σ2 H2 hx ⟨s2,⟨ps,rfl,hpl,hF⟩,o,rfl⟩
  have hj:j<((List.range tab.length).map (partT tab hi)).length:=by
   have:=(List.getElem?_eq_some_iff.mp hx).1
   rw[vnats_len]at this
   exact this
  rw[vnats_at hj]at hx
  obtain rfl:=Option.some.inj hx
  have tk:((List.range tab.length).map (partT tab hi)).take (j+1)=((List.range tab.length).map (partT tab hi)).take j++[((List.range tab.length).map (partT tab hi)).getD j 0]:=by
   rw[List.take_add_one,List.getElem?_eq_getElem hj,List.getD_eq_getElem?_getD,List.getElem?_eq_getElem hj]
   rfl
  obtain⟨qs,hq1,hq2,_⟩:=id ((hP.same s1).same s2)
  refine⟨_,rfl,_,rfl,_,rfl,p,_,rfl,.inr (SqT.of hq1),_,_,rfl,rfl,.inr ⟨by rw[List.length_map];omega,by rw[List.length_map];omega⟩,?_⟩
  refine⟨((List.range tab.length).map (partT tab hi)).getD j 0,hi*tab.length,by rw[List.length_map,hq2,Int.natCast_mul];rfl,hm,.of (by omega),fun fr H3 s3 h3=>?_⟩
  refine⟨s2.trans s3,⟨ps++[fr],by rw[List.map_append];rfl,by rw[List.length_append,hpl];rfl,?_⟩,_,rfl⟩
  rw[tk]
  exact(hF.same s3).snoc h3
 rintro acc σ2 H2 D ⟨s2,⟨ps,rfl,hpl,hF⟩,o,rfl⟩ fD
 rw[vnats_len,List.take_length]at hF
 have yD:=same_new fD (.lst (ps.map V.ref))
 refine⟨D,_,rfl,.inl ⟨SqL.of upd_same,fun t ft=>?_⟩⟩
 have yt:=yD.trans (same_new ft (.tup (ps.map V.ref)))
 exact q t ps _ (s1.trans (s2.trans yt)) upd_same (hF.same yt)
end
theorem evR_lt {m:Nat}:∀{bs:List Nat}{n s u v y:Nat},evR m n s u bs=some (v,y)→v<m
 | [],_,_,_,_,_,h=>by cases h
 | b::bs,n,s,u,v,y,h=>by
  unfold evR at h
  split at h
  ·exact evR_lt h
  ·split at h
   ·cases h;assumption
   ·exact evR_lt h
theorem evF_lt {m:Nat}{bs:List Nat}{v y:Nat}(h:evF m bs=some (v,y)):v<m:=by
 unfold evF evG at h
 split at h
 ·exact evR_lt h
 ·split at h
  ·cases h;assumption
  ·exact evR_lt h
noncomputable def tbN (tab:List (Nat×Nat))(hi n:Nat):Nat:=if n%hi<(tab.getD (n / hi) (0,0)).1 then n / hi else (tab.getD (n / hi) (0,0)).2
noncomputable def tbF (tab:List (Nat×Nat))(hi:Nat)(bs:List Nat):Option (Nat×Nat):=(evF (hi*tab.length) bs).map fun p=>(tbN tab hi p.1,p.2)
noncomputable def tbV (tab:List (Nat×Nat))(hi:Nat)(bs:List Nat):Option (V×Nat):=(tbF tab hi bs).map fun p=>(V.int (p.1:Int),p.2)
theorem TabAt.grow {H H':Hp}{p b C dx:Addr}{fs:List (Str×V)}{tab:List (Nat×Nat)}(h:TabAt H p tab)(hb:H b=some (.ins C dx fs))(g:Grow b H H'):TabAt H' p tab:=by
 obtain⟨ps,h1,h2⟩:=h
 exact⟨ps,g _ _ (fun e=>by rw[e,hb]at h1;cases h1) h1,h2.same fun c xs e=>g _ _ (fun z=>by rw[z,hb]at e;cases e) e⟩
def spByT (C CN:Addr):Sp:=fun vs H Q E=>∃(b dx r p:Addr)(bl:List Nat)(z:Nat)(tab:List (Nat×Nat))(hi:Nat),vs=[.ref b,.ref p,.int (hi:Int)]∧At C H b dx r bl z∧TabAt H p tab∧0<hi∧hi≤1000000∧0<tab.length∧tab.length≤1000 ∧
 (∀v u H',tbV tab hi (bl.drop z)=some (v,u)→Grow b H H'→At C H' b dx r bl (z+u)→Q v H') ∧
 (∀H',tbV tab hi (bl.drop z)=none→Grow b H H'→At C H' b dx r bl z→E (.ref CN) none H')
section
variable {P:Program}{w:World}{K:PySem.W.Frag}{mg:Str→Option Value}{base:Heap}{f C fI fT fU fL fG CN:Addr}{fd dI dT dU dL dG:FuncData}{mN:List Value}
theorem ok_Y22 (F_Y22:Fun K "by_table" "by_table" s_Y22 f fd)(B:Bl mg){fE:Addr}{dE:FuncData}(g_Y32:FnX P w K mg base "even" fE dE p_Y32 6 (spDone C CN ShN evV)):FnOk P w K mg base (CXR P w) 7 f fd p_Y22 (spByT C CN):=by
 refine F_Y22.okX sc_Y22 (fun vs H Q E h=>?_) (fun cdv A outer s H vs Q E hr h=>?_)
 ·obtain⟨b,dx,r,p,bl,z,tab,hi,rfl,_⟩:=h
  rfl
 obtain⟨b,dx,r,p,bl,z,tab,hi,rfl,hA,hP,h0,h02,h1,h12,q,e⟩:=h
 refine⟨_,(pss_cons (ps_set (i:=3) sc_Y22.nd rfl (Or.inl rfl) (pe_fnX g_Y32 hr (pa_cons (pv 0) (pa_cons (pe_op op_mul (pv 2) (pe_callB call_len_seq rfl B.len_ L3.bt_len (pa_cons (pv 1) pa_nil))) pa_nil))))
   (pss_cons (ps_set (i:=4) sc_Y22.nd rfl (Or.inl rfl) (pe_ix ix_tup (pv 1) (pe_op op_fdiv (pv 3) (pv 2)) (fun _ _=>rfl)))
   (pss_one (ps_ret (pe_ifExp (pt_cmpR op_lt (pe_op op_mod (pv 3) (pv 2)) (pe_ix ix_tup (pv 4) pe_int (fun _ _=>rfl)) (nomark _)) (pe_op op_fdiv (pv 3) (pv 2)) (pe_ix ix_tup (pv 4) pe_int (fun _ _=>rfl))))))),?_⟩
 obtain⟨ps,hp1,hp2⟩:=id hP
 refine⟨_,rfl,_,rfl,_,rfl,p,_,rfl,.inr (SqT.of hp1),_,_,rfl,rfl,?_⟩
 have hpl:ps.length=tab.length:=hp2.1
 refine⟨.inr ⟨by rw[List.length_map];omega,by rw[List.length_map];omega⟩,?_⟩
 have hm:0<hi*tab.length:=Nat.mul_pos h0 h1
 refine⟨b,dx,r,bl,z,_,hi*tab.length,rfl,hA,⟨by rw[List.length_map,hpl,Int.natCast_mul],hm⟩,fun v u H' hv g a=>?_,fun H' hv g a=>?_⟩
 ·cases ee:evF (hi*tab.length) (bl.drop z)with
  | none=>unfold evV at hv;rw[ee]at hv;cases hv
  | some pr =>
   obtain⟨n,u2⟩:=pr
   unfold evV at hv
   rw[ee]at hv
   cases hv
   have hn:=evF_lt ee
   have hd:n / hi<tab.length:=Nat.div_lt_of_lt_mul hn
   have hP':=hP.grow hA.obj g
   obtain⟨qs,c,w1,w2,w3⟩:=hP'.at hd
   have e1:((n:Nat):Int) / ((hi:Nat):Int)=((n / hi:Nat):Int):=(Int.natCast_ediv n hi).symm
   have e2:((n:Nat):Int)%((hi:Nat):Int)=((n%hi:Nat):Int):=(Int.natCast_emod n hi).symm
   have hq:=q (.int (tbN tab hi n:Int)) u2 H' (by unfold tbV tbF;rw[ee];rfl) g a
   refine⟨_,rfl,_,rfl,_,rfl,_,_,rfl,rfl,⟨by omega,by omega⟩,p,_,_,_,rfl,rfl,SqT.of w1,by rw[e1];exact w2,?_⟩
   refine⟨_,rfl,_,rfl,_,_,rfl,rfl,(by show(0:Int)<(hi:Int);omega),_,rfl,c,_,_,_,rfl,rfl,SqT.of w3,rfl,_,_,rfl,rfl,_,rfl,?_⟩
   rw[e2]
   by_cases cc:n%hi<(tab.getD (n / hi) (0,0)).1
   ·rw[decide_eq_true (by omega)]
    unfold tbN at hq
    rw[if_pos cc]at hq
    refine iteT ⟨_,rfl,_,rfl,_,_,rfl,rfl,⟨by omega,by omega⟩,?_⟩
    show Q (V.int (((n:Nat):Int) / ((hi:Nat):Int))) H'
    rw[e1]
    exact hq
   ·rw[decide_eq_false (by omega)]
    unfold tbN at hq
    rw[if_neg cc]at hq
    exact iteF ⟨_,rfl,c,_,_,_,rfl,rfl,SqT.of w3,rfl,hq⟩
 ·refine e H' ?_ g a
  unfold evV at hv
  unfold tbV tbF
  cases ee:evF (hi*tab.length) (bl.drop z)with
  | none=>rfl
  | some pr=>rw[ee]at hv;cases hv
end
noncomputable def sumsN (ws:List Nat)(i:Nat):List Nat:=(List.range i).map fun j=>(ws.take (j+1)).sum
theorem sums_succ (ws:List Nat)(i:Nat):sumsN ws (i+1)=sumsN ws i++[(ws.take (i+1)).sum]:=by
 rw[sumsN,List.range_succ,List.map_append]
 rfl
theorem take_sum {ws:List Nat}{i:Nat}(h:i<ws.length):(ws.take (i+1)).sum=(ws.take i).sum+ws.getD i 0:=by
 rw[List.take_add_one,List.getElem?_eq_getElem h,List.sum_append,List.getD_eq_getElem?_getD,List.getElem?_eq_getElem h]
 simp
theorem sums_len (ws:List Nat)(i:Nat):(sumsN ws i).length=i:=by rw[sumsN,List.length_map,List.length_range]
def spSums:Sp:=fun vs H Q _=>∃(a:Addr)(ws:List Nat),vs=[.ref a]∧H a=some (.tup (vnats ws))∧ws.length≤1000∧∀p H',Same H H'→H' p=some (.tup (vnats (sumsN ws ws.length)))→Q (.ref p) H'
section
variable {P:Program}{w:World}{K:PySem.W.Frag}{mg:Str→Option Value}{base:Heap}{f:Addr}{fd:FuncData}
theorem ok_Y30 (F_Y30:Fun K "sums_of" "sums_of" s_Y30 f fd)(B:Bl mg):FnOk P w K mg base CX0 1 f fd p_Y30 spSums:=by
 refine F_Y30.ok sc_Y30 (fun vs H Q E h=>?_) (fun cdv A outer s H vs Q E hr h=>?_)
 ·obtain⟨a,ws,rfl,_⟩:=h
  rfl
 obtain⟨a,ws,rfl,hA,hz,q⟩:=h
 refine⟨_,(pss_cons (ps_set (i:=1) sc_Y30.nd rfl (Or.inl rfl) (pe_lst pa_nil))
   (pss_cons (ps_set (i:=2) sc_Y30.nd rfl (Or.inl rfl) pe_int)
   (pss_cons (ps_for PassesOwn.never rfl (pi_tup (pv 0)) (pg_name (i:=3) sc_Y30.nd rfl (Or.inl rfl)) (pss_cons (ps_set (i:=2) sc_Y30.nd rfl (Or.inl rfl) (pe_op op_add (pv 2) (pv 3)))
   (pss_one (ps_expr (pe_bm PySem.F.plainAttrs_list PySem.F.slot_list_append PySem.F.type_list_append mt_append (pv 1) (pa_cons (pv 2) pa_nil))))))
   (pss_one (ps_ret (pe_callTy call_tuple_of rfl B.tuple_ L3.bt_tuple (pa_cons (pv 1) pa_nil))))))),?_⟩
 refine⟨(by show 0≤sizeLine;decide),fun l fl=>?_⟩
 have yl:=same_new fl (.lst ([]:List V))
 have na:a≠l:=ne_of_none hA fl
 refine⟨_,rfl,a,rfl,⟨_,SqT.of (yl _ _ hA)⟩,for_tup (xs:=vnats ws) (fun i σ' H'=>∃o3:Option V,σ'=[some (.ref a),some (.ref l),some (.int (((ws.take i).sum:Nat):Int)),o3]∧Same H H'∧H' l=some (.lst (vnats (sumsN ws i))))
  ⟨_,rfl,yl,upd_same⟩ (fun i σ' H' _ ⟨_,_,s,_⟩=>SqT.of (s _ _ hA)) ?_ ?_⟩
 ·rintro i x σ' H' hx ⟨o3,rfl,s',hl'⟩
  have hi:i<ws.length:=by
   have:=(List.getElem?_eq_some_iff.mp hx).1
   rw[vnats_len]at this
   exact this
  rw[vnats_at hi]at hx
  obtain rfl:=Option.some.inj hx
  refine⟨_,rfl,_,rfl,_,_,rfl,rfl,?_⟩
  refine⟨_,rfl,.inl ⟨rfl,_,SqL.of hl'⟩,_,rfl,l,_,_,rfl,rfl,hl',smallL (by rw[vnats_len,sums_len];omega),?_⟩
  refine⟨some (.int ((ws.getD i 0:Nat):Int)),?_,fun c o e=>?_,?_⟩
  ·rw[take_sum hi,Int.natCast_add]
   rfl
  ·rw[upd_ne (ne_of_none e fl)]
   exact s' _ _ e
  ·rw[upd_same,sums_succ,vnats_app,take_sum hi]
   show some (HO.lst (vnats (sumsN ws i)++[V.int ((((ws.take i).sum:Nat):Int)+((ws.getD i 0:Nat):Int))]))=_
   rw[←Int.natCast_add]
   rfl
 ·rintro σ' H' ⟨o3,rfl,s',hl'⟩
  rw[vnats_len]at hl'
  exact⟨_,rfl,l,_,rfl,.inl ⟨SqL.of hl',fun t ft=>q t _ (s'.trans (same_new ft _)) upd_same⟩⟩
noncomputable def nbF (ss:List Nat)(n:Nat):V:=if ss.findIdx (fun x=>decide (n<x))<ss.length then .int ((ss.findIdx (fun x=>decide (n<x)):Nat):Int)else .non
theorem nbF_some {ss:List Nat}{n i:Nat}(h:i<ss.length)(hno:∀j,j<i→¬n<ss.getD j 0)(c:n<ss.getD i 0):nbF ss n=.int (i:Int):=by
 have e:ss.findIdx (fun x=>decide (n<x))=i:=by
  rw[List.findIdx_eq h]
  rw[List.getD_eq_getElem?_getD,List.getElem?_eq_getElem h]at c
  refine⟨decide_eq_true c,fun j hj=>decide_eq_false ?_⟩
  have:=hno j hj
  rw[List.getD_eq_getElem?_getD,List.getElem?_eq_getElem (Nat.lt_trans hj h)]at this
  exact this
 unfold nbF
 rw[e,if_pos h]
theorem nbF_none {ss:List Nat}{n:Nat}(hno:∀j,j<ss.length→¬n<ss.getD j 0):nbF ss n=.non:=by
 have e:ss.findIdx (fun x=>decide (n<x))=ss.length:=by
  rw[List.findIdx_eq_length]
  intro x hx
  obtain⟨j,hj,rfl⟩:=List.mem_iff_getElem.mp hx
  have:=hno j hj
  rw[List.getD_eq_getElem?_getD,List.getElem?_eq_getElem hj]at this
  exact decide_eq_false this
 unfold nbF
 rw[e,if_neg (Nat.lt_irrefl _)]
def spNumBy:Sp:=fun vs H Q _=>∃(a:Addr)(ss:List Nat)(n:Nat),vs=[.ref a,.int (n:Int)]∧H a=some (.tup (vnats ss))∧∀H',Same H H'→Q (nbF ss n) H'
theorem ok_Y12 (F_Y12:Fun K "number_by" "number_by" s_Y12 f fd)(B:Bl mg):FnOk P w K mg base CX0 1 f fd p_Y12 spNumBy:=by
 refine F_Y12.ok sc_Y12 (fun vs H Q E h=>?_) (fun cdv A outer s H vs Q E hr h=>?_)
 ·obtain⟨a,ss,n,rfl,_⟩:=h
  rfl
 obtain⟨a,ss,n,rfl,hA,q⟩:=h
 refine⟨_,(pss_cons (ps_for PassesOwn.never rfl (pi_enumT rfl B.enumerate_ (pa_cons (pv 0) pa_nil)) (pg_tup rfl (pgs_cons (pg_name (i:=2) sc_Y12.nd rfl (Or.inl rfl)) (pgs_cons (pg_name (i:=3) sc_Y12.nd rfl (Or.inl rfl)) pgs_nil))) (pss_one (ps_if (pt_cmpR op_gt (pv 3) (pv 1) (nomark _)) (pss_one (ps_ret (pv 2))) pss_nil)))
   (pss_one (ps_ret pe_non))),?_⟩
 refine⟨_,rfl,a,rfl,⟨_,SqT.of hA⟩,fun i m σ' H'=>m=ss.length-i∧i≤ss.length∧Same H H'∧(∀j,j<i→¬n<ss.getD j 0)∧∃o2 o3:Option V,σ'=[some (.ref a),some (.int (n:Int)),o2,o3],⟨ss.length,rfl,Nat.zero_le _,Same.refl _,fun j hj=>absurd hj (Nat.not_lt_zero _),_,_,rfl⟩,?_⟩
 rintro i m σ' H1 ⟨rfl,hi,s1,hno,o2,o3,rfl⟩
 by_cases hlt:i<ss.length
 ·have hg:=vnats_at hlt
  refine .inr ⟨⟨_,_,SqT.of (s1 _ _ hA),hg⟩,fun σ' H'=>Same H H'∧(∀j,j<i+1→¬n<ss.getD j 0)∧∃o2 o3:Option V,σ'=[some (.ref a),some (.int (n:Int)),o2,o3],fun σ' H' ⟨z1,z2,z3⟩=>⟨ss.length-(i+1),by omega,rfl,hlt,z1,z2,z3⟩,?_⟩
  rintro v H2 ⟨p,x,fp,rfl,rfl,ex⟩
  have ex':=ex _ (SqT.of (s1 _ _ hA))
  rw[hg]at ex'
  obtain rfl:=Option.some.inj ex'
  have s2:=s1.trans (same_new fp (.tup [V.int (i:Int),V.int ((ss.getD i 0:Nat):Int)]))
  refine⟨p,_,rfl,SqT.of upd_same,rfl,_,_,rfl,_,_,rfl,rfl,?_⟩
  refine⟨_,rfl,_,rfl,_,_,rfl,rfl,_,rfl,?_⟩
  by_cases c:n<ss.getD i 0
  ·rw[decide_eq_true (by omega)]
   refine iteT ⟨_,rfl,?_⟩
   have:=q _ s2
   rw[nbF_some hlt hno c]at this
   exact this
  ·rw[decide_eq_false (by omega)]
   refine iteF ⟨s2,fun j hj=>?_,_,_,rfl⟩
   by_cases e:j=i
   ·rw[e]
    exact c
   ·exact hno j (by omega)
 ·have e:i=ss.length:=by omega
  subst e
  refine .inl ⟨⟨_,SqT.of (s1 _ _ hA),by rw[vnats_len];exact Nat.le_refl _⟩,?_⟩
  have:=q H1 s1
  rw[nbF_none hno]at this
  exact this
end
noncomputable def nxt (s:Int):Int:=(1664525*s+1013904223)%4294967296
@[irreducible] noncomputable def stN (s:Int)(n:Nat):Int:=Nat.rec s (fun _ x=>nxt x) n
theorem stN_zero (s:Int):stN s 0=s:=by
 unfold stN
 rfl
theorem stN_succ (s:Int)(n:Nat):stN s (n+1)=nxt (stN s n):=by
 unfold stN
 rfl
noncomputable def btO (s:Int):Int:=if 2147483648≤s then 1 else 0
noncomputable def strm (s:Int)(n:Nat):List Int:=(List.range n).map fun i=>btO (stN s (i+1))
theorem strm_length (s:Int)(n:Nat):(strm s n).length=n:=by simp[strm]
theorem strm_succ (s:Int)(n:Nat):strm s (n+1)=strm s n++[btO (stN s (n+1))]:=by simp[strm,List.range_succ]
def spNext:Sp:=fun vs H Q _=>∃s:Int,vs=[.int s]∧Q (.int (nxt s)) H
def spBitsOf:Sp:=fun vs H Q _=>∃(s:Int)(n:Nat),vs=[.int s,.int n]∧n≤100000∧∀p H',Same H H'→H' p=some (.tup ((strm s n).map V.int))→Q (.ref p) H'
section
variable {P:Program}{w:World}{K:PySem.W.Frag}{mg:Str→Option Value}{base:Heap}{f:Addr}{fd:FuncData}
theorem ok_Y9 (F_Y9:Fun K "next_state" "next_state" s_Y9 f fd)(C:Cn K mg):FnOk P w K mg base CX0 1 f fd p_Y9 spNext:=by
 refine F_Y9.ok sc_Y9 (fun vs H Q E h=>?_) (fun cdv A outer s H vs Q E hr h=>?_)
 ·obtain⟨s,rfl,_⟩:=h
  rfl
 obtain⟨s,rfl,q⟩:=h
 obtain⟨c1,C_FACTOR⟩:=C.FACTOR
 obtain⟨c2,C_ADDED⟩:=C.ADDED
 obtain⟨c3,C_STATES⟩:=C.STATES
 refine⟨_,(pss_one (ps_ret (pe_op op_mod (pe_op op_add (pe_op op_mul (pe_glob (v:=.int 1664525) rfl C_FACTOR ⟨_,rfl⟩) (pv 0)) (pe_glob (v:=.int 1013904223) rfl C_ADDED ⟨_,rfl⟩)) (pe_glob (v:=.int 4294967296) rfl C_STATES ⟨_,rfl⟩)))),?_⟩
 refine⟨_,rfl,_,_,rfl,rfl,.inl ⟨by decide,by decide⟩,_,_,rfl,rfl,_,_,rfl,rfl,(by show(0:Int)<4294967296;decide),?_⟩
 exact q
theorem ok_Y29 (F_Y29:Fun K "bits_of" "bits_of" s_Y29 f fd)(B:Bl mg)(C:Cn K mg)(g_Y9:Fn P w K mg base "next_state" p_Y9 1 spNext):FnOk P w K mg base CX0 2 f fd p_Y29 spBitsOf:=by
 refine F_Y29.ok sc_Y29 (fun vs H Q E h=>?_) (fun cdv A outer s H vs Q E hr h=>?_)
 ·obtain⟨s,n,rfl,_⟩:=h
  rfl
 obtain⟨s,n,rfl,hn,q⟩:=h
 obtain⟨c4,C_HALF_OF_STATES⟩:=C.HALF_OF_STATES
 refine⟨_,(pss_cons (ps_set (i:=2) sc_Y29.nd rfl (Or.inl rfl) (pv 0))
   (pss_cons (ps_set (i:=3) sc_Y29.nd rfl (Or.inl rfl) (pe_lst pa_nil))
   (pss_cons (ps_while PassesOwn.never (pt_cmpR op_lt (pe_callB call_len_seq rfl B.len_ L3.bt_len (pa_cons (pv 3) pa_nil)) (pv 1) (nomark _)) (pss_cons (ps_set (i:=2) sc_Y29.nd rfl (Or.inl rfl) (pe_fn g_Y9 hr (pa_cons (pv 2) pa_nil)))
   (pss_one (ps_expr (pe_bm PySem.F.plainAttrs_list PySem.F.slot_list_append PySem.F.type_list_append mt_append (pv 3) (pa_cons (pe_ifExp (pt_cmpR op_ge (pv 2) (pe_glob (v:=.int 2147483648) rfl C_HALF_OF_STATES ⟨_,rfl⟩) (nomark _)) pe_int pe_int) pa_nil))))))
   (pss_one (ps_ret (pe_callTy call_tuple_of rfl B.tuple_ L3.bt_tuple (pa_cons (pv 3) pa_nil))))))),?_⟩
 refine⟨_,rfl,(by show 0≤sizeLine;decide),fun r hr'=>?_⟩
 refine while_by (fun(σ:St)(H':Hp)=>∃i,i≤n∧σ=[some (.int s),some (.int n),some (.int (stN s i)),some (.ref r)]∧Same H H'∧H' r=some (.lst ((strm s i).map V.int))) (fun(_:St)(H':Hp)=>match H' r with|some (.lst xs)=>n-xs.length|_=>0) ⟨0,Nat.zero_le _,by rw[stN_zero];rfl,same_new hr' _,upd_same⟩ ?_ ?_
 ·rintro σ H' ⟨i,hi,rfl,sH,hR⟩
  refine⟨_,rfl,r,_,rfl,.inl (SqL.of hR),_,rfl,_,_,rfl,rfl,_,rfl,?_⟩
  rw[List.length_map,strm_length]
  refine ite2 (fun c=>?_) (fun c=>?_)
  ·have c':(i:Int)<(n:Int):=of_decide_eq_true c
   refine⟨_,rfl,_,rfl,?_⟩
   rw[←stN_succ]
   refine⟨_,rfl,.inl ⟨rfl,_,SqL.of hR⟩,?_⟩
   refine⟨_,rfl,_,_,rfl,rfl,_,rfl,?_⟩
   have fin:∀v:Int,v=btO (stN s (i+1))→∃l xs y,V.ref r=V.ref l∧[V.int v]=[y]∧H' l=some (.lst xs)∧xs.length<sizeLine ∧
     (fun(σ':St)(H'':Hp)=>(∃i,i≤n∧σ'=[some (.int s),some (.int n),some (.int (stN s i)),some (.ref r)]∧Same H H''∧H'' r=some (.lst ((strm s i).map V.int))) ∧
      (match H'' r with|some (.lst xs)=>n-xs.length|_=>0)<(match H' r with|some (.lst xs)=>n-xs.length|_=>0)) [some (.int s),some (.int n),some (.int (stN s (i+1))),some (.ref r)] (upd H' l (.lst (xs++[y]))):=by
    rintro v rfl
    refine⟨r,_,_,rfl,rfl,hR,by rw[List.length_map,strm_length];exact smallL (by omega),⟨i+1,by omega,rfl,fun b o e=>?_,?_⟩,?_⟩
    ·rw[upd_ne (ne_of_none e hr')]
     exact sH b o e
    ·rw[upd_same,strm_succ,List.map_append]
     rfl
    ·rw[upd_same,hR]
     simp only[List.length_append,List.length_map,strm_length,List.length_singleton]
     omega
   refine ite2 (fun c2=>?_) (fun c2=>?_)
   ·exact fin 1 (by unfold btO;rw[if_pos (of_decide_eq_true c2)])
   ·exact fin 0 (by unfold btO;rw[if_neg (of_decide_eq_false (Bool.eq_false_iff.mpr c2))])
  ·have c':¬(i:Int)<(n:Int):=of_decide_eq_false (Bool.eq_false_iff.mpr c)
   have e:i=n:=by omega
   subst e
   refine⟨_,rfl,r,_,rfl,.inl ⟨SqL.of hR,fun l fl=>?_⟩⟩
   exact q l _ (sH.trans (same_new fl _)) upd_same
 ·rintro σ H' Q1 Q2 hQ ⟨x,e1,p,ys,e2,h1,y,e3,i,j,e4,e5,k,e6,h2⟩
  exact⟨x,e1,p,ys,e2,h1,y,e3,i,j,e4,e5,k,e6,hQ _ _ h2⟩
end
theorem sorted_uniq:∀{a b:List Nat},a.Pairwise (· < ·)→b.Pairwise (· < ·)→(∀n,n∈a↔n∈b)→a=b
 | [],[],_,_,_=>rfl
 | [],y::b,_,_,h=>absurd ((h y).mpr List.mem_cons_self) (by simp)
 | x::a,[],_,_,h=>absurd ((h x).mp List.mem_cons_self) (by simp)
 | x::a,y::b,ha,hb,h=>by
  rw[List.pairwise_cons]at ha hb
  have hxy:x=y:=by
   have h1:=(h x).mp List.mem_cons_self
   have h2:=(h y).mpr List.mem_cons_self
   rcases List.mem_cons.mp h1 with e|e
   ·exact e
   ·rcases List.mem_cons.mp h2 with e'|e'
    ·exact e'.symm
    ·have:=hb.1 x e
     have:=ha.1 y e'
     omega
  subst hxy
  congr 1
  refine sorted_uniq ha.2 hb.2 fun n=>?_
  constructor
  ·intro hn
   have:=ha.1 n hn
   rcases List.mem_cons.mp ((h n).mp (List.mem_cons_of_mem _ hn))with e|e
   ·omega
   ·exact e
  ·intro hn
   have:=hb.1 n hn
   rcases List.mem_cons.mp ((h n).mpr (List.mem_cons_of_mem _ hn))with e|e
   ·omega
   ·exact e
noncomputable def posN (ws:List Nat)(j:Nat):List Nat:=(List.range j).filter fun i=>decide (0<ws.getD i 0)
theorem posN_succ (ws:List Nat)(j:Nat):posN ws (j+1)=posN ws j++(if 0<ws.getD j 0 then [j]else []):=by
 unfold posN
 rw[List.range_succ,List.filter_append]
 congr 1
 rw[List.filter_cons]
 by_cases c:0<ws.getD j 0
 ·rw[if_pos c,if_pos (decide_eq_true c)];rfl
 ·rw[if_neg c,if_neg (by rw[decide_eq_false c];decide)];rfl
theorem posN_sorted (ws:List Nat)(j:Nat):(posN ws j).Pairwise (· < ·):=List.Pairwise.sublist List.filter_sublist List.pairwise_lt_range
theorem posN_mem (ws:List Nat)(n:Nat):n∈posN ws ws.length↔0<ws.getD n 0:=by
 unfold posN
 rw[List.mem_filter,List.mem_range,decide_eq_true_iff]
 refine⟨fun h=>h.2,fun h=>⟨?_,h⟩⟩
 rcases Nat.lt_or_ge n ws.length with c|c
 ·exact c
 ·rw[List.getD_eq_getElem?_getD,List.getElem?_eq_none c]at h
  exact absurd h (by decide)
def ShL (H:Hp)(rs:List Addr)(ms:List Nat)(F:Nat→List V):Prop:=rs.length=ms.length∧∀(j:Nat)(r:Addr)(n:Nat),rs[j]?=some r→ms[j]?=some n→∃fp,H r=some (.tup [.int (n:Int),.ref fp])∧H fp=some (.tup (F n))
theorem ShL.same {H H':Hp}{rs:List Addr}{ms:List Nat}{F:Nat→List V}(h:ShL H rs ms F)(s:Same H H'):ShL H' rs ms F:=⟨h.1,fun j r n e1 e2=>by
 obtain⟨fp,z1,z2⟩:=h.2 j r n e1 e2
 exact⟨fp,s _ _ z1,s _ _ z2⟩⟩
theorem ShL.snoc {H:Hp}{rs:List Addr}{ms:List Nat}{F:Nat→List V}{p fp:Addr}{n:Nat}(h:ShL H rs ms F)(hp:H p=some (.tup [.int (n:Int),.ref fp]))(hf:H fp=some (.tup (F n))):ShL H (rs++[p]) (ms++[n]) F:=by
 refine⟨by rw[List.length_append,List.length_append,h.1];rfl,fun j a e e1 e2=>?_⟩
 by_cases c:j<rs.length
 ·rw[List.getElem?_append_left c]at e1
  rw[List.getElem?_append_left (by rw[←h.1];exact c)]at e2
  exact h.2 j a e e1 e2
 ·rw[List.getElem?_append_right (by omega)]at e1
  rw[List.getElem?_append_right (by rw[←h.1];omega),←h.1]at e2
  have hj:j-rs.length=0:=by
   have:=(List.getElem?_eq_some_iff.mp e1).1
   simpa using this
  rw[hj]at e1 e2
  cases e1
  cases e2
  exact⟨fp,hp,hf⟩
theorem sh_eqv {K:PySem.W.Frag}{H:Hp}{a b:Addr}{rs qs:List Addr}{ms:List Nat}{F:Nat→List V}{n:Nat}(ha:H a=some (.tup (rs.map V.ref)))(hb:H b=some (.tup (qs.map V.ref)))(h1:ShL H rs ms F)(h2:ShL H qs ms F)(hF:∀n,∃u l:Int,F n=[.int u,.int l])(hz:ms.length≤1000):EqvS K H (n+4) (.ref a) (.ref b):=by
 refine .inr ⟨a,b,_,_,rfl,rfl,.inl ha,hb,by rw[List.length_map,h1.1];omega,?_⟩
 refine pairedGet (by rw[List.length_map,List.length_map,h1.1,h2.1]) fun i x y e1 e2=>?_
 rw[List.getElem?_map]at e1 e2
 cases f1:rs[i]? with
 | none=>rw[f1]at e1;cases e1
 | some r1 =>
  cases f2:qs[i]? with
  | none=>rw[f2]at e2;cases e2
  | some r2 =>
   rw[f1]at e1
   rw[f2]at e2
   cases e1
   cases e2
   have hi:i<ms.length:=by rw[←h1.1];exact(List.getElem?_eq_some_iff.mp f1).1
   obtain⟨g1,z1,w1⟩:=h1.2 i r1 _ f1 (List.getElem?_eq_getElem hi)
   obtain⟨g2,z2,w2⟩:=h2.2 i r2 _ f2 (List.getElem?_eq_getElem hi)
   obtain⟨u,l,e⟩:=hF ms[i]
   rw[e]at w1 w2
   exact .inr ⟨r1,r2,_,_,rfl,rfl,.inl z1,z2,(by show 2≤1000000;decide),.cons (.inl ⟨rfl,rfl⟩) (.cons (.inr ⟨g1,g2,_,_,rfl,rfl,.inl w1,w2,(by show 2≤1000000;decide),.cons (.inl ⟨rfl,rfl⟩) (.cons (.inl ⟨rfl,rfl⟩) .nil)⟩) .nil)⟩
theorem plW_frV {ws:List Nat}{D:Nat}(h:ws.sum≤2 ^ D)(h0:0<ws.sum)(n:Nat):frV (shP (·==some n) (ends (plW ws D) 0) (plW ws D).dp) (shP (·.isSome) (ends (plW ws D) 0) (plW ws D).dp)=frV (ws.getD n 0) ws.sum:=by
 have e1:=plW_one n h
 have e2:=plW_all h
 have hb:0<shP (·.isSome) (ends (plW ws D) 0) (plW ws D).dp:=by
  rcases Nat.eq_zero_or_pos (shP (·.isSome) (ends (plW ws D) 0) (plW ws D).dp)with z|z
  ·rw[z,Nat.zero_mul]at e2;omega
  ·exact z
 refine frV_eq hb h0 ?_
 rw[←e1]
 generalize shP (·==some n) (ends (plW ws D) 0) (plW ws D).dp=a at e1
 generalize shP (·.isSome) (ends (plW ws D) 0) (plW ws D).dp=b at e2 hb
 rw[←e2,Nat.mul_right_comm,Nat.mul_assoc]
theorem plW_num {ws:List Nat}{D n d:Nat}(h:ws.sum≤2 ^ D)(hm:(some n,d)∈ends (plW ws D) 0):n<ws.length:=by
 have:=(plW_mem h n).mp ⟨d,hm⟩
 rcases Nat.lt_or_ge n ws.length with c|c
 ·exact c
 ·rw[List.getD_eq_getElem?_getD,List.getElem?_eq_none c]at this
  exact absurd this (by decide)
theorem sum_le_len {m:Nat}:∀{l:List Nat},(∀x∈l,x≤m)→l.sum≤l.length*m
 | [],_=>by simp
 | a::l,h=>by
  have h1:=h a List.mem_cons_self
  have h2:=sum_le_len fun x hx=>h x (List.mem_cons_of_mem _ hx)
  rw[List.sum_cons,List.length_cons,Nat.succ_mul]
  omega
section
variable {P:Program}{w:World}{K:PySem.W.Frag}{mg:Str→Option Value}{base:Heap}{f:Addr}{fd:FuncData}
theorem same_all (F:Fun K "_law_same" "_law_same" s_Y13 f fd)(B:Bl mg)(mo:∀{k:Nat}{sp:Sp},FnOk P w K mg base CX0 k f fd p_Y13 sp→Fn P w K mg base "_law_same" p_Y13 k sp):∀n:Nat,FnOk P w K mg base CX0 n f fd p_Y13 (spSameS K n)
 | 0=>ok__law_same0 (sp:=spSameS K 0) (fun _ _ _ _ ⟨_,_,_,h,_⟩=>h)
 | n+1=>ok__law_same1 F B (mo (same_all F B mo n))
end
theorem pick_take (xs:List V)(m:Nat):L3.pickAt xs (0,1,min m xs.length)=xs.take m:=by
 unfold L3.pickAt
 dsimp only
 have e:(fun(k:Nat)=>xs[(0+(k:Int)*1).toNat]?)=fun k=>xs[k]?:=by
  funext k
  have:(0+(k:Int)*1).toNat=k:=by omega
  rw[this]
 rw[e]
 obtain⟨h1,h2⟩:=fm_all (g:=fun k=>xs[k]?) (m:=min m xs.length) fun k hk=>by
  rw[List.getElem?_eq_getElem (by omega)]
  rfl
 refine List.ext_getElem? fun j=>?_
 by_cases c:j<min m xs.length
 ·rw[h2 j c,List.getElem?_take_of_lt (by omega)]
 ·rw[List.getElem?_eq_none (by omega),List.getElem?_eq_none (by rw[List.length_take];omega)]
theorem cut_last {n:Nat}(h:1≤n):L3.cutAt n none (some (-1)) none=(0,1,min (n-1) n):=by
 have a:Builtin.Slice.sliceAdjust none (some (-1)) 1 (n:Int)=(0,((min (n-1) n:Nat):Int)):=by
  unfold Builtin.Slice.sliceAdjust
  simp
  omega
 have b:Builtin.Slice.slicePlaces 0 ((min (n-1) n:Nat):Int) 1=min (n-1) n:=by
  unfold Builtin.Slice.slicePlaces
  rw[if_pos (by decide)]
  by_cases h:(0:Int)<((min (n-1) n:Nat):Int)
  ·rw[if_pos h];omega
  ·rw[if_neg h];omega
 unfold L3.cutAt
 show((Builtin.Slice.sliceAdjust none (some (-1)) 1 (n:Int)).1,(1:Int),Builtin.Slice.slicePlaces (Builtin.Slice.sliceAdjust none (some (-1)) 1 (n:Int)).1 (Builtin.Slice.sliceAdjust none (some (-1)) 1 (n:Int)).2 1)=_
 rw[a]
 dsimp only
 rw[b]
theorem sl_last {K:PySem.W.Frag}{H:Hp}{a:Addr}{xs:List V}{Q:VK}(h:H a=some (.tup xs))(h1:1≤xs.length)(hz:xs.length≤100000)(q:∀p H',Same H H'→H' p=some (.tup (xs.take (xs.length-1)))→Q (.ref p) H'):rSl3 K (.ref a) none (some (-1)) none H Q:=by
 refine⟨a,xs,rfl,SqT.of h,by decide,by rw[cut_last h1];exact small (by show min _ xs.length≤_;omega),fun z=>?_,fun _ p fp=>?_⟩
 ·rw[cut_last h1]at z
  have z':min (xs.length-1) xs.length=xs.length:=by simpa[L3.wholeAt]using z
  omega
 ·refine q p _ (same_new fp _) ?_
  rw[upd_same,cut_last h1,pick_take]
theorem np {σ:St}{H:Hp}{Q:Option Int→Hp→Prop}(h:Q none H):tNoPart σ H Q:=h
noncomputable def dueN (ws:List Nat)(i:Nat):List Nat:=((List.range i).map fun j=>List.replicate (ws.getD j 0) j).flatten
theorem dueN_succ (ws:List Nat)(i:Nat):dueN ws (i+1)=dueN ws i++List.replicate (ws.getD i 0) i:=by
 rw[dueN,List.range_succ,List.map_append,List.flatten_append]
 show _++(List.replicate (ws.getD i 0) i++[])=_
 rw[List.append_nil]
 rfl
theorem take_mono {ws:List Nat}:∀{i j:Nat},i≤j→(ws.take i).sum≤(ws.take j).sum
 | i,j,h=>by
  obtain⟨d,rfl⟩:∃d,j=i+d:=⟨j-i,by omega⟩
  rw[List.take_add,List.sum_append]
  exact Nat.le_add_right _ _
theorem sums_get {ws:List Nat}{i n:Nat}(h:i<n):(sumsN ws n).getD i 0=(ws.take (i+1)).sum:=by
 rw[sumsN,List.getD_eq_getElem?_getD,List.getElem?_map,List.getElem?_range h]
 rfl
theorem said_due (ws:List Nat):∀i:Nat,i≤ws.length→(List.range (ws.take i).sum).map (nbF (sumsN ws ws.length))=vnats (dueN ws i)
 | 0,_=>rfl
 | i+1,h=>by
  have hi:i<ws.length:=h
  rw[take_sum hi,List.range_add,List.map_append,said_due ws i (by omega),dueN_succ,vnats_app]
  congr 1
  rw[List.map_map]
  unfold vnats
  rw[List.map_replicate]
  refine List.ext_getElem (by simp) fun j h1 h2=>?_
  rw[List.length_map,List.length_range]at h1
  rw[List.getElem_map,List.getElem_range,List.getElem_replicate]
  show nbF (sumsN ws ws.length) ((ws.take i).sum+j)=_
  refine nbF_some (by rw[sums_len];exact hi) (fun k hk=>?_) ?_
  ·rw[sums_get (by omega)]
   have:=take_mono (ws:=ws) (show k+1≤i by omega)
   omega
  ·rw[sums_get hi,take_sum hi]
   omega
theorem frV_zero {l:Nat}(h:0<l):frV 0 l=[.int 0,.int 1]:=by
 have e1:frU 0 l=0:=Nat.zero_div _
 have e2:frL 0 l=1:=by rw[frL,Nat.gcd_zero_left,Nat.div_self h]
 rw[frV,e1,e2]
 rfl
theorem frV_one {l:Nat}(h:0<l):frV l l=[.int 1,.int 1]:=by
 have e1:frU l l=1:=by rw[frU,Nat.gcd_self,Nat.div_self h]
 have e2:frL l l=1:=by rw[frL,Nat.gcd_self,Nat.div_self h]
 rw[frV,e1,e2]
 rfl
theorem pkR_pos {T:Nat}(hT:0<T):∀{bs rs:List Nat}{p u v y:Nat},pkR T rs p u bs=some (v,y)→0<rs.getD v 0
 | [],_,_,_,_,_,h=>by cases h
 | b::bs,rs,p,u,v,y,h=>by
  rw[pkR]at h
  split at h
  ·next c =>
   cases h
   have hm:(digs T rs).getD (2*p+b) 0∈digs T rs:=by
    rw[List.getD_eq_getElem?_getD,List.getElem?_eq_getElem c]
    exact List.getElem_mem c
   have:=(mem_digs.mp hm).2
   omega
  ·have:=pkR_pos hT h
   unfold stepR at this
   rw[List.getD_eq_getElem?_getD,List.getElem?_map]at this
   rw[List.getD_eq_getElem?_getD]
   cases e:rs[v]? with
   | none=>rw[e]at this;have this:0<0:=this;omega
   | some x =>
    rw[e]at this
    have this:0<2*x%T:=this
    show 0<x
    rcases Nat.eq_zero_or_pos x with z|z
    ·subst z;rw[Nat.mul_zero,Nat.zero_mod]at this;omega
    ·exact z
theorem pkF_pos {ws bs:List Nat}(h0:0<ws.sum){v u:Nat}(h:pkF ws bs=some (v,u)):0<ws.getD v 0:=by
 unfold pkF at h
 split at h
 ·next c =>
  cases h
  have hl:=List.idxOf_lt_length_of_mem c
  rw[List.getD_eq_getElem?_getD,List.getElem?_eq_getElem hl,List.getElem_idxOf hl]
  exact h0
 ·exact pkR_pos h0 h
theorem wk_mem {root:Pn}{v:Nat}:∀{bs:List Nat}{cur:Pn}{u:Nat},wk root cur bs=some (v,u)→∀k,(∃d,(some v,d)∈ends cur k)∨∃d,(some v,d)∈ends root 0
 | [],.num n,u,h,k=>by cases h;exact .inl ⟨k,by simp[ends]⟩
 | [],.ask l r,u,h,k=>by cases h
 | [],.again,u,h,k=>by
  cases root with
  | num n=>cases h;exact .inr ⟨0,by simp[ends]⟩
  | again=>cases h
  | ask l r=>cases h
 | b::bs,.num n,u,h,k=>by cases h;exact .inl ⟨k,by simp[ends]⟩
 | b::bs,.ask l r,u,h,k=>by
  have h:(wk root (if b=0 then l else r) bs).map (fun x=>(x.1,x.2+1))=some (v,u):=h
  obtain⟨x,hx,e⟩:=Option.map_eq_some_iff.mp h
  obtain⟨x1,x2⟩:=x
  cases e
  rcases wk_mem hx (k+1)with ⟨d,hd⟩|z
  ·refine .inl ⟨d,?_⟩
   split at hd
   ·exact List.mem_append_left _ hd
   ·exact List.mem_append_right _ hd
  ·exact .inr z
 | b::bs,.again,u,h,k=>by
  cases hr:root with
  | num n=>rw[hr]at h;cases h;exact .inr ⟨0,by simp[ends]⟩
  | again=>rw[hr]at h;cases h
  | ask l r =>
   have h:(wk root (if b=0 then l else r) bs).map (fun x=>(x.1,x.2+1))=some (v,u):=by rw[hr]at h ⊢;exact h
   obtain⟨x,hx,e⟩:=Option.map_eq_some_iff.mp h
   obtain⟨x1,x2⟩:=x
   cases e
   rcases wk_mem hx 1 with ⟨d,hd⟩|z
   ·refine .inr ⟨d,?_⟩
    split at hd
    ·exact List.mem_append_left _ hd
    ·exact List.mem_append_right _ hd
   ·rw[hr]at z;exact .inr z
theorem wk_pos {ws bs:List Nat}{D v u:Nat}(h:ws.sum≤2 ^ D)(e:wk (plW ws D) (plW ws D) bs=some (v,u)):0<ws.getD v 0:=by
 rcases wk_mem e 0 with z|z<;>exact(plW_mem h v).mp z
theorem tb_pos {ws:List Nat}{n:Nat}(h0:0<ws.sum)(hn:n<ws.sum*ws.length):0<ws.getD (tbN (tabF ws) ws.sum n) 0:=by
 obtain⟨htl,htc⟩:=tabF_ok ws
 have hd:n / ws.sum<ws.length:=Nat.div_lt_of_lt_mul hn
 have key:∀j,j<ws.length→0<partT (tabF ws) ws.sum j→0<ws.getD j 0:=fun j hj h=>by
  rw[tabF_part ws hj]at h
  exact Nat.pos_of_mul_pos_right h
 have hg:(tabF ws)[n / ws.sum]?=some ((tabF ws).getD (n / ws.sum) (0,0)):=by
  rw[List.getD_eq_getElem?_getD,List.getElem?_eq_getElem (by omega)];rfl
 have hmem:(tabF ws).getD (n / ws.sum) (0,0)∈tabF ws:=List.mem_of_getElem? hg
 unfold tbN
 split
 ·next c=>exact key _ hd (by unfold partT;omega)
 ·next c =>
  obtain⟨h1,h2⟩:=htc _ hmem
  refine key _ h2 ?_
  have hm:=Nat.mod_lt n h0
  unfold partT
  have h3:=mem_sum (l:=((tabF ws).filter fun c=>decide (c.2=((tabF ws).getD (n / ws.sum) (0,0)).2)).map fun c=>ws.sum-c.1) (x:=ws.sum-((tabF ws).getD (n / ws.sum) (0,0)).1) (List.mem_map.mpr ⟨_,List.mem_filter.mpr ⟨hmem,by simp⟩,rfl⟩)
  omega
theorem nb_pos {ws:List Nat}{n:Nat}(h:n<ws.sum):∃i,nbF (sumsN ws ws.length) n=.int ((i:Nat):Int)∧0<ws.getD i 0:=by
 have e:=said_due ws ws.length (Nat.le_refl _)
 rw[List.take_length]at e
 have e2:=congrArg (·[n]?) e
 simp only[List.getElem?_map,List.getElem?_range h]at e2
 unfold vnats at e2
 rw[List.getElem?_map]at e2
 cases hx:(dueN ws ws.length)[n]? with
 | none=>rw[hx]at e2;cases e2
 | some i =>
  rw[hx]at e2
  refine⟨i,Option.some.inj e2,?_⟩
  have hm:=List.mem_of_getElem? hx
  unfold dueN at hm
  obtain⟨l,hl,hi⟩:=List.mem_flatten.mp hm
  obtain⟨j,_,rfl⟩:=List.mem_map.mp hl
  have:=List.mem_replicate.mp hi
  rw[this.2];omega
theorem stN_stM (s:Nat):∀n,stN (s:Int) n=((stM n s:Nat):Int)
 | 0=>by rw[stN_zero];rfl
 | n+1=>by
  rw[stN_succ,stN_stM s n]
  show(1664525*((stM n s:Nat):Int)+1013904223)%4294967296=(((1664525*stM n s+1013904223)%4294967296:Nat):Int)
  omega
noncomputable def blN (s:Nat):Nat→Nat→List Nat
 | 0,_=>[]
 | n+1,z=>(if cb (stM 1 s) z=true then 0 else 1)::blN s n (z+1)
theorem blN_len (s:Nat):∀n z,(blN s n z).length=n
 | 0,_=>rfl
 | n+1,z=>by rw[blN,List.length_cons,blN_len s n (z+1)]
theorem blN_rp (s:Nat):∀n z,Rp (cb (stM 1 s)) z (blN s n z)
 | 0,_=>trivial
 | n+1,z=>⟨rfl,blN_rp s n (z+1)⟩
theorem blN_bit (s:Nat):∀n z,∀y∈blN s n z,y≤1
 | 0,_,y,h=>by cases h
 | n+1,z,y,h=>by
  rcases List.mem_cons.mp h with rfl|h
  ·split<;>omega
  ·exact blN_bit s n (z+1) y h
theorem cb_btO {s:Nat}(hs:s<4294967296)(z:Nat):V.int (btO (stN (s:Int) (z+1)))=V.int (((if cb (stM 1 s) z=true then 0 else 1:Nat)):Int):=by
 rw[stN_stM,Nat.add_comm z 1,stM_add]
 have hl:=stM_lt (stM_lt hs 1) z
 unfold cb btO
 generalize stM z (stM 1 s)=x at hl
 have hx:x.testBit 31=decide (2147483648≤x):=by
  rw[Nat.testBit_eq_decide_div_mod_eq]
  exact decide_eq_decide.mpr (by omega)
 rw[hx]
 by_cases c:2147483648≤x
 ·rw[decide_eq_true c,if_pos (by omega)];rfl
 ·rw[decide_eq_false c,if_neg (by omega)];rfl
theorem strm_blN {s:Nat}(hs:s<4294967296)(n:Nat):(strm (s:Int) n).map V.int=vbits (blN s n 0):=by
 have key:∀n z,((List.range n).map fun i=>V.int (btO (stN (s:Int) (z+i+1))))=vbits (blN s n z):=by
  intro n
  induction n with
  | zero=>intro z;rfl
  | succ n ih =>
   intro z
   rw[List.range_succ_eq_map,List.map_cons,List.map_map,blN]
   show _::_=V.int _::vbits (blN s n (z+1))
   rw[←ih (z+1),Nat.add_zero,cb_btO hs]
   congr 1
   refine List.map_congr_left fun i _=>?_
   show V.int (btO (stN (s:Int) (z+(i+1)+1)))=_
   rw[show z+(i+1)+1=z+1+i+1 by omega]
 have:=key n 0
 rw[←this]
 unfold strm
 rw[List.map_map]
 refine List.map_congr_left fun i _=>?_
 show V.int (btO (stN (s:Int) (i+1)))=_
 rw[Nat.zero_add]
theorem gz_getD (ws:List Nat)(c n:Nat):(ws.map (·*c)).getD n 0=ws.getD n 0*c:=by
 rw[List.getD_eq_getElem?_getD,List.getD_eq_getElem?_getD,List.getElem?_map]
 cases ws[n]? with
 | none=>show 0=0*c;omega
 | some x=>rfl
theorem gz_sum (c:Nat):∀ws:List Nat,(ws.map (·*c)).sum=ws.sum*c
 | []=>by simp
 | x::l=>by rw[List.map_cons,List.sum_cons,List.sum_cons,gz_sum c l,Nat.add_mul]
theorem nil_getD (l:List Nat)(n:Nat):(l++[0]).getD n 0=l.getD n 0:=by
 rw[List.getD_eq_getElem?_getD,List.getD_eq_getElem?_getD]
 rcases Nat.lt_or_ge n l.length with h|h
 ·rw[List.getElem?_append_left h]
 ·rw[List.getElem?_append_right h,List.getElem?_eq_none h]
  cases n-l.length<;>rfl
theorem zero_or (ws:List Nat){c:Nat}(hc:0<c)(h0:0<ws.sum)(n:Nat):frV ((ws.map (·*c)++[0]).getD n 0) (ws.map (·*c)++[0]).sum=frV (ws.getD n 0) ws.sum:=by
 rw[nil_getD,gz_getD,List.sum_append,gz_sum]
 show frV _ (ws.sum*c+0)=_
 rw[Nat.add_zero]
 exact frV_eq (Nat.mul_pos h0 hc) h0 (by rw[Nat.mul_assoc,Nat.mul_comm c])
section
variable {P:Program}{w:World}{K:PySem.W.Frag}{mg:Str→Option Value}{base:Heap}{f C fI fT fU fL fG CN CS:Addr}{fd dI dT dU dL dG:FuncData}
theorem ok_law (hall:∀i,i<4096→vck (1048576*i)=true)(F_law:Fun K "law" "law" s_law f fd)(B:Bl mg)(T:Txt K mg C fI fT fU fL fG dI dT dU dL dG)(g_init:FnOk P w K mg base CX0 1 fI dI p_Y3 (spInit C))(g_Y19:Fn P w K mg base "_law_draw" p_Y19 16 (spDraw K))(g_Y7:Fn P w K mg base "_law_weights" p_Y7 16 (spWts K))(g_Y21:Fn P w K mg base "table_of" p_Y21 16 spTab)(g_Y1:Fn P w K mg base "shares_of_table" p_Y1 16 spShT)
  (g_Y18:Fn P w K mg base "_law_plus" p_Y18 16 spPlus)(g_Y17:Fn P w K mg base "_law_frac" p_Y17 16 spFrac)(g_Y27:Fn P w K mg base "plan_of" p_Y27 16 (spOf K))(g_Y16:Fn P w K mg base "shares_of" p_Y16 16 (spSh K))(g_Y13:Fn P w K mg base "_law_same" p_Y13 16 (spSameS K 15))(g_Y29:Fn P w K mg base "bits_of" p_Y29 16 spBitsOf)
  {fP fW fE:Addr}{dP dW dE:FuncData}(g_Y34:FnX P w K mg base "pick" fP dP p_Y34 15 (spDone C CN ShW pkV))(g_Y26:FnX P w K mg base "by_plan" fW dW p_Y26 15 (spByP K C CN CS wkV))(g_Y22:FnX P w K mg base "by_table" fE dE p_Y22 15 (spByT C CN))(g_Y30:Fn P w K mg base "sums_of" p_Y30 16 spSums)(g_Y12:Fn P w K mg base "number_by" p_Y12 16 spNumBy):FnOk P w K mg base CX0 17 f fd p_law (spLaw K):=by
 refine F_law.ok sc_law (fun vs H Q E h=>?_) (fun cdv A outer s H vs Q E hr h=>?_)
 ·obtain⟨a,ns,rfl,_⟩:=h
  rfl
 obtain⟨a,ns,rfl,hS,h63,q⟩:=h
 refine⟨_,(pss_cons (ps_set (i:=1) sc_law.nd rfl (Or.inl rfl) (pe_lst pa_nil))
   (pss_cons (ps_for PassesOwn.never rfl (pi_range1 rfl B.range_ (pa_cons pe_int pa_nil)) (pg_name (i:=2) sc_law.nd rfl (Or.inl rfl)) (pss_cons (ps_set (i:=3) sc_law.nd rfl (Or.inl rfl) (pe_fn g_Y7 hr (pa_cons (pv 0) (pa_cons (pv 1) pa_nil))))
   (pss_cons (ps_set (i:=4) sc_law.nd rfl (Or.inl rfl) (pe_callB (call_sumT rfl) rfl B.sum_ L3.bt_sum (pa_cons (pv 3) pa_nil)))
   (pss_cons (ps_set (i:=5) sc_law.nd rfl (Or.inr rfl) (pe_op op_add pe_int (pe_fn g_Y19 hr (pa_cons (pv 0) (pa_cons (pv 1) (pa_cons pe_int pa_nil))))))
   (pss_cons (ps_set (i:=6) sc_law.nd rfl (Or.inl rfl) (pe_fn g_Y1 hr (pa_cons (pe_fn g_Y21 hr (pa_cons (pv 3) pa_nil)) (pa_cons (pv 4) pa_nil))))
   (pss_cons (ps_asg (pe_tup (pa_cons (pe_tup pa_nil) (pa_cons (pe_tup (pa_cons pe_int (pa_cons pe_int pa_nil))) pa_nil))) (pg_tup rfl (pgs_cons (pg_name (i:=7) sc_law.nd rfl (Or.inl rfl)) (pgs_cons (pg_name (i:=8) sc_law.nd rfl (Or.inl rfl)) pgs_nil))))
   (pss_cons (ps_for PassesOwn.never rfl (pi_enumT rfl B.enumerate_ (pa_cons (pv 6) pa_nil)) (pg_tup rfl (pgs_cons (pg_name (i:=9) sc_law.nd rfl (Or.inl rfl)) (pgs_cons (pg_name (i:=10) sc_law.nd rfl (Or.inl rfl)) pgs_nil))) (pss_cons (ps_set (i:=8) sc_law.nd rfl (Or.inl rfl) (pe_fn g_Y18 hr (pa_cons (pv 8) (pa_cons (pv 10) pa_nil))))
   (pss_cons (ps_if (pt_cmpR (op_neTI hr.units0) (pv 10) (pe_fn g_Y17 hr (pa_cons (pe_ix ix_tup (pv 3) (pv 9) (fun _ _=>rfl)) (pa_cons (pv 4) pa_nil))) (nomark _)) (pss_one (ps_ret pe_bl)) pss_nil)
   (pss_one (ps_set (i:=7) sc_law.nd rfl (Or.inl rfl) (pe_op op_cat0 (pv 7) (pe_op op_repT01 (pe_tup (pa_cons (pe_tup (pa_cons (pv 9) (pa_cons (pv 10) pa_nil))) pa_nil)) (pe_callTy call_int1 rfl B.int_ L3.bt_int (pa_cons (pe_cmpR op_gt (pe_ix ix_tup (pv 3) (pv 9) (fun _ _=>rfl)) pe_int (nomark _)) pa_nil)))))))))
   (pss_cons (ps_if (PW.pt (pw_or (pt_cmpR (op_neTI hr.units0) (pv 8) (pe_tup (pa_cons pe_int (pa_cons pe_int pa_nil))) (nomark _)) (pw_or1 (pt_not (pt_truth (pe_fn g_Y13 hr (pa_cons (pe_fn g_Y16 hr (pa_cons (pe_fn g_Y27 hr (pa_cons (pv 3) pa_nil)) pa_nil)) (pa_cons (pv 7) pa_nil))) (fun _=>rfl)))))) (pss_one (ps_ret pe_bl)) pss_nil)
   (pss_cons (ps_set (i:=11) sc_law.nd rfl (Or.inl rfl) (pv 3))
   (pss_cons (ps_join (ps_if (pt_cmpR op_le (pe_op op_mul (pv 4) (pv 5)) pe_int (nomark _)) (pss_one (ps_set (i:=11) sc_law.nd rfl (Or.inl rfl) (pe_callTy call_tuple_of rfl B.tuple_ L3.bt_tuple (pa_cons (pe_comp [] ["_law_script","_law_town","_law_k","_law_weights_here","_law_total","_law_by","_law_whole","_law_due","_law_together","_law_number","_law_share","_law_great","_law_bits","_law_some","_law_turn","_law_said","_law_weight"] 1 rfl (pi_tup (pv 3)) (fun _ _ _ _ _=>(pg_name (i:=16) nd_17 rfl (Or.inl rfl) (Or.inr rfl))) (fun _ _ _ _ _=>pif_nil) (fun _ _ _ _ _=>(pe_op op_mul (pv 16) (pv 5)))) pa_nil)))) pss_nil))
   (pss_cons (ps_if (pt_not (pt_truth (pe_fn g_Y13 hr (pa_cons (pe_fn g_Y16 hr (pa_cons (pe_fn g_Y27 hr (pa_cons (pe_op op_cat0 (pv 11) (pe_tup (pa_cons pe_int pa_nil))) pa_nil)) pa_nil)) (pa_cons (pv 7) pa_nil))) (fun _=>rfl))) (pss_one (ps_ret pe_bl)) pss_nil)
   (pss_cons (ps_if (pt_cmpR (op_neS hr.units) (pe_slice3 (pe_fn g_Y1 hr (pa_cons (pe_fn g_Y21 hr (pa_cons (pe_op op_cat0 (pv 11) (pe_tup (pa_cons pe_int pa_nil))) pa_nil)) (pa_cons (pe_callB (call_sumT rfl) rfl B.sum_ L3.bt_sum (pa_cons (pv 11) pa_nil)) pa_nil))) po_none (po_some (pe_un un_neg pe_int)) po_none) (pv 6) (nomark _)) (pss_one (ps_ret pe_bl)) pss_nil)
   (pss_cons (ps_set (i:=12) sc_law.nd rfl (Or.inl rfl) (pe_make T.made g_init (hr.mono (by first|decide|omega)) rfl T.mgC T.b_init .nil pass0 (pa_cons (pe_fn g_Y29 hr (pa_cons (pe_fn g_Y19 hr (pa_cons (pv 0) (pa_cons (pv 1) (pa_cons pe_int pa_nil)))) (pa_cons pe_int pa_nil))) pa_nil)))
   (pss_cons (ps_set (i:=13) sc_law.nd rfl (Or.inr rfl) (pe_comp [9] ["_law_script","_law_town","_law_k","_law_weights_here","_law_total","_law_by","_law_whole","_law_due","_law_together","_law_number","_law_share","_law_great","_law_bits","_law_some","_law_turn","_law_said","_law_weight"] 1 rfl (pi_enumT rfl B.enumerate_ (pa_cons (pv 3) pa_nil)) (fun _ _ _ _ _=>(pg_tupK K 2 rfl (pgs_cons (pg_name (i:=9) nd_18 rfl (Or.inl rfl) (Or.inr rfl)) (pgs_cons (pg_name (i:=16) nd_18 rfl (Or.inl rfl) (Or.inr rfl)) pgs_nil)) rfl rfl rfl)) (fun _ _ _ _ _=>(pif_one (pt_cmpR op_gt (pv 16) pe_int (nomark _)))) (fun _ _ _ _ _=>(pv 9))))
   (pss_one (ps_for PassesOwn.never rfl (pi_range1 rfl B.range_ (pa_cons pe_int pa_nil)) (pg_name (i:=14) sc_law.nd rfl (Or.inl rfl)) (pss_cons (ps_set (i:=15) sc_law.nd rfl (Or.inl rfl) (pe_lst (pa_cons (pe_calm (px_fn g_Y34 hr (pa_cons (pv 12) (pa_cons (pv 3) pa_nil)))) (pa_cons (pe_calm (px_fn g_Y26 hr (pa_cons (pv 12) (pa_cons (pe_fn g_Y27 hr (pa_cons (pv 3) pa_nil)) pa_nil)))) pa_nil))))
   (pss_cons (ps_expr (pe_bm PySem.F.plainAttrs_list PySem.F.slot_list_append PySem.F.type_list_append mt_append (pv 15) (pa_cons (pe_calm (px_fn g_Y22 hr (pa_cons (pv 12) (pa_cons (pe_fn g_Y21 hr (pa_cons (pv 3) pa_nil)) (pa_cons (pv 4) pa_nil))))) pa_nil)))
   (pss_cons (ps_expr (pe_bm PySem.F.plainAttrs_list PySem.F.slot_list_append PySem.F.type_list_append mt_append (pv 15) (pa_cons (pe_fn g_Y12 hr (pa_cons (pe_fn g_Y30 hr (pa_cons (pv 3) pa_nil)) (pa_cons (pe_fn g_Y19 hr (pa_cons (pv 0) (pa_cons (pv 1) (pa_cons (pv 4) pa_nil)))) pa_nil))) pa_nil)))
   (pss_one (ps_if (pt_truth (pe_comp [9] ["_law_script","_law_town","_law_k","_law_weights_here","_law_total","_law_by","_law_whole","_law_due","_law_together","_law_number","_law_share","_law_great","_law_bits","_law_some","_law_turn","_law_said"] 0 rfl (pi_list (pv 15)) (fun _ _ _ _ _=>(pg_name (i:=9) nd_19 rfl (Or.inl rfl) (Or.inr rfl))) (fun _ _ _ _ _=>(pif_one (pt_cmpR (op_notIn_seqK K rfl) (pv 9) (pv 13) rfl))) (fun _ _ _ _ _=>pe_int)) (fun _=>rfl)) (pss_one (ps_ret pe_bl)) pss_nil)))))))))))))))))))))
   (pss_one (ps_ret pe_bl)))),?_⟩
 refine⟨(by show 0≤sizeLine;decide),fun t ft=>?_⟩
 have sT:=same_new ft (.lst ([]:List V))
 have hT:Twn (upd H t (.lst [])) t 0:=upd_same
 replace hS:=sT.scr hS
 generalize upd H t (.lst [])=H0 at hS hT
 refine⟨5,rfl,by decide,by decide,for_range (lo:=0) (n:=5) (fun i σ' H'=>∃(k:Nat)(o2 o3 o4 o5 o6 o7 o8 o9 o10 o11 o12 o13 o14 o15:Option V),σ'=[some (.ref a),some (.ref t),o2,o3,o4,o5,o6,o7,o8,o9,o10,o11,o12,o13,o14,o15]∧Scr K H' a ns∧Twn H' t k∧k≤100*i)
  ⟨0,_,_,_,_,_,_,_,_,_,_,_,_,_,_,rfl,hS,hT,by omega⟩ ?_ ?_⟩
 rotate_left
 ·rintro σ H1 ⟨k,o2,o3,o4,o5,o6,o7,o8,o9,o10,o11,o12,o13,o14,o15,rfl,hS1,hT1,hk1⟩
  exact q H1
 rintro i σ H1 hi ⟨k,o2,o3,o4,o5,o6,o7,o8,o9,o10,o11,o12,o13,o14,o15,rfl,hS1,hT1,hk1⟩
 -- weights
 refine⟨_,rfl,_,rfl,a,t,ns,k,rfl,hS1,h63,hT1,by omega,fun p ws k2 H2 g2 t2 hk2 hW hl1 hl7 h0 h400=>?_⟩
 have hS2:=g2.scr hT1 hS1
 have hsum:ws.sum≤2800:=by
  have h1:=sum_le_len (m:=400) h400
  have h2:ws.length*400≤7*400:=Nat.mul_le_mul_right _ hl7
  omega
 clear hS1 hT1 g2
 -- total
 refine⟨_,rfl,p,ws.map (fun(n:Nat)=>(n:Int)),rfl,SqT.of (by rw[←vnats_ints];exact hW),?_⟩
 rw[sum_nats]
 -- by
 refine⟨_,rfl,_,rfl,a,t,ns,k2,4,rfl,hS2,h63,t2,by omega,by decide,fun H3 g3 t3=>⟨_,_,rfl,rfl,?_⟩⟩
 have d0:=drw_nn ns (k2+1) (show(0:Int)<4 by decide)
 have d1:=drw_lt ns (k2+1) (show(0:Int)<4 by decide)
 generalize drw ns (k2+1) 4=dd at d0 d1
 obtain⟨d,rfl⟩:=nat_of d0
 have hS3:=g3.scr t2 hS2
 have hW3:=g3 _ _ (twn_tup t2 hW) hW
 obtain⟨by_,hby,hb2,hb5⟩:∃m:Nat,(2:Int)+(d:Int)=(m:Int)∧2≤m∧m≤5:=⟨2+d,by omega,by omega,by omega⟩
 dsimp only
 rw[hby]
 clear g3 hS2 hW d0 d1 t2
 -- whole
 obtain⟨htl,htc⟩:=tabF_ok ws
 refine⟨_,rfl,p,ws,rfl,hW3,by omega,fun tb ps H4 s4 hP4 hQ4=>?_⟩
 have hTB:TabAt H4 tb (tabF ws):=⟨ps,hP4,hQ4⟩
 refine⟨_,rfl,tb,tabF ws,ws.sum,rfl,hTB,fun c h=>(htc c h).1,by omega,by omega,h0,by omega,fun wh rs H5 s5 hwh hF5=>?_⟩
 have hm0:0<ws.sum*(tabF ws).length:=Nat.mul_pos h0 (by omega)
 have hR5:Frs H5 rs ws ws.sum:=⟨by rw[hF5.1,List.length_map,List.length_range,htl],fun j q u e1 e2=>by
  have hj:j<ws.length:=(List.getElem?_eq_some_iff.mp e2).1
  have:=hF5.2 j q _ e1 (by rw[List.getElem?_map,List.getElem?_range (by omega)];rfl)
  rw[tabF_part ws hj,htl]at this
  have ev:ws.getD j 0=u:=by rw[List.getD_eq_getElem?_getD,e2];rfl
  rw[ev]at this
  rw[this]
  exact congrArg (fun x=>some (HO.tup x)) (frV_eq (Nat.mul_pos h0 (by omega)) h0 (by rw[Nat.mul_assoc,Nat.mul_comm ws.length]))⟩
 have s35:=s4.trans s5
 have hW5:=s35 _ _ hW3
 have hS5:=s35.scr hS3
 have t5:=s35.twn t3
 clear s4 s5 s35 hP4 hQ4 hTB hF5 hW3 hS3 t3 hm0
 -- due,together
 refine⟨(by show 0≤sizeLine;decide),fun d0 fd0=>?_⟩
 have y6:=same_new fd0 (.tup ([]:List V))
 have w6:(upd H5 d0 (.tup ([]:List V))) d0=some (.tup (([]:List Addr).map V.ref)):=upd_same
 generalize upd H5 d0 (.tup ([]:List V))=H6 at y6 w6 ⊢
 refine⟨(by show 2≤sizeLine;decide),fun d1 fd1=>?_⟩
 have y7:=same_new fd1 (.tup [V.int 0,V.int 1])
 have w7:(upd H6 d1 (.tup [V.int 0,V.int 1])) d1=some (.tup (frV 0 ws.sum)):=by rw[upd_same,frV_zero h0]
 generalize upd H6 d1 (.tup [V.int 0,V.int 1])=H7 at y7 w7 ⊢
 refine⟨(by show 2≤sizeLine;decide),fun d2 fd2=>?_⟩
 have y8:=same_new fd2 (.tup [V.ref d0,V.ref d1])
 have w8:(upd H7 d2 (.tup [V.ref d0,V.ref d1])) d2=some (.tup [V.ref d0,V.ref d1]):=upd_same
 generalize upd H7 d2 (.tup [V.ref d0,V.ref d1])=H8 at y8 w8 ⊢
 refine⟨d2,_,rfl,SqT.of w8,rfl,_,_,rfl,_,_,rfl,rfl,?_⟩
 have s58:=(y6.trans y7).trans y8
 have hW8:=s58 _ _ hW5
 have hS8:=s58.scr hS5
 have t8:=s58.twn t5
 have hR8:=hR5.same s58
 have hwh8:=s58 _ _ hwh
 have w68:=y8 _ _ (y7 _ _ w6)
 have w78:=y8 _ _ w7
 clear s58 y6 y7 y8 w6 w7 w8 fd0 fd1 fd2 hW5 hS5 t5 hR5 hwh
 refine⟨_,rfl,wh,rfl,⟨_,SqT.of hwh8⟩,for_enum (xs:=rs.map V.ref) (fun j σ' H'=>∃(du tg:Addr)(qs:List Addr)(o9 o10:Option V),σ'=[some (.ref a),some (.ref t),some (.int (0+(i:Int))),some (.ref p),some (.int ((ws.sum:Nat):Int)),some (.int (by_:Int)),some (.ref wh),some (.ref du),some (.ref tg),o9,o10,o11,o12,o13,o14,o15]∧Same H8 H'∧H' du=some (.tup (qs.map V.ref))∧ShL H' qs (posN ws j) (fun n=>frV (ws.getD n 0) ws.sum)∧H' tg=some (.tup (frV (ws.take j).sum ws.sum)))
  ⟨d0,d1,[],_,_,rfl,Same.refl _,w68,⟨rfl,fun j r n e=>by simp at e⟩,w78⟩ (fun j σ' H' _ ⟨_,_,_,_,_,_,y,_⟩=>SqT.of (y _ _ hwh8)) ?_ ?_⟩
 ·rintro j x σ' H9 pt hx ⟨du,tg,qs,q9,q10,rfl,y9,hdu,hQ,htg⟩ fpt
  rw[List.getElem?_map]at hx
  cases ex:rs[j]? with
  | none=>rw[ex]at hx;cases hx
  | some sh =>
   rw[ex]at hx
   obtain rfl:V.ref sh=x:=Option.some.inj hx
   have hj:j<ws.length:=by rw[←hR8.1];exact(List.getElem?_eq_some_iff.mp ex).1
   have hsh:=y9 _ _ (hR8.2 j sh (ws.getD j 0) ex (by rw[List.getD_eq_getElem?_getD,List.getElem?_eq_getElem hj];rfl))
   have y10:=same_new fpt (.tup [V.int (j:Int),V.ref sh])
   have w10:(upd H9 pt (.tup [V.int (j:Int),V.ref sh])) pt=some (.tup [V.int (j:Int),V.ref sh]):=upd_same
   generalize upd H9 pt (.tup [V.int (j:Int),V.ref sh])=H10 at y10 w10 ⊢
   refine⟨pt,_,rfl,SqT.of w10,rfl,_,_,rfl,_,_,rfl,rfl,?_⟩
   have b0:(ws.take j).sum+ws.getD j 0≤ws.sum:=by
    rw[←take_sum hj]
    conv=>rhs;rw[←List.take_append_drop (j+1) ws]
    rw[List.sum_append]
    exact Nat.le_add_right _ _
   have b1:=frU_le (ws.take j).sum ws.sum
   have b2:=frL_le (ws.take j).sum ws.sum
   have b3:=frU_le (ws.getD j 0) ws.sum
   have b4:=frL_le (ws.getD j 0) ws.sum
   have b5:frL (ws.take j).sum ws.sum*frL (ws.getD j 0) ws.sum≤2800*2800:=Nat.mul_le_mul (by omega) (by omega)
   refine⟨_,rfl,_,rfl,tg,sh,_,_,_,_,rfl,y10 _ _ htg,y10 _ _ hsh,frL_pos h0,frL_pos h0,.of (by omega),.of (by omega),.of (by omega),.of (by omega),.of (by omega),fun tg2 H11 s11 w11=>?_⟩
   rw[fr_add h0,←take_sum hj]at w11
   have s911:=y10.trans s11
   have hW11:=s911 _ _ (y9 _ _ hW8)
   have hsh11:=s911 _ _ hsh
   refine⟨_,rfl,_,rfl,_,rfl,p,_,_,_,rfl,rfl,SqT.of hW11,atI_nat (vnats_at hj),_,rfl,ws.getD j 0,ws.sum,rfl,h0,Fit.of (by omega),fun fp H12 s12 w12=>?_⟩
   refine⟨sh,fp,[(frU (ws.getD j 0) ws.sum:Int),(frL (ws.getD j 0) ws.sum:Int)],[(frU (ws.getD j 0) ws.sum:Int),(frL (ws.getD j 0) ws.sum:Int)],rfl,rfl,SqT.of (s12 _ _ hsh11),SqT.of w12,_,rfl,?_⟩
   rw[decide_eq_true rfl]
   refine iteF ?_
   have hW12:=s12 _ _ hW11
   refine⟨_,rfl,_,rfl,_,rfl,(by show 2≤sizeLine;decide),fun p13 fp13=>?_⟩
   have y13:=same_new fp13 (.tup [V.int (j:Int),V.ref sh])
   have w13:(upd H12 p13 (.tup [V.int (j:Int),V.ref sh])) p13=some (.tup [V.int (j:Int),V.ref sh]):=upd_same
   generalize upd H12 p13 (.tup [V.int (j:Int),V.ref sh])=H13 at y13 w13 ⊢
   refine⟨(by show 1≤sizeLine;decide),fun p14 fp14=>?_⟩
   have y14:=same_new fp14 (.tup [V.ref p13])
   have w14:(upd H13 p14 (.tup [V.ref p13])) p14=some (.tup [V.ref p13]):=upd_same
   generalize upd H13 p14 (.tup [V.ref p13])=H14 at y14 w14 ⊢
   have s1214:=y13.trans y14
   have s914:=(s911.trans s12).trans s1214
   have hQ14:=hQ.same s914
   have hdu14:=s914 _ _ hdu
   have htg14:=s1214 _ _ (s12 _ _ w11)
   have hql:qs.length≤7:=by
    rw[hQ.1]
    have:=List.length_filter_le (fun i=>decide (0<ws.getD i 0)) (List.range j)
    rw[List.length_range]at this
    unfold posN
    omega
   refine⟨_,rfl,_,rfl,p,_,_,_,rfl,rfl,SqT.of (s1214 _ _ hW12),atI_nat (vnats_at hj),_,_,rfl,rfl,.inr ⟨_,rfl,p14,_,_,rfl,rfl,SqT.of w14,(by intro z;cases z),?_⟩⟩
   by_cases c:0<ws.getD j 0
   ·refine .inl ⟨by rw[if_pos (decide_eq_true (by omega))],cat34 hdu14 w14 (by rw[List.length_map];show qs.length+1≤300000;omega) fun pn H15 s15 w15=>?_⟩
    refine⟨pn,tg2,qs++[p13],_,_,rfl,(y9.trans s914).trans s15,by rw[w15,List.map_append];rfl,?_,s15 _ _ htg14⟩
    rw[posN_succ,if_pos c]
    exact(hQ14.same s15).snoc (s15 _ _ (y14 _ _ w13)) (s15 _ _ (s914 _ _ hsh))
   ·refine .inr ⟨by rw[if_neg (by rw[decide_eq_false (by omega)];decide)],fun p15 fp15=>?_⟩
    have y15:=same_new fp15 (.tup ([]:List V))
    have w15:(upd H14 p15 (.tup ([]:List V))) p15=some (.tup []):=upd_same
    generalize upd H14 p15 (.tup ([]:List V))=H15 at y15 w15 ⊢
    refine cat34 (y15 _ _ hdu14) w15 (by rw[List.length_map];show qs.length+0≤300000;omega) fun pn H16 s16 w16=>?_
    refine⟨pn,tg2,qs,_,_,rfl,((y9.trans s914).trans y15).trans s16,by rw[w16,List.append_nil],?_,s16 _ _ (y15 _ _ htg14)⟩
    rw[posN_succ,if_neg c,List.append_nil]
    exact(hQ14.same y15).same s16
 rintro σ' H9 ⟨du,tg,qs,q9,q10,rfl,y9,hdu,hQ,htg⟩
 rw[List.length_map,hR8.1]at hQ htg
 rw[List.take_length,frV_one h0]at htg
 have hW9:=y9 _ _ hW8
 have hS9:=y9.scr hS8
 have t9:=y9.twn t8
 have hR9:=hR8.same y9
 have hwh9:=y9 _ _ hwh8
 clear y9 hW8 hS8 t8 hR8 hwh8 w68 w78
 -- together,and the plan's shares
 refine⟨_,rfl,(by show 2≤sizeLine;decide),fun p10 f10=>?_⟩
 have y10:=same_new f10 (.tup [V.int 1,V.int 1])
 have w10:(upd H9 p10 (.tup [V.int 1,V.int 1])) p10=some (.tup [V.int 1,V.int 1]):=upd_same
 generalize upd H9 p10 (.tup [V.int 1,V.int 1])=H10 at y10 w10 ⊢
 refine⟨tg,p10,[1,1],[1,1],rfl,rfl,SqT.of (y10 _ _ htg),SqT.of w10,_,rfl,?_⟩
 rw[decide_eq_true rfl]
 refine iteF ?_
 refine⟨_,rfl,p,ws,rfl,y10 _ _ hW9,h0,by omega,by omega,fun v D H11 s11 hD hP=>?_⟩
 have hge:ws.sum≤2 ^ D:=hD.1
 have hD12:D≤12:=isD_le hD (by omega)
 refine⟨v,_,rfl,hP,Nat.le_trans (plW_dp hge) hD12,plW_has hge h0,fun n d h=>by have:=plW_num hge h;omega,fun pr ss ms H12 s12 hpr hms hmem hrl hsh=>?_⟩
 have hmsE:ms=posN ws ws.length:=sorted_uniq hms (posN_sorted _ _) fun n=>by rw[hmem,plW_mem hge,posN_mem]
 subst hmsE
 have hposl:(posN ws ws.length).length≤7:=by
  have:=List.length_filter_le (fun i=>decide (0<ws.getD i 0)) (List.range ws.length)
  rw[List.length_range]at this
  unfold posN
  omega
 have s912:=(y10.trans s11).trans s12
 refine⟨_,rfl,_,_,rfl,sh_eqv (n:=11) hpr (s912 _ _ hdu) ⟨hrl,fun j r n e1 e2=>?_⟩ (hQ.same s912) (fun n=>⟨_,_,rfl⟩) (by omega),fun H13 s13=>⟨_,rfl,iteF ?_⟩⟩
 ·obtain⟨fp,z1,z2⟩:=hsh j r n e1 e2
  rw[plW_frV hge h0]at z2
  exact⟨fp,z1,z2⟩
 have s913:=s912.trans s13
 have hW13:=s913 _ _ hW9
 have hS13:=s913.scr hS9
 have t13:=s913.twn t9
 have hR13:=hR9.same s913
 have hwh13:=s913 _ _ hwh9
 have hQ13:=hQ.same s913
 have hdu13:=s913 _ _ hdu
 clear s913 s912 s13 s12 s11 y10 w10 hpr hms hmem hrl hsh hP hW9 hS9 t9 hR9 hwh9 hQ hdu htg f10
 -- great
 refine⟨_,rfl,?_⟩
 refine⟨fun σ' H'=>∃(pg:Addr)(c:Nat),σ'=[some (.ref a),some (.ref t),some (.int (0+(i:Int))),some (.ref p),some (.int ((ws.sum:Nat):Int)),some (.int (by_:Int)),some (.ref wh),some (.ref du),some (.ref tg),q9,q10,some (.ref pg),o12,o13,o14,o15]∧Same H13 H'∧H' pg=some (.tup (vnats (ws.map (·*c))))∧0<c∧ws.sum*c≤4096,?_,?_⟩
 rotate_left
 ·refine⟨_,rfl,_,rfl,_,_,rfl,rfl,.inr ⟨by omega,by omega⟩,_,_,rfl,rfl,_,rfl,ite2 (fun c=>?_) (fun c=>?_)⟩
  ·have c':((ws.sum:Nat):Int)*(by_:Int)≤4096:=of_decide_eq_true c
   rw[←Int.natCast_mul]at c'
   refine⟨_,rfl,p,rfl,⟨_,SqT.of hW13⟩,comp_tup (xs:=vnats ws) (fun j acc σ2 H2=>Same H13 H2∧acc=vnats ((ws.take j).map (·*by_))∧∃o,σ2=[some (.ref a),some (.ref t),some (.int (0+(i:Int))),some (.ref p),some (.int ((ws.sum:Nat):Int)),some (.int (by_:Int)),some (.ref wh),some (.ref du),some (.ref tg),q9,q10,some (.ref p),o12,o13,o14,o15,o]) ⟨Same.refl _,rfl,_,rfl⟩
    (fun j acc σ2 H2 hj ⟨_,e,_⟩=>by rw[e,vnats_len,List.length_map,List.length_take];omega) (fun j acc σ2 H2 hj ⟨s2,_⟩=>SqT.of (s2 _ _ hW13)) ?_ ?_⟩
   ·rintro j x acc σ2 H2 hx ⟨s2,rfl,o,rfl⟩
    have hj:j<ws.length:=by
     have:=(List.getElem?_eq_some_iff.mp hx).1
     rw[vnats_len]at this
     exact this
    rw[vnats_at hj]at hx
    obtain rfl:=Option.some.inj hx
    refine⟨_,rfl,_,rfl,_,_,rfl,rfl,.inr ⟨by omega,by omega⟩,s2,?_,_,rfl⟩
    rw[List.take_add_one,List.getElem?_eq_getElem hj,List.map_append,vnats_app,List.getD_eq_getElem?_getD,List.getElem?_eq_getElem hj]
    show _++[V.int ((ws[j]:Int)*(by_:Int))]=_++[V.int ((ws[j]*by_:Nat):Int)]
    rw[Int.natCast_mul]
   ·rintro acc σ2 H2 L ⟨s2,rfl,o,rfl⟩ fL
    rw[vnats_len,List.take_length]
    have yL:=same_new fL (.lst (vnats (ws.map (·*by_))))
    have wL:(upd H2 L (.lst (vnats (ws.map (·*by_))))) L=some (.lst (vnats (ws.map (·*by_)))):=upd_same
    generalize upd H2 L (.lst (vnats (ws.map (·*by_))))=H3' at yL wL ⊢
    refine⟨L,_,rfl,.inl ⟨SqL.of wL,fun dp fdp=>?_⟩⟩
    exact⟨dp,by_,rfl,(s2.trans yL).trans (same_new fdp _),upd_same,by omega,by omega⟩
  ·exact⟨p,1,rfl,Same.refl _,by rw[hW13];congr 2;rw[show(fun x:Nat=>x*1)=id from funext fun x=>Nat.mul_one x,List.map_id],by decide,by omega⟩
 rintro σ' H14 ⟨pg,c,rfl,s14,hG,hc,hc4⟩
 have hW14:=s14 _ _ hW13
 have hS14:=s14.scr hS13
 have t14:=s14.twn t13
 have hR14:=hR13.same s14
 have hwh14:=s14 _ _ hwh13
 have hQ14:=hQ13.same s14
 have hdu14:=s14 _ _ hdu13
 clear s14 hW13 hS13 t13 hR13 hwh13 hQ13 hdu13
 have hus:(ws.map (·*c)++[0]).sum=ws.sum*c:=by rw[List.sum_append,gz_sum];rfl
 have hul:(ws.map (·*c)++[0]).length=ws.length+1:=by rw[List.length_append,List.length_map];rfl
 have hu0:0<ws.sum*c:=Nat.mul_pos h0 hc
 -- the plan of the great ones
 refine⟨_,rfl,(by show 1≤sizeLine;decide),fun p15 f15=>?_⟩
 have y15:=same_new f15 (.tup [V.int 0])
 have w15:(upd H14 p15 (.tup [V.int 0])) p15=some (.tup (vnats [0])):=upd_same
 generalize upd H14 p15 (.tup [V.int 0])=H15 at y15 w15 ⊢
 refine cat34 (y15 _ _ hG) w15 (by rw[vnats_len,List.length_map];show ws.length+1≤300000;omega) fun pu H16 s16 w16=>?_
 rw[←vnats_app]at w16
 refine⟨pu,_,rfl,w16,by omega,by omega,by omega,fun v2 D2 H17 s17 hD2 hP2=>?_⟩
 have hge2:=hD2.1
 have hD22:D2≤12:=isD_le hD2 (by omega)
 refine⟨v2,_,rfl,hP2,Nat.le_trans (plW_dp hge2) hD22,plW_has hge2 (by omega),fun n d h=>by have:=plW_num hge2 h;omega,fun pr ss ms H18 s18 hpr hms hmem hrl hsh=>?_⟩
 have hmsE:ms=posN ws ws.length:=sorted_uniq hms (posN_sorted _ _) fun n=>by
  rw[hmem,plW_mem hge2,posN_mem,nil_getD,gz_getD]
  exact⟨fun h=>Nat.pos_of_mul_pos_right h,fun h=>Nat.mul_pos h hc⟩
 subst hmsE
 have s1418:=((y15.trans s16).trans s17).trans s18
 refine⟨_,rfl,_,_,rfl,sh_eqv (n:=11) hpr (s1418 _ _ hdu14) ⟨hrl,fun j r n e1 e2=>?_⟩ (hQ14.same s1418) (fun n=>⟨_,_,rfl⟩) (by omega),fun H19 s19=>⟨_,rfl,iteF ?_⟩⟩
 ·obtain⟨fp,z1,z2⟩:=hsh j r n e1 e2
  rw[plW_frV hge2 (by omega),zero_or ws hc h0]at z2
  exact⟨fp,z1,z2⟩
 have s1419:=s1418.trans s19
 have hW19:=s1419 _ _ hW14
 have hS19:=s1419.scr hS14
 have t19:=s1419.twn t14
 have hR19:=hR14.same s1419
 have hwh19:=s1419 _ _ hwh14
 have hG19:=s1419 _ _ hG
 clear s1419 s1418 s19 s18 s17 s16 y15 w15 w16 f15 hpr hms hmem hrl hsh hP2 hW14 hS14 t14 hR14 hwh14 hQ14 hdu14 hG hge2
 -- the table of the great ones
 refine⟨_,rfl,(by show 1≤sizeLine;decide),fun p20 f20=>?_⟩
 have y20:=same_new f20 (.tup [V.int 0])
 have w20:(upd H19 p20 (.tup [V.int 0])) p20=some (.tup (vnats [0])):=upd_same
 generalize upd H19 p20 (.tup [V.int 0])=H20 at y20 w20 ⊢
 refine cat34 (y20 _ _ hG19) w20 (by rw[vnats_len,List.length_map];show ws.length+1≤300000;omega) fun pu2 H21 s21 w21=>?_
 rw[←vnats_app]at w21
 refine⟨pu2,_,rfl,w21,by omega,fun tb2 ps2 H22 s22 hP22 hQ22=>?_⟩
 obtain⟨htl2,htc2⟩:=tabF_ok (ws.map (·*c)++[0])
 have s1922:=(y20.trans s21).trans s22
 have hG22:=s1922 _ _ hG19
 refine⟨_,rfl,pg,(ws.map (·*c)).map (fun(n:Nat)=>(n:Int)),rfl,SqT.of (by rw[←vnats_ints];exact hG22),?_⟩
 rw[sum_nats,gz_sum]
 refine⟨tb2,tabF (ws.map (·*c)++[0]),ws.sum*c,rfl,⟨ps2,hP22,hQ22⟩,fun x h=>by have:=(htc2 x h).1;omega,by omega,by omega,hu0,by omega,fun wh2 rs2 H23 s23 hwh2 hF23=>?_⟩
 have hl2:rs2.length=ws.length+1:=by rw[hF23.1,List.length_map,List.length_range,htl2,hul]
 have hR23:∀(j:Nat)(q:Addr),j<ws.length→rs2[j]?=some q→H23 q=some (.tup (frV (ws.getD j 0) ws.sum)):=fun j q hj e1=>by
  have:=hF23.2 j q _ e1 (by rw[List.getElem?_map,List.getElem?_range (by omega)];rfl)
  have hp:=tabF_part (ws.map (·*c)++[0]) (show j<(ws.map (·*c)++[0]).length by omega)
  rw[hus]at hp
  rw[hp,htl2,nil_getD,gz_getD]at this
  rw[this]
  exact congrArg (fun x=>some (HO.tup x)) (frV_eq (Nat.mul_pos hu0 (by omega)) h0 (by
   generalize (ws.map (·*c)++[0]).length=l
   generalize ws.getD j 0=x
   generalize ws.sum=z
   grind))
 refine np ?_
 refine⟨_,rfl,_,rfl,?_⟩
 refine np ?_
 refine sl_last hwh2 (by rw[List.length_map];omega) (by rw[List.length_map];omega) fun wh3 H24 s24 w24=>?_
 rw[List.length_map,hl2,Nat.add_sub_cancel,←List.map_take]at w24
 have s1924:=(s1922.trans s23).trans s24
 refine⟨_,rfl,2,wh3,wh,_,_,by decide,rfl,rfl,.inl ⟨w24,s1924 _ _ hwh19⟩,?_,_,rfl,iteF ?_⟩
 ·refine pairedGet (by rw[List.length_map,List.length_map,List.length_take,hl2,hR19.1];omega) fun j x y e1 e2=>?_
  rw[List.getElem?_map]at e1 e2
  cases f1:(rs2.take ws.length)[j]? with
  | none=>rw[f1]at e1;cases e1
  | some r1 =>
   cases f2:rs[j]? with
   | none=>rw[f2]at e2;cases e2
   | some r2 =>
    rw[f1]at e1
    rw[f2]at e2
    cases e1
    cases e2
    have hj:j<ws.length:=by rw[←hR19.1];exact(List.getElem?_eq_some_iff.mp f2).1
    rw[List.getElem?_take_of_lt hj]at f1
    have z1:=s24 _ _ (hR23 j r1 hj f1)
    have z2:=s1924 _ _ (hR19.2 j r2 (ws.getD j 0) f2 (by rw[List.getD_eq_getElem?_getD,List.getElem?_eq_getElem hj];rfl))
    exact .inr ⟨r1,r2,_,_,rfl,rfl,.inl ⟨z1,z2⟩,.cons (.inl ⟨rfl,.inl ⟨_,rfl⟩⟩) (.cons (.inl ⟨rfl,.inl ⟨_,rfl⟩⟩) .nil)⟩
 have hW24:=s1924 _ _ hW19
 have hS24:=s1924.scr hS19
 have t24:=s1924.twn t19
 clear s1924 s1922 s24 s23 s22 s21 y20 w20 w21 w24 f20 hP22 hQ22 hF23 hR23 hwh2 hG22 hW19 hS19 t19 hR19 hwh19 hG19 htl2 htc2
 -- the bits
 refine⟨_,rfl,_,rfl,a,t,ns,k2+1,4294967296,rfl,hS24,h63,t24,by omega,by decide,fun H25 g25 t25=>?_⟩
 have d0:=drw_nn ns (k2+1+1) (show(0:Int)<4294967296 by decide)
 have d1:=drw_lt ns (k2+1+1) (show(0:Int)<4294967296 by decide)
 generalize drw ns (k2+1+1) 4294967296=dd at d0 d1
 obtain⟨sd,rfl⟩:=nat_of d0
 have hsd:sd<4294967296:=by omega
 have hS25:=g25.scr t24 hS24
 have hW25:=g25 _ _ (twn_tup t24 hW24) hW24
 clear g25 hS24 t24 hW24 d0 d1
 refine⟨_,4000,rfl,by decide,fun r H26 s26 w26=>?_⟩
 rw[strm_blN hsd]at w26
 obtain⟨bl,hbl⟩:∃bl,bl=blN sd 4000 0:=⟨_,rfl⟩
 have hrp:Rp (cb (stM 1 sd)) 0 bl:=by rw[hbl];exact blN_rp sd 4000 0
 have hlen:bl.length=4000:=by rw[hbl];exact blN_len sd 4000 0
 have hbit:∀y∈bl,y≤1:=by rw[hbl];exact blN_bit sd 4000 0
 rw[←hbl]at w26
 have hS26:=s26.scr hS25
 have t26:=s26.twn t25
 have hW26:=s26 _ _ hW25
 clear s26 hS25 t25 hW25 hbl
 intro b dx nb ndx nex
 have s27:Same H26 (upd (upd H26 dx (.own b)) b (.ins C dx [])):=fun c o y=>by
  rw[upd_ne (ne_of_none y nb),upd_ne (ne_of_none y ndx)]
  exact y
 refine⟨b,dx,r,vbits bl,rfl,upd_same,s27 _ _ w26,fun H28 e28 kp=>⟨rfl,?_⟩⟩
 have s28:Same H26 H28:=fun c o y=>kp c o (s27 c o y) (ne_of_none y nb)
 have a28:At C H28 b dx r bl 0:=⟨e28,s28 _ _ w26,Nat.zero_le _⟩
 have hS28:=s28.scr hS26
 have t28:=s28.twn t26
 have hW28:=s28 _ _ hW26
 clear s27 s28 e28 kp nb ndx nex w26 hS26 t26 hW26
 -- some
 refine⟨_,rfl,p,rfl,⟨_,SqT.of hW28⟩,comp_enum (xs:=vnats ws) (fun j acc σ' H'=>∃(o9 o16:Option V),acc=vnats (posN ws j)∧σ'=[some (.ref a),some (.ref t),some (.int (0+(i:Int))),some (.ref p),some (.int ((ws.sum:Nat):Int)),some (.int (by_:Int)),some (.ref wh),some (.ref du),some (.ref tg),o9,q10,some (.ref pg),some (.ref b),o13,o14,o15,o16]∧Same H28 H')
  ⟨_,_,rfl,rfl,Same.refl _⟩ (fun j acc σ' H' hj ⟨_,_,e,_⟩=>by
   rw[e,vnats_len]
   have:=List.length_filter_le (fun i=>decide (0<ws.getD i 0)) (List.range j)
   rw[List.length_range]at this
   rw[vnats_len]at hj
   unfold posN
   omega) (fun j acc σ' H' _ ⟨_,_,_,_,y⟩=>SqT.of (y _ _ hW28)) ?_ ?_⟩
 ·rintro j x acc σ' H29 pt hx ⟨o9',o16',rfl,rfl,y29⟩ fpt
  have hj:j<ws.length:=by rw[←vnats_len];exact(List.getElem?_eq_some_iff.mp hx).1
  rw[vnats_at hj]at hx
  obtain rfl:=Option.some.inj hx
  have y30:=same_new fpt (.tup [V.int (j:Int),V.int ((ws.getD j 0:Nat):Int)])
  have w30:(upd H29 pt (.tup [V.int (j:Int),V.int ((ws.getD j 0:Nat):Int)])) pt=some (.tup [V.int (j:Int),V.int ((ws.getD j 0:Nat):Int)]):=upd_same
  generalize upd H29 pt (.tup [V.int (j:Int),V.int ((ws.getD j 0:Nat):Int)])=H30 at y30 w30 ⊢
  refine⟨pt,_,rfl,SqT.of w30,rfl,_,_,rfl,_,_,rfl,rfl,?_⟩
  refine⟨_,rfl,_,_,rfl,rfl,_,rfl,?_⟩
  by_cases c0:0<ws.getD j 0
  ·rw[decide_eq_true (by omega)]
   refine iteT ⟨_,rfl,_,_,?_,rfl,y29.trans y30⟩
   rw[posN_succ,if_pos c0,vnats_app]
   rfl
  ·rw[decide_eq_false (by omega)]
   refine iteF ⟨_,_,?_,rfl,y29.trans y30⟩
   rw[posN_succ,if_neg c0,List.append_nil]
 rintro acc σ' H29 L ⟨o9',o16',rfl,rfl,y29⟩ fL
 rw[vnats_len]
 have yL:=same_new fL (.lst (vnats (posN ws ws.length)))
 have wL:(upd H29 L (.lst (vnats (posN ws ws.length)))) L=some (.lst (vnats (posN ws ws.length))):=upd_same
 generalize upd H29 L (.lst (vnats (posN ws ws.length)))=H30 at yL wL ⊢
 have s30:=y29.trans yL
 have nLt:L≠t:=twn_new (y29.twn t28) fL
 have hS30:=s30.scr hS28
 have t30:=s30.twn t28
 have hW30:=s30 _ _ hW28
 have a30:=a28.same s30
 clear s30 yL y29 fL hS28 t28 hW28 a28
 have m0:0<ws.sum*(tabF ws).length:=Nat.mul_pos h0 (by omega)
 have m15:ws.sum*(tabF ws).length≤2 ^ 15:=by
  rw[htl]
  have:=Nat.mul_le_mul hsum hl7
  exact Nat.le_trans this (by decide)
 obtain⟨S,off,g,nn,ee,W,hSw⟩:=enough hall (stM_lt hsd 1) hD hD12 hl7
 -- twelve turns
 refine⟨12,rfl,by decide,by decide,for_range (lo:=0) (n:=12) (fun j σ' H'=>∃(kk z:Nat)(o14 o15:Option V),σ'=[some (.ref a),some (.ref t),some (.int (0+(i:Int))),some (.ref p),some (.int ((ws.sum:Nat):Int)),some (.int (by_:Int)),some (.ref wh),some (.ref du),some (.ref tg),q9,q10,some (.ref pg),some (.ref b),some (.ref L),o14,o15]∧Scr K H' a ns∧Twn H' t kk∧kk≤k2+2+j∧H' p=some (.tup (vnats ws))∧H' L=some (.lst (vnats (posN ws ws.length)))∧At C H' b dx r bl z∧Trn (cb (stM 1 sd)) g ee j z)
  ⟨k2+2,0,_,_,rfl,hS30,t30,by omega,hW30,wL,a30,Trn.zero W⟩ ?_ ?_⟩
 rotate_left
 ·rintro σ' H31 ⟨kk,z,q14,q15,rfl,hS31,t31,hkk,_⟩
  exact⟨kk,_,_,_,_,_,_,_,_,_,_,_,_,_,_,rfl,hS31,t31,by omega⟩
 rintro j σ' H31 hj ⟨kk,z,q14,q15,rfl,hS31,t31,hkk,hW31,wL31,a31,hT31⟩
 obtain⟨v1,u1,v2,u2,v3,u3,x1,x2,x3,hT32⟩:=turn W hrp hlen hD hD12 h0 hl7 hSw m0 m15 hj hT31
 have hp12:(plW ws D).dp≤12:=Nat.le_trans (plW_dp hD.1) hD12
 have hhas:=plW_has hD.1 h0
 -- pick
 refine⟨_,rfl,_,rfl,b,dx,r,bl,z,_,ws,rfl,a31,⟨p,rfl,hW31,h0,by omega,by omega⟩,fun v u H32 hv g32 a32=>?_,fun H32 hv _ _=>by unfold pkV at hv;rw[x1]at hv;cases hv⟩
 unfold pkV at hv
 rw[x1]at hv
 cases hv
 have hW32:=g32 _ _ (fun e=>by rw[e,a31.obj]at hW31;cases hW31) hW31
 have wL32:=g32 _ _ (fun e=>by rw[e,a31.obj]at wL31;cases wL31) wL31
 have hS32:=grow_scrB g32 a31 hS31
 have t32:=grow_twnB g32 a31 t31
 clear g32 a31 hW31 wL31 hS31 t31
 -- by_plan
 refine⟨_,rfl,_,rfl,p,ws,rfl,hW32,h0,by omega,by omega,fun pv' D' H33 s33 hD' hP33=>?_⟩
 obtain rfl:=isD_uniq hD hD'
 have a33:=a32.same s33
 refine⟨b,dx,r,bl,z+u1,pv',_,rfl,a33,hbit,hP33,hp12,fun v u H34 hh hv g34 a34=>?_,fun H34 _ hv _ _=>(by unfold wkV at hv;rw[x2]at hv;cases hv),fun H34 hh _=>(by rw[hhas]at hh;cases hh)⟩
 unfold wkV at hv
 rw[x2]at hv
 cases hv
 have hW33:=s33 _ _ hW32
 have wL33:=s33 _ _ wL32
 have hW34:=g34 _ _ (fun e=>by rw[e,a33.obj]at hW33;cases hW33) hW33
 have wL34:=g34 _ _ (fun e=>by rw[e,a33.obj]at wL33;cases wL33) wL33
 have hS34:=grow_scrB g34 a33 (s33.scr hS32)
 have t34:=grow_twnB g34 a33 (s33.twn t32)
 clear g34 a33 a32 hW32 wL32 hS32 t32 hW33 wL33 hP33 s33 hD' hh
 -- said
 refine⟨(by show 2≤sizeLine;decide),fun S0 fS=>?_⟩
 have y35:=same_new fS (.lst [V.int (v1:Int),V.int (v2:Int)])
 have w35:(upd H34 S0 (.lst [V.int (v1:Int),V.int (v2:Int)])) S0=some (.lst [V.int (v1:Int),V.int (v2:Int)]):=upd_same
 have nSt:S0≠t:=twn_new t34 fS
 have nSL:L≠S0:=fun e=>by rw[e,fS]at wL34;cases wL34
 generalize upd H34 S0 (.lst [V.int (v1:Int),V.int (v2:Int)])=H35 at y35 w35 ⊢
 have hW35:=y35 _ _ hW34
 have wL35:=y35 _ _ wL34
 have hS35:=y35.scr hS34
 have t35:=y35.twn t34
 have a35:=a34.same y35
 clear y35 fS hW34 wL34 hS34 t34 a34
 -- by_table
 refine⟨_,rfl,.inl ⟨rfl,_,SqL.of w35⟩,_,rfl,_,rfl,p,ws,rfl,hW35,by omega,fun tb3 ps3 H36 s36 hP36 hQ36=>?_⟩
 have a36:=a35.same s36
 have ev:tbV (tabF ws) ws.sum (bl.drop (z+u1+u2))=some (.int (tbN (tabF ws) ws.sum v3:Int),u3):=by unfold tbV tbF;rw[x3];rfl
 refine⟨_,rfl,b,dx,r,tb3,bl,z+u1+u2,tabF ws,ws.sum,rfl,a36,⟨ps3,hP36,hQ36⟩,h0,by omega,by omega,by omega,fun v u H37 hv g37 a37=>?_,fun H37 hv _ _=>by rw[ev]at hv;cases hv⟩
 rw[ev]at hv
 cases hv
 have hW36:=s36 _ _ hW35
 have wL36:=s36 _ _ wL35
 have w36:=s36 _ _ w35
 have hW37:=g37 _ _ (fun e=>by rw[e,a36.obj]at hW36;cases hW36) hW36
 have wL37:=g37 _ _ (fun e=>by rw[e,a36.obj]at wL36;cases wL36) wL36
 have w37:=g37 _ _ (fun e=>by rw[e,a36.obj]at w36;cases w36) w36
 have hS37:=grow_scrB g37 a36 (s36.scr hS35)
 have t37:=grow_twnB g37 a36 (s36.twn t35)
 clear g37 a36 a35 hW35 wL35 w35 hS35 t35 hW36 wL36 w36 hP36 hQ36 s36
 have kept:∀{Ha:Hp}{xs:List V}{c:Addr}{o:HO},c≠S0→Ha c=some o→(upd Ha S0 (.lst xs)) c=some o:=fun {Ha xs c o} n h=>by rw[upd_ne n];exact h
 have scrk:∀{Ha:Hp}{xs ys:List V},Ha S0=some (.lst xs)→Scr K Ha a ns→Scr K (upd Ha S0 (.lst ys)) a ns:=fun {Ha xs ys} h s=>by
  rcases s with ⟨o,y⟩|y
  ·exact .inl ⟨o,kept (fun e=>by rw[e,h]at y;cases y) y⟩
  ·exact .inr y
 have atk:∀{Ha:Hp}{xs ys:List V}{zz:Nat},Ha S0=some (.lst xs)→At C Ha b dx r bl zz→At C (upd Ha S0 (.lst ys)) b dx r bl zz:=fun {Ha xs ys zz} h s=>⟨kept (fun e=>by have:=s.obj;rw[e,h]at this;cases this) s.obj,kept (fun e=>by have:=s.row;rw[e,h]at this;cases this) s.row,s.le⟩
 refine⟨S0,_,_,rfl,rfl,w37,smallL (by show 2≤1000000;decide),?_⟩
 have w38:(upd H37 S0 (.lst ([V.int (v1:Int),V.int (v2:Int)]++[V.int (tbN (tabF ws) ws.sum v3:Int)]))) S0=some (.lst [V.int (v1:Int),V.int (v2:Int),V.int (tbN (tabF ws) ws.sum v3:Int)]):=upd_same
 have hW38:(upd H37 S0 (.lst ([V.int (v1:Int),V.int (v2:Int)]++[V.int (tbN (tabF ws) ws.sum v3:Int)]))) p=_:=kept (fun e=>by rw[e,w37]at hW37;cases hW37) hW37
 have wL38:(upd H37 S0 (.lst ([V.int (v1:Int),V.int (v2:Int)]++[V.int (tbN (tabF ws) ws.sum v3:Int)]))) L=_:=kept nSL wL37
 have t38:Twn (upd H37 S0 (.lst ([V.int (v1:Int),V.int (v2:Int)]++[V.int (tbN (tabF ws) ws.sum v3:Int)]))) t kk:=kept nSt.symm t37
 have hS38:=scrk (ys:=[V.int (v1:Int),V.int (v2:Int)]++[V.int (tbN (tabF ws) ws.sum v3:Int)]) w37 hS37
 have a38:=atk (ys:=[V.int (v1:Int),V.int (v2:Int)]++[V.int (tbN (tabF ws) ws.sum v3:Int)]) w37 a37
 generalize upd H37 S0 (.lst ([V.int (v1:Int),V.int (v2:Int)]++[V.int (tbN (tabF ws) ws.sum v3:Int)]))=H38 at w38 hW38 wL38 t38 hS38 a38 ⊢
 clear w37 hW37 wL37 t37 hS37 a37
 -- number_by
 refine⟨_,rfl,.inl ⟨rfl,_,SqL.of w38⟩,_,rfl,p,ws,rfl,hW38,by omega,fun sp H39 s39 w39=>?_⟩
 refine⟨_,rfl,_,rfl,_,rfl,a,t,ns,kk,_,rfl,s39.scr hS38,h63,s39.twn t38,by omega,by omega,fun H40 g40 t40=>?_⟩
 have d0:=drw_nn ns (kk+1) (show(0:Int)<((ws.sum:Nat):Int)by omega)
 have d1:=drw_lt ns (kk+1) (show(0:Int)<((ws.sum:Nat):Int)by omega)
 generalize drw ns (kk+1) ((ws.sum:Nat):Int)=dd at d0 d1
 obtain⟨pl,rfl⟩:=nat_of d0
 obtain⟨v4,e4,p4⟩:=nb_pos (ws:=ws) (n:=pl) (by omega)
 have t39:=s39.twn t38
 have sp40:=g40 _ _ (twn_tup t39 w39) w39
 have hW40:=g40 _ _ (twn_tup t39 (s39 _ _ hW38)) (s39 _ _ hW38)
 have wL40:=g40 _ _ nLt (s39 _ _ wL38)
 have w40:=g40 _ _ nSt (s39 _ _ w38)
 have hS40:=g40.scr t39 (s39.scr hS38)
 have a40:=(a38.same s39).town t39 g40
 clear g40 s39 w39 w38 hW38 wL38 t38 hS38 a38 d0 d1 t39
 refine⟨sp,_,pl,rfl,sp40,fun H41 s41=>?_⟩
 rw[e4]
 refine⟨S0,_,_,rfl,rfl,s41 _ _ w40,smallL (by show 3≤1000000;decide),?_⟩
 have w41:=s41 _ _ w40
 have hW41:=s41 _ _ hW40
 have wL41:=s41 _ _ wL40
 have t41:=s41.twn t40
 have hS41:=s41.scr hS40
 have a41:=a40.same s41
 clear s41 w40 hW40 wL40 t40 hS40 a40 sp40
 obtain⟨zs,hzs⟩:∃zs:List V,zs=[V.int (v1:Int),V.int (v2:Int),V.int (tbN (tabF ws) ws.sum v3:Int)]++[V.int (v4:Int)]:=⟨_,rfl⟩
 rw[←hzs]
 have w42:(upd H41 S0 (.lst zs)) S0=some (.lst zs):=upd_same
 have hW42:(upd H41 S0 (.lst zs)) p=_:=kept (fun e=>by rw[e,w41]at hW41;cases hW41) hW41
 have wL42:(upd H41 S0 (.lst zs)) L=_:=kept nSL wL41
 have t42:Twn (upd H41 S0 (.lst zs)) t (kk+1):=kept nSt.symm t41
 have hS42:=scrk (ys:=zs) w41 hS41
 have a42:=atk (ys:=zs) w41 a41
 generalize upd H41 S0 (.lst zs)=H42 at w42 hW42 wL42 t42 hS42 a42 ⊢
 clear w41 hW41 wL41 t41 hS41 a41 kept scrk atk
 have hin:∀x∈zs,flatV x=true∧inV x (vnats (posN ws ws.length))=true:=fun x hx=>by
  have key:∀n:Nat,0<ws.getD n 0→flatV (V.int (n:Int))=true∧inV (V.int (n:Int)) (vnats (posN ws ws.length))=true:=fun n hn=>⟨rfl,by rw[vnats_in];exact decide_eq_true ((posN_mem ws n).mpr hn)⟩
  rw[hzs]at hx
  simp only[List.cons_append,List.nil_append,List.mem_cons,List.not_mem_nil,or_false]at hx
  rcases hx with rfl|rfl|rfl|rfl
  ·exact key _ (pkF_pos h0 x1)
  ·exact key _ (wk_pos hD.1 x2)
  ·exact key _ (tb_pos h0 (by have:=evF_lt x3;rw[htl]at this;exact this))
  ·exact key _ p4
 refine⟨_,rfl,S0,rfl,⟨_,SqL.of w42⟩,comp_list (xs:=zs) (fun l acc σ' H'=>acc=[]∧H'=H42∧∃o9:Option V,σ'=[some (.ref a),some (.ref t),some (.int (0+(i:Int))),some (.ref p),some (.int ((ws.sum:Nat):Int)),some (.int (by_:Int)),some (.ref wh),some (.ref du),some (.ref tg),o9,q10,some (.ref pg),some (.ref b),some (.ref L),some (.int (0+(j:Int))),some (.ref S0)])
  ⟨rfl,rfl,_,rfl⟩ (fun l acc σ' H' _ ⟨e,_⟩=>by rw[e];exact Nat.zero_le _) (fun l acc σ' H' _ ⟨_,e,_⟩=>by rw[e];exact SqL.of w42) ?_ ?_⟩
 ·rintro l x acc σ' H' hx ⟨rfl,rfl,o9',rfl⟩
  obtain⟨f1,f2⟩:=hin x (List.mem_of_getElem? hx)
  refine⟨_,rfl,_,rfl,L,_,rfl,.inl (SqL.of wL42),f1,vnats_flat _,_,rfl,?_⟩
  show if (!inV x (vnats (posN ws ws.length)))=true then _ else _
  rw[f2]
  exact iteF ⟨rfl,rfl,_,rfl⟩
 rintro acc σ' H' D0 ⟨rfl,rfl,o9',rfl⟩ fD
 have yD:=same_new fD (.lst ([]:List V))
 refine⟨false,.inl ⟨[],SqL.of upd_same,rfl⟩,iteF ?_⟩
 exact⟨kk+1,z+u1+u2+u3,_,_,rfl,yD.scr hS42,yD.twn t42,by omega,yD _ _ hW42,yD _ _ wL42,a42.same yD,hT32⟩
end
theorem lenS {us:List Value}{n:Nat}(h:us.length=n+1):∃a t,us=a::t∧t.length=n:=by
 cases us with
 | nil=>cases h
 | cons a t=>exact⟨a,t,rfl,Nat.succ.inj h⟩
theorem lenU0 {us:List Value}(h:us.length=0):us=[]:=List.eq_nil_of_length_eq_zero h
theorem lenU1 {us:List Value}(h:us.length=1):∃a0,us=[a0]:=by
 obtain⟨a0,t,rfl,h2⟩:=lenS h
 obtain⟨rfl⟩:=lenU0 h2
 exact⟨a0,rfl⟩
theorem lenU2 {us:List Value}(h:us.length=2):∃a0 a1,us=[a0,a1]:=by
 obtain⟨a0,t,rfl,h2⟩:=lenS h
 obtain⟨a1,rfl⟩:=lenU1 h2
 exact⟨a0,a1,rfl⟩
theorem lenU3 {us:List Value}(h:us.length=3):∃a0 a1 a2,us=[a0,a1,a2]:=by
 obtain⟨a0,t,rfl,h2⟩:=lenS h
 obtain⟨a1,a2,rfl⟩:=lenU2 h2
 exact⟨a0,a1,a2,rfl⟩
theorem all_mk {l:PySem.W.OpenLaw}{w:World}{K:PySem.W.Frag}{h:Heap}{mg:Str→Option Value}{fa f1 f2 f3 f4 f5 f6 f7 f8 f9 f10 f11 f12 f13 f14 f15 f16 f17 f18 f19 f20 f21 f22 f23 f24 f25 f26 f27 f28 f29 f30 gt5 c_Bits f31 f32 f33 f34 f35 e_E1 e_E2:Addr}(X:K.In h)(G:h.Ns mainGlobals mg)(hfa:mg "law"=some (.ref fa))
  {od1 an1 od2 an2 od3 an3 od4 an4 od5 an5 od6 an6 od7 an7 od8 an8 od9 an9 od10 an10 od11 an11 od12 an12 od13 an13 od14 an14 od15 an15 od16 an16 od17 an17 od18 an18 od19 an19 od20 an20 od21 an21 od22 an22 od23 an23 od24 an24 od25 an25 od26 an26 od27 an27 od28 an28 od29 an29 od30 an30 gd5 od31 an31 od32 an32 od33 an33 od34 an34 od35 an35 xo_E1 xo_E2:Option Addr}{sl1 sl2 sl3 sl4 sl5 sl6 sl7 sl8 sl9 sl10 sl11 sl12 sl13 sl14 sl15 sl16 sl17 sl18 sl19 sl20 sl21 sl22 sl23 sl24 sl25 sl26 sl27 sl28 sl29 sl30 gs5 sl31 sl32 sl33 sl34 sl35 xs_E1 xs_E2:Array (Option Value)}{oc1 kV1 dc1 pm1 cd1 ct1 oc2 kV2 dc2 pm2 cd2 ct2 oc3 kV3 dc3 pm3 cd3 ct3 oc4 kV4 dc4 pm4 cd4 ct4 oc5 kV5 dc5 pm5 cd5 ct5 oc6 kV6 dc6 pm6 cd6 ct6 oc7 kV7 dc7 pm7 cd7 ct7 oc8 kV8 dc8 pm8 cd8 ct8 oc9 kV9 dc9 pm9 cd9 ct9 oc10 kV10 dc10 pm10 cd10 ct10 oc11 kV11 dc11 pm11 cd11 ct11 oc12 kV12 dc12 pm12 cd12 ct12 oc13 kV13 dc13 pm13 cd13 ct13 oc14 kV14 dc14 pm14 cd14 ct14 oc15 kV15 dc15 pm15 cd15 ct15 oc16 kV16 dc16 pm16 cd16 ct16 oc17 kV17 dc17 pm17 cd17 ct17 oc18 kV18 dc18 pm18 cd18 ct18 oc19 kV19 dc19 pm19 cd19 ct19 oc20 kV20 dc20 pm20 cd20 ct20 oc21 kV21 dc21 pm21 cd21 ct21 oc22 kV22 dc22 pm22 cd22 ct22 oc23 kV23 dc23 pm23 cd23 ct23 oc24 kV24 dc24 pm24 cd24 ct24 oc25 kV25 dc25 pm25 cd25 ct25 oc26 kV26 dc26 pm26 cd26 ct26 oc27 kV27 dc27 pm27 cd27 ct27 oc28 kV28 dc28 pm28 cd28 ct28 oc29 kV29 dc29 pm29 cd29 ct29 oc30 kV30 dc30 pm30 cd30 ct30 oc31 kV31 dc31 pm31 cd31 ct31 oc32 kV32 dc32 pm32 cd32 ct32 oc33 kV33 dc33 pm33 cd33 ct33 oc34 kV34 dc34 pm34 cd34 ct34 oc35 kV35 dc35 pm35 cd35 ct35 xc_E1 xc_E2:Value}{ed_E1 ed_E2:ClassData}{w1 w2 w3 w4 tk5_0:Tok}{gn5:Nat}
  (a1:PySem.W.nsIn K mainGlobals "drawn_whole"=some (some (.ref f1)))(l1:K.lookup f1=some ⟨oc1,od1,.func (PySem.W.fnOf "drawn_whole" "drawn_whole" (defArgs s_Y8) (defBody s_Y8) (defScope s_Y8) .none kV1 dc1 pm1 an1 cd1 ct1),sl1⟩)(c1:PySem.W.codeIn K cd1 "drawn_whole"=true)(k1:PySem.W.keepIn K (.ref f1)=true)
  (a2:PySem.W.nsIn K mainGlobals "next_state"=some (some (.ref f2)))(l2:K.lookup f2=some ⟨oc2,od2,.func (PySem.W.fnOf "next_state" "next_state" (defArgs s_Y9) (defBody s_Y9) (defScope s_Y9) .none kV2 dc2 pm2 an2 cd2 ct2),sl2⟩)(c2:PySem.W.codeIn K cd2 "next_state"=true)(k2:PySem.W.keepIn K (.ref f2)=true)
  (a3:PySem.W.nsIn K mainGlobals "bits_of"=some (some (.ref f3)))(l3:K.lookup f3=some ⟨oc3,od3,.func (PySem.W.fnOf "bits_of" "bits_of" (defArgs s_Y29) (defBody s_Y29) (defScope s_Y29) .none kV3 dc3 pm3 an3 cd3 ct3),sl3⟩)(c3:PySem.W.codeIn K cd3 "bits_of"=true)(k3:PySem.W.keepIn K (.ref f3)=true)
  (a4:PySem.W.nsIn K mainGlobals "common_divisor"=some (some (.ref f4)))(l4:K.lookup f4=some ⟨oc4,od4,.func (PySem.W.fnOf "common_divisor" "common_divisor" (defArgs s_Y2) (defBody s_Y2) (defScope s_Y2) .none kV4 dc4 pm4 an4 cd4 ct4),sl4⟩)(c4:PySem.W.codeIn K cd4 "common_divisor"=true)(k4:PySem.W.keepIn K (.ref f4)=true)
  (a5:PySem.W.nsIn K mainGlobals "fraction"=some (some (.ref f5)))(l5:K.lookup f5=some ⟨oc5,od5,.func (PySem.W.fnOf "fraction" "fraction" (defArgs s_Y25) (defBody s_Y25) (defScope s_Y25) .none kV5 dc5 pm5 an5 cd5 ct5),sl5⟩)(c5:PySem.W.codeIn K cd5 "fraction"=true)(k5:PySem.W.keepIn K (.ref f5)=true)
  (a6:PySem.W.nsIn K mainGlobals "even"=some (some (.ref f6)))(l6:K.lookup f6=some ⟨oc6,od6,.func (PySem.W.fnOf "even" "even" (defArgs s_Y32) (defBody s_Y32) (defScope s_Y32) .none kV6 dc6 pm6 an6 cd6 ct6),sl6⟩)(c6:PySem.W.codeIn K cd6 "even"=true)(k6:PySem.W.keepIn K (.ref f6)=true)
  (a7:PySem.W.nsIn K mainGlobals "take_even"=some (some (.ref f7)))(l7:K.lookup f7=some ⟨oc7,od7,.func (PySem.W.fnOf "take_even" "take_even" (defArgs s_Y20) (defBody s_Y20) (defScope s_Y20) .none kV7 dc7 pm7 an7 cd7 ct7),sl7⟩)(c7:PySem.W.codeIn K cd7 "take_even"=true)(k7:PySem.W.keepIn K (.ref f7)=true)
  (a8:PySem.W.nsIn K mainGlobals "table_of"=some (some (.ref f8)))(l8:K.lookup f8=some ⟨oc8,od8,.func (PySem.W.fnOf "table_of" "table_of" (defArgs s_Y21) (defBody s_Y21) (defScope s_Y21) .none kV8 dc8 pm8 an8 cd8 ct8),sl8⟩)(c8:PySem.W.codeIn K cd8 "table_of"=true)(k8:PySem.W.keepIn K (.ref f8)=true)
  (a9:PySem.W.nsIn K mainGlobals "parts_of"=some (some (.ref f9)))(l9:K.lookup f9=some ⟨oc9,od9,.func (PySem.W.fnOf "parts_of" "parts_of" (defArgs s_Y23) (defBody s_Y23) (defScope s_Y23) .none kV9 dc9 pm9 an9 cd9 ct9),sl9⟩)(c9:PySem.W.codeIn K cd9 "parts_of"=true)(k9:PySem.W.keepIn K (.ref f9)=true)
  (a10:PySem.W.nsIn K mainGlobals "shares_of_table"=some (some (.ref f10)))(l10:K.lookup f10=some ⟨oc10,od10,.func (PySem.W.fnOf "shares_of_table" "shares_of_table" (defArgs s_Y1) (defBody s_Y1) (defScope s_Y1) .none kV10 dc10 pm10 an10 cd10 ct10),sl10⟩)(c10:PySem.W.codeIn K cd10 "shares_of_table"=true)(k10:PySem.W.keepIn K (.ref f10)=true)
  (a11:PySem.W.nsIn K mainGlobals "by_table"=some (some (.ref f11)))(l11:K.lookup f11=some ⟨oc11,od11,.func (PySem.W.fnOf "by_table" "by_table" (defArgs s_Y22) (defBody s_Y22) (defScope s_Y22) .none kV11 dc11 pm11 an11 cd11 ct11),sl11⟩)(c11:PySem.W.codeIn K cd11 "by_table"=true)(k11:PySem.W.keepIn K (.ref f11)=true)
  (a12:PySem.W.nsIn K mainGlobals "sums_of"=some (some (.ref f12)))(l12:K.lookup f12=some ⟨oc12,od12,.func (PySem.W.fnOf "sums_of" "sums_of" (defArgs s_Y30) (defBody s_Y30) (defScope s_Y30) .none kV12 dc12 pm12 an12 cd12 ct12),sl12⟩)(c12:PySem.W.codeIn K cd12 "sums_of"=true)(k12:PySem.W.keepIn K (.ref f12)=true)
  (a13:PySem.W.nsIn K mainGlobals "number_by"=some (some (.ref f13)))(l13:K.lookup f13=some ⟨oc13,od13,.func (PySem.W.fnOf "number_by" "number_by" (defArgs s_Y12) (defBody s_Y12) (defScope s_Y12) .none kV13 dc13 pm13 an13 cd13 ct13),sl13⟩)(c13:PySem.W.codeIn K cd13 "number_by"=true)(k13:PySem.W.keepIn K (.ref f13)=true)
  (a14:PySem.W.nsIn K mainGlobals "pick"=some (some (.ref f14)))(l14:K.lookup f14=some ⟨oc14,od14,.func (PySem.W.fnOf "pick" "pick" (defArgs s_Y34) (defBody s_Y34) (defScope s_Y34) .none kV14 dc14 pm14 an14 cd14 ct14),sl14⟩)(c14:PySem.W.codeIn K cd14 "pick"=true)(k14:PySem.W.keepIn K (.ref f14)=true)
  (a15:PySem.W.nsIn K mainGlobals "take_pick"=some (some (.ref f15)))(l15:K.lookup f15=some ⟨oc15,od15,.func (PySem.W.fnOf "take_pick" "take_pick" (defArgs s_Y11) (defBody s_Y11) (defScope s_Y11) .none kV15 dc15 pm15 an15 cd15 ct15),sl15⟩)(c15:PySem.W.codeIn K cd15 "take_pick"=true)(k15:PySem.W.keepIn K (.ref f15)=true)
  (a16:PySem.W.nsIn K mainGlobals "ends_of"=some (some (.ref f16)))(l16:K.lookup f16=some ⟨oc16,od16,.func (PySem.W.fnOf "ends_of" "ends_of" (defArgs s_Y28) (defBody s_Y28) (defScope s_Y28) .none kV16 dc16 pm16 an16 cd16 ct16),sl16⟩)(c16:PySem.W.codeIn K cd16 "ends_of"=true)(k16:PySem.W.keepIn K (.ref f16)=true)
  (a17:PySem.W.nsIn K mainGlobals "deep"=some (some (.ref f17)))(l17:K.lookup f17=some ⟨oc17,od17,.func (PySem.W.fnOf "deep" "deep" (defArgs s_Y33) (defBody s_Y33) (defScope s_Y33) .none kV17 dc17 pm17 an17 cd17 ct17),sl17⟩)(c17:PySem.W.codeIn K cd17 "deep"=true)(k17:PySem.W.keepIn K (.ref f17)=true)
  (a18:PySem.W.nsIn K mainGlobals "numbered_ends"=some (some (.ref f18)))(l18:K.lookup f18=some ⟨oc18,od18,.func (PySem.W.fnOf "numbered_ends" "numbered_ends" (defArgs s_Y4) (defBody s_Y4) (defScope s_Y4) .none kV18 dc18 pm18 an18 cd18 ct18),sl18⟩)(c18:PySem.W.codeIn K cd18 "numbered_ends"=true)(k18:PySem.W.keepIn K (.ref f18)=true)
  (a19:PySem.W.nsIn K mainGlobals "rows_to"=some (some (.ref f19)))(l19:K.lookup f19=some ⟨oc19,od19,.func (PySem.W.fnOf "rows_to" "rows_to" (defArgs s_Y31) (defBody s_Y31) (defScope s_Y31) .none kV19 dc19 pm19 an19 cd19 ct19),sl19⟩)(c19:PySem.W.codeIn K cd19 "rows_to"=true)(k19:PySem.W.keepIn K (.ref f19)=true)
  (a20:PySem.W.nsIn K mainGlobals "shares_of"=some (some (.ref f20)))(l20:K.lookup f20=some ⟨oc20,od20,.func (PySem.W.fnOf "shares_of" "shares_of" (defArgs s_Y16) (defBody s_Y16) (defScope s_Y16) .none kV20 dc20 pm20 an20 cd20 ct20),sl20⟩)(c20:PySem.W.codeIn K cd20 "shares_of"=true)(k20:PySem.W.keepIn K (.ref f20)=true)
  (a21:PySem.W.nsIn K mainGlobals "by_plan"=some (some (.ref f21)))(l21:K.lookup f21=some ⟨oc21,od21,.func (PySem.W.fnOf "by_plan" "by_plan" (defArgs s_Y26) (defBody s_Y26) (defScope s_Y26) .none kV21 dc21 pm21 an21 cd21 ct21),sl21⟩)(c21:PySem.W.codeIn K cd21 "by_plan"=true)(k21:PySem.W.keepIn K (.ref f21)=true)
  (a22:PySem.W.nsIn K mainGlobals "take_by_plan"=some (some (.ref f22)))(l22:K.lookup f22=some ⟨oc22,od22,.func (PySem.W.fnOf "take_by_plan" "take_by_plan" (defArgs s_Y5) (defBody s_Y5) (defScope s_Y5) .none kV22 dc22 pm22 an22 cd22 ct22),sl22⟩)(c22:PySem.W.codeIn K cd22 "take_by_plan"=true)(k22:PySem.W.keepIn K (.ref f22)=true)
  (a23:PySem.W.nsIn K mainGlobals "plan_of"=some (some (.ref f23)))(l23:K.lookup f23=some ⟨oc23,od23,.func (PySem.W.fnOf "plan_of" "plan_of" (defArgs s_Y27) (defBody s_Y27) (defScope s_Y27) .none kV23 dc23 pm23 an23 cd23 ct23),sl23⟩)(c23:PySem.W.codeIn K cd23 "plan_of"=true)(k23:PySem.W.keepIn K (.ref f23)=true)
  (a24:PySem.W.nsIn K mainGlobals "_law_same"=some (some (.ref f24)))(l24:K.lookup f24=some ⟨oc24,od24,.func (PySem.W.fnOf "_law_same" "_law_same" (defArgs s_Y13) (defBody s_Y13) (defScope s_Y13) .none kV24 dc24 pm24 an24 cd24 ct24),sl24⟩)(c24:PySem.W.codeIn K cd24 "_law_same"=true)(k24:PySem.W.keepIn K (.ref f24)=true)
  (a25:PySem.W.nsIn K mainGlobals "_law_draw"=some (some (.ref f25)))(l25:K.lookup f25=some ⟨oc25,od25,.func (PySem.W.fnOf "_law_draw" "_law_draw" (defArgs s_Y19) (defBody s_Y19) (defScope s_Y19) .none kV25 dc25 pm25 an25 cd25 ct25),sl25⟩)(c25:PySem.W.codeIn K cd25 "_law_draw"=true)(k25:PySem.W.keepIn K (.ref f25)=true)
  (a26:PySem.W.nsIn K mainGlobals "_law_one"=some (some (.ref f26)))(l26:K.lookup f26=some ⟨oc26,od26,.func (PySem.W.fnOf "_law_one" "_law_one" (defArgs s_Y24) (defBody s_Y24) (defScope s_Y24) .none kV26 dc26 pm26 an26 cd26 ct26),sl26⟩)(c26:PySem.W.codeIn K cd26 "_law_one"=true)(k26:PySem.W.keepIn K (.ref f26)=true)
  (a27:PySem.W.nsIn K mainGlobals "_law_frac"=some (some (.ref f27)))(l27:K.lookup f27=some ⟨oc27,od27,.func (PySem.W.fnOf "_law_frac" "_law_frac" (defArgs s_Y17) (defBody s_Y17) (defScope s_Y17) .none kV27 dc27 pm27 an27 cd27 ct27),sl27⟩)(c27:PySem.W.codeIn K cd27 "_law_frac"=true)(k27:PySem.W.keepIn K (.ref f27)=true)
  (a28:PySem.W.nsIn K mainGlobals "_law_plus"=some (some (.ref f28)))(l28:K.lookup f28=some ⟨oc28,od28,.func (PySem.W.fnOf "_law_plus" "_law_plus" (defArgs s_Y18) (defBody s_Y18) (defScope s_Y18) .none kV28 dc28 pm28 an28 cd28 ct28),sl28⟩)(c28:PySem.W.codeIn K cd28 "_law_plus"=true)(k28:PySem.W.keepIn K (.ref f28)=true)
  (a29:PySem.W.nsIn K mainGlobals "_law_weights"=some (some (.ref f29)))(l29:K.lookup f29=some ⟨oc29,od29,.func (PySem.W.fnOf "_law_weights" "_law_weights" (defArgs s_Y7) (defBody s_Y7) (defScope s_Y7) .none kV29 dc29 pm29 an29 cd29 ct29),sl29⟩)(c29:PySem.W.codeIn K cd29 "_law_weights"=true)(k29:PySem.W.keepIn K (.ref f29)=true)
  (a30:PySem.W.nsIn K mainGlobals "law"=some (some (.ref f30)))(l30:K.lookup f30=some ⟨oc30,od30,.func (PySem.W.fnOf "law" "law" (defArgs s_law) (defBody s_law) (defScope s_law) .none kV30 dc30 pm30 an30 cd30 ct30),sl30⟩)(c30:PySem.W.codeIn K cd30 "law"=true)(k30:PySem.W.keepIn K (.ref f30)=true)
  (z1:PySem.W.nsIn K mainGlobals "abs"=some none)
  (z2:PySem.W.nsIn K mainGlobals "all"=some none)
  (z3:PySem.W.nsIn K mainGlobals "bool"=some none)
  (z4:PySem.W.nsIn K mainGlobals "enumerate"=some none)
  (z5:PySem.W.nsIn K mainGlobals "int"=some none)
  (z6:PySem.W.nsIn K mainGlobals "isinstance"=some none)
  (z7:PySem.W.nsIn K mainGlobals "len"=some none)
  (z8:PySem.W.nsIn K mainGlobals "max"=some none)
  (z9:PySem.W.nsIn K mainGlobals "min"=some none)
  (z10:PySem.W.nsIn K mainGlobals "range"=some none)
  (z11:PySem.W.nsIn K mainGlobals "sorted"=some none)
  (z12:PySem.W.nsIn K mainGlobals "str"=some none)
  (z13:PySem.W.nsIn K mainGlobals "sum"=some none)
  (z14:PySem.W.nsIn K mainGlobals "tuple"=some none)
  (z15:PySem.W.nsIn K mainGlobals "zip"=some none)
  (v1:PySem.W.nsIn K mainGlobals "STATES"=some (some (.int 4294967296 w1)))
  (v2:PySem.W.nsIn K mainGlobals "HALF_OF_STATES"=some (some (.int 2147483648 w2)))
  (v3:PySem.W.nsIn K mainGlobals "FACTOR"=some (some (.int 1664525 w3)))
  (v4:PySem.W.nsIn K mainGlobals "ADDED"=some (some (.int 1013904223 w4)))
  (v5:PySem.W.nsIn K mainGlobals "AGAIN"=some (some (.ref gt5)))(u5:K.lookup gt5=some ⟨.type "tuple",gd5,.seq #[.str "again" tk5_0] gn5,gs5⟩)
  (ca_Bits:PySem.W.nsIn K mainGlobals "Bits"=some (some (.ref c_Bits)))
  (pg_Bits:PySem.W.plainGet K c_Bits Str.empty=true)(hd_Bits:PySem.W.hasDictIn K c_Bits=true)(po_Bits:PySem.W.plainOver K c_Bits=true)(sa_Bits:PySem.W.findIn K (.ref c_Bits) "__setattr__"=some (some (.builtin "object.__setattr__")))(mk_Bits:PySem.W.makesIn K c_Bits=true)(kc_Bits:PySem.W.keepIn K (.ref c_Bits)=true)
  (n_Bits_row:PySem.W.findIn K (.ref c_Bits) "row"=some none)
  (n_Bits_place:PySem.W.findIn K (.ref c_Bits) "place"=some none)
  (a31:PySem.W.findIn K (.ref c_Bits) "__init__"=some (some (.ref f31)))(i31:PySem.W.isFn K (.ref f31)=true)(l31:K.lookup f31=some ⟨oc31,od31,.func (PySem.W.fnOf "__init__" "Bits.__init__" (defArgs s_Y3) (defBody s_Y3) (defScope s_Y3) .none kV31 dc31 pm31 an31 cd31 ct31),sl31⟩)(c31:PySem.W.codeIn K cd31 "Bits.__init__"=true)(k31:PySem.W.keepIn K (.ref f31)=true)
  (a32:PySem.W.findIn K (.ref c_Bits) "take"=some (some (.ref f32)))(i32:PySem.W.isFn K (.ref f32)=true)(l32:K.lookup f32=some ⟨oc32,od32,.func (PySem.W.fnOf "take" "Bits.take" (defArgs s_Y14) (defBody s_Y14) (defScope s_Y14) .none kV32 dc32 pm32 an32 cd32 ct32),sl32⟩)(c32:PySem.W.codeIn K cd32 "Bits.take"=true)(k32:PySem.W.keepIn K (.ref f32)=true)
  (a33:PySem.W.findIn K (.ref c_Bits) "used"=some (some (.ref f33)))(i33:PySem.W.isFn K (.ref f33)=true)(l33:K.lookup f33=some ⟨oc33,od33,.func (PySem.W.fnOf "used" "Bits.used" (defArgs s_Y15) (defBody s_Y15) (defScope s_Y15) .none kV33 dc33 pm33 an33 cd33 ct33),sl33⟩)(c33:PySem.W.codeIn K cd33 "Bits.used"=true)(k33:PySem.W.keepIn K (.ref f33)=true)
  (a34:PySem.W.findIn K (.ref c_Bits) "left"=some (some (.ref f34)))(i34:PySem.W.isFn K (.ref f34)=true)(l34:K.lookup f34=some ⟨oc34,od34,.func (PySem.W.fnOf "left" "Bits.left" (defArgs s_Y10) (defBody s_Y10) (defScope s_Y10) .none kV34 dc34 pm34 an34 cd34 ct34),sl34⟩)(c34:PySem.W.codeIn K cd34 "Bits.left"=true)(k34:PySem.W.keepIn K (.ref f34)=true)
  (a35:PySem.W.findIn K (.ref c_Bits) "go_back"=some (some (.ref f35)))(i35:PySem.W.isFn K (.ref f35)=true)(l35:K.lookup f35=some ⟨oc35,od35,.func (PySem.W.fnOf "go_back" "Bits.go_back" (defArgs s_Y6) (defBody s_Y6) (defScope s_Y6) .none kV35 dc35 pm35 an35 cd35 ct35),sl35⟩)(c35:PySem.W.codeIn K cd35 "Bits.go_back"=true)(k35:PySem.W.keepIn K (.ref f35)=true)
  (xa_E1:PySem.W.nsIn K mainGlobals "NoBits"=some (some (.ref e_E1)))(xl_E1:K.lookup e_E1=some ⟨xc_E1,xo_E1,.cls ed_E1,xs_E1⟩)(xi_E1:PySem.W.excIn K e_E1 [.type "ValueError",.type "Exception",.type "BaseException",.type "object"] "ValueError.__new__"=true)
  (xa_E2:PySem.W.nsIn K mainGlobals "NoShares"=some (some (.ref e_E2)))(xl_E2:K.lookup e_E2=some ⟨xc_E2,xo_E2,.cls ed_E2,xs_E2⟩)(xi_E2:PySem.W.excIn K e_E2 [.type "ValueError",.type "Exception",.type "BaseException",.type "object"] "ValueError.__new__"=true)
  (xm_E1_E1:ed_E1.mro.contains (.ref e_E1)=true)
  (xm_E1_E2:ed_E1.mro.contains (.ref e_E2)=false)
  (xm_E2_E1:ed_E2.mro.contains (.ref e_E1)=false)
  (xm_E2_E2:ed_E2.mro.contains (.ref e_E2)=true) :
  ∃fd:FuncData,(∀(s:Shared)(v:Value),BindsTo s fd ⟨[v],[]⟩ [("_law_script",v)])∧∀base:Heap,K.In base→base.Ns mainGlobals mg→FnOk l.prog w K mg base CX0 17 fa fd ["_law_script"] (spLaw K):=by
 have e:=hfa.symm.trans (PySem.W.mg_of X G a30)
 cases e
 have B:Bl mg:=⟨PySem.W.mg_none_of X G z1,PySem.W.mg_none_of X G z2,PySem.W.mg_none_of X G z3,PySem.W.mg_none_of X G z4,PySem.W.mg_none_of X G z5,PySem.W.mg_none_of X G z6,PySem.W.mg_none_of X G z7,PySem.W.mg_none_of X G z8,PySem.W.mg_none_of X G z9,PySem.W.mg_none_of X G z10,PySem.W.mg_none_of X G z11,PySem.W.mg_none_of X G z12,PySem.W.mg_none_of X G z13,PySem.W.mg_none_of X G z14,PySem.W.mg_none_of X G z15⟩
 have C:Cn K mg:=⟨⟨_,PySem.W.mg_of X G v1⟩,⟨_,PySem.W.mg_of X G v2⟩,⟨_,PySem.W.mg_of X G v3⟩,⟨_,PySem.W.mg_of X G v4⟩,⟨_,PySem.W.mg_of X G v5,fun _=>.inr ⟨_,_,_,u5,rfl,rfl,by show 1≤sizeLine;decide,.cons ⟨_,rfl⟩ (.nil)⟩⟩⟩
 have F_Y8:=fun_mk (st:=s_Y8) l1 c1 k1
 have F_Y9:=fun_mk (st:=s_Y9) l2 c2 k2
 have F_Y29:=fun_mk (st:=s_Y29) l3 c3 k3
 have F_Y2:=fun_mk (st:=s_Y2) l4 c4 k4
 have F_Y25:=fun_mk (st:=s_Y25) l5 c5 k5
 have F_Y32:=fun_mk (st:=s_Y32) l6 c6 k6
 have F_Y20:=fun_mk (st:=s_Y20) l7 c7 k7
 have F_Y21:=fun_mk (st:=s_Y21) l8 c8 k8
 have F_Y23:=fun_mk (st:=s_Y23) l9 c9 k9
 have F_Y1:=fun_mk (st:=s_Y1) l10 c10 k10
 have F_Y22:=fun_mk (st:=s_Y22) l11 c11 k11
 have F_Y30:=fun_mk (st:=s_Y30) l12 c12 k12
 have F_Y12:=fun_mk (st:=s_Y12) l13 c13 k13
 have F_Y34:=fun_mk (st:=s_Y34) l14 c14 k14
 have F_Y11:=fun_mk (st:=s_Y11) l15 c15 k15
 have F_Y28:=fun_mk (st:=s_Y28) l16 c16 k16
 have F_Y33:=fun_mk (st:=s_Y33) l17 c17 k17
 have F_Y4:=fun_mk (st:=s_Y4) l18 c18 k18
 have F_Y31:=fun_mk (st:=s_Y31) l19 c19 k19
 have F_Y16:=fun_mk (st:=s_Y16) l20 c20 k20
 have F_Y26:=fun_mk (st:=s_Y26) l21 c21 k21
 have F_Y5:=fun_mk (st:=s_Y5) l22 c22 k22
 have F_Y27:=fun_mk (st:=s_Y27) l23 c23 k23
 have F_Y13:=fun_mk (st:=s_Y13) l24 c24 k24
 have F_Y19:=fun_mk (st:=s_Y19) l25 c25 k25
 have F_Y24:=fun_mk (st:=s_Y24) l26 c26 k26
 have F_Y17:=fun_mk (st:=s_Y17) l27 c27 k27
 have F_Y18:=fun_mk (st:=s_Y18) l28 c28 k28
 have F_Y7:=fun_mk (st:=s_Y7) l29 c29 k29
 have F_law:=fun_mk (st:=s_law) l30 c30 k30
 have F_Y3:=fun_mk (st:=s_Y3) l31 c31 k31
 have b_Y3:=F_Y3.binds (ps:=p_Y3) fun _ _ _ _ _ _ us hl=>(by obtain⟨_,_,rfl⟩:=lenU2 hl;rfl)
 have m_Y3:Meth K c_Bits "__init__" f31:=⟨a31,i31,k31⟩
 have F_Y14:=fun_mk (st:=s_Y14) l32 c32 k32
 have b_Y14:=F_Y14.binds (ps:=p_Y14) fun _ _ _ _ _ _ us hl=>(by obtain⟨_,rfl⟩:=lenU1 hl;rfl)
 have m_Y14:Meth K c_Bits "take" f32:=⟨a32,i32,k32⟩
 have F_Y15:=fun_mk (st:=s_Y15) l33 c33 k33
 have b_Y15:=F_Y15.binds (ps:=p_Y15) fun _ _ _ _ _ _ us hl=>(by obtain⟨_,rfl⟩:=lenU1 hl;rfl)
 have m_Y15:Meth K c_Bits "used" f33:=⟨a33,i33,k33⟩
 have F_Y10:=fun_mk (st:=s_Y10) l34 c34 k34
 have b_Y10:=F_Y10.binds (ps:=p_Y10) fun _ _ _ _ _ _ us hl=>(by obtain⟨_,rfl⟩:=lenU1 hl;rfl)
 have m_Y10:Meth K c_Bits "left" f34:=⟨a34,i34,k34⟩
 have F_Y6:=fun_mk (st:=s_Y6) l35 c35 k35
 have b_Y6:=F_Y6.binds (ps:=p_Y6) fun _ _ _ _ _ _ us hl=>(by obtain⟨_,_,rfl⟩:=lenU2 hl;rfl)
 have m_Y6:Meth K c_Bits "go_back" f35:=⟨a35,i35,k35⟩
 have cls_Bits:Cls K c_Bits:=⟨pg_Bits,hd_Bits,po_Bits,sa_Bits⟩
 have mk_Bits:Mk K c_Bits f31:=⟨mk_Bits,a31,i31,kc_Bits⟩
 have mgC_Bits:=PySem.W.mg_of X G ca_Bits
 have X_E1:Exc K mg "NoBits" e_E1 ed_E1.mro:=⟨PySem.W.mg_of X G xa_E1,xi_E1,_,_,_,_,xl_E1,rfl⟩
 have X_E2:Exc K mg "NoShares" e_E2 ed_E2.mro:=⟨PySem.W.mg_of X G xa_E2,xi_E2,_,_,_,_,xl_E2,rfl⟩
 have b_Y8:=F_Y8.binds (ps:=p_Y8) fun _ _ _ _ _ _ us hl=>(by obtain⟨_,_,_,rfl⟩:=lenU3 hl;rfl)
 have b_Y9:=F_Y9.binds (ps:=p_Y9) fun _ _ _ _ _ _ us hl=>(by obtain⟨_,rfl⟩:=lenU1 hl;rfl)
 have b_Y29:=F_Y29.binds (ps:=p_Y29) fun _ _ _ _ _ _ us hl=>(by obtain⟨_,_,rfl⟩:=lenU2 hl;rfl)
 have b_Y2:=F_Y2.binds (ps:=p_Y2) fun _ _ _ _ _ _ us hl=>(by obtain⟨_,_,rfl⟩:=lenU2 hl;rfl)
 have b_Y25:=F_Y25.binds (ps:=p_Y25) fun _ _ _ _ _ _ us hl=>(by obtain⟨_,_,rfl⟩:=lenU2 hl;rfl)
 have b_Y32:=F_Y32.binds (ps:=p_Y32) fun _ _ _ _ _ _ us hl=>(by obtain⟨_,_,rfl⟩:=lenU2 hl;rfl)
 have b_Y20:=F_Y20.binds (ps:=p_Y20) fun _ _ _ _ _ _ us hl=>(by obtain⟨_,_,rfl⟩:=lenU2 hl;rfl)
 have b_Y21:=F_Y21.binds (ps:=p_Y21) fun _ _ _ _ _ _ us hl=>(by obtain⟨_,rfl⟩:=lenU1 hl;rfl)
 have b_Y23:=F_Y23.binds (ps:=p_Y23) fun _ _ _ _ _ _ us hl=>(by obtain⟨_,_,rfl⟩:=lenU2 hl;rfl)
 have b_Y1:=F_Y1.binds (ps:=p_Y1) fun _ _ _ _ _ _ us hl=>(by obtain⟨_,_,rfl⟩:=lenU2 hl;rfl)
 have b_Y22:=F_Y22.binds (ps:=p_Y22) fun _ _ _ _ _ _ us hl=>(by obtain⟨_,_,_,rfl⟩:=lenU3 hl;rfl)
 have b_Y30:=F_Y30.binds (ps:=p_Y30) fun _ _ _ _ _ _ us hl=>(by obtain⟨_,rfl⟩:=lenU1 hl;rfl)
 have b_Y12:=F_Y12.binds (ps:=p_Y12) fun _ _ _ _ _ _ us hl=>(by obtain⟨_,_,rfl⟩:=lenU2 hl;rfl)
 have b_Y34:=F_Y34.binds (ps:=p_Y34) fun _ _ _ _ _ _ us hl=>(by obtain⟨_,_,rfl⟩:=lenU2 hl;rfl)
 have b_Y11:=F_Y11.binds (ps:=p_Y11) fun _ _ _ _ _ _ us hl=>(by obtain⟨_,_,rfl⟩:=lenU2 hl;rfl)
 have b_Y28:=F_Y28.binds (ps:=p_Y28) fun _ _ _ _ _ _ us hl=>(by obtain⟨_,_,rfl⟩:=lenU2 hl;rfl)
 have b_Y33:=F_Y33.binds (ps:=p_Y33) fun _ _ _ _ _ _ us hl=>(by obtain⟨_,rfl⟩:=lenU1 hl;rfl)
 have b_Y4:=F_Y4.binds (ps:=p_Y4) fun _ _ _ _ _ _ us hl=>(by obtain⟨_,rfl⟩:=lenU1 hl;rfl)
 have b_Y31:=F_Y31.binds (ps:=p_Y31) fun _ _ _ _ _ _ us hl=>(by obtain⟨_,_,rfl⟩:=lenU2 hl;rfl)
 have b_Y16:=F_Y16.binds (ps:=p_Y16) fun _ _ _ _ _ _ us hl=>(by obtain⟨_,rfl⟩:=lenU1 hl;rfl)
 have b_Y26:=F_Y26.binds (ps:=p_Y26) fun _ _ _ _ _ _ us hl=>(by obtain⟨_,_,rfl⟩:=lenU2 hl;rfl)
 have b_Y5:=F_Y5.binds (ps:=p_Y5) fun _ _ _ _ _ _ us hl=>(by obtain⟨_,_,rfl⟩:=lenU2 hl;rfl)
 have b_Y27:=F_Y27.binds (ps:=p_Y27) fun _ _ _ _ _ _ us hl=>(by obtain⟨_,rfl⟩:=lenU1 hl;rfl)
 have b_Y13:=F_Y13.binds (ps:=p_Y13) fun _ _ _ _ _ _ us hl=>(by obtain⟨_,_,rfl⟩:=lenU2 hl;rfl)
 have b_Y19:=F_Y19.binds (ps:=p_Y19) fun _ _ _ _ _ _ us hl=>(by obtain⟨_,_,_,rfl⟩:=lenU3 hl;rfl)
 have b_Y24:=F_Y24.binds (ps:=p_Y24) fun _ _ _ _ _ _ us hl=>(by obtain⟨_,_,_,rfl⟩:=lenU3 hl;rfl)
 have b_Y17:=F_Y17.binds (ps:=p_Y17) fun _ _ _ _ _ _ us hl=>(by obtain⟨_,_,rfl⟩:=lenU2 hl;rfl)
 have b_Y18:=F_Y18.binds (ps:=p_Y18) fun _ _ _ _ _ _ us hl=>(by obtain⟨_,_,rfl⟩:=lenU2 hl;rfl)
 have b_Y7:=F_Y7.binds (ps:=p_Y7) fun _ _ _ _ _ _ us hl=>(by obtain⟨_,_,rfl⟩:=lenU2 hl;rfl)
 have b_law:=F_law.binds (ps:=p_law) fun _ _ _ _ _ _ us hl=>(by obtain⟨_,rfl⟩:=lenU1 hl;rfl)
 refine⟨PySem.W.fnOf "law" "law" (defArgs s_law) (defBody s_law) (defScope s_law) .none kV30 dc30 pm30 an30 cd30 ct30,fun s v=>.of_eq rfl,fun base _ _=>?_⟩
 have m_Y8:=fun {sp:Sp}{j:Nat}(O:FnOk l.prog w K mg base (CXR l.prog w) j f1 _ p_Y8 sp)=>FnX.mk (x:="drawn_whole") O (PySem.W.mg_of X G a1) k1 b_Y8
 have m_Y9:=fun {sp:Sp}{j:Nat}(O:FnOk l.prog w K mg base CX0 j f2 _ p_Y9 sp)=>Fn.of (x:="next_state") O (PySem.W.mg_of X G a2) k2 b_Y9
 have m_Y29:=fun {sp:Sp}{j:Nat}(O:FnOk l.prog w K mg base CX0 j f3 _ p_Y29 sp)=>Fn.of (x:="bits_of") O (PySem.W.mg_of X G a3) k3 b_Y29
 have m_Y2:=fun {sp:Sp}{j:Nat}(O:FnOk l.prog w K mg base CX0 j f4 _ p_Y2 sp)=>Fn.of (x:="common_divisor") O (PySem.W.mg_of X G a4) k4 b_Y2
 have m_Y25:=fun {sp:Sp}{j:Nat}(O:FnOk l.prog w K mg base CX0 j f5 _ p_Y25 sp)=>Fn.of (x:="fraction") O (PySem.W.mg_of X G a5) k5 b_Y25
 have m_Y32:=fun {sp:Sp}{j:Nat}(O:FnOk l.prog w K mg base (CXR l.prog w) j f6 _ p_Y32 sp)=>FnX.mk (x:="even") O (PySem.W.mg_of X G a6) k6 b_Y32
 have m_Y20:=fun {sp:Sp}{j:Nat}(O:FnOk l.prog w K mg base (CXR l.prog w) j f7 _ p_Y20 sp)=>FnX.mk (x:="take_even") O (PySem.W.mg_of X G a7) k7 b_Y20
 have m_Y21:=fun {sp:Sp}{j:Nat}(O:FnOk l.prog w K mg base CX0 j f8 _ p_Y21 sp)=>Fn.of (x:="table_of") O (PySem.W.mg_of X G a8) k8 b_Y21
 have m_Y23:=fun {sp:Sp}{j:Nat}(O:FnOk l.prog w K mg base CX0 j f9 _ p_Y23 sp)=>Fn.of (x:="parts_of") O (PySem.W.mg_of X G a9) k9 b_Y23
 have m_Y1:=fun {sp:Sp}{j:Nat}(O:FnOk l.prog w K mg base CX0 j f10 _ p_Y1 sp)=>Fn.of (x:="shares_of_table") O (PySem.W.mg_of X G a10) k10 b_Y1
 have m_Y22:=fun {sp:Sp}{j:Nat}(O:FnOk l.prog w K mg base (CXR l.prog w) j f11 _ p_Y22 sp)=>FnX.mk (x:="by_table") O (PySem.W.mg_of X G a11) k11 b_Y22
 have m_Y30:=fun {sp:Sp}{j:Nat}(O:FnOk l.prog w K mg base CX0 j f12 _ p_Y30 sp)=>Fn.of (x:="sums_of") O (PySem.W.mg_of X G a12) k12 b_Y30
 have m_Y12:=fun {sp:Sp}{j:Nat}(O:FnOk l.prog w K mg base CX0 j f13 _ p_Y12 sp)=>Fn.of (x:="number_by") O (PySem.W.mg_of X G a13) k13 b_Y12
 have m_Y34:=fun {sp:Sp}{j:Nat}(O:FnOk l.prog w K mg base (CXR l.prog w) j f14 _ p_Y34 sp)=>FnX.mk (x:="pick") O (PySem.W.mg_of X G a14) k14 b_Y34
 have m_Y11:=fun {sp:Sp}{j:Nat}(O:FnOk l.prog w K mg base (CXR l.prog w) j f15 _ p_Y11 sp)=>FnX.mk (x:="take_pick") O (PySem.W.mg_of X G a15) k15 b_Y11
 have m_Y28:=fun {sp:Sp}{j:Nat}(O:FnOk l.prog w K mg base CX0 j f16 _ p_Y28 sp)=>Fn.of (x:="ends_of") O (PySem.W.mg_of X G a16) k16 b_Y28
 have m_Y33:=fun {sp:Sp}{j:Nat}(O:FnOk l.prog w K mg base CX0 j f17 _ p_Y33 sp)=>Fn.of (x:="deep") O (PySem.W.mg_of X G a17) k17 b_Y33
 have m_Y4:=fun {sp:Sp}{j:Nat}(O:FnOk l.prog w K mg base (CXR l.prog w) j f18 _ p_Y4 sp)=>FnX.mk (x:="numbered_ends") O (PySem.W.mg_of X G a18) k18 b_Y4
 have m_Y31:=fun {sp:Sp}{j:Nat}(O:FnOk l.prog w K mg base CX0 j f19 _ p_Y31 sp)=>Fn.of (x:="rows_to") O (PySem.W.mg_of X G a19) k19 b_Y31
 have m_Y16:=fun {sp:Sp}{j:Nat}(O:FnOk l.prog w K mg base CX0 j f20 _ p_Y16 sp)=>Fn.of (x:="shares_of") O (PySem.W.mg_of X G a20) k20 b_Y16
 have m_Y26:=fun {sp:Sp}{j:Nat}(O:FnOk l.prog w K mg base (CXR l.prog w) j f21 _ p_Y26 sp)=>FnX.mk (x:="by_plan") O (PySem.W.mg_of X G a21) k21 b_Y26
 have m_Y5:=fun {sp:Sp}{j:Nat}(O:FnOk l.prog w K mg base (CXR l.prog w) j f22 _ p_Y5 sp)=>FnX.mk (x:="take_by_plan") O (PySem.W.mg_of X G a22) k22 b_Y5
 have m_Y27:=fun {sp:Sp}{j:Nat}(O:FnOk l.prog w K mg base CX0 j f23 _ p_Y27 sp)=>Fn.of (x:="plan_of") O (PySem.W.mg_of X G a23) k23 b_Y27
 have m_Y13:=fun {sp:Sp}{j:Nat}(O:FnOk l.prog w K mg base CX0 j f24 _ p_Y13 sp)=>Fn.of (x:="_law_same") O (PySem.W.mg_of X G a24) k24 b_Y13
 have m_Y19:=fun {sp:Sp}{j:Nat}(O:FnOk l.prog w K mg base CX0 j f25 _ p_Y19 sp)=>Fn.of (x:="_law_draw") O (PySem.W.mg_of X G a25) k25 b_Y19
 have m_Y24:=fun {sp:Sp}{j:Nat}(O:FnOk l.prog w K mg base CX0 j f26 _ p_Y24 sp)=>Fn.of (x:="_law_one") O (PySem.W.mg_of X G a26) k26 b_Y24
 have m_Y17:=fun {sp:Sp}{j:Nat}(O:FnOk l.prog w K mg base CX0 j f27 _ p_Y17 sp)=>Fn.of (x:="_law_frac") O (PySem.W.mg_of X G a27) k27 b_Y17
 have m_Y18:=fun {sp:Sp}{j:Nat}(O:FnOk l.prog w K mg base CX0 j f28 _ p_Y18 sp)=>Fn.of (x:="_law_plus") O (PySem.W.mg_of X G a28) k28 b_Y18
 have m_Y7:=fun {sp:Sp}{j:Nat}(O:FnOk l.prog w K mg base CX0 j f29 _ p_Y7 sp)=>Fn.of (x:="_law_weights") O (PySem.W.mg_of X G a29) k29 b_Y7
 have q_draw:=m_Y19 (ok_Y19 F_Y19 B)
 have q_draw16:=m_Y19 ((ok_Y19 F_Y19 B).mono (show 1≤16 by decide))
 have q_one:=m_Y24 (ok_Y24 F_Y24 B q_draw)
 have q_w:=m_Y7 ((ok_Y7 F_Y7 B q_draw q_one).mono (show 3≤16 by decide))
 have T:Txt K mg c_Bits _ _ _ _ _ _ _ _ _ _:=⟨cls_Bits,n_Bits_row,n_Bits_place,mgC_Bits,mk_Bits,m_Y14,m_Y15,m_Y10,m_Y6,b_Y3,b_Y14,b_Y15,b_Y10,b_Y6⟩
 have q_init:=ok_init (P:=l.prog) (w:=w) (base:=base) F_Y3 B T
 have q_used:=ok_used (P:=l.prog) (w:=w) (base:=base) F_Y15 T
 have q_left:=ok_left (P:=l.prog) (w:=w) (base:=base) F_Y10 B T
 have q_take:=(ok_take (P:=l.prog) (w:=w) (base:=base) F_Y14 T X_E1 q_left).imp take_imp
 have q_goH:=okH_go_back (P:=l.prog) (w:=w) (base:=base) F_Y6 T
 have q_dw:=m_Y8 (ok_Y8 (k0:=3) F_Y8 T X_E1 xm_E1_E1 q_used q_goH)
 have q_tp:=m_Y11 (ok_Y11 F_Y11 B T q_take)
 have q_pk:=m_Y34 ((ok_Y34 F_Y34 B q_dw q_tp).mono (show 6≤15 by decide))
 have q_te:=m_Y20 (ok_Y20 F_Y20 T q_take)
 have q_ev:=m_Y32 (ok_Y32 F_Y32 q_dw q_te)
 have q_bt:=m_Y22 ((ok_Y22 F_Y22 B q_ev).mono (show 7≤15 by decide))
 have q_s:=m_Y13 ((same_all (P:=l.prog) (w:=w) (base:=base) F_Y13 B m_Y13 15).mono (show 15≤16 by decide))
 have o_e:=ends_all (P:=l.prog) (w:=w) (base:=base) F_Y28 m_Y28
 have o_ne:=ok_Y4 F_Y4 B C X_E2 (m_Y28 (o_e 12))
 have q_tb:=m_Y5 (ok_Y5 F_Y5 C T q_take)
 have q_by:=m_Y26 (ok_Y26 F_Y26 (m_Y4 (o_ne.imp ne_imp)) q_dw q_tb)
 have q_cd:=m_Y2 (ok_Y2 (P:=l.prog) (w:=w) (base:=base) F_Y2 B)
 have q_fr:=m_Y25 ((ok_Y25 F_Y25 q_cd).mono (show 2≤14 by decide))
 have q_fr2:=m_Y25 (ok_Y25 F_Y25 q_cd)
 have q_lf:=m_Y17 (ok_Y17 (P:=l.prog) (w:=w) (base:=base) F_Y17 B)
 have q_lf16:=m_Y17 ((ok_Y17 (P:=l.prog) (w:=w) (base:=base) F_Y17 B).mono (show 1≤16 by decide))
 have q_lp:=m_Y18 ((ok_Y18 F_Y18 q_lf).mono (show 2≤16 by decide))
 have q_dp:=m_Y33 (ok_Y33 F_Y33 B (m_Y28 (o_e 12)))
 have q_rt:=m_Y31 ((ok_Y31 (P:=l.prog) (w:=w) (base:=base) F_Y31).mono (show 1≤14 by decide))
 have q_sh:=m_Y16 ((ok_Y16 F_Y16 B (m_Y4 o_ne) q_dp q_rt q_fr).mono (show 15≤16 by decide))
 have q_of:=m_Y27 ((ok_Y27 (P:=l.prog) (w:=w) (base:=base) F_Y27 B C).mono (show 1≤16 by decide))
 have q_tab:=m_Y21 ((ok_Y21 (P:=l.prog) (w:=w) (base:=base) F_Y21 B).mono (show 1≤16 by decide))
 have q_pa:=m_Y23 (ok_Y23 (P:=l.prog) (w:=w) (base:=base) F_Y23 B)
 have q_st:=m_Y1 ((ok_Y1 F_Y1 B q_pa q_fr2).mono (show 3≤16 by decide))
 have q_ns:=m_Y9 (ok_Y9 (P:=l.prog) (w:=w) (base:=base) F_Y9 C)
 have q_bo:=m_Y29 ((ok_Y29 F_Y29 B C q_ns).mono (show 2≤16 by decide))
 have q_su:=m_Y30 ((ok_Y30 (P:=l.prog) (w:=w) (base:=base) F_Y30 B).mono (show 1≤16 by decide))
 have q_nb:=m_Y12 ((ok_Y12 (P:=l.prog) (w:=w) (base:=base) F_Y12 B).mono (show 1≤16 by decide))
 exact ok_law rows_ok F_law B T q_init q_draw16 q_w q_tab q_st q_lp q_lf16 q_of q_sh q_s q_bo q_pk q_by q_bt q_su q_nb
theorem walk {l:PySem.W.OpenLaw}{q:Program}{loose:List Str}{XP:(Str→Option Value)→Heap→Prop}{YP:World→Heap→Prop}{d:DefRec}{K:Params→PySem.W.Frag}(hn:l.most=some 63)(hdf:d.params.defaults=[])
  (hY:∀(w:World)(h:Heap),YP w h→(K w.params).In h)
  (F:∀(w:World)(mg:Str→Option Value)(fa:Addr)(h:Heap),(K w.params).In h→h.Ns mainGlobals mg→mg d.name=some (.ref fa) →
   ∃fd:FuncData,(∀(s:Shared)(u:Value),BindsTo s fd ⟨[u],[]⟩ [("_law_script",u)])∧∀base:Heap,(K w.params).In base→base.Ns mainGlobals mg→FnOk l.prog w (K w.params) mg base CX0 17 fa fd ["_law_script"] (spLaw (K w.params))) :
  PySem.W.WalkO q loose XP YP l.row.toRowW d [] (fun f vs=>PySem.call f vs) :=
 L2.walk_of (n:=63) (k:=17) (x:="_law_script") (CX:=fun _=>CX0) (sp:=fun w=>spLaw (K w.params)) hn (by decide) hdf ⟨rfl,by decide,by decide⟩ hY F (fun _ _ a ns hl hO hS=>⟨a,ns,rfl,Scr.of hS hO,hl,fun _=>rfl⟩) fun _ _ _ _ _ z=>z
noncomputable abbrev kE (P:Params)(x:Str)(t:Tok)(v:Value):DictEntry:=⟨PyData.keyHash P x,.str x t,v⟩
noncomputable abbrev kF (nm ql:Str)(st:Stmt)(md:Value)(c:Addr):Obj:=⟨.type "function",none,.func (PySem.W.fnOf nm ql (defArgs st) (defBody st) (defScope st) .none .none .none md none (.ref c) .none),#[]⟩
noncomputable abbrev kC (nm ql:Str)(t l n f r z m:Nat):Obj:=⟨.type "code",none,.fields #[.str nm t,.str ql (t+1),.str "/claim/cut.py" (t+2),.int l 0,.int n 0,.int 0 0,.int 0 0,.int f 0,.ref r,.bool true,.int z 0,.ref (r+1),.none,.ref (r+2),.ref (r+3),.ref (r+4),.int m 0,.int l 0,.str "/claim/cut.py" (m+1)],#[]⟩
noncomputable def KK (P:Params):PySem.W.Frag :=
 (nat_lit 2,⟨.none,none,.dict #[] 0,#[]⟩) ::
 (nat_lit 3,⟨(.type "dict"),none,.dict #[kE P "__name__" 165 (.str "law_bitdraws_k41_whole_shares_agree" 521),kE P "__doc__" 166 .none,kE P "__package__" 167 .none,kE P "__loader__" 168 (.builtin "__main__.__loader__#opaque"),kE P "__spec__" 169 .none,kE P "__annotations__" 170 (.ref 6),kE P "__builtins__" 171 (.ref 4),kE P "__file__" 173 (.str "/claim/cut.py" 172),kE P "__cached__" 174 .none,kE P "DrawError" 206 (.ref 24),kE P "NoBits" 222 (.ref 37),kE P "NoShares" 238 (.ref 49),kE P "NoPlace" 254 (.ref 61),kE P "STATES" 258 (.int 4294967296 257),kE P "HALF_OF_STATES" 260 (.int 2147483648 259),kE P "FACTOR" 262 (.int 1664525 261),kE P "ADDED" 264 (.int 1013904223 263),kE P "Bits" 324 (.ref 108),kE P "drawn_whole" 334 (.ref 119),kE P "next_state" 341 (.ref 126),kE P "bits_of" 351 (.ref 133),kE P "common_divisor" 364 (.ref 140),kE P "fraction" 373 (.ref 147),kE P "even" 383 (.ref 154),kE P "take_even" 393 (.ref 161),kE P "table_of" 401 (.ref 166),kE P "parts_of" 407 (.ref 171),kE P "shares_of_table" 413 (.ref 176),kE P "by_table" 424 (.ref 183),kE P "sums_of" 434 (.ref 190),kE P "number_by" 444 (.ref 197),kE P "AGAIN" 448 (.ref 198),kE P "pick" 457 (.ref 205),kE P "take_pick" 463 (.ref 210),kE P "ends_of" 471 (.ref 217),kE P "deep" 477 (.ref 222),kE P "numbered_ends" 483 (.ref 227),kE P "rows_to" 491 (.ref 234),kE P "shares_of" 497 (.ref 239),kE P "by_plan" 505 (.ref 246),kE P "take_by_plan" 514 (.ref 253),kE P "plan_of" 520 (.ref 258),kE P "_law_same" 528 (.ref 263),kE P "_law_draw" 541 (.ref 270),kE P "_law_one" 550 (.ref 277),kE P "_law_frac" 560 (.ref 284),kE P "_law_plus" 568 (.ref 291),kE P "_law_weights" 574 (.ref 296),kE P "law" 580 (.ref 301)] 49,#[]⟩) ::
 (nat_lit 23,⟨(.type "dict"),none,.dict #[kE P "__module__" 196 (.str "bitdraws.errors" 187),kE P "__firstlineno__" 200 (.int 2 199),kE P "__static_attributes__" 201 (.ref 22),kE P "__weakref__" 203 (.ref 25),kE P "__doc__" 204 .none] 3,#[]⟩) ::
 (nat_lit 24,⟨(.type "type"),none,.cls { name:="DrawError",bases:=[(.type "ValueError")],mro:=[(.ref 24),(.type "ValueError"),(.type "Exception"),(.type "BaseException"),(.type "object")],ns:=23,qualname:="DrawError",subclasses:=[(.ref 37),(.ref 49),(.ref 61)] },#[some (.ref 15),none,some (.str "DrawError" 189),some (.str "DrawError" 197),some (.builtin "ValueError.__new__"),some (.bool true)]⟩) ::
 (nat_lit 25,⟨(.type "getset_descriptor"),none,.fields #[(.str "__weakref__" 202),(.ref 24),(.builtin "ExceptionGroup.__weakref__"),.none],#[]⟩) ::
 (nat_lit 36,⟨(.type "dict"),none,.dict #[kE P "__module__" 214 (.str "bitdraws.errors" 187),kE P "__firstlineno__" 218 (.int 4 217),kE P "__static_attributes__" 219 (.ref 35),kE P "__doc__" 220 .none] 2,#[]⟩) ::
 (nat_lit 37,⟨(.type "type"),none,.cls { name:="NoBits",bases:=[(.ref 24)],mro:=[(.ref 37),(.ref 24),(.type "ValueError"),(.type "Exception"),(.type "BaseException"),(.type "object")],ns:=36,qualname:="NoBits" },#[some (.ref 28),none,some (.str "NoBits" 207),some (.str "NoBits" 215),some (.builtin "ValueError.__new__"),some (.bool true)]⟩) ::
 (nat_lit 48,⟨(.type "dict"),none,.dict #[kE P "__module__" 230 (.str "bitdraws.errors" 187),kE P "__firstlineno__" 234 (.int 6 233),kE P "__static_attributes__" 235 (.ref 47),kE P "__doc__" 236 .none] 2,#[]⟩) ::
 (nat_lit 49,⟨(.type "type"),none,.cls { name:="NoShares",bases:=[(.ref 24)],mro:=[(.ref 49),(.ref 24),(.type "ValueError"),(.type "Exception"),(.type "BaseException"),(.type "object")],ns:=48,qualname:="NoShares" },#[some (.ref 40),none,some (.str "NoShares" 223),some (.str "NoShares" 231),some (.builtin "ValueError.__new__"),some (.bool true)]⟩) ::
 (nat_lit 60,⟨(.type "dict"),none,.dict #[kE P "__module__" 246 (.str "bitdraws.errors" 187),kE P "__firstlineno__" 250 (.int 8 249),kE P "__static_attributes__" 251 (.ref 59),kE P "__doc__" 252 .none] 2,#[]⟩) ::
 (nat_lit 61,⟨(.type "type"),none,.cls { name:="NoPlace",bases:=[(.ref 24)],mro:=[(.ref 61),(.ref 24),(.type "ValueError"),(.type "Exception"),(.type "BaseException"),(.type "object")],ns:=60,qualname:="NoPlace" },#[some (.ref 52),none,some (.str "NoPlace" 239),some (.str "NoPlace" 247),some (.builtin "ValueError.__new__"),some (.bool true)]⟩) ::
 (nat_lit 76,kC "__init__" "Bits.__init__" 277 17 2 3 71 181 282) ::
 (nat_lit 77,kF "__init__" "Bits.__init__" s_Y3 (.str "bitdraws.bits" 255) 76) ::
 (nat_lit 83,kC "take" "Bits.take" 285 21 1 3 78 181 290) ::
 (nat_lit 84,kF "take" "Bits.take" s_Y14 (.str "bitdraws.bits" 255) 83) ::
 (nat_lit 90,kC "used" "Bits.used" 293 28 1 3 85 181 297) ::
 (nat_lit 91,kF "used" "Bits.used" s_Y15 (.str "bitdraws.bits" 255) 90) ::
 (nat_lit 97,kC "left" "Bits.left" 300 31 1 3 92 181 304) ::
 (nat_lit 98,kF "left" "Bits.left" s_Y10 (.str "bitdraws.bits" 255) 97) ::
 (nat_lit 104,kC "go_back" "Bits.go_back" 307 34 2 3 99 181 312) ::
 (nat_lit 105,kF "go_back" "Bits.go_back" s_Y6 (.str "bitdraws.bits" 255) 104) ::
 (nat_lit 107,⟨(.type "dict"),none,.dict #[kE P "__module__" 272 (.str "bitdraws.bits" 255),kE P "__firstlineno__" 276 (.int 15 275),kE P "__init__" 284 (.ref 77),kE P "take" 292 (.ref 84),kE P "used" 299 (.ref 91),kE P "left" 306 (.ref 98),kE P "go_back" 314 (.ref 105),kE P "__static_attributes__" 317 (.ref 106),kE P "__dict__" 319 (.ref 109),kE P "__weakref__" 321 (.ref 110),kE P "__doc__" 322 .none] 4,#[]⟩) ::
 (nat_lit 108,⟨(.type "type"),none,.cls { name:="Bits",bases:=[(.type "object")],mro:=[(.ref 108),(.type "object")],ns:=107,qualname:="Bits" },#[none,none,some (.str "Bits" 265),some (.str "Bits" 273),some (.builtin "object.__new__"),some (.bool true)]⟩) ::
 (nat_lit 109,⟨(.type "getset_descriptor"),none,.fields #[(.str "__dict__" 318),(.ref 108),(.builtin "function.__dict__"),(.builtin "function.__dict__#set")],#[]⟩) ::
 (nat_lit 110,⟨(.type "getset_descriptor"),none,.fields #[(.str "__weakref__" 320),(.ref 108),(.builtin "ExceptionGroup.__weakref__"),.none],#[]⟩) ::
 (nat_lit 118,kC "drawn_whole" "drawn_whole" 325 38 3 3 113 181 332) ::
 (nat_lit 119,kF "drawn_whole" "drawn_whole" s_Y8 (.str "bitdraws.bits" 255) 118) ::
 (nat_lit 125,kC "next_state" "next_state" 335 45 1 3 120 181 339) ::
 (nat_lit 126,kF "next_state" "next_state" s_Y9 (.str "bitdraws.bits" 255) 125) ::
 (nat_lit 132,kC "bits_of" "bits_of" 342 47 2 3 127 181 349) ::
 (nat_lit 133,kF "bits_of" "bits_of" s_Y29 (.str "bitdraws.bits" 255) 132) ::
 (nat_lit 139,kC "common_divisor" "common_divisor" 354 55 2 3 134 181 362) ::
 (nat_lit 140,kF "common_divisor" "common_divisor" s_Y2 (.str "bitdraws.fractions" 352) 139) ::
 (nat_lit 146,kC "fraction" "fraction" 365 63 2 3 141 181 371) ::
 (nat_lit 147,kF "fraction" "fraction" s_Y25 (.str "bitdraws.fractions" 352) 146) ::
 (nat_lit 153,kC "even" "even" 376 71 2 3 148 181 381) ::
 (nat_lit 154,kF "even" "even" s_Y32 (.str "bitdraws.evens" 374) 153) ::
 (nat_lit 160,kC "take_even" "take_even" 384 73 2 3 155 181 391) ::
 (nat_lit 161,kF "take_even" "take_even" s_Y20 (.str "bitdraws.evens" 374) 160) ::
 (nat_lit 165,⟨(.type "code"),none,.fields #[(.str "table_of" 396),(.str "table_of" 397),(.str "/claim/cut.py" 398),(.int 85 0),(.int 1 0),(.int 0 0),(.int 0 0),(.int 3 0),(.ref 162),(.bool true),(.int 181 0),(.ref 163),.none,.none,.none,(.ref 164),(.int 399 0),(.int 85 0),(.str "/claim/cut.py" 400)],#[]⟩) ::
 (nat_lit 166,kF "table_of" "table_of" s_Y21 (.str "bitdraws.tables" 394) 165) ::
 (nat_lit 170,⟨(.type "code"),none,.fields #[(.str "parts_of" 402),(.str "parts_of" 403),(.str "/claim/cut.py" 404),(.int 99 0),(.int 2 0),(.int 0 0),(.int 0 0),(.int 3 0),(.ref 167),(.bool true),(.int 181 0),(.ref 168),.none,.none,.none,(.ref 169),(.int 405 0),(.int 99 0),(.str "/claim/cut.py" 406)],#[]⟩) ::
 (nat_lit 171,kF "parts_of" "parts_of" s_Y23 (.str "bitdraws.tables" 394) 170) ::
 (nat_lit 175,⟨(.type "code"),none,.fields #[(.str "shares_of_table" 408),(.str "shares_of_table" 409),(.str "/claim/cut.py" 410),(.int 106 0),(.int 2 0),(.int 0 0),(.int 0 0),(.int 3 0),(.ref 172),(.bool true),(.int 181 0),(.ref 173),.none,.none,.none,(.ref 174),(.int 411 0),(.int 106 0),(.str "/claim/cut.py" 412)],#[]⟩) ::
 (nat_lit 176,kF "shares_of_table" "shares_of_table" s_Y1 (.str "bitdraws.tables" 394) 175) ::
 (nat_lit 182,kC "by_table" "by_table" 414 108 3 3 177 181 422) ::
 (nat_lit 183,kF "by_table" "by_table" s_Y22 (.str "bitdraws.tables" 394) 182) ::
 (nat_lit 189,kC "sums_of" "sums_of" 425 112 1 3 184 181 432) ::
 (nat_lit 190,kF "sums_of" "sums_of" s_Y30 (.str "bitdraws.tables" 394) 189) ::
 (nat_lit 196,kC "number_by" "number_by" 435 119 2 3 191 181 442) ::
 (nat_lit 197,kF "number_by" "number_by" s_Y12 (.str "bitdraws.tables" 394) 196) ::
 (nat_lit 198,⟨(.type "tuple"),none,.seq #[(.str "again" 447)] 0,#[]⟩) ::
 (nat_lit 204,kC "pick" "pick" 449 126 2 3 199 181 455) ::
 (nat_lit 205,kF "pick" "pick" s_Y34 (.str "bitdraws.plans" 445) 204) ::
 (nat_lit 209,⟨(.type "code"),none,.fields #[(.str "take_pick" 458),(.str "take_pick" 459),(.str "/claim/cut.py" 460),(.int 131 0),(.int 2 0),(.int 0 0),(.int 0 0),(.int 3 0),(.ref 206),(.bool true),(.int 181 0),(.ref 207),.none,.none,.none,(.ref 208),(.int 461 0),(.int 131 0),(.str "/claim/cut.py" 462)],#[]⟩) ::
 (nat_lit 210,kF "take_pick" "take_pick" s_Y11 (.str "bitdraws.plans" 445) 209) ::
 (nat_lit 216,kC "ends_of" "ends_of" 464 142 2 3 211 181 469) ::
 (nat_lit 217,kF "ends_of" "ends_of" s_Y28 (.str "bitdraws.plans" 445) 216) ::
 (nat_lit 221,⟨(.type "code"),none,.fields #[(.str "deep" 472),(.str "deep" 473),(.str "/claim/cut.py" 474),(.int 146 0),(.int 1 0),(.int 0 0),(.int 0 0),(.int 3 0),(.ref 218),(.bool true),(.int 181 0),(.ref 219),.none,.none,.none,(.ref 220),(.int 475 0),(.int 146 0),(.str "/claim/cut.py" 476)],#[]⟩) ::
 (nat_lit 222,kF "deep" "deep" s_Y33 (.str "bitdraws.plans" 445) 221) ::
 (nat_lit 226,⟨(.type "code"),none,.fields #[(.str "numbered_ends" 478),(.str "numbered_ends" 479),(.str "/claim/cut.py" 480),(.int 148 0),(.int 1 0),(.int 0 0),(.int 0 0),(.int 3 0),(.ref 223),(.bool true),(.int 181 0),(.ref 224),.none,.none,.none,(.ref 225),(.int 481 0),(.int 148 0),(.str "/claim/cut.py" 482)],#[]⟩) ::
 (nat_lit 227,kF "numbered_ends" "numbered_ends" s_Y4 (.str "bitdraws.plans" 445) 226) ::
 (nat_lit 233,kC "rows_to" "rows_to" 484 153 2 3 228 181 489) ::
 (nat_lit 234,kF "rows_to" "rows_to" s_Y31 (.str "bitdraws.plans" 445) 233) ::
 (nat_lit 238,⟨(.type "code"),none,.fields #[(.str "shares_of" 492),(.str "shares_of" 493),(.str "/claim/cut.py" 494),(.int 155 0),(.int 1 0),(.int 0 0),(.int 0 0),(.int 3 0),(.ref 235),(.bool true),(.int 181 0),(.ref 236),.none,.none,.none,(.ref 237),(.int 495 0),(.int 155 0),(.str "/claim/cut.py" 496)],#[]⟩) ::
 (nat_lit 239,kF "shares_of" "shares_of" s_Y16 (.str "bitdraws.plans" 445) 238) ::
 (nat_lit 245,kC "by_plan" "by_plan" 498 162 2 3 240 181 503) ::
 (nat_lit 246,kF "by_plan" "by_plan" s_Y26 (.str "bitdraws.plans" 445) 245) ::
 (nat_lit 252,kC "take_by_plan" "take_by_plan" 506 165 2 3 247 181 512) ::
 (nat_lit 253,kF "take_by_plan" "take_by_plan" s_Y5 (.str "bitdraws.plans" 445) 252) ::
 (nat_lit 257,⟨(.type "code"),none,.fields #[(.str "plan_of" 515),(.str "plan_of" 516),(.str "/claim/cut.py" 517),(.int 173 0),(.int 1 0),(.int 0 0),(.int 0 0),(.int 3 0),(.ref 254),(.bool true),(.int 181 0),(.ref 255),.none,.none,.none,(.ref 256),(.int 518 0),(.int 173 0),(.str "/claim/cut.py" 519)],#[]⟩) ::
 (nat_lit 258,kF "plan_of" "plan_of" s_Y27 (.str "bitdraws.plans" 445) 257) ::
 (nat_lit 262,⟨(.type "code"),none,.fields #[(.str "_law_same" 523),(.str "_law_same" 524),(.str "/claim/cut.py" 525),(.int 186 0),(.int 2 0),(.int 0 0),(.int 0 0),(.int 3 0),(.ref 259),(.bool true),(.int 181 0),(.ref 260),.none,.none,.none,(.ref 261),(.int 526 0),(.int 186 0),(.str "/claim/cut.py" 527)],#[]⟩) ::
 (nat_lit 263,kF "_law_same" "_law_same" s_Y13 (.str "law_bitdraws_k41_whole_shares_agree" 521) 262) ::
 (nat_lit 269,kC "_law_draw" "_law_draw" 529 198 3 3 264 181 539) ::
 (nat_lit 270,kF "_law_draw" "_law_draw" s_Y19 (.str "law_bitdraws_k41_whole_shares_agree" 521) 269) ::
 (nat_lit 276,kC "_law_one" "_law_one" 542 208 3 3 271 181 548) ::
 (nat_lit 277,kF "_law_one" "_law_one" s_Y24 (.str "law_bitdraws_k41_whole_shares_agree" 521) 276) ::
 (nat_lit 283,kC "_law_frac" "_law_frac" 551 210 2 3 278 181 558) ::
 (nat_lit 284,kF "_law_frac" "_law_frac" s_Y17 (.str "law_bitdraws_k41_whole_shares_agree" 521) 283) ::
 (nat_lit 290,kC "_law_plus" "_law_plus" 561 216 2 3 285 181 566) ::
 (nat_lit 291,kF "_law_plus" "_law_plus" s_Y18 (.str "law_bitdraws_k41_whole_shares_agree" 521) 290) ::
 (nat_lit 295,⟨(.type "code"),none,.fields #[(.str "_law_weights" 569),(.str "_law_weights" 570),(.str "/claim/cut.py" 571),(.int 218 0),(.int 2 0),(.int 0 0),(.int 0 0),(.int 3 0),(.ref 292),(.bool true),(.int 181 0),(.ref 293),.none,.none,.none,(.ref 294),(.int 572 0),(.int 218 0),(.str "/claim/cut.py" 573)],#[]⟩) ::
 (nat_lit 296,kF "_law_weights" "_law_weights" s_Y7 (.str "law_bitdraws_k41_whole_shares_agree" 521) 295) ::
 (nat_lit 300,⟨(.type "code"),none,.fields #[(.str "law" 575),(.str "law" 576),(.str "/claim/cut.py" 577),(.int 224 0),(.int 1 0),(.int 0 0),(.int 0 0),(.int 3 0),(.ref 297),(.bool true),(.int 181 0),(.ref 298),.none,.none,.none,(.ref 299),(.int 578 0),(.int 224 0),(.str "/claim/cut.py" 579)],#[]⟩) ::
 (nat_lit 301,kF "law" "law" s_law (.str "law_bitdraws_k41_whole_shares_agree" 521) 300)::[]
noncomputable def KA:List Addr:=[2,3,23,24,25,36,37,48,49,60,61,76,77,83,84,90,91,97,98,104,105,107,108,109,110,118,119,125,126,132,133,139,140,146,147,153,154,160,161,165,166,170,171,175,176,182,183,189,190,196,197,198,204,205,209,210,216,217,221,222,226,227,233,234,238,239,245,246,252,253,257,258,262,263,269,270,276,277,283,284,290,291,295,296,300,301]
theorem KA_is (P:Params):KA=(KK P).map (·.1):=by kernel_rfl
noncomputable abbrev qv:Program:=PySem.W.view PySem.Challenge.pw_bitdraws_k41_whole_shares_agree [46]
noncomputable abbrev qL:List Str:=[⟨⟨[68,114,97,119,69,114,114,111,114]⟩⟩,⟨⟨[78,111,66,105,116,115]⟩⟩,⟨⟨[78,111,83,104,97,114,101,115]⟩⟩,⟨⟨[78,111,80,108,97,99,101]⟩⟩,⟨⟨[83,84,65,84,69,83]⟩⟩,⟨⟨[72,65,76,70,95,79,70,95,83,84,65,84,69,83]⟩⟩,⟨⟨[70,65,67,84,79,82]⟩⟩,⟨⟨[65,68,68,69,68]⟩⟩,⟨⟨[66,105,116,115]⟩⟩,⟨⟨[100,114,97,119,110,95,119,104,111,108,101]⟩⟩,⟨⟨[110,101,120,116,95,115,116,97,116,101]⟩⟩,⟨⟨[98,105,116,115,95,111,102]⟩⟩,⟨⟨[99,111,109,109,111,110,95,100,105,118,105,115,111,114]⟩⟩,⟨⟨[102,114,97,99,116,105,111,110]⟩⟩,⟨⟨[101,118,101,110]⟩⟩,⟨⟨[116,97,107,101,95,101,118,101,110]⟩⟩,⟨⟨[116,97,98,108,101,95,111,102]⟩⟩,⟨⟨[112,97,114,116,115,95,111,102]⟩⟩,⟨⟨[115,104,97,114,101,115,95,111,102,95,116,97,98,108,101]⟩⟩,⟨⟨[98,121,95,116,97,98,108,101]⟩⟩,⟨⟨[115,117,109,115,95,111,102]⟩⟩,⟨⟨[110,117,109,98,101,114,95,98,121]⟩⟩,⟨⟨[65,71,65,73,78]⟩⟩,⟨⟨[112,105,99,107]⟩⟩,⟨⟨[116,97,107,101,95,112,105,99,107]⟩⟩,⟨⟨[101,110,100,115,95,111,102]⟩⟩,⟨⟨[100,101,101,112]⟩⟩,⟨⟨[110,117,109,98,101,114,101,100,95,101,110,100,115]⟩⟩,⟨⟨[114,111,119,115,95,116,111]⟩⟩,⟨⟨[115,104,97,114,101,115,95,111,102]⟩⟩,⟨⟨[98,121,95,112,108,97,110]⟩⟩,⟨⟨[116,97,107,101,95,98,121,95,112,108,97,110]⟩⟩,⟨⟨[112,108,97,110,95,111,102]⟩⟩,⟨⟨[95,108,97,119,95,115,97,109,101]⟩⟩,⟨⟨[95,108,97,119,95,100,114,97,119]⟩⟩,⟨⟨[95,108,97,119,95,111,110,101]⟩⟩,⟨⟨[95,108,97,119,95,102,114,97,99]⟩⟩,⟨⟨[95,108,97,119,95,112,108,117,115]⟩⟩,⟨⟨[95,108,97,119,95,119,101,105,103,104,116,115]⟩⟩]
noncomputable abbrev qV:List (Str×PySem.W.WData):=[]
noncomputable abbrev qX (s:Shared):Bool:=PySem.W.xlAt qv qV s&&PySem.W.recOk (PySem.W.RowW.records (PySem.W.OpenRow.toRowW (PySem.W.OpenLaw.row PySem.Challenge.rw_bitdraws_k41_whole_shares_agree))) s
theorem both {α β γ:Type}{o:Option α}{f:α→β}{g:α→γ}{b:β}{c:γ}(h1:Option.map f o=some b)(h2:Option.map g o=some c):Option.map (fun s=>(f s,g s)) o=some (b,c):=by
 cases o with
 | none=>cases h1
 | some x=>cases h1;cases h2;rfl
theorem left_of {p q:Program}{loose:List Str}{Xt:Shared→Bool}{α:Type}{Yf:Shared→α}{Ya:World→α}{N m₀:Nat}{ann:Option Value}(e:PySem.W.opening p=PySem.W.plainProg p.main.scope.names)(hN:Nat.ble 600 N=true)(f:∀s,fenceModules? p s=some s)
  (size:∀w:World,((PySem.W.boot_heap w.params).isNs mainGlobals,(PySem.W.boot_heap w.params).objs.size,(PySem.W.boot_heap w.params).nsMap mainGlobals "__annotations__")=(true,m₀,ann))
  (run:∀(w:World)(os:OsState),(PySem.W.topRun treeTable p w m₀ ann N ⟨PySem.W.boot_heap w.params,#[],PySem.W.boot_drawn,PySem.W.boot_toks,os⟩ (PySem.W.topStub p)).map (fun s=>((PySem.W.staticsOk (importedModules p.main.body) (PySem.W.boot_heap w.params) s.heap&&PySem.W.namesBound p s.heap&&PySem.W.gensDone s&&PySem.W.laidKept (PySem.W.boot_heap w.params) s.heap),PySem.W.openSeen q loose (importedModules p.main.body) Xt true s,Yf s))=some (true,PySem.W.openGood q loose,Ya w)) :
  PySem.W.LeftO p q loose Xt Yf Ya N:=fun w=>by
 obtain⟨⟨h,gs,d,k,os⟩,e,e'⟩:=Option.map_eq_some_iff.mp (PySem.W.boot_open e hN f w)
 obtain⟨rfl,rfl,rfl,rfl⟩:h=PySem.W.boot_heap w.params∧gs=#[]∧d=PySem.W.boot_drawn∧k=PySem.W.boot_toks:=by simpa using e'
 obtain⟨z1,z2,z3⟩:_∧_∧_:=by simpa only[Prod.mk.injEq]using size w
 obtain⟨s,r1,r2⟩:=Option.map_eq_some_iff.mp (run w os)
 obtain⟨l1,l2,l3⟩:_∧_∧_:=by simpa only[Prod.mk.injEq]using r2
 have t:PySem.W.topFrom treeTable p w N ⟨PySem.W.boot_heap w.params,#[],PySem.W.boot_drawn,PySem.W.boot_toks,os⟩=some s:=by
  unfold PySem.W.topFrom
  dsimp only
  rw[z1,z2,z3,r1]
  show(match PySem.W.staticsOk _ _ s.heap&&_&&_&&_ with|true=>_|false=>_)=_
  rw[l1]
 unfold PySem.W.openEnds
 rw[e]
 show(PySem.W.topFrom treeTable p w N _).map _=_
 rw[t]
 exact congrArg some (Prod.ext l2 l3)
noncomputable def goT (tb:String→Option Builtin)(p:Program)(w:World)(n₀:Nat)(ann:Option Value)(ok:Nat→Option Value→Thread→Bool)(st:(Code→Sem Fin)→Program→World→PySem.W.SharedT→Thread→Option (PySem.W.SharedT×Thread))(dn:(String→Option Builtin)→Code→Sem Fin)(n:Nat):PySem.W.SharedT→Thread→Option PySem.W.SharedT :=
 @Nat.rec (fun _=>PySem.W.SharedT→Thread→Option PySem.W.SharedT) (fun _ _=>none) (fun _ ih s t=>@Bool.rec (fun _=>Option PySem.W.SharedT) (@Bool.rec (fun _=>Option PySem.W.SharedT) none (@Option.rec _ (fun _=>Option PySem.W.SharedT) none (fun r=>@Prod.rec _ _ (fun _=>Option PySem.W.SharedT) (fun s' t'=>ih s' t') r) (st (dn tb) p w s t)) (ok n₀ ann t)) (some s) (PySem.W.through t)) n
theorem goT_of {tb:String→Option Builtin}{p:Program}{w:World}{n₀:Nat}{ann:Option Value}:∀{n:Nat}{s s':PySem.W.SharedT}{t:Thread},goT tb p w n₀ ann PySem.W.stepOk PySem.W.stepT denote n s t=some s'→PySem.W.topRun tb p w n₀ ann n s.abs t=some s'.abs
 | 0,s,s',t,h=>by cases h
 | n+1,s,s',t,h=>by
  unfold PySem.W.topRun
  have h:@Bool.rec (fun _=>Option PySem.W.SharedT) (@Bool.rec (fun _=>Option PySem.W.SharedT) none (@Option.rec _ (fun _=>Option PySem.W.SharedT) none (fun r=>@Prod.rec _ _ (fun _=>Option PySem.W.SharedT) (fun s' t'=>goT tb p w n₀ ann PySem.W.stepOk PySem.W.stepT denote n s' t') r) (PySem.W.stepT (denote tb) p w s t)) (PySem.W.stepOk n₀ ann t)) (some s) (PySem.W.through t)=some s':=h
  cases ht:PySem.W.through t with
  | true=>rw[ht]at h;cases h;rfl
  | false =>
   rw[ht]at h
   cases hk:PySem.W.stepOk n₀ ann t with
   | false=>rw[hk]at h;cases h
   | true =>
    rw[hk]at h
    cases hs:PySem.W.stepT (denote tb) p w s t with
    | none=>rw[hs]at h;cases h
    | some r =>
     obtain⟨s₂,t₂⟩:=r
     rw[hs]at h
     rw[PySem.W.stepT_spec hs]
     exact goT_of h
noncomputable def bt (P:Params):PySem.W.BT:=(List.range 11).foldl (fun t i=>t.ins i ((PySem.W.boot_heap P).objs.toList.getD i default)) .nil
theorem bt_is:∀P:Params,PySem.W.absHeap (bt P) 11 (PySem.W.boot_heap P).life=PySem.W.boot_heap P:=by
 intro P;kernel_rfl
theorem left_ofT {p q:Program}{loose:List Str}{Xt:Shared→Bool}{α:Type}{Yf:Shared→α}{Ya:World→α}{N:Nat}(e:PySem.W.opening p=PySem.W.plainProg p.main.scope.names)(hN:Nat.ble 600 N=true)(f:∀s,fenceModules? p s=some s)
  (size:∀w:World,((PySem.W.boot_heap w.params).isNs mainGlobals,(PySem.W.boot_heap w.params).objs.size,(PySem.W.boot_heap w.params).nsMap mainGlobals "__annotations__")=(true,11,some (.ref 6)))
  (run:∀(w:World)(os:OsState),(goT treeTable p w 11 (some (.ref 6)) PySem.W.stepOk PySem.W.stepT denote N ⟨bt w.params,11,(PySem.W.boot_heap w.params).life,#[],PySem.W.boot_drawn,PySem.W.boot_toks,os⟩ (PySem.W.topStub p)).map (fun s=>((PySem.W.staticsOk (importedModules p.main.body) (PySem.W.boot_heap w.params) s.abs.heap&&PySem.W.namesBound p s.abs.heap&&PySem.W.gensDone s.abs&&PySem.W.laidKept (PySem.W.boot_heap w.params) s.abs.heap),PySem.W.openSeen q loose (importedModules p.main.body) Xt true s.abs,Yf s.abs))=some (true,PySem.W.openGood q loose,Ya w)) :
  PySem.W.LeftO p q loose Xt Yf Ya N:=left_of e hN f size fun w os=>by
 obtain⟨s,r1,r2⟩:=Option.map_eq_some_iff.mp (run w os)
 have h:=goT_of r1
 rw[show PySem.W.SharedT.abs ⟨bt w.params,11,(PySem.W.boot_heap w.params).life,#[],PySem.W.boot_drawn,PySem.W.boot_toks,os⟩=(⟨PySem.W.boot_heap w.params,#[],PySem.W.boot_drawn,PySem.W.boot_toks,os⟩:Shared)from congrArg (fun h=>(⟨h,#[],PySem.W.boot_drawn,PySem.W.boot_toks,os⟩:Shared)) (bt_is w.params)]at h
 rw[h]
 exact congrArg some r2
theorem sizeB:∀w:World,((PySem.W.boot_heap w.params).isNs mainGlobals,(PySem.W.boot_heap w.params).objs.size,(PySem.W.boot_heap w.params).nsMap mainGlobals "__annotations__")=(true,11,some (.ref 6)):=by
 intro w;kernel_rfl
theorem runB1:∀(w:World)(os:OsState),(goT PySem.W.Fast.tw14364793385576792824 PySem.Challenge.pw_bitdraws_k41_whole_shares_agree w 11 (some (.ref 6)) PySem.W.Fast.tw6613529449190102663 PySem.W.Fast.tw10156331382660048174 PySem.W.Fast.tw11892475500146522536 4458 ⟨bt w.params,11,(PySem.W.boot_heap w.params).life,#[],PySem.W.boot_drawn,PySem.W.boot_toks,os⟩ (PySem.W.topStub PySem.Challenge.pw_bitdraws_k41_whole_shares_agree)).map (fun s=>(PySem.W.staticsOk (PySem.W.Fast.tw5923862056798008813 PySem.Challenge.pw_bitdraws_k41_whole_shares_agree.main.body) (PySem.W.boot_heap w.params) s.abs.heap&&PySem.W.namesBound PySem.Challenge.pw_bitdraws_k41_whole_shares_agree s.abs.heap&&PySem.W.gensDone s.abs&&PySem.W.laidKept (PySem.W.boot_heap w.params) s.abs.heap))=some true:=by
 intro w os;kernel_rfl
theorem runB2:∀(w:World)(os:OsState),(goT PySem.W.Fast.tw14364793385576792824 PySem.Challenge.pw_bitdraws_k41_whole_shares_agree w 11 (some (.ref 6)) PySem.W.Fast.tw6613529449190102663 PySem.W.Fast.tw10156331382660048174 PySem.W.Fast.tw11892475500146522536 4458 ⟨bt w.params,11,(PySem.W.boot_heap w.params).life,#[],PySem.W.boot_drawn,PySem.W.boot_toks,os⟩ (PySem.W.topStub PySem.Challenge.pw_bitdraws_k41_whole_shares_agree)).map (fun s=>PySem.W.Fast.tw4187177175401517315 qv qL (PySem.W.Fast.tw5923862056798008813 PySem.Challenge.pw_bitdraws_k41_whole_shares_agree.main.body) qX true s.abs)=some (PySem.W.openGood qv qL):=by
 intro w os;kernel_rfl
theorem runB3:∀(w:World)(os:OsState),(goT PySem.W.Fast.tw14364793385576792824 PySem.Challenge.pw_bitdraws_k41_whole_shares_agree w 11 (some (.ref 6)) PySem.W.Fast.tw6613529449190102663 PySem.W.Fast.tw10156331382660048174 PySem.W.Fast.tw11892475500146522536 4458 ⟨bt w.params,11,(PySem.W.boot_heap w.params).life,#[],PySem.W.boot_drawn,PySem.W.boot_toks,os⟩ (PySem.W.topStub PySem.Challenge.pw_bitdraws_k41_whole_shares_agree)).map (fun s=>KA.map s.abs.heap.get?)=some ((KK w.params).map fun p=>some p.2):=by
 intro w os;kernel_rfl
theorem runB:∀(w:World)(os:OsState),(goT PySem.W.Fast.tw14364793385576792824 PySem.Challenge.pw_bitdraws_k41_whole_shares_agree w 11 (some (.ref 6)) PySem.W.Fast.tw6613529449190102663 PySem.W.Fast.tw10156331382660048174 PySem.W.Fast.tw11892475500146522536 4458 ⟨bt w.params,11,(PySem.W.boot_heap w.params).life,#[],PySem.W.boot_drawn,PySem.W.boot_toks,os⟩ (PySem.W.topStub PySem.Challenge.pw_bitdraws_k41_whole_shares_agree)).map (fun s=>((PySem.W.staticsOk (PySem.W.Fast.tw5923862056798008813 PySem.Challenge.pw_bitdraws_k41_whole_shares_agree.main.body) (PySem.W.boot_heap w.params) s.abs.heap&&PySem.W.namesBound PySem.Challenge.pw_bitdraws_k41_whole_shares_agree s.abs.heap&&PySem.W.gensDone s.abs&&PySem.W.laidKept (PySem.W.boot_heap w.params) s.abs.heap),PySem.W.Fast.tw4187177175401517315 qv qL (PySem.W.Fast.tw5923862056798008813 PySem.Challenge.pw_bitdraws_k41_whole_shares_agree.main.body) qX true s.abs,KA.map s.abs.heap.get?))=some (true,PySem.W.openGood qv qL,(KK w.params).map fun p=>some p.2):=fun w os=>both (runB1 w os) (both (runB2 w os) (runB3 w os))
theorem left:PySem.W.LeftO PySem.Challenge.pw_bitdraws_k41_whole_shares_agree qv qL qX (PySem.W.Hook.obs (PySem.W.kHook KK KA KA_is)) (PySem.W.Hook.val (PySem.W.kHook KK KA KA_is)) 4458:=by
 refine left_ofT (by kernel_rfl) (by decide) (fun s=>rfl) sizeB fun w os=>?_
 have h:=runB w os
 rw[←PySem.W.Fast.te5923862056798008813,←PySem.W.Fast.te4187177175401517315,←PySem.W.Fast.te14364793385576792824,←PySem.W.Fast.te6613529449190102663,←PySem.W.Fast.te10156331382660048174,←PySem.W.Fast.te11892475500146522536]at h
 exact h
end Lw
open PySem PySem.W PyProof.Rows
noncomputable abbrev PySem.W.Fast.tw16258565033552284744:PySem.Program:=PySem.Challenge.pw_bitdraws_k41_whole_shares_agree
theorem PySem.W.Fast.te16258565033552284744:PySem.Challenge.pw_bitdraws_k41_whole_shares_agree=PySem.W.Fast.tw16258565033552284744:=rfl
set_option maxRecDepth 100000 in
set_option maxHeartbeats 0 in
theorem PySem.Challenge.cw_bitdraws_k41_whole_shares_agree_holds : PySem.Challenge.rw_bitdraws_k41_whole_shares_agree.Holds := by
 w_on;o_law
 refine holds_open (q:=Lw.qv) (loose:=Lw.qL) (Xt:=Lw.qX) (XP:=XL Lw.qv Lw.qV) (Yf:=Hook.obs (kHook Lw.KK Lw.KA Lw.KA_is)) (Ya:=Hook.val (kHook Lw.KK Lw.KA Lw.KA_is)) (YP:=Hook.says (kHook Lw.KK Lw.KA Lw.KA_is)) (N:=4458) Lw.left (Hook.of _) (Hook.keeps _) (fun s e=>xl_of s (Bool.and_eq_true_iff.mp e).1) XL.keeps (by rfl) (by rfl) (by rfl) (fun s e=>recFacts_of (Bool.and_eq_true_iff.mp e).2) (by rfl) (by assumption) (by decide +kernel) ⟨rfl,rfl,rfl,rfl,rfl,by decide +kernel⟩ ?hw ?hc
 (case hw=>w_witness2)
 k_fill
 refine Lw.walk (l:=PySem.Challenge.rw_bitdraws_k41_whole_shares_agree) rfl rfl (fun w h Y=>PySem.W.kIn_of Y) ?F
 case F =>
  intro w mg fa h KX G hmg
  refine' Lw.all_mk KX G hmg ?a1 ?l1 ?c1 ?k1 ?a2 ?l2 ?c2 ?k2 ?a3 ?l3 ?c3 ?k3 ?a4 ?l4 ?c4 ?k4 ?a5 ?l5 ?c5 ?k5 ?a6 ?l6 ?c6 ?k6 ?a7 ?l7 ?c7 ?k7 ?a8 ?l8 ?c8 ?k8 ?a9 ?l9 ?c9 ?k9 ?a10 ?l10 ?c10 ?k10 ?a11 ?l11 ?c11 ?k11 ?a12 ?l12 ?c12 ?k12 ?a13 ?l13 ?c13 ?k13 ?a14 ?l14 ?c14 ?k14 ?a15 ?l15 ?c15 ?k15 ?a16 ?l16 ?c16 ?k16 ?a17 ?l17 ?c17 ?k17 ?a18 ?l18 ?c18 ?k18 ?a19 ?l19 ?c19 ?k19 ?a20 ?l20 ?c20 ?k20 ?a21 ?l21 ?c21 ?k21 ?a22 ?l22 ?c22 ?k22 ?a23 ?l23 ?c23 ?k23 ?a24 ?l24 ?c24 ?k24 ?a25 ?l25 ?c25 ?k25 ?a26 ?l26 ?c26 ?k26 ?a27 ?l27 ?c27 ?k27 ?a28 ?l28 ?c28 ?k28 ?a29 ?l29 ?c29 ?k29 ?a30 ?l30 ?c30 ?k30 ?z1 ?z2 ?z3 ?z4 ?z5 ?z6 ?z7 ?z8 ?z9 ?z10 ?z11 ?z12 ?z13 ?z14 ?z15 ?v1 ?v2 ?v3 ?v4 ?v5 ?u5 ?ca_Bits ?pg_Bits ?hd_Bits ?po_Bits ?sa_Bits ?mk_Bits ?kc_Bits ?n_Bits_row ?n_Bits_place ?a31 ?i31 ?l31 ?c31 ?k31 ?a32 ?i32 ?l32 ?c32 ?k32 ?a33 ?i33 ?l33 ?c33 ?k33 ?a34 ?i34 ?l34 ?c34 ?k34 ?a35 ?i35 ?l35 ?c35 ?k35 ?xa_E1 ?xl_E1 ?xi_E1 ?xa_E2 ?xl_E2 ?xi_E2 ?xm_E1_E1 ?xm_E1_E2 ?xm_E2_E1 ?xm_E2_E2
  (case a1=>k_is)
  (case l1=>k_is)
  (case c1=>k_is)
  (case k1=>k_is)
  (case a2=>k_is)
  (case l2=>k_is)
  (case c2=>k_is)
  (case k2=>k_is)
  (case a3=>k_is)
  (case l3=>k_is)
  (case c3=>k_is)
  (case k3=>k_is)
  (case a4=>k_is)
  (case l4=>k_is)
  (case c4=>k_is)
  (case k4=>k_is)
  (case a5=>k_is)
  (case l5=>k_is)
  (case c5=>k_is)
  (case k5=>k_is)
  (case a6=>k_is)
  (case l6=>k_is)
  (case c6=>k_is)
  (case k6=>k_is)
  (case a7=>k_is)
  (case l7=>k_is)
  (case c7=>k_is)
  (case k7=>k_is)
  (case a8=>k_is)
  (case l8=>k_is)
  (case c8=>k_is)
  (case k8=>k_is)
  (case a9=>k_is)
  (case l9=>k_is)
  (case c9=>k_is)
  (case k9=>k_is)
  (case a10=>k_is)
  (case l10=>k_is)
  (case c10=>k_is)
  (case k10=>k_is)
  (case a11=>k_is)
  (case l11=>k_is)
  (case c11=>k_is)
  (case k11=>k_is)
  (case a12=>k_is)
  (case l12=>k_is)
  (case c12=>k_is)
  (case k12=>k_is)
  (case a13=>k_is)
  (case l13=>k_is)
  (case c13=>k_is)
  (case k13=>k_is)
  (case a14=>k_is)
  (case l14=>k_is)
  (case c14=>k_is)
  (case k14=>k_is)
  (case a15=>k_is)
  (case l15=>k_is)
  (case c15=>k_is)
  (case k15=>k_is)
  (case a16=>k_is)
  (case l16=>k_is)
  (case c16=>k_is)
  (case k16=>k_is)
  (case a17=>k_is)
  (case l17=>k_is)
  (case c17=>k_is)
  (case k17=>k_is)
  (case a18=>k_is)
  (case l18=>k_is)
  (case c18=>k_is)
  (case k18=>k_is)
  (case a19=>k_is)
  (case l19=>k_is)
  (case c19=>k_is)
  (case k19=>k_is)
  (case a20=>k_is)
  (case l20=>k_is)
  (case c20=>k_is)
  (case k20=>k_is)
  (case a21=>k_is)
  (case l21=>k_is)
  (case c21=>k_is)
  (case k21=>k_is)
  (case a22=>k_is)
  (case l22=>k_is)
  (case c22=>k_is)
  (case k22=>k_is)
  (case a23=>k_is)
  (case l23=>k_is)
  (case c23=>k_is)
  (case k23=>k_is)
  (case a24=>k_is)
  (case l24=>k_is)
  (case c24=>k_is)
  (case k24=>k_is)
  (case a25=>k_is)
  (case l25=>k_is)
  (case c25=>k_is)
  (case k25=>k_is)
  (case a26=>k_is)
  (case l26=>k_is)
  (case c26=>k_is)
  (case k26=>k_is)
  (case a27=>k_is)
  (case l27=>k_is)
  (case c27=>k_is)
  (case k27=>k_is)
  (case a28=>k_is)
  (case l28=>k_is)
  (case c28=>k_is)
  (case k28=>k_is)
  (case a29=>k_is)
  (case l29=>k_is)
  (case c29=>k_is)
  (case k29=>k_is)
  (case a30=>k_is)
  (case l30=>k_is)
  (case c30=>k_is)
  (case k30=>k_is)
  (case z1=>k_is)
  (case z2=>k_is)
  (case z3=>k_is)
  (case z4=>k_is)
  (case z5=>k_is)
  (case z6=>k_is)
  (case z7=>k_is)
  (case z8=>k_is)
  (case z9=>k_is)
  (case z10=>k_is)
  (case z11=>k_is)
  (case z12=>k_is)
  (case z13=>k_is)
  (case z14=>k_is)
  (case z15=>k_is)
  (case v1=>k_is)
  (case v2=>k_is)
  (case v3=>k_is)
  (case v4=>k_is)
  (case v5=>k_is)
  (case u5=>k_is)
  (case ca_Bits=>k_is)
  (case pg_Bits=>k_is)
  (case hd_Bits=>k_is)
  (case po_Bits=>k_is)
  (case sa_Bits=>k_is)
  (case mk_Bits=>k_is)
  (case kc_Bits=>k_is)
  (case n_Bits_row=>k_is)
  (case n_Bits_place=>k_is)
  (case a31=>k_is)
  (case i31=>k_is)
  (case l31=>k_is)
  (case c31=>k_is)
  (case k31=>k_is)
  (case a32=>k_is)
  (case i32=>k_is)
  (case l32=>k_is)
  (case c32=>k_is)
  (case k32=>k_is)
  (case a33=>k_is)
  (case i33=>k_is)
  (case l33=>k_is)
  (case c33=>k_is)
  (case k33=>k_is)
  (case a34=>k_is)
  (case i34=>k_is)
  (case l34=>k_is)
  (case c34=>k_is)
  (case k34=>k_is)
  (case a35=>k_is)
  (case i35=>k_is)
  (case l35=>k_is)
  (case c35=>k_is)
  (case k35=>k_is)
  (case xa_E1=>k_is)
  (case xl_E1=>k_is)
  (case xi_E1=>first|kernel_rfl|rfl|decide +kernel|k_is)
  (case xa_E2=>k_is)
  (case xl_E2=>k_is)
  (case xi_E2=>first|kernel_rfl|rfl|decide +kernel|k_is)
  (case xm_E1_E1=>first|kernel_rfl|rfl|decide +kernel|k_is)
  (case xm_E1_E2=>first|kernel_rfl|rfl|decide +kernel|k_is)
  (case xm_E2_E1=>first|kernel_rfl|rfl|decide +kernel|k_is)
  (case xm_E2_E2=>first|kernel_rfl|rfl|decide +kernel|k_is)
