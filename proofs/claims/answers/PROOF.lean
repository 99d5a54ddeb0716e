import PyProof.Rows.All
import Wide.All
import OpenK.AllK
import Wide.FinOn
import PyProof.EqAt
import PyProof.EqKinds
import PyProof.TupleCall
import Open.SpecLaws
import KE.OsHead
import KE.OsGo
import PyProof.WalksMore
import PyProof.MinMaxWalk
import PyProof.WalkInts
import KE.IntBitsLaws
import PyProof.SetKind
import PyProof.DictKinds
import PyProof.TupleIter
import PyProof.DictWalks
import PyProof.FactsAll.set_1
import PyProof.WalksS
import PyProof.Rows.SetFrom
import PyProof.Rows.SortShell
import PyProof.CollectIter
import PyProof.Rows.SortWalk
import PyProof.P3In
import PySem.Challenge.RW_linechanges_s01_answers
set_option Elab.async false
set_option linter.all false
set_option maxRecDepth 100000
set_option maxHeartbeats 4000000
section
namespace Lc
open Vagraa (Frac frac)
def F (q:Rat):Frac:=⟨q.num,q.den⟩
theorem frac_F (n:Int) (d:Nat):frac n d=F (mkRat n d):=by
 unfold frac F
 by_cases h:d=0
 ·subst h;simp
 ·rw [if_neg h,Rat.num_mkRat,Rat.den_mkRat,if_neg h,if_neg h,Nat.gcd_comm d]
theorem zero_F:Vagraa.zero=F 0:=rfl
theorem add_F (a b:Rat):Vagraa.add (F a) (F b)=F (a+b):=by
 unfold Vagraa.add
 rw [frac_F,Rat.add_def']
 rfl
theorem neg_F (a:Rat):Vagraa.neg (F a)=F (-a):=rfl
theorem sub_F (a b:Rat):Vagraa.sub (F a) (F b)=F (a - b):=by
 unfold Vagraa.sub
 rw [neg_F,add_F,Rat.sub_eq_add_neg]
theorem mul_F (a b:Rat):Vagraa.mul (F a) (F b)=F (a*b):=by
 unfold Vagraa.mul
 rw [frac_F,Rat.mul_def']
 rfl
theorem inv_F (a:Rat):Vagraa.inv (F a)=F a⁻¹:=by
 unfold Vagraa.inv F
 show (if a.num < 0 then (⟨-(a.den:Int),a.num.natAbs⟩:Frac) else if a.num=0 then Vagraa.zero else ⟨a.den,a.num.natAbs⟩)=⟨(a⁻¹).num,(a⁻¹).den⟩
 rw [Rat.num_inv,Rat.den_inv]
 by_cases h:a.num < 0
 ·rw [if_pos h,if_neg (by omega),Int.sign_eq_neg_one_of_neg h]
  congr 1
  omega
 ·by_cases h0:a.num=0
  ·rw [if_neg h,if_pos h0,if_pos h0,h0]
   simp [Vagraa.zero]
  ·rw [if_neg h,if_neg h0,if_neg h0,Int.sign_eq_one_of_pos (by omega)]
   congr 1
   omega
theorem div_F (a b:Rat):Vagraa.div (F a) (F b)=F (a / b):=by
 unfold Vagraa.div
 rw [inv_F,mul_F]
 rfl
theorem isZero_F (a:Rat):Vagraa.isZero (F a)=decide (a=0):=by
 unfold Vagraa.isZero
 show decide (a.num=0)=decide (a=0)
 exact decide_eq_decide.mpr Rat.num_eq_zero
theorem total_num (a b:Rat):(a.num*((b.den / (a.den.gcd b.den):Nat):Int)+b.num*((a.den / (a.den.gcd b.den):Nat):Int)) / ((((a.num*((b.den / (a.den.gcd b.den):Nat):Int)+b.num*((a.den / (a.den.gcd b.den):Nat):Int)).natAbs.gcd (a.den.gcd b.den)):Nat):Int)=(a+b).num ∧
  (a.den / (a.den.gcd b.den))*(b.den / ((a.num*((b.den / (a.den.gcd b.den):Nat):Int)+b.num*((a.den / (a.den.gcd b.den):Nat):Int)).natAbs.gcd (a.den.gcd b.den)))=(a+b).den:=by
 have hg:0 < a.den.gcd b.den:=Nat.gcd_pos_of_pos_left _ a.den_pos
 have aux:=Rat.add.aux a b (g:=a.den.gcd b.den) rfl rfl rfl
 simp only at aux
 generalize hgg:a.den.gcd b.den=g at *
 generalize hbd:b.den / g=bd at *
 generalize had:a.den / g=ad at *
 generalize hn:a.num*(bd:Int)+b.num*(ad:Int)=num at *
 have e1:ad*g=a.den:=by rw [← had];exact Nat.div_mul_cancel (hgg ▸ Nat.gcd_dvd_left _ _)
 have e2:bd*g=b.den:=by rw [← hbd];exact Nat.div_mul_cancel (hgg ▸ Nat.gcd_dvd_right _ _)
 have hnz:ad*b.den≠0:=by
  have h1:0 < ad*g:=by rw [e1];exact a.den_pos
  have h2:0 < ad:=Nat.pos_of_mul_pos_right h1
  exact Nat.ne_of_gt (Nat.mul_pos h2 b.den_pos)
 have key:a+b=mkRat num (ad*b.den):=by
  rw [Rat.add_def',← hn]
  have hgz:g≠0:=Nat.ne_of_gt hg
  rw [← Rat.mkRat_mul_right (n:=a.num*(bd:Int)+b.num*(ad:Int)) (d:=ad*b.den) hgz]
  congr 1
  ·rw [Int.add_mul]
   have q1:(b.den:Int)=(bd:Int)*(g:Int):=by rw [← e2];simp
   have q2:(a.den:Int)=(ad:Int)*(g:Int):=by rw [← e1];simp
   rw [q1,q2,Int.mul_assoc,Int.mul_assoc]
  ·rw [← e1,Nat.mul_assoc,Nat.mul_assoc,Nat.mul_comm g]
 rw [key,Rat.num_mkRat,Rat.den_mkRat,if_neg hnz,if_neg hnz,Nat.gcd_comm (ad*b.den),← aux]
 refine ⟨rfl,?_⟩
 have hd:num.natAbs.gcd g ∣ b.den:=Nat.dvd_trans (Nat.gcd_dvd_right _ _) ⟨bd,by rw [← e2,Nat.mul_comm]⟩
 exact (Nat.mul_div_assoc ad hd).symm
theorem product_num (a b:Rat):a.num / ((a.num.natAbs.gcd b.den:Nat):Int)*(b.num / ((b.num.natAbs.gcd a.den:Nat):Int))=(a*b).num ∧
  a.den / (b.num.natAbs.gcd a.den)*(b.den / (a.num.natAbs.gcd b.den))=(a*b).den:=by
 have e:a*b=Rat.mul a b:=rfl
 rw [e]
 unfold Rat.mul
 simp only [Int.divExact_eq_ediv,Nat.divExact_eq_div]
 exact ⟨trivial,trivial⟩
end Lc
end
section
namespace Lc
def Small (m:Nat) (q:Rat):Prop:=q.num.natAbs < 2 ^ m∧q.den < 2 ^ m
theorem two_pos (m:Nat):0 < 2 ^ m:=Nat.two_pow_pos m
theorem lt_pow_mono {x m n:Nat} (h:x < 2 ^ m) (l:m≤n):x < 2 ^ n:=Nat.lt_of_lt_of_le h (Nat.pow_le_pow_right (by decide) l)
theorem mul_lt_pow {x y m n:Nat} (h:x < 2 ^ m) (k:y < 2 ^ n):x*y < 2 ^ (m+n):=by
 rw [Nat.pow_add]
 have hp:=two_pos n
 have hm:=two_pos m
 calc x*y≤x*2 ^ n:=Nat.mul_le_mul_left _ (Nat.le_of_lt k)
  _ < 2 ^ m*2 ^ n:=Nat.mul_lt_mul_of_pos_right h hp
theorem add_lt_pow {x y m:Nat} (h:x < 2 ^ m) (k:y < 2 ^ m):x+y < 2 ^ (m+1):=by
 rw [Nat.pow_succ];omega
theorem natAbs_add_lt {x y:Int} {m:Nat} (h:x.natAbs < 2 ^ m) (k:y.natAbs < 2 ^ m):(x+y).natAbs < 2 ^ (m+1):=by
 have:=add_lt_pow h k
 omega
theorem natAbs_mul_lt {x y:Int} {m n:Nat} (h:x.natAbs < 2 ^ m) (k:y.natAbs < 2 ^ n):(x*y).natAbs < 2 ^ (m+n):=by
 rw [Int.natAbs_mul]
 exact mul_lt_pow h k
theorem Small.mono {m n:Nat} {q:Rat} (h:Small m q) (l:m≤n):Small n q:=⟨lt_pow_mono h.1 l,lt_pow_mono h.2 l⟩
theorem Small.neg {m:Nat} {q:Rat} (h:Small m q):Small m (-q):=by
 refine ⟨?_,h.2⟩
 show (-q.num).natAbs < 2 ^ m
 rw [Int.natAbs_neg]
 exact h.1
theorem Small.zero {m:Nat} (h:1≤m):Small m 0:=⟨two_pos m,(by show 1 < 2 ^ m;exact Nat.one_lt_two_pow (by omega))⟩
theorem Small.one {m:Nat} (h:1≤m):Small m 1:=⟨(by show 1 < 2 ^ m;exact Nat.one_lt_two_pow (by omega)),(by show 1 < 2 ^ m;exact Nat.one_lt_two_pow (by omega))⟩
theorem mkRat_le (n:Int) (d:Nat) (hd:d≠0):(mkRat n d).num.natAbs≤n.natAbs∧(mkRat n d).den≤d:=by
 rw [Rat.num_mkRat,Rat.den_mkRat,if_neg hd,if_neg hd]
 exact ⟨Int.natAbs_ediv_le_natAbs _ _,Nat.div_le_self _ _⟩
theorem Small.mk {m:Nat} {n:Int} {d:Nat} (hd:d≠0) (h1:n.natAbs < 2 ^ m) (h2:d < 2 ^ m):Small m (mkRat n d) :=
 ⟨Nat.lt_of_le_of_lt (mkRat_le n d hd).1 h1,Nat.lt_of_le_of_lt (mkRat_le n d hd).2 h2⟩
theorem Small.add {m n:Nat} {a b:Rat} (ha:Small m a) (hb:Small n b):Small (m+n+1) (a+b):=by
 rw [Rat.add_def']
 refine Small.mk (Nat.ne_of_gt (Nat.mul_pos a.den_pos b.den_pos)) ?_ (lt_pow_mono (mul_lt_pow ha.2 hb.2) (by omega))
 refine natAbs_add_lt ?_ ?_
 ·exact natAbs_mul_lt ha.1 (by show ((b.den:Nat):Int).natAbs < _;rw [Int.natAbs_natCast];exact hb.2)
 ·rw [Nat.add_comm m n]
  exact natAbs_mul_lt hb.1 (by show ((a.den:Nat):Int).natAbs < _;rw [Int.natAbs_natCast];exact ha.2)
theorem Small.sub {m n:Nat} {a b:Rat} (ha:Small m a) (hb:Small n b):Small (m+n+1) (a - b):=by
 rw [Rat.sub_eq_add_neg]
 exact ha.add hb.neg
theorem Small.mul {m n:Nat} {a b:Rat} (ha:Small m a) (hb:Small n b):Small (m+n) (a*b):=by
 rw [Rat.mul_def']
 exact Small.mk (Nat.ne_of_gt (Nat.mul_pos a.den_pos b.den_pos)) (natAbs_mul_lt ha.1 hb.1) (mul_lt_pow ha.2 hb.2)
theorem Small.inv {m:Nat} {a:Rat} (ha:Small m a) (hm:1≤m):Small m a⁻¹:=by
 by_cases h:a=0
 ·subst h
  rw [Rat.inv_zero]
  exact Small.zero hm
 ·have hz:a.num≠0:=fun e=>h (Rat.num_eq_zero.mp e)
  refine ⟨?_,?_⟩
  ·rw [Rat.num_inv,Int.natAbs_mul,Int.natAbs_sign_of_ne_zero hz]
   simpa using ha.2
  ·rw [Rat.den_inv,if_neg hz]
   exact ha.1
theorem Small.div {m n:Nat} {a b:Rat} (ha:Small m a) (hb:Small n b) (hn:1≤n):Small (m+n) (a / b):=by
 rw [Rat.div_def]
 exact ha.mul (hb.inv hn)
def Ov (N B:Nat) (x:Rat):Prop:=∃ z:Int,z.natAbs < 2 ^ B∧x*((N:Nat):Rat)=(z:Rat)
theorem mul_den (q:Rat):q*((q.den:Nat):Rat)=(q.num:Rat):=by
 have hd:((q.den:Nat):Rat)≠0:=by
  intro e
  exact q.den_nz (Rat.natCast_eq_zero_iff.mp e)
 have h:q=(q.num:Rat) / ((q.den:Nat):Rat):=by
  rw [← Rat.mkRat_eq_div,Rat.mkRat_self]
 calc q*((q.den:Nat):Rat)=(q.num:Rat) / ((q.den:Nat):Rat)*((q.den:Nat):Rat):=by rw [← h]
  _=(q.num:Rat):=Rat.div_mul_cancel hd
theorem Ov.zero (N B:Nat):Ov N B 0:=⟨0,two_pos B,by rw [Rat.zero_mul];rfl⟩
theorem Ov.up {N B M m:Nat} {x:Rat} (h:Ov N B x) (hM:M < 2 ^ m):Ov (N*M) (B+m) x:=by
 obtain ⟨z,hz,e⟩:=h
 refine ⟨z*(M:Nat),natAbs_mul_lt hz (by rw [Int.natAbs_natCast];exact hM),?_⟩
 rw [Rat.natCast_mul,← Rat.mul_assoc,e,Rat.intCast_mul]
 rfl
theorem Ov.more {N B C:Nat} {x:Rat} (h:Ov N B x) (l:B≤C):Ov N C x:=by
 obtain ⟨z,hz,e⟩:=h
 exact ⟨z,lt_pow_mono hz l,e⟩
theorem Ov.neg {N B:Nat} {x:Rat} (h:Ov N B x):Ov N B (-x):=by
 obtain ⟨z,hz,e⟩:=h
 exact ⟨-z,by rw [Int.natAbs_neg];exact hz,by rw [Rat.neg_mul,e,Rat.intCast_neg]⟩
theorem Ov.add {N B:Nat} {x y:Rat} (h:Ov N B x) (k:Ov N B y):Ov N (B+1) (x+y):=by
 obtain ⟨z,hz,e⟩:=h
 obtain ⟨u,hu,f⟩:=k
 exact ⟨z+u,natAbs_add_lt hz hu,by rw [Rat.add_mul,e,f,Rat.intCast_add]⟩
theorem Ov.sub {N B:Nat} {x y:Rat} (h:Ov N B x) (k:Ov N B y):Ov N (B+1) (x - y):=by
 rw [Rat.sub_eq_add_neg]
 exact h.add k.neg
theorem Ov.mul {N B M C:Nat} {x y:Rat} (h:Ov N B x) (k:Ov M C y):Ov (N*M) (B+C) (x*y):=by
 obtain ⟨z,hz,e⟩:=h
 obtain ⟨u,hu,f⟩:=k
 refine ⟨z*u,natAbs_mul_lt hz hu,?_⟩
 rw [Rat.intCast_mul,← e,← f,Rat.natCast_mul]
 grind
theorem Ov.self {m:Nat} {q:Rat} (h:q.num.natAbs < 2 ^ m):Ov q.den m q:=⟨q.num,h,mul_den q⟩
theorem Ov.small {N B:Nat} {x:Rat} (hN:0 < N) (h:Ov N B x):x.num.natAbs < 2 ^ B∧x.den≤N:=by
 obtain ⟨z,hz,e⟩:=h
 have e1:x.num*(N:Int)=z*(x.den:Int):=by
  have q:(x.num:Rat)*((N:Nat):Rat)=(z:Rat)*((x.den:Nat):Rat):=by
   rw [← mul_den x,← e]
   grind
  have:((x.num*(N:Int):Int):Rat)=((z*(x.den:Int):Int):Rat):=by
   rw [Rat.intCast_mul,Rat.intCast_mul]
   exact q
  exact Rat.intCast_inj.mp this
 have e2:x.num.natAbs*N=z.natAbs*x.den:=by
  have:=congrArg Int.natAbs e1
  rw [Int.natAbs_mul,Int.natAbs_mul,Int.natAbs_natCast,Int.natAbs_natCast] at this
  exact this
 have d1:x.den ∣ x.num.natAbs*N:=⟨z.natAbs,by rw [e2,Nat.mul_comm]⟩
 have d2:x.den ∣ N:=(Nat.Coprime.dvd_of_dvd_mul_left (Nat.Coprime.symm x.reduced) d1)
 obtain ⟨k,hk⟩:=d2
 have kp:0 < k:=by
  rcases Nat.eq_zero_or_pos k with h0 | h0
  ·rw [h0,Nat.mul_zero] at hk;omega
  ·exact h0
 refine ⟨?_,Nat.le_of_dvd hN ⟨k,hk⟩⟩
 have e3:x.num.natAbs*k=z.natAbs:=by
  have:x.den*(x.num.natAbs*k)=x.den*z.natAbs:=by
   rw [Nat.mul_comm x.den z.natAbs,← e2,hk]
   grind
  exact Nat.eq_of_mul_eq_mul_left x.den_pos this
 have:x.num.natAbs≤z.natAbs:=by
  rw [← e3]
  exact Nat.le_mul_of_pos_right _ kp
 omega
end Lc
end
section
namespace Lc
open Vagraa (Frac frac)
open VagraLine (Line Code Fault at_)
theorem bits_lt (n:Nat):n < 2 ^ Vagraa.bits n:=by
 unfold Vagraa.bits
 by_cases h:n=0
 ·rw [if_pos h,h];decide
 ·rw [if_neg h]
  exact Nat.lt_log2_self
theorem weight_small {q:Rat} {m:Nat} (h:Vagraa.weight (F q)≤m):Small m q:=by
 have h1:=bits_lt q.num.natAbs
 have h2:=bits_lt q.den
 have h3:Vagraa.bits q.num.natAbs+Vagraa.bits q.den≤m:=h
 exact ⟨lt_pow_mono h1 (by omega),lt_pow_mono h2 (by omega)⟩
def at0 (vs:List Rat) (i:Nat):Rat:=vs.getD i 0
def QF (f:Frac):Rat:=mkRat f.num f.den
theorem QF_F (q:Rat):QF (F q)=q:=Rat.mkRat_self q
theorem at_F (vs:List Rat) (i:Nat):at_ (vs.map F) i=F (at0 vs i):=by
 unfold at_ at0
 rw [List.getD_eq_getElem?_getD,List.getD_eq_getElem?_getD,List.getElem?_map]
 cases vs[i]? <;> rfl
theorem at0_all {P:Rat→Prop} {vs:List Rat} (h:∀ v∈vs,P v) (h0:P 0) (i:Nat):P (at0 vs i):=by
 unfold at0
 rw [List.getD_eq_getElem?_getD]
 cases e:vs[i]? with
 | none=>exact h0
 | some v=>exact h v (List.mem_of_getElem? e)
theorem at0_some {vs:List Rat} {i:Nat} {q:Rat} (h:vs[i]?=some q):at0 vs i=q:=by
 unfold at0
 rw [List.getD_eq_getElem?_getD,h]
 rfl
def GoodC (c:Code):Prop:=∀ a,Line.num a∈c→F (QF a)=a
def valueQ (inputs vs:List Rat):Line→Option Rat
 | .input k=>some (at0 inputs k)
 | .num a=>some (QF a)
 | .add i j=>some (at0 vs i+at0 vs j)
 | .sub i j=>some (at0 vs i - at0 vs j)
 | .mul i j=>some (at0 vs i*at0 vs j)
 | .div i j=>if at0 vs j=0 then none else some (at0 vs i / at0 vs j)
 | .neg i=>some (-(at0 vs i))
theorem value_F (inputs vs:List Rat) (l:Line) (hg:∀ a,l=Line.num a→F (QF a)=a):Line.value (inputs.map F) (vs.map F) l=(valueQ inputs vs l).map F:=by
 cases l with
 | input k=>simp only [Line.value,valueQ,at_F,Option.map_some]
 | num a=>simp only [Line.value,valueQ,Option.map_some];rw [hg a rfl]
 | add i j=>simp only [Line.value,valueQ,at_F,add_F,Option.map_some]
 | sub i j=>simp only [Line.value,valueQ,at_F,sub_F,Option.map_some]
 | mul i j=>simp only [Line.value,valueQ,at_F,mul_F,Option.map_some]
 | div i j =>
  simp only [Line.value,valueQ,at_F,div_F,isZero_F]
  by_cases h:at0 vs j=0
  ·simp [h]
  ·simp [h]
 | neg i=>simp only [Line.value,valueQ,at_F,neg_F,Option.map_some]
def wt (q:Rat):Nat:=Vagraa.weight (F q)
def runQ (inputs:List Rat):List Rat→Code→List Rat × Option Fault
 | vs,[]=>(vs,none)
 | vs,l::r=>match valueQ inputs vs l with
  | none=>(vs,some ⟨vs.length,1⟩)
  | some a=>if 200 < wt a then (vs,some ⟨vs.length,2⟩) else runQ inputs (vs++[a]) r
def asRun (x:List Rat × Option Fault):Except Fault (List Frac):=match x.2 with
 | none=>.ok (x.1.map F)
 | some e=>.error e
theorem run_F (inputs:List Rat):∀ (c:Code) (vs:List Rat),GoodC c→VagraLine.runFrom (some 200) (inputs.map F) (vs.map F) c=asRun (runQ inputs vs c)
 | [],vs,_=>rfl
 | l::r,vs,hg=>by
  unfold VagraLine.runFrom runQ
  rw [value_F inputs vs l (fun a e=>hg a (e ▸ List.mem_cons_self ..))]
  cases e:valueQ inputs vs l with
  | none =>
   show Except.error _=_
   rw [List.length_map]
   rfl
  | some a =>
   show (if decide (200 < wt a)=true then Except.error (⟨(vs.map F).length,2⟩:Fault) else VagraLine.runFrom (some 200) (inputs.map F) (vs.map F++[F a]) r)=_
   rw [List.length_map]
   by_cases h:200 < wt a
   ·rw [if_pos (decide_eq_true h)]
    show _=asRun (if 200 < wt a then (vs,some ⟨vs.length,2⟩) else runQ inputs (vs++[a]) r)
    rw [if_pos h]
    rfl
   ·rw [if_neg (by rw [decide_eq_false h];decide)]
    show _=asRun (if 200 < wt a then (vs,some ⟨vs.length,2⟩) else runQ inputs (vs++[a]) r)
    rw [if_neg h,← run_F inputs r (vs++[a]) (fun b hb=>hg b (List.mem_cons_of_mem _ hb)),List.map_append]
    rfl
theorem runQ_small (inputs:List Rat):∀ (c:Code) (vs:List Rat),(∀ v∈vs,wt v≤200)→∀ v∈(runQ inputs vs c).1,wt v≤200
 | [],vs,h=>h
 | l::r,vs,h=>by
  unfold runQ
  cases e:valueQ inputs vs l with
  | none=>exact h
  | some a =>
   show ∀ v∈(if 200 < wt a then (vs,some ⟨vs.length,2⟩) else runQ inputs (vs++[a]) r).1,_
   by_cases hw:200 < wt a
   ·rw [if_pos hw];exact h
   ·rw [if_neg hw]
    refine runQ_small inputs r (vs++[a]) fun v hv=>?_
    rcases List.mem_append.mp hv with hv | hv
    ·exact h v hv
    ·have:v=a:=by simpa using hv
     subst this
     omega
theorem runQ_length (inputs:List Rat):∀ (c:Code) (vs:List Rat),(runQ inputs vs c).2=none→(runQ inputs vs c).1.length=vs.length+c.length
 | [],vs,_=>rfl
 | l::r,vs,h=>by
  unfold runQ at h ⊢
  cases e:valueQ inputs vs l with
  | none=>rw [e] at h;cases h
  | some a =>
   rw [e] at h
   change (if 200 < wt a then (vs,some (⟨vs.length,2⟩:Fault)) else runQ inputs (vs++[a]) r).2=none at h
   show (if 200 < wt a then (vs,some (⟨vs.length,2⟩:Fault)) else runQ inputs (vs++[a]) r).1.length=_
   by_cases hw:200 < wt a
   ·rw [if_pos hw] at h;cases h
   ·rw [if_neg hw] at h ⊢
    rw [runQ_length inputs r (vs++[a]) h,List.length_append,List.length_cons]
    simp only [List.length_nil,List.length_cons]
    omega
def changeQ (dir vs ds:List Rat) (v:Rat):Line→Rat
 | .input k=>at0 dir k
 | .num _=>0
 | .add i j=>at0 ds i+at0 ds j
 | .sub i j=>at0 ds i - at0 ds j
 | .mul i j=>at0 ds i*at0 vs j+at0 vs i*at0 ds j
 | .div i j=>(at0 ds i - v*at0 ds j) / at0 vs j
 | .neg i=>-(at0 ds i)
theorem change_F (dir vs ds:List Rat) (v:Rat) (l:Line):Vagrae.Line.change (dir.map F) (vs.map F) (ds.map F) (F v) l=F (changeQ dir vs ds v l):=by
 cases l <;> simp only [Vagrae.Line.change,changeQ,at_F,add_F,sub_F,mul_F,div_F,neg_F,zero_F]
def changesQ (dir vs:List Rat):List Rat→Code→List Rat
 | ds,[]=>ds
 | ds,l::r=>changesQ dir vs (ds++[changeQ dir vs ds (at0 vs ds.length) l]) r
theorem changes_F (dir vs:List Rat):∀ (c:Code) (ds:List Rat),Vagrae.changesFrom (dir.map F) (vs.map F) (ds.map F) c=(changesQ dir vs ds c).map F
 | [],_=>rfl
 | l::r,ds=>by
  unfold Vagrae.changesFrom changesQ
  rw [List.length_map,at_F,change_F,← changes_F dir vs r,List.map_append]
  rfl
theorem changesQ_length (dir vs:List Rat):∀ (c:Code) (ds:List Rat),(changesQ dir vs ds c).length=ds.length+c.length
 | [],_=>rfl
 | l::r,ds=>by
  unfold changesQ
  rw [changesQ_length dir vs r,List.length_append,List.length_cons]
  simp only [List.length_nil,List.length_cons]
  omega
end Lc
end
section
namespace Lc
open Vagraa (Frac frac)
open VagraLine (Line Code Fault at_)
def sumQ (l:List Rat):Rat:=l.foldl (·+·) 0
theorem foldl_F:∀ (l:List Rat) (a:Rat),(l.map F).foldl Vagraa.add (F a)=F (l.foldl (·+·) a)
 | [],_=>rfl
 | x::l,a=>by
  rw [List.map_cons,List.foldl_cons,add_F,foldl_F l,List.foldl_cons]
theorem sum_F (l:List Rat):Vagrae.sum (l.map F)=F (sumQ l):=foldl_F l 0
theorem foldl_shift:∀ (l:List Rat) (a:Rat),l.foldl (·+·) a=a+l.foldl (·+·) 0
 | [],a=>(Rat.add_zero a).symm
 | x::l,a=>by
  rw [List.foldl_cons,List.foldl_cons,foldl_shift l (a+x),foldl_shift l (0+x)]
  grind
theorem sumQ_cons (x:Rat) (l:List Rat):sumQ (x::l)=x+sumQ l:=by
 unfold sumQ
 rw [List.foldl_cons,foldl_shift]
 grind
theorem sumQ_nil:sumQ []=0:=rfl
theorem sumQ_mul (c:Rat):∀ l:List Rat,sumQ l*c=sumQ (l.map (·*c))
 | []=>by rw [List.map_nil,sumQ_nil,Rat.zero_mul]
 | x::l=>by
  rw [List.map_cons,sumQ_cons,sumQ_cons,← sumQ_mul c l,Rat.add_mul]
theorem sumQ_neg:∀ l:List Rat,-(sumQ l)=sumQ (l.map (- ·))
 | []=>by rw [List.map_nil,sumQ_nil];rfl
 | x::l=>by
  rw [List.map_cons,sumQ_cons,sumQ_cons,← sumQ_neg l,Rat.neg_add]
theorem sumQ_snoc (x:Rat) (l:List Rat):sumQ (l++[x])=sumQ l+x:=by
 unfold sumQ
 rw [List.foldl_append]
 rfl
def mulCoefQ (a b:List Rat) (k:Nat):Rat:=sumQ ((List.range (k+1)).map fun i=>at0 a i*at0 b (k - i))
theorem coef_F (s:List Rat) (k:Nat):Vagrae.coef (s.map F) k=F (at0 s k):=at_F s k
theorem mulCoef_F (a b:List Rat) (k:Nat):Vagrae.mulCoef (a.map F) (b.map F) k=F (mulCoefQ a b k):=by
 unfold Vagrae.mulCoef mulCoefQ
 rw [← sum_F,List.map_map]
 congr 1
 refine List.map_congr_left fun i _=>?_
 rw [coef_F,coef_F,mul_F]
 rfl
def divCoefQ (a b q:List Rat):Rat:=(at0 a q.length - sumQ ((List.range q.length).map fun i=>at0 q i*at0 b (q.length - i))) / at0 b 0
def divFromQ (a b:List Rat):Nat→List Rat→List Rat
 | 0,q=>q
 | f+1,q=>divFromQ a b f (q++[divCoefQ a b q])
theorem divFrom_F (a b:List Rat):∀ (n:Nat) (q:List Rat),Vagrae.divFrom (a.map F) (b.map F) n (q.map F)=(divFromQ a b n q).map F
 | 0,_=>rfl
 | n+1,q=>by
  unfold Vagrae.divFrom divFromQ
  rw [← divFrom_F a b n,List.map_append]
  congr 2
  show [_]=[F (divCoefQ a b q)]
  congr 1
  unfold divCoefQ
  rw [List.length_map,coef_F,coef_F,← div_F,← sub_F,← sum_F,List.map_map]
  congr 3
  refine List.map_congr_left fun i _=>?_
  rw [coef_F,coef_F,mul_F]
  rfl
def sAt (ss:List (List Rat)) (i:Nat):List Rat:=ss.getD i []
theorem sAt_F (ss:List (List Rat)) (i:Nat):Vagrae.seriesAt (ss.map (·.map F)) i=(sAt ss i).map F:=by
 unfold Vagrae.seriesAt sAt
 rw [List.getD_eq_getElem?_getD,List.getD_eq_getElem?_getD,List.getElem?_map]
 cases ss[i]? <;> rfl
def seriesQ (n:Nat) (point dir:List Rat) (ss:List (List Rat)):Line→List Rat
 | .input k=>(List.range n).map fun i=>if i=0 then at0 point k else if i=1 then at0 dir k else 0
 | .num a=>(List.range n).map fun i=>if i=0 then QF a else 0
 | .add i j=>(List.range n).map fun k=>at0 (sAt ss i) k+at0 (sAt ss j) k
 | .sub i j=>(List.range n).map fun k=>at0 (sAt ss i) k - at0 (sAt ss j) k
 | .mul i j=>(List.range n).map (mulCoefQ (sAt ss i) (sAt ss j))
 | .div i j=>divFromQ (sAt ss i) (sAt ss j) n []
 | .neg i=>(List.range n).map fun k=>-(at0 (sAt ss i) k)
theorem series_F (n:Nat) (point dir:List Rat) (ss:List (List Rat)) (l:Line) (hg:∀ a,l=Line.num a→F (QF a)=a) :
  Vagrae.Line.series n (point.map F) (dir.map F) (ss.map (·.map F)) l=(seriesQ n point dir ss l).map F:=by
 cases l with
 | input k =>
  simp only [Vagrae.Line.series,seriesQ,List.map_map]
  refine List.map_congr_left fun i _=>?_
  show (if i=0 then _ else if i=1 then _ else _)=F (if i=0 then _ else if i=1 then _ else _)
  rw [at_F,at_F,zero_F]
  by_cases h0:i=0
  ·rw [if_pos h0,if_pos h0]
  ·rw [if_neg h0,if_neg h0]
   by_cases h1:i=1
   ·rw [if_pos h1,if_pos h1]
   ·rw [if_neg h1,if_neg h1]
 | num a =>
  simp only [Vagrae.Line.series,seriesQ,List.map_map]
  refine List.map_congr_left fun i _=>?_
  show (if i=0 then _ else _)=F (if i=0 then _ else _)
  by_cases h0:i=0
  ·rw [if_pos h0,if_pos h0,hg a rfl]
  ·rw [if_neg h0,if_neg h0];rfl
 | add i j =>
  simp only [Vagrae.Line.series,seriesQ,List.map_map]
  refine List.map_congr_left fun k _=>?_
  rw [sAt_F,sAt_F,coef_F,coef_F,add_F];rfl
 | sub i j =>
  simp only [Vagrae.Line.series,seriesQ,List.map_map]
  refine List.map_congr_left fun k _=>?_
  rw [sAt_F,sAt_F,coef_F,coef_F,sub_F];rfl
 | neg i =>
  simp only [Vagrae.Line.series,seriesQ,List.map_map]
  refine List.map_congr_left fun k _=>?_
  rw [sAt_F,coef_F,neg_F];rfl
 | mul i j =>
  simp only [Vagrae.Line.series,seriesQ,Vagrae.mulSeries,List.map_map]
  refine List.map_congr_left fun k _=>?_
  rw [sAt_F,sAt_F,mulCoef_F];rfl
 | div i j =>
  simp only [Vagrae.Line.series,seriesQ,Vagrae.divSeries]
  rw [sAt_F,sAt_F,← divFrom_F];rfl
def allSeriesQ (n:Nat) (point dir:List Rat):List (List Rat)→Code→List (List Rat)
 | ss,[]=>ss
 | ss,l::r=>allSeriesQ n point dir (ss++[seriesQ n point dir ss l]) r
theorem allSeries_F (n:Nat) (point dir:List Rat):∀ (c:Code) (ss:List (List Rat)),GoodC c →
  Vagrae.allSeriesFrom n (point.map F) (dir.map F) (ss.map (·.map F)) c=(allSeriesQ n point dir ss c).map (·.map F)
 | [],_,_=>rfl
 | l::r,ss,hg=>by
  unfold Vagrae.allSeriesFrom allSeriesQ
  rw [series_F n point dir ss l (fun a e=>hg a (e ▸ List.mem_cons_self ..)),← allSeries_F n point dir r _ (fun b hb=>hg b (List.mem_cons_of_mem _ hb)),List.map_append]
  rfl
theorem divFromQ_length (a b:List Rat):∀ (n:Nat) (q:List Rat),(divFromQ a b n q).length=q.length+n
 | 0,_=>rfl
 | n+1,q=>by
  unfold divFromQ
  rw [divFromQ_length a b n,List.length_append,List.length_cons,List.length_nil]
  omega
theorem seriesQ_length (n:Nat) (point dir:List Rat) (ss:List (List Rat)) (l:Line):(seriesQ n point dir ss l).length=n:=by
 cases l <;> simp [seriesQ,divFromQ_length]
theorem divFromQ_snoc (a b:List Rat):∀ (n:Nat) (q:List Rat),divFromQ a b (n+1) q=divFromQ a b n q++[divCoefQ a b (divFromQ a b n q)]
 | 0,_=>rfl
 | n+1,q=>by
  show divFromQ a b (n+1) (q++[divCoefQ a b q])=_
  rw [divFromQ_snoc a b n]
  rfl
theorem at0_append_left {l:List Rat} {x:Rat} {i:Nat} (h:i < l.length):at0 (l++[x]) i=at0 l i:=by
 unfold at0
 rw [List.getD_eq_getElem?_getD,List.getD_eq_getElem?_getD,List.getElem?_append_left h]
theorem at0_append_right {l:List Rat} {x:Rat}:at0 (l++[x]) l.length=x:=by
 unfold at0
 rw [List.getD_eq_getElem?_getD,List.getElem?_concat_length]
 rfl
theorem at0_range {n:Nat} {f:Nat→Rat} {i:Nat} (h:i < n):at0 ((List.range n).map f) i=f i:=by
 refine at0_some ?_
 rw [List.getElem?_map,List.getElem?_range h]
 rfl
theorem at0_out {l:List Rat} {i:Nat} (h:l.length≤i):at0 l i=0:=by
 unfold at0
 rw [List.getD_eq_getElem?_getD,List.getElem?_eq_none h]
 rfl
theorem series_head {n:Nat} {point dir:List Rat} {ss:List (List Rat)} {l:Line} {a:Rat} (hn:1≤n) {vs:List Rat} (hv:∀ i,at0 (sAt ss i) 0=at0 vs i) (h:valueQ point vs l=some a) :
  at0 (seriesQ n point dir ss l) 0=a:=by
 cases l with
 | input k=>rw [seriesQ,at0_range (by omega)];exact Option.some.inj h
 | num b=>rw [seriesQ,at0_range (by omega)];exact Option.some.inj h
 | add i j=>rw [seriesQ,at0_range (by omega),hv,hv];exact Option.some.inj h
 | sub i j=>rw [seriesQ,at0_range (by omega),hv,hv];exact Option.some.inj h
 | neg i=>rw [seriesQ,at0_range (by omega),hv];exact Option.some.inj h
 | mul i j =>
  rw [seriesQ,at0_range (by omega),mulCoefQ]
  show sumQ [at0 (sAt ss i) 0*at0 (sAt ss j) 0]=a
  rw [sumQ_cons,sumQ_nil,Rat.add_zero,hv,hv]
  exact Option.some.inj h
 | div i j =>
  have h2:¬ at0 vs j=0∧at0 vs i / at0 vs j=a:=by
   change (if at0 vs j=0 then none else some (at0 vs i / at0 vs j))=some a at h
   by_cases hz:at0 vs j=0
   ·rw [if_pos hz] at h;cases h
   ·rw [if_neg hz] at h;exact ⟨hz,Option.some.inj h⟩
  have gen:∀ m,at0 (divFromQ (sAt ss i) (sAt ss j) (m+1) []) 0=at0 (sAt ss i) 0 / at0 (sAt ss j) 0:=by
   intro m
   induction m with
   | zero =>
    show at0 [divCoefQ (sAt ss i) (sAt ss j) []] 0=_
    show divCoefQ (sAt ss i) (sAt ss j) []=_
    unfold divCoefQ
    show (at0 (sAt ss i) 0 - sumQ []) / _=_
    rw [sumQ_nil,Rat.sub_eq_add_neg,Rat.neg_zero,Rat.add_zero]
   | succ m ih =>
    rw [divFromQ_snoc,at0_append_left (by rw [divFromQ_length];simp),ih]
  obtain ⟨m,rfl⟩:∃ m,n=m+1:=⟨n - 1,by omega⟩
  show at0 (divFromQ (sAt ss i) (sAt ss j) (m+1) []) 0=a
  rw [gen,hv,hv]
  exact h2.2
theorem ov_sum {N B:Nat}:∀ l:List Rat,(∀ x∈l,Ov N B x)→∃ z:Int,z.natAbs+l.length≤l.length*2 ^ B∧sumQ l*((N:Nat):Rat)=(z:Rat)
 | [],_=>⟨0,by simp,by rw [sumQ_nil,Rat.zero_mul];rfl⟩
 | x::l,h=>by
  obtain ⟨z,hz,e⟩:=ov_sum l fun y hy=>h y (List.mem_cons_of_mem _ hy)
  obtain ⟨u,hu,f⟩:=h x (List.mem_cons_self ..)
  refine ⟨u+z,?_,by rw [sumQ_cons,Rat.add_mul,e,f,Rat.intCast_add]⟩
  rw [List.length_cons,Nat.succ_mul]
  omega
theorem Ov.sum {N B:Nat} {l:List Rat} (h:∀ x∈l,Ov N B x) (hl:l.length≤8):Ov N (B+3) (sumQ l):=by
 obtain ⟨z,hz,e⟩:=ov_sum l h
 refine ⟨z,?_,e⟩
 have hp:=two_pos B
 have:l.length*2 ^ B≤8*2 ^ B:=Nat.mul_le_mul_right _ hl
 have e8:2 ^ (B+3)=8*2 ^ B:=by rw [Nat.pow_add];omega
 rw [e8]
 rcases Nat.eq_zero_or_pos l.length with h0 | h0
 ·rw [h0] at hz
  omega
 ·omega
def SOv (N B:Nat) (s:List Rat):Prop:=∀ r,1≤r→Ov (N ^ r) (B*r) (at0 s r)
theorem SOv.nil (N B:Nat):SOv N B []:=fun r _=>by
 rw [at0_out (by simp)]
 exact Ov.zero _ _
theorem pow_lt_pow2 {M m:Nat} (h:M < 2 ^ m):∀ r,1≤r→M ^ r < 2 ^ (m*r)
 | 0,h=>by omega
 | 1,_=>by simpa using h
 | r+2,_=>by
  rw [Nat.pow_succ,Nat.mul_succ]
  exact mul_lt_pow (pow_lt_pow2 h (r+1) (by omega)) h
theorem pow_le_pow2 {M m:Nat} (h:M < 2 ^ m):∀ r,M ^ r≤2 ^ (m*r)
 | 0=>by simp
 | r+1=>by
  rw [Nat.pow_succ,Nat.mul_succ,Nat.pow_add]
  exact Nat.mul_le_mul (pow_le_pow2 h r) (Nat.le_of_lt h)
theorem Ov.upLe {N B M m:Nat} {x:Rat} (h:Ov N B x) (hM:M≤2 ^ m):Ov (N*M) (B+m) x:=by
 obtain ⟨z,hz,e⟩:=h
 refine ⟨z*(M:Nat),?_,?_⟩
 ·rw [Int.natAbs_mul,Int.natAbs_natCast,Nat.pow_add]
  calc z.natAbs*M≤z.natAbs*2 ^ m:=Nat.mul_le_mul_left _ hM
   _ < 2 ^ B*2 ^ m:=Nat.mul_lt_mul_of_pos_right hz (two_pos m)
 ·rw [Rat.natCast_mul,← Rat.mul_assoc,e,Rat.intCast_mul]
  rfl
theorem Ov.pow_up {N B M m r:Nat} {x:Rat} (h:Ov (N ^ r) B x) (hM:M < 2 ^ m):Ov ((N*M) ^ r) (B+m*r) x:=by
 rw [Nat.mul_pow]
 exact h.upLe (pow_le_pow2 hM r)
theorem SOv.up {N B M:Nat} {s:List Rat} (h:SOv N B s) (hM:M < 2 ^ 400):SOv (N*M) (B+403) s:=fun r hr =>
 ((h r hr).pow_up hM).more (by rw [Nat.add_mul];omega)
theorem SOv.step {N B n:Nat} {point dir:List Rat} {ss:List (List Rat)} {l:Line} (hn:1≤n) (hn8:n≤8) (hN:0 < N) (hN2:N < 2 ^ B)
  (hs:∀ s∈ss,SOv N B s) (h0:∀ s∈ss,Small 200 (at0 s 0)) (hd:∀ x∈dir,Small 200 x) (hv:Small 200 (at0 (seriesQ n point dir ss l) 0)) :
  ∃ M:Nat,0 < M∧M < 2 ^ 400∧SOv (N*M) (B+403) (seriesQ n point dir ss l):=by
 have os:∀ i,SOv N B (sAt ss i):=fun i=>by
  unfold sAt
  rw [List.getD_eq_getElem?_getD]
  cases e:ss[i]? with
  | none=>exact SOv.nil _ _
  | some s=>exact hs s (List.mem_of_getElem? e)
 have o0:∀ i,Small 200 (at0 (sAt ss i) 0):=fun i=>by
  unfold sAt
  rw [List.getD_eq_getElem?_getD]
  cases e:ss[i]? with
  | none=>exact Small.zero (by decide)
  | some s=>exact h0 s (List.mem_of_getElem? e)
 have sd:∀ i,Small 200 (at0 dir i):=fun i=>at0_all hd (Small.zero (by decide)) i
 have out:∀ r,n≤r→at0 (seriesQ n point dir ss l) r=0:=fun r hr=>at0_out (by rw [seriesQ_length];exact hr)
 have one:∀ t:List Rat,(∀ r,1≤r→r < n→Ov (N ^ r) (B*r+3*r) (at0 t r))→(∀ r,n≤r→at0 t r=0)→∃ M:Nat,0 < M∧M < 2 ^ 400∧SOv (N*M) (B+403) t:=fun t h1 h2=>by
  refine ⟨1,by decide,by decide,fun r hr=>?_⟩
  rw [Nat.mul_one]
  by_cases hrn:r < n
  ·exact (h1 r hr hrn).more (by rw [Nat.add_mul];omega)
  ·rw [h2 r (by omega)]
   exact Ov.zero _ _
 cases l with
 | input k =>
  refine ⟨(at0 dir k).den,Rat.den_pos _,lt_pow_mono (sd k).2 (by decide),fun r hr=>?_⟩
  by_cases hrn:r < n
  ·rw [seriesQ,at0_range hrn,if_neg (by omega)]
   by_cases h1:r=1
   ·subst h1
    rw [if_pos rfl,Nat.pow_one,Nat.mul_comm N]
    have:=(Ov.self (sd k).1).up hN2
    exact this.more (by omega)
   ·rw [if_neg h1]
    exact Ov.zero _ _
  ·rw [out r (by omega)]
   exact Ov.zero _ _
 | num a =>
  refine one _ (fun r hr hrn=>?_) out
  rw [seriesQ,at0_range hrn,if_neg (by omega)]
  exact Ov.zero _ _
 | add i j =>
  refine one _ (fun r hr hrn=>?_) out
  rw [seriesQ,at0_range hrn]
  exact ((os i r hr).add (os j r hr)).more (by omega)
 | sub i j =>
  refine one _ (fun r hr hrn=>?_) out
  rw [seriesQ,at0_range hrn]
  exact ((os i r hr).sub (os j r hr)).more (by omega)
 | neg i =>
  refine one _ (fun r hr hrn=>?_) out
  rw [seriesQ,at0_range hrn]
  exact ((os i r hr).neg).more (by omega)
 | mul i j =>
  refine ⟨(at0 (sAt ss i) 0).den*(at0 (sAt ss j) 0).den,Nat.mul_pos (Rat.den_pos _) (Rat.den_pos _),mul_lt_pow (o0 i).2 (o0 j).2,fun r hr=>?_⟩
  by_cases hrn:r < n
  ·rw [seriesQ,at0_range hrn,mulCoefQ]
   generalize hM:(at0 (sAt ss i) 0).den*(at0 (sAt ss j) 0).den=M
   have hM2:M < 2 ^ 400:=by rw [← hM];exact mul_lt_pow (o0 i).2 (o0 j).2
   have hlast:(N*M) ^ r=N ^ r*M*M ^ (r - 1):=by
    obtain ⟨p,rfl⟩:∃ p,r=p+1:=⟨r - 1,by omega⟩
    rw [Nat.mul_pow,Nat.add_sub_cancel,Nat.pow_succ M,Nat.mul_comm (M ^ p),Nat.mul_assoc]
   have term:∀ x∈(List.range (r+1)).map (fun t=>at0 (sAt ss i) t*at0 (sAt ss j) (r - t)),Ov ((N*M) ^ r) (B*r+400*r) x:=by
    intro x hx
    obtain ⟨t,ht,rfl⟩:=List.mem_map.mp hx
    have ht:t < r+1:=List.mem_range.mp ht
    by_cases t0:t=0
    ·subst t0
     have a1:=(os j r hr).mul (Ov.self (o0 i).1)
     have a2:=(a1.up (o0 j).2)
     rw [Nat.mul_assoc,hM] at a2
     have a3:=a2.upLe (pow_le_pow2 hM2 (r - 1))
     rw [← hlast,Rat.mul_comm] at a3
     rw [Nat.sub_zero]
     exact a3.more (by omega)
    ·by_cases tr:t=r
     ·subst tr
      have a1:=(os i t hr).mul (Ov.self (o0 j).1)
      have a2:=(a1.up (o0 i).2)
      rw [Nat.mul_assoc,Nat.mul_comm (at0 (sAt ss j) 0).den,hM] at a2
      have a3:=a2.upLe (pow_le_pow2 hM2 (t - 1))
      rw [← hlast] at a3
      rw [Nat.sub_self]
      exact a3.more (by omega)
     ·have a1:=(os i t (by omega)).mul (os j (r - t) (by omega))
      rw [← Nat.pow_add,show t+(r - t)=r by omega,← Nat.mul_add,show t+(r - t)=r by omega] at a1
      exact a1.pow_up hM2
   have:=Ov.sum term (by rw [List.length_map,List.length_range];omega)
   exact this.more (by rw [Nat.add_mul];omega)
  ·rw [out r (by omega)]
   exact Ov.zero _ _
 | div i j =>
  generalize hv0:at0 (seriesQ n point dir ss (.div i j)) 0=v at hv
  refine ⟨v.den*(at0 (sAt ss j) 0)⁻¹.den,Nat.mul_pos (Rat.den_pos _) (Rat.den_pos _),mul_lt_pow hv.2 ((o0 j).inv (by decide)).2,?_⟩
  have hi:=(o0 j).inv (by decide)
  generalize hM:v.den*(at0 (sAt ss j) 0)⁻¹.den=M
  have hM2:M < 2 ^ 400:=by rw [← hM];exact mul_lt_pow hv.2 hi.2
  have all:∀ m,1≤m→m≤n→at0 (divFromQ (sAt ss i) (sAt ss j) m []) 0=v∧∀ r,1≤r→r < m→Ov ((N*M) ^ r) ((B+403)*r) (at0 (divFromQ (sAt ss i) (sAt ss j) m []) r):=by
   intro m
   induction m with
   | zero=>intro h;omega
   | succ m ih =>
    intro _ hmn
    by_cases m0:m=0
    ·subst m0
     refine ⟨?_,fun r h1 h2=>by omega⟩
     rw [← hv0]
     show _=at0 (divFromQ (sAt ss i) (sAt ss j) n []) 0
     clear hv0 hv hmn hM ih
     obtain ⟨p,rfl⟩:∃ p,n=p+1:=⟨n - 1,by omega⟩
     clear hn hn8 out one
     induction p with
     | zero=>rfl
     | succ p ihp =>
      rw [divFromQ_snoc _ _ (p+1),at0_append_left (by rw [divFromQ_length];simp)]
      exact ihp
    ·obtain ⟨e0,er⟩:=ih (by omega) (by omega)
     have len:(divFromQ (sAt ss i) (sAt ss j) m []).length=m:=by rw [divFromQ_length];simp
     rw [divFromQ_snoc]
     refine ⟨by rw [at0_append_left (by omega)];exact e0,fun r h1 h2=>?_⟩
     by_cases hrm:r < m
     ·rw [at0_append_left (by omega)]
      exact er r h1 hrm
     ·have hre:r=m:=by omega
      subst hre
      have e:at0 (divFromQ (sAt ss i) (sAt ss j) r []++[divCoefQ (sAt ss i) (sAt ss j) (divFromQ (sAt ss i) (sAt ss j) r [])]) r=divCoefQ (sAt ss i) (sAt ss j) (divFromQ (sAt ss i) (sAt ss j) r []):=by
       have:=at0_append_right (l:=divFromQ (sAt ss i) (sAt ss j) r []) (x:=divCoefQ (sAt ss i) (sAt ss j) (divFromQ (sAt ss i) (sAt ss j) r []))
       rw [len] at this
       exact this
      rw [e,divCoefQ,len,Rat.div_def,Rat.sub_eq_add_neg,sumQ_neg,← sumQ_cons,sumQ_mul]
      have hone:∀ p,1≤p→N ^ p*M*M ^ (p - 1)=(N*M) ^ p:=fun p hp=>by
       obtain ⟨k,rfl⟩:∃ k,p=k+1:=⟨p - 1,by omega⟩
       rw [Nat.mul_pow,Nat.add_sub_cancel,Nat.pow_succ M,Nat.mul_comm (M ^ k),Nat.mul_assoc]
      have b3:(B+403)*r=(B*r+400*r)+3*r:=by rw [Nat.add_mul];omega
      have term:∀ x∈((at0 (sAt ss i) r::((List.range r).map fun t=>at0 (divFromQ (sAt ss i) (sAt ss j) r []) t*at0 (sAt ss j) (r - t)).map (- ·)).map (·*(at0 (sAt ss j) 0)⁻¹)),Ov ((N*M) ^ r) ((B+403)*r - 3) x:=by
       intro x hx
       obtain ⟨y,hy,rfl⟩:=List.mem_map.mp hx
       rcases List.mem_cons.mp hy with rfl | hy
       ·have a1:=((os i r h1).up hv.2).mul (Ov.self hi.1)
        rw [Nat.mul_assoc,hM] at a1
        have a2:=a1.upLe (pow_le_pow2 hM2 (r - 1))
        rw [hone r h1] at a2
        exact a2.more (by omega)
       ·obtain ⟨z,hz,rfl⟩:=List.mem_map.mp hy
        obtain ⟨t,ht,rfl⟩:=List.mem_map.mp hz
        have ht:t < r:=List.mem_range.mp ht
        rw [Rat.neg_mul]
        refine Ov.neg ?_
        by_cases t0:t=0
        ·subst t0
         rw [e0,Nat.sub_zero]
         have a1:=((os j r h1).mul (Ov.self hv.1)).mul (Ov.self hi.1)
         rw [Nat.mul_assoc,hM] at a1
         have a2:=a1.upLe (pow_le_pow2 hM2 (r - 1))
         rw [hone r h1,Rat.mul_comm (at0 (sAt ss j) r)] at a2
         exact a2.more (by omega)
        ·have q1:=er t (by omega) ht
         have a1:=((os j (r - t) (by omega)).up hv.2).mul (Ov.self hi.1)
         rw [Nat.mul_assoc,hM] at a1
         have a2:=a1.upLe (pow_le_pow2 hM2 (r - t - 1))
         rw [hone (r - t) (by omega)] at a2
         have a3:=q1.mul a2
         rw [← Nat.pow_add,show t+(r - t)=r by omega,← Rat.mul_assoc] at a3
         refine a3.more ?_
         have c1:(B+403)*r=(B+403)*t+(B+403)*(r - t):=by rw [← Nat.mul_add,show t+(r - t)=r by omega]
         have c2:(B+403)*(r - t)=B*(r - t)+403*(r - t):=Nat.add_mul _ _ _
         omega
      have:=Ov.sum term (by simp only [List.length_map,List.length_cons,List.length_range];omega)
      exact this.more (by omega)
  intro r hr
  by_cases hrn:r < n
  ·exact (all n hn (Nat.le_refl _)).2 r hr hrn
  ·rw [out r (by omega)]
   exact Ov.zero _ _
structure SBd (ss:List (List Rat)) (vs:List Rat):Prop where
 len:vs.length=ss.length
 head:∀ i,at0 (sAt ss i) 0=at0 vs i
 big:∃ N:Nat,0 < N∧N < 2 ^ (400*ss.length+1)∧∀ s∈ss,SOv N (403*ss.length+1) s
theorem SBd.nil:SBd [] []:=⟨rfl,fun _=>rfl,1,by decide,by decide,fun _ h=>nomatch h⟩
theorem sAt_append_left {ss:List (List Rat)} {t:List Rat} {i:Nat} (h:i < ss.length):sAt (ss++[t]) i=sAt ss i:=by
 unfold sAt
 rw [List.getD_eq_getElem?_getD,List.getD_eq_getElem?_getD,List.getElem?_append_left h]
theorem sAt_append_right {ss:List (List Rat)} {t:List Rat}:sAt (ss++[t]) ss.length=t:=by
 unfold sAt
 rw [List.getD_eq_getElem?_getD,List.getElem?_concat_length]
 rfl
theorem sAt_out {ss:List (List Rat)} {i:Nat} (h:ss.length≤i):sAt ss i=[]:=by
 unfold sAt
 rw [List.getD_eq_getElem?_getD,List.getElem?_eq_none h]
 rfl
theorem SBd.step {n:Nat} {point dir:List Rat} {ss:List (List Rat)} {vs:List Rat} {l:Line} {a:Rat} (h:SBd ss vs) (hn:1≤n) (hn8:n≤8) (hv:∀ v∈vs,wt v≤200) (hd:∀ x∈dir,Small 200 x)
  (ha:valueQ point vs l=some a) (hw:wt a≤200):SBd (ss++[seriesQ n point dir ss l]) (vs++[a]):=by
 obtain ⟨len,head,N,hN,hN2,hs⟩:=h
 have e0:=series_head (dir:=dir) hn head ha
 have h0:∀ s∈ss,Small 200 (at0 s 0):=fun s hs=>by
  obtain ⟨i,hi⟩:=List.getElem?_of_mem hs
  have:sAt ss i=s:=by
   unfold sAt
   rw [List.getD_eq_getElem?_getD,hi]
   rfl
  rw [← this,head i]
  exact at0_all (P:=Small 200) (fun v hv'=>weight_small (hv v hv')) (Small.zero (by decide)) i
 obtain ⟨M,hM,hM2,hm⟩:=SOv.step (N:=N) (B:=403*ss.length+1) (n:=n) (point:=point) (dir:=dir) (ss:=ss) (l:=l) hn hn8 hN (lt_pow_mono hN2 (by omega)) hs h0 hd (by rw [e0];exact weight_small hw)
 refine ⟨by simp [len],fun i=>?_,N*M,Nat.mul_pos hN hM,?_,fun s hs'=>?_⟩
 ·rcases Nat.lt_trichotomy i ss.length with hi | hi | hi
  ·rw [sAt_append_left hi,at0_append_left (by omega),head]
  ·subst hi
   rw [sAt_append_right,← len,at0_append_right,e0]
  ·rw [sAt_out (by rw [List.length_append,List.length_cons,List.length_nil];omega),at0_out (l:=vs++[a]) (by rw [List.length_append,List.length_cons,List.length_nil];omega)]
   rfl
 ·rw [List.length_append,List.length_cons,List.length_nil]
  exact lt_pow_mono (mul_lt_pow hN2 hM2) (by omega)
 ·have eB:403*(ss++[seriesQ n point dir ss l]).length+1=(403*ss.length+1)+403:=by
   rw [List.length_append,List.length_cons,List.length_nil];omega
  rw [eB]
  rcases List.mem_append.mp hs' with hs' | hs'
  ·exact (hs s hs').up hM2
  ·have:s=seriesQ n point dir ss l:=by simpa using hs'
   rw [this]
   exact hm
theorem SBd.small {ss:List (List Rat)} {vs:List Rat} (h:SBd ss vs) (hv:∀ v∈vs,wt v≤200) (hk:ss.length≤80) {n:Nat} (hn:∀ s∈ss,s.length≤n) (hn8:n≤8):∀ i r,Small 226000 (at0 (sAt ss i) r):=by
 obtain ⟨len,head,N,hN,hN2,hs⟩:=h
 intro i r
 by_cases h0:r=0
 ·subst h0
  rw [head]
  exact Small.mono (m:=200) (at0_all (P:=Small 200) (fun v hv'=>weight_small (hv v hv')) (Small.zero (by decide)) i) (by omega)
 ·have hm:SOv N (403*ss.length+1) (sAt ss i)∧(sAt ss i).length≤n:=by
   by_cases hi:i < ss.length
   ·have e:sAt ss i∈ss:=by
     unfold sAt
     rw [List.getD_eq_getElem?_getD,List.getElem?_eq_getElem hi]
     exact List.getElem_mem hi
    exact ⟨hs _ e,hn _ e⟩
   ·rw [sAt_out (by omega)]
    exact ⟨SOv.nil _ _,Nat.zero_le _⟩
  by_cases hr:r < n
  ·have q:=Ov.small (Nat.pow_pos hN) (hm.1 r (by omega))
   have b1:(403*ss.length+1)*r≤(403*80+1)*7:=Nat.mul_le_mul (by omega) (by omega)
   have b2:(400*ss.length+1)*r≤(403*80+1)*7:=Nat.mul_le_mul (by omega) (by omega)
   exact ⟨lt_pow_mono q.1 (by omega),lt_pow_mono (Nat.lt_of_le_of_lt q.2 (pow_lt_pow2 hN2 r (by omega))) (by omega)⟩
  ·rw [at0_out (by omega)]
   exact Small.zero (by omega)
theorem allSeriesQ_length (n:Nat) (point dir:List Rat):∀ (c:Code) (ss:List (List Rat)),(allSeriesQ n point dir ss c).length=ss.length+c.length
 | [],_=>rfl
 | l::r,ss=>by
  unfold allSeriesQ
  rw [allSeriesQ_length n point dir r,List.length_append,List.length_cons]
  simp only [List.length_nil,List.length_cons]
  omega
end Lc
end
section
namespace Lc
open Vagraa (Frac frac)
open VagraLine (Line Code codeOf well wellFrom)
def beh (k:Int):Nat:=if k=0 then 1 else if k=6 then 1 else 2
def RawOk (r:List Int):Prop :=
 (∃ k,r=[0,k]∧0≤k)∨(∃ n d,r=[1,n,d]∧1≤d)∨(∃ o i j,r=[o,i,j]∧2≤o∧o≤5∧0≤i∧0≤j)∨(∃ i,r=[6,i]∧0≤i)
def lineOf:List Int→Line
 | [0,k]=>.input k.toNat
 | [1,n,d]=>.num (frac n d.toNat)
 | [2,i,j]=>.add i.toNat j.toNat
 | [3,i,j]=>.sub i.toNat j.toNat
 | [4,i,j]=>.mul i.toNat j.toNat
 | [5,i,j]=>.div i.toNat j.toNat
 | [6,i]=>.neg i.toNat
 | _=>.input 0
def formB:List Int→Bool
 | [1,_,d]=>decide (1≤d)
 | _::r=>r.all fun i=>decide (0≤i)
 | []=>false
def readL:Nat→List Int→Option (List (List Int))
 | _,[]=>some []
 | 0,_::_=>none
 | f+1,k::r=>if 0≤k∧k≤6∧beh k≤r.length∧formB (k::r.take (beh k))=true then (readL f (r.drop (beh k))).map fun c=>(k::r.take (beh k))::c else none
theorem readL_F:∀ (f:Nat) (l:List Int),codeOf f l=(readL f l).map fun c=>c.map lineOf
 | f,[]=>by cases f <;> rfl
 | 0,_::_=>rfl
 | f+1,k::r=>by
  have ih:=readL_F f
  by_cases hk:0≤k∧k≤6
  ·have h7:k=0∨k=1∨k=2∨k=3∨k=4∨k=5∨k=6:=by omega
   rcases h7 with rfl | rfl | rfl | rfl | rfl | rfl | rfl
   ·match r with
    | []=>rfl
    | i::s =>
     show (if i < 0 then none else (codeOf f s).map fun c=>.input i.toNat::c)=_
     unfold readL
     by_cases h:i < 0
     ·rw [if_pos h,if_neg (by simp [beh,formB];omega)];rfl
     ·rw [if_neg h,if_pos (by simp [beh,formB];omega),ih]
      show _=((readL f s).map _).map _
      cases readL f s <;> rfl
   ·match r with
    | []=>rfl
    | [_]=>rfl
    | n::d::s =>
     show (if d < 1 then none else (codeOf f s).map fun c=>.num (frac n d.toNat)::c)=_
     unfold readL
     by_cases h:d < 1
     ·rw [if_pos h,if_neg (by simp [beh,formB];omega)];rfl
     ·rw [if_neg h,if_pos (by simp [beh,formB];omega),ih]
      show _=((readL f s).map _).map _
      cases readL f s <;> rfl
   ·match r with
    | []=>rfl
    | [_]=>rfl
    | i::j::s =>
     show (if i < 0∨j < 0 then none else (codeOf f s).map fun c=>.add i.toNat j.toNat::c)=_
     unfold readL
     by_cases h:i < 0∨j < 0
     ·rw [if_pos h,if_neg (by simp [beh,formB];omega)];rfl
     ·rw [if_neg h,if_pos (by simp [beh,formB];omega),ih]
      show _=((readL f s).map _).map _
      cases readL f s <;> rfl
   ·match r with
    | []=>rfl
    | [_]=>rfl
    | i::j::s =>
     show (if i < 0∨j < 0 then none else (codeOf f s).map fun c=>.sub i.toNat j.toNat::c)=_
     unfold readL
     by_cases h:i < 0∨j < 0
     ·rw [if_pos h,if_neg (by simp [beh,formB];omega)];rfl
     ·rw [if_neg h,if_pos (by simp [beh,formB];omega),ih]
      show _=((readL f s).map _).map _
      cases readL f s <;> rfl
   ·match r with
    | []=>rfl
    | [_]=>rfl
    | i::j::s =>
     show (if i < 0∨j < 0 then none else (codeOf f s).map fun c=>.mul i.toNat j.toNat::c)=_
     unfold readL
     by_cases h:i < 0∨j < 0
     ·rw [if_pos h,if_neg (by simp [beh,formB];omega)];rfl
     ·rw [if_neg h,if_pos (by simp [beh,formB];omega),ih]
      show _=((readL f s).map _).map _
      cases readL f s <;> rfl
   ·match r with
    | []=>rfl
    | [_]=>rfl
    | i::j::s =>
     show (if i < 0∨j < 0 then none else (codeOf f s).map fun c=>.div i.toNat j.toNat::c)=_
     unfold readL
     by_cases h:i < 0∨j < 0
     ·rw [if_pos h,if_neg (by simp [beh,formB];omega)];rfl
     ·rw [if_neg h,if_pos (by simp [beh,formB];omega),ih]
      show _=((readL f s).map _).map _
      cases readL f s <;> rfl
   ·match r with
    | []=>rfl
    | i::s =>
     show (if i < 0 then none else (codeOf f s).map fun c=>.neg i.toNat::c)=_
     unfold readL
     by_cases h:i < 0
     ·rw [if_pos h,if_neg (by simp [beh,formB];omega)];rfl
     ·rw [if_neg h,if_pos (by simp [beh,formB];omega),ih]
      show _=((readL f s).map _).map _
      cases readL f s <;> rfl
  ·have e:codeOf (f+1) (k::r)=none:=by
    unfold codeOf
    split <;> first | rfl | (exfalso;apply hk;decide) | (exfalso;exact hk ⟨by decide,by decide⟩)
   rw [e]
   unfold readL
   rw [if_neg (by intro h;exact hk ⟨h.1,h.2.1⟩)]
   rfl
theorem formB_ok {k:Int} {r:List Int} (h0:0≤k) (h6:k≤6) (hb:beh k≤r.length) (hf:formB (k::r.take (beh k))=true):RawOk (k::r.take (beh k)):=by
 have h7:k=0∨k=1∨(2≤k∧k≤5)∨k=6:=by omega
 rcases h7 with rfl | rfl | ⟨h2,h5⟩ | rfl
 ·match r,hb with
  | i::s,_=>exact .inl ⟨i,rfl,by simpa [beh,formB] using hf⟩
 ·match r,hb with
  | n::d::s,_=>exact .inr (.inl ⟨n,d,rfl,by simpa [beh,formB] using hf⟩)
 ·have e:beh k=2:=by unfold beh;rw [if_neg (by omega),if_neg (by omega)]
  rw [e] at hb hf ⊢
  match r,hb with
  | i::j::s,_ =>
   have q:((decide (0≤i)) && ((decide (0≤j)) && true))=true:=by
    have hk1:¬ k=1:=by omega
    unfold formB at hf
    split at hf
    ·rename_i h;simp at h;omega
    ·rename_i h;injection h with h1 h2';subst h2';exact hf
    ·rename_i h;cases h
   simp at q
   exact .inr (.inr (.inl ⟨k,i,j,rfl,h2,h5,q.1,q.2⟩))
 ·match r,hb with
  | i::s,_=>exact .inr (.inr (.inr ⟨i,rfl,by simpa [beh,formB] using hf⟩))
theorem readL_ok:∀ (f:Nat) (l:List Int) (c:List (List Int)),readL f l=some c→∀ r∈c,RawOk r
 | f,[],c,h,r,hr=>by
  have:c=[]:=by cases f <;> (injection h with h;exact h.symm)
  subst this
  cases hr
 | 0,_::_,c,h,_,_=>by cases h
 | f+1,k::s,c,h,r,hr=>by
  unfold readL at h
  by_cases hc:0≤k∧k≤6∧beh k≤s.length∧formB (k::s.take (beh k))=true
  ·rw [if_pos hc] at h
   cases e:readL f (s.drop (beh k)) with
   | none=>rw [e] at h;cases h
   | some d =>
    rw [e] at h
    have h:(k::s.take (beh k))::d=c:=Option.some.inj h
    subst h
    rcases List.mem_cons.mp hr with rfl | hr
    ·exact formB_ok hc.1 hc.2.1 hc.2.2.1 hc.2.2.2
    ·exact readL_ok f _ d e r hr
  ·rw [if_neg hc] at h;cases h
theorem readL_fuel:∀ (f g:Nat) (l:List Int),l.length≤f→l.length≤g→readL f l=readL g l
 | f,g,[],_,_=>by cases f <;> cases g <;> rfl
 | 0,_,_::_,h,_=>by simp at h
 | _,0,_::_,_,h=>by simp at h
 | f+1,g+1,k::r,h1,h2=>by
  unfold readL
  have hl:(r.drop (beh k)).length≤r.length:=by rw [List.length_drop];omega
  rw [List.length_cons] at h1 h2
  rw [readL_fuel f g (r.drop (beh k)) (by omega) (by omega)]
def findsB (inputs place:Nat):List Int→Bool
 | [0,k]=>decide (k < inputs)
 | [1,_,_]=>true
 | [_,i,j]=>decide (i < place) && decide (j < place)
 | [_,i]=>decide (i < place)
 | _=>true
def findsAll (inputs:Nat):Nat→List (List Int)→Bool
 | _,[]=>true
 | n,r::c=>findsB inputs n r && findsAll inputs (n+1) c
theorem toNat_lt {i:Int} {n:Nat} (h:0≤i):decide (i.toNat < n)=decide (i < n):=decide_eq_decide.mpr (by omega)
theorem well_F (inputs:Nat):∀ (c:List (List Int)) (n:Nat),(∀ r∈c,RawOk r)→wellFrom inputs n (c.map lineOf)=findsAll inputs n c
 | [],_,_=>rfl
 | r::c,n,h=>by
  have ih:=well_F inputs c (n+1) fun q hq=>h q (List.mem_cons_of_mem _ hq)
  rw [List.map_cons]
  unfold wellFrom findsAll
  rw [ih]
  congr 1
  rcases h r (List.mem_cons_self ..) with ⟨k,rfl,hk⟩ | ⟨a,d,rfl,hd⟩ | ⟨o,i,j,rfl,h2,h5,hi,hj⟩ | ⟨i,rfl,hi⟩
  ·show (true && decide (k.toNat < inputs))=decide (k < inputs)
   rw [toNat_lt hk,Bool.true_and]
  ·rfl
  ·have ho:o=2∨o=3∨o=4∨o=5:=by omega
   have e:([i.toNat,j.toNat].all fun x=>decide (x < n))=(decide (i < n) && decide (j < n)):=by
    show (decide (i.toNat < n) && (decide (j.toNat < n) && true))=_
    rw [toNat_lt hi,toNat_lt hj,Bool.and_true]
   rcases ho with rfl | rfl | rfl | rfl <;> (show (([i.toNat,j.toNat].all fun x=>decide (x < n)) && true)=(decide (i < n) && decide (j < n));rw [e,Bool.and_true])
  ·show (([i.toNat].all fun x=>decide (x < n)) && true)=decide (i < n)
   rw [Bool.and_true]
   show (decide (i.toNat < n) && true)=_
   rw [toNat_lt hi,Bool.and_true]
theorem goodC_of {c:List (List Int)} (h:∀ r∈c,RawOk r):GoodC (c.map lineOf):=by
 intro a ha
 obtain ⟨r,hr,e⟩:=List.mem_map.mp ha
 rcases h r hr with ⟨k,rfl,hk⟩ | ⟨n,d,rfl,hd⟩ | ⟨o,i,j,rfl,h2,h5,hi,hj⟩ | ⟨i,rfl,hi⟩
 ·cases e
 ·have e:frac n d.toNat=a:=by injection e
  rw [← e,frac_F,QF_F]
 ·have ho:o=2∨o=3∨o=4∨o=5:=by omega
  rcases ho with rfl | rfl | rfl | rfl <;> cases e
 ·cases e
def readF:List Int→Option (List Rat)
 | []=>some []
 | n::d::r=>if d < 1 then none else (readF r).map fun l=>mkRat n d.toNat::l
 | _=>none
theorem readF_F:∀ l:List Int,VagraLine.fracsOf l=(readF l).map fun c=>c.map F
 | []=>rfl
 | [_]=>rfl
 | n::d::r=>by
  unfold VagraLine.fracsOf readF
  by_cases h:d < 1
  ·rw [if_pos h,if_pos h];rfl
  ·rw [if_neg h,if_neg h,readF_F r,frac_F]
   cases readF r <;> rfl
def fracsQ (n:Nat) (l:List Int):Option (List Rat):=if l.length=2*n then readF l else none
theorem readF_length:∀ (l:List Int) (c:List Rat),readF l=some c→l.length=2*c.length
 | [],c,h=>by
  have:c=[]:=(Option.some.inj h).symm
  subst this;rfl
 | [_],_,h=>by cases h
 | n::d::r,c,h=>by
  unfold readF at h
  by_cases hd:d < 1
  ·rw [if_pos hd] at h;cases h
  ·rw [if_neg hd] at h
   cases e:readF r with
   | none=>rw [e] at h;cases h
   | some q =>
    rw [e] at h
    have h:mkRat n d.toNat::q=c:=Option.some.inj h
    subst h
    have:=readF_length r q e
    simp only [List.length_cons]
    omega
theorem fracs_F (n:Nat) (l:List Int):Vagrae.fracs n l=(match fracsQ n l with | some c=>.ok (c.map F) | none=>.error (-2)):=by
 unfold Vagrae.fracs fracsQ
 rw [readF_F]
 cases e:readF l with
 | none =>
  by_cases h:l.length=2*n
  ·rw [if_pos h];rfl
  ·rw [if_neg h];rfl
 | some c =>
  have:=readF_length l c e
  show (if (c.map F).length=n then Except.ok (c.map F) else Except.error (-2))=_
  rw [List.length_map]
  by_cases h:c.length=n
  ·rw [if_pos h,if_pos (by omega)]
  ·rw [if_neg h,if_neg (by omega)]
theorem readF_small {m:Nat}:∀ (l:List Int) (c:List Rat),readF l=some c→(∀ z∈l,z.natAbs < 2 ^ m)→∀ q∈c,Small m q
 | [],c,h,_,q,hq=>by
  have:c=[]:=(Option.some.inj h).symm
  subst this;cases hq
 | [_],_,h,_,_,_=>by cases h
 | n::d::r,c,h,hz,q,hq=>by
  unfold readF at h
  by_cases hd:d < 1
  ·rw [if_pos hd] at h;cases h
  ·rw [if_neg hd] at h
   cases e:readF r with
   | none=>rw [e] at h;cases h
   | some p =>
    rw [e] at h
    have h:mkRat n d.toNat::p=c:=Option.some.inj h
    subst h
    rcases List.mem_cons.mp hq with rfl | hq
    ·refine Small.mk (by omega) (hz n (by simp)) ?_
     have:=hz d (by simp)
     omega
    ·exact readF_small r p e (fun z hz'=>hz z (by simp [hz'])) q hq
theorem fracsTold_F (l:List Rat):VagraLine.fracsTold (l.map F)=l.flatMap fun q=>[q.num,(q.den:Int)]:=by
 unfold VagraLine.fracsTold
 rw [List.flatMap_map]
 rfl
def heavyQ (l:List Rat):Bool:=l.any fun q=>decide (4000 < wt q)
theorem heavy_F (l:List Rat):((l.map F).any fun a=>decide (Vagrae.LONG < Vagraa.weight a))=heavyQ l:=by
 unfold heavyQ
 rw [List.any_map]
 rfl
def toldQ (l:List Rat):List Int:=if heavyQ l=true then [-6] else (l.length:Int)::l.flatMap fun q=>[q.num,(q.den:Int)]
end Lc
end
section
namespace Lc
open Vagraa (Frac frac)
open VagraLine (Line Code Fault)
theorem runQ_pre (ps:List Rat):∀ (c:Code) (us:List Rat),∃ t,(runQ ps us c).1=us++t
 | [],us=>⟨[],(List.append_nil us).symm⟩
 | l::r,us=>by
  unfold runQ
  cases valueQ ps us l with
  | none=>exact ⟨[],(List.append_nil us).symm⟩
  | some a =>
   show ∃ t,(if 200 < wt a then (us,some (⟨us.length,2⟩:Fault)) else runQ ps (us++[a]) r).1=us++t
   by_cases h:200 < wt a
   ·rw [if_pos h];exact ⟨[],(List.append_nil us).symm⟩
   ·rw [if_neg h]
    obtain ⟨t,ht⟩:=runQ_pre ps r (us++[a])
    exact ⟨a::t,by rw [ht,List.append_assoc];rfl⟩
theorem at0_pre {us t:List Rat} {b:Nat} (h:b < us.length):at0 (us++t) b=at0 us b:=by
 unfold at0
 rw [List.getD_eq_getElem?_getD,List.getD_eq_getElem?_getD,List.getElem?_append_left h]
theorem runQ_div (ps:List Rat):∀ (c:Code) (us:List Rat),(runQ ps us c).2=none→∀ (i a b:Nat),c[i]?=some (Line.div a b)→b < us.length+i→at0 (runQ ps us c).1 b≠0
 | [],_,_,i,a,b,h,_=>by simp at h
 | l::r,us,hn,i,a,b,h,hb=>by
  unfold runQ at hn ⊢
  cases e:valueQ ps us l with
  | none=>rw [e] at hn;cases hn
  | some v =>
   rw [e] at hn
   change (if 200 < wt v then (us,some (⟨us.length,2⟩:Fault)) else runQ ps (us++[v]) r).2=none at hn
   show at0 (if 200 < wt v then (us,some (⟨us.length,2⟩:Fault)) else runQ ps (us++[v]) r).1 b≠0
   by_cases hw:200 < wt v
   ·rw [if_pos hw] at hn;cases hn
   ·rw [if_neg hw] at hn ⊢
    match i,h,hb with
    | 0,h,hb =>
     have hl:l=Line.div a b:=Option.some.inj h
     subst hl
     obtain ⟨t,ht⟩:=runQ_pre ps r (us++[v])
     rw [ht,List.append_assoc,at0_pre (by omega)]
     intro hz
     change (if at0 us b=0 then none else some (at0 us a / at0 us b))=some v at e
     rw [if_pos hz] at e
     cases e
    | i+1,h,hb =>
     refine runQ_div ps r (us++[v]) hn i a b (by simpa using h) ?_
     rw [List.length_append,List.length_cons,List.length_nil]
     omega
end Lc
end
section
namespace Lc
open Vagraa (Frac frac)
open VagraLine (Line Code Fault)
structure HS where
 n:Nat
 c:List (List Int)
 dirs:List (List Rat)
 pt:Option (List Rat)
abbrev HS.code (S:HS):Code:=S.c.map lineOf
structure HS.Good (S:HS):Prop where
 n12:S.n≤12
 c80:S.c.length≤80
 raw:∀ r∈S.c,RawOk r
 fnd:findsAll S.n 0 S.c=true
 d6:S.dirs.length≤6
 dl:∀ d∈S.dirs,d.length=S.n∧∀ q∈d,Small 200 q
 pl:∀ p,S.pt=some p→p.length=S.n∧∀ q∈p,Small 5000 q
def HS.res (S:HS):List Rat:=match S.pt with
 | none=>[]
 | some p=>(runQ p [] S.code).1
def HS.flt (S:HS):Option Fault:=match S.pt with
 | none=>none
 | some p=>(runQ p [] S.code).2
def emptyS:HS:={ n:=0,c:=[],dirs:=[],pt:=none }
def HS.need (S:HS):Int:=match S.pt with
 | none=>-4
 | some _=>match S.flt with
  | some _=>-5
  | none=>0
def hasLine (S:HS) (i:Int):Bool:=decide (0≤i) && decide (i < (S.c.length:Int))
def hasDir (S:HS) (i:Int):Bool:=decide (0≤i) && decide (i < (S.dirs.length:Int))
def HS.dirQ (S:HS) (d:Nat):List Rat:=S.dirs.getD d []
def HS.along (S:HS) (d:Nat):List Rat:=changesQ (S.dirs.getD d []) S.res [] S.code
def fNeed (S:HS) (l:List Int):List Int:=if S.need < 0 then [S.need] else l
def ranQ (S:HS) (ps:List Rat):List Int:=match (runQ ps [] S.code).2 with
 | none=>[0]
 | some e=>[1,(e.line:Int),(e.kind:Int)]
def fCode (S:HS) (x:Int × List Int):HS × List Int :=
 if x.1 < 0∨12 < x.1 then (S,[-1]) else match readL x.2.length x.2 with
 | none=>(S,[-2])
 | some c=>if 80 < c.length then (S,[-7]) else if findsAll x.1.toNat 0 c=true then ({ n:=x.1.toNat,c:=c,dirs:=[],pt:=none },[(c.length:Int)]) else (S,[-3])
def fPoint (S:HS) (ns:List Int):HS × List Int:=match fracsQ S.n ns with
 | none=>(S,[-2])
 | some ps=>({ S with pt:=some ps },ranQ S ps)
def fDir (S:HS) (ns:List Int):HS × List Int:=match fracsQ S.n ns with
 | none=>(S,[-2])
 | some d=>if 6≤S.dirs.length then (S,[-7]) else ({ S with dirs:=S.dirs++[d] },[(S.dirs.length:Int)])
def fClear (S:HS) (_:Unit):HS × List Int:=({ S with dirs:=[] },[(S.dirs.length:Int)])
def fValue (S:HS) (i:Int):HS × List Int:=(S,if hasLine S i=true then fNeed S (toldQ [at0 S.res i.toNat]) else [-1])
def fValues (S:HS) (_:Unit):HS × List Int:=(S,fNeed S (toldQ S.res))
def fChange (S:HS) (x:Int × Int):HS × List Int:=(S,if hasLine S x.1=true then (if hasDir S x.2=true then fNeed S (toldQ [at0 (S.along x.2.toNat) x.1.toNat]) else [-1]) else [-1])
def fChanges (S:HS) (d:Int):HS × List Int:=(S,if hasDir S d=true then fNeed S (toldQ (S.along d.toNat)) else [-1])
def unitQ (n k:Nat):List Rat:=(List.range n).map fun i=>if i=k then 1 else 0
def HS.grad (S:HS) (i:Nat):List Rat:=(List.range S.n).map fun k=>at0 (changesQ (unitQ S.n k) S.res [] S.code) i
def fGradient (S:HS) (i:Int):HS × List Int:=(S,if hasLine S i=true then fNeed S (toldQ (S.grad i.toNat)) else [-1])
def fTable (S:HS) (l:List Int):HS × List Int:=(S,if (l.all (hasLine S))=true∧l.length≤12 then fNeed S (toldQ (l.flatMap fun i=>S.grad i.toNat)) else [-2])
def movedQ (p d:List Rat) (t:Rat):List Rat:=(List.range p.length).map fun k=>at0 p k+t*at0 d k
def fMove (S:HS) (x:Int × Int × Int):HS × List Int :=
 if hasDir S x.1=true then (if x.2.2 < 1 then (S,[-1]) else match S.pt with
  | none=>(S,[-4])
  | some p=>if heavyQ (movedQ p (S.dirQ x.1.toNat) (mkRat x.2.1 x.2.2.toNat))=true then (S,[-6])
   else ({ S with pt:=some (movedQ p (S.dirQ x.1.toNat) (mkRat x.2.1 x.2.2.toNat)) },ranQ S (movedQ p (S.dirQ x.1.toNat) (mkRat x.2.1 x.2.2.toNat)))) else (S,[-1])
def quotQ (S:HS) (ws:List Rat) (i d:Nat) (t:Rat):List Rat:=[(at0 ws i - at0 S.res i) / t,(at0 ws i - at0 S.res i) / t - at0 (S.along d) i]
def fQuotient (S:HS) (x:Int × Int × Int × Int):HS × List Int :=
 (S,if hasLine S x.1=true then (if hasDir S x.2.1=true then (if x.2.2.2 < 1∨x.2.2.1=0 then [-1] else fNeed S (match S.pt with
  | none=>[-4]
  | some p=>match (runQ (movedQ p (S.dirQ x.2.1.toNat) (mkRat x.2.2.1 x.2.2.2.toNat)) [] S.code).2 with
   | some _=>[-5]
   | none=>toldQ (quotQ S (runQ (movedQ p (S.dirQ x.2.1.toNat) (mkRat x.2.2.1 x.2.2.2.toNat)) [] S.code).1 x.1.toNat x.2.1.toNat (mkRat x.2.2.1 x.2.2.2.toNat)))) else [-1]) else [-1])
def fSeries (S:HS) (x:Int × Int × Int):HS × List Int :=
 (S,if hasLine S x.1=true then (if hasDir S x.2.1=true then (if 1≤x.2.2∧x.2.2≤8 then fNeed S (match S.pt with
  | none=>[-4]
  | some p=>toldQ (sAt (allSeriesQ x.2.2.toNat p (S.dirQ x.2.1.toNat) [] S.code) x.1.toNat)) else [-1]) else [-1]) else [-1])
def HS.hangs (S:HS) (i:Nat):List Nat:=(List.range S.n).filter fun k=>((Vagrae.reaches S.n S.code).getD i []).getD k false
def fHangs (S:HS) (i:Int):HS × List Int:=(S,if hasLine S i=true then ((S.hangs i.toNat).length:Int)::(S.hangs i.toNat).map Int.ofNat else [-1])
def fCost (S:HS) (_:Unit):HS × List Int:=(S,[(VagraLine.ops S.code:Int),(Vagrae.cost S.code:Int),((S.dirs.length*Vagrae.cost S.code:Nat):Int)])
def fCall (S:HS):Vagrae.Call→HS × List Int
 | .code n l=>fCode S (n,l)
 | .point l=>fPoint S l
 | .dir l=>fDir S l
 | .clear=>fClear S ()
 | .value i=>fValue S i
 | .values=>fValues S ()
 | .change i d=>fChange S (i,d)
 | .changes d=>fChanges S d
 | .gradient i=>fGradient S i
 | .table l=>fTable S l
 | .move d n m=>fMove S (d,n,m)
 | .quotient i d n m=>fQuotient S (i,d,n,m)
 | .series i d k=>fSeries S (i,d,k)
 | .hangs i=>fHangs S i
 | .cost=>fCost S ()
def HS.spec (S:HS):Vagrae.State:={ inputs:=S.n,code:=S.code,point:=S.pt.map (·.map F),dirs:=S.dirs.map (·.map F) }
def Conn (S:HS) (c:Vagrae.Call) (r:HS × List Int):Prop:=(Vagrae.step S.spec c).1=r.1.spec∧VagraeNeutral.encode (Vagrae.step S.spec c).2=r.2
theorem conn_ok {S S':HS} {c:Vagrae.Call} {l:List Int} (h:Vagrae.out S.spec c=.ok (S'.spec,l)):Conn S c (S',l):=by
 unfold Conn Vagrae.step
 rw [h]
 exact ⟨rfl,rfl⟩
theorem conn_err {S:HS} {c:Vagrae.Call} {n:Int} (h:Vagrae.out S.spec c=.error n):Conn S c (S,[n]):=by
 unfold Conn Vagrae.step
 rw [h]
 exact ⟨rfl,rfl⟩
theorem line_F (S:HS) (i:Int):S.spec.line i=if hasLine S i=true then .ok i.toNat else .error (-1):=by
 unfold Vagrae.State.line Vagrae.ranged hasLine HS.spec
 show (if 0≤i∧i≤((S.code.length:Nat):Int) - 1 then _ else _)=_
 rw [List.length_map]
 by_cases h:0≤i∧i < (S.c.length:Int)
 ·rw [if_pos (by omega),if_pos (by rw [decide_eq_true h.1,decide_eq_true h.2];rfl)]
 ·rw [if_neg (by omega),if_neg (by intro q;exact h (by simpa using q))]
theorem dirs_F (S:HS) (d:Nat):(S.dirs.map (·.map F)).getD d []=(S.dirQ d).map F:=by
 unfold HS.dirQ
 rw [List.getD_eq_getElem?_getD,List.getD_eq_getElem?_getD,List.getElem?_map]
 cases S.dirs[d]? <;> rfl
theorem dir_F (S:HS) (d:Int):S.spec.direction d=if hasDir S d=true then .ok ((S.dirQ d.toNat).map F) else .error (-1):=by
 unfold Vagrae.State.direction Vagrae.ranged hasDir HS.spec
 show ((if 0≤d∧d≤(((S.dirs.map (·.map F)).length:Nat):Int) - 1 then (Except.ok d.toNat:Vagrae.R Nat) else .error (-1)) >>= fun d=>.ok ((S.dirs.map (·.map F)).getD d []))=_
 rw [List.length_map]
 by_cases h:0≤d∧d < (S.dirs.length:Int)
 ·rw [if_pos (by omega),if_pos (by rw [decide_eq_true h.1,decide_eq_true h.2];rfl),← dirs_F]
  rfl
 ·rw [if_neg (by omega),if_neg (by intro q;exact h (by simpa using q))]
  rfl
theorem good_code {S:HS} (G:S.Good):GoodC S.code:=goodC_of G.raw
theorem valuesAt_F {S:HS} (G:S.Good) (p:List Rat):Vagrae.valuesAt S.spec (p.map F)=match (runQ p [] S.code).2 with
  | none=>.ok ((runQ p [] S.code).1.map F)
  | some _=>.error (-5):=by
 unfold Vagrae.valuesAt VagraLine.run
 show (match VagraLine.runFrom (some 200) (p.map F) (([]:List Rat).map F) S.code with | .ok vs=>_ | .error _=>_)=_
 rw [run_F p S.code [] (good_code G)]
 unfold asRun
 cases (runQ p [] S.code).2 <;> rfl
theorem ran_F {S:HS} (G:S.Good) (p:List Rat):Vagrae.ranTold S.spec (p.map F)=ranQ S p:=by
 unfold Vagrae.ranTold VagraLine.run ranQ
 show (match VagraLine.runFrom (some 200) (p.map F) (([]:List Rat).map F) S.code with | .ok vs=>_ | .error _=>_)=_
 rw [run_F p S.code [] (good_code G)]
 unfold asRun
 cases (runQ p [] S.code).2 <;> rfl
theorem vals_F {S:HS} (G:S.Good):S.spec.vals=if S.need < 0 then .error S.need else .ok (S.res.map F):=by
 unfold Vagrae.State.vals Vagrae.State.here HS.need HS.res HS.flt
 cases e:S.pt with
 | none =>
  show ((match S.pt.map (·.map F) with | some p=>(Except.ok p:Vagrae.R (List Frac)) | none=>.error (-4)) >>= Vagrae.valuesAt S.spec)=_
  rw [e]
  rfl
 | some p =>
  show ((match S.pt.map (·.map F) with | some p=>(Except.ok p:Vagrae.R (List Frac)) | none=>.error (-4)) >>= Vagrae.valuesAt S.spec)=_
  rw [e]
  show Vagrae.valuesAt S.spec (p.map F)=_
  rw [valuesAt_F G]
  cases e2:(runQ p [] S.code).2 with
  | none=>simp [e2]
  | some x=>simp [e2]
theorem tell_F (l:List Rat):Vagrae.tell (l.map F)=if heavyQ l=true then .error (-6) else .ok ((l.length:Int)::l.flatMap fun q=>[q.num,(q.den:Int)]):=by
 unfold Vagrae.tell
 rw [heavy_F,List.length_map,fracsTold_F]
theorem conn_told {S:HS} {c:Vagrae.Call} {qs:List Rat} (h:Vagrae.out S.spec c=(Vagrae.tell (qs.map F) >>= fun l=>.ok (S.spec,l))):Conn S c (S,toldQ qs):=by
 rw [tell_F] at h
 unfold toldQ
 by_cases hh:heavyQ qs=true
 ·rw [if_pos hh] at h ⊢
  exact conn_err h
 ·rw [if_neg hh] at h ⊢
  exact conn_ok h
theorem conn_vals {S:HS} (G:S.Good) {c:Vagrae.Call} {g:List Frac→Vagrae.R (List Int)} {l:List Int} (h:Vagrae.out S.spec c=((S.spec.vals >>= g) >>= fun l=>.ok (S.spec,l)))
  (k:¬ S.need < 0→Vagrae.out S.spec c=(g (S.res.map F) >>= fun l=>.ok (S.spec,l))→Conn S c (S,l)):Conn S c (S,fNeed S l):=by
 rw [vals_F G] at h
 unfold fNeed
 by_cases hn:S.need < 0
 ·rw [if_pos hn] at h ⊢
  exact conn_err h
 ·rw [if_neg hn] at h ⊢
  exact k hn h
theorem changes_res (S:HS) (d:List Rat):Vagrae.changes (d.map F) (S.res.map F) S.code=(changesQ d S.res [] S.code).map F:=changes_F d S.res S.code []
theorem unit_F (n k:Nat):Vagrae.unit n k=(unitQ n k).map F:=by
 unfold Vagrae.unit unitQ
 rw [List.map_map]
 refine List.map_congr_left fun i _=>?_
 show (if i=k then Vagraa.one else Vagraa.zero)=F (if i=k then 1 else 0)
 by_cases h:i=k
 ·rw [if_pos h,if_pos h];rfl
 ·rw [if_neg h,if_neg h];rfl
theorem grad_F (S:HS) (i:Nat):Vagrae.gradientOf S.spec (S.res.map F) i=(S.grad i).map F:=by
 unfold Vagrae.gradientOf HS.grad
 rw [List.map_map]
 refine List.map_congr_left fun k _=>?_
 show VagraLine.at_ (Vagrae.changes (Vagrae.unit S.n k) (S.res.map F) S.code) i=_
 rw [unit_F,changes_res,at_F]
 rfl
theorem moved_F (p d:List Rat) (t:Rat):Vagrae.moved (p.map F) (d.map F) (F t)=(movedQ p d t).map F:=by
 unfold Vagrae.moved movedQ
 rw [List.length_map,List.map_map]
 refine List.map_congr_left fun k _=>?_
 rw [at_F,at_F,mul_F,add_F]
 rfl
theorem here_F {S:HS} {p:List Rat} (h:S.pt=some p):S.spec.here=.ok (p.map F):=by
 unfold Vagrae.State.here HS.spec
 rw [h]
 rfl
theorem needs {S:HS} (h:¬ S.need < 0):∃ p,S.pt=some p∧S.flt=none:=by
 unfold HS.need at h
 cases e:S.pt with
 | none=>rw [e] at h;exact absurd (show (-4:Int) < 0 by decide) h
 | some p =>
  rw [e] at h
  cases e2:S.flt with
  | none=>exact ⟨p,rfl,rfl⟩
  | some x =>
   rw [e2] at h
   exact absurd (show (-5:Int) < 0 by decide) h
theorem conn_line {S:HS} {c:Vagrae.Call} {i:Int} {g:Nat→Vagrae.R (List Int)} {l:List Int} (h:Vagrae.out S.spec c=((S.spec.line i >>= g) >>= fun l=>.ok (S.spec,l)))
  (k:Vagrae.out S.spec c=(g i.toNat >>= fun l=>.ok (S.spec,l))→Conn S c (S,l)):Conn S c (S,if hasLine S i=true then l else [-1]):=by
 rw [line_F] at h
 by_cases hn:hasLine S i=true
 ·rw [if_pos hn] at h ⊢
  exact k h
 ·rw [if_neg hn] at h ⊢
  exact conn_err h
theorem conn_dir {S:HS} {c:Vagrae.Call} {d:Int} {g:List Frac→Vagrae.R (List Int)} {l:List Int} (h:Vagrae.out S.spec c=((S.spec.direction d >>= g) >>= fun l=>.ok (S.spec,l)))
  (k:Vagrae.out S.spec c=(g ((S.dirQ d.toNat).map F) >>= fun l=>.ok (S.spec,l))→Conn S c (S,l)):Conn S c (S,if hasDir S d=true then l else [-1]):=by
 rw [dir_F] at h
 by_cases hn:hasDir S d=true
 ·rw [if_pos hn] at h ⊢
  exact k h
 ·rw [if_neg hn] at h ⊢
  exact conn_err h
theorem conn_all {S:HS} (G:S.Good) (c:Vagrae.Call):Conn S c (fCall S c):=by
 cases c with
 | code n l =>
  show Conn S _ (fCode S (n,l))
  unfold fCode
  have h:Vagrae.out S.spec (.code n l)=(Vagrae.ranged n 0 12 >>= fun n=>match VagraLine.codeOf l.length l with
   | none=>.error (-2)
   | some c=>(do
    Vagrae.refuseIf (decide (80 < c.length)) (-7)
    Vagrae.refuseIf (!VagraLine.well n c) (-3)
    .ok ({ inputs:=n,code:=c,point:=none,dirs:=[] },[(c.length:Int)]))):=rfl
  unfold Vagrae.ranged at h
  dsimp only
  by_cases hn:n < 0∨12 < n
  ·rw [if_neg (by omega)] at h
   rw [if_pos hn]
   exact conn_err h
  ·rw [if_pos (by omega)] at h
   rw [if_neg hn]
   rw [readL_F] at h
   cases e:readL l.length l with
   | none =>
    rw [e] at h
    exact conn_err h
   | some cc =>
    rw [e] at h
    change Vagrae.out S.spec (.code n l)=(do
     Vagrae.refuseIf (decide (80 < (cc.map lineOf).length)) (-7)
     Vagrae.refuseIf (!VagraLine.wellFrom n.toNat 0 (cc.map lineOf)) (-3)
     .ok ({ inputs:=n.toNat,code:=cc.map lineOf,point:=none,dirs:=[] },[((cc.map lineOf).length:Int)])) at h
    rw [well_F n.toNat cc 0 (readL_ok _ _ _ e),List.length_map] at h
    dsimp only
    by_cases h80:80 < cc.length
    ·rw [decide_eq_true h80] at h
     rw [if_pos h80]
     exact conn_err h
    ·rw [decide_eq_false h80] at h
     rw [if_neg h80]
     cases hf:findsAll n.toNat 0 cc with
     | true =>
      rw [hf] at h
      rw [if_pos rfl]
      exact conn_ok h
     | false =>
      rw [hf] at h
      rw [if_neg (by decide)]
      exact conn_err h
 | point l =>
  show Conn S _ (fPoint S l)
  unfold fPoint
  have h:Vagrae.out S.spec (.point l)=(Vagrae.fracs S.n l >>= fun p=>.ok ({ S.spec with point:=some p },Vagrae.ranTold S.spec p)):=rfl
  rw [fracs_F] at h
  cases e:fracsQ S.n l with
  | none =>
   rw [e] at h
   exact conn_err h
  | some ps =>
   rw [e] at h
   change Vagrae.out S.spec (.point l)=.ok ({ S.spec with point:=some (ps.map F) },Vagrae.ranTold S.spec (ps.map F)) at h
   rw [ran_F G] at h
   exact conn_ok h
 | dir l =>
  show Conn S _ (fDir S l)
  unfold fDir
  have h:Vagrae.out S.spec (.dir l)=(Vagrae.fracs S.n l >>= fun d=>do
   Vagrae.refuseIf (decide (6≤(S.dirs.map (·.map F)).length)) (-7)
   .ok ({ S.spec with dirs:=S.dirs.map (·.map F)++[d] },[((S.dirs.map (·.map F)).length:Int)])):=rfl
  rw [fracs_F,List.length_map] at h
  cases e:fracsQ S.n l with
  | none =>
   rw [e] at h
   exact conn_err h
  | some d =>
   rw [e] at h
   dsimp only
   by_cases h6:6≤S.dirs.length
   ·rw [decide_eq_true h6] at h
    rw [if_pos h6]
    exact conn_err h
   ·rw [decide_eq_false h6] at h
    rw [if_neg h6]
    refine conn_ok (h.trans ?_)
    show Except.ok (_,_)=Except.ok (_,_)
    unfold HS.spec
    simp [HS.code]
 | clear =>
  show Conn S _ (fClear S ())
  have h:Vagrae.out S.spec .clear=.ok ({ S.spec with dirs:=[] },[((S.dirs.map (·.map F)).length:Int)]):=rfl
  rw [List.length_map] at h
  exact conn_ok h
 | value i =>
  refine conn_line (i:=i) (g:=fun i=>S.spec.vals >>= fun vs=>Vagrae.tell [VagraLine.at_ vs i]) rfl fun h=>?_
  refine conn_vals G h fun hn h=>conn_told (qs:=[at0 S.res i.toNat]) ?_
  rw [h]
  show (Vagrae.tell [VagraLine.at_ (S.res.map F) i.toNat] >>= _)=_
  rw [at_F]
  rfl
 | values=>exact conn_vals (g:=Vagrae.tell) G rfl fun hn h=>conn_told h
 | change i d =>
  refine conn_line (i:=i) (g:=fun i=>S.spec.direction d >>= fun d=>S.spec.vals >>= fun vs=>Vagrae.tell [VagraLine.at_ (Vagrae.changes d vs S.code) i]) rfl fun h=>?_
  refine conn_dir h fun h=>?_
  refine conn_vals G h fun hn h=>conn_told (qs:=[at0 (S.along d.toNat) i.toNat]) ?_
  rw [h]
  show (Vagrae.tell [VagraLine.at_ (Vagrae.changes ((S.dirQ d.toNat).map F) (S.res.map F) S.code) i.toNat] >>= _)=_
  rw [changes_res,at_F]
  rfl
 | changes d =>
  refine conn_dir (d:=d) (g:=fun d=>S.spec.vals >>= fun vs=>Vagrae.tell (Vagrae.changes d vs S.code)) rfl fun h=>?_
  refine conn_vals G h fun hn h=>conn_told (qs:=S.along d.toNat) ?_
  rw [h]
  show (Vagrae.tell (Vagrae.changes ((S.dirQ d.toNat).map F) (S.res.map F) S.code) >>= _)=_
  rw [changes_res]
  rfl
 | gradient i =>
  refine conn_line (i:=i) (g:=fun i=>S.spec.vals >>= fun vs=>Vagrae.tell (Vagrae.gradientOf S.spec vs i)) rfl fun h=>?_
  refine conn_vals G h fun hn h=>conn_told (qs:=S.grad i.toNat) ?_
  rw [h]
  show (Vagrae.tell (Vagrae.gradientOf S.spec (S.res.map F) i.toNat) >>= _)=_
  rw [grad_F]
 | table l =>
  show Conn S _ (S,_)
  have h:Vagrae.out S.spec (.table l)=((S.spec.places l >>= fun l=>S.spec.vals >>= fun vs=>Vagrae.tell (l.flatMap (Vagrae.gradientOf S.spec vs))) >>= fun l=>.ok (S.spec,l)):=rfl
  unfold Vagrae.State.places at h
  have ea:(l.all fun i=>decide (0≤i) && decide (i < (S.spec.code.length:Int)))=l.all (hasLine S):=by
   refine congrArg (fun f=>l.all f) (funext fun i=>?_)
   unfold hasLine HS.spec
   show (decide (0≤i) && decide (i < ((S.code.length:Nat):Int)))=_
   rw [List.length_map]
  rw [ea,show Vagrae.MOSTINPUTS=12 from rfl] at h
  by_cases hc:(l.all (hasLine S))=true∧l.length≤12
  ·rw [if_pos hc] at h
   rw [if_pos hc]
   refine conn_vals (g:=fun vs=>Vagrae.tell ((l.map Int.toNat).flatMap (Vagrae.gradientOf S.spec vs))) G h fun hn h=>conn_told (qs:=l.flatMap fun i=>S.grad i.toNat) ?_
   rw [h]
   have eg:(l.map Int.toNat).flatMap (Vagrae.gradientOf S.spec (S.res.map F))=(l.flatMap fun i=>S.grad i.toNat).map F:=by
    rw [List.flatMap_map,List.map_flatMap]
    refine congrArg (fun f=>l.flatMap f) (funext fun i=>?_)
    exact grad_F S i.toNat
   rw [eg]
  ·rw [if_neg hc] at h
   rw [if_neg hc]
   exact conn_err h
 | move d n m =>
  show Conn S _ (fMove S (d,n,m))
  unfold fMove
  have h:Vagrae.out S.spec (.move d n m)=(S.spec.direction d >>= fun d=>do
   Vagrae.refuseIf (decide (m < 1)) (-1)
   let p ← S.spec.here
   Vagrae.refuseIf ((Vagrae.moved p d (frac n m.toNat)).any fun a=>decide (Vagrae.LONG < Vagraa.weight a)) (-6)
   .ok ({ S.spec with point:=some (Vagrae.moved p d (frac n m.toNat)) },Vagrae.ranTold S.spec (Vagrae.moved p d (frac n m.toNat)))):=rfl
  rw [dir_F] at h
  dsimp only
  by_cases hd:hasDir S d=true
  ·rw [if_pos hd] at h ⊢
   by_cases hm:m < 1
   ·rw [decide_eq_true hm] at h
    rw [if_pos hm]
    exact conn_err h
   ·rw [decide_eq_false hm] at h
    rw [if_neg hm]
    cases e:S.pt with
    | none =>
     have eh:S.spec.here=.error (-4):=by
      unfold Vagrae.State.here HS.spec
      rw [e]
      rfl
     rw [eh] at h
     exact conn_err h
    | some p =>
     rw [here_F e] at h
     change Vagrae.out S.spec (.move d n m)=(do
      Vagrae.refuseIf ((Vagrae.moved (p.map F) ((S.dirQ d.toNat).map F) (frac n m.toNat)).any fun a=>decide (Vagrae.LONG < Vagraa.weight a)) (-6)
      .ok ({ S.spec with point:=some (Vagrae.moved (p.map F) ((S.dirQ d.toNat).map F) (frac n m.toNat)) },Vagrae.ranTold S.spec (Vagrae.moved (p.map F) ((S.dirQ d.toNat).map F) (frac n m.toNat)))) at h
     rw [frac_F,moved_F,heavy_F,ran_F G] at h
     dsimp only
     by_cases hh:heavyQ (movedQ p (S.dirQ d.toNat) (mkRat n m.toNat))=true
     ·rw [hh] at h
      rw [if_pos hh]
      exact conn_err h
     ·rw [if_neg hh]
      rw [Bool.not_eq_true] at hh
      rw [hh] at h
      exact conn_ok h
  ·rw [if_neg hd] at h ⊢
   exact conn_err h
 | quotient i d n m =>
  refine conn_line (i:=i) (g:=fun i=>S.spec.direction d >>= fun d=>Vagrae.refuseIf (decide (m < 1) || decide (n=0)) (-1) >>= fun _=>S.spec.vals >>= fun vs=>S.spec.here >>= fun p=>Vagrae.valuesAt S.spec (Vagrae.moved p d (frac n m.toNat)) >>= fun ws =>
   Vagrae.tell [Vagraa.div (Vagraa.sub (VagraLine.at_ ws i) (VagraLine.at_ vs i)) (frac n m.toNat),Vagraa.sub (Vagraa.div (Vagraa.sub (VagraLine.at_ ws i) (VagraLine.at_ vs i)) (frac n m.toNat)) (VagraLine.at_ (Vagrae.changes d vs S.code) i)]) rfl fun h=>?_
  refine conn_dir h fun h=>?_
  dsimp only
  by_cases hm:m < 1∨n=0
  ·rw [if_pos hm]
   refine conn_err (h.trans ?_)
   have:(decide (m < 1) || decide (n=0))=true:=by simpa using hm
   dsimp only
   rw [this]
   rfl
  ·rw [if_neg hm]
   have e0:(decide (m < 1) || decide (n=0))=false:=by
    cases q:(decide (m < 1) || decide (n=0)) with
    | false=>rfl
    | true=>exact absurd (by simpa using q) hm
   dsimp only at h
   rw [e0] at h
   refine conn_vals (g:=fun vs=>S.spec.here >>= fun p=>Vagrae.valuesAt S.spec (Vagrae.moved p ((S.dirQ d.toNat).map F) (frac n m.toNat)) >>= fun ws =>
    Vagrae.tell [Vagraa.div (Vagraa.sub (VagraLine.at_ ws i.toNat) (VagraLine.at_ vs i.toNat)) (frac n m.toNat),Vagraa.sub (Vagraa.div (Vagraa.sub (VagraLine.at_ ws i.toNat) (VagraLine.at_ vs i.toNat)) (frac n m.toNat)) (VagraLine.at_ (Vagrae.changes ((S.dirQ d.toNat).map F) vs S.code) i.toNat)]) G h fun hn h=>?_
   obtain ⟨p,hp,hfl⟩:=needs hn
   rw [here_F hp] at h
   change Vagrae.out S.spec (.quotient i d n m)=((Vagrae.valuesAt S.spec (Vagrae.moved (p.map F) ((S.dirQ d.toNat).map F) (frac n m.toNat)) >>= fun ws =>
    Vagrae.tell [Vagraa.div (Vagraa.sub (VagraLine.at_ ws i.toNat) (VagraLine.at_ (S.res.map F) i.toNat)) (frac n m.toNat),Vagraa.sub (Vagraa.div (Vagraa.sub (VagraLine.at_ ws i.toNat) (VagraLine.at_ (S.res.map F) i.toNat)) (frac n m.toNat)) (VagraLine.at_ (Vagrae.changes ((S.dirQ d.toNat).map F) (S.res.map F) S.code) i.toNat)]) >>= fun l=>.ok (S.spec,l)) at h
   rw [frac_F,moved_F,valuesAt_F G,changes_res] at h
   rw [hp]
   dsimp only
   cases e2:(runQ (movedQ p (S.dirQ d.toNat) (mkRat n m.toNat)) [] S.code).2 with
   | some x =>
    rw [e2] at h
    exact conn_err h
   | none =>
    rw [e2] at h
    refine conn_told (h.trans ?_)
    show (Vagrae.tell [Vagraa.div (Vagraa.sub (VagraLine.at_ (_:List Frac) i.toNat) (VagraLine.at_ (S.res.map F) i.toNat)) (F (mkRat n m.toNat)),_] >>= _)=_
    rw [at_F,at_F,at_F,sub_F,div_F,sub_F]
    rfl
 | series i d k =>
  refine conn_line (i:=i) (g:=fun i=>S.spec.direction d >>= fun d=>Vagrae.ranged k 1 8 >>= fun k=>S.spec.vals >>= fun _=>S.spec.here >>= fun p=>Vagrae.tell (Vagrae.seriesAt (Vagrae.allSeries k p d S.code) i)) rfl fun h=>?_
  refine conn_dir h fun h=>?_
  dsimp only at h ⊢
  unfold Vagrae.ranged at h
  by_cases hk:1≤k∧k≤8
  ·rw [if_pos hk] at h ⊢
   refine conn_vals (g:=fun _=>S.spec.here >>= fun p=>Vagrae.tell (Vagrae.seriesAt (Vagrae.allSeries k.toNat p ((S.dirQ d.toNat).map F) S.code) i.toNat)) G h fun hn h=>?_
   obtain ⟨p,hp,hfl⟩:=needs hn
   rw [here_F hp] at h
   rw [hp]
   dsimp only
   refine conn_told (h.trans ?_)
   show (Vagrae.tell (Vagrae.seriesAt (Vagrae.allSeriesFrom k.toNat (p.map F) ((S.dirQ d.toNat).map F) (([]:List (List Rat)).map (·.map F)) S.code) i.toNat) >>= _)=_
   rw [allSeries_F k.toNat p (S.dirQ d.toNat) S.code [] (good_code G),sAt_F]
  ·rw [if_neg hk] at h ⊢
   exact conn_err h
 | hangs i =>
  exact conn_line (i:=i) (g:=fun i=>.ok (((List.range S.n).filter fun k=>((Vagrae.reaches S.n S.code).getD i []).getD k false).length::((List.range S.n).filter fun k=>((Vagrae.reaches S.n S.code).getD i []).getD k false).map Int.ofNat)) rfl fun h=>conn_ok h
 | cost =>
  refine conn_ok ?_
  show Except.ok (S.spec,[_,_,(((S.dirs.map (·.map F)).length*Vagrae.cost S.code:Nat):Int)])=_
  rw [List.length_map]
  rfl
end Lc
end
section
namespace Lc
open VagraLine (Line Code Fault)
def smallL (l:List Int):Prop:=∀ z∈l,z.natAbs < 2 ^ 60
def SmallC:Vagrae.Call→Prop
 | .point l=>smallL l
 | .dir l=>smallL l
 | _=>True
theorem fracsQ_some {n:Nat} {l:List Int} {c:List Rat} (h:fracsQ n l=some c):c.length=n∧readF l=some c:=by
 unfold fracsQ at h
 by_cases h2:l.length=2*n
 ·rw [if_pos h2] at h
  have:=readF_length l c h
  exact ⟨by omega,h⟩
 ·rw [if_neg h2] at h
  cases h
theorem heavyQ_small {qs:List Rat} (h:heavyQ qs=false):∀ q∈qs,Small 5000 q:=fun q hq=>by
 have:¬ 4000 < wt q:=fun hw=>by
  have e:heavyQ qs=true:=List.any_eq_true.mpr ⟨q,hq,decide_eq_true hw⟩
  rw [e] at h
  cases h
 exact Small.mono (weight_small (m:=4000) (by show wt q≤4000;omega)) (by omega)
theorem movedQ_length (p d:List Rat) (t:Rat):(movedQ p d t).length=p.length:=by
 unfold movedQ
 rw [List.length_map,List.length_range]
theorem good_empty:emptyS.Good:=⟨by decide,by decide,fun r h=>(nomatch h),rfl,by decide,fun d h=>(nomatch h),fun p h=>(nomatch h)⟩
theorem good_all {S:HS} (G:S.Good) (c:Vagrae.Call) (hs:SmallC c):(fCall S c).1.Good:=by
 cases c with
 | code n l =>
  show (fCode S (n,l)).1.Good
  unfold fCode
  dsimp only
  by_cases hn:n < 0∨12 < n
  ·rw [if_pos hn];exact G
  ·rw [if_neg hn]
   cases e:readL l.length l with
   | none=>exact G
   | some cc =>
    dsimp only
    by_cases h80:80 < cc.length
    ·rw [if_pos h80];exact G
    ·rw [if_neg h80]
     by_cases hf:findsAll n.toNat 0 cc=true
     ·rw [if_pos hf]
      exact ⟨by show n.toNat≤12;omega,by show cc.length≤80;omega,readL_ok _ _ _ e,hf,by show 0≤6;omega,fun d h=>(nomatch h),fun p h=>(nomatch h)⟩
     ·rw [if_neg hf];exact G
 | point l =>
  show (fPoint S l).1.Good
  unfold fPoint
  cases e:fracsQ S.n l with
  | none=>exact G
  | some ps =>
   obtain ⟨h1,h2⟩:=fracsQ_some e
   refine ⟨G.n12,G.c80,G.raw,G.fnd,G.d6,G.dl,fun p hp=>?_⟩
   have:ps=p:=Option.some.inj hp
   subst this
   exact ⟨h1,fun q hq=>(readF_small l ps h2 hs q hq).mono (by omega)⟩
 | dir l =>
  show (fDir S l).1.Good
  unfold fDir
  cases e:fracsQ S.n l with
  | none=>exact G
  | some d =>
   dsimp only
   obtain ⟨h1,h2⟩:=fracsQ_some e
   by_cases h6:6≤S.dirs.length
   ·rw [if_pos h6];exact G
   ·rw [if_neg h6]
    refine ⟨G.n12,G.c80,G.raw,G.fnd,?_,fun d' hd'=>?_,G.pl⟩
    ·show (S.dirs++[d]).length≤6
     rw [List.length_append,List.length_cons,List.length_nil]
     omega
    ·rcases List.mem_append.mp hd' with hd' | hd'
     ·exact G.dl d' hd'
     ·have:d'=d:=by simpa using hd'
      subst this
      exact ⟨h1,fun q hq=>(readF_small l d' h2 hs q hq).mono (by omega)⟩
 | clear=>exact ⟨G.n12,G.c80,G.raw,G.fnd,by show 0≤6;omega,fun d h=>(nomatch h),G.pl⟩
 | move d n m =>
  show (fMove S (d,n,m)).1.Good
  unfold fMove
  dsimp only
  by_cases hd:hasDir S d=true
  ·rw [if_pos hd]
   by_cases hm:m < 1
   ·rw [if_pos hm];exact G
   ·rw [if_neg hm]
    cases e:S.pt with
    | none=>exact G
    | some p =>
     dsimp only
     by_cases hh:heavyQ (movedQ p (S.dirQ d.toNat) (mkRat n m.toNat))=true
     ·rw [if_pos hh];exact G
     ·rw [if_neg hh]
      rw [Bool.not_eq_true] at hh
      refine ⟨G.n12,G.c80,G.raw,G.fnd,G.d6,G.dl,fun p' hp'=>?_⟩
      have:movedQ p (S.dirQ d.toNat) (mkRat n m.toNat)=p':=Option.some.inj hp'
      subst this
      exact ⟨by rw [movedQ_length];exact (G.pl p e).1,heavyQ_small hh⟩
  ·rw [if_neg hd];exact G
 | value i=>exact G
 | values=>exact G
 | change i d=>exact G
 | changes d=>exact G
 | gradient i=>exact G
 | table l=>exact G
 | quotient i d n m=>exact G
 | series i d k=>exact G
 | hangs i=>exact G
 | cost=>exact G
inductive Shp:List (List Int)→Prop
 | a (x r):Shp [[0,x],r]
 | b (r):Shp [[1],r]
 | c (r):Shp [[2],r]
 | d:Shp [[3]]
 | e (x):Shp [[4,x]]
 | f:Shp [[5]]
 | g (x y):Shp [[6,x,y]]
 | h (x):Shp [[7,x]]
 | i (x):Shp [[8,x]]
 | j (r):Shp [[9],r]
 | k (x y z):Shp [[10,x,y,z]]
 | l (x y z u):Shp [[11,x,y,z,u]]
 | m (x y z):Shp [[12,x,y,z]]
 | n (x):Shp [[13,x]]
 | o:Shp [[14]]
theorem shp (c:List (List Int)):Shp c∨VagraeNeutral.asked1 c=false∧PyVagrae.whole c=c:=by
 rcases c with _ | ⟨_ | ⟨x,xs⟩,t⟩
 ·exact .inr ⟨rfl,rfl⟩
 ·exact .inr ⟨rfl,rfl⟩
 by_cases h:0≤x∧x < 15
 ·obtain ⟨n,rfl⟩:=Int.eq_ofNat_of_zero_le h.1
  have hn:n < 15:=by omega
  clear h
  rcases n with _ | _ | _ | _ | _ | _ | _ | _ | _ | _ | _ | _ | _ | _ | _ | n
  all_goals first | omega | (clear hn;rcases xs with _ | ⟨a,_ | ⟨b,_ | ⟨d,_ | ⟨e,_ | ⟨f,u⟩⟩⟩⟩⟩ <;> first | exact .inr ⟨rfl,rfl⟩ | (rcases t with _ | ⟨r,_ | ⟨s,v⟩⟩ <;> first | exact .inr ⟨rfl,rfl⟩ | (left;constructor)))
 ·have g:∀ k:Int,0≤k→k < 15→x≠k:=fun k a b e=>h (e ▸ ⟨a,b⟩)
  clear h
  refine .inr ⟨?_,?_⟩
  ·unfold VagraeNeutral.asked1 VagraeNeutral.callOf.match_1
   repeat (refine (dif_neg (g _ (by decide) (by decide))).trans ?_)
   rfl
  ·unfold PyVagrae.whole PyVagrae.whole.match_1
   repeat (refine (dif_neg (g _ (by decide) (by decide))).trans ?_)
   rfl
theorem whole_id (c:List (List Int)):PyVagrae.whole c=c:=by
 rcases shp c with h | h
 ·cases h <;> rfl
 ·exact h.2
theorem calls_eq (l:List Int):PyVagrae.calls l=PyFlat.calls PyVagrae.shape l.length l:=by
 unfold PyVagrae.calls
 cases PyFlat.calls PyVagrae.shape l.length l with
 | none=>rfl
 | some cs =>
  show some (cs.map PyVagrae.whole)=some cs
  congr 1
  have:PyVagrae.whole=id:=funext whole_id
  rw [this,List.map_id]
theorem next_call {f:Nat} {p:Int} {r:List Int} {cs:List (List (List Int))} (h:PyFlat.calls PyVagrae.shape f (p::r)=some cs):∃ (nn kk g:Nat) (c:List (List Int)) (t:List Int) (cs':List (List (List Int))),
  PyVagrae.shape p=some (nn,kk)∧nn≤r.length∧f=g+1∧cs=c::cs'∧PyFlat.calls PyVagrae.shape g t=some cs' ∧
  (kk=0→c=[p::r.take nn]∧t=r.drop nn)∧(kk=1→∃ (m:Nat) (rest:List Int),r.drop nn=(m:Int)::rest∧m≤rest.length∧c=[p::r.take nn,rest.take m]∧t=rest.drop m):=by
 cases f with
 | zero=>cases h
 | succ g =>
  unfold PyFlat.calls at h
  cases e:PyFlat.call PyVagrae.shape (p::r) with
  | none=>rw [e] at h;cases h
  | some ct =>
   obtain ⟨c,t⟩:=ct
   rw [e] at h
   dsimp only at h
   cases e2:PyFlat.calls PyVagrae.shape g t with
   | none=>rw [e2] at h;cases h
   | some cs' =>
    rw [e2] at h
    have h:c::cs'=cs:=Option.some.inj h
    unfold PyFlat.call at e
    dsimp only at e
    cases e3:PyVagrae.shape p with
    | none=>rw [e3] at e;cases e
    | some nk =>
     obtain ⟨nn,kk⟩:=nk
     rw [e3] at e
     dsimp only at e
     by_cases hl:r.length < nn
     ·rw [if_pos hl] at e;cases e
     ·rw [if_neg hl] at e
      refine ⟨nn,kk,g,c,t,cs',rfl,by omega,rfl,h.symm,e2,fun hk=>?_,fun hk=>?_⟩
      ·subst hk
       have e:([p::r.take nn],r.drop nn)=(c,t):=Option.some.inj e
       exact ⟨(congrArg Prod.fst e).symm,(congrArg Prod.snd e).symm⟩
      ·subst hk
       unfold PyFlat.rows at e
       cases e4:PyFlat.row (r.drop nn) with
       | none=>rw [e4] at e;cases e
       | some xs =>
        obtain ⟨x,s⟩:=xs
        rw [e4] at e
        have e:([p::r.take nn,x],s)=(c,t):=Option.some.inj e
        cases e5:r.drop nn with
        | nil=>rw [e5] at e4;cases e4
        | cons m0 rest =>
         rw [e5] at e4
         unfold PyFlat.row at e4
         dsimp only at e4
         by_cases hm:0≤m0∧m0.toNat≤rest.length
         ·rw [if_pos hm] at e4
          have e4:(rest.take m0.toNat,rest.drop m0.toNat)=(x,s):=Option.some.inj e4
          refine ⟨m0.toNat,rest,by rw [show ((m0.toNat:Nat):Int)=m0 by omega],hm.2,?_,?_⟩
          ·have a1:[p::r.take nn,x]=c:=congrArg Prod.fst e
           have a2:rest.take m0.toNat=x:=congrArg Prod.fst e4
           rw [← a1,a2]
          ·have a1:s=t:=congrArg Prod.snd e
           have a2:rest.drop m0.toNat=s:=congrArg Prod.snd e4
           rw [← a1,a2]
         ·rw [if_neg hm] at e4;cases e4
theorem played_step {S:HS} (G:S.Good) {c:List (List Int)} {k:Vagrae.Call} (hk:VagraeNeutral.callOf c=some k) (cs:List (List (List Int))) :
  PyFlat.played VagraeNeutral.step S.spec (c::cs)=(fCall S k).2::PyFlat.played VagraeNeutral.step (fCall S k).1.spec cs:=by
 obtain ⟨h1,h2⟩:=conn_all G k
 have e:VagraeNeutral.step S.spec c=((fCall S k).1.spec,(fCall S k).2):=by
  unfold VagraeNeutral.step
  rw [hk]
  show ((Vagrae.step S.spec k).1,VagraeNeutral.encode (Vagrae.step S.spec k).2)=_
  rw [h1,h2]
 show (VagraeNeutral.step S.spec c).2::PyFlat.played VagraeNeutral.step (VagraeNeutral.step S.spec c).1 cs=_
 rw [e]
end Lc
end
section
namespace Lc
open Vagraa (Frac frac)
open VagraLine (Line Code Fault)
def nextQ (dir:List Rat) (A:Nat→List Rat) (q:List Rat):Line→Rat
 | .input k=>if q.length=1 then at0 dir k else 0
 | .num _=>0
 | .add i j=>at0 (A i) q.length+at0 (A j) q.length
 | .sub i j=>at0 (A i) q.length - at0 (A j) q.length
 | .mul i j=>mulCoefQ (A i) (A j) q.length
 | .div i j=>divCoefQ (A i) (A j) q
 | .neg i=>-(at0 (A i) q.length)
theorem mulCoefQ_congr {a b a' b':List Rat} {r:Nat} (ha:∀ s,s≤r→at0 a s=at0 a' s) (hb:∀ s,s≤r→at0 b s=at0 b' s):mulCoefQ a b r=mulCoefQ a' b' r:=by
 unfold mulCoefQ
 congr 1
 refine List.map_congr_left fun i hi=>?_
 have hi:i < r+1:=List.mem_range.mp hi
 rw [ha i (by omega),hb (r - i) (by omega)]
theorem divCoefQ_congr {a b a' b' q:List Rat} (ha:at0 a q.length=at0 a' q.length) (hb:∀ s,s≤q.length→at0 b s=at0 b' s):divCoefQ a b q=divCoefQ a' b' q:=by
 unfold divCoefQ
 rw [ha,hb 0 (Nat.zero_le _)]
 congr 2
 congr 1
 refine List.map_congr_left fun i hi=>?_
 rw [hb (q.length - i) (by omega)]
theorem nextQ_congr {dir:List Rat} {A B:Nat→List Rat} {q:List Rat} {l:Line} (h:∀ i∈l.uses,∀ s,s≤q.length→at0 (A i) s=at0 (B i) s):nextQ dir A q l=nextQ dir B q l:=by
 cases l with
 | input k=>rfl
 | num a=>rfl
 | add i j=>simp only [nextQ];rw [h i (by simp [Line.uses]) _ (Nat.le_refl _),h j (by simp [Line.uses]) _ (Nat.le_refl _)]
 | sub i j=>simp only [nextQ];rw [h i (by simp [Line.uses]) _ (Nat.le_refl _),h j (by simp [Line.uses]) _ (Nat.le_refl _)]
 | mul i j=>exact mulCoefQ_congr (h i (by simp [Line.uses])) (h j (by simp [Line.uses]))
 | div i j=>exact divCoefQ_congr (h i (by simp [Line.uses]) _ (Nat.le_refl _)) (h j (by simp [Line.uses]))
 | neg i=>simp only [nextQ];rw [h i (by simp [Line.uses]) _ (Nat.le_refl _)]
theorem at0_take {l:List Rat} {k r:Nat} (h:r < k):at0 (l.take k) r=at0 l r:=by
 unfold at0
 rw [List.getD_eq_getElem?_getD,List.getD_eq_getElem?_getD,List.getElem?_take_of_lt h]
theorem divFromQ_take (a b:List Rat) (r:Nat):∀ n,r≤n→(divFromQ a b n []).take r=divFromQ a b r []
 | 0,h=>by
  have:r=0:=by omega
  subst this;rfl
 | n+1,h=>by
  by_cases hr:r=n+1
  ·subst hr
   exact List.take_of_length_le (by rw [divFromQ_length];simp)
  ·rw [divFromQ_snoc,List.take_append_of_le_length (by rw [divFromQ_length];simp;omega)]
   exact divFromQ_take a b r n (by omega)
theorem divFromQ_at (a b:List Rat) {r n:Nat} (h:r < n):at0 (divFromQ a b n []) r=divCoefQ a b (divFromQ a b r []):=by
 have e:=divFromQ_take a b (r+1) n h
 rw [← at0_take (k:=r+1) (by omega),e,divFromQ_snoc]
 have:=at0_append_right (l:=divFromQ a b r []) (x:=divCoefQ a b (divFromQ a b r []))
 rw [divFromQ_length] at this
 simpa using this
theorem next_series {n r:Nat} {point dir:List Rat} {ss:List (List Rat)} {l:Line} (h1:1≤r) (h2:r < n):at0 (seriesQ n point dir ss l) r=nextQ dir (sAt ss) ((seriesQ n point dir ss l).take r) l:=by
 have len:((seriesQ n point dir ss l).take r).length=r:=by rw [List.length_take,seriesQ_length];omega
 cases l with
 | input k=>simp only [nextQ];rw [len,seriesQ,at0_range h2,if_neg (by omega)]
 | num a=>simp only [nextQ];rw [seriesQ,at0_range h2,if_neg (by omega)]
 | add i j=>simp only [nextQ];rw [len,seriesQ,at0_range h2]
 | sub i j=>simp only [nextQ];rw [len,seriesQ,at0_range h2]
 | mul i j=>simp only [nextQ];rw [len,seriesQ,at0_range h2]
 | neg i=>simp only [nextQ];rw [len,seriesQ,at0_range h2]
 | div i j =>
  show at0 (divFromQ (sAt ss i) (sAt ss j) n []) r=divCoefQ (sAt ss i) (sAt ss j) ((divFromQ (sAt ss i) (sAt ss j) n []).take r)
  rw [divFromQ_at _ _ h2,divFromQ_take _ _ r n (by omega)]
theorem divFromQ_congr {a b a' b':List Rat} {k:Nat} (ha:∀ s,s < k→at0 a s=at0 a' s) (hb:∀ s,s < k→at0 b s=at0 b' s):∀ m,m≤k→divFromQ a b m []=divFromQ a' b' m []
 | 0,_=>rfl
 | m+1,h=>by
  rw [divFromQ_snoc,divFromQ_snoc,divFromQ_congr ha hb m (by omega)]
  congr 2
  have len:(divFromQ a' b' m []).length=m:=by rw [divFromQ_length];simp
  refine divCoefQ_congr (by rw [len];exact ha m (by omega)) fun s hs=>hb s (by omega)
theorem range_take {k n:Nat} (h:k≤n) (f:Nat→Rat):((List.range n).map f).take k=(List.range k).map f:=by
 rw [← List.map_take,List.take_range,Nat.min_eq_left h]
theorem seriesQ_take {k n:Nat} (hk:k≤n) {point dir:List Rat} {ss ss':List (List Rat)} (hs:∀ i,sAt ss i=(sAt ss' i).take k) (l:Line):seriesQ k point dir ss l=(seriesQ n point dir ss' l).take k:=by
 have at_:∀ i s,s < k→at0 (sAt ss i) s=at0 (sAt ss' i) s:=fun i s h=>by rw [hs,at0_take h]
 cases l with
 | input m=>rw [seriesQ,seriesQ,range_take hk]
 | num a=>rw [seriesQ,seriesQ,range_take hk]
 | add i j=>rw [seriesQ,seriesQ,range_take hk];exact List.map_congr_left fun r hr=>by rw [at_ i r (List.mem_range.mp hr),at_ j r (List.mem_range.mp hr)]
 | sub i j=>rw [seriesQ,seriesQ,range_take hk];exact List.map_congr_left fun r hr=>by rw [at_ i r (List.mem_range.mp hr),at_ j r (List.mem_range.mp hr)]
 | neg i=>rw [seriesQ,seriesQ,range_take hk];exact List.map_congr_left fun r hr=>by rw [at_ i r (List.mem_range.mp hr)]
 | mul i j =>
  rw [seriesQ,seriesQ,range_take hk]
  refine List.map_congr_left fun r hr=>?_
  have hr:=List.mem_range.mp hr
  exact mulCoefQ_congr (fun s h=>at_ i s (by omega)) (fun s h=>at_ j s (by omega))
 | div i j =>
  show divFromQ (sAt ss i) (sAt ss j) k []=(divFromQ (sAt ss' i) (sAt ss' j) n []).take k
  rw [divFromQ_take _ _ k n hk]
  exact divFromQ_congr (fun s h=>at_ i s h) (fun s h=>at_ j s h) k (Nat.le_refl _)
theorem sAt_snoc {ss:List (List Rat)} {t:List Rat} (i:Nat):sAt (ss++[t]) i=if i < ss.length then sAt ss i else if i=ss.length then t else []:=by
 by_cases h:i < ss.length
 ·rw [if_pos h,sAt_append_left h]
 ·rw [if_neg h]
  by_cases h2:i=ss.length
  ·rw [if_pos h2,h2,sAt_append_right]
  ·rw [if_neg h2,sAt_out (by rw [List.length_append,List.length_cons,List.length_nil];omega)]
theorem allSeriesQ_take {k n:Nat} (hk:k≤n) {point dir:List Rat}:∀ (c:Code) (ss ss':List (List Rat)),ss.length=ss'.length→(∀ i,sAt ss i=(sAt ss' i).take k)→∀ i,sAt (allSeriesQ k point dir ss c) i=(sAt (allSeriesQ n point dir ss' c) i).take k
 | [],_,_,_,h=>h
 | l::r,ss,ss',hl,h=>by
  unfold allSeriesQ
  refine allSeriesQ_take hk r _ _ (by simp [hl]) fun i=>?_
  rw [sAt_snoc,sAt_snoc,hl]
  by_cases h1:i < ss'.length
  ·rw [if_pos h1,if_pos h1,h]
  ·rw [if_neg h1,if_neg h1]
   by_cases h2:i=ss'.length
   ·rw [if_pos h2,if_pos h2,seriesQ_take hk h]
   ·rw [if_neg h2,if_neg h2];exact (List.take_nil).symm
theorem allSeriesQ_append (n:Nat) (point dir:List Rat):∀ (c d:Code) (ss:List (List Rat)),allSeriesQ n point dir ss (c++d)=allSeriesQ n point dir (allSeriesQ n point dir ss c) d
 | [],_,_=>rfl
 | l::c,d,ss=>allSeriesQ_append n point dir c d _
theorem allSeriesQ_pre (n:Nat) (point dir:List Rat):∀ (c:Code) (ss:List (List Rat)),∃ t,allSeriesQ n point dir ss c=ss++t
 | [],ss=>⟨[],(List.append_nil ss).symm⟩
 | l::r,ss=>by
  obtain ⟨t,e⟩:=allSeriesQ_pre n point dir r (ss++[seriesQ n point dir ss l])
  exact ⟨_::t,by unfold allSeriesQ;rw [e,List.append_assoc];rfl⟩
theorem sAt_app {ss t:List (List Rat)} {i:Nat} (h:i < ss.length):sAt (ss++t) i=sAt ss i:=by
 unfold sAt
 rw [List.getD_eq_getElem?_getD,List.getD_eq_getElem?_getD,List.getElem?_append_left h]
theorem series_row {n:Nat} {point dir:List Rat} {c:Code} {i:Nat} {l:Line} (h:c[i]?=some l) :
  sAt (allSeriesQ n point dir [] c) i=seriesQ n point dir (allSeriesQ n point dir [] (c.take i)) l∧∀ j,j < i→sAt (allSeriesQ n point dir [] (c.take i)) j=sAt (allSeriesQ n point dir [] c) j:=by
 have hi:=(List.getElem?_eq_some_iff.mp h).1
 have hl:(allSeriesQ n point dir [] (c.take i)).length=i:=by
  rw [allSeriesQ_length,List.length_take]
  simp
  omega
 have ec:c=c.take i++(l::c.drop (i+1)):=by
  have e1:=List.drop_eq_getElem_cons hi
  rw [(List.getElem?_eq_some_iff.mp h).2] at e1
  rw [← e1,List.take_append_drop]
 have ea:allSeriesQ n point dir [] c=allSeriesQ n point dir (allSeriesQ n point dir [] (c.take i)) (l::c.drop (i+1)):=by
  rw [← allSeriesQ_append,← ec]
 constructor
 ·rw [ea]
  show sAt (allSeriesQ n point dir (allSeriesQ n point dir [] (c.take i)++[seriesQ n point dir (allSeriesQ n point dir [] (c.take i)) l]) (c.drop (i+1))) i=_
  obtain ⟨t,e⟩:=allSeriesQ_pre n point dir (c.drop (i+1)) (allSeriesQ n point dir [] (c.take i)++[seriesQ n point dir (allSeriesQ n point dir [] (c.take i)) l])
  rw [e,sAt_app (by rw [List.length_append,hl];simp)]
  have:=sAt_append_right (ss:=allSeriesQ n point dir [] (c.take i)) (t:=seriesQ n point dir (allSeriesQ n point dir [] (c.take i)) l)
  rw [hl] at this
  exact this
 ·intro j hj
  obtain ⟨t,e⟩:=allSeriesQ_pre n point dir (l::c.drop (i+1)) (allSeriesQ n point dir [] (c.take i))
  rw [ea,e,sAt_app (by omega)]
def ser (p d:List Rat) (c:Code):List (List Rat):=allSeriesQ 8 p d [] c
theorem ser_row_length {p d:List Rat} {c:Code} {i:Nat} (h:i < c.length):(sAt (ser p d c) i).length=8:=by
 obtain ⟨l,hl⟩:∃ l,c[i]?=some l:=⟨_,List.getElem?_eq_getElem h⟩
 unfold ser
 rw [(series_row hl).1,seriesQ_length]
theorem ser_take {p d:List Rat} {c:Code} {k:Nat} (hk:k≤8) (i:Nat):sAt (allSeriesQ k p d [] c) i=(sAt (ser p d c) i).take k :=
 allSeriesQ_take hk c [] [] rfl (fun i=>by simp [sAt]) i
theorem ser_next {p d:List Rat} {c:Code} {i r:Nat} {l:Line} {A:Nat→List Rat} (h:c[i]?=some l) (h1:1≤r) (h8:r < 8) (hu:∀ j∈l.uses,j < i)
  (hA:∀ j∈l.uses,∃ k,r < k∧A j=(sAt (ser p d c) j).take k):nextQ d A ((sAt (ser p d c) i).take r) l=at0 (sAt (ser p d c) i) r:=by
 obtain ⟨e1,e2⟩:=series_row (n:=8) (point:=p) (dir:=d) h
 have hi:=(List.getElem?_eq_some_iff.mp h).1
 have len:((sAt (ser p d c) i).take r).length=r:=by rw [List.length_take,ser_row_length hi];omega
 have e3:at0 (sAt (ser p d c) i) r=nextQ d (sAt (allSeriesQ 8 p d [] (c.take i))) ((sAt (ser p d c) i).take r) l:=by
  unfold ser
  rw [e1]
  exact next_series h1 h8
 rw [e3]
 refine nextQ_congr fun j hj s hs=>?_
 rw [len] at hs
 obtain ⟨k,hk,ea⟩:=hA j hj
 rw [ea,at0_take (by omega),e2 j (hu j hj)]
 rfl
theorem wellFrom_cons {n k:Nat} {l:Line} {r:Code} (h:VagraLine.wellFrom n k (l::r)=true):(∀ j∈l.uses,j < k)∧VagraLine.wellFrom n (k+1) r=true:=by
 unfold VagraLine.wellFrom at h
 rw [Bool.and_eq_true,Bool.and_eq_true] at h
 refine ⟨fun j hj=>?_,h.2⟩
 exact of_decide_eq_true (List.all_eq_true.mp h.1.1 j hj)
theorem well_uses {n:Nat}:∀ (c:Code) (k:Nat),VagraLine.wellFrom n k c=true→∀ (i:Nat) (l:Line),c[i]?=some l→∀ j∈l.uses,j < k+i
 | [],_,_,i,l,h=>by simp at h
 | m::r,k,hw,0,l,h=>by
  have:m=l:=by simpa using h
  subst this
  exact (wellFrom_cons hw).1
 | m::r,k,hw,i+1,l,h=>by
  have:=well_uses r (k+1) (wellFrom_cons hw).2 i l (by simpa using h)
  intro j hj
  have:=this j hj
  omega
theorem ser_run_from {p d:List Rat} {n:Nat} (hd:∀ x∈d,Small 200 x):∀ (c:Code) (us ds:List Rat) (ss:List (List Rat)),SBd ss us→ds.length=us.length→(∀ i,at0 ds i=at0 (sAt ss i) 1)→(∀ v∈us,wt v≤200) →
  VagraLine.wellFrom n us.length c=true→(runQ p us c).2=none→SBd (allSeriesQ 8 p d ss c) (runQ p us c).1∧∀ i,at0 (changesQ d (runQ p us c).1 ds c) i=at0 (sAt (allSeriesQ 8 p d ss c) i) 1
 | [],us,ds,ss,hb,hl,h1,hv,hw,hr=>⟨hb,h1⟩
 | l::r,us,ds,ss,hb,hl,h1,hv,hw,hr=>by
  obtain ⟨w1,w2⟩:=wellFrom_cons hw
  unfold runQ at hr ⊢
  cases e:valueQ p us l with
  | none=>rw [e] at hr;cases hr
  | some a =>
   rw [e] at hr
   change (if 200 < wt a then (us,some (⟨us.length,2⟩:Fault)) else runQ p (us++[a]) r).2=none at hr
   show SBd _ (if 200 < wt a then (us,some (⟨us.length,2⟩:Fault)) else runQ p (us++[a]) r).1∧∀ i,at0 (changesQ d (if 200 < wt a then (us,some (⟨us.length,2⟩:Fault)) else runQ p (us++[a]) r).1 ds (l::r)) i=_
   by_cases hwt:200 < wt a
   ·rw [if_pos hwt] at hr;cases hr
   ·rw [if_neg hwt] at hr ⊢
    have hb2:=hb.step (n:=8) (point:=p) (dir:=d) (l:=l) (by omega) (by omega) hv hd e (by omega)
    have hlen2:(us++[a]).length=us.length+1:=by simp
    obtain ⟨t,et⟩:=runQ_pre p r (us++[a])
    have atv:∀ j,j < us.length→at0 (runQ p (us++[a]) r).1 j=at0 us j:=fun j hj=>by
     rw [et,List.append_assoc,at0_pre hj]
    have ata:at0 (runQ p (us++[a]) r).1 us.length=a:=by
     rw [et,at0_pre (by rw [hlen2];omega),at0_append_right]
    have hch:changeQ d (runQ p (us++[a]) r).1 ds (at0 (runQ p (us++[a]) r).1 ds.length) l=at0 (seriesQ 8 p d ss l) 1:=by
     rw [hl,ata]
     cases l with
     | input k=>rw [seriesQ,at0_range (by omega)];rfl
     | num b=>rw [seriesQ,at0_range (by omega)];rfl
     | add i j=>rw [seriesQ,at0_range (by omega),changeQ,h1,h1]
     | sub i j=>rw [seriesQ,at0_range (by omega),changeQ,h1,h1]
     | neg i=>rw [seriesQ,at0_range (by omega),changeQ,h1]
     | mul i j =>
      have hi:=w1 i (by simp [Line.uses])
      have hj:=w1 j (by simp [Line.uses])
      rw [seriesQ,at0_range (by omega),changeQ,atv i hi,atv j hj,h1,h1]
      show _=sumQ [at0 (sAt ss i) 0*at0 (sAt ss j) 1,at0 (sAt ss i) 1*at0 (sAt ss j) 0]
      rw [sumQ_cons,sumQ_cons,sumQ_nil,Rat.add_zero,hb.head,hb.head,Rat.add_comm]
     | div i j =>
      have hj:=w1 j (by simp [Line.uses])
      have e0:=series_head (dir:=d) (n:=8) (by omega) hb.head e
      change at0 (divFromQ (sAt ss i) (sAt ss j) 8 []) 0=a at e0
      rw [changeQ,atv j hj,h1,h1]
      show _=at0 (divFromQ (sAt ss i) (sAt ss j) 8 []) 1
      rw [divFromQ_at _ _ (show 1 < 8 by omega)]
      rw [divFromQ_at _ _ (show 0 < 8 by omega)] at e0
      show _=divCoefQ (sAt ss i) (sAt ss j) [divCoefQ (sAt ss i) (sAt ss j) []]
      change divCoefQ (sAt ss i) (sAt ss j) []=a at e0
      rw [e0]
      show _=(at0 (sAt ss i) 1 - sumQ [at0 [a] 0*at0 (sAt ss j) 1]) / at0 (sAt ss j) 0
      rw [sumQ_cons,sumQ_nil,Rat.add_zero,hb.head]
      rfl
    unfold changesQ allSeriesQ
    rw [hch]
    refine ser_run_from hd r (us++[a]) (ds++[at0 (seriesQ 8 p d ss l) 1]) _ hb2 (by simp [hl]) (fun i=>?_) (fun v hv'=>?_) (by rw [hlen2];exact w2) hr
    ·have hsl:ss.length=us.length:=hb.len.symm
     rw [sAt_snoc]
     by_cases q1:i < ss.length
     ·rw [if_pos q1,at0_append_left (by omega),h1]
     ·rw [if_neg q1]
      by_cases q2:i=ss.length
      ·rw [if_pos q2,q2,hsl,← hl,at0_append_right]
      ·rw [if_neg q2,at0_out (by simp;omega)];rfl
    ·rcases List.mem_append.mp hv' with hv' | hv'
     ·exact hv v hv'
     ·have:v=a:=by simpa using hv'
      subst this
      omega
theorem ser_run {p d:List Rat} {c:Code} {n:Nat} (hd:∀ x∈d,Small 200 x) (hw:VagraLine.wellFrom n 0 c=true) (hr:(runQ p [] c).2=none) (hc:c.length≤80) :
  (∀ i,at0 (sAt (ser p d c) i) 0=at0 (runQ p [] c).1 i)∧(∀ i,at0 (changesQ d (runQ p [] c).1 [] c) i=at0 (sAt (ser p d c) i) 1)∧∀ i r,Small 226000 (at0 (sAt (ser p d c) i) r):=by
 obtain ⟨h1,h2⟩:=ser_run_from hd c [] [] [] SBd.nil rfl (fun i=>rfl) (fun v hv=>nomatch hv) hw hr
 refine ⟨h1.head,h2,h1.small (fun v hv=>runQ_small p c [] (fun v hv=>nomatch hv) v hv) (by rw [allSeriesQ_length];simpa using hc) (n:=8) (fun s hs=>?_) (Nat.le_refl _)⟩
 obtain ⟨i,hi⟩:=List.getElem?_of_mem hs
 have hi2:=(List.getElem?_eq_some_iff.mp hi).1
 have e:sAt (ser p d c) i=s:=by
  unfold sAt ser
  rw [List.getD_eq_getElem?_getD,hi]
  rfl
 rw [← e,ser_row_length (by rw [allSeriesQ_length] at hi2;simpa using hi2)]
 exact Nat.le_refl _
end Lc
end
section
namespace Lc
open Vagraa (Frac frac)
open VagraLine (Line Code Fault)
def prodsQ (l:List (Rat × Rat)):List Rat:=l.map fun x=>x.1*x.2
def bothB (x:Rat × Rat):Bool:=!(decide (x.1=0) || decide (x.2=0))
theorem sumQ_filter:∀ l:List (Rat × Rat),sumQ (prodsQ (l.filter bothB))=sumQ (prodsQ l)
 | []=>rfl
 | x::l=>by
  unfold prodsQ at *
  rw [List.filter_cons]
  have ih:=sumQ_filter l
  unfold prodsQ at ih
  by_cases h:bothB x=true
  ·rw [if_pos h,List.map_cons,List.map_cons,sumQ_cons,sumQ_cons,ih]
  ·rw [if_neg h,List.map_cons,sumQ_cons,ih]
   have h0:x.1*x.2=0:=by
    unfold bothB at h
    have h:x.1=0∨x.2=0:=by
     by_cases q:x.1=0
     ·exact .inl q
     ·by_cases q2:x.2=0
      ·exact .inr q2
      ·exact absurd (by rw [decide_eq_false q,decide_eq_false q2];rfl) h
    rcases h with h | h
    ·rw [h,Rat.zero_mul]
    ·rw [h,Rat.mul_zero]
   rw [h0,Rat.zero_add]
theorem sumQ_small {m:Nat}:∀ l:List Rat,(∀ x∈l,Small m x)→Small ((m+1)*l.length+1) (sumQ l)
 | [],_=>Small.zero (by omega)
 | x::l,h=>by
  rw [sumQ_cons]
  have a:=Small.add (h x (List.mem_cons_self ..)) (sumQ_small l fun y hy=>h y (List.mem_cons_of_mem _ hy))
  refine a.mono ?_
  rw [List.length_cons,Nat.mul_succ]
  omega
theorem natCast_ne {n:Nat} (h:0 < n):((n:Nat):Rat)≠0:=by
 intro e
 have:n=0:=by exact_mod_cast (Rat.natCast_eq_zero_iff.mp e)
 omega
theorem once_step {S:Rat} {upper:Int} {lower:Nat} (hl:0 < lower) (h:(upper:Rat)=S*((lower:Nat):Rat)) (x y:Rat) :
  ((upper*((x.den*y.den / Nat.gcd lower (x.den*y.den):Nat):Int)+x.num*y.num*((lower / Nat.gcd lower (x.den*y.den):Nat):Int):Int):Rat)=(S+x*y)*((lower*(x.den*y.den / Nat.gcd lower (x.den*y.den)):Nat):Rat):=by
 have hg:0 < Nat.gcd lower (x.den*y.den):=Nat.gcd_pos_of_pos_left _ hl
 obtain ⟨o,ho⟩:=Nat.gcd_dvd_right lower (x.den*y.den)
 obtain ⟨l,hl'⟩:=Nat.gcd_dvd_left lower (x.den*y.den)
 generalize hG:Nat.gcd lower (x.den*y.den)=g at *
 have eo:x.den*y.den / g=o:=by rw [ho,Nat.mul_div_cancel_left _ hg]
 have el:lower / g=l:=by rw [hl',Nat.mul_div_cancel_left _ hg]
 rw [eo,el,Rat.intCast_add,Rat.intCast_mul,Rat.intCast_mul,Rat.intCast_mul,h,Rat.natCast_mul]
 have hx:=mul_den x
 have hy:=mul_den y
 rw [← hx,← hy]
 have e1:(((x.den:Nat):Rat)*((y.den:Nat):Rat))=((g:Nat):Rat)*((o:Nat):Rat):=by rw [← Rat.natCast_mul,ho,Rat.natCast_mul]
 have e2:((lower:Nat):Rat)=((g:Nat):Rat)*((l:Nat):Rat):=by rw [← Rat.natCast_mul,← hl']
 have c1:(((o:Nat):Int):Rat)=((o:Nat):Rat):=rfl
 have c2:(((l:Nat):Int):Rat)=((l:Nat):Rat):=rfl
 rw [c1,c2,e2]
 generalize ((x.den:Nat):Rat)=dx at *
 generalize ((y.den:Nat):Rat)=dy at *
 generalize ((g:Nat):Rat)=G at *
 generalize ((o:Nat):Rat)=O at *
 generalize ((l:Nat):Rat)=L at *
 have:x*dx*(y*dy)*L=x*y*(dx*dy)*L:=by grind
 rw [this,e1]
 grind
theorem once_end {S:Rat} {upper:Int} {lower:Nat} (hl:0 < lower) (h:(upper:Rat)=S*((lower:Nat):Rat)):mkRat upper lower=S:=by
 rw [Rat.mkRat_eq_div,h]
 have:=natCast_ne hl
 rw [Rat.div_def,Rat.mul_assoc,Rat.mul_inv_cancel _ this,Rat.mul_one]
theorem once_small {upper:Int} {lower B m:Nat} {x y:Rat} (hu:upper.natAbs < 2 ^ B) (hl:lower < 2 ^ B) (hx:Small m x) (hy:Small m y) :
  (upper*((x.den*y.den / Nat.gcd lower (x.den*y.den):Nat):Int)+x.num*y.num*((lower / Nat.gcd lower (x.den*y.den):Nat):Int)).natAbs < 2 ^ (B+(2*m+1))∧lower*(x.den*y.den / Nat.gcd lower (x.den*y.den)) < 2 ^ (B+(2*m+1)):=by
 have ho:x.den*y.den / Nat.gcd lower (x.den*y.den) < 2 ^ (m+m):=Nat.lt_of_le_of_lt (Nat.div_le_self _ _) (mul_lt_pow hx.2 hy.2)
 have hl':lower / Nat.gcd lower (x.den*y.den) < 2 ^ B:=Nat.lt_of_le_of_lt (Nat.div_le_self _ _) hl
 constructor
 ·have a1:=natAbs_mul_lt hu (y:=((x.den*y.den / Nat.gcd lower (x.den*y.den):Nat):Int)) (n:=m+m) (by rw [Int.natAbs_natCast];exact ho)
  have a2:=natAbs_mul_lt (natAbs_mul_lt hx.1 hy.1) (y:=((lower / Nat.gcd lower (x.den*y.den):Nat):Int)) (n:=B) (by rw [Int.natAbs_natCast];exact hl')
  rw [show m+m+B=B+(m+m) by omega] at a2
  exact lt_pow_mono (natAbs_add_lt a1 a2) (by omega)
 ·exact lt_pow_mono (mul_lt_pow hl ho) (by omega)
inductive Reach (c:Code) (i:Nat):Nat→Prop
 | here:Reach c i i
 | step {j u:Nat} {l:Line}:Reach c i j→c[j]?=some l→u∈l.uses→Reach c i u
def setAll (nd:List Bool) (us:List Nat):List Bool:=us.foldl (fun a u=>a.set u true) nd
theorem setAll_length (us:List Nat):∀ nd:List Bool,(setAll nd us).length=nd.length:=by
 induction us with
 | nil=>intro nd;rfl
 | cons u us ih=>intro nd;show (setAll (nd.set u true) us).length=_;rw [ih,List.length_set]
theorem setAll_get (j:Nat) (us:List Nat):∀ nd:List Bool,(setAll nd us)[j]?=some true ↔ nd[j]?=some true∨(j∈us∧j < nd.length):=by
 induction us with
 | nil=>intro nd;simp [setAll]
 | cons u us ih =>
  intro nd
  show (setAll (nd.set u true) us)[j]?=some true ↔ _
  rw [ih,List.length_set,List.getElem?_set]
  by_cases h:u=j
  ·subst h
   by_cases hl:u < nd.length
   ·simp [hl]
   ·simp [hl]
  ·rw [if_neg h]
   constructor
   ·rintro (a | ⟨a,b⟩)
    ·exact .inl a
    ·exact .inr ⟨List.mem_cons_of_mem _ a,b⟩
   ·rintro (a | ⟨a,b⟩)
    ·exact .inl a
    ·rcases List.mem_cons.mp a with e | a
     ·exact absurd e.symm h
     ·exact .inr ⟨a,b⟩
structure NInv (c:Code) (i t:Nat) (nd:List Bool):Prop where
 len:nd.length=i+1
 top:nd[i]?=some true
 rch:∀ j,nd[j]?=some true→Reach c i j
 cls:∀ j:Nat,i < j+t→nd[j]?=some true→∀ l,c[j]?=some l→∀ u∈l.uses,nd[u]?=some true
theorem NInv.start (c:Code) (i:Nat):NInv c i 0 ((List.replicate (i+1) false).set i true):=by
 refine ⟨by simp,by simp,fun j h=>?_,fun j hj h=>?_⟩
 ·rw [List.getElem?_set] at h
  by_cases e:i=j
  ·subst e;exact .here
  ·rw [if_neg e,List.getElem?_replicate] at h
   split at h <;> cases h
 ·have:=(List.getElem?_eq_some_iff.mp h).1
  simp at this
  omega
theorem NInv.skip {c:Code} {i t:Nat} {nd:List Bool} (h:NInv c i t nd) (ht:t≤i) (hn:nd[i - t]?=some true→∀ l,c[i - t]?=some l→l.uses=[]):NInv c i (t+1) nd:=by
 refine ⟨h.len,h.top,h.rch,fun j hj hd l hl u hu=>?_⟩
 by_cases e:i < j+t
 ·exact h.cls j e hd l hl u hu
 ·have:j=i - t:=by omega
  subst this
  rw [hn hd l hl] at hu
  cases hu
theorem NInv.sets {c:Code} {i t:Nat} {nd:List Bool} {l:Line} (h:NInv c i t nd) (ht:t≤i) (hd:nd[i - t]?=some true) (hl:c[i - t]?=some l) (hu:∀ u∈l.uses,u < i - t):NInv c i (t+1) (setAll nd l.uses):=by
 refine ⟨by rw [setAll_length,h.len],(setAll_get _ _ _).mpr (.inl h.top),fun j hj=>?_,fun j hj hd' m hm u hu'=>?_⟩
 ·rcases (setAll_get _ _ _).mp hj with a | ⟨a,_⟩
  ·exact h.rch j a
  ·exact (h.rch _ hd).step hl a
 ·refine (setAll_get _ _ _).mpr ?_
  by_cases e:i < j+t
  ·rcases (setAll_get _ _ _).mp hd' with a | ⟨a,_⟩
   ·exact .inl (h.cls j e a m hm u hu')
   ·have:=hu j a
    omega
  ·have:j=i - t:=by omega
   subst this
   rw [hl] at hm
   cases hm
   exact .inr ⟨hu',by rw [h.len];have:=hu u hu';omega⟩
structure Behind (c:Code) (i:Nat) (L:List Nat):Prop where
 inc:L.Pairwise (· < ·)
 top:i∈L
 rch:∀ j∈L,j≤i∧Reach c i j
 cls:∀ j∈L,∀ l,c[j]?=some l→∀ u∈l.uses,u∈L
def trues (i:Nat) (nd:List Bool):List Nat:=(List.range i).filter fun j=>nd.getD j false
theorem mem_trues {i j:Nat} {nd:List Bool} (h:nd.length=i):j∈trues i nd ↔ nd[j]?=some true:=by
 unfold trues
 rw [List.mem_filter,List.mem_range,List.getD_eq_getElem?_getD]
 constructor
 ·rintro ⟨_,b⟩
  cases e:nd[j]? with
  | none=>rw [e] at b;cases b
  | some x=>rw [e] at b;simpa using b
 ·intro e
  rw [e]
  exact ⟨by have:=(List.getElem?_eq_some_iff.mp e).1;omega,rfl⟩
theorem NInv.behind {c:Code} {i:Nat} {nd:List Bool} (h:NInv c i (i+1) nd):Behind c i (trues (i+1) nd):=by
 refine ⟨List.pairwise_lt_range.sublist List.filter_sublist,(mem_trues h.len).mpr h.top,fun j hj=>?_,fun j hj l hl u hu=>?_⟩
 ·have:=(mem_trues h.len).mp hj
  have hlt:=(List.getElem?_eq_some_iff.mp this).1
  exact ⟨by rw [h.len] at hlt;omega,h.rch j this⟩
 ·have hj':=(mem_trues h.len).mp hj
  exact (mem_trues h.len).mpr (h.cls j (by omega) hj' l hl u hu)
theorem Reach.in {c:Code} {i j:Nat} {L:List Nat} (B:Behind c i L) (h:Reach c i j):j∈L:=by
 induction h with
 | here=>exact B.top
 | step _ hl hu ih=>exact B.cls _ ih _ hl _ hu
theorem reachesFrom_append (n:Nat):∀ (c d:Code) (rs:List (List Bool)),Vagrae.reachesFrom n rs (c++d)=Vagrae.reachesFrom n (Vagrae.reachesFrom n rs c) d
 | [],_,_=>rfl
 | l::c,d,rs=>reachesFrom_append n c d _
theorem reachesFrom_pre (n:Nat):∀ (c:Code) (rs:List (List Bool)),∃ t,Vagrae.reachesFrom n rs c=rs++t
 | [],rs=>⟨[],(List.append_nil rs).symm⟩
 | l::r,rs=>by
  obtain ⟨t,e⟩:=reachesFrom_pre n r (rs++[Vagrae.Line.reaches n rs l])
  exact ⟨_::t,by unfold Vagrae.reachesFrom;rw [e,List.append_assoc];rfl⟩
theorem reachesFrom_length (n:Nat):∀ (c:Code) (rs:List (List Bool)),(Vagrae.reachesFrom n rs c).length=rs.length+c.length
 | [],_=>rfl
 | l::r,rs=>by
  unfold Vagrae.reachesFrom
  rw [reachesFrom_length n r,List.length_append,List.length_cons]
  simp only [List.length_nil,List.length_cons]
  omega
theorem getD_app {α:Type} {ss t:List (List α)} {i:Nat} (h:i < ss.length):(ss++t).getD i []=ss.getD i []:=by
 rw [List.getD_eq_getElem?_getD,List.getD_eq_getElem?_getD,List.getElem?_append_left h]
theorem reach_row {n:Nat} {c:Code} {i:Nat} {l:Line} (h:c[i]?=some l) :
  (Vagrae.reaches n c).getD i []=Vagrae.Line.reaches n (Vagrae.reaches n (c.take i)) l∧∀ j,j < i→(Vagrae.reaches n (c.take i)).getD j []=(Vagrae.reaches n c).getD j []:=by
 have hi:=(List.getElem?_eq_some_iff.mp h).1
 have hl:(Vagrae.reaches n (c.take i)).length=i:=by
  unfold Vagrae.reaches
  rw [reachesFrom_length,List.length_take]
  simp
  omega
 have ec:c=c.take i++(l::c.drop (i+1)):=by
  have e1:=List.drop_eq_getElem_cons hi
  rw [(List.getElem?_eq_some_iff.mp h).2] at e1
  rw [← e1,List.take_append_drop]
 have ea:Vagrae.reaches n c=Vagrae.reachesFrom n (Vagrae.reaches n (c.take i)) (l::c.drop (i+1)):=by
  unfold Vagrae.reaches
  rw [← reachesFrom_append,← ec]
 constructor
 ·rw [ea]
  show (Vagrae.reachesFrom n (Vagrae.reaches n (c.take i)++[Vagrae.Line.reaches n (Vagrae.reaches n (c.take i)) l]) (c.drop (i+1))).getD i []=_
  obtain ⟨t,e⟩:=reachesFrom_pre n (c.drop (i+1)) (Vagrae.reaches n (c.take i)++[Vagrae.Line.reaches n (Vagrae.reaches n (c.take i)) l])
  rw [e,getD_app (by rw [List.length_append,hl];simp),List.getD_eq_getElem?_getD]
  have:=List.getElem?_concat_length (l:=Vagrae.reaches n (c.take i)) (a:=Vagrae.Line.reaches n (Vagrae.reaches n (c.take i)) l)
  rw [hl] at this
  rw [this]
  rfl
 ·intro j hj
  obtain ⟨t,e⟩:=reachesFrom_pre n (l::c.drop (i+1)) (Vagrae.reaches n (c.take i))
  rw [ea,e,getD_app (by omega)]
theorem Reach.up {c:Code} {i u j:Nat} {l:Line} (hl:c[i]?=some l) (hu:u∈l.uses) (h:Reach c u j):Reach c i j:=by
 induction h with
 | here=>exact (Reach.here).step hl hu
 | step _ a b ih=>exact ih.step a b
theorem Reach.down {c:Code} {i j:Nat} (h:Reach c i j):j=i∨∃ l u,c[i]?=some l∧u∈l.uses∧Reach c u j:=by
 induction h with
 | here=>exact .inl rfl
 | step _ a b ih =>
  rcases ih with rfl | ⟨l,u,h1,h2,h3⟩
  ·exact .inr ⟨_,_,a,b,.here⟩
  ·exact .inr ⟨l,u,h1,h2,h3.step a b⟩
theorem any_mem_congr {f g:Nat→Bool}:∀ {l:List Nat},(∀ x∈l,f x=g x)→l.any f=l.any g
 | [],_=>rfl
 | x::l,h=>by rw [List.any_cons,List.any_cons,h x (List.mem_cons_self ..),any_mem_congr fun y hy=>h y (List.mem_cons_of_mem _ hy)]
def isIn (k:Nat):Line→Bool
 | .input m=>decide (m=k)
 | _=>false
theorem hang_iff {n:Nat} {c:Code} (hw:∀ (i:Nat) (l:Line),c[i]?=some l→∀ j∈l.uses,j < i) {k:Nat} (hk:k < n):∀ i,i < c.length→(((Vagrae.reaches n c).getD i []).getD k false=true ↔ ∃ j,Reach c i j∧c[j]?=some (Line.input k)):=by
 intro i
 induction i using Nat.strongRecOn with
 | _ i ih =>
  intro hi
  obtain ⟨l,hl⟩:∃ l,c[i]?=some l:=⟨_,List.getElem?_eq_getElem hi⟩
  obtain ⟨e1,e2⟩:=reach_row (n:=n) hl
  have eg:((Vagrae.reaches n c).getD i []).getD k false=(isIn k l || l.uses.any fun u=>((Vagrae.reaches n c).getD u []).getD k false):=by
   rw [e1]
   unfold Vagrae.Line.reaches
   rw [List.getD_eq_getElem?_getD,List.getElem?_map,List.getElem?_range hk]
   have e3:(l.uses.any fun u=>((Vagrae.reaches n c).getD u []).getD k false)=l.uses.any fun u=>((Vagrae.reaches n (c.take i)).getD u []).getD k false :=
    any_mem_congr fun j hj=>by rw [e2 j (hw i l hl j hj)]
   rw [e3]
   cases l <;> rfl
  rw [eg,Bool.or_eq_true,List.any_eq_true]
  constructor
  ·rintro (a | ⟨u,hu,a⟩)
   ·refine ⟨i,.here,?_⟩
    rw [hl]
    cases l with
    | input m=>rw [show m=k from of_decide_eq_true a]
    | _=>cases a
   ·have hui:=hw i l hl u hu
    obtain ⟨j,h1,h2⟩:=(ih u hui (by omega)).mp a
    exact ⟨j,h1.up hl hu,h2⟩
  ·rintro ⟨j,h1,h2⟩
   rcases h1.down with rfl | ⟨m,u,h3,h4,h5⟩
   ·rw [hl] at h2
    cases h2
    exact .inl (decide_eq_true rfl)
   ·rw [hl] at h3
    cases h3
    have hui:=hw i l hl u h4
    exact .inr ⟨u,h4,(ih u hui (by omega)).mpr ⟨j,h5,h2⟩⟩
theorem sorted_eq:∀ {a b:List Int},a.Pairwise (· < ·)→b.Pairwise (· < ·)→(∀ x,x∈a ↔ x∈b)→a=b
 | [],[],_,_,_=>rfl
 | [],y::b,_,_,h=>by have:=(h y).mpr (List.mem_cons_self ..);cases this
 | x::a,[],_,_,h=>by have:=(h x).mp (List.mem_cons_self ..);cases this
 | x::a,y::b,ha,hb,h=>by
  rw [List.pairwise_cons] at ha hb
  have hxy:x=y:=by
   have h1:=(h x).mp (List.mem_cons_self ..)
   have h2:=(h y).mpr (List.mem_cons_self ..)
   rcases List.mem_cons.mp h1 with e | e
   ·exact e
   ·rcases List.mem_cons.mp h2 with e' | e'
    ·exact e'.symm
    ·have:=ha.1 y e'
     have:=hb.1 x e
     omega
  subst hxy
  rw [sorted_eq ha.2 hb.2 fun z=>?_]
  constructor
  ·intro hz
   rcases List.mem_cons.mp ((h z).mp (List.mem_cons_of_mem _ hz)) with e | e
   ·subst e;have:=ha.1 z hz;omega
   ·exact e
  ·intro hz
   rcases List.mem_cons.mp ((h z).mpr (List.mem_cons_of_mem _ hz)) with e | e
   ·subst e;have:=hb.1 z hz;omega
   ·exact e
theorem raw_cases {r:List Int} (h:RawOk r):(∃ k,r=[0,k]∧0≤k)∨(∃ n d,r=[1,n,d]∧1≤d)∨(∃ o us,r=o::us∧2≤o∧o≤6∧us≠[]∧(∀ u∈us,0≤u)∧us.length≤2∧(lineOf r).uses=us.map Int.toNat∧(lineOf r).isOp=true):=by
 rcases h with ⟨k,rfl,hk⟩ | ⟨a,d,rfl,hd⟩ | ⟨o,i,j,rfl,h2,h5,hi,hj⟩ | ⟨i,rfl,hi⟩
 ·exact .inl ⟨k,rfl,hk⟩
 ·exact .inr (.inl ⟨a,d,rfl,hd⟩)
 ·refine .inr (.inr ⟨o,[i,j],rfl,h2,by omega,by simp,?_,by simp,?_,?_⟩)
  ·intro u hu
   have:u=i∨u=j:=by simpa using hu
   rcases this with rfl | rfl <;> assumption
  ·have ho:o=2∨o=3∨o=4∨o=5:=by omega
   rcases ho with rfl | rfl | rfl | rfl <;> rfl
  ·have ho:o=2∨o=3∨o=4∨o=5:=by omega
   rcases ho with rfl | rfl | rfl | rfl <;> rfl
 ·exact .inr (.inr ⟨6,[i],rfl,by decide,by decide,by simp,by simpa using hi,by simp,rfl,rfl⟩)
def opB (r:List Int):Bool:=match r with
 | k::_=>decide (k≠0) && decide (k≠1)
 | []=>false
theorem opB_F {r:List Int} (h:RawOk r):opB r=(lineOf r).isOp:=by
 rcases raw_cases h with ⟨k,rfl,_⟩ | ⟨n,d,rfl,_⟩ | ⟨o,us,rfl,h2,h6,_,_,_,_,e⟩
 ·rfl
 ·rfl
 ·rw [e]
  show (decide (o≠0) && decide (o≠1))=true
  rw [decide_eq_true (by omega),decide_eq_true (by omega)]
  rfl
def costsL:List Int:=[0,0,1,1,3,3,1]
theorem cost_F {r:List Int} (h:RawOk r):∃ k:Nat,(∃ us,r=(k:Int)::us)∧k < 7∧costsL[k]?=some ((Vagrae.Line.cost (lineOf r):Nat):Int):=by
 rcases h with ⟨k,rfl,hk⟩ | ⟨a,d,rfl,hd⟩ | ⟨o,i,j,rfl,h2,h5,hi,hj⟩ | ⟨i,rfl,hi⟩
 ·exact ⟨0,⟨_,rfl⟩,by decide,rfl⟩
 ·exact ⟨1,⟨_,rfl⟩,by decide,rfl⟩
 ·have ho:o=2∨o=3∨o=4∨o=5:=by omega
  rcases ho with rfl | rfl | rfl | rfl
  ·exact ⟨2,⟨_,rfl⟩,by decide,rfl⟩
  ·exact ⟨3,⟨_,rfl⟩,by decide,rfl⟩
  ·exact ⟨4,⟨_,rfl⟩,by decide,rfl⟩
  ·exact ⟨5,⟨_,rfl⟩,by decide,rfl⟩
 ·exact ⟨6,⟨_,rfl⟩,by decide,rfl⟩
end Lc
end
section
namespace L2
open PySem PySem.Spec PyProof.Rows
abbrev Key:=Sum Int Str
def keyIs:Key→Value→Bool
 | .inl k,v=>Value.isInt k v
 | .inr x,v=>Value.isStrOf x v
def keyH (w:World):Key→Int
 | .inl k=>hashInt k
 | .inr x=>hashStr w x
theorem keyIs_shape:∀ {k:Key} {v:Value},keyIs k v=true→(∃ i t,k=Sum.inl i∧v=Value.int i t)∨(∃ x t,k=Sum.inr x∧v=Value.str x t)
 | .inl i,v,h=>by
  obtain ⟨t,e⟩:=Value.isInt_shape (k:=i) (v:=v) h
  exact .inl ⟨i,t,rfl,e⟩
 | .inr x,v,h=>by
  obtain ⟨t,e⟩:=Value.isStrOf_shape (x:=x) (v:=v) h
  exact .inr ⟨x,t,rfl,e⟩
theorem keyIs_int (i:Int) (t:Tok):keyIs (.inl i) (.int i t)=true:=by simp [keyIs,Value.isInt]
theorem keyIs_str (x:Str) (t:Tok):keyIs (.inr x) (.str x t)=true:=by simp [keyIs,Value.isStrOf]
theorem key_ll (a b:Int):decide ((Sum.inl a:Key)=Sum.inl b)=(a == b):=by
 by_cases e:a=b
 ·subst e;simp
 ·have h:¬ (Sum.inl a:Key)=Sum.inl b:=fun q=>e (Sum.inl.inj q)
  rw [decide_eq_false h]
  exact (beq_eq_false_iff_ne.mpr e).symm
theorem key_rr (a b:Str):decide ((Sum.inr a:Key)=Sum.inr b)=decide (a=b):=by
 by_cases e:a=b
 ·subst e;simp
 ·have h:¬ (Sum.inr a:Key)=Sum.inr b:=fun q=>e (Sum.inr.inj q)
  rw [decide_eq_false h,decide_eq_false e]
theorem key_lr (a:Int) (b:Str):decide ((Sum.inl a:Key)=Sum.inr b)=false:=decide_eq_false (fun q=>nomatch q)
theorem key_rl (a:Str) (b:Int):decide ((Sum.inr a:Key)=Sum.inl b)=false:=decide_eq_false (fun q=>nomatch q)
def mixKind (prog:Program) (w:World):PySem.KeyKind prog w Key where
 is:=keyIs
 hash:=keyH w
 inj:=fun v a b ha hb=>by
  rcases keyIs_shape ha with ⟨i,t,rfl,rfl⟩ | ⟨x,t,rfl,rfl⟩
  ·rcases keyIs_shape hb with ⟨j,u,rfl,e⟩ | ⟨y,u,rfl,e⟩
   ·injection e with e1 _;rw [e1]
   ·exact nomatch e
  ·rcases keyIs_shape hb with ⟨j,u,rfl,e⟩ | ⟨y,u,rfl,e⟩
   ·exact nomatch e
   ·injection e with e1 _;rw [e1]
 byValue:=fun k v h=>by
  rcases keyIs_shape h with ⟨i,t,rfl,rfl⟩ | ⟨x,t,rfl,rfl⟩ <;> rfl
 pyHash:=fun hv h=>by
  rcases keyIs_shape hv with ⟨i,t,rfl,rfl⟩ | ⟨x,t,rfl,rfl⟩
  ·exact wpAny_pyHash_int h
  ·exact wpAny_pyHash_str h
 eqBool:=fun hu hv h=>by
  rcases keyIs_shape hu with ⟨i,t,rfl,rfl⟩ | ⟨x,t,rfl,rfl⟩
  ·rcases keyIs_shape hv with ⟨j,u,rfl,rfl⟩ | ⟨y,u,rfl,rfl⟩
   ·rw [key_ll] at h;exact wpAny_eqBool_int h
   ·rw [key_lr] at h;exact SeqAt.EqAt.int_str i t y u _ _ _ _ h
  ·rcases keyIs_shape hv with ⟨j,u,rfl,rfl⟩ | ⟨y,u,rfl,rfl⟩
   ·rw [key_rl] at h;exact SeqAt.EqAt.str_int x t j u _ _ _ _ h
   ·rw [key_rr] at h;exact wpAny_eqBool_str h
 «strs»:=fun k x t v h=>by
  rcases keyIs_shape h with ⟨i,u,rfl,e⟩ | ⟨y,u,rfl,e⟩
  ·exact nomatch e
  ·injection e with e1 _
   subst e1
   cases v <;> rfl
theorem mixKind_int (prog:Program) (w:World) (i:Int) (t:Tok):(mixKind prog w).is (.inl i) (.int i t)=true:=keyIs_int i t
theorem mixKind_str (prog:Program) (w:World) (x:Str) (t:Tok):(mixKind prog w).is (.inr x) (.str x t)=true:=keyIs_str x t
end L2
namespace L2
open PySem PySem.Spec PyProof.Rows
inductive V where
 | non | bl (b:Bool) | int (i:Int) | str (x:Str) | byt (b:Array UInt8) | flt (b:UInt64) | ref (a:Addr) | ty (n:String)
 deriving DecidableEq
def RelV:V→Value→Prop
 | .non,u=>u=Value.none
 | .bl b,u=>u=Value.bool b
 | .int i,u=>∃ t,u=Value.int i t
 | .str x,u=>∃ t,u=Value.str x t
 | .byt b,u=>∃ t,u=Value.bytes b t
 | .flt b,u=>∃ t,u=Value.float b t
 | .ref a,u=>u=Value.ref a
 | .ty n,u=>u=Value.type n
abbrev Vals:List V→List Value→Prop:=Paired RelV
theorem Vals.length {xs:List V} {us:List Value} (r:Vals xs us):xs.length=us.length:=Paired.length r
theorem Vals.get:∀ {xs:List V} {us:List Value} {i:Nat} {x:V},Vals xs us→xs[i]?=some x→∃ u,us[i]?=some u∧RelV x u
 | _,_,_,_,.nil,e=>by simp at e
 | _,_,0,_,.cons r _,e=>by simp at e;subst e;exact ⟨_,rfl,r⟩
 | _,_,i+1,x,.cons _ t,e=>by
  obtain ⟨u,h1,h2⟩:=Vals.get (i:=i) (x:=x) t (by simpa using e)
  exact ⟨u,by simpa using h1,h2⟩
theorem Vals.set {x:V} {u:Value} (r:RelV x u):∀ {xs:List V} {us:List Value} (i:Nat),Vals xs us→Vals (xs.set i x) (us.set i u)
 | _,_,_,.nil=>.nil
 | _,_,0,.cons _ t=>.cons r t
 | _,_,i+1,.cons q t=>.cons q (Vals.set r i t)
theorem Vals.append:∀ {xs ys:List V} {us ws:List Value},Vals xs us→Vals ys ws→Vals (xs++ys) (us++ws)
 | _,_,_,_,.nil,s=>s
 | _,_,_,_,.cons r t,s=>.cons r (Vals.append t s)
theorem Vals.take:∀ {xs:List V} {us:List Value} (n:Nat),Vals xs us→Vals (xs.take n) (us.take n)
 | _,_,0,_=>.nil
 | _,_,_+1,.nil=>.nil
 | _,_,n+1,.cons r t=>.cons r (Vals.take n t)
theorem Vals.drop:∀ {xs:List V} {us:List Value} (n:Nat),Vals xs us→Vals (xs.drop n) (us.drop n)
 | _,_,0,r=>r
 | _,_,_+1,.nil=>.nil
 | _,_,n+1,.cons _ t=>Vals.drop n t
def RelO:Option V→Option Value→Prop
 | some v,some u=>RelV v u
 | none,none=>True
 | _,_=>False
def KV {κ:Type}:List (κ × V)→List (κ × Value)→Prop:=Paired fun (p:κ × V) (q:κ × Value)=>p.1=q.1∧RelV p.2 q.2
def kV:Key→V
 | .inl i=>.int i
 | .inr x=>.str x
inductive HO where
 | lst (xs:List V)
 | tup (xs:List V)
 | dK (kvs:List (Key × V)) | dT (kvs:List (List Key × V))
 | set (S:Int→Bool) (n:Nat)
 | ins (C dx:Addr) (fs:List (Str × V))
 | own (x:Addr)
 | xd (fs:List (Str × V))
 | met (f x:Addr)
 | rng (lo hi:Int)
 | frz (o:Obj) (u:HO)
 | tbl (ps:Array Value)
 | ext (φ:Heap→Prop)
abbrev Hp:=Addr→Option HO
def upd (H:Hp) (a:Addr) (o:HO):Hp:=fun b=>if b=a then some o else H b
theorem upd_same {H:Hp} {a:Addr} {o:HO}:upd H a o a=some o:=by unfold upd;rw [if_pos rfl]
theorem upd_ne {H:Hp} {a b:Addr} {o:HO} (h:b≠a):upd H a o b=H b:=by unfold upd;rw [if_neg h]
theorem ne_of {H:Hp} {a b:Addr} {o u:HO} (h:H a=some o) (h':H b=some u) (d:o≠u):a≠b:=by
 intro e;subst e;rw [h] at h';exact d (Option.some.inj h')
theorem ne_of_none {H:Hp} {a b:Addr} {o:HO} (h:H a=some o) (h':H b=none):a≠b:=by
 intro e;subst e;rw [h] at h';cases h'
section
variable (P:Program) (w:World)
def ObjOk (H:Hp) (h:Heap) (a:Addr):HO→Prop
 | .lst xs=>xs.length≤sizeLine∧∃ (its:List Value) (n:Nat),Vals xs its∧h.get? a=some { cls:=.type "list",data:=.seq its.toArray n }
 | .tup xs=>xs.length≤sizeLine∧∃ its:List Value,Vals xs its∧IsTup h a its.toArray
 | .dK kvs=>kvs.length≤sizeLine∧(a == sysModules)=false∧∃ vs,KV kvs vs∧h.DictOf (mixKind P w) a vs
 | .dT kvs=>kvs.length≤sizeLine∧(a == sysModules)=false∧∃ xs:List (List Key × Addr × Value),
   Paired (fun (p:List Key × V) (q:List Key × Addr × Value)=>p.1=q.1∧H q.2.1=some (.tup (p.1.map kV))∧RelV p.2 q.2.2) kvs xs ∧
   ∃ o es ep,h.get? a=some o∧o.ExactDict∧o.data=.dict es ep∧es.toList=xs.map (entryOfKey (tupleKind (mixKind P w)))∧(xs.map (·.1)).Nodup
 | .set S n=>h.SetOf (intKind P w) a S n
 | .ins C dx fs=>H dx=some (.own a)∧fs.length≤1000∧dx≠a∧h.get? a=some (PySem.W.instObj C dx) ∧
   ∃ mA,h.Ns1 dx mA∧(∀ f,RelO (fs.lookup f) (mA f))∧PySem.Within mA (fs.map (·.1))
 | .own _=>∃ o,h.get? a=some o
 | .xd fs=>∃ mA,h.Ns1 a mA∧∀ f,RelO (fs.lookup f) (mA f)
 | .rng lo hi=>∃ t u v,h.get? a=some { cls:=.type "range",data:=.fields #[.int lo t,.int hi u,.int 1 v] }
 | .frz o u=>h.get? a=some o∧ObjOk H h a u
 | .tbl ps=>h.get? a=some { cls:=.none,data:=.fields ps }
 | .met f x=>h.get? a=some (PySem.W.methodObj (.ref f) (.ref x))
 | .ext φ=>φ h∧(∃ o,h.get? a=some o)∧∀ h1 h2:Heap,φ h1→(∀ o,h1.get? a=some o→h2.get? a=some o)→φ h2
def HOk (H:Hp) (h:Heap):Prop:=∀ a o,H a=some o→ObjOk P w H h a o
end
section
variable {P:Program} {w:World} {H H':Hp} {h h':Heap} {a:Addr} {o:HO}
theorem ObjOk.lt (x:ObjOk P w H h a o):a < h.objs.size:=by
 cases o with
 | lst xs=>obtain ⟨_,_,_,_,e⟩:=x;exact Heap.lt_size e
 | tup xs=>obtain ⟨_,_,_,p⟩:=x;exact p.lt
 | dK kvs=>obtain ⟨_,_,_,_,o,_,_,e,_⟩:=x;exact Heap.lt_size e
 | dT kvs=>obtain ⟨_,_,_,_,o,_,_,e,_⟩:=x;exact Heap.lt_size e
 | set S n=>obtain ⟨o,_,_,_,e,_⟩:=x;exact Heap.lt_size e
 | ins C dx fs=>obtain ⟨_,_,_,e,_⟩:=x;exact Heap.lt_size e
 | own y=>obtain ⟨_,e⟩:=x;exact Heap.lt_size e
 | xd fs=>obtain ⟨_,⟨_,_,_,e,_⟩,_⟩:=x;exact Heap.lt_size e
 | rng lo hi=>obtain ⟨_,_,_,e⟩:=x;exact Heap.lt_size e
 | frz ob u=>obtain ⟨e,_⟩:=x;exact Heap.lt_size e
 | tbl ps=>exact Heap.lt_size (show h.get? a=some _ from x)
 | met f y=>exact Heap.lt_size (show h.get? a=some _ from x)
 | ext φ=>obtain ⟨_,⟨_,e⟩,_⟩:=x;exact Heap.lt_size e
theorem Paired.mapP {α β:Type} {F G:α→β→Prop}:∀ {l₁:List α} {l₂:List β},Paired F l₁ l₂→(∀ a b,F a b→G a b)→Paired G l₁ l₂
 | _,_,.nil,_=>.nil
 | _,_,.cons r t,f=>.cons (f _ _ r) (Paired.mapP t f)
theorem ObjOk.stay (x:ObjOk P w H h a o) (k:∀ b u,(b=a∨H b=some (.own a))→h.get? b=some u→h'.get? b=some u)
  (ho:∀ b,H b=some (.own a)→H' b=some (.own a)) (ht:∀ b xs,H b=some (.tup xs)→H' b=some (.tup xs)):ObjOk P w H' h' a o:=by
 induction o with
 | lst xs=>obtain ⟨z,its,n,r,e⟩:=x;exact ⟨z,its,n,r,k _ _ (.inl rfl) e⟩
 | tup xs=>obtain ⟨z,its,r,ob,e,c⟩:=x;exact ⟨z,its,r,ob,k _ _ (.inl rfl) e,c⟩
 | dK kvs=>obtain ⟨z,y,vs,r,ob,es,ep,e,c⟩:=x;exact ⟨z,y,vs,r,ob,es,ep,k _ _ (.inl rfl) e,c⟩
 | dT kvs =>
  obtain ⟨z,y,xs,r,ob,es,ep,e,c⟩:=x
  exact ⟨z,y,xs,Paired.mapP r fun p q z=>⟨z.1,ht _ _ z.2.1,z.2.2⟩,ob,es,ep,k _ _ (.inl rfl) e,c⟩
 | set S n=>obtain ⟨ob,es,ep,t,e,c⟩:=x;exact ⟨ob,es,ep,t,k _ _ (.inl rfl) e,c⟩
 | ins C dx fs =>
  obtain ⟨d,z,ne,e,mA,⟨od,es,ep,e2,c⟩,r⟩:=x
  exact ⟨ho _ d,z,ne,k _ _ (.inl rfl) e,mA,⟨od,es,ep,k _ _ (.inr d) e2,c⟩,r⟩
 | own y=>obtain ⟨ob,e⟩:=x;exact ⟨ob,k _ _ (.inl rfl) e⟩
 | xd fs=>obtain ⟨mA,⟨od,es,ep,e,c⟩,r⟩:=x;exact ⟨mA,⟨od,es,ep,k _ _ (.inl rfl) e,c⟩,r⟩
 | rng lo hi=>obtain ⟨t,u,v,e⟩:=x;exact ⟨t,u,v,k _ _ (.inl rfl) e⟩
 | frz ob u ih=>obtain ⟨e,q⟩:=x;exact ⟨k _ _ (.inl rfl) e,ih q⟩
 | tbl ps =>
  have e:h.get? a=some { cls:=.none,data:=.fields ps }:=x
  show h'.get? a=some { cls:=.none,data:=.fields ps }
  exact k a _ (.inl rfl) e
 | met f y =>
  have e:h.get? a=some (PySem.W.methodObj (.ref f) (.ref y)):=x
  show h'.get? a=some (PySem.W.methodObj (.ref f) (.ref y))
  exact k a _ (.inl rfl) e
 | ext φ=>obtain ⟨p,⟨o,e⟩,st⟩:=x;exact ⟨st _ _ p fun o q=>k _ _ (.inl rfl) q,⟨o,k _ _ (.inl rfl) e⟩,st⟩
theorem HOk.lt (x:HOk P w H h) (e:H a=some o):a < h.objs.size:=(x a o e).lt
theorem HOk.fresh (x:HOk P w H h) (e:h.objs.size≤a):H a=none:=by
 cases q:H a with
 | none=>rfl
 | some u=>exact absurd (Nat.lt_of_lt_of_le (x.lt q) e) (Nat.lt_irrefl _)
theorem HOk.kept (x:HOk P w H h) (k:∀ b u,h.get? b=some u→h'.get? b=some u):HOk P w H h':=fun a o e =>
 (x a o e).stay (fun b u _ q=>k b u q) (fun _ q=>q) fun _ _ q=>q
theorem HOk.laid (x:HOk P w H h) (k:∀ b u,h.get? b=some u→h'.get? b=some u) (hp:h.objs.size≤a) (new:ObjOk P w (upd H a o) h' a o):HOk P w (upd H a o) h':=fun b u e=>by
 have hn:=x.fresh hp
 by_cases hb:b=a
 ·subst hb;rw [upd_same] at e;cases e;exact new
 ·rw [upd_ne hb] at e
  exact (x b u e).stay (fun c v _ q=>k c v q) (fun c q=>by rw [upd_ne (ne_of_none q hn)];exact q) fun c xs q=>by rw [upd_ne (ne_of_none q hn)];exact q
end
def Rd (H:Hp) (a:Addr) (u:HO):Prop:=H a=some u∨∃ o,H a=some (.frz o u)
theorem Rd.ok {P:Program} {w:World} {H:Hp} {h:Heap} {a:Addr} {u:HO} (r:Rd H a u) (x:HOk P w H h):ObjOk P w H h a u:=by
 rcases r with r | ⟨o,r⟩
 ·exact x a u r
 ·obtain ⟨_,q⟩:=x a _ r
  exact q
def Mut:Option HO→Prop
 | some (.lst _)=>True
 | some (.dK _)=>True
 | some (.dT _)=>True
 | some (.set _ _)=>True
 | some (.ins _ _ _)=>True
 | some (.ext _)=>True
 | _=>False
section
variable {P:Program} {w:World} {H:Hp} {h h':Heap} {x e:Addr} {o':HO}
theorem HOk.write (ok:HOk P w H h) (mu:Mut (H x)) (he:e=x∨H e=some (.own x)) (k:∀ b u,b≠e→h.get? b=some u→h'.get? b=some u) (heo:∃ u,h'.get? e=some u)
  (new:ObjOk P w (upd H x o') h' x o'):HOk P w (upd H x o') h':=fun b u q=>by
 have nown:∀ c y,H c=some (.own y)→c≠x:=fun c y r z=>by subst z;rw [r] at mu;exact mu
 have ntup:∀ c xs,H c=some (.tup xs)→c≠x:=fun c xs r z=>by subst z;rw [r] at mu;exact mu
 by_cases hb:b=x
 ·subst hb;rw [upd_same] at q;cases q;exact new
 ·rw [upd_ne hb] at q
  by_cases hbe:b=e
  ·have q':H b=some (.own x):=by
    rcases he with z | z
    ·exact absurd (hbe.trans z) hb
    ·rw [hbe];exact z
   rw [q] at q';cases q'
   obtain ⟨v,hv⟩:=heo
   exact ⟨v,by rw [hbe];exact hv⟩
  ·refine (ok b u q).stay (fun c v hc r=>k c v ?_ r) (fun c r=>by rw [upd_ne (nown c b r)];exact r) fun c xs r=>by rw [upd_ne (ntup c xs r)];exact r
   rcases hc with rfl | hc
   ·exact hbe
   ·rintro rfl
    rcases he with z | z
    ·exact nown c b hc z
    ·rw [hc] at z;cases z;exact hb rfl
end
structure Un (fs ex:List Addr) (H H':Hp) (h h':Heap):Prop where
 keep:∀ b o,h.get? b=some o→H b=none→b ∉ fs→b ∉ ex→h'.get? b=some o
 slot:∀ b o,h.get? b=some o→H b=none→b∈fs→b ∉ ex→∃ sl,h'.get? b=some { o with slots:=sl }
 free:∀ b o,h.get? b=some o→H b=none→b ∉ ex→H' b=none
 there:∀ b o,h.get? b=some o→b ∉ ex→∃ o',h'.get? b=some o'
 tups:∀ b xs,H b=some (.tup xs)→H' b=some (.tup xs)
 frzs:∀ b o u,H b=some (.frz o u)→H' b=some (.frz o u)
 tbls:∀ b ps,H b=some (.tbl ps)→∃ more,H' b=some (.tbl (ps++more))
section
variable {fs fs' ex ex':List Addr} {H H1 H2:Hp} {h h1 h2 h':Heap} {a x e:Addr} {o:HO}
theorem Un.any (u:Un fs ex H H1 h h1) {b:Addr} {ob:Obj} (q:h.get? b=some ob) (n:H b=none) (hx:b ∉ ex):∃ sl,h1.get? b=some { ob with slots:=sl }:=by
 by_cases hb:b∈fs
 ·exact u.slot b ob q n hb hx
 ·exact ⟨ob.slots,u.keep b ob q n hb hx⟩
theorem Un.kept (k:∀ b u,h.get? b=some u→h'.get? b=some u):Un fs ex H H h h' :=
 ⟨fun b ob q _ _ _=>k b ob q,fun b ob q _ _ _=>⟨ob.slots,k b ob q⟩,fun _ _ _ n _=>n,fun b ob q _=>⟨ob,k b ob q⟩,fun _ _ q=>q,fun _ _ _ q=>q,fun _ ps q=>⟨#[],by rw [q];simp⟩⟩
theorem Un.refl:Un fs ex H H h h:=Un.kept fun _ _ q=>q
theorem Un.laid (k:∀ b u,h.get? b=some u→h'.get? b=some u) (hp:h.objs.size≤a) (hn:H a=none):Un fs ex H (upd H a o) h h' where
 keep:=fun b u q _ _ _=>k b u q
 slot:=fun b u q _ _ _=>⟨u.slots,k b u q⟩
 free:=fun b u q n _=>by rw [upd_ne (Nat.ne_of_lt (Nat.lt_of_lt_of_le (Heap.lt_size q) hp))];exact n
 there:=fun b u q _=>⟨u,k b u q⟩
 tups:=fun b xs q=>by rw [upd_ne (ne_of_none q hn)];exact q
 frzs:=fun b u xs q=>by rw [upd_ne (ne_of_none q hn)];exact q
 tbls:=fun b ps q=>⟨#[],by rw [upd_ne (ne_of_none q hn),q];simp⟩
theorem Un.write (mu:Mut (H x)) (he:e=x∨H e=some (.own x)) (k:∀ b u,b≠e→h.get? b=some u→h'.get? b=some u) (heo:∃ u,h'.get? e=some u):Un fs ex H (upd H x o) h h':=by
 have hx:∀ b,H b=none→b≠x:=fun b n z=>by subst z;rw [n] at mu;exact mu
 have hb:∀ b,H b=none→b≠e:=fun b n z=>by
  subst z
  rcases he with r | r
  ·exact hx b n r
  ·rw [n] at r;cases r
 have hm:∀ b u,H b=some u→¬ Mut (some u)→b≠x:=fun b u q nm z=>by subst z;rw [q] at mu;exact nm mu
 refine ⟨fun b u q n _ _=>k b u (hb b n) q,fun b u q n _ _=>⟨u.slots,k b u (hb b n) q⟩,fun b u q n _=>by rw [upd_ne (hx b n)];exact n,fun b u q _=>?_,
  fun b xs q=>by rw [upd_ne (hm b _ q fun z=>z)];exact q,fun b u xs q=>by rw [upd_ne (hm b _ q fun z=>z)];exact q,fun b ps q=>⟨#[],by rw [upd_ne (hm b _ q fun z=>z),q];simp⟩⟩
 by_cases hbe:b=e
 ·subst hbe;exact heo
 ·exact ⟨u,k b u hbe q⟩
end
def trk (h:Heap) (H:Hp):List Addr:=(List.range h.objs.size).filter fun a=>(H a).isSome
def hidT (h:Heap) (H:Hp):Heap:=PySem.W.hideAll h (trk h H)
theorem hidT_size (h:Heap) (H:Hp):(hidT h H).objs.size=h.objs.size:=PySem.W.hideAll_size _ _
theorem hidT_get {h:Heap} {H:Hp} {b:Addr} {o:Obj} (e:h.get? b=some o) (n:H b=none):(hidT h H).get? b=some o :=
 PySem.W.hideAll_get _ e fun hm=>by
  have q:(H b).isSome=true:=(List.mem_filter.mp hm).2
  rw [n] at q;simp at q
theorem of_hidT {h:Heap} {H:Hp} {b:Addr} {o:Obj} (e:(hidT h H).get? b=some o):h.get? b=some o∧H b=none:=by
 have e':h.get? b=some o:=PySem.W.of_hideAll (trk h H) e
 refine ⟨e',?_⟩
 cases q:H b with
 | none=>rfl
 | some x =>
  have hm:b∈trk h H:=List.mem_filter.mpr ⟨List.mem_range.mpr (Heap.lt_size e'),by simp [q]⟩
  have z:(hidT h H).get? b=none:=PySem.W.hideAll_none (trk h H) hm
  rw [z] at e;cases e
end L2
namespace L2
open PySem PySem.Spec PyProof.Rows
structure Mod (K:PySem.W.Frag) (mg:Str→Option Value) (base:Heap):Prop where
 kin:K.In base
 glob:base.Ns mainGlobals mg
 blt:∃ mb,base.Ns builtinsNs mb∧∀ x:Str,x≠"__name__"→mb x=bootBuiltins x
 nolimit:base.NoLimit
 seer:base.NoSeer
structure Cx where
 prog:Program
 w:World
 K:PySem.W.Frag
 mg:Str→Option Value
 base:Heap
 A:Around
 N:List Str
 s_0:Shared
 H_0:Hp
 env:Env
 outer:List Env
 stack:List Env
 ex:List Addr
 fn:Str→Bool
 calm:Bool
 pn:List (Addr × Obj)
 xe:Value→Shared→Prop
def frs (l:List Env):List Addr:=l.filterMap (·.frame)
abbrev Cx.fs (X:Cx):List Addr:=frs X.outer
def Vis (sc:Scope) (x:Str):Prop:=sc.names.lookup x=some .local∨sc.names.lookup x=some .cell∨sc.names.lookup x=some .free
def Loc (sc:Scope) (x:Str):Prop:=sc.names.lookup x=some .local∨sc.names.lookup x=some .cell
def Look (env:Env) (h:Heap) (m:Str→Option Value) (x:Str) (u:Value):Prop :=
 (env.kindOf x=some .local∧m x=some u)∨((env.kindOf x=some .cell∨env.kindOf x=some .free)∧∃ c,env.cells.lookup x=some c∧h.IsCell c (some u))
structure Cx.Ok (X:Cx):Prop where
 mod:Mod X.K X.mg X.base
 kind:X.env.scope.kind=.function
 glob:X.env.globals=mainGlobals
 blt:X.env.builtins=builtinsNs
 above:X.s_0.heap.objs.size≤X.env.locals
 inj:∀ x y c,X.env.cells.lookup x=some c→X.env.cells.lookup y=some c→x=y
 has:∀ x,(X.env.kindOf x=some .cell∨X.env.kindOf x=some .free)→∃ c,X.env.cells.lookup x=some c
 cab:∀ x c,X.fn x=true→X.env.cells.lookup x=some c→X.s_0.heap.objs.size≤c
 hd:X.calm=true→X.A.handled=none
 frames:X.A.frames=some X.stack
 stk:X.stack=X.outer∨(X.stack=X.env::X.outer∧X.env.frame=some X.env.locals)
 exf:∀ b∈X.ex,b≠X.env.locals∧∀ x c,X.env.cells.lookup x=some c→c≠b
 bs:∀ b o,X.base.get? b=some o→X.s_0.heap.get? b=some o∧X.H_0 b=none
 bsz:X.base.objs.size≤X.s_0.heap.objs.size
 noex:∀ b o,X.base.get? b=some o→b ∉ X.ex
 exfs:∀ b∈X.ex,b ∉ X.fs
 funs:X.s_0.heap.FunFrames X.base X.outer
 frf:∀ b∈X.fs,X.H_0 b=none
structure Inv (X:Cx) (pins:List (Addr × Obj)) (σ:List (Option V)) (H:Hp) (s:Shared):Prop where
 ok:X.Ok
 os:s.os=X.s_0.os
 bare:AllBare s.gens
 base:Un X.fs X.ex X.H_0 H X.s_0.heap s.heap
 loc:∃ m,s.heap.Ns X.env.locals m∧∀ (i:Nat) (x:Str) (v:V),X.N[i]?=some x→σ[i]?=some (some v)→Vis X.env.scope x→∃ u,RelV v u∧Look X.env s.heap m x u
 cell:∀ x c,X.env.cells.lookup x=some c→∃ v,s.heap.IsCell c v
 free:H X.env.locals=none
 freeC:∀ x c,X.env.cells.lookup x=some c→H c=none
 pin:∀ p∈X.pn++pins,s.heap.get? p.1=some p.2∧H p.1=none∧p.1≠X.env.locals∧p.1 ∉ X.fs∧∀ v,p.2.data≠.cell v
 hok:HOk X.prog X.w H s.heap
 len:σ.length=X.N.length
section
variable {X:Cx} {pins:List (Addr × Obj)} {σ:List (Option V)} {H H':Hp} {s:Shared} {h':Heap}
theorem Cx.Ok.nofr (ok:X.Ok) {b:Addr} {o:Obj} (e:X.base.get? b=some o):b ∉ X.fs:=fun hb=>by
 have:=(ok.funs.mem hb).1
 rw [e] at this;cases this
theorem Inv.bs (I:Inv X pins σ H s):∀ b o,X.base.get? b=some o→s.heap.get? b=some o∧H b=none:=fun b o e =>
 ⟨I.base.keep b o (I.ok.bs b o e).1 (I.ok.bs b o e).2 (I.ok.nofr e) (I.ok.noex b o e),I.base.free b o (I.ok.bs b o e).1 (I.ok.bs b o e).2 (I.ok.noex b o e)⟩
theorem Inv.bk (I:Inv X pins σ H s):∀ b o,X.base.get? b=some o→s.heap.get? b=some o:=fun b o e=>(I.bs b o e).1
theorem Inv.mod (I:Inv X pins σ H s):Mod X.K X.mg X.base:=I.ok.mod
theorem Inv.kIn (I:Inv X pins σ H s):X.K.In s.heap:=I.ok.mod.kin.keeps I.bk
theorem Inv.nolimit (I:Inv X pins σ H s):s.heap.NoLimit:=I.ok.mod.nolimit.keeps I.bk
theorem Inv.lt (I:Inv X pins σ H s):X.env.locals < s.heap.objs.size:=let ⟨_,hn,_⟩:=I.loc;hn.lt
theorem Inv.sz (I:Inv X pins σ H s):X.s_0.heap.objs.size≤s.heap.objs.size:=Nat.le_trans I.ok.above (Nat.le_of_lt I.lt)
theorem Inv.nofs (I:Inv X pins σ H s) {a:Addr} (h:s.heap.objs.size≤a):a ∉ X.fs:=fun hb=>by
 obtain ⟨_,o,ho,_⟩:=I.ok.funs.mem hb
 exact absurd (Nat.lt_of_lt_of_le (Heap.lt_size ho) (Nat.le_trans I.sz h)) (Nat.lt_irrefl _)
theorem Inv.cne (I:Inv X pins σ H s):∀ x c,X.env.cells.lookup x=some c→c≠X.env.locals:=fun x c e z=>by
 obtain ⟨v,o,ho,hd⟩:=I.cell x c e
 obtain ⟨m,⟨o',es,ep,ho',hd',_⟩,_⟩:=I.loc
 rw [z,ho'] at ho;cases ho;rw [hd'] at hd;cases hd
theorem Inv.funs (I:Inv X pins σ H s):s.heap.FunFrames X.base X.outer:=by
 have all:∀ (l:List Env),(∀ b∈frs l,b∈X.fs)→X.s_0.heap.FunFrames X.base l→s.heap.FunFrames X.base l:=by
  intro l
  induction l with
  | nil=>intro _ _;trivial
  | cons env r ih =>
   intro hs hl
   obtain ⟨hk,⟨L,o,hf,hn,ho,hd⟩,hr⟩:=hl
   have hL:L∈X.fs:=hs L (by unfold frs;rw [List.filterMap_cons,hf];exact List.mem_cons_self)
   obtain ⟨sl,e⟩:=I.base.slot L o ho (I.ok.frf L hL) hL fun z=>I.ok.exfs L z hL
   exact ⟨hk,⟨L,_,hf,hn,e,hd⟩,ih (fun b hb=>hs b (by unfold frs;rw [List.filterMap_cons,hf];exact List.mem_cons_of_mem _ hb)) hr⟩
 exact all X.outer (fun _ hb=>hb) I.ok.funs
theorem Inv.stack (I:Inv X pins σ H s):s.heap.FunFrames X.base X.stack:=by
 rcases I.ok.stk with e | ⟨e,hf⟩
 ·rw [e];exact I.funs
 ·rw [e]
  obtain ⟨m,hn,_⟩:=I.loc
  refine .cons (by rw [I.ok.kind];decide) hf hn ?_ I.funs
  exact Heap.get?_none_of_le (Nat.le_trans I.ok.bsz I.ok.above)
theorem Inv.stkSub (I:Inv X pins σ H s):∀ b∈frs X.stack,b∈X.env.locals::X.fs:=fun b hb=>by
 rcases I.ok.stk with e | ⟨e,hf⟩
 ·rw [e] at hb;exact List.mem_cons_of_mem _ hb
 ·rw [e] at hb
  unfold frs at hb
  rw [List.filterMap_cons,hf] at hb
  exact hb
theorem Inv.stkFree (I:Inv X pins σ H s):∀ b∈frs X.stack,H b=none:=fun b hb=>by
 rcases List.mem_cons.mp (I.stkSub b hb) with e | hb
 ·rw [e];exact I.free
 ·obtain ⟨_,o,ho,_⟩:=I.ok.funs.mem hb
  exact I.base.free b o ho (I.ok.frf b hb) fun z=>I.ok.exfs b z hb
theorem Inv.step {g':Array GenState} {t':Nat} {d':Drawn} {ch:List Addr} (I:Inv X pins σ H s)
  (hch:∀ b∈ch,(b∈X.ex∨X.s_0.heap.objs.size≤b)∧b≠X.env.locals∧(∀ x c,X.env.cells.lookup x=some c→c≠b)∧∀ p∈X.pn++pins,p.1≠b)
  (keep:∀ b o,b≠X.env.locals→b ∉ X.fs→b ∉ ch→s.heap.get? b=some o→H b=none→h'.get? b=some o)
  (slot:∀ b o,b≠X.env.locals→b∈X.fs→b ∉ ch→s.heap.get? b=some o→H b=none→∃ sl,h'.get? b=some { o with slots:=sl }) (free:∀ b o,b ∉ ch→s.heap.get? b=some o→H b=none→H' b=none)
  (there:∀ b o,b ∉ ch→s.heap.get? b=some o→∃ o',h'.get? b=some o')
  (tups:∀ b xs,H b=some (.tup xs)→H' b=some (.tup xs)) (frzs:∀ b o u,H b=some (.frz o u)→H' b=some (.frz o u)) (tbls:∀ b ps,H b=some (.tbl ps)→∃ more,H' b=some (.tbl (ps++more)))
  (ns:∀ m,s.heap.Ns X.env.locals m→h'.Ns X.env.locals m) (hok:HOk X.prog X.w H' h') (hg:AllBare g') :
  Inv X pins σ H' { s with heap:=h',gens:=g',drawn:=d',toks:=t' }:=by
 have neL:∀ b o,X.s_0.heap.get? b=some o→b≠X.env.locals:=fun b o e=>Nat.ne_of_lt (Nat.lt_of_lt_of_le (Heap.lt_size e) I.ok.above)
 have neC:∀ b o,X.s_0.heap.get? b=some o→b ∉ X.ex→b ∉ ch:=fun b o e hx hb=>by
  rcases (hch b hb).1 with z | z
  ·exact hx z
  ·exact absurd (Nat.lt_of_lt_of_le (Heap.lt_size e) z) (Nat.lt_irrefl _)
 have cellK:∀ x c,X.env.cells.lookup x=some c→∀ v,s.heap.IsCell c v→h'.IsCell c v:=fun x c e v ⟨o,ho,hd⟩=>by
  have nch:c ∉ ch:=fun z=>(hch c z).2.2.1 x c e rfl
  by_cases hc:c∈X.fs
  ·obtain ⟨sl,q⟩:=slot c o (I.cne x c e) hc nch ho (I.freeC x c e)
   exact ⟨_,q,hd⟩
  ·exact ⟨o,keep c o (I.cne x c e) hc nch ho (I.freeC x c e),hd⟩
 refine ⟨I.ok,I.os,hg,⟨fun b o e n hb hx=>?_,fun b o e n hb hx=>?_,fun b o e n hx=>?_,fun b o e hx=>?_,fun b xs e=>tups b xs (I.base.tups b xs e),fun b o xs e=>frzs b o xs (I.base.frzs b o xs e),fun b ps e=>?_⟩,?_,fun x c e=>?_,?_,fun x c e=>?_,fun p hp=>?_,hok,I.len⟩
 ·exact keep b o (neL b o e) hb (neC b o e hx) (I.base.keep b o e n hb hx) (I.base.free b o e n hx)
 ·obtain ⟨sl,e1⟩:=I.base.slot b o e n hb hx
  obtain ⟨sl',e2⟩:=slot b _ (neL b o e) hb (neC b o e hx) e1 (I.base.free b o e n hx)
  exact ⟨sl',e2⟩
 ·obtain ⟨o',e1⟩:=I.base.there b o e hx
  exact free b o' (neC b o e hx) e1 (I.base.free b o e n hx)
 ·obtain ⟨o',e1⟩:=I.base.there b o e hx
  exact there b o' (neC b o e hx) e1
 ·obtain ⟨m1,e1⟩:=I.base.tbls b ps e
  obtain ⟨m2,e2⟩:=tbls b _ e1
  exact ⟨m1++m2,by rw [e2,Array.append_assoc]⟩
 ·obtain ⟨m,hn,hl⟩:=I.loc
  refine ⟨m,ns m hn,fun i x v e1 e2 e3=>?_⟩
  obtain ⟨u,r,l⟩:=hl i x v e1 e2 e3
  refine ⟨u,r,?_⟩
  rcases l with l | ⟨k,c,e,z⟩
  ·exact .inl l
  ·exact .inr ⟨k,c,e,cellK x c e _ z⟩
 ·obtain ⟨v,z⟩:=I.cell x c e
  exact ⟨v,cellK x c e v z⟩
 ·obtain ⟨m,⟨o,_,_,ho,_⟩,_⟩:=I.loc
  exact free _ o (fun z=>(hch _ z).2.1 rfl) ho I.free
 ·obtain ⟨v,o,ho,hd⟩:=I.cell x c e
  exact free c o (fun z=>(hch c z).2.2.1 x c e rfl) ho (I.freeC x c e)
 ·obtain ⟨e,n,ne,nf,d⟩:=I.pin p hp
  have nch:p.1 ∉ ch:=fun z=>(hch p.1 z).2.2.2 p hp rfl
  exact ⟨keep p.1 p.2 ne nf nch e n,free p.1 p.2 nch e n,ne,nf,d⟩
theorem Inv.un {t':Nat} (I:Inv X pins σ H s) (u:Un X.fs [] H H' s.heap h') (hok:HOk X.prog X.w H' h'):Inv X pins σ H' { s with heap:=h',toks:=t' }:=by
 obtain ⟨m,⟨o,es,ep,ho,r⟩,_⟩:=id I.loc
 obtain ⟨sl,hL⟩:=u.any ho I.free (by simp)
 exact I.step (g':=s.gens) (d':=s.drawn) (ch:=[]) (fun _ z=>nomatch z) (fun b o _ hb _ e n=>u.keep b o e n hb (by simp)) (fun b o _ hb _ e n=>u.slot b o e n hb (by simp)) (fun b o _ e n=>u.free b o e n (by simp)) (fun b o _ e=>u.there b o e (by simp)) u.tups u.frzs u.tbls (fun m' hm=>by
  obtain ⟨o',es',ep',ho',r'⟩:=hm
  rw [ho] at ho';cases ho'
  exact ⟨_,es',ep',hL,r'⟩) hok I.bare
theorem Inv.call {g':Array GenState} {t':Nat} {d':Drawn} {ch:List Addr} (I:Inv X pins σ H s) (u:Un (frs X.stack) ch H H' s.heap h') (hok:HOk X.prog X.w H' h') (hg:AllBare g')
  (hch:∀ b∈ch,(b∈X.ex∨X.s_0.heap.objs.size≤b)∧b≠X.env.locals∧(∀ x c,X.env.cells.lookup x=some c→c≠b)∧∀ p∈X.pn++pins,p.1≠b) :
  Inv X pins σ H' { s with heap:=h',gens:=g',drawn:=d',toks:=t' }:=by
 obtain ⟨m,⟨o,es,ep,ho,r⟩,_⟩:=id I.loc
 obtain ⟨sl,hL⟩:=u.any ho I.free fun z=>(hch _ z).2.1 rfl
 exact I.step (ch:=ch) hch (fun b o hL hb hc e n=>u.keep b o e n (fun z=>(List.mem_cons.mp (I.stkSub b z)).elim hL hb) hc) (fun b o _ _ hc e n=>u.any e n hc) (fun b o hc e n=>u.free b o e n hc) (fun b o hc e=>u.there b o e hc) u.tups u.frzs u.tbls (fun m' hm=>by
  obtain ⟨o',es',ep',ho',r'⟩:=hm
  rw [ho] at ho';cases ho'
  exact ⟨_,es',ep',hL,r'⟩) hok hg
theorem Inv.turned {t':Nat} {it:Addr} (I:Inv X pins σ H s) (k:∀ b o,b≠it→s.heap.get? b=some o→h'.get? b=some o) (hn:H it=none) (hL:it≠X.env.locals)
  (h1:it∈X.ex∨X.s_0.heap.objs.size≤it) (h2:∀ x c,X.env.cells.lookup x=some c→c≠it) (h3:∀ p∈X.pn++pins,p.1≠it):Inv X pins σ H { s with heap:=h',toks:=t' }:=by
 have nit:∀ b u,H b=some u→b≠it:=fun b u e z=>by rw [z,hn] at e;cases e
 refine I.step (g':=s.gens) (d':=s.drawn) (ch:=[it]) (fun b hb=>?_) (fun b o _ _ hc e _=>k b o (fun z=>hc (by simp [z])) e) (fun b o _ _ hc e _=>⟨o.slots,k b o (fun z=>hc (by simp [z])) e⟩) (fun _ _ _ _ n=>n)
  (fun b o hc e=>⟨o,k b o (fun z=>hc (by simp [z])) e⟩) (fun _ _ e=>e) (fun _ _ _ e=>e) (fun b ps e=>⟨#[],by rw [e];simp⟩) (fun m hm=>?_) (fun b u e=>?_) I.bare
 ·have e:b=it:=by simpa using hb
  subst e
  exact ⟨h1,hL,h2,h3⟩
 ·obtain ⟨o,es,ep,ho,r⟩:=hm
  exact ⟨o,es,ep,k _ o (Ne.symm hL) ho,r⟩
 ·refine (I.hok b u e).stay (fun c v hc q=>k c v ?_ q) (fun _ q=>q) fun _ _ q=>q
  rcases hc with z | z
  ·rw [z];exact nit b u e
  ·exact nit c _ z
theorem Inv.tok (I:Inv X pins σ H s) (t:Nat):Inv X pins σ H { s with toks:=t }:=I.un (h':=s.heap) (t':=t) Un.refl I.hok
theorem Inv.kept {t':Nat} (I:Inv X pins σ H s) (k:∀ b u,s.heap.get? b=some u→h'.get? b=some u):Inv X pins σ H { s with heap:=h',toks:=t' }:=I.un (Un.kept k) (I.hok.kept k)
theorem Inv.laid {a:Addr} {o:HO} {t':Nat} (I:Inv X pins σ H s) (k:∀ b u,s.heap.get? b=some u→h'.get? b=some u) (hp:s.heap.objs.size≤a) (new:ObjOk X.prog X.w (upd H a o) h' a o) :
  Inv X pins σ (upd H a o) { s with heap:=h',toks:=t' }:=I.un (Un.laid k hp (I.hok.fresh hp)) (I.hok.laid k hp new)
theorem Inv.write {x e:Addr} {o:HO} {t':Nat} (I:Inv X pins σ H s) (mu:Mut (H x)) (he:e=x∨H e=some (.own x)) (k:∀ b u,b≠e→s.heap.get? b=some u→h'.get? b=some u) (heo:∃ u,h'.get? e=some u)
  (new:ObjOk X.prog X.w (upd H x o) h' x o):Inv X pins σ (upd H x o) { s with heap:=h',toks:=t' }:=I.un (Un.write mu he k heo) (I.hok.write mu he k heo new)
theorem Inv.weak {σ':List (Option V)} (I:Inv X pins σ H s) (hl:σ'.length=σ.length) (w:∀ (i:Nat) v,σ'[i]?=some (some v)→σ[i]?=some (some v)):Inv X pins σ' H s :=
 ⟨I.ok,I.os,I.bare,I.base,let ⟨m,hn,hl'⟩:=I.loc;⟨m,hn,fun i x v e1 e2 e3=>hl' i x v e1 (w i v e2) e3⟩,I.cell,I.free,I.freeC,I.pin,I.hok,hl.trans I.len⟩
theorem Inv.pins_of {pins':List (Addr × Obj)} (I:Inv X pins σ H s) (h:∀ p∈pins',s.heap.get? p.1=some p.2∧H p.1=none∧p.1≠X.env.locals∧p.1 ∉ X.fs∧∀ v,p.2.data≠.cell v):Inv X pins' σ H s :=
 ⟨I.ok,I.os,I.bare,I.base,I.loc,I.cell,I.free,I.freeC,fun p hp=>(List.mem_append.mp hp).elim (fun z=>I.pin p (List.mem_append_left _ z)) (h p),I.hok,I.len⟩
theorem nodup_ix {N:List Str} (hN:N.Nodup) {i j:Nat} {x:Str} (a:N[i]?=some x) (b:N[j]?=some x):i=j:=by
 obtain ⟨h1,e1⟩:=List.getElem?_eq_some_iff.mp a
 obtain ⟨h2,e2⟩:=List.getElem?_eq_some_iff.mp b
 exact (List.getElem_inj hN).mp (e1.trans e2.symm)
theorem store_ok2 {M:Model} {A:Around} {E:Value→Shared→Prop} {i:Nat} {x:Str} {v:V} {u:Value} {Q:Unit→Shared→Prop} (I:Inv X pins σ H s) (hN:X.N.Nodup) (hi:X.N[i]?=some x) (hx:Loc X.env.scope x) (r:RelV v u)
  (h:∀ s',Inv X pins (σ.set i (some v)) H s'→(∃ a,Heap.SameBut a s.heap s'.heap∧(a=X.env.locals∨X.env.cells.lookup x=some a))→Q () s') (hf:X.fn x=true∨X.env.scope.names.lookup x=some .local:=by first | exact .inl rfl | exact .inr rfl | assumption):wpAny M A (storeName X.env x u) Q E s:=by
 obtain ⟨m,hn,hl⟩:=id I.loc
 have hcls:(X.env.scope.kind == .class || (X.env.scope.kind == .module && X.env.locals != X.env.globals))=false:=by rw [I.ok.kind];rfl
 have hiσ:i < σ.length:=by rw [I.len];exact (List.getElem?_eq_some_iff.mp hi).1
 have cne:=I.cne
 have tracked:∀ {a:Addr} {h':Heap},(∃ o,s.heap.get? a=some o∧H a=none)→Heap.SameBut a s.heap h'→HOk X.prog X.w H h':=fun {a h'} ha hs b ob e=>by
  obtain ⟨_,_,hfree⟩:=ha
  refine (I.hok b ob e).stay (fun c w' hc q=>(hs.2 c ?_).trans q) (fun _ q=>q) fun _ _ q=>q
  rintro rfl
  rcases hc with rfl | hc
  ·rw [hfree] at e;cases e
  ·rw [hfree] at hc;cases hc
 rcases hx with hk | hk
 ·refine wpAny_storeName_local hk hn (fun h' hn' hs=>?_) hcls
  obtain ⟨oL,_,_,hoL,_⟩:=id hn
  refine h _ ⟨I.ok,I.os,I.bare,⟨fun b o e n hb hx=>?_,fun b o e n hb hx=>?_,I.base.free,fun b o e hx=>?_,I.base.tups,I.base.frzs,I.base.tbls⟩,⟨_,hn',fun j y v' e1 e2 e3=>?_⟩,fun y c e=>?_,I.free,I.freeC,fun p hp=>?_,tracked ⟨oL,hoL,I.free⟩ hs,by simpa using I.len⟩ ⟨_,hs,.inl rfl⟩
  ·exact (hs.2 b (Nat.ne_of_lt (Nat.lt_of_lt_of_le (Heap.lt_size e) I.ok.above))).trans (I.base.keep b o e n hb hx)
  ·obtain ⟨sl,e1⟩:=I.base.slot b o e n hb hx
   exact ⟨sl,(hs.2 b (Nat.ne_of_lt (Nat.lt_of_lt_of_le (Heap.lt_size e) I.ok.above))).trans e1⟩
  ·obtain ⟨o',e1⟩:=I.base.there b o e hx
   exact ⟨o',(hs.2 b (Nat.ne_of_lt (Nat.lt_of_lt_of_le (Heap.lt_size e) I.ok.above))).trans e1⟩
  ·by_cases hj:j=i
   ·subst hj
    rw [hi] at e1;cases e1
    rw [List.getElem?_set_self hiσ] at e2
    cases e2
    exact ⟨u,r,.inl ⟨hk,by simp⟩⟩
   ·rw [List.getElem?_set_ne (Ne.symm hj)] at e2
    obtain ⟨u',r',q⟩:=hl j y v' e1 e2 e3
    refine ⟨u',r',?_⟩
    rcases q with ⟨k,e⟩ | ⟨k,c,e,z⟩
    ·refine .inl ⟨k,?_⟩
     have:y≠x:=fun e=>hj (nodup_ix hN e1 (e ▸ hi))
     simp [this,e]
    ·exact .inr ⟨k,c,e,z.sameBut hs (cne y c e)⟩
  ·obtain ⟨w',z⟩:=I.cell y c e
   exact ⟨w',z.sameBut hs (cne y c e)⟩
  ·obtain ⟨e,n,ne,nf,d⟩:=I.pin p hp
   exact ⟨(hs.2 p.1 ne).trans e,n,ne,nf,d⟩
 ·have hfn:X.fn x=true:=by
   rcases hf with z | z
   ·exact z
   ·rw [z] at hk;cases hk
  obtain ⟨c,hc⟩:=I.ok.has x (.inl hk)
  obtain ⟨w',z⟩:=I.cell x c hc
  refine wpAny_storeName_cell I.ok.kind hk hc z (fun h' hc' hs=>?_)
  obtain ⟨oc,hoc,hocd⟩:=id z
  refine h { s with heap:=h' } ⟨I.ok,I.os,I.bare,⟨fun b o e n hb hx=>?_,fun b o e n hb hx=>?_,I.base.free,fun b o e hx=>?_,I.base.tups,I.base.frzs,I.base.tbls⟩,⟨m,hn.sameBut hs (Ne.symm (cne x c hc)),fun j y v' e1 e2 e3=>?_⟩,fun y c' e=>?_,I.free,I.freeC,fun p hp=>?_,tracked ⟨oc,hoc,I.freeC x c hc⟩ hs,by simpa using I.len⟩ ⟨c,hs,.inr hc⟩
  ·exact (hs.2 b (Nat.ne_of_lt (Nat.lt_of_lt_of_le (Heap.lt_size e) (I.ok.cab x c hfn hc)))).trans (I.base.keep b o e n hb hx)
  ·obtain ⟨sl,e1⟩:=I.base.slot b o e n hb hx
   exact ⟨sl,(hs.2 b (Nat.ne_of_lt (Nat.lt_of_lt_of_le (Heap.lt_size e) (I.ok.cab x c hfn hc)))).trans e1⟩
  ·obtain ⟨o',e1⟩:=I.base.there b o e hx
   exact ⟨o',(hs.2 b (Nat.ne_of_lt (Nat.lt_of_lt_of_le (Heap.lt_size e) (I.ok.cab x c hfn hc)))).trans e1⟩
  ·by_cases hj:j=i
   ·subst hj
    rw [hi] at e1;cases e1
    rw [List.getElem?_set_self hiσ] at e2
    cases e2
    exact ⟨u,r,.inr ⟨.inl hk,c,hc,hc'⟩⟩
   ·rw [List.getElem?_set_ne (Ne.symm hj)] at e2
    obtain ⟨u',r',q⟩:=hl j y v' e1 e2 e3
    refine ⟨u',r',?_⟩
    rcases q with q | ⟨k,c',e,z'⟩
    ·exact .inl q
    ·refine .inr ⟨k,c',e,z'.sameBut hs ?_⟩
     rintro rfl
     exact hj (nodup_ix hN e1 (I.ok.inj _ _ _ e hc ▸ hi))
  ·by_cases hcc:c'=c
   ·subst hcc;exact ⟨_,hc'⟩
   ·obtain ⟨w2,z2⟩:=I.cell y c' e
    exact ⟨w2,z2.sameBut hs hcc⟩
  ·obtain ⟨e,n,ne,nf,d⟩:=I.pin p hp
   refine ⟨(hs.2 p.1 ?_).trans e,n,ne,nf,d⟩
   intro q
   rw [q,hoc] at e
   have q':oc=p.2:=Option.some.inj e
   exact d w' (by rw [← q'];exact hocd)
theorem store_ok {M:Model} {A:Around} {E:Value→Shared→Prop} {i:Nat} {x:Str} {v:V} {u:Value} {Q:Unit→Shared→Prop} (I:Inv X pins σ H s) (hN:X.N.Nodup) (hi:X.N[i]?=some x) (hx:Loc X.env.scope x) (r:RelV v u)
  (h:∀ s',Inv X pins (σ.set i (some v)) H s'→Q () s') (hf:X.fn x=true∨X.env.scope.names.lookup x=some .local:=by first | exact .inl rfl | exact .inr rfl | assumption):wpAny M A (storeName X.env x u) Q E s :=
 store_ok2 I hN hi hx r (fun s' I' _=>h s' I') hf
theorem Inv.call' {s':Shared} {ch:List Addr} (I:Inv X pins σ H s) (ho:s'.os=s.os) (u:Un (frs X.stack) ch H H' s.heap s'.heap) (hok:HOk X.prog X.w H' s'.heap) (hg:AllBare s'.gens)
  (hch:∀ b∈ch,(b∈X.ex∨X.s_0.heap.objs.size≤b)∧b≠X.env.locals∧(∀ x c,X.env.cells.lookup x=some c→c≠b)∧∀ p∈X.pn++pins,p.1≠b):Inv X pins σ H' s':=by
 obtain ⟨h',g',d',t',o'⟩:=s'
 have e:o'=s.os:=ho
 subst e
 exact I.call (g':=g') (t':=t') (d':=d') u hok hg hch
end
abbrev XK:=Value→Option Addr→Hp→Prop
abbrev St:=List (Option V)
abbrev VK:=V→Hp→Prop
abbrev TE:=St→Hp→VK→Prop
abbrev TT:=St→Hp→(Bool→Hp→Prop)→Prop
abbrev TA:=St→Hp→(List V→Hp→Prop)→Prop
structure Ends where
 nx:St→Hp→Prop
 rt:VK
 bk:St→Hp→Prop:=fun _ _=>False
 ct:St→Hp→Prop:=fun _ _=>False
abbrev TS:=Ends→St→Hp→Prop
def EP (X:Cx) (pins:List (Addr × Obj)) (σ:St) (Q:VK) (u:Value) (s':Shared):Prop:=∃ v H',Inv X pins σ H' s'∧RelV v u∧Q v H'
def TP (X:Cx) (pins:List (Addr × Obj)) (σ:St) (Q:Bool→Hp→Prop) (b:Bool) (s':Shared):Prop:=∃ H',Inv X pins σ H' s'∧Q b H'
def AP (X:Cx) (pins:List (Addr × Obj)) (σ:St) (Q:List V→Hp→Prop) (us:List Value) (s':Shared):Prop:=∃ vs H',Inv X pins σ H' s'∧Vals vs us∧Q vs H'
def SP (X:Cx) (pins:List (Addr × Obj)) (D:Ends) (f:Flow) (s':Shared):Prop :=
 match f with
 | .next=>∃ σ' H',Inv X pins σ' H' s'∧D.nx σ' H'
 | .brk=>∃ σ' H',Inv X pins σ' H' s'∧D.bk σ' H'
 | .cont=>∃ σ' H',Inv X pins σ' H' s'∧D.ct σ' H'
 | .ret u=>∃ v σ' H',Inv X pins σ' H' s'∧RelV v u∧D.rt v H'
def PE (X:Cx) (e:Expr) (t:TE):Prop :=
 ∀ (pins:List (Addr × Obj)) (s:Shared) (σ:St) (H:Hp) (Q:VK),Inv X pins σ H s→t σ H Q→wpAny (model X.prog X.w) X.A (eval e X.env) (EP X pins σ Q) X.xe s
def PT (X:Cx) (e:Expr) (t:TT):Prop :=
 ∀ (pins:List (Addr × Obj)) (s:Shared) (σ:St) (H:Hp) (Q:Bool→Hp→Prop),Inv X pins σ H s→t σ H Q→wpAny (model X.prog X.w) X.A (isTrue e X.env (eval e X.env)) (TP X pins σ Q) X.xe s
def PW (X:Cx) (e:Expr) (t:TT):Prop :=
 ∀ (whole:Sem Value) (pins:List (Addr × Obj)) (s:Shared) (σ:St) (H:Hp) (Q:Bool→Hp→Prop),Inv X pins σ H s→t σ H Q→wpAny (model X.prog X.w) X.A (isTrue e X.env whole) (TP X pins σ Q) X.xe s
theorem PW.pt {X:Cx} {e:Expr} {t:TT} (h:PW X e t):PT X e t:=h _
def PA (X:Cx) (es:List Expr) (t:TA):Prop :=
 ∀ (pos:Pos) (pins:List (Addr × Obj)) (s:Shared) (σ:St) (H:Hp) (Q:List V→Hp→Prop),Inv X pins σ H s→t σ H Q→wpAny (model X.prog X.w) X.A (spliced (backTo pos (starEach es X.env))) (AP X pins σ Q) X.xe s
def PS (X:Cx) (st:Stmt) (t:TS):Prop :=
 ∀ (pins:List (Addr × Obj)) (s:Shared) (σ:St) (H:Hp) (D:Ends),Inv X pins σ H s→t D σ H→wpAny (model X.prog X.w) X.A (exec st X.env) (SP X pins D) X.xe s
def PSs (X:Cx) (st:List Stmt) (t:TS):Prop :=
 ∀ (pins:List (Addr × Obj)) (s:Shared) (σ:St) (H:Hp) (D:Ends),Inv X pins σ H s→t D σ H→wpAny (model X.prog X.w) X.A (execs st X.env) (SP X pins D) X.xe s
theorem thn {α:Type} {t:Sem α} {Q Q':α→Shared→Prop} {M:Model} {A:Around} {E:Value→Shared→Prop} {s:Shared} (h:wpAny M A t Q E s) (hQ:∀ a s,Q a s→Q' a s):wpAny M A t Q' E s:=wpAny_mono h hQ fun _ _ x=>x
end L2
namespace L2
open PySem PySem.Spec PyProof.Rows
section
variable {X:Cx}
def tVar (i:Nat):TE:=fun σ H Q=>∃ v,σ[i]?=some (some v)∧Q v H
def tC (v:V):TE:=fun _ H Q=>Q v H
theorem pe_var {i:Nat} {x:Str} {pos:Pos} (hN:X.N[i]?=some x) (hv:Vis X.env.scope x) (hd:(x == ("__debug__":Str))=false:=by decide) (hcd:(x == ("__classdict__":Str))=false:=by decide):PE X (.Name x pos) (tVar i):=by
 intro pins s σ H Q I h
 obtain ⟨v,e,h⟩:=h
 obtain ⟨m,hn,hl⟩:=I.loc
 obtain ⟨u,r,l⟩:=hl i x v hN e hv
 have fin:EP X pins σ Q u s:=⟨v,H,I,r,h⟩
 rcases l with ⟨hk,hm⟩ | ⟨hk,c,hc,hcell⟩
 ·exact wpAny_Name (wpAny_loadName_local I.ok.kind hk hn hm fin) hd
 ·rcases hk with hk | hk
  ·exact wpAny_Name (wpAny_loadName_cell I.ok.kind hk hc hcell fin) hd
  ·exact wpAny_Name (wpAny_loadName_free I.ok.kind hk hc hcell fin hcd) hd
theorem pe_int {i j pos}:PE X (.Constant (.int i) j pos) (tC (.int i)):=fun _ _ _ H _ I h=>wpAny_Constant_int ⟨.int i,H,I.tok _,⟨_,rfl⟩,h⟩
theorem pe_bl {b j pos}:PE X (.Constant (.bool b) j pos) (tC (.bl b)):=fun _ _ _ H _ I h=>Constant_bool ⟨.bl b,H,I,rfl,h⟩
theorem pe_non {j pos}:PE X (.Constant .none j pos) (tC .non):=fun _ _ _ H _ I h=>Constant_none ⟨.non,H,I,rfl,h⟩
def Gl (X:Cx) (x:Str):Prop:=X.env.kindOf x=some .globalImplicit
theorem ld_glob {E:Value→Shared→Prop} {pins:List (Addr × Obj)} {s:Shared} {σ:St} {H:Hp} {x:Str} {u:Value} {pos:Pos} {Q:Value→Shared→Prop} (I:Inv X pins σ H s) (hg:Gl X x) (hm:X.mg x=some u) (h:Q u s)
  (hd:(x == ("__debug__":Str))=false:=by decide):wpAny (model X.prog X.w) X.A (eval (.Name x pos) X.env) Q E s :=
 Calls.Name_function_global I.ok.kind hg (Calls.loadGlobal_global (by rw [I.ok.glob];exact I.mod.glob.keeps I.bk) hm h) hd
theorem ld_blt {E:Value→Shared→Prop} {pins:List (Addr × Obj)} {s:Shared} {σ:St} {H:Hp} {x:Str} {u:Value} {pos:Pos} {Q:Value→Shared→Prop} (I:Inv X pins σ H s) (hg:Gl X x) (hm:X.mg x=none) (hv:bootBuiltins x=some u) (h:Q u s)
  (hn:x≠"__name__":=by decide) (hd:(x == ("__debug__":Str))=false:=by decide):wpAny (model X.prog X.w) X.A (eval (.Name x pos) X.env) Q E s:=by
 obtain ⟨mb,h1,h2⟩:=I.mod.blt
 exact Calls.Name_function_global I.ok.kind hg (Calls.loadGlobal_builtin (by rw [I.ok.glob];exact I.mod.glob.keeps I.bk) hm (by rw [I.ok.blt];exact h1.keeps I.bk) ((h2 x hn).trans hv) h) hd
theorem pe_glob {x:Str} {v:V} {u:Value} {pos:Pos} (hg:Gl X x) (hm:X.mg x=some u) (r:RelV v u) (hd:(x == ("__debug__":Str))=false:=by decide):PE X (.Name x pos) (tC v) :=
 fun _ _ _ H _ I h=>ld_glob I hg hm ⟨v,H,I,r,h⟩ hd
variable {a b:Expr} {ta tb:TE} {pos:Pos}
def PC (X:Cx) (op:CmpOp) (a b:Expr) (t:TE):Prop :=
 ∀ (pins:List (Addr × Obj)) (s:Shared) (σ:St) (H:Hp) (Q:VK),Inv X pins σ H s→t σ H Q →
  wpAny (model X.prog X.w) X.A (eval a X.env) (fun v s₁=>wpAny (model X.prog X.w) X.A (eval b X.env) (fun u s₂=>wpAny (model X.prog X.w) X.A (compareOp op v u) (EP X pins σ Q) X.xe s₂) X.xe s₁) X.xe s
def tB (t:TE):TT:=fun σ H Q=>t σ H fun x H1=>∃ c,x=.bl c∧Q c H1
theorem pt_cmp {op:CmpOp} {t:TE} (h:PC X op a b t) (h1:behindInMarks op b=false:=by first | exact nobehind _ (by decide) (by decide) | rfl):PT X (.Compare a [op] [b] pos) (tB t):=by
 intro pins s σ H Q I hw
 refine wpAny_isTrue_Compare1 (thn (h pins s σ H _ I hw) fun v s1 h1=>thn h1 fun u s2 h2=>thn h2 fun c s3 ⟨x,H1,I1,r1,q1⟩=>?_) h1
 obtain ⟨d,rfl,q⟩:=q1
 cases r1
 exact wpAny_truthy_bool ⟨H1,I1,q⟩
theorem pt_val {e:Expr} {t:TE} (h:PE X e t) (he:∀ whole,isTrue e X.env whole=(do let v ← whole;standAt e.pos;holding [v] (truthy v)):=by intro _;rfl):PT X e (tB t):=by
 intro pins s σ H Q I hw
 refine isTrue_plain (thn (h pins s σ H _ I hw) fun v s1 ⟨x,H1,I1,r1,q1⟩=>?_) (he _)
 obtain ⟨d,rfl,q⟩:=q1
 cases r1
 exact wpAny_truthy_bool ⟨H1,I1,q⟩
variable {tA tB':TT} {rest:List Expr}
def tAnd (t u:TT):TT:=fun σ H Q=>t σ H fun c H1=>if c=true then u σ H1 Q else Q false H1
def tOr (t u:TT):TT:=fun σ H Q=>t σ H fun c H1=>if c=true then Q true H1 else u σ H1 Q
def tNot (t:TT):TT:=fun σ H Q=>t σ H fun c H1=>Q (!c) H1
theorem pw_and1 (ha:PT X a tA):PW X (.BoolOp .And [a] pos) tA:=by
 intro wh pins s σ H Q I h
 refine isTrue_and (thn (ha pins s σ H Q I h) fun c s1 e=>?_)
 cases c with
 | true=>exact isTrue_and_nil e
 | false=>exact e
theorem pw_or1 (ha:PT X a tA):PW X (.BoolOp .Or [a] pos) tA:=by
 intro wh pins s σ H Q I h
 refine isTrue_or (thn (ha pins s σ H Q I h) fun c s1 e=>?_)
 cases c with
 | false=>exact isTrue_or_nil e
 | true=>exact e
theorem pw_and (ha:PT X a tA) (hb:PW X (.BoolOp .And (b::rest) pos) tB'):PW X (.BoolOp .And (a::b::rest) pos) (tAnd tA tB'):=by
 intro wh pins s σ H Q I h
 refine isTrue_and (thn (ha pins s σ H _ I h) fun c s1 ⟨H1,I1,q1⟩=>?_)
 cases c with
 | true=>exact hb wh pins s1 σ H1 Q I1 q1
 | false=>exact ⟨H1,I1,q1⟩
theorem pw_or (ha:PT X a tA) (hb:PW X (.BoolOp .Or (b::rest) pos) tB'):PW X (.BoolOp .Or (a::b::rest) pos) (tOr tA tB'):=by
 intro wh pins s σ H Q I h
 refine isTrue_or (thn (ha pins s σ H _ I h) fun c s1 ⟨H1,I1,q1⟩=>?_)
 cases c with
 | true=>exact ⟨H1,I1,q1⟩
 | false=>exact hb wh pins s1 σ H1 Q I1 q1
theorem pt_not (ha:PT X a tA):PT X (.UnaryOp .Not a pos) (tNot tA):=by
 intro pins s σ H Q I h
 exact isTrue_not (ha pins s σ H (fun c H1=>Q (!c) H1) I h)
def tAndV (ta tb:TE):TE:=fun σ H Q=>ta σ H fun x H1=>∃ c,x=.bl c∧if c=true then tb σ H1 Q else Q (.bl false) H1
theorem pe_one {op} {t:TE} (h:PE X a t):PE X (.BoolOp op [a] pos) t:=fun pins s σ H Q I hw=>BoolOp_one (h pins s σ H Q I hw)
theorem pe_and (ha:PE X a ta) (hb:PE X (.BoolOp .And (b::rest) pos) tb):PE X (.BoolOp .And (a::b::rest) pos) (tAndV ta tb):=by
 intro pins s σ H Q I h
 refine BoolOp_and (thn (ha pins s σ H _ I h) fun v s1 ⟨x,H1,I1,r1,q1⟩=>?_)
 obtain ⟨c,rfl,q1⟩:=q1
 cases r1
 refine wpAny_truthy_bool ?_
 cases c with
 | true=>exact hb pins s1 σ H1 Q I1 q1
 | false=>exact ⟨.bl false,H1,I1,rfl,q1⟩
def tIf (t:TT) (ta tb:TE):TE:=fun σ H Q=>t σ H fun c H1=>if c=true then ta σ H1 Q else tb σ H1 Q
theorem pe_ifExp {c:Expr} (hc:PT X c tA) (ha:PE X a ta) (hb:PE X b tb):PE X (.IfExp c a b pos) (tIf tA ta tb):=by
 intro pins s σ H Q I h
 refine wpAny_IfExp (thn (hc pins s σ H _ I h) fun d s1 ⟨H1,I1,q1⟩=>?_)
 cases d with
 | true=>exact ha pins s1 σ H1 Q I1 q1
 | false=>exact hb pins s1 σ H1 Q I1 q1
end
end L2
namespace L2
open PySem PySem.Spec PyProof.Rows
def SqL (K:PySem.W.Frag) (H:Hp) (a:Addr) (xs:List V):Prop :=
 Rd H a (.lst xs) ∨
  ∃ (o:Obj) (its:Array Value) (n:Nat),K.lookup a=some o∧o.cls=.type "list"∧o.dict=none∧o.data=.seq its n∧its.size≤sizeLine∧Vals xs its.toList
def SqT (K:PySem.W.Frag) (H:Hp) (a:Addr) (xs:List V):Prop :=
 Rd H a (.tup xs) ∨
  ∃ (o:Obj) (its:Array Value) (n:Nat),K.lookup a=some o∧o.cls=.type "tuple"∧o.data=.seq its n∧its.size≤sizeLine∧Vals xs its.toList
def absV:Value→Option V
 | .none=>some .non
 | .bool b=>some (.bl b)
 | .int i _=>some (.int i)
 | .str x _=>some (.str x)
 | .bytes b _=>some (.byt b)
 | .float b _=>some (.flt b)
 | .ref a=>some (.ref a)
 | .type n=>some (.ty n)
 | _=>none
theorem RelV.abs {x:V} {u:Value} (r:RelV x u):absV u=some x:=by
 cases x with
 | non=>cases r;rfl
 | bl _=>cases r;rfl
 | int _=>obtain ⟨t,rfl⟩:=r;rfl
 | str _=>obtain ⟨t,rfl⟩:=r;rfl
 | byt _=>obtain ⟨t,rfl⟩:=r;rfl
 | flt _=>obtain ⟨t,rfl⟩:=r;rfl
 | ref _=>cases r;rfl
 | ty _=>cases r;rfl
theorem RelV.inj {x y:V} {u:Value} (r:RelV x u) (q:RelV y u):x=y:=Option.some.inj (r.abs.symm.trans q.abs)
theorem Vals.inj:∀ {xs ys:List V} {us:List Value},Vals xs us→Vals ys us→xs=ys
 | _,_,_,.nil,.nil=>rfl
 | _,_,_,.cons r t,.cons r' t'=>by rw [r.inj r',Vals.inj t t']
section
variable {X:Cx} {pins:List (Addr × Obj)} {σ:St} {H:Hp} {s:Shared} {a:Addr} {xs ys:List V}
theorem SqL.of {K:PySem.W.Frag} (h:H a=some (.lst xs)):SqL K H a xs:=.inl (.inl h)
theorem SqT.of {K:PySem.W.Frag} (h:H a=some (.tup xs)):SqT K H a xs:=.inl (.inl h)
theorem Inv.list (I:Inv X pins σ H s) (h:SqL X.K H a xs):∃ its:List Value,Vals xs its∧PlainL s.heap a its.toArray∧xs.length≤sizeLine:=by
 rcases h with h | ⟨o,its,n,hk,hc,hd,hs,hz,r⟩
 ·obtain ⟨z,its,n,r,e⟩:=h.ok I.hok
  exact ⟨its,r,⟨_,n,e,rfl,rfl,rfl⟩,z⟩
 ·refine ⟨its.toList,r,⟨o,n,I.kIn a o hk,hc,hd,by simpa using hs⟩,?_⟩
  have e:=r.length
  simp only [Array.length_toList] at e
  omega
theorem Inv.tuple (I:Inv X pins σ H s) (h:SqT X.K H a xs):∃ its:List Value,Vals xs its∧IsTup s.heap a its.toArray∧xs.length≤sizeLine:=by
 rcases h with h | ⟨o,its,n,hk,hc,hs,hz,r⟩
 ·obtain ⟨z,its,r,p⟩:=h.ok I.hok
  exact ⟨its,r,p,z⟩
 ·refine ⟨its.toList,r,⟨o,I.kIn a o hk,hc,n,by simpa using hs⟩,?_⟩
  have e:=r.length
  simp only [Array.length_toList] at e
  omega
theorem Inv.list_inj (I:Inv X pins σ H s) (h:SqL X.K H a xs) (h':SqL X.K H a ys):xs=ys:=by
 obtain ⟨its,r,⟨o,n,e,_,_,d⟩,_⟩:=I.list h
 obtain ⟨its',r',⟨o',n',e',_,_,d'⟩,_⟩:=I.list h'
 rw [e] at e';cases e'
 rw [d] at d'
 injection d' with d1 _
 have:its=its':=by simpa using congrArg Array.toList d1
 subst this
 exact r.inj r'
theorem Inv.tuple_inj (I:Inv X pins σ H s) (h:SqT X.K H a xs) (h':SqT X.K H a ys):xs=ys:=by
 obtain ⟨its,r,⟨o,e,_,n,d⟩,_⟩:=I.tuple h
 obtain ⟨its',r',⟨o',e',_,n',d'⟩,_⟩:=I.tuple h'
 rw [e] at e';cases e'
 rw [d] at d'
 injection d' with d1 _
 have:its=its':=by simpa using congrArg Array.toList d1
 subst this
 exact r.inj r'
end
abbrev Cx.wish (X:Cx) (E:Value→Shared→Prop):Cx:={ X with xe:=E }
abbrev Cx.nox (X:Cx):Cx:=X.wish fun _ _=>False
theorem Cx.Ok.wish {X:Cx} (ok:X.Ok) (E:Value→Shared→Prop):(X.wish E).Ok :=
 ⟨ok.mod,ok.kind,ok.glob,ok.blt,ok.above,ok.inj,ok.has,ok.cab,ok.hd,ok.frames,ok.stk,ok.exf,ok.bs,ok.bsz,ok.noex,ok.exfs,ok.funs,ok.frf⟩
theorem Cx.Ok.unwish {X:Cx} {E:Value→Shared→Prop} (ok:(X.wish E).Ok):X.Ok :=
 ⟨ok.mod,ok.kind,ok.glob,ok.blt,ok.above,ok.inj,ok.has,ok.cab,ok.hd,ok.frames,ok.stk,ok.exf,ok.bs,ok.bsz,ok.noex,ok.exfs,ok.funs,ok.frf⟩
section
variable {X:Cx} {pins:List (Addr × Obj)} {σ:St} {H:Hp} {s:Shared} {E:Value→Shared→Prop}
theorem Inv.wish (I:Inv X pins σ H s) (E:Value→Shared→Prop):Inv (X.wish E) pins σ H s:=⟨I.ok.wish E,I.os,I.bare,I.base,I.loc,I.cell,I.free,I.freeC,I.pin,I.hok,I.len⟩
theorem Inv.unwish (I:Inv (X.wish E) pins σ H s):Inv X pins σ H s:=⟨I.ok.unwish,I.os,I.bare,I.base,I.loc,I.cell,I.free,I.freeC,I.pin,I.hok,I.len⟩
theorem SP.unwish {D:Ends} {f:Flow} {s':Shared} (h:SP (X.wish E) pins D f s'):SP X pins D f s':=by
 cases f with
 | next=>obtain ⟨σ',H',I,q⟩:=h;exact ⟨σ',H',I.unwish,q⟩
 | brk=>obtain ⟨σ',H',I,q⟩:=h;exact ⟨σ',H',I.unwish,q⟩
 | cont=>obtain ⟨σ',H',I,q⟩:=h;exact ⟨σ',H',I.unwish,q⟩
 | ret u=>obtain ⟨v,σ',H',I,r,q⟩:=h;exact ⟨v,σ',H',I.unwish,r,q⟩
theorem PSs.nox {st:List Stmt} {t:TS} (h:PSs X.nox st t):PSs X st t:=fun pins s σ H D I hw =>
 wpAny_mono (h pins s σ H D (I.wish _) hw) (fun _ _ q=>q.unwish) fun _ _ z=>False.elim z
end
section
variable {X:Cx} {st:Stmt} {rest:List Stmt} {t u:TS} {e:Expr} {te:TE} {pos:Pos}
def tNext:TS:=fun D σ H=>D.nx σ H
def tSeq (t u:TS):TS:=fun D σ H=>t { D with nx:=u D } σ H
theorem pss_nil:PSs X [] tNext:=fun _ _ σ H _ I h=>wpAny_execs_nil ⟨σ,H,I,h⟩
theorem pss_cons (h1:PS X st t) (h2:PSs X rest u):PSs X (st::rest) (tSeq t u):=by
 intro pins s σ H D I h
 refine wpAny_execs_cons (thn (h1 pins s σ H { D with nx:=u D } I h) fun f s1 q=>?_)
 cases f with
 | next =>
  obtain ⟨σ',H',I',q⟩:=q
  exact h2 pins s1 σ' H' D I' q
 | ret v=>exact q
 | brk=>exact q
 | cont=>exact q
theorem pss_one (h1:PS X st t):PSs X [st] t:=by
 intro pins s σ H D I h
 refine wpAny_execs_cons (thn (h1 pins s σ H D I h) fun f s1 q=>?_)
 cases f with
 | next=>exact wpAny_execs_nil q
 | ret v=>exact q
 | brk=>exact q
 | cont=>exact q
theorem Inv.quiet {pins:List (Addr × Obj)} {σ:St} {H:Hp} {s:Shared} (I:Inv X pins σ H s):interactive X.env=false:=by simp [interactive,I.ok.kind]
def tDrop (te:TE):TS:=fun D σ H=>te σ H fun _ H1=>D.nx σ H1
theorem ps_expr (he:PE X e te) (hs:swapsWith e none pos.line X.env=pure false:=by rfl):PS X (.Expr e pos) (tDrop te):=by
 intro pins s σ H D I h
 exact wpAny_Expr_any (thn (he pins s σ H _ I h) fun v s1 ⟨x,H1,I1,r1,q1⟩=>⟨σ,H1,I1,q1⟩) I.quiet hs
def tRet (te:TE):TS:=fun D σ H=>te σ H D.rt
theorem ps_ret (he:PE X e te):PS X (.Return (some e) pos) (tRet te):=by
 intro pins s σ H D I h
 exact wpAny_Return_some (thn (he pins s σ H _ I h) fun v s1 ⟨x,H1,I1,r1,q1⟩=>⟨x,σ,H1,I1,r1,q1⟩)
def tRetN:TS:=fun D _ H=>D.rt .non H
theorem ps_retN:PS X (.Return none pos) tRetN:=fun _ _ σ H _ I h=>wpAny_Return_none ⟨.non,σ,H,I,rfl,h⟩
def tIfS (c:TT) (t u:TS):TS:=fun D σ H=>c σ H fun b H1=>if b=true then t D σ H1 else u D σ H1
theorem ps_if {c:Expr} {a b:List Stmt} {tc:TT} (hc:PT X c tc) (ha:PSs X a t) (hb:PSs X b u):PS X (.If c a b pos) (tIfS tc t u):=by
 intro pins s σ H D I h
 refine wpAny_If (thn (hc pins s σ H _ I h) fun d s1 ⟨H1,I1,q1⟩=>?_)
 cases d with
 | true=>exact ha pins s1 σ H1 D I1 q1
 | false=>exact hb pins s1 σ H1 D I1 q1
end
abbrev TG:=V→St→Hp→(St→Hp→Prop)→Prop
abbrev TGs:=List V→St→Hp→(St→Hp→Prop)→Prop
def PG (X:Cx) (target:Expr) (t:TG):Prop :=
 ∀ (pins:List (Addr × Obj)) (s:Shared) (σ:St) (H:Hp) (v:V) (u:Value) (Q:St→Hp→Prop),Inv X pins σ H s→RelV v u→t v σ H Q →
  wpAny (model X.prog X.w) X.A (assign target X.env u) (fun _ s'=>∃ σ' H',Inv X pins σ' H' s'∧Q σ' H') X.xe s
def PGs (X:Cx) (ts:List Expr) (t:TGs):Prop :=
 ∀ (pins:List (Addr × Obj)) (s:Shared) (σ:St) (H:Hp) (vs:List V) (us:List Value) (Q:St→Hp→Prop),Inv X pins σ H s→Vals vs us→t vs σ H Q →
  wpAny (model X.prog X.w) X.A (assignInOrder ((assignEach ts X.env).map (·.2)) us) (fun _ s'=>∃ σ' H',Inv X pins σ' H' s'∧Q σ' H') X.xe s
abbrev TSet:=V→V→V→Hp→(Hp→Prop)→Prop
def PSet (X:Cx) (t:TSet):Prop :=
 ∀ (pins:List (Addr × Obj)) (s:Shared) (σ:St) (H:Hp) (o i v:V) (ov iv u:Value) (Q:Hp→Prop),Inv X pins σ H s→RelV o ov→RelV i iv→RelV v u→t o i v H Q →
  wpAny (model X.prog X.w) X.A (setItem ov iv u) (fun _ s'=>∃ H',Inv X pins σ H' s'∧Q H') X.xe s
section
variable {X:Cx} {pos:Pos}
def gName (i:Nat):TG:=fun v σ H Q=>Q (σ.set i (some v)) H
theorem pg_name {i:Nat} {x:Str} (hN:X.N.Nodup) (hi:X.N[i]?=some x) (hx:Loc X.env.scope x) (hf:X.fn x=true∨X.env.scope.names.lookup x=some .local:=by first | exact .inl rfl | exact .inr rfl | assumption):PG X (.Name x pos) (gName i):=by
 intro pins s σ H v u Q I r h
 exact wpAny_assign_Name (store_ok I hN hi hx r (fun s' I'=>⟨_,H,I',h⟩) hf)
def gNil:TGs:=fun vs σ H Q=>vs=[]∧Q σ H
def gCons (t:TG) (u:TGs):TGs:=fun vs σ H Q=>∃ v r,vs=v::r∧t v σ H fun σ' H'=>u r σ' H' Q
theorem pgs_nil:PGs X [] gNil:=by
 intro pins s σ H vs us Q I r h
 obtain ⟨e,h⟩:=h
 subst e
 cases r
 exact assignInOrder_nil ⟨σ,H,I,h⟩
theorem pgs_cons {e:Expr} {es:List Expr} {t:TG} {u:TGs} (h1:PG X e t) (h2:PGs X es u)
  (hs:(assignEach (e::es) X.env).map (·.2)=assign e X.env::(assignEach es X.env).map (·.2):=by rfl):PGs X (e::es) (gCons t u):=by
 intro pins s σ H vs us Q I r h
 obtain ⟨v,vr,e1,h⟩:=h
 subst e1
 cases r with
 | cons r rr =>
  rw [hs]
  refine assignInOrder_cons (thn (h1 pins s σ H _ _ _ I r h) fun _ s1 ⟨σ1,H1,I1,q1⟩=>?_)
  exact h2 pins s1 σ1 H1 _ _ Q I1 rr q1
def gTup (K:PySem.W.Frag) (n:Nat) (t:TGs):TG:=fun v σ H Q=>∃ a xs,v=.ref a∧SqT K H a xs∧xs.length=n∧t xs σ H Q
theorem pg_tup {es:List Expr} {k:Nat} {t:TGs} {n:Nat} (hc:X.calm=true) (h:PGs X es t)
  (hn:(assignEach es X.env).length=n:=by rfl) (hst:(assignEach es X.env).findIdx? (·.1)=none:=by rfl):PG X (.Tuple es k pos) (gTup X.K n t):=by
 intro pins s σ H v u Q I r hw
 obtain ⟨a,xs,e1,hq,hl,hw⟩:=hw
 subst e1
 cases r
 obtain ⟨its,rv,ht,hz⟩:=I.tuple hq
 refine assign_Tuple_tuple (I.ok.hd hc) ht (by simp [hn,← hl,rv.length]) hst fun h' hx=>?_
 have I1:Inv X pins σ H { s with heap:=h' }:=I.kept (t':=s.toks) fun b o e=>hx b o (Nat.ne_of_lt (Heap.lt_size e)) e
 exact h pins _ σ H xs _ Q I1 (by simpa using rv) hw
def gSub (to ti:TE) (t:TSet):TG:=fun v σ H Q=>to σ H fun o H1=>ti σ H1 fun i H2=>t o i v H2 fun H3=>Q σ H3
theorem pg_sub {o i:Expr} {to ti:TE} {t:TSet} (ho:PE X o to) (hi:PE X i ti) (hs:PSet X t)
  (ha:∀ v,assign (.Subscript o i pos) X.env v=(do
   let ov ← holding [v] (eval o X.env)
   let iv ← holding [v,ov] (eval i X.env)
   standAt pos
   holding [v,ov,iv] (setItem ov iv v)
   release [v,ov,iv] []):=by intro _;rfl):PG X (.Subscript o i pos) (gSub to ti t):=by
 intro pins s σ H v u Q I r h
 rw [ha]
 refine wpAny_bind (wpAny_holding (thn (ho pins s σ H _ I h) fun ov s1 ⟨x,H1,I1,r1,q1⟩=>?_))
 refine wpAny_bind (wpAny_holding (thn (hi pins s1 σ H1 _ I1 q1) fun iv s2 ⟨y,H2,I2,r2,q2⟩=>?_))
 refine wpAny_bind (wpAny_standAt (wpAny_bind (wpAny_holding (thn (hs pins s2 σ H2 x y v ov iv u _ I2 r1 r2 r q2) fun _ s3 ⟨H3,I3,q3⟩=>?_))))
 exact wpAny_release ⟨σ,H3,I3,q3⟩
def tAsg (te:TE) (g:TG):TS:=fun D σ H=>te σ H fun x H1=>g x σ H1 D.nx
theorem ps_asg {tg e:Expr} {te:TE} {g:TG} (he:PE X e te) (hg:PG X tg g) (hs:swapsWithSole [tg] e pos.line X.env=pure false:=by rfl) (hw:swappedStores [tg] e X.env=pure none:=by rfl)
  (h1:(assignEach [tg] X.env).map (·.2)=[assign tg X.env]:=by rfl):PS X (.Assign [tg] e pos) (tAsg te g):=by
 intro pins s σ H D I h
 refine wpAny_Assign_stores (thn (he pins s σ H _ I h) fun v s1 ⟨x,H1,I1,r1,q1⟩=>?_) hs hw
 rw [h1]
 exact thn (hg pins s1 σ H1 x v _ I1 r1 q1) fun _ s2 q=>q
theorem ps_set {i:Nat} {x:Str} {e:Expr} {te:TE} {pos':Pos} (hN:X.N.Nodup) (hi:X.N[i]?=some x) (hx:Loc X.env.scope x) (he:PE X e te) (hs:swapsWith e (some (.Name x pos')) pos.line X.env=pure false:=by rfl) (hf:X.fn x=true∨X.env.scope.names.lookup x=some .local:=by first | exact .inl rfl | exact .inr rfl | assumption) :
  PS X (.Assign [.Name x pos'] e pos) (tAsg te (gName i)):=by
 intro pins s σ H D I h
 refine wpAny_Assign_Name (thn (he pins s σ H _ I h) fun v s1 ⟨y,H1,I1,r1,q1⟩=>?_) hs
 exact store_ok I1 hN hi hx r1 (fun s2 I2=>⟨_,H1,I2,q1⟩) hf
end
section
variable {X:Cx} {pos:Pos}
def tWhile (c:TT) (tb:TS):TS:=fun D σ H=>∃ W:Nat→St→Hp→Prop,(∃ m,W m σ H)∧∀ m σ H,W m σ H →
 c σ H fun b H1=>if b=true then ∃ N:St→Hp→Prop,(∀ σ' H',N σ' H'→∃ m',m' < m∧W m' σ' H')∧tb { D with nx:=N,ct:=N,bk:=D.nx } σ H1 else D.nx σ H1
theorem ps_while {c:Expr} {body:List Stmt} {tc:TT} {tb:TS} (hp:PassesOwn (model X.prog X.w) X.A X.env X.xe) (hc:PT X c tc) (hb:PSs X body tb):PS X (.While c body [] pos) (tWhile tc tb):=by
 intro pins s σ H D I h
 obtain ⟨W,⟨m0,w0⟩,turn⟩:=h
 refine wpAny_While (codeAny_whileLoop (fun n s'=>∃ σ' H',Inv X pins σ' H' s'∧W n σ' H') ?_ m0 ⟨σ,H,I,w0⟩)
 rintro n s1 ⟨σ1,H1,I1,w1⟩
 refine wpAny_passesOwn hp (thn (hc pins s1 σ1 H1 _ I1 (turn n σ1 H1 w1)) fun b s2 ⟨H2,I2,q2⟩=>?_)
 cases b with
 | true =>
  obtain ⟨N,hN,q2⟩:=q2
  rw [if_pos rfl]
  refine wpAny_passesOwn hp (thn (hb pins s2 σ1 H2 _ I2 q2) fun f s3 q3=>?_)
  cases f with
  | next =>
   obtain ⟨σ3,H3,I3,n3⟩:=q3
   obtain ⟨m',hm,w3⟩:=hN σ3 H3 n3
   exact ⟨m',hm,σ3,H3,I3,w3⟩
  | cont =>
   obtain ⟨σ3,H3,I3,n3⟩:=q3
   obtain ⟨m',hm,w3⟩:=hN σ3 H3 n3
   exact ⟨m',hm,σ3,H3,I3,w3⟩
  | brk=>exact q3
  | ret v=>exact q3
 | false =>
  rw [if_neg Bool.false_ne_true]
  exact wpAny_execs_nil ⟨σ1,H2,I2,q2⟩
end
structure It where
 go:Nat→Hp→Prop
 yld:Nat→Hp→V→Hp→Prop
 stop:Nat→Hp→Prop
def FpOk (X:Cx) (pins:List (Addr × Obj)) (H:Hp) (b:Addr):Prop :=
 H b=none∧b≠X.env.locals∧b ∉ X.fs∧(b∈X.ex∨X.s_0.heap.objs.size≤b)∧(∀ x c,X.env.cells.lookup x=some c→c≠b)∧∀ p∈X.pn++pins,p.1≠b
theorem Inv.fpOk {X:Cx} {pins:List (Addr × Obj)} {σ:St} {H H':Hp} {s:Shared} {b:Addr} (I:Inv X pins σ H s) (hb:s.heap.objs.size≤b) (hn:H' b=none):FpOk X pins H' b:=by
 refine ⟨hn,Nat.ne_of_gt (Nat.lt_of_lt_of_le I.lt hb),I.nofs hb,.inr (Nat.le_trans I.sz hb),fun x c e z=>?_,fun p hp z=>?_⟩
 ·obtain ⟨v,q⟩:=I.cell x c e
  exact absurd (Nat.lt_of_lt_of_le q.lt (by rw [z];exact hb)) (Nat.lt_irrefl _)
 ·exact absurd (Nat.lt_of_lt_of_le (Heap.lt_size (I.pin p hp).1) (by rw [z];exact hb)) (Nat.lt_irrefl _)
structure Turn (P:Program) (w:World) (K:PySem.W.Frag) (tg:Expr) (J:It) (fp:List Addr) (it:Addr) (tn:Nat→Heap→Prop):Prop where
 mem:it∈fp
 obj:∀ i h,tn i h→∀ b∈fp,∃ o,h.get? b=some o∧∀ v,o.data≠.cell v
 keep:∀ i h h',tn i h→(∀ b∈fp,∀ o,h.get? b=some o→h'.get? b=some o)→tn i h'
 item:∀ (X:Cx),X.prog=P→X.w=w→X.K=K→X.calm=true→∀ (i:Nat) (pins:List (Addr × Obj)) (s:Shared) (σ:St) (H:Hp) (E:Value→Shared→Prop),Inv X pins σ H s→(∀ b∈fp,FpOk X pins H b)→tn i s.heap→J.go i H →
  wpAny (model P w) X.A (pyNext (.ref it)) (fun r s1=>∃ u,r=some u ∧
   wpAny (model P w) X.A (letOwnedTupleGo tg (.ref it) u) (fun _ s2=>∃ x H',Inv X pins σ H' s2∧RelV x u∧J.yld i H x H'∧tn (i+1) s2.heap∧∀ b∈fp,H' b=none) E s1) E s
 done:∀ (X:Cx),X.prog=P→X.w=w→X.K=K→X.calm=true→∀ (i:Nat) (pins:List (Addr × Obj)) (s:Shared) (σ:St) (H:Hp) (E:Value→Shared→Prop),Inv X pins σ H s→(∀ b∈fp,FpOk X pins H b)→tn i s.heap→J.stop i H →
  wpAny (model P w) X.A (pyNext (.ref it)) (fun r s1=>r=none∧Inv X pins σ H s1) E s
 self:∀ (A:Around) (i:Nat) (s:Shared) (Q:Value→Shared→Prop) (E:Value→Shared→Prop),tn i s.heap→Q (.ref it) s→wpAny (model P w) A (pyIter (.ref it)) Q E s
abbrev TI:=St→Hp→(It→Hp→Prop)→Prop
def PIE (X:Cx) (pins:List (Addr × Obj)) (σ:St) (tg:Expr) (R:It→Hp→Prop) (itv:Value) (s2:Shared):Prop :=
 ∃ (it:Addr) (fp:List Addr) (tn:Nat→Heap→Prop) (J:It) (H':Hp),itv=.ref it∧Inv X pins σ H' s2∧Turn X.prog X.w X.K tg J fp it tn∧tn 0 s2.heap∧(∀ b∈fp,FpOk X pins H' b)∧R J H'
def PI (X:Cx) (tg iter:Expr) (wi:TI):Prop :=
 ∀ (pins:List (Addr × Obj)) (s:Shared) (σ:St) (H:Hp) (R:It→Hp→Prop),Inv X pins σ H s→wi σ H R →
  wpAny (model X.prog X.w) X.A (eval iter X.env) (fun v s1=>wpAny (model X.prog X.w) X.A (pyIter v) (PIE X pins σ tg R) X.xe s1) X.xe s
theorem go_of {M:Model} {A:Around} {E:Value→Shared→Prop} {s:Shared} {tg:Expr} {it:Addr} {u:Value} {o:Obj} {n:String} {vs:Array Value} {Q:Unit→Shared→Prop} (ho:s.heap.get? it=some o) (hc:o.cls=.type n) (hd:o.data=.fields vs)
    (hn:["enumerate","zip","dict_itemiterator","dict_reverseitemiterator","odict_iterator","itertools.zip_longest","itertools.pairwise"].contains n=false) (hQ:Q () s):wpAny M A (letOwnedTupleGo tg (.ref it) u) Q E s:=by
  unfold letOwnedTupleGo
  cases tg <;> first
    | exact wpAny_pure hQ
    | (cases u <;> first
        | exact wpAny_pure hQ
        | (refine wpAny_bind (wpAny_load ho ?_)
           rw [hc,hd]
           show wpAny M A (if (["enumerate","zip","dict_itemiterator","dict_reverseitemiterator","odict_iterator","itertools.zip_longest","itertools.pairwise"].contains n && vs[0]? == some (rawInt _))=true then _ else _) Q E s
           rw [if_neg (by intro h;rw [hn,Bool.false_and] at h;cases h)]
           exact wpAny_pure hQ))
def Itl (K:PySem.W.Frag) (a:Addr):It :=
 ⟨fun i H=>∃ xs x,SqL K H a xs∧xs[i]?=some x,fun i H x H'=>H'=H∧∀ xs,SqL K H a xs→xs[i]?=some x,fun i H=>∃ xs,SqL K H a xs∧xs.length≤i⟩
def Itt (K:PySem.W.Frag) (a:Addr):It :=
 ⟨fun i H=>∃ xs x,SqT K H a xs∧xs[i]?=some x,fun i H x H'=>H'=H∧∀ xs,SqT K H a xs→xs[i]?=some x,fun i H=>∃ xs,SqT K H a xs∧xs.length≤i⟩
def Itr (lo:Int) (n:Nat):It:=⟨fun i _=>i < n,fun i H x H'=>H'=H∧x=.int (lo+i),fun i _=>n≤i⟩
theorem turn_list {P:Program} {w:World} {K:PySem.W.Frag} {tg:Expr} (a it:Addr):Turn P w K tg (Itl K a) [it] it (fun i h=>h.IsListIter it a i) where
 mem:=by simp
 obj:=fun i h st b hb=>by
  have e:b=it:=by simpa using hb
  subst e
  obtain ⟨o,e,c,d⟩:=st
  exact ⟨o,e,fun v z=>by rw [d] at z;cases z⟩
 keep:=fun i h h' st k=>st.at fun o e=>k it (by simp) o e
 item:=by
  intro X hP hw hK hc i pins s σ H E I hf st hg
  subst hP hw hK
  obtain ⟨xs,x,hq,hx⟩:=hg
  obtain ⟨its,rv,p,hz⟩:=I.list hq
  obtain ⟨u,hu,ru⟩:=rv.get hx
  obtain ⟨f0,f1,f2,f3,f4,f5⟩:=hf it (by simp)
  refine wpAny_pyNext_list_item st p.isList (x:=u) (by simpa using hu) fun h' st' sb=>?_
  have I1:Inv X pins σ H { s with heap:=h' }:=I.turned (t':=s.toks) (fun b o hb e=>(sb.2 b hb).trans e) f0 f1 f3 f4 f5
  obtain ⟨o,e,c,d⟩:=id st'
  exact ⟨u,rfl,go_of (s:={ s with heap:=h' }) e c d (by decide) ⟨x,H,I1,ru,⟨rfl,fun ys hy=>by rw [I.list_inj hy hq];exact hx⟩,st',fun b hb=>(hf b hb).1⟩⟩
 done:=by
  intro X hP hw hK hc i pins s σ H E I hf st hg
  subst hP hw hK
  obtain ⟨xs,hq,hx⟩:=hg
  obtain ⟨its,rv,p,hz⟩:=I.list hq
  obtain ⟨f0,f1,f2,f3,f4,f5⟩:=hf it (by simp)
  have hl:=rv.length
  exact wpAny_pyNext_list_end (I.ok.hd hc) st p.isList (by simp;omega) fun h' eb=>⟨rfl,I.turned (t':=s.toks) (fun b o hb e=>eb b o hb e) f0 f1 f3 f4 f5⟩
 self:=fun _ _ _ _ _ st h=>wpAny_pyIter_listiter st h
theorem turn_tuple {P:Program} {w:World} {K:PySem.W.Frag} {tg:Expr} (a it:Addr):Turn P w K tg (Itt K a) [it] it (fun i h=>h.IsTupleIter it a i) where
 mem:=by simp
 obj:=fun i h st b hb=>by
  have e:b=it:=by simpa using hb
  subst e
  obtain ⟨o,e,c,d⟩:=st
  exact ⟨o,e,fun v z=>by rw [d] at z;cases z⟩
 keep:=fun i h h' st k=>st.at fun o e=>k it (by simp) o e
 item:=by
  intro X hP hw hK hc i pins s σ H E I hf st hg
  subst hP hw hK
  obtain ⟨xs,x,hq,hx⟩:=hg
  obtain ⟨its,rv,p,hz⟩:=I.tuple hq
  obtain ⟨u,hu,ru⟩:=rv.get hx
  obtain ⟨f0,f1,f2,f3,f4,f5⟩:=hf it (by simp)
  refine wpAny_pyNext_tuple_item st (show s.heap.IsTuple a its.toArray from p) (x:=u) (by simpa using hu) fun h' st' sb=>?_
  have I1:Inv X pins σ H { s with heap:=h' }:=I.turned (t':=s.toks) (fun b o hb e=>(sb.2 b hb).trans e) f0 f1 f3 f4 f5
  obtain ⟨o,e,c,d⟩:=id st'
  exact ⟨u,rfl,go_of (s:={ s with heap:=h' }) e c d (by decide) ⟨x,H,I1,ru,⟨rfl,fun ys hy=>by rw [I.tuple_inj hy hq];exact hx⟩,st',fun b hb=>(hf b hb).1⟩⟩
 done:=by
  intro X hP hw hK hc i pins s σ H E I hf st hg
  subst hP hw hK
  obtain ⟨xs,hq,hx⟩:=hg
  obtain ⟨its,rv,p,hz⟩:=I.tuple hq
  obtain ⟨f0,f1,f2,f3,f4,f5⟩:=hf it (by simp)
  have hl:=rv.length
  exact wpAny_pyNext_tuple_end (I.ok.hd hc) st (show s.heap.IsTuple a its.toArray from p) (by simp;omega) fun h' eb=>⟨rfl,I.turned (t':=s.toks) (fun b o hb e=>eb b o hb e) f0 f1 f3 f4 f5⟩
 self:=fun _ _ _ _ _ st h=>wpAny_pyIter_tupleiter st h
theorem turn_range {P:Program} {w:World} {K:PySem.W.Frag} {tg:Expr} (it:Addr) (lo:Int) (n:Nat):Turn P w K tg (Itr lo n) [it] it (fun i h=>IsRangeIter h it (lo+(i:Nat)*1) ((n:Int) - (i:Nat)) 1) where
 mem:=by simp
 obj:=fun i h st b hb=>by
  have e:b=it:=by simpa using hb
  subst e
  exact ⟨_,st,fun v z=>by
   have z':Data.fields _=Data.cell v:=z
   cases z'⟩
 keep:=fun i h h' st k=>k it (by simp) _ st
 item:=by
  intro X hP hw hK hc i pins s σ H E I hf st hg
  subst hP hw hK
  obtain ⟨f0,f1,f2,f3,f4,f5⟩:=hf it (by simp)
  have W:=Walks.range (prog:=X.prog) (w:=X.w) (I.ok.hd hc) it lo 1 n
  refine W.item i s _ _ hg st fun v h' tk hv st' kk=>?_
  obtain ⟨t,rfl⟩:=hv
  have I1:Inv X pins σ H { s with heap:=h',toks:=tk }:=I.turned (fun b o hb e=>kk b o (by simpa using hb) e) f0 f1 f3 f4 f5
  refine ⟨_,rfl,go_of (s:={ s with heap:=h',toks:=tk }) (n:="range_iterator") st' rfl rfl (by decide) ⟨.int (lo+i),H,I1,⟨t,?_⟩,⟨rfl,rfl⟩,st',fun b hb=>(hf b hb).1⟩⟩
  rw [Int.mul_one]
 done:=by
  intro X hP hw hK hc i pins s σ H E I hf st hg
  subst hP hw hK
  obtain ⟨f0,f1,f2,f3,f4,f5⟩:=hf it (by simp)
  exact wpAny_pyNext_range_end (I.ok.hd hc) st (by have:n≤i:=hg;omega) fun h' eb=>⟨rfl,I.turned (t':=s.toks) (fun b o hb e=>eb b o hb e) f0 f1 f3 f4 f5⟩
 self:=fun _ _ _ _ _ st h=>wpAny_pyIter_rangeiter st h
end L2
namespace L2
open PySem PySem.Spec PyProof.Rows
section
variable {X:Cx} {tg:Expr}
def iList (K:PySem.W.Frag) (tl:TE):TI:=fun σ H R=>tl σ H fun x H1=>∃ a,x=.ref a∧(∃ xs,SqL K H1 a xs)∧R (Itl K a) H1
def iTup (K:PySem.W.Frag) (tl:TE):TI:=fun σ H R=>tl σ H fun x H1=>∃ a,x=.ref a∧(∃ xs,SqT K H1 a xs)∧R (Itt K a) H1
theorem pi_list {l:Expr} {tl:TE} (hl:PE X l tl):PI X tg l (iList X.K tl):=by
 intro pins s σ H R I h
 refine thn (hl pins s σ H _ I h) fun v s1 ⟨x,H1,I1,r1,q1⟩=>?_
 obtain ⟨a,e,⟨xs,hq⟩,q⟩:=q1
 subst e
 cases r1
 obtain ⟨its,rv,p,hz⟩:=I1.list hq
 refine wpAny_pyIter_list p.isList ?_
 refine ⟨s1.heap.objs.size,[s1.heap.objs.size],_,_,H1,rfl,I1.kept (t':=s1.toks) fun b o e=>Heap.get?_push_of_some _ e,turn_list a _,⟨_,Heap.get?_push_size _ rfl,rfl,rfl⟩,fun b hb=>?_,q⟩
 have e:b=s1.heap.objs.size:=by simpa using hb
 subst e
 exact I1.fpOk (Nat.le_refl _) (I1.hok.fresh (Nat.le_refl _))
theorem pi_tup {l:Expr} {tl:TE} (hl:PE X l tl):PI X tg l (iTup X.K tl):=by
 intro pins s σ H R I h
 refine thn (hl pins s σ H _ I h) fun v s1 ⟨x,H1,I1,r1,q1⟩=>?_
 obtain ⟨a,e,⟨xs,hq⟩,q⟩:=q1
 subst e
 cases r1
 obtain ⟨its,rv,p,hz⟩:=I1.tuple hq
 refine wpAny_pyIter_tuple (show s1.heap.IsTuple a its.toArray from p) ?_
 refine ⟨s1.heap.objs.size,[s1.heap.objs.size],_,_,H1,rfl,I1.kept (t':=s1.toks) fun b o e=>Heap.get?_push_of_some _ e,turn_tuple a _,⟨_,Heap.get?_push_size _ rfl,rfl,rfl⟩,fun b hb=>?_,q⟩
 have e:b=s1.heap.objs.size:=by simpa using hb
 subst e
 exact I1.fpOk (Nat.le_refl _) (I1.hok.fresh (Nat.le_refl _))
theorem range_it {pins:List (Addr × Obj)} {σ:St} {H:Hp} {s:Shared} {R:It→Hp→Prop} {E:Value→Shared→Prop} {lo hi:Int} {t u v:Tok} {tk:Nat} (I:Inv X pins σ H s) (h1:-(2 ^ 62)≤lo) (h2:lo < 2 ^ 62) (h3:-(2 ^ 62)≤hi) (h4:hi < 2 ^ 62)
  (q:R (Itr lo (hi - lo).toNat) H):wpAny (model X.prog X.w) X.A (pyIter (.ref s.heap.objs.size)) (PIE X pins σ tg R) E { s with heap:=s.heap.push { cls:=.type "range",data:=.fields #[.int lo t,.int hi u,.int 1 v] },toks:=tk }:=by
 refine wpAny_pyIter_range (IsRange.new ..) (small_one h1 h2 h3 h4) ?_
 have I1:Inv X pins σ H { s with heap:=s.heap.push { cls:=.type "range",data:=.fields #[.int lo t,.int hi u,.int 1 v] },toks:=tk }:=I.kept fun b o e=>Heap.get?_push_of_some _ e
 refine ⟨(s.heap.push { cls:=.type "range",data:=.fields #[.int lo t,.int hi u,.int 1 v] }).objs.size,[(s.heap.push { cls:=.type "range",data:=.fields #[.int lo t,.int hi u,.int 1 v] }).objs.size],_,_,H,rfl,
  I1.kept (t':=tk) fun b o e=>Heap.get?_push_of_some _ e,turn_range _ lo (hi - lo).toNat,?_,fun b hb=>?_,q⟩
 ·have e1:lo+((0:Nat):Int)*1=lo:=by simp
  have e2:(((hi - lo).toNat:Nat):Int) - ((0:Nat):Int)=Builtin.Range.rangeSize lo hi 1:=by rw [rangeSize_one];split <;> omega
  show IsRangeIter _ _ (lo+((0:Nat):Int)*1) ((((hi - lo).toNat:Nat):Int) - ((0:Nat):Int)) 1
  rw [e1,e2]
  exact Heap.get?_push_size _ rfl
 ·have e:b=(s.heap.push { cls:=.type "range",data:=.fields #[.int lo t,.int hi u,.int 1 v] }).objs.size:=by simpa using hb
  subst e
  exact I1.fpOk (Nat.le_refl _) (I1.hok.fresh (Nat.le_refl _))
def iRng1 (ta:TA):TI:=fun σ H R=>ta σ H fun vs H1=>∃ j:Int,vs=[.int j]∧-(2 ^ 62)≤j∧j < 2 ^ 62∧R (Itr 0 j.toNat) H1
theorem pi_range1 {a:Expr} {ta:TA} {p pos:Pos} (hg:Gl X "range") (hm:X.mg "range"=none) (ha:PA X [a] ta) (hs:starEach [a] X.env=[(false,eval a X.env)]:=by rfl):PI X tg (.Call (.Name "range" p) [a] [] pos) (iRng1 ta):=by
 intro pins s σ H R I h
 refine Call_ (ld_blt I hg hm boot_range (PyProof.Rows.callWith_type1 (thn (ha pos pins s σ H _ I h) fun us s1 ⟨vs,H1,I1,r1,q1⟩=>?_) hs rfl))
 obtain ⟨j,e,q1,q2,q⟩:=q1
 subst e
 cases r1 with
 | cons r rr =>
  cases rr
  obtain ⟨t,rfl⟩:=r
  exact call_range_1 (range_it I1 (by omega) (by omega) q1 q2 (by simpa using q))
def tFor (wi:TI) (g:TG) (tb:TS):TS:=fun D σ H=>wi σ H fun J H1=>∃ W:Nat→Nat→St→Hp→Prop,(∃ m,W 0 m σ H1)∧∀ i m σ H,W i m σ H →
 (J.stop i H∧D.nx σ H)∨(J.go i H∧∃ N:St→Hp→Prop,(∀ σ' H',N σ' H'→∃ m',m' < m∧W (i+1) m' σ' H')∧∀ x H',J.yld i H x H'→g x σ H' fun σ2 H2=>tb { D with nx:=N,ct:=N,bk:=D.nx } σ2 H2)
def pinsAt (fp:List Addr) (h:Heap):List (Addr × Obj):=fp.filterMap fun b=>(h.get? b).map fun o=>(b,o)
theorem mem_pinsAt {fp:List Addr} {h:Heap} {b:Addr} {o:Obj} (hb:b∈fp) (e:h.get? b=some o):(b,o)∈pinsAt fp h:=List.mem_filterMap.mpr ⟨b,hb,by rw [e];rfl⟩
theorem of_pinsAt {fp:List Addr} {h:Heap} {p:Addr × Obj} (hp:p∈pinsAt fp h):p.1∈fp∧h.get? p.1=some p.2:=by
 obtain ⟨b,hb,e⟩:=List.mem_filterMap.mp hp
 cases q:h.get? b with
 | none=>rw [q] at e;cases e
 | some o =>
  rw [q] at e
  have e':(b,o)=p:=Option.some.inj e
  subst e'
  exact ⟨hb,q⟩
theorem Inv.pinned {pins:List (Addr × Obj)} {σ:St} {H:Hp} {s:Shared} {fp:List Addr} (I:Inv X pins σ H s) (hf:∀ b∈fp,FpOk X pins H b) (ho:∀ b∈fp,∃ o,s.heap.get? b=some o∧∀ v,o.data≠.cell v):Inv X (pins++pinsAt fp s.heap) σ H s :=
 I.pins_of fun p hp=>(List.mem_append.mp hp).elim (fun z=>I.pin p (List.mem_append_right _ z)) fun z=>by
  obtain ⟨hb,e⟩:=of_pinsAt z
  obtain ⟨f0,f1,f2,_⟩:=hf p.1 hb
  obtain ⟨o,e',d⟩:=ho p.1 hb
  rw [e] at e';cases e'
  exact ⟨e,f0,f1,f2,d⟩
theorem Inv.unpinned {pins pl:List (Addr × Obj)} {σ:St} {H:Hp} {s:Shared} (I:Inv X (pins++pl) σ H s):Inv X pins σ H s:=I.pins_of fun p hp=>I.pin p (List.mem_append_right _ (List.mem_append_left _ hp))
theorem ps_for {iter:Expr} {body:List Stmt} {wi:TI} {g:TG} {tb:TS} {pos:Pos} (hp:PassesOwn (model X.prog X.w) X.A X.env X.xe) (hc:X.calm=true) (hi:PI X tg iter wi) (hg:PG X tg g) (hb:PSs X body tb)
  (hs:∀ x,foldedSetIterable iter X.env x=pure x:=by intro _;rfl):PS X (.For tg iter body [] pos) (tFor wi g tb):=by
 intro pins s σ H D I h
 refine wpAny_For (thn (hi pins s σ H _ I h) fun v s1 h1=>thn h1 fun itv s2 h2=>?_) hs
 obtain ⟨it,fp,tn,J,H2,e,I2,T,st2,f2,W,⟨m0,w0⟩,turn⟩:=h2
 subst e
 have stat:∀ {H':Hp},(∀ b∈fp,H' b=none)→∀ b∈fp,FpOk X pins H' b:=fun hn b hb=>⟨hn b hb,(f2 b hb).2⟩
 refine codeAny_forLoop_any (fun n s'=>∃ i σ' H',Inv X pins σ' H' s'∧tn i s'.heap∧(∀ b∈fp,H' b=none)∧W i n σ' H') ?_ m0 ⟨0,σ,H2,I2,st2,fun b hb=>(f2 b hb).1,w0⟩
 rintro n s3 ⟨i,σ3,H3,I3,st3,fr3,w3⟩
 rcases turn i n σ3 H3 w3 with ⟨stop,qn⟩ | ⟨go,N,hN,step⟩
 ·refine wpAny_passesOwn hp (thn (T.done X rfl rfl rfl hc i pins s3 σ3 H3 X.xe I3 (stat fr3) st3 stop) fun r s4 ⟨hr,I4⟩=>?_)
  subst hr
  exact wpAny_execs_nil ⟨σ3,H3,I4,qn⟩
 ·refine wpAny_passesOwn hp (thn (T.item X rfl rfl rfl hc i pins s3 σ3 H3 X.xe I3 (stat fr3) st3 go) fun r s4 ⟨u,hr,h4⟩=>?_)
  subst hr
  refine wpAny_passesOwn hp (thn h4 fun _ s5 ⟨x,H5,I5,r5,y5,st5,fr5⟩=>?_)
  have I5':=I5.pinned (stat fr5) (T.obj _ _ st5)
  refine wpAny_passesOwn hp (thn (hg _ s5 σ3 H5 x u _ I5' r5 (step x H5 y5)) fun _ s6 ⟨σ6,H6,I6,q6⟩=>?_)
  refine wpAny_passesOwn hp (thn (hb _ s6 σ6 H6 _ I6 q6) fun f s7 q7=>?_)
  have again:∀ {σ7:St} {H7:Hp},Inv X (pins++pinsAt fp s5.heap) σ7 H7 s7→N σ7 H7→∃ m,m < n∧∃ i σ' H',Inv X pins σ' H' s7∧tn i s7.heap∧(∀ b∈fp,H' b=none)∧W i m σ' H':=fun {σ7 H7} I7 n7=>by
   obtain ⟨m',hm,w7⟩:=hN σ7 H7 n7
   refine ⟨m',hm,i+1,σ7,H7,I7.unpinned,T.keep _ _ _ st5 fun b hb o e=>(I7.pin (b,o) (List.mem_append_right _ (List.mem_append_right _ (mem_pinsAt hb e)))).1,fun b hb=>?_,w7⟩
   obtain ⟨o,e,d⟩:=T.obj _ _ st5 b hb
   exact (I7.pin (b,o) (List.mem_append_right _ (List.mem_append_right _ (mem_pinsAt hb e)))).2.1
  cases f with
  | next=>obtain ⟨σ7,H7,I7,n7⟩:=q7;exact again I7 n7
  | cont=>obtain ⟨σ7,H7,I7,n7⟩:=q7;exact again I7 n7
  | brk=>obtain ⟨σ7,H7,I7,q7⟩:=q7;exact ⟨σ7,H7,I7.unpinned,q7⟩
  | ret v=>obtain ⟨x7,σ7,H7,I7,r7,q7⟩:=q7;exact ⟨x7,σ7,H7,I7.unpinned,r7,q7⟩
end
theorem for_list {K:PySem.W.Frag} {a:Addr} {xs:List V} {g:TG} {tb:TS} {D:Ends} {σ:St} {H:Hp} (Pv:Nat→St→Hp→Prop) (h0:Pv 0 σ H) (hl:∀ i σ H,i≤xs.length→Pv i σ H→SqL K H a xs)
  (hs:∀ i x σ H,xs[i]?=some x→Pv i σ H→g x σ H fun σ2 H2=>tb { D with nx:=Pv (i+1),ct:=Pv (i+1),bk:=D.nx } σ2 H2) (hd:∀ σ H,Pv xs.length σ H→D.nx σ H) :
  ∃ W:Nat→Nat→St→Hp→Prop,(∃ m,W 0 m σ H)∧∀ i m σ H,W i m σ H →
   ((Itl K a).stop i H∧D.nx σ H)∨((Itl K a).go i H∧∃ N:St→Hp→Prop,(∀ σ' H',N σ' H'→∃ m',m' < m∧W (i+1) m' σ' H')∧∀ x H',(Itl K a).yld i H x H'→g x σ H' fun σ2 H2=>tb { D with nx:=N,ct:=N,bk:=D.nx } σ2 H2):=by
 refine ⟨fun i m σ H=>m=xs.length - i∧i≤xs.length∧Pv i σ H,⟨xs.length,by simp,Nat.zero_le _,h0⟩,?_⟩
 rintro i m σ H ⟨rfl,hi,p⟩
 have q:=hl i σ H hi p
 by_cases hlt:i < xs.length
 ·refine .inr ⟨⟨xs,xs[i],q,by simp [hlt]⟩,Pv (i+1),fun σ' H' p'=>⟨xs.length - (i+1),by omega,rfl,hlt,p'⟩,fun x H' y=>?_⟩
  obtain ⟨e,y⟩:=y
  subst e
  exact hs i x σ _ (y xs q) p
 ·have e:i=xs.length:=by omega
  subst e
  exact .inl ⟨⟨xs,q,Nat.le_refl _⟩,hd σ H p⟩
theorem for_tup {K:PySem.W.Frag} {a:Addr} {xs:List V} {g:TG} {tb:TS} {D:Ends} {σ:St} {H:Hp} (Pv:Nat→St→Hp→Prop) (h0:Pv 0 σ H) (hl:∀ i σ H,i≤xs.length→Pv i σ H→SqT K H a xs)
  (hs:∀ i x σ H,xs[i]?=some x→Pv i σ H→g x σ H fun σ2 H2=>tb { D with nx:=Pv (i+1),ct:=Pv (i+1),bk:=D.nx } σ2 H2) (hd:∀ σ H,Pv xs.length σ H→D.nx σ H) :
  ∃ W:Nat→Nat→St→Hp→Prop,(∃ m,W 0 m σ H)∧∀ i m σ H,W i m σ H →
   ((Itt K a).stop i H∧D.nx σ H)∨((Itt K a).go i H∧∃ N:St→Hp→Prop,(∀ σ' H',N σ' H'→∃ m',m' < m∧W (i+1) m' σ' H')∧∀ x H',(Itt K a).yld i H x H'→g x σ H' fun σ2 H2=>tb { D with nx:=N,ct:=N,bk:=D.nx } σ2 H2):=by
 refine ⟨fun i m σ H=>m=xs.length - i∧i≤xs.length∧Pv i σ H,⟨xs.length,by simp,Nat.zero_le _,h0⟩,?_⟩
 rintro i m σ H ⟨rfl,hi,p⟩
 have q:=hl i σ H hi p
 by_cases hlt:i < xs.length
 ·refine .inr ⟨⟨xs,xs[i],q,by simp [hlt]⟩,Pv (i+1),fun σ' H' p'=>⟨xs.length - (i+1),by omega,rfl,hlt,p'⟩,fun x H' y=>?_⟩
  obtain ⟨e,y⟩:=y
  subst e
  exact hs i x σ _ (y xs q) p
 ·have e:i=xs.length:=by omega
  subst e
  exact .inl ⟨⟨xs,q,Nat.le_refl _⟩,hd σ H p⟩
theorem for_range {lo:Int} {n:Nat} {g:TG} {tb:TS} {D:Ends} {σ:St} {H:Hp} (Pv:Nat→St→Hp→Prop) (h0:Pv 0 σ H)
  (hs:∀ i σ H,i < n→Pv i σ H→g (.int (lo+i)) σ H fun σ2 H2=>tb { D with nx:=Pv (i+1),ct:=Pv (i+1),bk:=D.nx } σ2 H2) (hd:∀ σ H,Pv n σ H→D.nx σ H) :
  ∃ W:Nat→Nat→St→Hp→Prop,(∃ m,W 0 m σ H)∧∀ i m σ H,W i m σ H →
   ((Itr lo n).stop i H∧D.nx σ H)∨((Itr lo n).go i H∧∃ N:St→Hp→Prop,(∀ σ' H',N σ' H'→∃ m',m' < m∧W (i+1) m' σ' H')∧∀ x H',(Itr lo n).yld i H x H'→g x σ H' fun σ2 H2=>tb { D with nx:=N,ct:=N,bk:=D.nx } σ2 H2):=by
 refine ⟨fun i m σ H=>m=n - i∧i≤n∧Pv i σ H,⟨n,by simp,Nat.zero_le _,h0⟩,?_⟩
 rintro i m σ H ⟨rfl,hi,p⟩
 by_cases hlt:i < n
 ·refine .inr ⟨hlt,Pv (i+1),fun σ' H' p'=>⟨n - (i+1),by omega,rfl,hlt,p'⟩,fun x H' y=>?_⟩
  obtain ⟨e,y⟩:=y
  subst e y
  exact hs i σ _ hlt p
 ·have e:i=n:=by omega
  subst e
  exact .inl ⟨Nat.le_refl _,hd σ H p⟩
end L2
namespace L2
open PySem PySem.Spec PyProof.Rows
abbrev R2:=V→V→Hp→VK→Prop
def OpR (X:Cx) (f:Value→Value→Sem Value) (r:R2):Prop :=
 ∀ (pins:List (Addr × Obj)) (s:Shared) (σ:St) (H:Hp) (x y:V) (v u:Value) (Q:VK),Inv X pins σ H s→RelV x v→RelV y u→r x y H Q →
  wpAny (model X.prog X.w) X.A (f v u) (EP X pins σ Q) X.xe s
def UnR (X:Cx) (f:Value→Sem Value) (r:V→Hp→VK→Prop):Prop :=
 ∀ (pins:List (Addr × Obj)) (s:Shared) (σ:St) (H:Hp) (x:V) (v:Value) (Q:VK),Inv X pins σ H s→RelV x v→r x H Q →
  wpAny (model X.prog X.w) X.A (f v) (EP X pins σ Q) X.xe s
def CallR (X:Cx) (f:Value) (r:List V→Hp→VK→Prop):Prop :=
 ∀ (pins:List (Addr × Obj)) (s:Shared) (σ:St) (H:Hp) (xs:List V) (us:List Value) (Q:VK),Inv X pins σ H s→Vals xs us→r xs H Q →
  wpAny (model X.prog X.w) X.A (call f us) (EP X pins σ Q) X.xe s
def tOp (r:R2) (ta tb:TE):TE:=fun σ H Q=>ta σ H fun x H1=>tb σ H1 fun y H2=>r x y H2 Q
def tUn (r:V→Hp→VK→Prop) (ta:TE):TE:=fun σ H Q=>ta σ H fun x H1=>r x H1 Q
def rI (C:Int→Int→Prop) (g:Int→Int→V):R2:=fun x y H Q=>∃ i j,x=.int i∧y=.int j∧C i j∧Q (g i j) H
def rI0 (g:Int→Int→V):R2:=fun x y H Q=>∃ i j,x=.int i∧y=.int j∧Q (g i j) H
def rU (g:Int→V):V→Hp→VK→Prop:=fun x H Q=>∃ i,x=.int i∧Q (g i) H
section
variable {X:Cx} {a b c:Expr} {ta tb tc:TE} {pos:Pos}
theorem binT (ha:PE X a ta) (hb:PE X b tb) {pins:List (Addr × Obj)} {s:Shared} {σ:St} {H:Hp} {R:V→V→Hp→Prop} (I:Inv X pins σ H s)
  (h:ta σ H fun x H1=>tb σ H1 fun y H2=>R x y H2) {Q:Value→Shared→Prop} {f:Value→Value→Sem Value}
  (hf:∀ v u s2 x y H2,Inv X pins σ H2 s2→RelV x v→RelV y u→R x y H2→wpAny (model X.prog X.w) X.A (f v u) Q X.xe s2) :
  wpAny (model X.prog X.w) X.A (eval a X.env) (fun v s₁=>wpAny (model X.prog X.w) X.A (eval b X.env) (fun u s₂=>wpAny (model X.prog X.w) X.A (f v u) Q X.xe s₂) X.xe s₁) X.xe s:=by
 refine thn (ha pins s σ H _ I h) fun v s1 ⟨x,H1,I1,r1,q1⟩=>?_
 refine thn (hb pins s1 σ H1 _ I1 q1) fun u s2 ⟨y,H2,I2,r2,q2⟩=>?_
 exact hf v u s2 x y H2 I2 r1 r2 q2
theorem pe_op {op:Operator} {r:R2} (ho:OpR X (binaryOp op) r) (ha:PE X a ta) (hb:PE X b tb):PE X (.BinOp a op b pos) (tOp r ta tb):=by
 intro pins s σ H Q I h
 exact wpAny_BinOp (binT ha hb I h fun v u s2 x y H2 I2 rx ry q=>ho pins s2 σ H2 x y v u Q I2 rx ry q)
theorem pe_un {op:UnaryOp} {r:V→Hp→VK→Prop} (ho:UnR X (unaryOp op) r) (ha:PE X a ta):PE X (.UnaryOp op a pos) (tUn r ta):=by
 intro pins s σ H Q I h
 exact UnaryOp_ (thn (ha pins s σ H _ I h) fun v s1 ⟨x,H1,I1,r1,q1⟩=>ho pins s1 σ H1 x v Q I1 r1 q1)
theorem opI {f:Value→Value→Sem Value} {C:Int→Int→Prop} {g:Int→Int→Int}
  (rule:∀ (i j:Int) (t u:Tok) (s:Shared) (Q:Value→Shared→Prop) (E:Value→Shared→Prop),C i j→Q (.int (g i j) s.toks) { s with toks:=s.toks+1 }→wpAny (model X.prog X.w) X.A (f (.int i t) (.int j u)) Q E s) :
  OpR X f (rI C fun i j=>.int (g i j)):=by
 intro pins s σ H x y v u Q I rx ry h
 obtain ⟨i,j,rfl,rfl,hc,q⟩:=h
 obtain ⟨t,rfl⟩:=rx
 obtain ⟨t',rfl⟩:=ry
 exact rule i j t t' s _ _ hc ⟨.int (g i j),H,I.tok _,⟨_,rfl⟩,q⟩
theorem opI0 {f:Value→Value→Sem Value} {g:Int→Int→Int}
  (rule:∀ (i j:Int) (t u:Tok) (s:Shared) (Q:Value→Shared→Prop) (E:Value→Shared→Prop),Q (.int (g i j) s.toks) { s with toks:=s.toks+1 }→wpAny (model X.prog X.w) X.A (f (.int i t) (.int j u)) Q E s) :
  OpR X f (rI0 fun i j=>.int (g i j)):=by
 intro pins s σ H x y v u Q I rx ry h
 obtain ⟨i,j,rfl,rfl,q⟩:=h
 obtain ⟨t,rfl⟩:=rx
 obtain ⟨t',rfl⟩:=ry
 exact rule i j t t' s _ _ ⟨.int (g i j),H,I.tok _,⟨_,rfl⟩,q⟩
theorem opB0 {f:Value→Value→Sem Value} {g:Int→Int→Bool}
  (rule:∀ (i j:Int) (t u:Tok) (s:Shared) (Q:Value→Shared→Prop) (E:Value→Shared→Prop),Q (.bool (g i j)) s→wpAny (model X.prog X.w) X.A (f (.int i t) (.int j u)) Q E s) :
  OpR X f (rI0 fun i j=>.bl (g i j)):=by
 intro pins s σ H x y v u Q I rx ry h
 obtain ⟨i,j,rfl,rfl,q⟩:=h
 obtain ⟨t,rfl⟩:=rx
 obtain ⟨t',rfl⟩:=ry
 exact rule i j t t' s _ _ ⟨.bl (g i j),H,I,rfl,q⟩
theorem op_add:OpR X (binaryOp .Add) (rI0 fun i j=>.int (i+j)):=opI0 fun _ _ _ _ _ _ _ q=>add_int q
theorem op_sub:OpR X (binaryOp .Sub) (rI0 fun i j=>.int (i - j)):=opI0 fun _ _ _ _ _ _ _ q=>sub_int q
theorem op_mod:OpR X (binaryOp .Mod) (rI (fun _ j=>0 < j) fun i j=>.int (i % j)):=opI fun i j _ _ _ _ _ hc q=>by
 have h1:(0:Int) < j:=hc
 exact mod_int' (by omega) (by rw [Int.fmod_eq_emod_of_nonneg i (by omega)];exact q)
theorem unI {f:Value→Sem Value} {g:Int→Int}
  (rule:∀ (i:Int) (t:Tok) (s:Shared) (Q:Value→Shared→Prop) (E:Value→Shared→Prop),Q (.int (g i) s.toks) { s with toks:=s.toks+1 }→wpAny (model X.prog X.w) X.A (f (.int i t)) Q E s) :
  UnR X f (rU fun i=>.int (g i)):=by
 intro pins s σ H x v Q I rx h
 obtain ⟨i,rfl,q⟩:=h
 obtain ⟨t,rfl⟩:=rx
 exact rule i t s _ _ ⟨.int (g i),H,I.tok _,⟨_,rfl⟩,q⟩
theorem un_neg:UnR X (unaryOp .USub) (rU fun i=>.int (-i)):=unI fun _ _ _ _ _ q=>neg_int q
end
def scal:V→V→Bool
 | .non,.non=>true | .non,.int _=>true | .int _,.non=>true | .non,.bl _=>true | .bl _,.non=>true | .non,.str _=>true | .str _,.non=>true
 | .int _,.int _=>true | .bl _,.bl _=>true | .str _,.str _=>true | .byt _,.byt _=>true
 | .int _,.str _=>true | .str _,.int _=>true | .bl _,.str _=>true | .str _,.bl _=>true
 | _,_=>false
def rEq:R2:=fun x y H Q=>scal x y=true∧Q (.bl (decide (x=y))) H
def rNe:R2:=fun x y H Q=>scal x y=true∧Q (.bl (!decide (x=y))) H
theorem dec_int {i j:Int}:decide (V.int i=V.int j)=(i == j):=by
 rw [Bool.eq_iff_iff]
 simp
theorem dec_bl {i j:Bool}:decide (V.bl i=V.bl j)=(i == j):=by
 rw [Bool.eq_iff_iff]
 simp
theorem dec_str {i j:Str}:decide (V.str i=V.str j)=(i == j):=by
 rw [Bool.eq_iff_iff]
 simp
theorem dec_byt {i j:Array UInt8}:decide (V.byt i=V.byt j)=(i.toList == j.toList):=by
 rw [Bool.eq_iff_iff]
 cases i
 cases j
 simp
section
variable {X:Cx} {a b c:Expr} {ta tb tc:TE} {pos:Pos}
theorem fin_bl {pins:List (Addr × Obj)} {σ:St} {H:Hp} {s:Shared} {Q:VK} {k k':Bool} (I:Inv X pins σ H s) (q:Q (.bl k) H) (e:k=k'):EP X pins σ Q (.bool k') s:=by
 subst e
 exact ⟨.bl k,H,I,rfl,q⟩
theorem op_eq:OpR X (compareOp .Eq) rEq:=by
 intro pins s σ H x y v u Q I rx ry h
 obtain ⟨hs,q⟩:=h
 cases x with
 | non =>
  cases rx
  cases y with
  | non=>cases ry;exact PySem.EqNone.eq_none_none (fin_bl I q (by simp))
  | bl j=>cases ry;exact PySem.EqNone.eq_none_bool (fin_bl I q (by simp))
  | int j=>obtain ⟨t',rfl⟩:=ry;exact PySem.EqNone.eq_none_int (fin_bl I q (by simp))
  | str j=>obtain ⟨t',rfl⟩:=ry;exact PySem.EqNone.eq_none_str (fin_bl I q (by simp))
  | _=>exact absurd (show false=true from hs) Bool.false_ne_true
 | bl i =>
  cases rx
  cases y with
  | non=>cases ry;exact PySem.EqNone.eq_bool_none (fin_bl I q (by simp))
  | bl j=>cases ry;exact eq_bool (fin_bl I q dec_bl)
  | str j=>obtain ⟨t',rfl⟩:=ry;exact PySem.EqMixed.eq_bool_str (fin_bl I q (by simp))
  | _=>exact absurd (show false=true from hs) Bool.false_ne_true
 | int i =>
  obtain ⟨t,rfl⟩:=rx
  cases y with
  | non=>cases ry;exact PySem.EqNone.eq_int_none (fin_bl I q (by simp))
  | int j=>obtain ⟨t',rfl⟩:=ry;exact eq_int (fin_bl I q dec_int)
  | str j=>obtain ⟨t',rfl⟩:=ry;exact PySem.EqMixed.eq_int_str (fin_bl I q (by simp))
  | _=>exact absurd (show false=true from hs) Bool.false_ne_true
 | str i =>
  obtain ⟨t,rfl⟩:=rx
  cases y with
  | non=>cases ry;exact PySem.EqNone.eq_str_none (fin_bl I q (by simp))
  | bl j=>cases ry;exact PySem.EqMixed.eq_str_bool (fin_bl I q (by simp))
  | int j=>obtain ⟨t',rfl⟩:=ry;exact PySem.EqMixed.eq_str_int (fin_bl I q (by simp))
  | str j=>obtain ⟨t',rfl⟩:=ry;exact eq_str (fin_bl I q dec_str)
  | _=>exact absurd (show false=true from hs) Bool.false_ne_true
 | byt i =>
  obtain ⟨t,rfl⟩:=rx
  cases y with
  | byt j=>obtain ⟨t',rfl⟩:=ry;exact PySem.W.eq_bytes (fin_bl I q dec_byt)
  | _=>exact absurd (show false=true from hs) Bool.false_ne_true
 | _=>cases y <;> exact absurd (show false=true from hs) Bool.false_ne_true
theorem op_ne:OpR X (compareOp .NotEq) rNe:=by
 intro pins s σ H x y v u Q I rx ry h
 obtain ⟨hs,q⟩:=h
 cases x with
 | non =>
  cases rx
  cases y with
  | non=>cases ry;exact PySem.EqNone.ne_none_none (fin_bl I q (by simp))
  | bl j=>cases ry;exact PySem.EqNone.ne_none_bool (fin_bl I q (by simp))
  | int j=>obtain ⟨t',rfl⟩:=ry;exact PySem.EqNone.ne_none_int (fin_bl I q (by simp))
  | str j=>obtain ⟨t',rfl⟩:=ry;exact PySem.EqNone.ne_none_str (fin_bl I q (by simp))
  | _=>exact absurd (show false=true from hs) Bool.false_ne_true
 | bl i =>
  cases rx
  cases y with
  | non=>cases ry;exact PySem.EqNone.ne_bool_none (fin_bl I q (by simp))
  | bl j=>cases ry;exact ne_bool (fin_bl I q (congrArg not dec_bl))
  | str j=>obtain ⟨t',rfl⟩:=ry;exact PySem.EqMixed.ne_bool_str (fin_bl I q (by simp))
  | _=>exact absurd (show false=true from hs) Bool.false_ne_true
 | int i =>
  obtain ⟨t,rfl⟩:=rx
  cases y with
  | non=>cases ry;exact PySem.EqNone.ne_int_none (fin_bl I q (by simp))
  | int j=>obtain ⟨t',rfl⟩:=ry;exact ne_int (fin_bl I q (congrArg not dec_int))
  | str j=>obtain ⟨t',rfl⟩:=ry;exact PySem.EqMixed.ne_int_str (fin_bl I q (by simp))
  | _=>exact absurd (show false=true from hs) Bool.false_ne_true
 | str i =>
  obtain ⟨t,rfl⟩:=rx
  cases y with
  | non=>cases ry;exact PySem.EqNone.ne_str_none (fin_bl I q (by simp))
  | bl j=>cases ry;exact PySem.EqMixed.ne_str_bool (fin_bl I q (by simp))
  | int j=>obtain ⟨t',rfl⟩:=ry;exact PySem.EqMixed.ne_str_int (fin_bl I q (by simp))
  | str j=>obtain ⟨t',rfl⟩:=ry;exact ne_str (fin_bl I q (congrArg not dec_str))
  | _=>exact absurd (show false=true from hs) Bool.false_ne_true
 | byt i =>
  obtain ⟨t,rfl⟩:=rx
  cases y with
  | byt j=>obtain ⟨t',rfl⟩:=ry;exact PySem.W.ne_bytes (fin_bl I q (congrArg not dec_byt))
  | _=>exact absurd (show false=true from hs) Bool.false_ne_true
 | _=>cases y <;> exact absurd (show false=true from hs) Bool.false_ne_true
theorem op_lt:OpR X (compareOp .Lt) (rI0 fun i j=>.bl (decide (i < j))):=opB0 fun _ _ _ _ _ _ _ q=>lt_int q
theorem op_le:OpR X (compareOp .LtE) (rI0 fun i j=>.bl (decide (i≤j))):=opB0 fun _ _ _ _ _ _ _ q=>le_int q
theorem op_gt:OpR X (compareOp .Gt) (rI0 fun i j=>.bl (decide (j < i))):=opB0 fun _ _ _ _ _ _ _ q=>gt_int q
theorem op_ge:OpR X (compareOp .GtE) (rI0 fun i j=>.bl (decide (j≤i))):=opB0 fun _ _ _ _ _ _ _ q=>ge_int q
theorem op_isN:OpR X (compareOp .Is) (fun x y H Q=>y=.non∧Q (.bl (decide (x=.non))) H):=by
 intro pins s σ H x y v u Q I rx ry h
 obtain ⟨rfl,q⟩:=h
 cases ry
 refine is_none_gen (fin_bl I q ?_)
 cases x <;> first
  | (cases rx;rfl)
  | (obtain ⟨t,rfl⟩:=rx;rfl)
theorem op_notN:OpR X (compareOp .IsNot) (fun x y H Q=>y=.non∧Q (.bl (!decide (x=.non))) H):=by
 intro pins s σ H x y v u Q I rx ry h
 obtain ⟨rfl,q⟩:=h
 cases ry
 refine isnot_none_gen (fin_bl I q ?_)
 cases x <;> first
  | (cases rx;rfl)
  | (obtain ⟨t,rfl⟩:=rx;rfl)
theorem nomark (b:Expr) {op:CmpOp} (h:op≠.In:=by decide) (h2:op≠.NotIn:=by decide):behindInMarks op b=false:=by
 have e1:(op == CmpOp.In)=false:=by cases op <;> first | rfl | exact absurd rfl h
 have e2:(op == CmpOp.NotIn)=false:=by cases op <;> first | rfl | exact absurd rfl h2
 cases b <;> simp [behindInMarks,e1,e2]
theorem pe_cmpR {op:CmpOp} {r:R2} (ho:OpR X (compareOp op) r) (ha:PE X a ta) (hb:PE X b tb) (hm:behindInMarks op b=false):PE X (.Compare a [op] [b] pos) (tOp r ta tb):=by
 intro pins s σ H Q I h
 exact wpAny_Compare1 (binT ha hb I h fun v u s2 x y H2 I2 rx ry q=>ho pins s2 σ H2 x y v u Q I2 rx ry q) hm
def tTest (t:TE):TT:=fun σ H Q=>t σ H fun x H'=>∃ k,x=.bl k∧Q k H'
theorem pt_cmpR {op:CmpOp} {r:R2} (ho:OpR X (compareOp op) r) (ha:PE X a ta) (hb:PE X b tb) (hm:behindInMarks op b=false):PT X (.Compare a [op] [b] pos) (tTest (tOp r ta tb)):=by
 intro pins s σ H Q I h
 refine wpAny_isTrue_Compare1 (thn (ha pins s σ H _ I h) fun v s1 ⟨x,H1,I1,r1,q1⟩=>thn (hb pins s1 σ H1 _ I1 q1) fun u s2 ⟨y,H2,I2,r2,q2⟩ =>
  thn (ho pins s2 σ H2 x y v u _ I2 r1 r2 q2) fun c s3 ⟨z,H3,I3,r3,k,e,q3⟩=>?_) hm
 subst e
 cases r3
 exact wpAny_truthy_bool ⟨H3,I3,q3⟩
theorem line63:(sizeLine:Nat) < 2 ^ 63:=by rw [sizeLine_eq];decide
theorem vals1 {x:V} {us:List Value} (r:Vals [x] us):∃ u,us=[u]∧RelV x u:=by
 cases r with
 | cons r1 r2=>cases r2;exact ⟨_,rfl,r1⟩
theorem call_abs:CallR X (.builtin "abs") (fun xs H Q=>∃ i,xs=[.int i]∧Q (.int (if i < 0 then -i else i)) H):=by
 intro pins s σ H xs us Q I r h
 obtain ⟨i,rfl,q⟩:=h
 obtain ⟨u,rfl,t,rfl⟩:=vals1 r
 exact call_abs_int fun u tk=>⟨.int (if i < 0 then -i else i),H,I.tok _,⟨_,rfl⟩,q⟩
end
end L2
namespace L2
open PySem PySem.Spec PyProof.Rows
structure ObjM (h:Heap) (x dx C:Addr) (mA:Str→Option Value):Prop where
 obj:h.get? x=some (PySem.W.instObj C dx)
 ns:h.Ns1 dx mA
 ne:dx≠x
theorem lookIn_ns {h:Heap} {dx:Addr} {mA:Str→Option Value} (n:h.Ns1 dx mA):∃ od,h.get? dx=some od∧∀ name,PySem.W.lookIn name od=some (mA name):=by
 obtain ⟨o,es,ep,ho,hd,hk,_,hm⟩:=n
 refine ⟨o,ho,fun name=>?_⟩
 have e:=hm name
 unfold nsFind findBy at e
 rw [← Array.find?_toList] at e
 unfold PySem.W.lookIn
 rw [hd]
 dsimp only
 split
 ·rename_i y q
  rw [q] at e
  exact congrArg some e
 ·rename_i q
  rw [q] at e
  have a:es.toList.any (·.refKey)=false:=by
   rw [List.any_eq_false]
   intro y hy
   obtain ⟨z,t,hkey⟩:=hk y (Array.mem_toList_iff.mp hy)
   simp [DictEntry.refKey,hkey]
  have a':¬ es.toList.any (·.refKey)=true:=by rw [a];exact Bool.false_ne_true
  rw [if_neg a']
  exact congrArg some e
theorem ObjM.look {h:Heap} {x dx C:Addr} {mA:Str→Option Value} (I:ObjM h x dx C mA):∃ od,PySem.W.InstAt h x (PySem.W.instObj C dx) C (some od)∧∀ name,PySem.W.lookIn name od=some (mA name) :=
 let ⟨od,ho,hl⟩:=lookIn_ns I.ns
 ⟨od,⟨I.obj,rfl,rfl,ho⟩,hl⟩
section
variable {prog:Program} {w:World} {A:Around} {E:Value→Shared→Prop} {s:Shared} {K:PySem.W.Frag} {x dx C f:Addr} {mA:Str→Option Value} {name:Str} {v:Value}
theorem get_map {expr:Bool} {Q:Value→Shared→Prop} (X:K.In s.heap) (I:ObjM s.heap x dx C mA) (hg:PySem.W.plainGet K C name=true) (hh:PySem.W.hasDictIn K C=true)
  (ha:PySem.W.findIn K (.ref C) name=some none) (hv:mA name=some v) (hv':PySem.W.handedIn v=true) (h:Q v { s with toks:=s.toks+1 }) :
  wpAny (model prog w) A (getAttr (.ref x) name expr) Q E s:=by
 obtain ⟨od,J,hl⟩:=I.look
 exact PySem.W.get_value X J (PySem.W.plainGet_of hg).1 (PySem.W.findObj_own hh ha rfl (by rw [hl,hv])) hv' h
theorem get_meth {pl:Sem Bool} {Q:Value × List Value→Shared→Prop} (X:K.In s.heap) (I:ObjM s.heap x dx C mA) (hg:PySem.W.plainGet K C name=true)
  (hf:PySem.W.findIn K (.ref C) name=some (some (.ref f))) (ht:PySem.W.isFn K (.ref f)=true) (hv:mA name=none) (h:Q (.ref f,[.ref x]) s) :
  wpAny (model prog w) A (getMethod (.ref x) name pl) Q E s:=by
 obtain ⟨od,J,hl⟩:=I.look
 exact PySem.W.method_fn X J (PySem.W.plainGet_of hg).1 (PySem.W.plainGet_of hg).2 hf (beq_iff_eq.mp ht) (by show (PySem.W.lookIn name od).map (·.isSome)=some false;rw [hl,hv];rfl) h
theorem set_map {ns:List Str} {Q:Unit→Shared→Prop} (X:K.In s.heap) (I:ObjM s.heap x dx C mA)
  (hs:PySem.W.findIn K (.ref C) "__setattr__"=some (some (.builtin "object.__setattr__"))) (hp:PySem.W.plainOver K C=true) (ht:PySem.W.takerIn K C name=some none) (hh:PySem.W.hasDictIn K C=true)
  (hw:PySem.Within mA ns) (hsz:ns.length≤sizeLine)
  (h:∀ h',ObjM h' x dx C (fun y=>if y=name then some v else mA y)→Heap.SameBut dx s.heap h'→Q () { s with heap:=h',toks:=s.toks+2 }) :
  wpAny (model prog w) A (setAttr (.ref x) name v) Q E s:=by
 obtain ⟨od,J,hl⟩:=I.look
 refine PySem.W.set_plain X J hs (PySem.W.osa_open (s:={ s with toks:=s.toks+1 }) (r:=none) X J hp ht fun b=>?_)
 obtain ⟨cd,hc,hd'⟩:=PySem.W.any_some hh
 have hx:s.heap.get? x=some ⟨.ref C,some dx,.plain,#[]⟩:=I.obj
 refine wpAny_bind (wpAny_pure (wpAny_bind (wpAny_bind (wpAny_loadPart hx (wpAny_bind (PySem.W.Looks.here (s:={ s with toks:=s.toks+1 }) (PySem.W.looks_clsIn X hc) ?_))))))
 rw [hd']
 refine wpAny_pure (a:=some dx) (wpAny_bind (wpAny_pure (wpAny_bind ?_)))
 refine wpAny_nsSet1 (s:={ s with toks:=s.toks+1 }) I.ns fun h' hn2 hs2=>?_
 obtain ⟨oD,esD,epD,hoD,hdD,hcD⟩:=hn2.count (PySem.Within.cons name v hw)
 refine wpAny_bind (wpAny_lookBehind hoD (by rw [hdD];exact pastItsLine_dict (Nat.le_trans hcD (by rw [List.length_cons];omega))) ?_)
 exact wpAny_pure (h _ ⟨(hs2.2 _ (Ne.symm I.ne)).trans I.obj,hn2,I.ne⟩ hs2)
theorem make_map {R:Result→Shared→Prop} {vs:List Value} {kw:List (Str × Value)} (X:K.In s.heap) (hm:PySem.W.makesIn K C=true)
  (hi:PySem.W.findIn K (.ref C) "__init__"=some (some (.ref f))) (hf:PySem.W.typeIn K (.ref f)=some (.type "function"))
  (h:codeAny (model prog w) (A.under (.builtin "type.__call__" ⟨.ref C::vs,kw⟩)) (.call (.ref f) ⟨.ref (s.heap.objs.size+1)::vs,kw⟩) (PySem.W.InitBack (s.heap.objs.size+1) R)
   { s with heap:=(s.heap.push PySem.W.emptyDict).push (PySem.W.instObj C s.heap.objs.size) }) :
  codeAny (model prog w) A (.call (.ref C) ⟨vs,kw⟩) R s:=by
 obtain ⟨hh,g,d,t,os⟩:=s
 exact PySem.W.make_core (PySem.W.makes_of X hm) (PySem.W.looks_findIn X hi) (fun self=>PySem.W.bind_fn X self hf) (.inl rfl) h
end
def putF (f:Str) (v:V):List (Str × V)→List (Str × V)
 | []=>[(f,v)]
 | (g,x)::r=>if g=f then (g,v)::r else (g,x)::putF f v r
theorem lookup_putF (f g:Str) (v:V):∀ fs:List (Str × V),(putF f v fs).lookup g=if g=f then some v else fs.lookup g
 | []=>by
  show List.lookup g [(f,v)]=_
  by_cases h:g=f
  ·have hb:(g == f)=true:=beq_iff_eq.mpr h
   simp only [List.lookup,hb,if_pos h]
  ·have hb:(g == f)=false:=beq_eq_false_iff_ne.mpr h
   simp only [List.lookup,hb,if_neg h]
 | (k,x)::r=>by
  have ih:=lookup_putF f g v r
  rw [show putF f v ((k,x)::r)=(if k=f then (k,v)::r else (k,x)::putF f v r) from rfl]
  by_cases hk:k=f
  ·rw [if_pos hk]
   by_cases h:g=k
   ·have hb:(g == k)=true:=beq_iff_eq.mpr h
    simp only [List.lookup,hb,if_pos (h.trans hk)]
   ·have hb:(g == k)=false:=beq_eq_false_iff_ne.mpr h
    simp only [List.lookup,hb,if_neg (fun e:g=f=>h (e.trans hk.symm))]
  ·rw [if_neg hk]
   by_cases h:g=k
   ·have hb:(g == k)=true:=beq_iff_eq.mpr h
    simp only [List.lookup,hb,if_neg (fun e:g=f=>hk (h.symm.trans e))]
   ·have hb:(g == k)=false:=beq_eq_false_iff_ne.mpr h
    simp only [List.lookup,hb]
    exact ih
theorem keys_putF (f:Str) (v:V):∀ fs:List (Str × V),f∈(putF f v fs).map (·.1)∧∀ g,g∈fs.map (·.1)→g∈(putF f v fs).map (·.1)
 | []=>⟨by simp [putF],fun g h=>by simp at h⟩
 | (k,x)::r=>by
  obtain ⟨i1,i2⟩:=keys_putF f v r
  rw [show putF f v ((k,x)::r)=(if k=f then (k,v)::r else (k,x)::putF f v r) from rfl]
  by_cases hk:k=f
  ·rw [if_pos hk]
   subst hk
   exact ⟨by simp,fun g h=>by simpa using h⟩
  ·rw [if_neg hk]
   refine ⟨?_,fun g h=>?_⟩
   ·rw [List.map_cons]
    exact List.mem_cons_of_mem _ i1
   ·rw [List.map_cons] at h ⊢
    rcases List.mem_cons.mp h with e | e
    ·exact List.mem_cons.mpr (.inl e)
    ·exact List.mem_cons_of_mem _ (i2 g e)
theorem length_putF (f:Str) (v:V):∀ fs:List (Str × V),(putF f v fs).length≤fs.length+1
 | []=>by simp [putF]
 | (k,x)::r=>by
  have ih:=length_putF f v r
  rw [show putF f v ((k,x)::r)=(if k=f then (k,v)::r else (k,x)::putF f v r) from rfl]
  by_cases hk:k=f
  ·rw [if_pos hk,List.length_cons,List.length_cons];omega
  ·rw [if_neg hk,List.length_cons,List.length_cons];omega
theorem RelO.some_of {v:V} {o:Option Value} (r:RelO (some v) o):∃ u,o=some u∧RelV v u:=by
 cases o with
 | none=>exact (show False from r).elim
 | some u=>exact ⟨u,rfl,r⟩
theorem RelO.none_of {o:Option Value} (r:RelO none o):o=none:=by
 cases o with
 | none=>rfl
 | some u=>exact (show False from r).elim
theorem handed_of {v:V} {u:Value} (r:RelV v u):PySem.W.handedIn u=true:=by
 cases v with
 | non=>cases (show u=Value.none from r);rfl
 | bl b=>cases (show u=Value.bool b from r);rfl
 | int i=>obtain ⟨t,e⟩:=(show ∃ t,u=Value.int i t from r);cases e;rfl
 | str x=>obtain ⟨t,e⟩:=(show ∃ t,u=Value.str x t from r);cases e;rfl
 | byt b=>obtain ⟨t,e⟩:=(show ∃ t,u=Value.bytes b t from r);cases e;rfl
 | flt b=>obtain ⟨t,e⟩:=(show ∃ t,u=Value.float b t from r);cases e;rfl
 | ref a=>cases (show u=Value.ref a from r);rfl
 | ty n=>cases (show u=Value.type n from r);rfl
section
variable {P:Program} {w:World} {H H':Hp} {h h':Heap} {a C dx:Addr} {fs fs':List (Str × V)}
theorem ins_get (hok:HOk P w H h) (e:H a=some (.ins C dx fs)):∃ mA,ObjM h a dx C mA∧(∀ f,RelO (fs.lookup f) (mA f))∧PySem.Within mA (fs.map (·.1))∧fs.length≤1000∧H dx=some (.own a):=by
 obtain ⟨d,z,ne,ob,mA,n,r,q⟩:=(show ObjOk P w H h a (.ins C dx fs) from hok a _ e)
 exact ⟨mA,⟨ob,n,ne⟩,r,q,z,d⟩
end
structure Cls (K:PySem.W.Frag) (C:Addr):Prop where
 pg:PySem.W.plainGet K C Str.empty=true
 hd:PySem.W.hasDictIn K C=true
 po:PySem.W.plainOver K C=true
 sa:PySem.W.findIn K (.ref C) "__setattr__"=some (some (.builtin "object.__setattr__"))
theorem Cls.get {K:PySem.W.Frag} {C:Addr} (c:Cls K C) (f:Str):PySem.W.plainGet K C f=true:=c.pg
def NoAttr (K:PySem.W.Frag) (C:Addr) (f:Str):Prop:=PySem.W.findIn K (.ref C) f=some none
theorem NoAttr.taker {K:PySem.W.Frag} {C:Addr} {f:Str} (n:NoAttr K C f):PySem.W.takerIn K C f=some none:=by
 unfold PySem.W.takerIn
 rw [show PySem.W.findIn K (.ref C) f=some none from n]
 rfl
structure Meth (K:PySem.W.Frag) (C:Addr) (m:Str) (f:Addr):Prop where
 at_:PySem.W.findIn K (.ref C) m=some (some (.ref f))
 fn:PySem.W.isFn K (.ref f)=true
 kp:PySem.W.keepIn K (.ref f)=true
section
variable {X:Cx} {pins:List (Addr × Obj)} {σ:St} {H:Hp} {s:Shared} {a C dx:Addr} {fs:List (Str × V)} {f:Str} {v:V} {A:Around} {E:Value→Shared→Prop}
theorem getattr_ok {b:Bool} {Q:Value→Shared→Prop} (I:Inv X pins σ H s) (e:H a=some (.ins C dx fs)) (c:Cls X.K C) (n:NoAttr X.K C f) (l:fs.lookup f=some v)
  (h:∀ u s',Inv X pins σ H s'→RelV v u→Q u s'):wpAny (model X.prog X.w) A (getAttr (.ref a) f b) Q E s:=by
 obtain ⟨mA,O,r,_,_,_⟩:=ins_get I.hok e
 obtain ⟨u,hu,ru⟩:=RelO.some_of (v:=v) (o:=mA f) (by rw [← l];exact r f)
 exact get_map I.kIn O (c.get f) c.hd n hu (handed_of ru) (h u _ (I.tok _) ru)
theorem getmeth_ok {m:Str} {g:Addr} {pl:Sem Bool} {Q:Value × List Value→Shared→Prop} (I:Inv X pins σ H s) (e:H a=some (.ins C dx fs)) (c:Cls X.K C) (k:Meth X.K C m g) (l:fs.lookup m=none)
  (h:Q (.ref g,[.ref a]) s):wpAny (model X.prog X.w) A (getMethod (.ref a) m pl) Q E s:=by
 obtain ⟨mA,O,r,_,_,_⟩:=ins_get I.hok e
 have hn:mA m=none:=RelO.none_of (by rw [← l];exact r m)
 exact get_meth I.kIn O (c.get m) k.at_ k.fn hn h
theorem setattr_ok {y:V} {u:Value} {Q:Unit→Shared→Prop} (I:Inv X pins σ H s) (e:H a=some (.ins C dx fs)) (c:Cls X.K C) (n:NoAttr X.K C f) (hl:fs.length < 1000) (ry:RelV y u)
  (h:∀ s',Inv X pins σ (upd H a (.ins C dx (putF f y fs))) s'→Q () s'):wpAny (model X.prog X.w) A (setAttr (.ref a) f u) Q E s:=by
 obtain ⟨mA,O,r,wi,_,ho⟩:=ins_get I.hok e
 have hz:(fs.map (·.1)).length≤sizeLine:=by rw [List.length_map,sizeLine_eq];omega
 refine set_map I.kIn O c.sa c.po n.taker c.hd wi hz fun h' O' sb=>h _ ?_
 have hd:∃ o,h'.get? dx=some o:=let ⟨o,_,_,e',_⟩:=O'.ns;⟨o,e'⟩
 refine I.write (x:=a) (e:=dx) (by rw [e];exact True.intro) (.inr ho) (fun b q hb z=>(sb.2 b hb).trans z) hd ?_
 refine ⟨by rw [upd_ne O.ne];exact ho,?_,O.ne,O'.obj,_,O'.ns,fun g=>?_,fun g hg=>?_⟩
 ·have:=length_putF f y fs;omega
 ·show RelO ((putF f y fs).lookup g) (if g=f then some u else mA g)
  rw [lookup_putF]
  by_cases q:g=f
  ·rw [if_pos q,if_pos q];exact ry
  ·rw [if_neg q,if_neg q];exact r g
 ·by_cases q:g=f
  ·rw [q];exact (keys_putF f y fs).1
  ·refine (keys_putF f y fs).2 g (wi g fun z=>hg ?_)
   show (if g=f then some u else mA g)=none
   rw [if_neg q];exact z
theorem Inv.made (I:Inv X pins σ H s):Inv X pins σ (upd (upd H s.heap.objs.size (.own (s.heap.objs.size+1))) (s.heap.objs.size+1) (.ins C s.heap.objs.size []))
  { s with heap:=(s.heap.push PySem.W.emptyDict).push (PySem.W.instObj C s.heap.objs.size) }:=by
 have e1:(s.heap.push PySem.W.emptyDict).get? s.heap.objs.size=some PySem.W.emptyDict:=Heap.get?_push_size s.heap rfl
 have e2:((s.heap.push PySem.W.emptyDict).push (PySem.W.instObj C s.heap.objs.size)).get? (s.heap.objs.size+1)=some (PySem.W.instObj C s.heap.objs.size):=by
  have:=Heap.get?_push_size (s.heap.push PySem.W.emptyDict) (o:=PySem.W.instObj C s.heap.objs.size) rfl
  rwa [Heap.size_push] at this
 have e3:(s.heap.push PySem.W.emptyDict).Ns s.heap.objs.size (fun _=>none):=⟨PySem.W.emptyDict,#[],_,e1,rfl,(fun e he=>absurd he (by simp)),fun _=>rfl⟩
 have I1:=I.laid (a:=s.heap.objs.size) (o:=.own (s.heap.objs.size+1)) (h':=s.heap.push PySem.W.emptyDict) (t':=s.toks) (fun b u q=>Heap.get?_push_of_some _ q) (Nat.le_refl _) ⟨_,e1⟩
 refine I1.laid (a:=s.heap.objs.size+1) (o:=.ins C s.heap.objs.size []) (t':=s.toks) (fun b u q=>Heap.get?_push_of_some _ q) (Nat.le_of_eq (Heap.size_push _ _)) ?_
 have ne:s.heap.objs.size≠s.heap.objs.size+1:=Nat.ne_of_lt (Nat.lt_succ_self _)
 refine ⟨by rw [upd_ne ne,upd_same],Nat.zero_le _,ne,e2,fun _=>none,(Heap.Ns1.of_empty e3).at fun o q=>Heap.get?_push_of_some _ q,fun _=>True.intro,fun y hy=>absurd rfl hy⟩
theorem attr_of {prog:Program} {w:World} {env:Env} {e:Expr} {f:Str} {pos:Pos} {s:Shared} {Q:Value→Shared→Prop} (hb:attributeBase e f env (eval e env)=eval e env)
  (h:wpAny (model prog w) A (eval e env) (fun o s₁=>wpAny (model prog w) A (getAttr o f true) Q E s₁) E s):wpAny (model prog w) A (eval (.Attribute e f pos) env) Q E s :=
 Attribute_any_ h (by rw [arm_eval_Attribute,hb])
end
def tFld (K:PySem.W.Frag) (ta:TE) (f:Str):TE:=fun σ H Q=>ta σ H fun x H1=>∃ a C dx fs v,x=.ref a∧H1 a=some (.ins C dx fs)∧Cls K C∧NoAttr K C f∧fs.lookup f=some v∧Q v H1
def sFld (K:PySem.W.Frag) (ta tv:TE) (f:Str):TS:=fun D σ H=>tv σ H fun y H1=>ta σ H1 fun x H2=>∃ a C dx fs,x=.ref a∧H2 a=some (.ins C dx fs)∧Cls K C∧NoAttr K C f∧fs.length < 1000 ∧
 D.nx σ (upd H2 a (.ins C dx (putF f y fs)))
section
variable {X:Cx} {o e value:Expr} {f:Str} {pos pos' tpos:Pos} {ta tv:TE}
theorem pe_fld (he:PE X e ta) (hb:attributeBase e f X.env (eval e X.env)=eval e X.env):PE X (.Attribute e f pos) (tFld X.K ta f):=by
 intro pins s σ H Q I h
 refine attr_of hb (thn (he pins s σ H _ I h) fun u s1 ⟨x,H1,I1,rx,a,C,dx,fs,v,ex,ea,c,n,l,q⟩=>?_)
 subst ex
 obtain rfl:u=Value.ref a:=rx
 exact getattr_ok I1 ea c n l fun u' s2 I2 ru=>⟨v,H1,I2,ru,q⟩
theorem ps_fld (ha:PE X o ta) (hv:PE X value tv) (hs:swapsWith value (some (.Attribute o f pos')) pos.line X.env=pure false):PS X (.Assign [.Attribute o f pos'] value pos) (sFld X.K ta tv f):=by
 intro pins s σ H D I h
 refine plainObj_wpAny_Assign_Attribute (thn (hv pins s σ H _ I h) fun u s1 ⟨y,H1,I1,ry,q⟩=>thn (ha pins s1 σ H1 _ I1 q) fun ov s2 ⟨x,H2,I2,rx,a,C,dx,fs,ex,ea,c,n,l,q2⟩=>?_) hs
 subst ex
 obtain rfl:ov=Value.ref a:=rx
 exact setattr_ok I2 ea c n l ry fun s3 I3=>⟨σ,_,I3,q2⟩
end
end L2
namespace L2
open PySem PySem.Spec PyProof.Rows
structure Room (k:Nat) (A:Around):Prop where
 hd:A.handled=none
 dp:A.depth+3*k+5 < recursionLimit
 un:A.units+16*k+200 < cLine
theorem Room.mono {j k:Nat} {A:Around} (r:Room k A) (h:j≤k):Room j A:=⟨r.hd,by have:=r.dp;omega,by have:=r.un;omega⟩
theorem Room.deeper {k:Nat} {A:Around} (r:Room (k+1) A) (env:Env):Room k (A.deeper env) :=
 ⟨r.hd,by have:=r.dp;show A.depth+1+3*k+5 < _;omega,by have:=r.un;show A.units+3+16*k+200 < _;omega⟩
theorem make_depth {A:Around} {C:Addr} {us:List Value} {kw:List (Str × Value)}:(A.under (.builtin "type.__call__" ⟨.ref C::us,kw⟩)).depth=A.depth+1:=by
 first | rfl | simp [Around.under,Code.weight,Code.isCreation,Code.isGuard,Code.isCaller,Code.frames,Code.isFrame,guardIds]
theorem make_units {A:Around} {C:Addr} {us:List Value} {kw:List (Str × Value)}:(A.under (.builtin "type.__call__" ⟨.ref C::us,kw⟩)).units=A.units+1:=by
 first | rfl | simp [Around.under,Code.cUnits,Code.frames,Code.isFrame]
theorem Room.make {k:Nat} {A:Around} (r:Room (k+1) A) (C:Addr) (us:List Value) (kw:List (Str × Value)):Room k (A.under (.builtin "type.__call__" ⟨.ref C::us,kw⟩)) :=
 ⟨r.hd,by have:=r.dp;rw [make_depth];omega,by have:=r.un;rw [make_units];omega⟩
theorem Room.depth {k:Nat} {A:Around} (r:Room k A):A.depth < recursionLimit:=by have:=r.dp;omega
theorem Room.units {k:Nat} {A:Around} (r:Room k A):A.units+64 < cLine:=by have:=r.un;omega
def tNil:TA:=fun _ H Q=>Q [] H
def tCons (ta:TE) (tr:TA):TA:=fun σ H Q=>ta σ H fun x H1=>tr σ H1 fun xs H2=>Q (x::xs) H2
section
variable {X:Cx} {e:Expr} {es:List Expr} {te:TE} {t:TA} {pos:Pos}
theorem pa_nil:PA X [] tNil:=fun _ _ _ _ H Q I h=>Calls.spliced_nil ⟨[],H,I,.nil,h⟩
theorem pa_cons (ha:PE X e te) (hr:PA X es t) (hs:starEach (e::es) X.env=(false,eval e X.env)::starEach es X.env:=by rfl):PA X (e::es) (tCons te t):=by
 intro pos pins s σ H Q I h
 rw [hs]
 show wpAny _ _ (spliced ((false,eval e X.env)::backTo pos (starEach es X.env))) _ _ s
 refine Calls.spliced_cons (thn (ha pins s σ H _ I h) fun u s1 ⟨x,H1,I1,r1,q1⟩=>?_)
 exact thn (hr pos pins s1 σ H1 _ I1 q1) fun us s2 ⟨xs,H2,I2,r2,q2⟩=>⟨x::xs,H2,I2,.cons r1 r2,q2⟩
def tTup (t:TA):TE:=fun σ H Q=>t σ H fun xs H1=>xs.length≤sizeLine∧∀ p,H1 p=none→Q (.ref p) (upd H1 p (.tup xs))
def tLst (t:TA):TE:=fun σ H Q=>t σ H fun xs H1=>xs.length≤sizeLine∧∀ p,H1 p=none→Q (.ref p) (upd H1 p (.lst xs))
theorem pe_tup {x1} (h:PA X es t):PE X (.Tuple es x1 pos) (tTup t):=by
 intro pins s σ H Q I hq
 refine wpAny_Tuple_spliced (thn (h pos pins s σ H _ I hq) fun us s1 ⟨xs,H1,I1,r,z,q⟩=>⟨by rw [← r.length];exact z,?_⟩)
 have hf:H1 s1.heap.objs.size=none:=I1.hok.fresh (Nat.le_refl _)
 refine ⟨.ref s1.heap.objs.size,upd H1 s1.heap.objs.size (.tup xs),I1.laid (t':=s1.toks) (fun b u e=>Heap.get?_push_of_some _ e) (Nat.le_refl _) ?_,rfl,q _ hf⟩
 exact ⟨z,us,r,⟨_,Heap.get?_push_size _ rfl,rfl,_,rfl⟩⟩
theorem pe_lst (h:PA X es t):PE X (.List es pos) (tLst t):=by
 intro pins s σ H Q I hq
 refine wpAny_List_spliced (thn (h pos pins s σ H _ I hq) fun us s1 ⟨xs,H1,I1,r,z,q⟩=>⟨by rw [← r.length];exact z,?_⟩)
 have hf:H1 s1.heap.objs.size=none:=I1.hok.fresh (Nat.le_refl _)
 refine ⟨.ref s1.heap.objs.size,upd H1 s1.heap.objs.size (.lst xs),I1.laid (t':=s1.toks) (fun b u e=>Heap.get?_push_of_some _ e) (Nat.le_refl _) ?_,rfl,q _ hf⟩
 exact ⟨z,us,0,r,Heap.get?_push_size _ rfl⟩
end
abbrev Sp:=List V→Hp→VK→XK→Prop
abbrev CXT:=List Env→Hp→Shared→XK→Value→Shared→Prop
structure Env0 (P:Program) (w:World) (K:PySem.W.Frag) (mg:Str→Option Value) (base:Heap) (A:Around) (outer:List Env) (s:Shared) (H:Hp):Prop where
 frames:A.frames=some outer
 mod:Mod K mg base
 bs:∀ b o,base.get? b=some o→s.heap.get? b=some o∧H b=none
 bsz:base.objs.size≤s.heap.objs.size
 funs:s.heap.FunFrames base outer
 frf:∀ b∈frs outer,H b=none
 hok:HOk P w H s.heap
 bare:AllBare s.gens
def CE (outer:List Env) (P:Program) (w:World) (H:Hp) (s:Shared) (Q:VK) (u:Value) (s':Shared):Prop :=
 ∃ v H',s'.os=s.os∧AllBare s'.gens∧Un (frs outer) [] H H' s.heap s'.heap∧HOk P w H' s'.heap∧RelV v u∧Q v H'
def CR (CX:CXT) (outer:List Env) (P:Program) (w:World) (H:Hp) (s:Shared) (Q:VK) (E:XK) (r:Result) (s':Shared):Prop :=
 match r with
 | .ok (.ret u)=>CE outer P w H s Q u s'
 | .ok _=>False
 | .error e=>CX outer H s E e s'
structure FnOk (P:Program) (w:World) (K:PySem.W.Frag) (mg:Str→Option Value) (base:Heap) (CX:CXT) (k:Nat) (f:Addr) (fd:FuncData) (ps:List Str) (sp:Sp):Prop where
 len:∀ vs H Q E,sp vs H Q E→vs.length=ps.length
 run:∀ (A:Around) (outer:List Env) (s:Shared) (H:Hp) (args:Args) (us:List Value) (vs:List V) (Q:VK) (E:XK),Room k A→Env0 P w K mg base A outer s H→BindsTo s fd args (ps.zip us)→Vals vs us→sp vs H Q E →
  codeAny (model P w) A (.call (.ref f) args) (CR CX outer P w H s Q E) s
theorem Env0.make {P:Program} {w:World} {K:PySem.W.Frag} {mg:Str→Option Value} {base:Heap} {A:Around} {outer:List Env} {s:Shared} {H:Hp} (e:Env0 P w K mg base A outer s H) (C:Addr) (us:List Value) (kw:List (Str × Value)) :
  Env0 P w K mg base (A.under (.builtin "type.__call__" ⟨.ref C::us,kw⟩)) outer s H:=⟨by first | exact e.frames | (simpa [Around.under,Code.envs,Code.isFrame,pushEnvs] using e.frames),e.mod,e.bs,e.bsz,e.funs,e.frf,e.hok,e.bare⟩
section
variable {X:Cx} {pins:List (Addr × Obj)} {σ:St} {H:Hp} {s s':Shared}
theorem Inv.env0 (I:Inv X pins σ H s):Env0 X.prog X.w X.K X.mg X.base X.A X.stack s H :=
 ⟨I.ok.frames,I.ok.mod,I.bs,Nat.le_trans I.ok.bsz I.sz,I.stack,I.stkFree,I.hok,I.bare⟩
theorem Inv.after {Q:VK} {u:Value} (I:Inv X pins σ H s) (h:CE X.stack X.prog X.w H s Q u s'):EP X pins σ Q u s':=by
 obtain ⟨v,H',os,bare,un,hok,r,q⟩:=h
 obtain ⟨hh,g,d,t,os'⟩:=s'
 obtain rfl:os'=s.os:=os
 exact ⟨v,H',I.call (h':=hh) (g':=g) (d':=d) (t':=t) (ch:=[]) un hok bare (fun b z=>absurd z (by simp)),r,q⟩
end
def tCall (sp:Sp) (dvs:List V) (E:XK) (t:TA):TE:=fun σ H Q=>t σ H fun vs H1=>sp (vs++dvs) H1 Q E
def tMeth (C:Addr) (m:Str) (sp:Sp) (dvs:List V) (E:XK) (ta:TE) (t:TA):TE:=fun σ H Q=>ta σ H fun x H1=>∃ a dx fs,x=.ref a∧H1 a=some (.ins C dx fs)∧fs.lookup m=none ∧
 t σ H1 fun vs H2=>sp (x::(vs++dvs)) H2 Q E
def tMake (C:Addr) (sp:Sp) (dvs:List V) (E:XK) (t:TA):TE:=fun σ H Q=>t σ H fun vs H1=>∀ x dx,H1 x=none→H1 dx=none→dx≠x →
 sp (.ref x::(vs++dvs)) (upd (upd H1 dx (.own x)) x (.ins C dx [])) (fun v H2=>v=.non∧Q (.ref x) H2) E
def Binds (K:PySem.W.Frag) (fd:FuncData) (ps:List Str) (ds:List Value):Prop :=
 ∀ (s:Shared) (us:List Value),K.In s.heap→(us++ds).length=ps.length→BindsTo s fd ⟨us,[]⟩ (ps.zip (us++ds))
theorem Binds.all {K:PySem.W.Frag} {fd:FuncData} {ps:List Str} (h:∀ us:List Value,us.length=ps.length→bindArgs fd ⟨us,[]⟩=pure (ps.zip us)):Binds K fd ps []:=fun s us _ hl=>by
 rw [List.append_nil] at hl ⊢
 exact .of_eq (h us hl)
def Passes (CX:CXT) (X:Cx) (E:XK):Prop:=∀ (pins:List (Addr × Obj)) (σ:St) (H:Hp) (s:Shared) (e:Value) (s':Shared),Inv X pins σ H s→CX X.stack H s E e s'→X.xe e s'
section
variable {X:Cx} {CX:CXT} {k:Nat} {f C:Addr} {fd:FuncData} {ps:List Str} {sp:Sp} {dvs:List V} {ds:List Value} {E:XK} {x m:Str} {p pos apos:Pos} {e o:Expr} {es:List Expr} {ta:TE} {t:TA}
theorem run_fn {pins:List (Addr × Obj)} {σ:St} {H:Hp} {s:Shared} {Q:VK} {us:List Value} {vs:List V} (F:FnOk X.prog X.w X.K X.mg X.base CX k f fd ps sp) (hr:Room k X.A) (hb:Binds X.K fd ps ds) (hd:Vals dvs ds) (hx:Passes CX X E)
  (I:Inv X pins σ H s) (r:Vals vs us) (h:sp (vs++dvs) H Q E):wpAny (model X.prog X.w) X.A (call (.ref f) us) (EP X pins σ Q) X.xe s:=by
 have r2:Vals (vs++dvs) (us++ds):=r.append hd
 have hl:(us++ds).length=ps.length:=by rw [← r2.length];exact F.len _ _ _ _ h
 refine wpAny_call (codeAny_mono (F.run X.A X.stack s H ⟨us,[]⟩ (us++ds) (vs++dvs) Q E hr I.env0 (hb s us I.kIn hl) r2 h) fun r s' hq=>?_)
 cases r with
 | error e=>exact hx pins σ H s e s' I hq
 | ok fl =>
  cases fl with
  | ret u=>exact I.after hq
  | next=>exact False.elim hq
  | brk=>exact False.elim hq
  | cont=>exact False.elim hq
theorem pe_call (F:FnOk X.prog X.w X.K X.mg X.base CX k f fd ps sp) (hr:Room k X.A) (hg:Gl X x) (hm:X.mg x=some (.ref f)) (hk:PySem.W.keepIn X.K (.ref f)=true) (hb:Binds X.K fd ps ds) (hd:Vals dvs ds) (hx:Passes CX X E)
  (ha:PA X (e::es) t) (hdb:(x == ("__debug__":Str))=false:=by decide) (he:starEach (e::es) X.env=(false,eval e X.env)::starEach es X.env:=by rfl) (hpl:(backTo pos (starEach es X.env)).any (·.1)=false:=by rfl) :
  PE X (.Call (.Name x p) (e::es) [] pos) (tCall sp dvs E t):=by
 intro pins s σ H Q I h
 refine wpAny_Call_Name_kw (ld_glob I hg hm ?_ hdb)
 refine PySem.W.callWith_K (h₀:=X.base) I.ok.mod.kin hk (thn (ha pos pins s σ H _ I h) fun us s1 ⟨vs,H1,I1,r,q⟩=>⟨I1.kIn,?_⟩) he hpl
 exact run_fn F hr hb hd hx I1 r q
theorem pe_meth {pl:Sem Bool} (he:PE X o ta) (c:Cls X.K C) (hm:Meth X.K C m f) (F:FnOk X.prog X.w X.K X.mg X.base CX k f fd ps sp) (hr:Room k X.A) (hb:Binds X.K fd ps ds) (hd:Vals dvs ds) (hx:Passes CX X E) (ha:PA X (e::es) t)
  (hst:starEach (e::es) X.env=(false,eval e X.env)::starEach es X.env:=by rfl) (hpl:(backTo pos (starEach es X.env)).any (·.1)=false:=by rfl)
  (ht:eval (.Call (.Attribute o m apos) (e::es) [] pos) X.env=(do
   let ov ← eval o X.env
   standAt apos.atName
   let (f,first) ← holding [ov] (getMethod ov m pl)
   callWith pos f first (backTo pos (starEach (e::es) X.env)) (backToKw pos (keywordEach [] X.env))):=by rfl) :
  PE X (.Call (.Attribute o m apos) (e::es) [] pos) (tMeth C m sp dvs E ta t):=by
 intro pins s σ H Q I h
 refine PySem.W.methodCall_KW (pl:=pl) (thn (he pins s σ H _ I h) fun u s1 ⟨x,H1,I1,rx,a,dx,fs,ex,ea,l,q⟩=>?_) ht
 subst ex
 obtain rfl:u=Value.ref a:=rx
 refine getmeth_ok I1 ea c hm l ?_
 refine PySem.W.callWith_K (first:=[.ref a]) (h₀:=X.base) I.ok.mod.kin hm.kp (thn (ha pos pins s1 σ H1 _ I1 q) fun us s2 ⟨vs,H2,I2,r,q2⟩=>⟨I2.kIn,?_⟩) hst hpl
 exact run_fn (us:=.ref a::us) (vs:=.ref a::vs) F hr hb hd hx I2 (.cons rfl r) q2
theorem pe_meth0 {pl:Sem Bool} (he:PE X o ta) (c:Cls X.K C) (hm:Meth X.K C m f) (F:FnOk X.prog X.w X.K X.mg X.base CX k f fd ps sp) (hr:Room k X.A) (hb:Binds X.K fd ps ds) (hd:Vals dvs ds) (hx:Passes CX X E)
  (ht:eval (.Call (.Attribute o m apos) [] [] pos) X.env=(do
   let ov ← eval o X.env
   standAt apos.atName
   let (f,first) ← holding [ov] (getMethod ov m pl)
   callWith pos f first (backTo pos (starEach [] X.env)) (backToKw pos (keywordEach [] X.env))):=by rfl) :
  PE X (.Call (.Attribute o m apos) [] [] pos) (tMeth C m sp dvs E ta tNil):=by
 intro pins s σ H Q I h
 refine PySem.W.methodCall_KW (pl:=pl) (thn (he pins s σ H _ I h) fun u s1 ⟨x,H1,I1,rx,a,dx,fs,ex,ea,l,q⟩=>?_) ht
 subst ex
 obtain rfl:u=Value.ref a:=rx
 refine getmeth_ok I1 ea c hm l ?_
 exact PySem.W.callWith_K0 (first:=[.ref a]) I1.kIn hm.kp (run_fn (us:=[.ref a]) (vs:=[.ref a]) F hr hb hd hx I1 (.cons rfl .nil) q)
structure Mk (K:PySem.W.Frag) (C f:Addr):Prop where
 makes:PySem.W.makesIn K C=true
 init:PySem.W.findIn K (.ref C) "__init__"=some (some (.ref f))
 fn:PySem.W.isFn K (.ref f)=true
 kp:PySem.W.keepIn K (.ref C)=true
theorem run_make {pins:List (Addr × Obj)} {σ:St} {H:Hp} {s:Shared} {Q:VK} {us:List Value} {vs:List V} (M:Mk X.K C f) (F:FnOk X.prog X.w X.K X.mg X.base CX k f fd ps sp) (hr:Room (k+1) X.A) (hb:Binds X.K fd ps ds) (hd:Vals dvs ds)
  (hx:Passes CX X E) (I:Inv X pins σ H s) (r:Vals vs us)
  (h:∀ x dx,H x=none→H dx=none→dx≠x→sp (.ref x::(vs++dvs)) (upd (upd H dx (.own x)) x (.ins C dx [])) (fun v H2=>v=.non∧Q (.ref x) H2) E) :
  wpAny (model X.prog X.w) X.A (call (.ref C) us) (EP X pins σ Q) X.xe s:=by
 have hq:=h (s.heap.objs.size+1) s.heap.objs.size (I.hok.fresh (Nat.le_succ _)) (I.hok.fresh (Nat.le_refl _)) (Nat.ne_of_lt (Nat.lt_succ_self _))
 have I2:=Inv.made (C:=C) I
 have r2:Vals (V.ref (s.heap.objs.size+1)::(vs++dvs)) (Value.ref (s.heap.objs.size+1)::(us++ds)):=.cons rfl (r.append hd)
 have hl:(Value.ref (s.heap.objs.size+1)::us++ds).length=ps.length:=by
  have e:=r2.length
  rw [F.len _ _ _ _ hq] at e
  exact e.symm
 refine wpAny_call (make_map (f:=f) I.kIn M.makes M.init (beq_iff_eq.mp M.fn) (codeAny_mono (F.run _ X.stack _ _ ⟨Value.ref (s.heap.objs.size+1)::us,[]⟩ (Value.ref (s.heap.objs.size+1)::(us++ds)) _ _ E (hr.make C us [])
  (I2.env0.make C us []) (hb _ (Value.ref (s.heap.objs.size+1)::us) I2.kIn hl) r2 hq) fun r s' hq'=>?_))
 cases r with
 | error e=>exact hx pins σ _ _ e s' I2 hq'
 | ok fl =>
  cases fl with
  | ret u =>
   obtain ⟨v,H',I3,rv,ev,q3⟩:=I2.after hq'
   subst ev
   exact ⟨rv,⟨V.ref (s.heap.objs.size+1),H',I3,rfl,q3⟩⟩
  | next=>exact False.elim hq'
  | brk=>exact False.elim hq'
  | cont=>exact False.elim hq'
theorem pe_make (M:Mk X.K C f) (F:FnOk X.prog X.w X.K X.mg X.base CX k f fd ps sp) (hr:Room (k+1) X.A) (hg:Gl X x) (hm:X.mg x=some (.ref C)) (hb:Binds X.K fd ps ds) (hd:Vals dvs ds) (hx:Passes CX X E)
  (ha:PA X (e::es) t) (hdb:(x == ("__debug__":Str))=false:=by decide) (he:starEach (e::es) X.env=(false,eval e X.env)::starEach es X.env:=by rfl) (hpl:(backTo pos (starEach es X.env)).any (·.1)=false:=by rfl) :
  PE X (.Call (.Name x p) (e::es) [] pos) (tMake C sp dvs E t):=by
 intro pins s σ H Q I h
 refine wpAny_Call_Name_kw (ld_glob I hg hm ?_ hdb)
 refine PySem.W.callWith_K (h₀:=X.base) I.ok.mod.kin M.kp (thn (ha pos pins s σ H _ I h) fun us s1 ⟨vs,H1,I1,r,q⟩=>⟨I1.kIn,?_⟩) he hpl
 exact run_make M F hr hb hd hx I1 r q
theorem pe_make0 (M:Mk X.K C f) (F:FnOk X.prog X.w X.K X.mg X.base CX k f fd ps sp) (hr:Room (k+1) X.A) (hg:Gl X x) (hm:X.mg x=some (.ref C)) (hb:Binds X.K fd ps ds) (hd:Vals dvs ds) (hx:Passes CX X E)
  (hdb:(x == ("__debug__":Str))=false:=by decide):PE X (.Call (.Name x p) [] [] pos) (tMake C sp dvs E tNil):=by
 intro pins s σ H Q I h
 refine wpAny_Call_Name_kw (ld_glob I hg hm ?_ hdb)
 exact PySem.W.callWith_K0 I.kIn M.kp (run_make (us:=[]) M F hr hb hd hx I .nil h)
end
structure FnScope (N P:List Str) (sc:Scope):Prop where
 kind:sc.kind=.function
 co:sc.isCoroutine=false
 gen:sc.isGenerator=false
 nd:N.Nodup
 pre:N.take P.length=P
 par:∀ x∈P,sc.names.lookup x=some .local∨sc.names.lookup x=some .cell
 nofree:∀ y∈sc.names,y.2≠.free
theorem bindL_out {kindOf:Str→Option NameKind} {x:Str}:∀ {binds:List (Str × Value)} {m:Str→Option Value},(∀ v,(x,v) ∉ binds)→bindL kindOf binds m x=m x
 | [],_,_=>rfl
 | (n,v)::r,m,h=>by
  unfold bindL
  rw [bindL_out fun w hw=>h w (List.mem_cons_of_mem _ hw)]
  split
  ·have:x≠n:=by rintro rfl;exact h v List.mem_cons_self
   simp [this]
  ·rfl
theorem bindC_out {kindOf:Str→Option NameKind} {x:Str}:∀ {binds:List (Str × Value)} {m:Str→Option Value},(∀ v,(x,v) ∉ binds)→bindC kindOf binds m x=m x
 | [],_,_=>rfl
 | (n,v)::r,m,h=>by
  unfold bindC
  rw [bindC_out fun w hw=>h w (List.mem_cons_of_mem _ hw)]
  split
  ·rfl
  ·have:x≠n:=by rintro rfl;exact h v List.mem_cons_self
   simp [this]
theorem bindL_get {kindOf:Str→Option NameKind} {x:Str} {v:Value}:∀ {P:List Str} {vs:List Value} {i:Nat} {m:Str→Option Value},P.Nodup→P[i]?=some x→vs[i]?=some v→kindOf x=some .local →
  bindL kindOf (P.zip vs) m x=some v
 | [],_,_,_,_,h,_,_=>by simp at h
 | _::_,[],_,_,_,_,h,_=>by simp at h
 | p::P,w::vs,0,m,nd,h1,h2,hk=>by
  simp at h1 h2;subst h1;subst h2
  show bindL kindOf ((p,w)::P.zip vs) m p=_
  unfold bindL
  rw [bindL_out fun v hv=>(List.nodup_cons.mp nd).1 (List.of_mem_zip hv).1,if_pos hk]
  simp
 | p::P,w::vs,i+1,m,nd,h1,h2,hk=>by
  show bindL kindOf ((p,w)::P.zip vs) m x=_
  unfold bindL
  exact bindL_get (i:=i) (List.nodup_cons.mp nd).2 (by simpa using h1) (by simpa using h2) hk
theorem bindC_get {kindOf:Str→Option NameKind} {x:Str} {v:Value}:∀ {P:List Str} {vs:List Value} {i:Nat} {m:Str→Option Value},P.Nodup→P[i]?=some x→vs[i]?=some v→kindOf x≠some .local →
  bindC kindOf (P.zip vs) m x=some v
 | [],_,_,_,_,h,_,_=>by simp at h
 | _::_,[],_,_,_,_,h,_=>by simp at h
 | p::P,w::vs,0,m,nd,h1,h2,hk=>by
  simp at h1 h2;subst h1;subst h2
  show bindC kindOf ((p,w)::P.zip vs) m p=_
  unfold bindC
  rw [bindC_out fun v hv=>(List.nodup_cons.mp nd).1 (List.of_mem_zip hv).1,if_neg hk]
  simp
 | p::P,w::vs,i+1,m,nd,h1,h2,hk=>by
  show bindC kindOf ((p,w)::P.zip vs) m x=_
  unfold bindC
  exact bindC_get (i:=i) (List.nodup_cons.mp nd).2 (by simpa using h1) (by simpa using h2) hk
def start (N:List Str) (vs:List V):St:=vs.map some++List.replicate (N.length - vs.length) none
def cxOf (CX:CXT) (P:Program) (w:World) (K:PySem.W.Frag) (mg:Str→Option Value) (base:Heap) (N:List Str) (qual:Str) (scope:Scope) (f:Addr) (cd:Value) (A:Around) (outer:List Env) (s:Shared) (H:Hp) (E:XK):Cx where
 prog:=P
 w:=w
 K:=K
 mg:=mg
 base:=base
 A:=A.deeper (envOfC qual scope s.heap.objs.size f cd)
 N:=N
 s_0:=s
 H_0:=H
 env:=envOfC qual scope s.heap.objs.size f cd
 outer:=outer
 stack:=envOfC qual scope s.heap.objs.size f cd::outer
 ex:=[]
 calm:=true
 fn:=fun _=>true
 pn:=[]
 xe:=fun e s'=>wpAny (model P w) (A.deeper (envOfC qual scope s.heap.objs.size f cd)) (leaving (envOfC qual scope s.heap.objs.size f cd) e) (fun _ s''=>CX outer H s E e s'') (fun e' s''=>CX outer H s E e' s'') s'
theorem cell_has {sc:Scope} {n:Nat} {x:Str} (h:sc.names.lookup x=some .cell):∃ c,(cellsFrom n sc.names []).lookup x=some c:=by
 have q:=PySem.W.cellsFrom_some sc.names n [] (.inl h)
 exact Option.isSome_iff_exists.mp q
theorem inv_start {CX:CXT} {P:Program} {w:World} {K:PySem.W.Frag} {mg:Str→Option Value} {base:Heap} {N ps:List Str} {qual:Str} {scope:Scope} {f:Addr} {cd:Value} {A:Around} {outer:List Env} {s s1:Shared} {H:Hp} {E:XK} {us:List Value} {vs:List V}
  (S:FnScope N ps scope) (hd:A.handled=none) (e0:Env0 P w K mg base A outer s H) (hl:vs.length=ps.length) (r:Vals vs us)
  (x:InCallC s s.heap.objs.size (bindL (envOfC qual scope s.heap.objs.size f cd).kindOf (ps.zip us) fun _=>none) (cellsFrom (s.heap.objs.size+1) scope.names []) (bindC (envOfC qual scope s.heap.objs.size f cd).kindOf (ps.zip us) fun _=>none) s1) :
  Inv (cxOf CX P w K mg base N qual scope f cd A outer s H E) [] (start N vs) H s1:=by
 have hpl:ps.length≤N.length:=by have:=congrArg List.length S.pre;rw [List.length_take] at this;omega
 obtain ⟨h1,tk,rfl,hk⟩:=x.done
 have noA:∀ b:Addr,b ∉ (cxOf CX P w K mg base N qual scope f cd A outer s H E).ex:=fun b z=>absurd (show b∈([]:List Addr) from z) (by simp)
 refine ⟨⟨e0.mod,S.kind,rfl,rfl,Nat.le_refl _,fun y z c h1 h2=>?_,fun y hy=>?_,fun y c _ h=>?_,fun _=>hd,Around.frames_deeper e0.frames,.inr ⟨rfl,rfl⟩,fun b z=>absurd z (noA b),e0.bs,e0.bsz,fun b _ _=>noA b,fun b z=>absurd z (noA b),e0.funs,e0.frf⟩,
  rfl,e0.bare,Un.kept hk,⟨_,x.toInCall.ns,fun i y v h1 h2 h3=>?_⟩,fun y c h=>⟨_,x.cell y c h⟩,e0.hok.fresh (Nat.le_refl _),fun y c h=>?_,fun p hp=>absurd (show p∈([]:List (Addr × Obj)) from hp) (by simp),e0.hok.kept hk,?_⟩
 ·exact name_of_addr x.apart (PySem.mem_of_lookup h1) (PySem.mem_of_lookup h2)
 ·have hy:scope.names.lookup y=some .cell∨scope.names.lookup y=some .free:=hy
  rcases hy with hy | hy
  ·exact cell_has hy
  ·exact absurd rfl (S.nofree _ (PySem.mem_of_lookup hy))
 ·exact Nat.le_of_lt (x.above y c (PySem.mem_of_lookup h))
 ·have hi:i < vs.length:=by
   unfold start at h2
   by_cases hi:i < vs.length
   ·exact hi
   ·rw [List.getElem?_append_right (by simpa using hi)] at h2
    rw [List.getElem?_replicate] at h2
    split at h2 <;> cases h2
  have ha:vs[i]?=some v:=by
   unfold start at h2
   rw [List.getElem?_append_left (by simpa using hi),List.getElem?_map] at h2
   cases e:vs[i]? with
   | none=>rw [e] at h2;cases h2
   | some a=>rw [e] at h2;cases h2;rfl
  obtain ⟨u,hu,rv⟩:=r.get ha
  have hp:ps[i]?=some y:=by
   rw [← S.pre,List.getElem?_take_of_lt (by omega)];exact h1
  have ndP:ps.Nodup:=by rw [← S.pre];exact S.nd.sublist (List.take_sublist _ _)
  refine ⟨u,rv,?_⟩
  rcases S.par y (List.mem_of_getElem? hp) with k | k
  ·exact .inl ⟨k,bindL_get ndP hp hu k⟩
  ·obtain ⟨c,e⟩:=cell_has (n:=s.heap.objs.size+1) k
   refine .inr ⟨.inl k,c,e,?_⟩
   have q:=x.cell y c e
   rw [bindC_get ndP hp hu (by show scope.names.lookup y≠_;rw [k];decide)] at q
   exact q
 ·exact e0.hok.fresh (Nat.le_of_lt (x.above y c (PySem.mem_of_lookup h)))
 ·unfold start
  show _=N.length
  rw [List.length_append,List.length_map,List.length_replicate]
  omega
theorem fn_of {CX:CXT} {P:Program} {w:World} {K:PySem.W.Frag} {mg:Str→Option Value} {base:Heap} {k:Nat} {f:Addr} {name qual:Str} {params:Arguments} {body:List Stmt} {scope:Scope} {dV kV doc pm cdv ct oc:Value} {an od:Option Addr}
  {osl:Array (Option Value)} {N ps:List Str} {sp:Sp} (lk:K.lookup f=some ⟨oc,od,.func (PySem.W.fnOf name qual params body scope dV kV doc pm an cdv ct),osl⟩) (hcd:PySem.W.codeIn K cdv qual=true) (S:FnScope N ps scope)
  (len:∀ vs H Q E,sp vs H Q E→vs.length=ps.length)
  (hbody:∀ (A:Around) (outer:List Env) (s:Shared) (H:Hp) (vs:List V) (Q:VK) (E:XK),Room k (A.deeper (envOfC qual scope s.heap.objs.size f cdv))→sp vs H Q E →
   ∃ t,PSs (cxOf CX P w K mg base N qual scope f cdv A outer s H E) body t∧t { nx:=fun _ H'=>Q .non H',rt:=Q } (start N vs) H) :
  FnOk P w K mg base CX (k+1) f (PySem.W.fnOf name qual params body scope dV kV doc pm an cdv ct) ps sp:=by
 refine ⟨len,fun A outer s H args us vs Q E hr e0 hb r hsp=>?_⟩
 have hl:=len _ _ _ _ hsp
 have KX:K.In s.heap:=e0.mod.kin.keeps fun b o e=>(e0.bs b o e).1
 have lim:s.heap.NoLimit:=e0.mod.nolimit.keeps fun b o e=>(e0.bs b o e).1
 have hkind:∀ y∈ps.zip us,scope.names.lookup y.1=some .local∨(scope.names.lookup y.1=some .cell∧((cellsFrom (s.heap.objs.size+1) scope.names []).lookup y.1).isSome=true):=fun ⟨n,v⟩ hy=>by
  rcases S.par n (List.of_mem_zip hy).1 with q | q
  ·exact .inl q
  ·exact .inr ⟨q,PySem.W.cellsFrom_some _ _ _ (.inl q)⟩
 refine codeAny_call_function hr.depth (KX _ _ lk) rfl S.co S.gen rfl (PySem.W.codeRec_of KX hcd) (hb _ _ _ _ ?_)
 refine wpAny_newFunctionEnv_cells S.kind hkind fun env he s1 x=>?_
 subst he
 refine ⟨lim.keeps x.toInCall.keep,codeAny_func ?_⟩
 obtain ⟨t,ht,hq⟩:=hbody A outer s H vs Q E (hr.deeper _) hsp
 have I:Inv (cxOf CX P w K mg base N qual scope f cdv A outer s H E) [] (start N vs) H s1:=inv_start S hr.hd e0 hl r x
 refine wpAny_mono (ht [] s1 (start N vs) H _ I hq) (fun fl s' hs=>?_) fun e s' hs=>hs
 have fin:∀ {σ':St} {H':Hp} {v:V} {u:Value},Inv (cxOf CX P w K mg base N qual scope f cdv A outer s H E) [] σ' H' s'→RelV v u→Q v H'→CE outer P w H s Q u s' :=
  fun {σ' H' v u} J rv q=>⟨v,H',J.os,J.bare,J.base,J.hok,rv,q⟩
 cases fl with
 | ret u =>
  obtain ⟨v,σ',H',J,rv,q⟩:=hs
  exact fin J rv q
 | next =>
  obtain ⟨σ',H',J,q⟩:=hs
  exact fin (v:=V.non) (u:=Value.none) J rfl q
 | brk =>
  obtain ⟨_,_,_,q⟩:=hs
  exact False.elim q
 | cont =>
  obtain ⟨_,_,_,q⟩:=hs
  exact False.elim q
end L2
namespace L2
open PySem PySem.Spec PyProof.Rows
section
variable {X:Cx} {x:Str} {p pos:Pos} {e:Expr} {es:List Expr} {t:TA} {id T:String} {r:List V→Hp→VK→Prop}
def tCB (r:List V→Hp→VK→Prop) (t:TA):TE:=fun σ H Q=>t σ H fun vs H1=>r vs H1 Q
theorem pe_callB (hc:CallR X (.builtin id) r) (hg:Gl X x) (hm:X.mg x=none) (hv:bootBuiltins x=some (.builtin id)) (ha:PA X (e::es) t) (hn:x≠"__name__":=by decide) (hdb:(x == ("__debug__":Str))=false:=by decide)
  (he:starEach (e::es) X.env=(false,eval e X.env)::starEach es X.env:=by rfl) (hpl:(backTo pos (starEach es X.env)).any (·.1)=false:=by rfl):PE X (.Call (.Name x p) (e::es) [] pos) (tCB r t):=by
 intro pins s σ H Q I h
 refine wpAny_Call_Name_kw (ld_blt I hg hm hv ?_ hn hdb)
 exact PyProof.Rows.callWith_builtin1 (thn (ha pos pins s σ H _ I h) fun us s1 ⟨vs,H1,I1,r1,q1⟩=>hc pins s1 σ H1 vs us Q I1 r1 q1) he hpl
theorem pe_callTy (hc:CallR X (.type T) r) (hg:Gl X x) (hm:X.mg x=none) (hv:bootBuiltins x=some (.type T)) (ha:PA X (e::es) t) (hn:x≠"__name__":=by decide) (hdb:(x == ("__debug__":Str))=false:=by decide)
  (he:starEach (e::es) X.env=(false,eval e X.env)::starEach es X.env:=by rfl) (hpl:(backTo pos (starEach es X.env)).any (·.1)=false:=by rfl):PE X (.Call (.Name x p) (e::es) [] pos) (tCB r t):=by
 intro pins s σ H Q I h
 refine wpAny_Call_Name_kw (ld_blt I hg hm hv ?_ hn hdb)
 exact PyProof.Rows.callWith_type1 (thn (ha pos pins s σ H _ I h) fun us s1 ⟨vs,H1,I1,r1,q1⟩=>hc pins s1 σ H1 vs us Q I1 r1 q1) he hpl
end
end L2
namespace HT
open PySem PyProof.Rows
section
variable {prog:Program} {w:World} {A:Around} {E:Value→Shared→Prop} {s:Shared}
def sIx (n d:Nat):Option Int→Nat
 | none=>d
 | some v=>if v < 0 then (v+(n:Int)).toNat else min v.toNat n
theorem sIx_none (n d:Nat):sIx n d none=d:=rfl
theorem sIx_le (n d:Nat) (hd:d≤n) (o:Option Int):sIx n d o≤n:=by
 cases o with
 | none=>exact hd
 | some v =>
  show (if v < 0 then (v+(n:Int)).toNat else min v.toNat n)≤n
  by_cases hv:v < 0
  ·rw [if_pos hv];omega
  ·rw [if_neg hv];exact Nat.min_le_right _ _
theorem clip_eq (v:Int) (n d:Nat):(if v < 0 then max (v+(n:Int)) 0 else min v (n:Int))=((sIx n d (some v):Nat):Int):=by
 show (if v < 0 then max (v+(n:Int)) 0 else min v (n:Int))=(((if v < 0 then (v+(n:Int)).toNat else min v.toNat n):Nat):Int)
 by_cases hv:v < 0
 ·simp only [if_pos hv];omega
 ·simp only [if_neg hv];omega
theorem adjust_gen (lo hi:Option Int) (n:Nat):Builtin.Slice.sliceAdjust lo hi 1 (n:Int)=(((sIx n 0 lo:Nat):Int),((sIx n n hi:Nat):Int)):=by
 have h1:¬ ((1:Int) < 0):=by omega
 unfold Builtin.Slice.sliceAdjust
 simp only [h1,if_false]
 refine Prod.ext ?_ ?_
 ·cases lo with
  | none=>rfl
  | some v=>exact clip_eq v n 0
 ·cases hi with
  | none=>rfl
  | some v=>exact clip_eq v n n
theorem places_gen (i j:Nat):Builtin.Slice.slicePlaces (i:Int) (j:Int) 1=j - i:=by
 unfold Builtin.Slice.slicePlaces
 have h1:(1:Int) > 0:=by omega
 simp only [h1,if_true,Int.ediv_one]
 split <;> omega
theorem slicePart_ {v:Value} {o:Option Int} {Q:Option Int→Shared→Prop} (p:IsPart v o) (h:Q o s):wpAny (model prog w) A (Builtin.Slice.slicePartIndex v) Q E s:=by
 cases p with
 | none=>exact slicePart_none h
 | int i t=>exact slicePart_int h
theorem sliceApplied_gen {sl:Addr} {vl vu:Value} {lo hi:Option Int} {n:Nat} {Q:Int × Int × Nat→Shared→Prop} (hs:s.heap.IsSliceOf sl vl vu .none) (pl:IsPart vl lo) (pu:IsPart vu hi)
  (h:Q (((sIx n 0 lo:Nat):Int),1,sIx n n hi - sIx n 0 lo) s):wpAny (model prog w) A (Builtin.Slice.sliceApplied (.ref sl) (pure (n:Int))) Q E s:=by
 obtain ⟨os,hos,hcs,hds⟩:=id hs
 unfold Builtin.Slice.sliceApplied Builtin.Slice.sliceFields
 refine wpAny_bind (wpAny_bind (wpAny_field hos hds (x:=vl) rfl (wpAny_bind (wpAny_field hos hds (x:=vu) rfl (wpAny_bind (wpAny_field hos hds (x:=.none) rfl (wpAny_pure ?_)))))))
 refine wpAny_bind (slicePart_none ?_)
 show wpAny _ _ (if ((1:Int) == 0)=true then _ else _) _ _ s
 rw [if_neg (by decide)]
 refine wpAny_bind (slicePart_ pl (wpAny_bind (slicePart_ pu (wpAny_bind (wpAny_pure ?_)))))
 show wpAny _ _ (match Builtin.Slice.sliceAdjust lo hi 1 (n:Int) with | (lo,hi)=>pure (lo,(1:Int),Builtin.Slice.slicePlaces lo hi 1)) _ _ s
 rw [adjust_gen lo hi n]
 show wpAny _ _ (pure (((sIx n 0 lo:Nat):Int),(1:Int),Builtin.Slice.slicePlaces ((sIx n 0 lo:Nat):Int) ((sIx n n hi:Nat):Int) 1)) _ _ s
 rw [places_gen]
 exact wpAny_pure h
theorem pick_gen (xs:Array Value) (i k:Nat):((List.range k).filterMap fun (m:Nat)=>xs[((i:Int)+(m:Int)*1).toNat]?).toArray=((xs.toList.drop i).take k).toArray:=by
 have e:(fun (m:Nat)=>xs[((i:Int)+(m:Int)*1).toNat]?)=fun m=>xs[i+m]?:=by
  funext m
  have:((i:Int)+(m:Int)*1).toNat=i+m:=by omega
  rw [this]
 rw [e]
 have:=pick_run xs i k
 rw [List.filterMap_map] at this
 have e2:((fun x=>xs[x]?) ∘ fun x=>i+x)=fun m=>xs[i+m]?:=rfl
 rw [e2] at this
 rw [this]
theorem getItem_tuple_cut {t sl:Addr} {items:Array Value} {vl vu:Value} {lo hi:Option Int} {Q:Value→Shared→Prop} (ht:IsTup s.heap t items) (hs:s.heap.IsSliceOf sl vl vu .none) (pl:IsPart vl lo) (pu:IsPart vu hi)
  (hw:¬ (sIx items.size 0 lo=0∧sIx items.size items.size hi=items.size))
  (h:Q (.ref s.heap.objs.size) { s with heap:=s.heap.push { cls:=.type "tuple",data:=.seq ((items.toList.drop (sIx items.size 0 lo)).take (sIx items.size items.size hi - sIx items.size 0 lo)).toArray } })
  (hsz:items.size≤sizeLine):wpAny (model prog w) A (getItem (.ref t) (.ref sl)) Q E s:=by
 have htake:sizeOk (.seq ((items.toList.drop (sIx items.size 0 lo)).take (sIx items.size items.size hi - sIx items.size 0 lo)).toArray):=by
  show ((items.toList.drop (sIx items.size 0 lo)).take (sIx items.size items.size hi - sIx items.size 0 lo)).toArray.size≤sizeLine
  rw [List.size_toArray,List.length_take,List.length_drop,Array.length_toList]
  omega
 have hj:sIx items.size items.size hi≤items.size:=sIx_le _ _ (Nat.le_refl _) hi
 obtain ⟨os,hos,hcs,hds⟩:=id hs
 have hTs:s.TypeIs (.ref sl) "slice":=⟨os,hos,hcs⟩
 unfold getItem
 try with_reducible refine wpAny_holding ?_
 first | refine wpAny_bind (wpAny_pure ?_) | skip
 refine wpAny_bind (wpAny_sequenceKey ht.typeIs (by decide) ?_)
 refine wpAny_bind (wpAny_callSpecial?_slot (name:=Str.ofString "__getitem__") ht.typeIs PyProof.Rows.slot_tuple_getitem
  (wpAny_call_entry PyProof.Rows.slot_tuple_getitem ht.typeIs entry_tuple_getitem ?_ (args_tuple_getitem _ _)))
 show wpAny _ _ (Builtin.Tuple.tupleItemsOf (.ref t) >>= _) _ _ s
 refine wpAny_bind (tupleItemsOf_ ht ?_)
 refine wpAny_bind (wpAny_typeOf hTs ?_)
 rw [if_pos (by decide)]
 refine wpAny_bind (sliceApplied_gen hs pl pu ?_)
 have hno:¬ ((((sIx items.size 0 lo:Nat):Int) == 0 && (1:Int) == 1 && (sIx items.size items.size hi - sIx items.size 0 lo) == items.size)=true):=by
  intro q
  rw [Bool.and_eq_true,Bool.and_eq_true] at q
  have q1:((sIx items.size 0 lo:Nat):Int)=0:=eq_of_beq q.1.1
  have q2:sIx items.size items.size hi - sIx items.size 0 lo=items.size:=eq_of_beq q.2
  exact hw ⟨by omega,by omega⟩
 show wpAny _ _ (if (((sIx items.size 0 lo:Nat):Int) == 0 && (1:Int) == 1 && (sIx items.size items.size hi - sIx items.size 0 lo) == items.size)=true then _ else _) _ _ s
 rw [if_neg hno,pick_gen]
 first
  | exact wpAny_bind (m:=Builtin.Tuple.tupleExact _) (wpAny_newObj_type (wpAny_pure ⟨_,rfl,wpAny_pure h⟩) htake)
  | exact wpAny_bind (m:=Builtin.Tuple.tupleExact _) (wpAny_newObj_type (wpAny_bind (wpAny_pure (wpAny_pure ⟨_,rfl,wpAny_pure h⟩))) htake)
  | exact wpAny_bind (wpAny_bind (m:=Builtin.Tuple.tupleExact _) (wpAny_newObj_type (wpAny_pure (wpAny_pure ⟨_,rfl,wpAny_pure h⟩)) htake))
  | exact wpAny_bind (wpAny_bind (m:=Builtin.Tuple.tupleExact _) (wpAny_newObj_type (wpAny_pure ⟨_,rfl,wpAny_pure h⟩) htake))
end
end HT
namespace L2
open PySem PySem.Spec PyProof.Rows
abbrev TO:=St→Hp→(Option Int→Hp→Prop)→Prop
def PO (X:Cx) (e:Option Expr) (t:TO):Prop :=
 ∀ (pins:List (Addr × Obj)) (s:Shared) (σ:St) (H:Hp) (Q:Option Int→Hp→Prop),Inv X pins σ H s→t σ H Q →
  wpAny (model X.prog X.w) X.A (evalPart e X.env) (fun u s'=>∃ o H',Inv X pins σ H' s'∧IsPart u o∧Q o H') X.xe s
def tNoPart:TO:=fun _ H Q=>Q none H
def tPart (t:TE):TO:=fun σ H Q=>t σ H fun x H1=>∃ i,x=.int i∧Q (some i) H1
section
variable {X:Cx} {e:Expr} {te:TE} {lo hi:Option Expr} {tl th:TO} {pos p2:Pos}
theorem po_none:PO X none tNoPart:=by
 intro pins s σ H Q I h
 rw [evalPart_none]
 exact wpAny_pure ⟨none,H,I,.none,h⟩
theorem po_some (h:PE X e te):PO X (some e) (tPart te):=by
 intro pins s σ H Q I hw
 rw [evalPart_some]
 refine thn (h pins s σ H _ I hw) fun u s1 ⟨x,H1,I1,r1,q1⟩=>?_
 obtain ⟨i,rfl,q⟩:=q1
 obtain ⟨t,rfl⟩:=r1
 exact ⟨some i,H1,I1,.int i t,q⟩
def SlR (X:Cx) (r:V→Option Int→Option Int→Hp→VK→Prop):Prop :=
 ∀ (pins:List (Addr × Obj)) (s:Shared) (σ:St) (H:Hp) (x:V) (v vl vu:Value) (lo hi:Option Int) (sl:Addr) (Q:VK),Inv X pins σ H s→RelV x v→s.heap.IsSliceOf sl vl vu .none→IsPart vl lo→IsPart vu hi→r x lo hi H Q →
  ∃ T id,typeLookup (.type T) "__getitem__"=pure (some (.builtin id))∧s.TypeIs v T∧wpAny (model X.prog X.w) X.A (getItem v (.ref sl)) (EP X pins σ Q) X.xe s
def tSl (r:V→Option Int→Option Int→Hp→VK→Prop) (te:TE) (tl th:TO):TE:=fun σ H Q=>te σ H fun x H1=>tl σ H1 fun l H2=>th σ H2 fun u H3=>r x l u H3 Q
theorem pe_slice {r:V→Option Int→Option Int→Hp→VK→Prop} (hr:SlR X r) (he:PE X e te) (hl:PO X lo tl) (hu:PO X hi th):PE X (.Subscript e (.Slice lo hi none p2) pos) (tSl r te tl th):=by
 intro pins s σ H Q I h
 refine Subscript_ (thn (he pins s σ H _ I h) fun v s1 ⟨x,H1,I1,r1,q1⟩=>?_)
 refine wpAny_Slice (thn (hl pins s1 σ H1 _ I1 q1) fun vl s2 ⟨l,H2,I2,pl,q2⟩=>thn (hu pins s2 σ H2 _ I2 q2) fun vu s3 ⟨u,H3,I3,pu,q3⟩=>?_)
 rw [evalPart_none]
 refine wpAny_pure ?_
 have I4:Inv X pins σ H3 { s3 with heap:=s3.heap.push { cls:=.type "slice",data:=.fields #[vl,vu,.none] } }:=I3.kept (t':=s3.toks) fun b ob q=>Heap.get?_push_of_some _ q
 obtain ⟨T,id,hT,ht,hg⟩:=hr pins { s3 with heap:=s3.heap.push { cls:=.type "slice",data:=.fields #[vl,vu,.none] } } σ H3 x v vl vu l u s3.heap.objs.size Q I4 r1 (Heap.IsSliceOf.new ..) pl pu q3
 show wpAny (model X.prog X.w) X.A (subscriptTail e (.Slice lo hi none p2) v (.ref s3.heap.objs.size)) (EP X pins σ Q) X.xe { s3 with heap:=s3.heap.push { cls:=.type "slice",data:=.fields #[vl,vu,.none] } }
 exact tail_any (ops:=[.ref s3.heap.objs.size,v]) ht hT hg (by with_unfolding_all rfl)
def cutV (xs:List V) (lo hi:Option Int):List V:=(xs.drop (HT.sIx xs.length 0 lo)).take (HT.sIx xs.length xs.length hi - HT.sIx xs.length 0 lo)
theorem cutV_length (xs:List V) (lo hi:Option Int):(cutV xs lo hi).length≤xs.length:=by
 unfold cutV
 rw [List.length_take,List.length_drop]
 omega
def rSlT (K:PySem.W.Frag):V→Option Int→Option Int→Hp→VK→Prop:=fun x lo hi H Q=>∃ a xs,x=.ref a∧SqT K H a xs ∧
 ¬ (HT.sIx xs.length 0 lo=0∧HT.sIx xs.length xs.length hi=xs.length)∧∀ p,H p=none→Q (.ref p) (upd H p (.tup (cutV xs lo hi)))
theorem sl_tup:SlR X (rSlT X.K):=by
 intro pins s σ H x v vl vu lo hi sl Q I rx hs pl pu h
 obtain ⟨a,xs,rfl,hx,hw,q⟩:=h
 cases rx
 obtain ⟨its,r,ht,hz⟩:=I.tuple hx
 have hlen:its.toArray.size=xs.length:=by rw [List.size_toArray];exact r.length.symm
 refine ⟨"tuple",_,PyProof.Rows.slot_tuple_getitem.lookup,ht.typeIs,?_⟩
 refine HT.getItem_tuple_cut ht hs pl pu (by rw [hlen];exact hw) ?_ (by rw [hlen];exact hz)
 rw [hlen]
 refine ⟨.ref s.heap.objs.size,_,I.laid (t':=s.toks) (o:=.tup (cutV xs lo hi)) (fun b ob q=>Heap.get?_push_of_some _ q) (Nat.le_refl _) ?_,rfl,q _ (I.hok.fresh (Nat.le_refl _))⟩
 exact ⟨Nat.le_trans (cutV_length xs lo hi) hz,_,(r.drop (HT.sIx xs.length 0 lo)).take (HT.sIx xs.length xs.length hi - HT.sIx xs.length 0 lo),IsTup.new _ _⟩
end
end L2
namespace L2
open PySem PySem.Spec PyProof.Rows
def ixN (n:Nat) (i:Int):Option Nat:=if 0≤i then (if i < n then some i.toNat else none) else if -(n:Int)≤i then some (i+n).toNat else none
def atI {α:Type} (xs:List α) (i:Int):Option α:=(ixN xs.length i).bind fun j=>xs[j]?
theorem ixN_seq {n:Nat} {i:Int} {j:Nat} (h:ixN n i=some j):seqIndex? i n=some j∧j < n∧-(n:Int)≤i∧i < n:=by
 unfold ixN at h
 by_cases h0:0≤i
 ·rw [if_pos h0] at h
  by_cases h1:i < n
  ·rw [if_pos h1] at h
   have e:i.toNat=j:=Option.some.inj h
   exact ⟨by rw [seqIndex_of h0 h1,e],by omega,by omega,h1⟩
  ·rw [if_neg h1] at h;cases h
 ·rw [if_neg h0] at h
  by_cases h1:-(n:Int)≤i
  ·rw [if_pos h1] at h
   have e:(i+n).toNat=j:=Option.some.inj h
   exact ⟨by rw [seqIndex_neg (by omega) h1,e],by omega,h1,by omega⟩
  ·rw [if_neg h1] at h;cases h
theorem atI_get {α:Type} {xs:List α} {i:Int} {v:α} (h:atI xs i=some v):∃ j,seqIndex? i xs.length=some j∧xs[j]?=some v∧j < xs.length∧-(xs.length:Int)≤i∧i < xs.length:=by
 unfold atI at h
 cases e:ixN xs.length i with
 | none=>rw [e] at h;cases h
 | some j =>
  rw [e] at h
  obtain ⟨h1,h2,h3,h4⟩:=ixN_seq e
  exact ⟨j,h1,h,h2,h3,h4⟩
theorem atI_nat {α:Type} {xs:List α} {j:Nat} {v:α} (h:xs[j]?=some v):atI xs (j:Int)=some v:=by
 have hj:j < xs.length:=(List.getElem?_eq_some_iff.mp h).1
 have e:ixN xs.length (j:Int)=some j:=by
  unfold ixN
  rw [if_pos (by omega),if_pos (by omega)];simp
 unfold atI;rw [e];exact h
def PlainIx (b:Expr):Prop:=∀ o i,subscripted b false o i=operate [o,i] (getItem o i)
def IxR (X:Cx) (r:R2):Prop :=
 ∀ (value slice:Expr) (pins:List (Addr × Obj)) (s:Shared) (σ:St) (H:Hp) (x y:V) (v u:Value) (Q:VK),Inv X pins σ H s→RelV x v→RelV y u→r x y H Q →
  subscripted slice false v u=operate [v,u] (getItem v u)→wpAny (model X.prog X.w) X.A (subscriptTail value slice v u) (EP X pins σ Q) X.xe s
def MtR (X:Cx) (id:String) (r:V→List V→Hp→VK→Prop):Prop :=
 ∀ (pins:List (Addr × Obj)) (s:Shared) (σ:St) (H:Hp) (x:V) (xs:List V) (v:Value) (us:List Value) (Q:VK),Inv X pins σ H s→RelV x v→Vals xs us→r x xs H Q →
  wpAny (model X.prog X.w) X.A (call (.builtin id) (v::us)) (EP X pins σ Q) X.xe s
section
variable {X:Cx} {a b:Expr} {ta tb:TE} {pos:Pos}
theorem pe_ix {r:R2} (hr:IxR X r) (ha:PE X a ta) (hb:PE X b tb) (hs:PlainIx b):PE X (.Subscript a b pos) (tOp r ta tb):=by
 intro pins s σ H Q I h
 exact Subscript_ (binT ha hb I h fun v u s2 x y H2 I2 rx ry q=>hr a b pins s2 σ H2 x y v u Q I2 rx ry q (hs _ _))
def rIxL (K:PySem.W.Frag):R2:=fun x y H Q=>∃ p xs i v,x=.ref p∧y=.int i∧SqL K H p xs∧atI xs i=some v∧Q v H
def rIxT (K:PySem.W.Frag):R2:=fun x y H Q=>∃ p xs i v,x=.ref p∧y=.int i∧SqT K H p xs∧atI xs i=some v∧Q v H
theorem ix_list:IxR X (rIxL X.K):=by
 intro value slice pins s σ H x y v u Q I rx ry h hs
 obtain ⟨p,xs,i,z,rfl,rfl,hq,he,q⟩:=h
 cases rx
 obtain ⟨t,rfl⟩:=ry
 obtain ⟨its,r,pl,hz⟩:=I.list hq
 obtain ⟨j,h1,h2,h3,h4,h5⟩:=atI_get he
 obtain ⟨w,ew,rw'⟩:=r.get h2
 have hl:=r.length
 have hn:=line63
 have fin:EP X pins σ Q w s:=⟨z,H,I,rw',q⟩
 by_cases h0:0≤i
 ·have hj:i.toNat=j:=by
   rw [seqIndex_of h0 h5] at h1
   exact Option.some.inj h1
  exact item_listR pl.isList h0 (by omega) (by rw [hj];simpa using ew) fin hs
 ·have hj:(i+(its.toArray.size:Int)).toNat=j:=by
   rw [seqIndex_neg (by omega) h4] at h1
   rw [List.size_toArray,← hl]
   exact Option.some.inj h1
  exact subscriptTail_builtinR (x:=w) pl.isList.typeIs slot_list_getitem.lookup
   (wpAny_getItem_list_neg (Q:=fun r s'=>r=w∧EP X pins σ Q r s') pl.isList (by omega) (by rw [List.size_toArray] <;> omega) (by omega) (by rw [hj];simpa using ew) ⟨rfl,fin⟩) hs
theorem ix_tup:IxR X (rIxT X.K):=by
 intro value slice pins s σ H x y v u Q I rx ry h hs
 obtain ⟨p,xs,i,z,rfl,rfl,hq,he,q⟩:=h
 cases rx
 obtain ⟨t,rfl⟩:=ry
 obtain ⟨its,r,pl,hz⟩:=I.tuple hq
 obtain ⟨j,h1,h2,h3,h4,h5⟩:=atI_get he
 obtain ⟨w,ew,rw'⟩:=r.get h2
 have hl:=r.length
 have hn:=line63
 have fin:EP X pins σ Q w s:=⟨z,H,I,rw',q⟩
 exact subscriptTail_builtinR (x:=w) pl.typeIs slot_tuple_getitem.lookup
  (getItem_tuple (j:=j) (Q:=fun r s'=>r=w∧EP X pins σ Q r s') pl (by omega) (by omega) (by rw [List.size_toArray,← hl];exact h1) (by simpa using ew) ⟨rfl,fin⟩) hs
theorem mapSeq_set (its:List Value) (n j:Nat) (u:Value):Obj.mapSeq (·.setIfInBounds j u) { cls:=.type "list",data:=.seq its.toArray n }={ cls:=.type "list",data:=.seq (its.set j u).toArray n }:=by
 simp [Obj.mapSeq]
theorem Inv.lst {pins:List (Addr × Obj)} {σ:St} {H:Hp} {s:Shared} {p:Addr} {xs:List V} (I:Inv X pins σ H s) (h:H p=some (.lst xs)) :
  ∃ (its:List Value) (n:Nat),Vals xs its∧s.heap.get? p=some { cls:=.type "list",data:=.seq its.toArray n }∧xs.length≤sizeLine:=by
 obtain ⟨z,its,n,r,e⟩:=I.hok p _ h
 exact ⟨its,n,r,e,z⟩
theorem Inv.lstUpd {pins:List (Addr × Obj)} {σ:St} {H:Hp} {s:Shared} {p:Addr} {xs ys:List V} {its its':List Value} {n n':Nat} {f:Obj→Obj} (I:Inv X pins σ H s) (h:H p=some (.lst xs))
  (ho:s.heap.get? p=some { cls:=.type "list",data:=.seq its.toArray n }) (hf:f { cls:=.type "list",data:=.seq its.toArray n }={ cls:=.type "list",data:=.seq its'.toArray n' }) (r:Vals ys its') (hz:ys.length≤sizeLine) (t:Nat) :
  Inv X pins σ (upd H p (.lst ys)) { s with heap:=s.heap.update p f,toks:=t }:=by
 have e:(s.heap.update p f).get? p=some { cls:=.type "list",data:=.seq its'.toArray n' }:=by
  rw [Heap.get?_update_self f ho (by rw [hf] <;> rfl),hf]
 refine I.write (x:=p) (e:=p) (by rw [h];trivial) (.inl rfl) (fun b u hb q=>(Heap.get?_update_other _ _ (Ne.symm hb)).trans q) ⟨_,e⟩ ?_
 exact ⟨hz,its',n',r,e⟩
def rSetL:V→V→V→Hp→(Hp→Prop)→Prop:=fun o i v H Q=>∃ p xs k j,o=.ref p∧i=.int k∧H p=some (.lst xs)∧ixN xs.length k=some j∧Q (upd H p (.lst (xs.set j v)))
theorem set_list:PSet X rSetL:=by
 intro pins s σ H o i v ov iv u Q I ro ri rv h
 obtain ⟨p,xs,k,j,rfl,rfl,hp,hj,q⟩:=h
 cases ro
 obtain ⟨t,rfl⟩:=ri
 obtain ⟨its,n,r,ho,hz⟩:=I.lst hp
 obtain ⟨h1,h2,h3,h4⟩:=ixN_seq hj
 have hl:=r.length
 have hn:=line63
 have I':Inv X pins σ (upd H p (.lst (xs.set j v))) { s with heap:=s.heap.update p (Obj.mapSeq (·.setIfInBounds j u)) } :=
  I.lstUpd hp ho (mapSeq_set its n j u) (r.set rv j) (by rw [List.length_set];exact hz) s.toks
 by_cases h0:0≤k
 ·have hk:k.toNat=j:=by
   rw [seqIndex_of h0 h4] at h1
   exact Option.some.inj h1
  exact PySem.W.ki_setAt ho h0 (by omega) (by rw [List.size_toArray,← hl];exact h4) (by rw [hk];exact ⟨_,I',q⟩)
 ·have hk:(k+(its.toArray.size:Int)).toNat=j:=by
   rw [seqIndex_neg (by omega) h3] at h1
   rw [List.size_toArray,← hl]
   exact Option.some.inj h1
  exact PySem.W.ki_setBack ho (by omega) (by rw [List.size_toArray,← hl];exact h3) (by omega) (by rw [hk];exact ⟨_,I',q⟩)
theorem slice_bounds (lo hi:Option Int) (n:Nat):(sliceBounds lo hi none n).1=((HT.sIx n 0 lo:Nat):Int)∧(sliceBounds lo hi none n).2.1=((HT.sIx n n hi:Nat):Int)∧(sliceBounds lo hi none n).2.2=1:=by
 refine ⟨?_,?_,rfl⟩
 ·cases lo with
  | none=>simp [sliceBounds,HT.sIx]
  | some i =>
   simp only [sliceBounds,HT.sIx,Option.getD_none,show (1:Int) > 0 by decide,if_true]
   by_cases h:i < 0
   ·simp only [h,if_true] <;> omega
   ·simp only [h,if_false] <;> omega
 ·cases hi with
  | none=>simp [sliceBounds,HT.sIx]
  | some i =>
   simp only [sliceBounds,HT.sIx,Option.getD_none,show (1:Int) > 0 by decide,if_true]
   by_cases h:i < 0
   ·simp only [h,if_true] <;> omega
   ·simp only [h,if_false] <;> omega
theorem slicePick_cut (its:List Value) (lo hi:Option Int):slicePick its.toArray lo hi none=((its.drop (HT.sIx its.length 0 lo)).take (HT.sIx its.length its.length hi - HT.sIx its.length 0 lo)).toArray:=by
 obtain ⟨h1,h2,h3⟩:=slice_bounds lo hi its.toArray.size
 unfold slicePick
 rw [h1,h2,h3]
 simp only [sliceRange_one,pick_run,List.size_toArray] <;> rfl
def rSlL (K:PySem.W.Frag):V→Option Int→Option Int→Hp→VK→Prop:=fun x lo hi H Q=>∃ a xs,x=.ref a∧SqL K H a xs∧∀ p,H p=none→Q (.ref p) (upd H p (.lst (cutV xs lo hi)))
theorem sl_list:SlR X (rSlL X.K):=by
 intro pins s σ H x v vl vu lo hi sl Q I rx hs pl pu h
 obtain ⟨a,xs,rfl,hx,q⟩:=h
 cases rx
 obtain ⟨its,r,ht,hz⟩:=I.list hx
 have hlen:=r.length
 refine ⟨"list",_,slot_list_getitem.lookup,ht.isList.typeIs,?_⟩
 refine wpAny_getItem_list_slice ht.isList hs pl pu .none (by simp) ?_ (by rw [List.size_toArray] <;> omega)
 rw [slicePick_cut,← hlen]
 refine ⟨.ref s.heap.objs.size,_,I.laid (t':=s.toks) (o:=.lst (cutV xs lo hi)) (fun b ob q=>Heap.get?_push_of_some _ q) (Nat.le_refl _) ?_,rfl,q _ (I.hok.fresh (Nat.le_refl _))⟩
 exact ⟨Nat.le_trans (cutV_length xs lo hi) hz,_,0,(r.drop (HT.sIx xs.length 0 lo)).take (HT.sIx xs.length xs.length hi - HT.sIx xs.length 0 lo),Heap.get?_push_size _ rfl⟩
theorem call_len_seq:CallR X (.builtin "len") (fun xs H Q=>∃ p ys,xs=[.ref p]∧(SqL X.K H p ys∨SqT X.K H p ys)∧Q (.int ys.length) H):=by
 intro pins s σ H xs us Q I r h
 obtain ⟨p,ys,rfl,hq,q⟩:=h
 obtain ⟨u,rfl,rx⟩:=vals1 r
 cases rx
 have hn:=line63
 rcases hq with hq | hq
 ·obtain ⟨its,r',pl,hz⟩:=I.list hq
  have hlen:=r'.length
  exact Calls.call_len_list pl.isList (by simp only [List.size_toArray] <;> omega) ⟨.int ys.length,H,I.tok _,⟨s.toks+1,by rw [List.size_toArray,hlen]⟩,q⟩
 ·obtain ⟨its,r',pl,hz⟩:=I.tuple hq
  have hlen:=r'.length
  exact len_tuple pl (by simp only [List.size_toArray] <;> omega) ⟨.int ys.length,H,I.tok _,⟨s.toks+1,by rw [List.size_toArray,hlen]⟩,q⟩
theorem call_tuple_of:CallR X (.type "tuple") (fun xs H Q=>∃ p ys,xs=[.ref p]∧((SqL X.K H p ys∧∀ l,H l=none→Q (.ref l) (upd H l (.tup ys)))∨(SqT X.K H p ys∧Q (.ref p) H))):=by
 intro pins s σ H xs us Q I r h
 obtain ⟨p,ys,rfl,h⟩:=h
 obtain ⟨u,rfl,rx⟩:=vals1 r
 cases rx
 rcases h with ⟨hq,q⟩ | ⟨hq,q⟩
 ·obtain ⟨its,r',pl,hz⟩:=I.list hq
  have hlen:=r'.length
  refine call_tuple_list pl.isList (fun h' kp=>?_) (by simp only [List.size_toArray] <;> omega)
  have I1:Inv X pins σ H { s with heap:=h' }:=I.kept (t':=s.toks) kp
  have I2:Inv X pins σ (upd H h'.objs.size (.tup ys)) { s with heap:=h'.push { cls:=.type "tuple",data:=.seq its.toArray } } :=
   I1.laid (t':=s.toks) (fun b o e=>Heap.get?_push_of_some _ e) (Nat.le_refl _) (show ObjOk X.prog X.w _ _ _ (.tup ys) from ⟨hz,its,r',IsTup.new _ _⟩)
  exact ⟨.ref h'.objs.size,_,I2,rfl,q _ (I1.hok.fresh (Nat.le_refl _))⟩
 ·obtain ⟨its,r',pl,hz⟩:=I.tuple hq
  exact call_tuple_same pl ⟨.ref p,H,I,rfl,q⟩
def tyV (K:PySem.W.Frag) (T:String) (x:V) (H:Hp):Prop:=match x with
 | .str _=>T="str"
 | .int _=>T="int"
 | .ref p=>(T="list"∧∃ xs,SqL K H p xs)∨(T="tuple"∧∃ o,K.lookup p=some o∧o.cls=.type "tuple"∧o.dict=none) ∨
   (T="dict"∧((∃ kvs,H p=some (.dK kvs))∨∃ kvs,H p=some (.dT kvs)))∨(T="set"∧∃ S n,H p=some (.set S n))
 | _=>False
theorem tyV_is {pins:List (Addr × Obj)} {σ:St} {H:Hp} {s:Shared} {T:String} {x:V} {v:Value} (I:Inv X pins σ H s) (r:RelV x v) (ty:tyV X.K T x H) :
  s.TypeIs v T∧∀ a,v=.ref a→∃ ob,s.heap.get? a=some ob∧ob.dict=none:=by
 cases x with
 | str z =>
  obtain ⟨t,rfl⟩:=r
  cases (show T="str" from ty)
  exact ⟨typeIs_str s z t,fun _ e=>nomatch e⟩
 | int i =>
  obtain ⟨t,rfl⟩:=r
  cases (show T="int" from ty)
  exact ⟨typeIs_int s i t,fun _ e=>nomatch e⟩
 | ref p =>
  cases r
  rcases ty with ⟨rfl,xs,hq⟩ | ⟨rfl,o,hk,hc,hd⟩ | ⟨rfl,hk⟩ | ⟨rfl,S,n,hk⟩
  ·obtain ⟨its,_,pl,_⟩:=I.list hq
   refine ⟨pl.isList.typeIs,fun a e=>?_⟩
   cases e
   obtain ⟨o,n,e,c,hd,_⟩:=pl
   exact ⟨o,e,hd⟩
  ·refine ⟨⟨o,I.kIn p o hk,hc⟩,fun a e=>?_⟩
   cases e
   exact ⟨o,I.kIn _ o hk,hd⟩
  ·have z:∃ o,s.heap.get? p=some o∧o.ExactDict:=by
    rcases hk with ⟨kvs,hk⟩ | ⟨kvs,hk⟩
    ·obtain ⟨_,_,_,_,o,_,_,e,ex,_⟩:=I.hok p _ hk
     exact ⟨o,e,ex⟩
    ·obtain ⟨_,_,_,_,o,_,_,e,ex,_⟩:=I.hok p _ hk
     exact ⟨o,e,ex⟩
   obtain ⟨o,e,ex⟩:=z
   refine ⟨⟨o,e,ex.1⟩,fun a e2=>?_⟩
   cases e2
   exact ⟨o,e,ex.2.1⟩
  ·obtain ⟨o,_,_,_,e,ex,_⟩:=I.hok p _ hk
   refine ⟨⟨o,e,ex.1⟩,fun a e2=>?_⟩
   cases e2
   exact ⟨o,e,ex.2.1⟩
 | _=>exact False.elim ty
def tBM0 (K:PySem.W.Frag) (T:String) (r:V→List V→Hp→VK→Prop) (to:TE):TE:=fun σ H Q=>to σ H fun x H1=>tyV K T x H1∧r x [] H1 Q
def tBM (K:PySem.W.Frag) (T:String) (r:V→List V→Hp→VK→Prop) (to:TE) (t:TA):TE:=fun σ H Q=>to σ H fun x H1=>tyV K T x H1∧t σ H1 fun xs H2=>r x xs H2 Q
variable {o e:Expr} {es:List Expr} {to:TE} {t:TA} {name:Str} {apos cpos:Pos} {T id:String} {r:V→List V→Hp→VK→Prop}
theorem pe_bm0 (pa:PlainAttrs T) (slot:Slot T name id) (hty:typeOf (.builtin id)=pure (.type "method_descriptor")) (hm:MtR X id r) (ho:PE X o to)
  (hbase:attributeBase o name X.env (eval o X.env)=eval o X.env:=by rfl) (hline:(apos.endLine == cpos.line)=true:=by rfl):PE X (.Call (.Attribute o name apos) [] [] cpos) (tBM0 X.K T r to):=by
 intro pins s σ H Q I h
 refine wpAny_Call_method0_late hbase hline (thn (ho pins s σ H _ I h) fun v s1 ⟨x,H1,I1,r1,ty,q1⟩=>?_)
 obtain ⟨h1,h2⟩:=tyV_is I1 r1 ty
 exact ⟨T,id,pa,slot,hty,h1,h2,Calls.callWith_builtin rfl (PySem.evalArgs_none (hm pins s1 σ H1 x [] v [] Q I1 r1 .nil q1))⟩
theorem pe_bm (pa:PlainAttrs T) (slot:Slot T name id) (hty:typeOf (.builtin id)=pure (.type "method_descriptor")) (hm:MtR X id r) (ho:PE X o to) (ha:PA X (e::es) t)
  (hbase:attributeBase o name X.env (eval o X.env)=eval o X.env:=by rfl)
  (hfew:((backTo cpos (starEach (e::es) X.env)).all (fun x=>!x.1) && (backToKw cpos (keywordEach [] X.env)).all (fun x=>x.1.isSome)
   && decide ((e::es).length+([]:List Keyword).length+(if ([]:List Keyword).isEmpty then 0 else 1) < 30))=true:=by rfl)
  (hline:(apos.endLine == cpos.line)=true:=by rfl) (hs:starEach (e::es) X.env=(false,eval e X.env)::starEach es X.env:=by rfl) (hplain:(backTo cpos (starEach es X.env)).any (·.1)=false:=by rfl) :
  PE X (.Call (.Attribute o name apos) (e::es) [] cpos) (tBM X.K T r to t):=by
 intro pins s σ H Q I h
 refine wpAny_Call_method_late hbase hfew hline rfl (thn (ho pins s σ H _ I h) fun v s1 ⟨x,H1,I1,r1,ty,q1⟩=>?_)
 obtain ⟨h1,h2⟩:=tyV_is I1 r1 ty
 refine ⟨T,id,pa,slot,hty,h1,h2,?_⟩
 have hA:=ha cpos pins s1 σ H1 _ I1 q1
 rw [hs] at hA ⊢
 refine Calls.callWith_builtin (by show (false || (backTo cpos (starEach es X.env)).any (·.1))=false;rw [hplain] <;> rfl) (Calls.evalArgs_plain ?_)
 exact thn hA fun us s2 ⟨vs,H2,I2,r2,q2⟩=>hm pins s2 σ H2 x vs v us Q I2 r1 r2 q2
end
end L2
namespace L2
open PySem PySem.Spec PyProof.Rows
def MtM (X:Cx) (id:String) (r:V→List V→Hp→VK→Prop):Prop :=
 ∀ (pins:List (Addr × Obj)) (s:Shared) (σ:St) (H:Hp) (x:V) (xs:List V) (v:Value) (us:List Value) (Q:VK),Inv X pins σ H s→RelV x v→Vals xs us→r x xs H Q →
  wpAny (model X.prog X.w) X.A (call (.builtin id) (v::us)) (EP X pins σ Q) X.xe s
theorem Vals.one:∀ {x:V} {us:List Value},Vals [x] us→∃ u,us=[u]∧RelV x u
 | _,_,.cons r .nil=>⟨_,rfl,r⟩
theorem Vals.rep {xs:List V} {us:List Value} (h:Vals xs us):∀ k:Nat,Vals (List.replicate k xs).flatten (List.replicate k us).flatten
 | 0=>.nil
 | k+1=>by
  rw [List.replicate_succ,List.replicate_succ,List.flatten_cons,List.flatten_cons]
  exact Vals.append h (Vals.rep h k)
theorem foldl_rep (its:List Value):∀ (k:Nat) (acc:List Value),
  List.foldl (fun x1 x2=>x1++x2) acc.toArray (List.replicate k its.toArray)=(acc++(List.replicate k its).flatten).toArray
 | 0,acc=>by simp
 | k+1,acc=>by
  have e:acc.toArray++its.toArray=(acc++its).toArray:=by simp
  have e2:(acc++its)++(List.replicate k its).flatten=acc++(List.replicate (k+1) its).flatten:=by
   rw [List.replicate_succ,List.flatten_cons,List.append_assoc]
  rw [← e2,← foldl_rep its k (acc++its),← e,List.replicate_succ,List.foldl_cons]
section
variable {X:Cx} {pins:List (Addr × Obj)} {σ:St} {H:Hp} {s:Shared} {l b:Addr} {xs ys zs:List V}
theorem Inv.lset {its its':List Value} {n:Nat} {f:Array Value→Array Value} {t':Nat} (I:Inv X pins σ H s) (hH:H l=some (.lst xs))
  (e:s.heap.get? l=some { cls:=.type "list",data:=.seq its.toArray n }) (hf:f its.toArray=its'.toArray) (hv:Vals ys its') (hz:ys.length≤sizeLine) :
  Inv X pins σ (upd H l (.lst ys)) { s with heap:=s.heap.update l (Obj.mapSeq f),toks:=t' }:=by
 have q:=PySem.IsL.update e f
 rw [hf] at q
 refine I.write (x:=l) (e:=l) (by rw [hH];exact trivial) (.inl rfl) (fun b' u hb hu=>(Heap.get?_update_other s.heap (Obj.mapSeq f) (Ne.symm hb)).trans hu) ⟨_,q⟩ ?_
 exact ⟨hz,its',_,hv,q⟩
theorem Inv.lnew {its:List Value} {t':Nat} (I:Inv X pins σ H s) (hv:Vals ys its) (hz:ys.length≤sizeLine) :
  Inv X pins σ (upd H s.heap.objs.size (.lst ys)) { s with heap:=s.heap.push { cls:=.type "list",data:=.seq its.toArray },toks:=t' } :=
 I.laid (fun _ _ q=>Heap.get?_push_of_some _ q) (Nat.le_refl _) ⟨hz,its,0,hv,Heap.get?_push_size _ rfl⟩
theorem Inv.fresh (I:Inv X pins σ H s):H s.heap.objs.size=none:=I.hok.fresh (Nat.le_refl _)
theorem Inv.lstM (I:Inv X pins σ H s) (hH:H l=some (.lst xs)):xs.length≤sizeLine∧∃ (its:List Value) (n:Nat),Vals xs its∧xs.length=its.length∧s.heap.get? l=some { cls:=.type "list",data:=.seq its.toArray n }:=by
 obtain ⟨z,its,n,r,e⟩:=I.hok l _ hH
 exact ⟨z,its,n,r,r.length,e⟩
theorem notLongL {n:Nat} (h:n≤sizeLine):Builtin.List.listTooLong n=false:=by
 unfold Builtin.List.listTooLong
 exact decide_eq_false (by omega)
end
section
variable {X:Cx}
def rAppend:V→List V→Hp→VK→Prop:=fun x vs H Q=>∃ l xs y,x=.ref l∧vs=[y]∧H l=some (.lst xs)∧xs.length < sizeLine∧Q .non (upd H l (.lst (xs++[y])))
theorem mt_append:MtM X "list.append" rAppend:=by
 intro pins s σ H x vs v us Q I rx rv h
 obtain ⟨l,xs,y,rfl,rfl,hH,hz,q⟩:=h
 cases rx
 obtain ⟨u,rfl,ru⟩:=rv.one
 obtain ⟨z,its,n,r,hl,e⟩:=I.lstM hH
 refine call_meets F.slot_list_append ⟨_,e,rfl⟩ F.entry_list_append (F.args_list_append_2 _ _) (PySem.list_append l its.toArray n u (by rw [List.size_toArray];omega)) ⟨e,?_⟩
 refine ⟨.non,_,I.lset (its':=its++[u]) hH e (by simp) (r.append (.cons ru .nil)) ?_,rfl,q⟩
 rw [List.length_append,List.length_singleton]
 omega
def rExtend:V→List V→Hp→VK→Prop:=fun x vs H Q=>∃ l b xs zs,x=.ref l∧vs=[.ref b]∧H l=some (.lst xs)∧H b=some (.lst zs)∧xs.length+zs.length≤sizeLine∧Q .non (upd H l (.lst (xs++zs)))
theorem mt_extend:MtM X "list.extend" rExtend:=by
 intro pins s σ H x vs v us Q I rx rv h
 obtain ⟨l,b,xs,zs,rfl,rfl,hH,hB,hz,q⟩:=h
 cases rx
 obtain ⟨u,rfl,ru⟩:=rv.one
 cases ru
 obtain ⟨z,its,n,r,hl,e⟩:=I.lstM hH
 obtain ⟨z2,its2,n2,r2,hl2,e2⟩:=I.lstM hB
 have hsz:its.toArray.size+its2.toArray.size≤sizeLine:=by rw [List.size_toArray,List.size_toArray];omega
 have hlong:¬ (!its.toArray.isEmpty && Builtin.List.listTooLong (its.toArray.size+its2.toArray.size))=true:=by
  rw [notLongL hsz,Bool.and_false]
  exact Bool.false_ne_true
 refine call_meets F.slot_list_extend ⟨_,e,rfl⟩ F.entry_list_extend (F.args_list_extend_2 _ _)
  (AutoSeq1.list_extend_list_list_0 l its.toArray n b its2.toArray n2 hlong (by rw [List.size_toArray];omega) (by omega)) ⟨e,e2,?_⟩
 refine ⟨.non,_,I.lset (its':=its++its2) hH e (by simp) (r.append r2) ?_,rfl,q⟩
 rw [List.length_append]
 omega
def rCat:R2:=fun x y H Q=>∃ l b xs zs,x=.ref l∧y=.ref b∧H l=some (.lst xs)∧H b=some (.lst zs)∧xs.length+zs.length≤sizeLine∧∀ p,H p=none→Q (.ref p) (upd H p (.lst (xs++zs)))
theorem op_cat:OpR X (binaryOp .Add) rCat:=by
 intro pins s σ H x y v u Q I rx ry h
 obtain ⟨l,b,xs,zs,rfl,rfl,hH,hB,hz,q⟩:=h
 cases rx
 cases ry
 obtain ⟨z,its,n,r,hl,e⟩:=I.lstM hH
 obtain ⟨z2,its2,n2,r2,hl2,e2⟩:=I.lstM hB
 refine PySem.P.add_list e e2 ?_ (by rw [List.size_toArray,List.size_toArray];omega)
 have ea:its.toArray++its2.toArray=(its++its2).toArray:=by simp
 rw [ea]
 exact ⟨.ref _,_,I.lnew (t':=s.toks) (r.append r2) (by rw [List.length_append];omega),rfl,q _ I.fresh⟩
def rRep:R2:=fun x y H Q=>∃ l k xs,x=.ref l∧y=.int k∧H l=some (.lst xs)∧-(2 ^ 63)≤k∧k < 2 ^ 63∧xs.length*k.toNat≤sizeLine ∧
 ∀ p,H p=none→Q (.ref p) (upd H p (.lst (List.replicate k.toNat xs).flatten))
theorem len_rep {α:Type} (xs:List α) (k:Nat):(List.replicate k xs).flatten.length=k*xs.length:=by
 induction k with
 | zero=>simp
 | succ k ih=>rw [List.replicate_succ,List.flatten_cons,List.length_append,ih,Nat.succ_mul,Nat.add_comm]
theorem op_rep:OpR X (binaryOp .Mult) rRep:=by
 intro pins s σ H x y v u Q I rx ry h
 obtain ⟨l,k,xs,rfl,rfl,hH,h1,h2,hz,q⟩:=h
 cases rx
 obtain ⟨t,rfl⟩:=ry
 obtain ⟨z,its,n,r,hl,e⟩:=I.lstM hH
 have hlen:its.toArray.size*k.toNat≤sizeLine:=by rw [List.size_toArray,← hl];exact hz
 have hcap:¬ its.toArray.size*k.toNat > (2 ^ 63 - 1) / 8:=by
  have:(sizeLine:Nat)≤(2 ^ 63 - 1) / 8:=by decide
  omega
 have hfit:¬ (!Builtin.List.listFitsIndex k)=true:=by
  rw [fitsIndex_both h1 h2]
  exact Bool.false_ne_true
 have hlong:¬ Builtin.List.listTooLong (its.toArray.size*k.toNat)=true:=by
  rw [notLongL hlen]
  exact Bool.false_ne_true
 have hnew:List.foldl (fun x1 x2=>x1++x2) #[] (List.replicate (if its.toArray.isEmpty=true then 0 else k.toNat) its.toArray)=(List.replicate k.toNat its).flatten.toArray:=by
  have f0:∀ m:Nat,List.foldl (fun x1 x2=>x1++x2) #[] (List.replicate m its.toArray)=(List.replicate m its).flatten.toArray:=fun m=>by
   have:=foldl_rep its m []
   rw [List.nil_append] at this
   exact this
  rw [f0]
  cases its with
  | nil=>simp
  | cons a r'=>rw [if_neg (by simp)]
 refine wpAny_binaryOp_repeat_ref (T:="list") (U:="int") (by decide) ⟨_,e,rfl⟩ (fun s'=>typeIs_int s' k t) noFill_list_mul F.fills_int_mul F.slot_int_rmul repeat_list F.slot_int_index.lookup
  (call_meets F.slot_int_rmul (typeIs_int s k t) F.entry_int_rmul (F.args_int_rmul_2 _ _) (int___rmul___int_list k t l its.toArray n)
   ⟨e,rfl,⟨_,e,rfl⟩,call_meets F.slot_list_mul ⟨_,e,rfl⟩ F.entry_list_mul (F.args_list_mul_2 _ _) (AutoListH.list___mul___list_int_3 l its.toArray n k t hfit hcap hlong) ⟨e,?_⟩⟩)
 rw [hnew]
 exact ⟨.ref _,_,I.lnew (t':=s.toks) (r.rep k.toNat) (by rw [len_rep,Nat.mul_comm];exact hz),rfl,q _ I.fresh⟩
end
end L2
namespace L2
open PySem PySem.Spec PyProof.Rows
theorem Vals.ints:∀ {ns:List Int} {us:List Value},Vals (ns.map V.int) us→IntsAre us ns
 | [],us,h=>by
  rw [List.map_nil] at h
  cases h
  exact IntsAre.nil
 | n::ns,us,h=>by
  rw [List.map_cons] at h
  cases h with
  | cons r t =>
   obtain ⟨k,rfl⟩:=r
   exact IntsAre.cons n k (Vals.ints t)
theorem vals_of_ints:∀ {us:List Value} {ns:List Int},IntsAre us ns→Vals (ns.map V.int) us
 | _,_,.nil=>by rw [List.map_nil];exact Paired.nil
 | _,_,.cons n t h=>by rw [List.map_cons];exact Paired.cons (show RelV (V.int n) (Value.int n t) from ⟨t,rfl⟩) (vals_of_ints h)
theorem Vals.bls:∀ {bs:List Bool} {us:List Value},Vals (bs.map V.bl) us→us=bs.map Value.bool
 | [],us,h=>by
  rw [List.map_nil] at h
  cases h
  rfl
 | b::bs,us,h=>by
  rw [List.map_cons] at h
  cases h with
  | cons r t =>
   cases r
   rw [Vals.bls t,List.map_cons]
theorem Vals.ref1 {a:Addr} {us:List Value} (r:Vals [V.ref a] us):us=[Value.ref a]:=by
 cases r with
 | cons r t =>
  cases t
  cases r
  rfl
section
variable {prog:Program} {w:World} {A:Around} {E:Value→Shared→Prop} {s:Shared} {l:Addr} {its:List Value} {ns:List Int} {Q:Value→Shared→Prop}
theorem sum_raw (hh:A.handled=none) (hl:s.heap.IsList l its.toArray) (hi:IntsAre its ns)
  (h:∀ h' tk t',(∀ b o,s.heap.get? b=some o→h'.get? b=some o)→Q (.int ns.sum t') { s with heap:=h',toks:=tk }):wpAny (model prog w) A (call (.builtin "sum") [.ref l]) Q E s:=by
 obtain ⟨xs,e⟩:=hi.allInts.items
 have hn:numsOf (intItems xs).toList=ns:=by rw [← e];exact hi.numsOf
 rw [nums_intItems] at hn
 rw [e] at hl
 refine PySem.sum_intListG hh hl fun h' tk t' hk=>?_
 have:=h h' tk t' hk
 rw [preSum_eq,List.take_of_length_le (by simp),hn];exact this
end
section
variable {X:Cx}
def rSum (K:PySem.W.Frag):List V→Hp→VK→Prop:=fun vs H Q=>∃ (a:Addr) (ns:List Int),vs=[V.ref a]∧SqL K H a (ns.map V.int)∧Q (.int ns.sum) H
theorem cr_sum (hc:X.calm=true):CallR X (.builtin "sum") (rSum X.K):=by
 intro pins s σ H vs us Q I r h
 obtain ⟨a,ns,rfl,hs,q⟩:=h
 obtain ⟨its,rv,hl,_⟩:=I.list hs
 rw [Vals.ref1 r]
 exact sum_raw (I.ok.hd hc) hl.isList rv.ints fun h' tk t' hk=>⟨.int _,H,I.kept hk,⟨_,rfl⟩,q⟩
end
theorem iter_any {prog:Program} {w:World} {A:Around} {E:Value→Shared→Prop} {s:Shared} {l:Addr} {items:Array Value} {Q:Value→Shared→Prop} (hl:s.heap.IsList l items)
  (h:∀ s₂:Shared,s₂={ s with heap:=s.heap.push { cls:=.type "list_iterator",data:=.fields #[.ref l,.int 0 0] } } →
   (s₂.heap.IsListIter s.heap.objs.size l 0∧s₂.heap.IsList l items)→l≠s.heap.objs.size→Q (.ref s.heap.objs.size) s₂):wpAny (model prog w) A (pyIter (.ref l)) Q E s:=by
 have hlt:l < s.heap.objs.size:=by obtain ⟨_,e,_⟩:=hl;exact Heap.lt_size e
 exact wpAny_pyIter_list hl (h _ rfl ⟨⟨_,Heap.get?_push_size _ rfl,rfl,rfl⟩,hl.push _⟩ (Nat.ne_of_lt hlt))
theorem truth_bools {prog:Program} {w:World} {A:Around} {bs:List Bool} {its:List Value} (e:its=bs.map Value.bool) :
  TruthOf prog w A (fun i v=>its.toArray[i]?=some v) (fun i=>bs.getD i false):=fun i v s Q E hv hq=>by
 have hv':its[i]?=some v:=by simpa using hv
 rw [e,List.getElem?_map] at hv'
 obtain ⟨b,hb,rfl⟩:=Option.map_eq_some_iff.mp hv'
 have hg:bs.getD i false=b:=by rw [List.getD_eq_getElem?_getD,hb] <;> rfl
 have hq':Q (bs.getD i false) s:=hq
 rw [hg] at hq'
 exact wpAny_truthy_bool hq'
theorem all_range:∀ bs:List Bool,(List.range bs.length).all (fun i=>bs.getD i false)=bs.all id
 | []=>rfl
 | b::bs=>by
  rw [List.length_cons,List.range_succ_eq_map,List.all_cons,List.all_map,List.all_cons,← all_range bs]
  all_goals rfl
section
variable {X:Cx}
def rAll (K:PySem.W.Frag):List V→Hp→VK→Prop:=fun vs H Q=>∃ (a:Addr) (bs:List Bool),vs=[V.ref a]∧SqL K H a (bs.map V.bl)∧Q (.bl (bs.all id)) H
theorem cr_all (hc:X.calm=true):CallR X (.builtin "all") (rAll X.K):=by
 intro pins s σ H vs us Q I r h
 obtain ⟨a,bs,rfl,hs,q⟩:=h
 obtain ⟨its,rv,hl,_⟩:=I.list hs
 rw [Vals.ref1 r]
 have hb:=rv.bls
 refine call_all_walk (iter_any hl.isList fun s₂ e2 st hne=>?_)
 subst e2
 refine ⟨_,_,_,_,_,_,_,rfl,Walks.list (A:=X.A.in1) (I.ok.hd hc) _ a hne its.toArray,st,truth_bools hb,fun h' tk hk=>?_⟩
 refine ⟨.bl _,H,I.kept fun b o eo=>hk b o (fun hmem=>?_) (Heap.get?_push_of_some _ eo),?_,q⟩
 ·rcases List.mem_cons.mp hmem with e1 | hmem
  ·exact absurd (e1 ▸ Heap.lt_size eo) (Nat.lt_irrefl _)
  ·cases hmem
 ·show Value.bool _=Value.bool _
  rw [← all_range,hb,List.size_toArray,List.length_map]
end
mutual
inductive Dp (K:PySem.W.Frag) (H:Hp):V→PyData→Prop
 | non:Dp K H .non .none
 | bl (b:Bool):Dp K H (.bl b) (.bool b)
 | int (i:Int):Dp K H (.int i) (.int i)
 | str (x:Str):Dp K H (.str x) (.str x)
 | lst {a:Addr} {xs:List V} {ds:List PyData}:SqL K H a xs→DpAll K H xs ds→Dp K H (.ref a) (.list ds)
 | tup {a:Addr} {xs:List V} {ds:List PyData}:SqT K H a xs→DpAll K H xs ds→Dp K H (.ref a) (.tuple ds)
inductive DpAll (K:PySem.W.Frag) (H:Hp):List V→List PyData→Prop
 | nil:DpAll K H [] []
 | cons {v:V} {vs:List V} {d:PyData} {ds:List PyData}:Dp K H v d→DpAll K H vs ds→DpAll K H (v::vs) (d::ds)
end
section
variable {X:Cx} {pins:List (Addr × Obj)} {σ:St} {H:Hp} {s:Shared}
mutual
theorem Dp.reads (I:Inv X pins σ H s):∀ (d:PyData) (v:V) (u:Value),Dp X.K H v d→RelV v u→∃ as,Reads s.heap u d as
 | .none,_,_,h,r=>by
  cases h
  cases r
  exact ⟨_,Reads.none⟩
 | .bool b,_,_,h,r=>by
  cases h
  cases r
  exact ⟨_,Reads.bool b⟩
 | .int i,_,_,h,r=>by
  cases h
  obtain ⟨t,rfl⟩:=r
  exact ⟨_,Reads.int i t⟩
 | .str x,_,_,h,r=>by
  cases h
  obtain ⟨t,rfl⟩:=r
  exact ⟨_,Reads.str x t⟩
 | .list ds,_,_,h,r=>by
  cases h with
  | lst hs ha =>
   cases r
   obtain ⟨its,rv,⟨o,n,ho,hc,_,hd⟩,_⟩:=I.list hs
   obtain ⟨as,hr⟩:=Dp.readsAll I ds _ its ha rv
   exact ⟨_,Reads.list ho hc hd hr⟩
 | .tuple ds,_,_,h,r=>by
  cases h with
  | tup hs ha =>
   cases r
   obtain ⟨its,rv,⟨o,ho,hc,n,hd⟩,_⟩:=I.tuple hs
   obtain ⟨as,hr⟩:=Dp.readsAll I ds _ its ha rv
   exact ⟨_,Reads.tuple ho hc hd hr⟩
 | .dict _,_,_,h,_=>by cases h
theorem Dp.readsAll (I:Inv X pins σ H s):∀ (ds:List PyData) (vs:List V) (us:List Value),DpAll X.K H vs ds→Vals vs us→∃ as,ReadsAll s.heap us ds as
 | [],_,_,h,r=>by
  cases h
  cases r
  exact ⟨_,ReadsAll.nil⟩
 | d::ds,_,_,h,r=>by
  cases h with
  | cons h1 h2 =>
   cases r with
   | cons r1 r2 =>
    obtain ⟨as,q1⟩:=Dp.reads I d _ _ h1 r1
    obtain ⟨bs,q2⟩:=Dp.readsAll I ds _ _ h2 r2
    exact ⟨_,ReadsAll.cons q1 q2⟩
end
end
section
variable {X:Cx}
def rEqD (K:PySem.W.Frag):R2:=fun x y H Q=>∃ d e,Dp K H x d∧Dp K H y e∧SeqAt.shaped d=true∧SeqAt.shaped e=true∧Q (.bl (PyData.eqv d e)) H
theorem op_eqD (hu:X.A.units+64 < cLine):OpR X (compareOp .Eq) (rEqD X.K):=by
 intro pins s σ H x y v u Q I rx ry h
 obtain ⟨d,e,hd,he,sd,se,q⟩:=h
 obtain ⟨as,r1⟩:=Dp.reads I d x v hd rx
 obtain ⟨bs,r2⟩:=Dp.reads I e y u he ry
 exact SeqAt.compareEq_shaped r1 r2 sd se hu ⟨.bl _,H,I,rfl,q⟩
end
end L2
namespace L2
open PySem PySem.Spec PyProof.Rows
abbrev CellAt (h:Heap) (c:Addr) (v:Option Value):Prop:=h.IsCell c v
def relS (scope sc:Scope):Scope :=
 { scope with names:=scope.names.map fun (n,k)=>if (k == .free && sc.kind == .function && sc.names.lookup n == some .cell) then (n,.cell) else (n,k) }
def cloFrom (cells:List (Str × Addr)):List (Str × NameKind)→List (Str × Addr)→List (Str × Addr)
 | [],acc=>acc
 | (n,k)::r,acc=>if k == .free then cloFrom cells r ((n,(cells.lookup n).getD 0)::acc) else cloFrom cells r acc
theorem closure_loop (env:Env) (f:Str × NameKind→List (Str × Addr)→Sem (ForInStep (List (Str × Addr))))
  (hf:∀ n k c,f (n,k) c=if k == .free then (do let a ← cellOf env n;pure (.yield ((n,a)::c))) else pure (.yield c)) :
  ∀ (names:List (Str × NameKind)) (acc:List (Str × Addr)),(∀ y∈names,y.2=.free→∃ c,env.cells.lookup y.1=some c)→forIn names acc f=pure (cloFrom env.cells names acc)
 | [],acc,_=>by rw [List.forIn_nil];rfl
 | (n,k)::r,acc,h=>by
  rw [List.forIn_cons,hf]
  have ih:=fun acc=>closure_loop env f hf r acc fun y hy=>h y (List.mem_cons_of_mem _ hy)
  unfold cloFrom
  by_cases hk:(k == NameKind.free)=true
  ·rw [if_pos hk,if_pos hk]
   obtain ⟨c,hc⟩:=h (n,k) List.mem_cons_self (by simpa using hk)
   have e:cellOf env n=pure c:=by unfold cellOf;rw [hc]
   rw [e]
   have e2:(env.cells.lookup n).getD 0=c:=by rw [hc];rfl
   rw [e2]
   exact ih _
  ·rw [if_neg hk,if_neg hk]
   exact ih _
theorem closure_ok {scope:Scope} {env:Env} (h:∀ y∈scope.names,y.2=.free→∃ c,env.cells.lookup y.1=some c):closureFor scope env=pure (cloFrom env.cells scope.names []):=by
 simp only [closureFor]
 rw [closure_loop env _ (fun n k c=>rfl) scope.names [] h]
 rfl
theorem mem_lookup {α:Type}:∀ {l:List (Str × α)} {n:Str} {c:α},(n,c)∈l→∃ c',l.lookup n=some c'
 | (k,v)::r,n,c,h=>by
  rw [List.lookup_cons]
  cases hb:n == k with
  | true=>exact ⟨_,rfl⟩
  | false =>
   rcases List.mem_cons.mp h with e | h
   ·cases e;simp at hb
   ·exact mem_lookup h
theorem cloFrom_mem {cells:List (Str × Addr)}:∀ {names:List (Str × NameKind)} {acc:List (Str × Addr)} {n:Str} {c:Addr},(n,c)∈cloFrom cells names acc→(n,c)∈acc∨((n,.free)∈names∧c=(cells.lookup n).getD 0)
 | [],_,_,_,h=>.inl h
 | (m,k)::r,acc,n,c,h=>by
  unfold cloFrom at h
  split at h
  ·rename_i hk
   have hk:k=.free:=by simpa using hk
   rcases cloFrom_mem h with h | ⟨h1,h2⟩
   ·rcases List.mem_cons.mp h with e | h
    ·cases e;exact .inr ⟨hk ▸ List.mem_cons_self,rfl⟩
    ·exact .inl h
   ·exact .inr ⟨List.mem_cons_of_mem _ h1,h2⟩
  ·rcases cloFrom_mem h with h | ⟨h1,h2⟩
   ·exact .inl h
   ·exact .inr ⟨List.mem_cons_of_mem _ h1,h2⟩
theorem cloFrom_acc {cells:List (Str × Addr)}:∀ {names:List (Str × NameKind)} {acc:List (Str × Addr)} {p:Str × Addr},p∈acc→p∈cloFrom cells names acc
 | [],_,_,h=>h
 | (m,k)::r,acc,p,h=>by
  unfold cloFrom
  split
  ·exact cloFrom_acc (List.mem_cons_of_mem _ h)
  ·exact cloFrom_acc h
theorem cloFrom_has {cells:List (Str × Addr)}:∀ {names:List (Str × NameKind)} {acc:List (Str × Addr)} {n:Str},(n,.free)∈names→(n,(cells.lookup n).getD 0)∈cloFrom cells names acc
 | (m,k)::r,acc,n,h=>by
  unfold cloFrom
  rcases List.mem_cons.mp h with e | h
  ·cases e
   exact cloFrom_acc List.mem_cons_self
  ·split
   ·exact cloFrom_has h
   ·exact cloFrom_has h
theorem cells_mem:∀ {names:List (Str × NameKind)} {h:Heap} {acc:List (Str × Addr)} {x:Str} {c:Addr},(x,c)∈cellsFrom h.objs.size names acc →
  (x,c)∈acc∨((x,.cell)∈names∧h.objs.size≤c∧CellAt (pushCells h names) c none)
 | [],_,_,_,_,h=>.inl h
 | (n,k)::r,h,acc,x,c,hm=>by
  unfold cellsFrom at hm
  unfold pushCells
  split at hm
  ·rename_i hk
   rw [if_pos hk]
   have hk:k=.cell:=by simpa using hk
   rw [← Heap.size_push h { cls:=.type "cell",data:=.cell none }] at hm
   rcases cells_mem hm with hm | ⟨h1,h2,h3⟩
   ·rcases List.mem_cons.mp hm with e | hm
    ·cases e
     exact .inr ⟨hk ▸ List.mem_cons_self,Nat.le_refl _,_,pushCells_keeps r _ _ _ (Heap.get?_push_size _ rfl),rfl⟩
    ·exact .inl hm
   ·rw [Heap.size_push] at h2
    exact .inr ⟨List.mem_cons_of_mem _ h1,Nat.le_of_succ_le h2,h3⟩
  ·rename_i hk
   rw [if_neg hk]
   rcases cells_mem hm with hm | ⟨h1,h2,h3⟩
   ·exact .inl hm
   ·exact .inr ⟨List.mem_cons_of_mem _ h1,h2,h3⟩
theorem cells_acc:∀ {names:List (Str × NameKind)} {n:Nat} {acc:List (Str × Addr)} {p:Str × Addr},p∈acc→p∈cellsFrom n names acc
 | [],_,_,_,h=>h
 | (m,k)::r,n,acc,p,h=>by
  unfold cellsFrom
  split
  ·exact cells_acc (List.mem_cons_of_mem _ h)
  ·exact cells_acc h
theorem cells_has:∀ {names:List (Str × NameKind)} {n:Nat} {acc:List (Str × Addr)} {x:Str},(x,.cell)∈names→∃ c,(x,c)∈cellsFrom n names acc
 | (m,k)::r,n,acc,x,h=>by
  unfold cellsFrom
  rcases List.mem_cons.mp h with e | h
  ·cases e
   exact ⟨n,cells_acc List.mem_cons_self⟩
  ·split
   ·exact cells_has h
   ·exact cells_has h
theorem cells_inj:∀ {names:List (Str × NameKind)} {h:Heap} {acc:List (Str × Addr)} {x y:Str} {c:Addr},(∀ p∈acc,p.2 < h.objs.size)→(∀ x y c,(x,c)∈acc→(y,c)∈acc→x=y) →
  (x,c)∈cellsFrom h.objs.size names acc→(y,c)∈cellsFrom h.objs.size names acc→x=y
 | [],_,_,_,_,_,_,hi,h1,h2=>hi _ _ _ h1 h2
 | (n,k)::r,h,acc,x,y,c,hl,hi,h1,h2=>by
  unfold cellsFrom at h1 h2
  split at h1
  ·rename_i hk
   rw [if_pos hk] at h2
   rw [← Heap.size_push h { cls:=.type "cell",data:=.cell none }] at h1 h2
   refine cells_inj (h:=h.push _) (fun p hp=>?_) (fun x y c a b=>?_) h1 h2
   ·rw [Heap.size_push]
    rcases List.mem_cons.mp hp with rfl | hp
    ·exact Nat.lt_succ_self _
    ·exact Nat.lt_succ_of_lt (hl p hp)
   ·rcases List.mem_cons.mp a with e | a <;> rcases List.mem_cons.mp b with e' | b
    ·cases e;cases e';rfl
    ·cases e;exact absurd (hl _ b) (Nat.lt_irrefl _)
    ·cases e';exact absurd (hl _ a) (Nat.lt_irrefl _)
    ·exact hi _ _ _ a b
  ·rename_i hk
   rw [if_neg hk] at h2
   exact cells_inj hl hi h1 h2
theorem newEnv_comp {M:Model} {A:Around} {E:Value→Shared→Prop} {s:Shared} {scope:Scope} {globals:Addr} {closure:List (Str × Addr)} {qual:Str} {func:Option Addr} {code:Value} {around:Env} {builtins:Addr} {Q:Env→Shared→Prop}
  (h:Q (newEnv scope s.heap.objs.size globals (cellsFrom (s.heap.objs.size+1) scope.names closure) qual func code (some around) builtins)
   { s with heap:=pushCells (s.heap.push { cls:=.type "dict",data:=.dict #[] }) scope.names }) :
  wpAny M A (newFunctionEnv scope globals closure [] qual func code (some around) builtins) Q E s:=by
 simp only [newFunctionEnv,Option.isSome_some,if_true]
 refine wpAny_bind (wpAny_alloc ?_)
 refine wpAny_bind (wpAny_layCells _ (fun n k c=>rfl) scope.names closure _ _ ?_)
 rw [show ({ s with heap:=s.heap.push { cls:=.type "dict",data:=.dict #[] } }:Shared).heap.objs.size=s.heap.objs.size+1 from Heap.size_push ..]
 rw [List.forIn_nil]
 exact wpAny_bind (wpAny_pure (wpAny_pure h))
theorem lookup_relS {sc:Scope}:∀ {names:List (Str × NameKind)} {x:Str} {k:NameKind},
  (names.map fun (n,k)=>if (k == NameKind.free && sc.kind == .function && sc.names.lookup n == some .cell) then (n,NameKind.cell) else (n,k)).lookup x=some k →
  ∃ k',names.lookup x=some k'∧(k=k'∨(k'=.free∧k=.cell))
 | [],_,_,h=>by simp at h
 | (n,k₀)::r,x,k,h=>by
  have ih:=@lookup_relS sc r x k
  have h':List.lookup x ((if (k₀ == NameKind.free && sc.kind == .function && sc.names.lookup n == some .cell)=true then (n,NameKind.cell) else (n,k₀))::(r.map _))=some k:=h
  cases hx:x == n with
  | true =>
   simp only [List.lookup_cons,hx]
   by_cases hc:(k₀ == NameKind.free && sc.kind == .function && sc.names.lookup n == some .cell)=true
   ·rw [if_pos hc] at h'
    simp only [List.lookup_cons,hx] at h'
    cases h'
    simp only [Bool.and_eq_true,beq_iff_eq] at hc
    exact ⟨k₀,rfl,.inr ⟨hc.1.1,rfl⟩⟩
   ·rw [if_neg hc] at h'
    simp only [List.lookup_cons,hx] at h'
    cases h'
    exact ⟨_,rfl,.inl rfl⟩
  | false =>
   simp only [List.lookup_cons,hx]
   by_cases hc:(k₀ == NameKind.free && sc.kind == .function && sc.names.lookup n == some .cell)=true
   ·rw [if_pos hc] at h'
    simp only [List.lookup_cons,hx] at h'
    exact ih h'
   ·rw [if_neg hc] at h'
    simp only [List.lookup_cons,hx] at h'
    exact ih h'
structure BlkOk (N:List Str) (sc scope:Scope) (own:List (Str × Nat)):Prop where
 kind:scope.kind=.function
 uniq:∀ y∈scope.names,scope.names.lookup y.1=some y.2
 ix:∀ p∈own,N[p.2]?=some p.1
 free:∀ y∈scope.names,y.2=.free→sc.names.lookup y.1=some .cell∨sc.names.lookup y.1=some .free
 own:∀ y∈scope.names,y.2=.local∨y.2=.cell→y.1∈own.map (·.1)∨y.1 ∉ N
def wipe (σ:St):List Nat→St
 | []=>σ
 | v::vs=>(wipe σ vs).set v none
theorem wipe_length (σ:St):∀ vs:List Nat,(wipe σ vs).length=σ.length
 | []=>rfl
 | v::vs=>by unfold wipe;rw [List.length_set,wipe_length σ vs]
theorem wipe_some {σ:St} {i:Nat} {x:V}:∀ {vs:List Nat},(wipe σ vs)[i]?=some (some x)→σ[i]?=some (some x)∧i ∉ vs
 | [],h=>⟨h,by simp⟩
 | v::vs,h=>by
  unfold wipe at h
  by_cases hi:v=i
  ·subst hi
   by_cases hv:v < (wipe σ vs).length
   ·rw [List.getElem?_set_self hv] at h;cases h
   ·rw [List.getElem?_eq_none (by simpa using hv)] at h;cases h
  ·rw [List.getElem?_set_ne hi] at h
   obtain ⟨h1,h2⟩:=wipe_some h
   exact ⟨h1,by simp only [List.mem_cons,not_or];exact ⟨fun e=>hi e.symm,h2⟩⟩
abbrev Cx.blk (X:Cx) (s:Shared) (H:Hp) (scope:Scope) (cenv:Env) (fp:List Addr):Cx:={ X with s_0:=s,H_0:=H,env:=cenv,outer:=X.stack,ex:=fp,fn:=fun x=>scope.names.lookup x == some .cell,pn:=[],xe:=fun _ _=>False }
section
variable {X:Cx} {pins:List (Addr × Obj)} {σ:St} {H:Hp} {s:Shared}
theorem block_start {scope:Scope} {own:List (Str × Nat)} {fp:List Addr} (I:Inv X pins σ H s) (ok:BlkOk X.N X.env.scope scope own) (hN:X.N.Nodup) (hfp:∀ b∈fp,FpOk X pins H b∧b < s.heap.objs.size) :
  Inv (X.blk s H scope (compEnvC scope (cellsFrom (s.heap.objs.size+1) scope.names (cloFrom X.env.cells scope.names [])) s.heap.objs.size X.env) fp) [] (wipe σ (own.map (·.2))) H { s with heap:=pushCells (s.heap.push { cls:=.type "dict",data:=.dict #[] }) scope.names }:=by
 have hfree:∀ y∈scope.names,y.2=.free→∃ c,X.env.cells.lookup y.1=some c:=fun y hy e=>by
  rcases ok.free y hy e with k | k
  ·exact I.ok.has _ (.inl k)
  ·exact I.ok.has _ (.inr k)
 generalize hcenv:compEnvC scope (cellsFrom (s.heap.objs.size+1) scope.names (cloFrom X.env.cells scope.names [])) s.heap.objs.size X.env=cenv
 have kp:∀ b o,s.heap.get? b=some o→(pushCells (s.heap.push { cls:=.type "dict",data:=.dict #[] }) scope.names).get? b=some o:=fun b o e=>pushCells_keeps _ _ _ _ (Heap.get?_push_of_some _ e)
 have hL:cenv.locals=s.heap.objs.size:=by rw [← hcenv];rfl
 have hcl:cenv.cells=cellsFrom (s.heap.objs.size+1) scope.names (cloFrom X.env.cells scope.names []):=by rw [← hcenv];rfl
 have hsc:cenv.scope=relS scope X.env.scope:=by rw [← hcenv];rfl
 rw [← Heap.size_push s.heap { cls:=.type "dict",data:=.dict #[] }] at hcl
 have cm:∀ {y c},(y,c)∈cloFrom X.env.cells scope.names []→X.env.cells.lookup y=some c∧c < s.heap.objs.size:=fun {y c} hm=>by
  rcases cloFrom_mem hm with hm | ⟨h1,rfl⟩
  ·cases hm
  ·obtain ⟨c,hc⟩:=hfree _ h1 rfl
   rw [hc]
   obtain ⟨w,z⟩:=I.cell _ _ hc
   exact ⟨rfl,z.lt⟩
 have mem:∀ {y c},cenv.cells.lookup y=some c→(X.env.cells.lookup y=some c∧c < s.heap.objs.size)∨(s.heap.objs.size+1≤c∧CellAt (pushCells (s.heap.push { cls:=.type "dict",data:=.dict #[] }) scope.names) c none):=fun {y c} e=>by
  rw [hcl] at e
  rcases cells_mem (PySem.mem_of_lookup e) with hm | ⟨_,h2,h3⟩
  ·exact .inl (cm hm)
  ·rw [Heap.size_push] at h2;exact .inr ⟨h2,h3⟩
 have look:∀ {y},scope.names.lookup y=some .free→∃ c,cenv.cells.lookup y=some c∧X.env.cells.lookup y=some c:=fun {y} hl=>by
  have hy:(y,NameKind.free)∈scope.names:=PySem.mem_of_lookup hl
  obtain ⟨c',e'⟩:=mem_lookup (cells_acc (names:=scope.names) (n:=(s.heap.push { cls:=.type "dict",data:=.dict #[] }).objs.size) (cloFrom_has (cells:=X.env.cells) (acc:=[]) hy))
  rw [← hcl] at e'
  refine ⟨c',e',?_⟩
  rw [hcl] at e'
  rcases cells_mem (PySem.mem_of_lookup e') with hm | ⟨h1,_,_⟩
  ·exact (cm hm).1
  ·have:=ok.uniq _ h1
   rw [hl] at this;cases this
 have okB:(X.blk s H scope cenv fp).Ok:=by
  refine ⟨I.ok.mod,by show cenv.scope.kind=_;rw [hsc];exact ok.kind,by show cenv.globals=_;rw [← hcenv];exact I.ok.glob,by show cenv.builtins=_;rw [← hcenv];exact I.ok.blt,by show s.heap.objs.size≤cenv.locals;rw [hL];exact Nat.le_refl _,
   fun y z c e1 e2=>?_,fun y hy=>?_,fun y c z e=>?_,I.ok.hd,I.ok.frames,.inl rfl,fun b hb=>⟨?_,fun y c e z=>?_⟩,I.bs,Nat.le_trans I.ok.bsz I.sz,fun b o e hb=>?_,fun b hb z=>?_,I.stack,I.stkFree⟩
  ·have e1:cenv.cells.lookup y=some c:=e1
   have e2:cenv.cells.lookup z=some c:=e2
   rw [hcl] at e1 e2
   refine cells_inj (fun p hp=>?_) (fun y z c a b=>I.ok.inj y z c (cm a).1 (cm b).1) (PySem.mem_of_lookup e1) (PySem.mem_of_lookup e2)
   rw [Heap.size_push]
   exact Nat.lt_succ_of_lt (cm (y:=p.1) (c:=p.2) hp).2
  ·show ∃ c,cenv.cells.lookup y=some c
   have key:∀ k,cenv.kindOf y=some k→(k=.cell∨k=.free)→∃ c,cenv.cells.lookup y=some c:=fun k hk hk'=>by
    unfold Env.kindOf at hk
    rw [hsc] at hk
    obtain ⟨k',e,r⟩:=lookup_relS hk
    have:k'=.cell∨k'=.free:=by
     rcases r with rfl | ⟨rfl,_⟩
     ·exact hk'
     ·exact .inr rfl
    rcases this with rfl | rfl
    ·obtain ⟨c,hm⟩:=cells_has (n:=(s.heap.push { cls:=.type "dict",data:=.dict #[] }).objs.size) (acc:=cloFrom X.env.cells scope.names []) (PySem.mem_of_lookup e)
     obtain ⟨c',e'⟩:=mem_lookup hm
     exact ⟨c',by rw [hcl];exact e'⟩
    ·obtain ⟨c,h1,_⟩:=look e
     exact ⟨c,h1⟩
   rcases hy with hy | hy
   ·exact key _ hy (.inl rfl)
   ·exact key _ hy (.inr rfl)
  ·have z:(scope.names.lookup y == some NameKind.cell)=true:=z
   have z:scope.names.lookup y=some .cell:=by simpa using z
   have e:cenv.cells.lookup y=some c:=e
   rw [hcl] at e
   rcases cells_mem (PySem.mem_of_lookup e) with hm | ⟨_,h2,_⟩
   ·rcases cloFrom_mem hm with hm | ⟨h1,_⟩
    ·cases hm
    ·have q:=ok.uniq _ h1
     rw [z] at q;cases q
   ·rw [Heap.size_push] at h2
    exact Nat.le_of_succ_le h2
  ·show b≠cenv.locals
   rw [hL];exact Nat.ne_of_lt (hfp b hb).2
  ·have e:cenv.cells.lookup y=some c:=e
   rcases mem e with ⟨h1,_⟩ | ⟨h1,_⟩
   ·exact (hfp b hb).1.2.2.2.2.1 y c h1 z
   ·have h2:s.heap.objs.size+1≤b:=by rw [← z];exact h1
    exact absurd (Nat.lt_of_lt_of_le (hfp b hb).2 (Nat.le_of_succ_le h2)) (Nat.lt_irrefl _)
  ·rcases (hfp b hb).1.2.2.2.1 with z | z
   ·exact I.ok.noex b o e z
   ·exact absurd (Nat.lt_of_lt_of_le (Heap.lt_size e) (Nat.le_trans I.ok.bsz z)) (Nat.lt_irrefl _)
  ·rcases List.mem_cons.mp (I.stkSub b z) with z | z
   ·exact (hfp b hb).1.2.1 z
   ·exact (hfp b hb).1.2.2.1 z
 refine ⟨okB,rfl,I.bare,Un.kept kp,⟨fun _=>none,?_,fun i y av e1 e2 e3=>?_⟩,fun y c e=>?_,?_,fun y c e=>?_,fun p hp=>?_,I.hok.kept kp,by rw [wipe_length];exact I.len⟩
 ·show Heap.Ns _ cenv.locals _
  rw [hL]
  exact Heap.Ns.keeps (Heap.Ns.new ..) fun b o e=>pushCells_keeps _ _ _ _ e
 ·obtain ⟨e2,hne⟩:=wipe_some e2
  have hfr:scope.names.lookup y=some .free∧(cenv.kindOf y=some .cell∨cenv.kindOf y=some .free):=by
   have key:∀ k,cenv.scope.names.lookup y=some k→k=.local∨k=.cell∨k=.free→scope.names.lookup y=some .free∧(cenv.kindOf y=some .cell∨cenv.kindOf y=some .free):=fun k hk hk'=>by
    have hk0:=hk
    rw [hsc] at hk
    obtain ⟨k',e,r⟩:=lookup_relS hk
    have no:¬ (k'=.local∨k'=.cell):=fun hh=>by
     rcases ok.own _ (PySem.mem_of_lookup e) hh with e' | e'
     ·obtain ⟨p,hp,hpy⟩:=List.mem_map.mp e'
      have e3:=ok.ix p hp
      have:p.1=y:=hpy
      rw [this] at e3
      exact hne (List.mem_map.mpr ⟨p,hp,nodup_ix hN e3 e1⟩)
     ·exact e' (List.mem_of_getElem? e1)
    rcases r with rfl | ⟨rfl,rfl⟩
    ·rcases hk' with rfl | rfl | rfl
     ·exact absurd (.inl rfl) no
     ·exact absurd (.inr rfl) no
     ·exact ⟨e,.inr hk0⟩
    ·exact ⟨e,.inl hk0⟩
   have e3:Vis cenv.scope y:=e3
   rcases e3 with e3 | e3 | e3
   ·exact key _ e3 (.inl rfl)
   ·exact key _ e3 (.inr (.inl rfl))
   ·exact key _ e3 (.inr (.inr rfl))
  obtain ⟨m,hn,hl⟩:=I.loc
  have hvis:Vis X.env.scope y:=(ok.free _ (PySem.mem_of_lookup hfr.1) rfl).elim (fun k=>.inr (.inl k)) (fun k=>.inr (.inr k))
  obtain ⟨w,r,q⟩:=hl i y av e1 e2 hvis
  refine ⟨w,r,.inr ⟨hfr.2,?_⟩⟩
  obtain ⟨c,h1,h2⟩:=look hfr.1
  rcases q with ⟨k,_⟩ | ⟨_,c',e',z⟩
  ·have k:X.env.scope.names.lookup y=some .local:=k
   rcases ok.free _ (PySem.mem_of_lookup hfr.1) rfl with k' | k' <;> rw [show X.env.scope.names.lookup y=_ from k'] at k <;> cases k
  ·rw [h2] at e';cases e'
   exact ⟨c,h1,z.keeps kp⟩
 ·have e:cenv.cells.lookup y=some c:=e
  rcases mem e with ⟨h1,_⟩ | ⟨_,z⟩
  ·obtain ⟨w,z⟩:=I.cell y c h1
   exact ⟨w,z.keeps kp⟩
  ·exact ⟨_,z⟩
 ·show H cenv.locals=none
  rw [hL];exact I.hok.fresh (Nat.le_refl _)
 ·have e:cenv.cells.lookup y=some c:=e
  rcases mem e with ⟨h1,_⟩ | ⟨h1,_⟩
  ·exact I.freeC y c h1
  ·exact I.hok.fresh (Nat.le_of_succ_le h1)
 ·exact absurd (show p∈([]:List (Addr × Obj))++[] from hp) (by simp)
theorem app_ok {E:Value→Shared→Prop} {D:Addr} {xs:List V} {y:V} {v:Value} {Q:Value→Shared→Prop} (I:Inv X pins σ H s) (hD:H D=some (.lst xs)) (hz:xs.length < sizeLine) (r:RelV y v)
  (h:∀ s',Inv X pins σ (upd H D (.lst (xs++[y]))) s'→Q .none s'):wpAny (model X.prog X.w) X.A (call (.builtin "list.append") [.ref D,v]) Q E s:=by
 obtain ⟨hz',its,n,ri,e⟩:=I.hok D _ hD
 have hl:=ri.length
 refine append_at (hsz:=by rw [List.size_toArray];omega) e fun h' sb ho'=>?_
 refine h { s with heap:=h' } (I.write (t':=s.toks) (by rw [hD];trivial) (.inl rfl) (fun b u hb q=>(sb.2 b hb).trans q) ⟨_,ho'⟩ ⟨by rw [List.length_append];exact hz,its++[v],n+1,ri.append (.cons r .nil),?_⟩)
 rw [ho']
 simp
def PTs (X:Cx) (ifs:List Expr) (t:TT):Prop :=
 ∀ (pins:List (Addr × Obj)) (s:Shared) (σ:St) (H:Hp) (Q:Bool→Hp→Prop),Inv X pins σ H s→t σ H Q →
  wpAny (model X.prog X.w) X.A (forIn ifs true fun c r=>if r=true then do let ok ← isTrue c X.env (eval c X.env);pure (ForInStep.yield ok) else pure (ForInStep.yield r)) (TP X pins σ Q) X.xe s
def tYes:TT:=fun _ H Q=>Q true H
theorem pts_nil:PTs X [] tYes:=fun _ _ _ H _ I h=>wpAny_tests_nil ⟨H,I,h⟩
theorem pts_one {c:Expr} {t:TT} (h:PT X c t):PTs X [c] t:=fun pins s σ H Q I hw=>wpAny_tests_one (h pins s σ H Q I hw)
end
theorem thnF {α:Type} {t:Sem α} {Q Q':α→Shared→Prop} {M:Model} {A:Around} {E:Value→Shared→Prop} {s:Shared} (h:wpAny M A t Q (fun _ _=>False) s) (hQ:∀ a s,Q a s→Q' a s):wpAny M A t Q' E s:=wpAny_mono h hQ fun _ _ z=>False.elim z
theorem compLoop_any {prog:Program} {w:World} {A:Around} {R:Result→Shared→Prop} {s:Shared} {elt target iter:Expr} {ifs:List Expr} {scope:Scope} {pos:Pos} {it acc:Value} {env:Env} (I:Nat→Shared→Prop)
  (turn:∀ n s,I n s→wpAny (model prog w) A (pyNext it) (fun r s₁=>match r with
   | none=>R (.ok .next) s₁
   | some v=>wpAny (model prog w) A (letOwnedTupleGo target it v) (fun _ s₁'=>wpAny (model prog w) A (assign target env v) (fun _ s₂ =>
     wpAny (model prog w) A (forIn ifs true fun c r=>if r=true then do let ok ← isTrue c env (eval c env);pure (ForInStep.yield ok) else pure (ForInStep.yield r)) (fun ok s₃ =>
      if ok=true then wpAny (model prog w) A (eval elt env) (fun x s₄ =>
       wpAny (model prog w) A (call (.builtin "list.append") [acc,x]) (fun _ s₅=>∃ m,m < n∧I m s₅) (notedBy (model prog w) A env fun e s'=>R (.error e) s') s₄) (notedBy (model prog w) A env fun e s'=>R (.error e) s') s₃
      else ∃ m,m < n∧I m s₃) (notedBy (model prog w) A env fun e s'=>R (.error e) s') s₂) (notedBy (model prog w) A env fun e s'=>R (.error e) s') s₁') (notedBy (model prog w) A env fun e s'=>R (.error e) s') s₁) (notedBy (model prog w) A env fun e s'=>R (.error e) s') s)
  (n:Nat) (h:I n s) :
  codeAny (model prog w) A (.compLoop (.ListComp elt [⟨target,iter,ifs,0⟩] scope pos) 0 it acc env) R s:=by
 refine codeAny_loop rfl I (fun n s hI=>?_) n h
 show wpAny _ A ((compTurn (.ListComp elt [⟨target,iter,ifs,0⟩] scope pos) 0 it acc env).onRaise (fun x=>do noteFrame x env;theTreesLotGoes x)) _ _ s
 refine wpAny_noted ?_
 rw [compTurn_list]
 refine wpAny_bind (wpAny_standAt (wpAny_bind (wpAny_mono (turn n s hI) (fun r s₁ h₁=>?_) fun _ _ h'=>h')))
 cases r with
 | none=>exact wpAny_pure h₁
 | some v =>
  refine wpAny_bind (wpAny_mono h₁ (fun _ s₁' h₁'=>?_) fun _ _ h'=>h')
  refine wpAny_bind (wpAny_mono h₁' (fun _ s₂ h₂=>wpAny_bind (wpAny_mono h₂ (fun ok s₃ h₃=>?_) fun _ _ h'=>h')) fun _ _ h'=>h')
  cases ok with
  | false=>exact wpAny_pure ⟨rfl,h₃⟩
  | true =>
   exact wpAny_bind (wpAny_bind (wpAny_mono h₃ (fun x s₄ h₄=>wpAny_bind (wpAny_mono h₄ (fun _ s₅ h₅=>wpAny_pure (wpAny_pure ⟨rfl,h₅⟩)) fun _ _ h'=>h')) fun _ _ h'=>h'))
section
variable {X:Cx}
def tLc (wi:TI) (g:TG) (tt:TT) (te:TE) (vs:List Nat):TE:=fun σ H Q=>wi σ H fun J H1=>∀ D,H1 D=none→∃ W:Nat→Nat→Hp→Prop,(∃ m,W 0 m (upd H1 D (.lst [])))∧∀ i m H,W i m H →
 (J.stop i H∧Q (.ref D) H)∨(J.go i H∧∃ Nx:Hp→Prop,(∀ H',Nx H'→∃ m',m' < m∧W (i+1) m' H')∧∀ x H',J.yld i H x H'→g x (wipe σ vs) H' fun σ2 H2=>wipe σ2 vs=wipe σ vs∧tt σ2 H2 fun b H3 =>
  if b=true then te σ2 H3 fun y H4=>∃ acc,H4 D=some (.lst acc)∧acc.length < sizeLine∧Nx (upd H4 D (.lst (acc++[y]))) else Nx H3)
theorem lc_core {pins:List (Addr × Obj)} {s:Shared} {σ:St} {H:Hp} {Q:VK} {elt tg iter:Expr} {ifs:List Expr} {scope:Scope} {own:List (Str × Nat)} {pos pos':Pos} {wi:TI} {g:TG} {tt:TT} {te:TE} {use:Option (Value→Sem Unit)} {Qf:Value→Shared→Prop}
  (hc:X.calm=true) (hN:X.N.Nodup) (I:Inv X pins σ H s) (hi:PI X tg iter wi) (ok:BlkOk X.N X.env.scope scope own)
  (hg:∀ (s:Shared) (H:Hp) (C:Addr) (cl:List (Str × Addr)) (fp:List Addr),PG (X.blk s H scope (compEnvC scope cl C X.env) fp) tg g) (ht:∀ (s:Shared) (H:Hp) (C:Addr) (cl:List (Str × Addr)) (fp:List Addr),PTs (X.blk s H scope (compEnvC scope cl C X.env) fp) ifs tt)
  (he:∀ (s:Shared) (H:Hp) (C:Addr) (cl:List (Str × Addr)) (fp:List Addr),PE (X.blk s H scope (compEnvC scope cl C X.env) fp) elt te) (hs:∀ x,foldedSetIterable iter X.env x=pure x)
  (h:tLc wi g tt te (own.map (·.2)) σ H Q)
  (hRR:∀ D C s' m H',Inv X pins σ H' s'→Q (.ref D) H'→s'.heap.Ns C m→FpOk X pins H' C→compPost (model X.prog X.w) X.A X.xe use Qf (.ref D) C (.ok .next) s') :
  wpAny (model X.prog X.w) X.A (comprehension (.ListComp elt [⟨tg,iter,ifs,0⟩] scope pos) scope X.env pos' (newList []) false (eval iter X.env) use) Qf X.xe s:=by
 have hfree:∀ y∈scope.names,y.2=.free→∃ c,X.env.cells.lookup y.1=some c:=fun y hy e=>by
  rcases ok.free y hy e with k | k
  ·exact I.ok.has _ (.inl k)
  ·exact I.ok.has _ (.inr k)
 refine wpAny_comprehension_free (use:=use) rfl hs (closure_ok hfree) ok.kind (fun y hy e=>by rw [ok.uniq y hy,e])
  (thn (hi pins s σ H _ I h) fun xv s1 hx=>thn hx fun itv s2 h2=>?_)
 obtain ⟨it,fp,tn,J,H2,e,I2,T,st2,f2,q⟩:=h2
 subst e
 refine wpAny_newObj_type (newEnv_comp ?_) (by show 0≤sizeLine;decide)
 generalize hD:s2.heap.objs.size=D
 have hDn:H2 D=none:=I2.hok.fresh (Nat.le_of_eq hD)
 obtain ⟨W,⟨m0,w0⟩,turn⟩:=q D hDn
 generalize hs3:({ s2 with heap:=s2.heap.push { cls:=.type "list",data:=.seq ([]:List Value).toArray } }:Shared)=s3
 have I3:Inv X pins σ (upd H2 D (.lst [])) s3:=by
  rw [← hs3]
  refine I2.laid (t':=s2.toks) (fun b o e=>Heap.get?_push_of_some _ e) (Nat.le_of_eq hD) ⟨Nat.zero_le _,[],0,.nil,?_⟩
  rw [← hD]
  exact Heap.get?_push_size _ rfl
 have h3:s3.heap=s2.heap.push { cls:=.type "list",data:=.seq ([]:List Value).toArray }:=by rw [← hs3]
 have sz:∀ b∈fp,b < s2.heap.objs.size:=fun b hb=>by
  obtain ⟨o,e,_⟩:=T.obj _ _ st2 b hb
  exact Heap.lt_size e
 have f3:∀ b∈fp,FpOk X pins (upd H2 D (.lst [])) b∧b < s3.heap.objs.size:=fun b hb=>by
  have hlt:=sz b hb
  refine ⟨⟨?_,(f2 b hb).2⟩,by rw [h3,Heap.size_push];exact Nat.lt_succ_of_lt hlt⟩
  rw [upd_ne (by rw [← hD];exact Nat.ne_of_lt hlt)]
  exact (f2 b hb).1
 have st3:tn 0 s3.heap:=T.keep _ _ _ st2 fun b _ o e=>by rw [h3];exact Heap.get?_push_of_some _ e
 have I4:=block_start I3 ok hN f3
 have pg:=hg s3 (upd H2 D (.lst [])) s3.heap.objs.size (cellsFrom (s3.heap.objs.size+1) scope.names (cloFrom X.env.cells scope.names [])) fp
 have pt:=ht s3 (upd H2 D (.lst [])) s3.heap.objs.size (cellsFrom (s3.heap.objs.size+1) scope.names (cloFrom X.env.cells scope.names [])) fp
 have pe:=he s3 (upd H2 D (.lst [])) s3.heap.objs.size (cellsFrom (s3.heap.objs.size+1) scope.names (cloFrom X.env.cells scope.names [])) fp
 show codeAny _ _ (.compStart (.ListComp elt [⟨tg,iter,ifs,0⟩] scope pos) 0 (.ref it) (.ref D) (compEnvC scope (cellsFrom (s3.heap.objs.size+1) scope.names (cloFrom X.env.cells scope.names [])) s3.heap.objs.size X.env)) (compPost (model X.prog X.w) X.A X.xe use Qf (.ref D) s3.heap.objs.size) { s3 with heap:=pushCells (s3.heap.push { cls:=.type "dict",data:=.dict #[] }) scope.names }
 have nfp:∀ b∈fp,(upd H2 D (.lst [])) b=none:=fun b hb=>(f3 b hb).1.1
 generalize hce:compEnvC scope (cellsFrom (s3.heap.objs.size+1) scope.names (cloFrom X.env.cells scope.names [])) s3.heap.objs.size X.env=ce at I4 pg pt pe ⊢
 have cL:ce.locals=s3.heap.objs.size:=by subst hce;rfl
 generalize hH3:upd H2 D (.lst [])=H3 at I3 I4 pg pt pe w0 nfp f3
 generalize hs4:({ s3 with heap:=pushCells (s3.heap.push { cls:=.type "dict",data:=.dict #[] }) scope.names }:Shared)=s4 at I4 ⊢
 have st4:tn 0 s4.heap:=T.keep _ _ _ st3 fun b _ o e=>by rw [← hs4];exact pushCells_keeps _ _ _ _ (Heap.get?_push_of_some _ e)
 have stat:∀ {σ':St} {H':Hp} {s':Shared},Inv (X.blk s3 H3 scope ce fp) [] σ' H' s'→(∀ b∈fp,H' b=none)→∀ b∈fp,FpOk (X.blk s3 H3 scope ce fp) [] H' b:=fun {σ' H' s'} I' hn b hb =>
  ⟨hn b hb,(I'.ok.exf b hb).1,I'.ok.exfs b hb,.inl hb,fun x c e=>(I'.ok.exf b hb).2 x c e,fun p hp=>absurd (show p∈([]:List (Addr × Obj))++[] from hp) (by simp)⟩
 have loop:codeAny (model X.prog X.w) X.A (.compLoop (.ListComp elt [⟨tg,iter,ifs,0⟩] scope pos) 0 (.ref it) (.ref D) ce) (compPost (model X.prog X.w) X.A X.xe use Qf (.ref D) s3.heap.objs.size) s4:=by
  refine compLoop_any (fun n s'=>∃ i H',Inv (X.blk s3 H3 scope ce fp) [] (wipe σ (own.map (·.2))) H' s'∧tn i s'.heap∧(∀ b∈fp,H' b=none)∧W i n H') ?_ m0 ⟨0,H3,I4,st4,nfp,w0⟩
  rintro n s5 ⟨i,H5,I5,st5,n5,w5⟩
  rcases turn i n H5 w5 with ⟨stop,qq⟩ | ⟨go,Nx,hNx,step⟩
  ·have td:=T.done (X.blk s3 H3 scope ce fp) rfl rfl rfl hc i [] s5 _ H5 (fun _ _=>False) I5 (stat I5 n5) st5 stop
   refine thnF td fun r s6 ⟨hr,I6⟩=>?_
   subst hr
   have I7:Inv X pins σ H5 s6:=I3.call' (ch:=fp) I6.os I6.base I6.hok I6.bare fun b hb=>⟨(f3 b hb).1.2.2.2.1,(f3 b hb).1.2.1,(f3 b hb).1.2.2.2.2.1,(f3 b hb).1.2.2.2.2.2⟩
   have nC:H5 s3.heap.objs.size=none:=by
    have z:H5 ce.locals=none:=I6.free
    rw [cL] at z
    exact z
   obtain ⟨m,hn,_⟩:=I6.loc
   have hn:s6.heap.Ns ce.locals m:=hn
   rw [cL] at hn
   exact hRR D s3.heap.objs.size s6 m H5 I7 qq hn (I3.fpOk (Nat.le_refl _) nC)
  ·have ti:=T.item (X.blk s3 H3 scope ce fp) rfl rfl rfl hc i [] s5 _ H5 (fun _ _=>False) I5 (stat I5 n5) st5 go
   refine thnF ti fun r s6 ⟨u,hr,h6⟩=>?_
   subst hr
   refine thnF h6 fun _ s7 ⟨x,H7,I7,r7,y7,st7,n7⟩=>?_
   have I7':=I7.pinned (stat I7 n7) (T.obj _ _ st7)
   refine thnF (pg _ s7 _ H7 x u _ I7' r7 (step x H7 y7)) fun _ s8 ⟨σ8,H8,I8,hw8,q8⟩=>?_
   refine thnF (pt _ s8 σ8 H8 _ I8 q8) fun b s9 ⟨H9,I9,q9⟩=>?_
   have fin:∀ {s':Shared} {H':Hp},Inv (X.blk s3 H3 scope ce fp) ([]++pinsAt fp s7.heap) σ8 H' s'→Nx H'→∃ m,m < n∧∃ i H',Inv (X.blk s3 H3 scope ce fp) [] (wipe σ (own.map (·.2))) H' s'∧tn i s'.heap∧(∀ b∈fp,H' b=none)∧W i m H':=fun {s' H'} I' nx=>by
    obtain ⟨m',hm,w'⟩:=hNx H' nx
    have pin':∀ b∈fp,∀ o,s7.heap.get? b=some o→s'.heap.get? b=some o∧H' b=none:=fun b hb o e =>
     let z:=I'.pin (b,o) (List.mem_append_right _ (List.mem_append_right _ (mem_pinsAt hb e)))
     ⟨z.1,z.2.1⟩
    have hl:(wipe σ (own.map (·.2))).length=σ8.length:=by rw [← hw8,wipe_length]
    refine ⟨m',hm,i+1,H',(I'.unpinned (pins:=[])).weak hl (fun j v e=>?_),T.keep _ _ _ st7 fun b hb o e=>(pin' b hb o e).1,fun b hb=>?_,w'⟩
    ·rw [← hw8] at e
     exact (wipe_some e).1
    ·obtain ⟨o,e,_⟩:=T.obj _ _ st7 b hb
     exact (pin' b hb o e).2
   cases b with
   | false =>
    simp only [Bool.false_eq_true,if_false] at q9 ⊢
    exact fin I9 q9
   | true =>
    simp only [if_true] at q9 ⊢
    refine thnF (pe _ s9 σ8 H9 _ I9 q9) fun z s10 ⟨yv,H10,I10,r10,acc,hD10,hz10,nx⟩=>?_
    exact app_ok (X:=X.blk s3 H3 scope ce fp) I10 hD10 hz10 r10 fun s11 I11=>fin I11 nx
 exact codeAny_compStart_list loop (T.self X.A 0 _ _ _ st4 loop)
theorem pe_lc {elt tg iter:Expr} {ifs:List Expr} {scope:Scope} {own:List (Str × Nat)} {pos:Pos} {wi:TI} {g:TG} {tt:TT} {te:TE} (hc:X.calm=true) (hN:X.N.Nodup) (hi:PI X tg iter wi) (ok:BlkOk X.N X.env.scope scope own)
  (hg:∀ (s:Shared) (H:Hp) (C:Addr) (cl:List (Str × Addr)) (fp:List Addr),PG (X.blk s H scope (compEnvC scope cl C X.env) fp) tg g) (ht:∀ (s:Shared) (H:Hp) (C:Addr) (cl:List (Str × Addr)) (fp:List Addr),PTs (X.blk s H scope (compEnvC scope cl C X.env) fp) ifs tt)
  (he:∀ (s:Shared) (H:Hp) (C:Addr) (cl:List (Str × Addr)) (fp:List Addr),PE (X.blk s H scope (compEnvC scope cl C X.env) fp) elt te) (hs:∀ x,foldedSetIterable iter X.env x=pure x:=by intro _;rfl) :
  PE X (.ListComp elt [⟨tg,iter,ifs,0⟩] scope pos) (tLc wi g tt te (own.map (·.2))):=by
 intro pins s σ H Q I h
 rw [eval_ListComp]
 refine lc_core hc hN I hi ok hg ht he hs h fun D C s' m H' I' q hn f=>⟨m,hn,fun h'' sb=>?_⟩
 obtain ⟨f0,f1,f2,f3,f4,f5⟩:=f
 exact ⟨.ref D,H',I'.turned (t':=s'.toks) (fun b o hb e=>(sb.2 b hb).trans e) f0 f1 f3 f4 f5,rfl,q⟩
theorem ps_setLc {i:Nat} {y:Str} {py:Pos} {elt tg iter:Expr} {ifs:List Expr} {scope:Scope} {own:List (Str × Nat)} {pos spos:Pos} {wi:TI} {g:TG} {tt:TT} {te:TE} (hc:X.calm=true) (hN:X.N.Nodup) (hy:X.N[i]?=some y) (hyl:X.env.scope.names.lookup y=some .local)
  (hsw:swapsWith (.ListComp elt [⟨tg,iter,ifs,0⟩] scope pos) (some (.Name y py)) spos.line X.env=pure true) (hi:PI X tg iter wi) (ok:BlkOk X.N X.env.scope scope own)
  (hg:∀ (s:Shared) (H:Hp) (C:Addr) (cl:List (Str × Addr)) (fp:List Addr),PG (X.blk s H scope (compEnvC scope cl C X.env) fp) tg g) (ht:∀ (s:Shared) (H:Hp) (C:Addr) (cl:List (Str × Addr)) (fp:List Addr),PTs (X.blk s H scope (compEnvC scope cl C X.env) fp) ifs tt)
  (he:∀ (s:Shared) (H:Hp) (C:Addr) (cl:List (Str × Addr)) (fp:List Addr),PE (X.blk s H scope (compEnvC scope cl C X.env) fp) elt te) (hs:∀ x,foldedSetIterable iter X.env x=pure x:=by intro _;rfl) :
  PS X (.Assign [.Name y py] (.ListComp elt [⟨tg,iter,ifs,0⟩] scope pos) spos) (tAsg (tLc wi g tt te (own.map (·.2))) (gName i)):=by
 intro pins s σ H D I h
 rw [exec_Assign_Name_used _ _ _ _ hsw]
 refine wpAny_bind (wpAny_standAt (wpAny_bind ?_))
 show wpAny _ X.A (do let _ ← comprehension (.ListComp elt [⟨tg,iter,ifs,0⟩] scope pos) scope X.env (firstIterPos [⟨tg,iter,ifs,0⟩] pos) (newList []) false (eval iter X.env) (some (assign (.Name y py) X.env))) _ _ s
 have h:tLc wi g tt te (own.map (·.2)) σ H (fun x H1=>gName i x σ H1 D.nx):=h
 refine wpAny_bind (thn (lc_core (Qf:=fun _ s'=>SP X pins D .next s') hc hN I hi ok hg ht he hs h fun L C s' m H' I' q hn f=>?_) fun _ s' hq=>wpAny_pure (wpAny_pure hq))
 show wpAny _ _ (assign (.Name y py) X.env (.ref L)) _ _ _
 refine wpAny_assign_Name (store_ok2 (v:=V.ref L) I' hN hy (.inl hyl) rfl (fun s2 I2 ⟨a,sb,ha⟩=>?_) (.inr hyl))
 obtain ⟨f0,f1,f2,f3,f4,f5⟩:=f
 have haC:C≠a:=by
  rcases ha with z | z
  ·rw [z];exact f1
  ·exact fun e=>f4 y a z e.symm
 refine ⟨m,hn.sameBut sb haC,fun h3 sb3=>?_⟩
 exact ⟨_,H',I2.turned (t':=s2.toks) (fun b o hb e=>(sb3.2 b hb).trans e) f0 f1 f3 f4 f5,q⟩
theorem sw_true {elt:Expr} {gs:List Comprehension} {scope:Scope} {pos py:Pos} {y:Str} {l:Nat} {env:Env} (hk:env.scope.kind=.function) (hy:env.scope.names.lookup y=some .local) (hl:(py.line == pos.line)=true)
  (ha:(scope.names.any fun (n,k)=>n == y && (k == .local || k == .cell))=false):swapsWith (.ListComp elt gs scope pos) (some (.Name y py)) l env=pure true:=by
 have ky:env.kindOf y=some .local:=hy
 have hb:env.blockKind=.function:=by unfold Env.blockKind;rw [hk];rfl
 unfold swapsWith
 simp only [hb,ky,ha,Expr.pos,hl]
 rfl
end
theorem lc_range {lo:Int} {n:Nat} {g:TG} {tt:TT} {te:TE} {vs:List Nat} {σ:St} {H1:Hp} {D:Addr} {Qd:Hp→Prop} (Pv:Nat→Hp→Prop) (h0:Pv 0 (upd H1 D (.lst [])))
  (hs:∀ i H,i < n→Pv i H→g (.int (lo+i)) (wipe σ vs) H fun σ2 H2=>wipe σ2 vs=wipe σ vs∧tt σ2 H2 fun b H3 =>
   if b=true then te σ2 H3 fun y H4=>∃ acc,H4 D=some (.lst acc)∧acc.length < sizeLine∧Pv (i+1) (upd H4 D (.lst (acc++[y]))) else Pv (i+1) H3) (hd:∀ H,Pv n H→Qd H) :
  ∃ W:Nat→Nat→Hp→Prop,(∃ m,W 0 m (upd H1 D (.lst [])))∧∀ i m H,W i m H →
   ((Itr lo n).stop i H∧Qd H)∨((Itr lo n).go i H∧∃ Nx:Hp→Prop,(∀ H',Nx H'→∃ m',m' < m∧W (i+1) m' H')∧∀ x H',(Itr lo n).yld i H x H'→g x (wipe σ vs) H' fun σ2 H2=>wipe σ2 vs=wipe σ vs∧tt σ2 H2 fun b H3 =>
    if b=true then te σ2 H3 fun y H4=>∃ acc,H4 D=some (.lst acc)∧acc.length < sizeLine∧Nx (upd H4 D (.lst (acc++[y]))) else Nx H3):=by
 refine ⟨fun i m H=>m=n - i∧i≤n∧Pv i H,⟨n,by simp,Nat.zero_le _,h0⟩,?_⟩
 rintro i m H ⟨rfl,hi,p⟩
 by_cases hlt:i < n
 ·refine .inr ⟨hlt,Pv (i+1),fun H' p'=>⟨n - (i+1),by omega,rfl,hlt,p'⟩,fun x H' y=>?_⟩
  obtain ⟨e,y⟩:=y
  subst e y
  exact hs i _ hlt p
 ·have e:i=n:=by omega
  subst e
  exact .inl ⟨Nat.le_refl _,hd H p⟩
theorem lc_list {K:PySem.W.Frag} {a:Addr} {xs:List V} {g:TG} {tt:TT} {te:TE} {vs:List Nat} {σ:St} {H1:Hp} {D:Addr} {Qd:Hp→Prop} (Pv:Nat→Hp→Prop) (h0:Pv 0 (upd H1 D (.lst []))) (hl:∀ i H,i≤xs.length→Pv i H→SqL K H a xs)
  (hs:∀ i x H,xs[i]?=some x→Pv i H→g x (wipe σ vs) H fun σ2 H2=>wipe σ2 vs=wipe σ vs∧tt σ2 H2 fun b H3 =>
   if b=true then te σ2 H3 fun y H4=>∃ acc,H4 D=some (.lst acc)∧acc.length < sizeLine∧Pv (i+1) (upd H4 D (.lst (acc++[y]))) else Pv (i+1) H3) (hd:∀ H,Pv xs.length H→Qd H) :
  ∃ W:Nat→Nat→Hp→Prop,(∃ m,W 0 m (upd H1 D (.lst [])))∧∀ i m H,W i m H →
   ((Itl K a).stop i H∧Qd H)∨((Itl K a).go i H∧∃ Nx:Hp→Prop,(∀ H',Nx H'→∃ m',m' < m∧W (i+1) m' H')∧∀ x H',(Itl K a).yld i H x H'→g x (wipe σ vs) H' fun σ2 H2=>wipe σ2 vs=wipe σ vs∧tt σ2 H2 fun b H3 =>
    if b=true then te σ2 H3 fun y H4=>∃ acc,H4 D=some (.lst acc)∧acc.length < sizeLine∧Nx (upd H4 D (.lst (acc++[y]))) else Nx H3):=by
 refine ⟨fun i m H=>m=xs.length - i∧i≤xs.length∧Pv i H,⟨xs.length,by simp,Nat.zero_le _,h0⟩,?_⟩
 rintro i m H ⟨rfl,hi,p⟩
 have q:=hl i H hi p
 by_cases hlt:i < xs.length
 ·refine .inr ⟨⟨xs,xs[i],q,by simp [hlt]⟩,Pv (i+1),fun H' p'=>⟨xs.length - (i+1),by omega,rfl,hlt,p'⟩,fun x H' y=>?_⟩
  obtain ⟨e,y⟩:=y
  subst e
  exact hs i x _ (y xs q) p
 ·have e:i=xs.length:=by omega
  subst e
  exact .inl ⟨⟨xs,q,Nat.le_refl _⟩,hd H p⟩
def blkC (N:List Str) (sc scope:Scope) (own:List (Str × Nat)):Bool :=
 (match scope.kind with | .function=>true | _=>false) && (scope.names.all fun y=>decide (scope.names.lookup y.1=some y.2)) && (own.all fun p=>decide (N[p.2]?=some p.1)) &&
  (scope.names.all fun y=>match y.2 with
   | .free=>(match sc.names.lookup y.1 with | some .cell=>true | some .free=>true | _=>false)
   | .local=>decide (y.1∈own.map (·.1)) || decide (y.1 ∉ N)
   | .cell=>decide (y.1∈own.map (·.1)) || decide (y.1 ∉ N)
   | _=>true)
theorem blkOk_by {N:List Str} {sc scope:Scope} {own:List (Str × Nat)} (h:blkC N sc scope own=true):BlkOk N sc scope own:=by
 unfold blkC at h
 simp only [Bool.and_eq_true,List.all_eq_true,decide_eq_true_eq] at h
 obtain ⟨⟨⟨h1,h2⟩,h3⟩,h4⟩:=h
 refine ⟨?_,h2,h3,fun y hy e=>?_,fun y hy e=>?_⟩
 ·split at h1
  ·assumption
  ·cases h1
 ·have q:=h4 y hy
  simp only [e] at q
  split at q <;> first | exact .inl (by assumption) | exact .inr (by assumption) | cases q
 ·have q:=h4 y hy
  rcases e with e | e <;> (simp only [e,Bool.or_eq_true,decide_eq_true_eq] at q;exact q)
end L2
namespace L2
open PySem PySem.Spec PyProof.Rows
section
variable {κ:Type} [DecidableEq κ]
def valV (kvs:List (κ × V)) (k:κ):Option V:=(kvs.find? fun kv=>decide (kv.1=k)).map (·.2)
def putK (kvs:List (κ × V)) (k:κ) (v:V):List (κ × V) :=
 if (kvs.any fun kv=>decide (kv.1=k))=true then kvs.map (fun kv=>if kv.1=k then (kv.1,v) else kv) else kvs++[(k,v)]
theorem valV_pos {p:κ × V} {r:List (κ × V)} {k:κ} (e:p.1=k):valV (p::r) k=some p.2:=by simp [valV,List.find?_cons,e]
theorem valV_neg {p:κ × V} {r:List (κ × V)} {k:κ} (e:¬ p.1=k):valV (p::r) k=valV r k:=by simp [valV,List.find?_cons,e]
theorem valV_any (k:κ):∀ kvs:List (κ × V),(kvs.any fun kv=>decide (kv.1=k))=(valV kvs k).isSome
 | []=>rfl
 | p::r=>by
  rw [List.any_cons]
  by_cases e:p.1=k
  ·simp only [valV_pos e,decide_eq_true e,Bool.true_or,Option.isSome_some]
  ·rw [valV_neg e,decide_eq_false e,Bool.false_or];exact valV_any k r
theorem valV_map (k j:κ) (y:V):∀ kvs:List (κ × V),valV (kvs.map fun kv=>if kv.1=k then (kv.1,y) else kv) j=(valV kvs j).map fun x=>if j=k then y else x
 | []=>rfl
 | p::r=>by
  have ih:=valV_map k j y r
  rw [List.map_cons]
  by_cases h:p.1=k
  ·rw [if_pos h]
   by_cases e:p.1=j
   ·rw [valV_pos (p:=(p.1,y)) e,valV_pos e,Option.map_some,if_pos (e.symm.trans h)]
   ·rw [valV_neg (p:=(p.1,y)) e,valV_neg e,ih]
  ·rw [if_neg h]
   by_cases e:p.1=j
   ·rw [valV_pos (p:=p) e,valV_pos e,Option.map_some,if_neg (fun z=>h (e.trans z))]
   ·rw [valV_neg (p:=p) e,valV_neg e,ih]
theorem valV_snoc (k j:κ) (y:V):∀ kvs:List (κ × V),valV kvs k=none→valV (kvs++[(k,y)]) j=if j=k then some y else valV kvs j
 | [],_=>by
  by_cases e:k=j
  ·rw [if_pos e.symm];exact valV_pos (p:=(k,y)) e
  ·rw [if_neg (fun z=>e z.symm)];exact valV_neg (p:=(k,y)) e
 | p::r,hn=>by
  rw [List.cons_append]
  have hk:¬ p.1=k:=fun z=>by rw [valV_pos z] at hn;cases hn
  rw [valV_neg hk] at hn
  have ih:=valV_snoc k j y r hn
  by_cases e:p.1=j
  ·rw [valV_pos e,valV_pos e,if_neg (fun z=>hk (e.trans z))]
  ·rw [valV_neg e,valV_neg e,ih]
theorem valV_put (kvs:List (κ × V)) (k j:κ) (y:V):valV (putK kvs k y) j=if j=k then some y else valV kvs j:=by
 unfold putK
 by_cases a:(kvs.any fun kv=>decide (kv.1=k))=true
 ·rw [if_pos a,valV_map]
  rw [valV_any] at a
  by_cases e:j=k
  ·obtain ⟨x,hx⟩:=Option.isSome_iff_exists.mp a
   rw [if_pos e,e,hx,Option.map_some,if_pos rfl]
  ·rw [if_neg e]
   cases valV kvs j with
   | none=>rfl
   | some x=>rw [Option.map_some,if_neg e]
 ·rw [if_neg a]
  refine valV_snoc k j y kvs ?_
  rw [valV_any] at a
  cases q:valV kvs k with
  | none=>rfl
  | some x=>rw [q] at a;exact (a rfl).elim
theorem length_putK (kvs:List (κ × V)) (k:κ) (v:V):(putK kvs k v).length≤kvs.length+1:=by
 unfold putK
 split
 ·rw [List.length_map];omega
 ·rw [List.length_append,List.length_cons,List.length_nil];omega
theorem putK_new {kvs:List (κ × V)} {k:κ} (v:V) (h:valV kvs k=none):putK kvs k v=kvs++[(k,v)]:=by
 unfold putK
 rw [valV_any,h]
 exact if_neg (by decide)
theorem RelO.isSome_eq {o:Option V} {u:Option Value} (r:RelO o u):o.isSome=u.isSome:=by
 cases o with
 | none=>cases u with
  | none=>rfl
  | some _=>exact (show False from r).elim
 | some _=>cases u with
  | none=>exact (show False from r).elim
  | some _=>rfl
theorem KV.val {kvs:List (κ × V)} {vs:List (κ × Value)} (r:KV kvs vs) (k:κ):RelO (valV kvs k) (valueAt vs k):=by
 unfold KV at r
 induction r with
 | nil=>exact True.intro
 | @cons p q ps qs h t ih =>
  obtain ⟨h1,h2⟩:=h
  by_cases e:p.1=k
  ·have e':q.1=k:=h1.symm.trans e
   have b:valueAt (q::qs) k=some q.2:=by simp [valueAt,List.find?_cons,e']
   rw [valV_pos e,b];exact h2
  ·have e':¬ q.1=k:=fun z=>e (h1.trans z)
   have b:valueAt (q::qs) k=valueAt qs k:=by simp [valueAt,List.find?_cons,e']
   rw [valV_neg e,b];exact ih
theorem KV.any {kvs:List (κ × V)} {vs:List (κ × Value)} (r:KV kvs vs) (k:κ):(kvs.any fun kv=>decide (kv.1=k))=vs.any fun kv=>decide (kv.1=k):=by
 unfold KV at r
 induction r with
 | nil=>rfl
 | cons h t ih=>rw [List.any_cons,List.any_cons,ih,h.1]
theorem KV.repl {kvs:List (κ × V)} {vs:List (κ × Value)} (r:KV kvs vs) (k:κ) {y:V} {u:Value} (ry:RelV y u) :
  KV (kvs.map fun kv=>if kv.1=k then (kv.1,y) else kv) (vs.map fun kv=>if kv.1=k then (kv.1,u) else kv):=by
 unfold KV at r ⊢
 induction r with
 | nil=>exact .nil
 | @cons p q ps qs h t ih =>
  rw [List.map_cons,List.map_cons]
  refine .cons ?_ ih
  obtain ⟨h1,h2⟩:=h
  by_cases e:p.1=k
  ·rw [if_pos e,if_pos (h1.symm.trans e)];exact ⟨h1,ry⟩
  ·rw [if_neg e,if_neg (fun z=>e (h1.trans z))];exact ⟨h1,h2⟩
theorem KV.put {kvs:List (κ × V)} {vs:List (κ × Value)} (r:KV kvs vs) (k:κ) {y:V} {u:Value} (ry:RelV y u):KV (putK kvs k y) (stored vs k u):=by
 unfold putK stored
 rw [r.any k]
 by_cases e:(vs.any fun kv=>decide (kv.1=k))=true
 ·rw [if_pos e,if_pos e];exact r.repl k ry
 ·rw [if_neg e,if_neg e];exact Paired.snoc r ⟨rfl,ry⟩
theorem KV.length {kvs:List (κ × V)} {vs:List (κ × Value)} (r:KV kvs vs):kvs.length=vs.length:=Paired.length r
end
theorem kV_is {P:Program} {w:World} {k:Key} {u:Value} (r:RelV (kV k) u):(mixKind P w).is k u=true:=by
 cases k with
 | inl i=>obtain ⟨t,e⟩:=(show ∃ t,u=Value.int i t from r);subst e;exact mixKind_int P w i t
 | inr x=>obtain ⟨t,e⟩:=(show ∃ t,u=Value.str x t from r);subst e;exact mixKind_str P w x t
theorem items_are {P:Program} {w:World}:∀ {ks:List Key} {us:List Value},Vals (ks.map kV) us→ItemsAre (mixKind P w) ks us
 | [],_,r=>by rw [List.map_nil] at r;cases r;exact .nil
 | k::ks,_,r=>by
  rw [List.map_cons] at r
  cases r with
  | cons h t=>exact .cons (kV_is h) (items_are t)
abbrev KT (H:Hp):List (List Key × V)→List (List Key × Addr × Value)→Prop:=Paired fun p q=>p.1=q.1∧H q.2.1=some (.tup (p.1.map kV))∧RelV p.2 q.2.2
theorem KT.val {H:Hp} {kvs:List (List Key × V)} {xs:List (List Key × Addr × Value)} (r:KT H kvs xs) (k:List Key):RelO (valV kvs k) ((atKey xs k).map (·.2)):=by
 induction r with
 | nil=>exact True.intro
 | @cons p q ps qs h t ih =>
  obtain ⟨h1,_,h2⟩:=h
  by_cases e:p.1=k
  ·have e':q.1=k:=h1.symm.trans e
   have b:atKey (q::qs) k=some q.2:=by simp [atKey,List.find?_cons,e']
   rw [valV_pos e,b];exact h2
  ·have e':¬ q.1=k:=fun z=>e (h1.trans z)
   have b:atKey (q::qs) k=atKey qs k:=by simp [atKey,List.find?_cons,e']
   rw [valV_neg e,b];exact ih
theorem KT.repl {H:Hp} {kvs:List (List Key × V)} {xs:List (List Key × Addr × Value)} (r:KT H kvs xs) (k:List Key) {y:V} {u:Value} (ry:RelV y u) :
  KT H (kvs.map fun kv=>if kv.1=k then (kv.1,y) else kv) (xs.map (putAt k u)):=by
 induction r with
 | nil=>exact .nil
 | @cons p q ps qs h t ih =>
  rw [List.map_cons,List.map_cons]
  refine .cons ?_ ih
  obtain ⟨h1,h2,h3⟩:=h
  unfold putAt
  by_cases e:p.1=k
  ·rw [if_pos e,if_pos (h1.symm.trans e)];exact ⟨h1,h2,ry⟩
  ·rw [if_neg e,if_neg (fun z=>e (h1.trans z))];exact ⟨h1,h2,h3⟩
theorem KT.put {H:Hp} {kvs:List (List Key × V)} {xs:List (List Key × Addr × Value)} (r:KT H kvs xs) (k:List Key) {b:Addr} {y:V} {u:Value} (hb:H b=some (.tup (k.map kV))) (ry:RelV y u) :
  KT H (putK kvs k y) (storedH xs k b u):=by
 have e:(kvs.any fun kv=>decide (kv.1=k))=(atKey xs k).isSome:=by
  rw [valV_any,(r.val k).isSome_eq,Option.isSome_map]
 unfold putK storedH
 rw [e]
 by_cases q:(atKey xs k).isSome=true
 ·rw [if_pos q,if_pos q];exact r.repl k ry
 ·rw [if_neg q,if_neg q];exact Paired.snoc r ⟨rfl,hb,ry⟩
theorem KT.keeps {H H':Hp} {kvs:List (List Key × V)} {xs:List (List Key × Addr × Value)} (r:KT H kvs xs) (ht:∀ b ys,H b=some (.tup ys)→H' b=some (.tup ys)):KT H' kvs xs :=
 Paired.mapP r fun _ _ z=>⟨z.1,ht _ _ z.2.1,z.2.2⟩
section
variable {P:Program} {w:World} {H:Hp} {h:Heap} {a:Addr}
theorem rd_of {u:HO} (ok:HOk P w H h) (e:Rd H a u):ObjOk P w H h a u:=e.ok ok
theorem dk_rd {kvs:List (Key × V)} (ok:HOk P w H h) (e:Rd H a (.dK kvs)):kvs.length≤sizeLine∧(a == sysModules)=false∧∃ vs,KV kvs vs∧h.DictOf (mixKind P w) a vs :=
 show ObjOk P w H h a (.dK kvs) from rd_of ok e
theorem dk_of {kvs:List (Key × V)} (ok:HOk P w H h) (e:H a=some (.dK kvs)):kvs.length≤sizeLine∧(a == sysModules)=false∧∃ vs,KV kvs vs∧h.DictOf (mixKind P w) a vs:=dk_rd ok (.inl e)
theorem key_of {ks:List Key} (ok:HOk P w H h) (e:H a=some (.tup (ks.map kV))):(tupleKind (mixKind P w)).is h ks a:=by
 obtain ⟨_,its,r,o,h1,h2,n,h3⟩:=(show ObjOk P w H h a (.tup (ks.map kV)) from ok a _ e)
 exact ⟨o,its.toArray,n,h1,h2,h3,by simpa using items_are r⟩
theorem dt_rd {kvs:List (List Key × V)} (ok:HOk P w H h) (e:Rd H a (.dT kvs)):kvs.length≤sizeLine∧(a == sysModules)=false ∧
  ∃ xs,KT H kvs xs∧h.DictOfH (tupleKind (mixKind P w)) a xs:=by
 obtain ⟨z,y,xs,r,o,es,ep,h1,h2,h3,h4,h5⟩:=(show ObjOk P w H h a (.dT kvs) from rd_of ok e)
 refine ⟨z,y,xs,r,o,es,ep,h1,h2,h3,h4,fun x hx=>?_,h5⟩
 have all:∀ {l:List (List Key × V)} {m:List (List Key × Addr × Value)},KT H l m→∀ x∈m,(tupleKind (mixKind P w)).is h x.1 x.2.1:=by
  intro l m q
  induction q with
  | nil=>intro x hx;exact nomatch hx
  | @cons p q ps qs hq t ih =>
   intro x hx
   rcases List.mem_cons.mp hx with e | hx
   ·subst e
    exact key_of ok (by rw [← hq.1];exact hq.2.1)
   ·exact ih x hx
 exact all r x hx
theorem dt_of {kvs:List (List Key × V)} (ok:HOk P w H h) (e:H a=some (.dT kvs)):kvs.length≤sizeLine∧(a == sysModules)=false ∧
  ∃ xs,KT H kvs xs∧h.DictOfH (tupleKind (mixKind P w)) a xs:=dt_rd ok (.inl e)
end
def DGet (H:Hp) (a:Addr) (y:V) (r:Option V):Prop :=
 (∃ kvs k,Rd H a (.dK kvs)∧y=kV k∧r=valV kvs k)∨∃ kvs k b,Rd H a (.dT kvs)∧y=.ref b∧H b=some (.tup (k.map kV))∧r=valV kvs k
def DPut (H:Hp) (a:Addr) (y v:V) (H':Hp):Prop :=
 (∃ kvs k,H a=some (.dK kvs)∧y=kV k∧kvs.length < sizeLine∧H'=upd H a (.dK (putK kvs k v))) ∨
 ∃ kvs k b,H a=some (.dT kvs)∧y=.ref b∧H b=some (.tup (k.map kV))∧kvs.length < sizeLine∧H'=upd H a (.dT (putK kvs k v))
theorem DGet.k {H:Hp} {a:Addr} {kvs:List (Key × V)} {k:Key} (e:H a=some (.dK kvs)):DGet H a (kV k) (valV kvs k):=.inl ⟨kvs,k,.inl e,rfl,rfl⟩
theorem DPut.k {H:Hp} {a:Addr} {kvs:List (Key × V)} {k:Key} {v:V} (e:H a=some (.dK kvs)) (hl:kvs.length < sizeLine):DPut H a (kV k) v (upd H a (.dK (putK kvs k v))):=.inl ⟨kvs,k,e,rfl,hl,rfl⟩
section
variable {X:Cx} {pins:List (Addr × Obj)} {σ:St} {H:Hp} {s:Shared} {a:Addr} {y v:V} {u r:Value} {o:Option V} {A:Around} {E:Value→Shared→Prop}
theorem Inv.big (I:Inv X pins σ H s):sysModules < s.heap.objs.size:=by
 have h:mainGlobals < s.heap.objs.size:=(I.mod.glob.keeps I.bk).lt
 exact Nat.lt_trans (by decide) h
theorem d_getItem {Q:Value→Shared→Prop} (hu:A.units+1 < cLine) (I:Inv X pins σ H s) (g:DGet H a y (some v)) (ry:RelV y u) (h:∀ w' s',Inv X pins σ H s'→RelV v w'→Q w' s') :
  wpAny (model X.prog X.w) A (getItem (.ref a) u) Q E s:=by
 rcases g with ⟨kvs,k,e,ey,l⟩ | ⟨kvs,k,b,e,ey,eb,l⟩
 ·subst ey
  obtain ⟨z,hd,vs,rel,dd⟩:=dk_rd I.hok e
  obtain ⟨w',hw,rw'⟩:=RelO.some_of (v:=v) (o:=valueAt vs k) (by rw [l];exact rel.val k)
  exact wpAny_getItem_of (kV_is ry) dd.mapOf hw (h w' _ (I.tok _) rw')
 ·subst ey
  cases (show u=Value.ref b from ry)
  obtain ⟨z,hd,xs,rel,dd⟩:=dt_rd I.hok e
  obtain ⟨w',hw,rw'⟩:=RelO.some_of (v:=v) (o:=(atKey xs k).map (·.2)) (by rw [l];exact rel.val k)
  obtain ⟨p,hp,hp2⟩:=Option.map_eq_some_iff.mp hw
  refine wpAny_getItem_heap (tupleKind_room_in1 hu) (key_of I.hok eb) dd hp ?_
  rw [hp2]
  exact h w' _ (I.tok _) rw'
theorem d_notIn {Q:Value→Shared→Prop} (hu:A.units+1 < cLine) (I:Inv X pins σ H s) (g:DGet H a y o) (ry:RelV y u) (h:∀ s',Inv X pins σ H s'→Q (.bool (!o.isSome)) s') :
  wpAny (model X.prog X.w) A (compareOp .NotIn u (.ref a)) Q E s:=by
 rcases g with ⟨kvs,k,e,ey,l⟩ | ⟨kvs,k,b,e,ey,eb,l⟩
 ·subst ey
  obtain ⟨z,hd,vs,rel,dd⟩:=dk_rd I.hok e
  refine wpAny_notIn_of (kV_is ry) hd dd.mapOf ?_
  rw [← (rel.val k).isSome_eq,← l]
  exact h _ (I.tok _)
 ·subst ey
  cases (show u=Value.ref b from ry)
  obtain ⟨z,hd,xs,rel,dd⟩:=dt_rd I.hok e
  refine wpAny_notIn_heap (tupleKind_room_in1 hu) (key_of I.hok eb) hd dd ?_
  have q:=(rel.val k).isSome_eq
  rw [Option.isSome_map] at q
  rw [← q,← l]
  exact h _ (I.tok _)
theorem d_write {h':Heap} {t':Nat} {ob:HO} (I:Inv X pins σ H s) (mu:Mut (H a)) (hs:Heap.SameBut a s.heap h') (he:∃ q,h'.get? a=some q) (new:ObjOk X.prog X.w (upd H a ob) h' a ob) :
  Inv X pins σ (upd H a ob) { s with heap:=h',toks:=t' } :=
 I.write (x:=a) (e:=a) mu (.inl rfl) (fun b q hb z=>(hs.2 b hb).trans z) he new
theorem dk_new {P:Program} {w:World} {H':Hp} {h':Heap} {kvs:List (Key × V)} {vs:List (Key × Value)} (z:kvs.length≤sizeLine) (hd:(a == sysModules)=false) (rel:KV kvs vs) (dd:h'.DictOf (mixKind P w) a vs) :
  ObjOk P w H' h' a (.dK kvs):=⟨z,hd,vs,rel,dd⟩
theorem d_setItem {H':Hp} {Q:Unit→Shared→Prop} (hu:A.units+1 < cLine) (I:Inv X pins σ H s) (g:DPut H a y v H') (ry:RelV y u) (rv:RelV v r) (h:∀ s',Inv X pins σ H' s'→Q () s') :
  wpAny (model X.prog X.w) A (setItem (.ref a) u r) Q E s:=by
 rcases g with ⟨kvs,k,e,ey,l,eH⟩ | ⟨kvs,k,b,e,ey,eb,l,eH⟩
 ·subst ey eH
  obtain ⟨z,hd,vs,rel,dd⟩:=dk_of I.hok e
  have hz:vs.length≤sizeLine:=by rw [← rel.length];exact z
  have hl:(putK kvs k v).length≤sizeLine:=by have:=length_putK kvs k v;omega
  refine wpAny_setItem_pairs (hsz:=hz) (kV_is ry) dd fun h' dd' hs=>h _ ?_
  have he:∃ q,h'.get? a=some q:=let ⟨q,_,_,hq,_⟩:=dd';⟨q,hq⟩
  exact d_write I (by rw [e];exact True.intro) hs he (dk_new hl hd (rel.put k rv) dd')
 ·subst ey eH
  cases (show u=Value.ref b from ry)
  obtain ⟨z,hd,xs,rel,dd⟩:=dt_of I.hok e
  have hz:xs.length≤sizeLine:=by rw [← Paired.length rel];exact z
  have hl:(putK kvs k v).length≤sizeLine:=by have:=length_putK kvs k v;omega
  refine wpAny_setItem_heap (hsz:=hz) (tupleKind_room_in1 hu) (key_of I.hok eb) dd fun h' dd' hs=>h _ ?_
  obtain ⟨q,es,ep,hq,h2,h3,h4,_,h5⟩:=dd'
  refine d_write I (by rw [e];exact True.intro) hs ⟨q,hq⟩ ⟨hl,hd,_,(rel.put k eb rv).keeps fun c ys ec=>?_,q,es,ep,hq,h2,h3,h4,h5⟩
  rw [upd_ne (ne_of ec e (fun z=>nomatch z))]
  exact ec
end
def NoSl (i:Expr):Prop:=∀ ov iv,subscripted i false ov iv=operate [ov,iv] (getItem ov iv)
theorem subD_of {prog:Program} {w:World} {A:Around} {E:Value→Shared→Prop} {s:Shared} {env:Env} {value slice:Expr} {pos:Pos} {T id:String} {Q:Value→Shared→Prop}
  (hl:typeLookup (.type T) "__getitem__"=pure (some (.builtin id))) (hs:NoSl slice)
  (h:wpAny (model prog w) A (eval value env) (fun o s₁=>wpAny (model prog w) A (eval slice env) (fun i s₂=>s₂.TypeIs o T∧wpAny (model prog w) A (getItem o i) Q E s₂) E s₁) E s) :
  wpAny (model prog w) A (eval (.Subscript value slice pos) env) Q E s:=by
 refine Subscript_ (wpAny_mono h (fun o s₁ h₁=>wpAny_mono h₁ (fun i s₂ h₂=>?_) fun _ _ x=>x) fun _ _ x=>x)
 obtain ⟨hT,h₂⟩:=h₂
 unfold subscriptTail
 refine wpAny_bind ?_
 rw [getitemInPython_of_ne hT.not_modules]
 refine wpAny_bind (wpAny_specialOf hT hl ?_)
 have fin:wpAny (model prog w) A (subscripted slice false o i) (fun r s₃=>wpAny (model prog w) A (letTemporaryGo value o r >>= fun _=>pure r) Q E s₃) E s₂:=by
  rw [hs o i]
  exact wpAny_operating (wpAny_mono h₂ (fun r s₃ h₃=>wpAny_bind (wpAny_letTemporaryGo (wpAny_pure h₃))) fun _ _ x=>x)
 first
  | exact wpAny_pure (wpAny_bind fin)
  | exact wpAny_bind (wpAny_pure (wpAny_bind fin))
  | exact wpAny_bind fin
theorem dict_typeIs {X:Cx} {pins:List (Addr × Obj)} {σ:St} {H:Hp} {s:Shared} {a:Addr} {y:V} {o:Option V} (I:Inv X pins σ H s) (g:DGet H a y o):s.TypeIs (.ref a) "dict":=by
 rcases g with ⟨kvs,k,e,_,_⟩ | ⟨kvs,k,b,e,_,_,_⟩
 ·obtain ⟨_,_,vs,_,dd⟩:=dk_rd I.hok e
  exact dd.typeIs
 ·obtain ⟨_,_,xs,_,dd⟩:=dt_rd I.hok e
  exact dd.typeIs
def tDGet (td ty:TE):TE:=fun σ H Q=>td σ H fun x H1=>ty σ H1 fun y H2=>∃ a v,x=.ref a∧DGet H2 a y (some v)∧Q v H2
def tDNotIn (ty td:TE):TE:=fun σ H Q=>ty σ H fun y H1=>td σ H1 fun x H2=>∃ a o,x=.ref a∧DGet H2 a y o∧Q (.bl (!o.isSome)) H2
def sDPut (td ty tv:TE):TS:=fun D σ H=>tv σ H fun v H1=>td σ H1 fun x H2=>ty σ H2 fun y H3=>∃ a H4,x=.ref a∧DPut H3 a y v H4∧D.nx σ H4
section
variable {X:Cx} {o i e value:Expr} {pos pos' tpos:Pos} {td ty tv:TE}
theorem pe_dget (hu:X.A.units+1 < cLine) (ho:PE X o td) (hi:PE X i ty) (hs:NoSl i):PE X (.Subscript o i pos) (tDGet td ty):=by
 intro pins s σ H Q I h
 refine subD_of PySem.F.slot_dict_getitem.lookup hs (thn (ho pins s σ H _ I h) fun u s1 ⟨x,H1,I1,rx,q1⟩=>thn (hi pins s1 σ H1 _ I1 q1) fun iv s2 ⟨y,H2,I2,ry,a,v,ex,g,q2⟩=>?_)
 subst ex
 obtain rfl:u=Value.ref a:=rx
 exact ⟨dict_typeIs I2 g,d_getItem hu I2 g ry fun w' s3 I3 rw'=>⟨v,H2,I3,rw',q2⟩⟩
theorem pc_dnotin (hu:X.A.units+1 < cLine) (hi:PE X i ty) (ho:PE X o td):PC X .NotIn i o (tDNotIn ty td):=by
 intro pins s σ H Q I h
 refine thn (hi pins s σ H _ I h) fun iv s1 ⟨y,H1,I1,ry,q1⟩=>thn (ho pins s1 σ H1 _ I1 q1) fun u s2 ⟨x,H2,I2,rx,a,ov,ex,g,q2⟩=>?_
 subst ex
 obtain rfl:u=Value.ref a:=rx
 exact d_notIn hu I2 g ry fun s3 I3=>⟨.bl (!ov.isSome),H2,I3,rfl,q2⟩
theorem ps_dput (hu:X.A.units+1 < cLine) (ho:PE X o td) (hi:PE X i ty) (hv:PE X value tv) (hs:swapsWith value (some (.Subscript o i pos')) pos.line X.env=pure false) :
  PS X (.Assign [.Subscript o i pos'] value pos) (sDPut td ty tv):=by
 intro pins s σ H D I h
 refine wpAny_Assign_Subscript (thn (hv pins s σ H _ I h) fun r s1 ⟨v,H1,I1,rv,q1⟩=>thn (ho pins s1 σ H1 _ I1 q1) fun u s2 ⟨x,H2,I2,rx,q2⟩=>thn (hi pins s2 σ H2 _ I2 q2) fun iv s3 ⟨y,H3,I3,ry,a,H4,ex,g,q3⟩=>?_) hs
 subst ex
 obtain rfl:u=Value.ref a:=rx
 exact d_setItem hu I3 g ry rv fun s4 I4=>⟨σ,H4,I4,q3⟩
end
theorem dk_empty {P:Program} {w:World} {H:Hp} (h:Heap) (hb:sysModules < h.objs.size):ObjOk P w H (h.push { cls:=.type "dict",data:=.dict #[] }) h.objs.size (.dK []) :=
 ⟨Nat.zero_le _,beq_eq_false_iff_ne.mpr (Ne.symm (Nat.ne_of_lt hb)),[],.nil,Heap.DictOf.new h⟩
def tDNewK:TE:=fun _ H Q=>∀ p,H p=none→Q (.ref p) (upd H p (.dK []))
section
variable {X:Cx} {pos:Pos}
theorem pe_dnewK:PE X (.Dict [] [] pos) tDNewK:=fun pins s σ H Q I h =>
 wpAny_Dict_empty ⟨.ref s.heap.objs.size,_,I.laid (a:=s.heap.objs.size) (o:=.dK []) (t':=s.toks) (fun _ _ q=>Heap.get?_push_of_some _ q) (Nat.le_refl _) (dk_empty s.heap I.big),rfl,h _ (I.hok.fresh (Nat.le_refl _))⟩
end
end L2
namespace L2
open PySem PySem.Spec PyProof.Rows
section
variable {X:Cx} {pins:List (Addr × Obj)} {σ:St} {H:Hp} {s:Shared} {h':Heap}
theorem Inv.turnedL {t':Nat} {ch:List Addr} (I:Inv X pins σ H s) (k:∀ b o,b ∉ ch→s.heap.get? b=some o→h'.get? b=some o) (hf:∀ b∈ch,FpOk X pins H b):Inv X pins σ H { s with heap:=h',toks:=t' }:=by
 have nit:∀ b u,H b=some u→b ∉ ch:=fun b u e z=>by
  have q:=(hf b z).1
  rw [q] at e;cases e
 refine I.step (g':=s.gens) (d':=s.drawn) (ch:=ch) (fun b hb=>⟨(hf b hb).2.2.2.1,(hf b hb).2.1,(hf b hb).2.2.2.2.1,(hf b hb).2.2.2.2.2⟩) (fun b o _ _ hc e _=>k b o hc e) (fun b o _ _ hc e _=>⟨o.slots,k b o hc e⟩)
  (fun _ _ _ _ n=>n) (fun b o hc e=>⟨o,k b o hc e⟩) (fun _ _ e=>e) (fun _ _ _ e=>e) (fun b ps e=>⟨#[],by rw [e];simp⟩) (fun m hm=>?_) (fun b u e=>?_) I.bare
 ·obtain ⟨o,es,ep,ho,r⟩:=hm
  exact ⟨o,es,ep,k _ o (fun z=>(hf _ z).2.1 rfl) ho,r⟩
 ·refine (I.hok b u e).stay (fun c v hc q=>k c v ?_ q) (fun _ q=>q) fun _ _ q=>q
  rcases hc with z | z
  ·rw [z];exact nit b u e
  ·exact nit c _ z
theorem Inv.turnedNew {t':Nat} {ch:List Addr} {T:Addr} {ob:HO} (I:Inv X pins σ H s) (k:∀ b o,b ∉ ch→s.heap.get? b=some o→h'.get? b=some o) (hf:∀ b∈ch,FpOk X pins H b) (hT:s.heap.objs.size≤T)
  (new:ObjOk X.prog X.w (upd H T ob) h' T ob):Inv X pins σ (upd H T ob) { s with heap:=h',toks:=t' }:=by
 have hn:H T=none:=I.hok.fresh hT
 have nit:∀ b u,H b=some u→b ∉ ch:=fun b u e z=>by
  have q:=(hf b z).1
  rw [q] at e;cases e
 refine I.step (g':=s.gens) (d':=s.drawn) (ch:=ch) (fun b hb=>⟨(hf b hb).2.2.2.1,(hf b hb).2.1,(hf b hb).2.2.2.2.1,(hf b hb).2.2.2.2.2⟩) (fun b o _ _ hc e _=>k b o hc e) (fun b o _ _ hc e _=>⟨o.slots,k b o hc e⟩)
  (fun b o _ e n=>?_) (fun b o hc e=>⟨o,k b o hc e⟩) (fun b xs e=>?_) (fun b o u e=>?_) (fun b ps e=>⟨#[],?_⟩) (fun m hm=>?_) (fun b u e=>?_) I.bare
 ·rw [upd_ne (Nat.ne_of_lt (Nat.lt_of_lt_of_le (Heap.lt_size e) hT))];exact n
 ·rw [upd_ne (ne_of_none e hn)];exact e
 ·rw [upd_ne (ne_of_none e hn)];exact e
 ·rw [upd_ne (ne_of_none e hn),e];simp
 ·obtain ⟨o,es,ep,ho,r⟩:=hm
  exact ⟨o,es,ep,k _ o (fun z=>(hf _ z).2.1 rfl) ho,r⟩
 ·by_cases hb:b=T
  ·subst hb
   rw [upd_same] at e
   cases e
   exact new
  ·rw [upd_ne hb] at e
   refine (I.hok b u e).stay (fun c v hc q=>k c v ?_ q) (fun c q=>by rw [upd_ne (ne_of_none q hn)];exact q) fun c xs q=>by rw [upd_ne (ne_of_none q hn)];exact q
   rcases hc with z | z
   ·rw [z];exact nit b u e
   ·exact nit c _ z
end
section
variable {X:Cx}
theorem pi_one {tg:Expr} {pins:List (Addr × Obj)} {σ:St} {H:Hp} {s:Shared} {R:It→Hp→Prop} {J:It} {tn:Nat→Heap→Prop} {tk:Nat} (I:Inv X pins σ H s) (o:Obj)
  (T:Turn X.prog X.w X.K tg J [s.heap.objs.size] s.heap.objs.size tn) (st:tn 0 (s.heap.push o)) (q:R J H):PIE X pins σ tg R (.ref s.heap.objs.size) { s with heap:=s.heap.push o,toks:=tk }:=by
 refine ⟨s.heap.objs.size,[s.heap.objs.size],tn,J,H,rfl,I.kept fun b ob e=>Heap.get?_push_of_some _ e,T,st,fun b hb=>?_,q⟩
 have e:b=s.heap.objs.size:=by simpa using hb
 subst e
 exact I.fpOk (Nat.le_refl _) (I.hok.fresh (Nat.le_refl _))
end
def Itc (lo c:Int) (n:Nat):It:=⟨fun i _=>i < n,fun i H x H'=>H'=H∧x=.int (lo+(i:Nat)*c),fun i _=>n≤i⟩
theorem turn_rangeC {P:Program} {w:World} {K:PySem.W.Frag} {tg:Expr} (it:Addr) (lo c:Int) (n:Nat):Turn P w K tg (Itc lo c n) [it] it (fun i h=>IsRangeIter h it (lo+(i:Nat)*c) ((n:Int) - (i:Nat)) c) where
 mem:=by simp
 obj:=fun i h st b hb=>by
  have e:b=it:=by simpa using hb
  subst e
  exact ⟨_,st,fun v z=>nomatch z⟩
 keep:=fun i h h' st k=>k it (by simp) _ st
 item:=by
  intro X hP hw hK hc i pins s σ H E I hf st hg
  subst hP hw hK
  obtain ⟨f0,f1,f2,f3,f4,f5⟩:=hf it (by simp)
  have W:=Walks.range (prog:=X.prog) (w:=X.w) (I.ok.hd hc) it lo c n
  refine W.item i s _ _ hg st fun v h' tk hv st' kk=>?_
  obtain ⟨t,rfl⟩:=hv
  have I1:Inv X pins σ H { s with heap:=h',toks:=tk }:=I.turned (fun b o hb e=>kk b o (by simpa using hb) e) f0 f1 f3 f4 f5
  exact ⟨_,rfl,go_of (s:={ s with heap:=h',toks:=tk }) (n:="range_iterator") st' rfl rfl (by decide) ⟨.int (lo+(i:Nat)*c),H,I1,⟨t,rfl⟩,⟨rfl,rfl⟩,st',fun b hb=>(hf b hb).1⟩⟩
 done:=by
  intro X hP hw hK hc i pins s σ H E I hf st hg
  subst hP hw hK
  obtain ⟨f0,f1,f2,f3,f4,f5⟩:=hf it (by simp)
  exact wpAny_pyNext_range_end (I.ok.hd hc) st (by have:n≤i:=hg;omega) fun h' eb=>⟨rfl,I.turned (t':=s.toks) (fun b o hb e=>eb b o hb e) f0 f1 f3 f4 f5⟩
 self:=fun A i s Q E st h=>wpAny_pyIter_rangeiter st h
def RgC (i j c:Int) (n:Nat):Prop:=c≠0∧c.natAbs < 1073741824∧Builtin.Range.small i j c=true∧Builtin.Range.rangeSize i j c=n
theorem RgC.neg {i j:Int} (ha:-(2 ^ 62)≤i) (ha':i < 2 ^ 62) (hb:-(2 ^ 62)≤j) (hb':j < 2 ^ 62):RgC i j (-1) (i - j).toNat :=
 ⟨by decide,by decide,PySem.W.small_down ha ha' hb hb',PySem.W.rangeSize_downNat i j⟩
def iRng3 (ta:TA):TI:=fun σ H R=>ta σ H fun vs H1=>∃ (i j c:Int) (n:Nat),vs=[.int i,.int j,.int c]∧RgC i j c n∧R (Itc i c n) H1
section
variable {X:Cx} {tg:Expr}
theorem pi_range3 {a b c:Expr} {ta:TA} {p pos:Pos} (hg:Gl X "range") (hm:X.mg "range"=none) (ha:PA X [a,b,c] ta)
  (hs:starEach [a,b,c] X.env=(false,eval a X.env)::starEach [b,c] X.env:=by rfl) (hpl:(backTo pos (starEach [b,c] X.env)).any (·.1)=false:=by rfl) :
  PI X tg (.Call (.Name "range" p) [a,b,c] [] pos) (iRng3 ta):=by
 intro pins s σ H R I h
 refine Call_ (ld_blt I hg hm boot_range (PyProof.Rows.callWith_type1 (thn (ha pos pins s σ H _ I h) fun us s1 ⟨vs,H1,I1,r1,q1⟩=>?_) hs hpl))
 obtain ⟨i,j,k,n,e,⟨c0,c1,c2,c3⟩,q⟩:=q1
 subst e
 cases r1 with
 | cons r rr =>
  cases rr with
  | cons r' rr =>
   cases rr with
   | cons r'' rr =>
    cases rr
    obtain ⟨t,rfl⟩:=r
    obtain ⟨t',rfl⟩:=r'
    obtain ⟨t'',rfl⟩:=r''
    refine call_range_3 c0 ?_ (.inl (PyProof.noPylong_small c1))
    refine wpAny_pyIter_range (IsRange.new ..) c2 ?_
    have I2:Inv X pins σ H1 { s1 with heap:=s1.heap.push { cls:=.type "range",data:=.fields #[.int i t,.int j t',.int k t''] } }:=I1.kept (t':=s1.toks) fun b o e=>Heap.get?_push_of_some _ e
    refine pi_one (tk:=s1.toks) I2 _ (turn_rangeC _ i k n) ?_ q
    have e1:i+((0:Nat):Int)*k=i:=by simp
    have e2:(n:Int) - ((0:Nat):Int)=Builtin.Range.rangeSize i j k:=by rw [c3];simp
    show IsRangeIter _ _ (i+((0:Nat):Int)*k) ((n:Int) - ((0:Nat):Int)) k
    rw [e1,e2]
    exact Heap.get?_push_size _ rfl
end
theorem for_rangeC {lo c:Int} {n:Nat} {g:TG} {tb:TS} {D:Ends} {σ:St} {H:Hp} (Pv:Nat→St→Hp→Prop) (h0:Pv 0 σ H)
  (hs:∀ i σ H,i < n→Pv i σ H→g (.int (lo+(i:Nat)*c)) σ H fun σ2 H2=>tb { D with nx:=Pv (i+1),ct:=Pv (i+1),bk:=D.nx } σ2 H2) (hd:∀ σ H,Pv n σ H→D.nx σ H) :
  ∃ W:Nat→Nat→St→Hp→Prop,(∃ m,W 0 m σ H)∧∀ i m σ H,W i m σ H →
   ((Itc lo c n).stop i H∧D.nx σ H)∨((Itc lo c n).go i H∧∃ N:St→Hp→Prop,(∀ σ' H',N σ' H'→∃ m',m' < m∧W (i+1) m' σ' H')∧∀ x H',(Itc lo c n).yld i H x H'→g x σ H' fun σ2 H2=>tb { D with nx:=N,ct:=N,bk:=D.nx } σ2 H2):=by
 refine ⟨fun i m σ H=>m=n - i∧i≤n∧Pv i σ H,⟨n,by simp,Nat.zero_le _,h0⟩,?_⟩
 rintro i m σ H ⟨rfl,hi,p⟩
 by_cases hlt:i < n
 ·refine .inr ⟨hlt,Pv (i+1),fun σ' H' p'=>⟨n - (i+1),by omega,rfl,hlt,p'⟩,fun x H' y=>?_⟩
  obtain ⟨e,y⟩:=y
  subst e y
  exact hs i σ _ hlt p
 ·have e:i=n:=by omega
  subst e
  exact .inl ⟨Nat.le_refl _,hd σ H p⟩
def Ite (K:PySem.W.Frag) (a:Addr):It :=
 ⟨fun i H=>∃ (xs:List V) (x:V),SqL K H a xs∧xs[i]?=some x,fun i H v H'=>∃ T x,v=.ref T∧H T=none∧H'=upd H T (.tup [.int (i:Nat),x])∧∀ xs,SqL K H a xs→xs[i]?=some x,fun i H=>∃ xs:List V,SqL K H a xs∧xs.length≤i⟩
theorem turn_enum {P:Program} {w:World} {K:PySem.W.Frag} {elts:List Expr} {kk:Nat} {tpos:Pos} (a e it:Addr) :
  Turn P w K (.Tuple elts kk tpos) (Ite K a) [e,it] e (fun i h=>(∃ old,IsEnum h e it ((i:Nat):Int) old)∧h.IsListIter it a i∧e≠it) where
 mem:=by simp
 obj:=fun i h st b hb=>by
  obtain ⟨⟨old,he⟩,⟨o,ho,hc,hd⟩,_⟩:=st
  have e':b=e∨b=it:=by simpa using hb
  rcases e' with z | z
  ·rw [z];exact ⟨_,he,fun v q=>nomatch q⟩
  ·rw [z];exact ⟨o,ho,fun v q=>by rw [hd] at q;cases q⟩
 keep:=fun i h h' st k=>let ⟨⟨old,he⟩,hi,hne⟩:=st;⟨⟨old,k e (by simp) _ he⟩,hi.at fun o q=>k it (by simp) o q,hne⟩
 item:=by
  intro X hP hw hK hc i pins s σ H E I hf st hg
  subst hP hw hK
  obtain ⟨⟨old,he⟩,hit,hne⟩:=st
  obtain ⟨xs,x,hq,hx⟩:=hg
  obtain ⟨its,rv,p,hz⟩:=I.list hq
  obtain ⟨u,hu,ru⟩:=rv.get hx
  have hel:e < s.heap.objs.size:=Heap.lt_size he
  have hil:it < s.heap.objs.size:=by obtain ⟨_,q,_⟩:=hit;exact Heap.lt_size q
  refine wpAny_pyNext_enum_item he hit p.isList (x:=u) (by simpa using hu) hne fun h' ho hit' hT hsz hk=>?_
  refine ⟨_,rfl,wpAny_letOwnedTupleGo_enum (s:={ s with heap:=h',toks:=s.toks+1 }) ho fun h'' he' sb=>?_⟩
  have hT2:h''.get? s.heap.objs.size=some { cls:=.type "tuple",data:=.seq #[.int i s.toks,u] }:=(sb.2 _ (Nat.ne_of_gt hel)).trans hT
  have new:ObjOk X.prog X.w (upd H s.heap.objs.size (.tup [.int (i:Nat),x])) h'' s.heap.objs.size (.tup [.int (i:Nat),x]) :=
   ⟨by show 2≤sizeLine;decide,[.int i s.toks,u],.cons ⟨_,rfl⟩ (.cons ru .nil),⟨_,hT2,rfl,_,rfl⟩⟩
  have I1:Inv X pins σ (upd H s.heap.objs.size (.tup [.int (i:Nat),x])) { s with heap:=h'',toks:=s.toks+1 } :=
   I.turnedNew (ch:=[e,it]) (fun b ob hb q=>(sb.2 b (fun z=>hb (by simp [z]))).trans (hk b ob (fun z=>hb (by simp [z])) (fun z=>hb (by simp [z])) q)) hf (Nat.le_refl _) new
  refine ⟨.ref s.heap.objs.size,_,I1,rfl,⟨_,x,rfl,I.hok.fresh (Nat.le_refl _),rfl,fun ys hy=>by rw [I.list_inj hy hq];exact hx⟩,⟨⟨u,?_⟩,hit'.at fun o q=>(sb.2 it (Ne.symm hne)).trans q,hne⟩,fun b hb=>?_⟩
  ·have e1:((i+1:Nat):Int)=(i:Int)+1:=by omega
   rw [e1];exact he'
  ·have hb':b < s.heap.objs.size:=by
    have e':b=e∨b=it:=by simpa using hb
    rcases e' with z | z
    ·rw [z];exact hel
    ·rw [z];exact hil
   rw [upd_ne (Nat.ne_of_lt hb')]
   exact (hf b hb).1
 done:=by
  intro X hP hw hK hc i pins s σ H E I hf st hg
  subst hP hw hK
  obtain ⟨⟨old,he⟩,hit,hne⟩:=st
  obtain ⟨xs,hq,hx⟩:=hg
  obtain ⟨its,rv,p,hz⟩:=I.list hq
  obtain ⟨f0,f1,f2,f3,f4,f5⟩:=hf it (by simp)
  have hl:=rv.length
  exact wpAny_pyNext_enum_end (I.ok.hd hc) he hit p.isList (by simp;omega) fun h' eb=>⟨rfl,I.turned (t':=s.toks) (fun b o hb q=>eb b o hb q) f0 f1 f3 f4 f5⟩
 self:=fun A i s Q E st h=>let ⟨⟨_,he⟩,_⟩:=st;wpAny_pyIter_enum he h
def iEnum (K:PySem.W.Frag) (ta:TA):TI:=fun σ H R=>ta σ H fun vs H1=>∃ a xs,vs=[.ref a]∧SqL K H1 a xs∧R (Ite K a) H1
theorem pi_enum {X:Cx} {e:Expr} {ta:TA} {p pos tpos:Pos} {elts:List Expr} {kk:Nat} (hg:Gl X "enumerate") (hm:X.mg "enumerate"=none) (ha:PA X [e] ta) (hs:starEach [e] X.env=[(false,eval e X.env)]:=by rfl) :
  PI X (.Tuple elts kk tpos) (.Call (.Name "enumerate" p) [e] [] pos) (iEnum X.K ta):=by
 intro pins s σ H R I h
 refine Call_ (ld_blt I hg hm boot_enumerate (PyProof.Rows.callWith_type1 (thn (ha pos pins s σ H _ I h) fun us s1 ⟨vs,H1,I1,r1,q1⟩=>?_) hs rfl))
 obtain ⟨a,xs,ex,hq,q⟩:=q1
 subst ex
 cases r1 with
 | cons r rr =>
  cases rr
  cases r
  obtain ⟨its,rv,p',hz⟩:=I1.list hq
  refine call_enumerate_list p'.isList fun h' he hit hsz hk=>wpAny_pyIter_enum he ?_
  have I2:Inv X pins σ H1 { s1 with heap:=h' }:=I1.kept (t':=s1.toks) hk
  refine ⟨s1.heap.objs.size+1,[s1.heap.objs.size+1,s1.heap.objs.size],_,_,H1,rfl,I2,turn_enum a (s1.heap.objs.size+1) s1.heap.objs.size,⟨⟨.none,he⟩,hit,Nat.succ_ne_self _⟩,fun b hb=>?_,q⟩
  have e':b=s1.heap.objs.size+1∨b=s1.heap.objs.size:=by simpa using hb
  have hle:s1.heap.objs.size≤b:=by
   rcases e' with z | z
   ·rw [z];exact Nat.le_add_right _ _
   ·rw [z];exact Nat.le_refl _
  exact I1.fpOk hle (I1.hok.fresh hle)
theorem boot_zip5:bootBuiltins "zip"=some (.type "zip"):=by decide +kernel
def Itz (K:PySem.W.Frag) (a b:Addr):It :=
 ⟨fun i H=>∃ (xs ys:List V) (x y:V),SqL K H a xs∧SqL K H b ys∧xs[i]?=some x∧ys[i]?=some y,
  fun i H v H'=>∃ T x y,v=.ref T∧H T=none∧H'=upd H T (.tup [x,y])∧(∀ xs,SqL K H a xs→xs[i]?=some x)∧∀ ys,SqL K H b ys→ys[i]?=some y,
  fun i H=>∃ xs ys:List V,SqL K H a xs∧SqL K H b ys∧(xs.length≤i∨ys.length≤i)⟩
theorem turn_zip {P:Program} {w:World} {K:PySem.W.Frag} {elts:List Expr} {kk:Nat} {tpos:Pos} {a b z TI TO i1 i2:Addr} (D:ZipApart z TI TO i1 i2 a b) :
  Turn P w K (.Tuple elts kk tpos) (Itz K a b) [z,TI,TO,i1,i2] z (fun i h=>IsZip h z TI TO .none∧IsPair h TI (.ref i1) (.ref i2)∧(∃ x y,IsPair h TO x y)∧h.IsListIter i1 a i∧h.IsListIter i2 b i) where
 mem:=by simp
 obj:=fun i h st c hc=>by
  obtain ⟨hz,hTI,⟨x,y,hTO⟩,⟨o1,e1,_,d1⟩,⟨o2,e2,_,d2⟩⟩:=st
  have e':c=z∨c=TI∨c=TO∨c=i1∨c=i2:=by simpa using hc
  rcases e' with q | q | q | q | q
  ·rw [q];exact ⟨_,hz,fun v q=>nomatch q⟩
  ·rw [q];exact ⟨_,hTI,fun v q=>nomatch q⟩
  ·rw [q];exact ⟨_,hTO,fun v q=>nomatch q⟩
  ·rw [q];exact ⟨o1,e1,fun v q=>by rw [d1] at q;cases q⟩
  ·rw [q];exact ⟨o2,e2,fun v q=>by rw [d2] at q;cases q⟩
 keep:=fun i h h' st k=>by
  obtain ⟨hz,hTI,⟨x,y,hTO⟩,h1,h2⟩:=st
  exact ⟨k z (by simp) _ hz,k TI (by simp) _ hTI,⟨x,y,k TO (by simp) _ hTO⟩,h1.at fun o q=>k i1 (by simp) o q,h2.at fun o q=>k i2 (by simp) o q⟩
 item:=by
  intro X hP hw hK hc i pins s σ H E I hf st hg
  subst hP hw hK
  obtain ⟨hz,hTI,⟨x0,y0,hTO⟩,h1,h2⟩:=st
  obtain ⟨xs,ys,x,y,hqx,hqy,hx,hy⟩:=hg
  obtain ⟨its,rv,p,_⟩:=I.list hqx
  obtain ⟨its2,rv2,p2,_⟩:=I.list hqy
  obtain ⟨u,hu,ru⟩:=rv.get hx
  obtain ⟨u2,hu2,ru2⟩:=rv2.get hy
  have hzl:z < s.heap.objs.size:=Heap.lt_size hz
  refine wpAny_pyNext_zip_item D hz hTI hTO h1 h2 p.isList p2.isList (x:=u) (y:=u2) (by simpa using hu) (by simpa using hu2) fun h' z' TO' h1' h2' hT hsz hk=>?_
  refine ⟨_,rfl,wpAny_letOwnedTupleGo_zip (s:={ s with heap:=h' }) z' fun h'' z'' sb=>?_⟩
  have hT2:h''.get? s.heap.objs.size=some { cls:=.type "tuple",data:=.seq #[u,u2] }:=(sb.2 _ (Nat.ne_of_gt hzl)).trans hT
  have new:ObjOk X.prog X.w (upd H s.heap.objs.size (.tup [x,y])) h'' s.heap.objs.size (.tup [x,y]) :=
   ⟨by show 2≤sizeLine;decide,[u,u2],.cons ru (.cons ru2 .nil),⟨_,hT2,rfl,_,rfl⟩⟩
  have I1:Inv X pins σ (upd H s.heap.objs.size (.tup [x,y])) { s with heap:=h'' } :=
   I.turnedNew (t':=s.toks) (ch:=[z,TI,TO,i1,i2]) (fun c o hb q=>(sb.2 c (fun q'=>hb (by simp [q']))).trans (hk c o (fun q'=>hb (by simp [q'])) (fun q'=>hb (by simp [q'])) (fun q'=>hb (by simp [q'])) (fun q'=>hb (by simp [q'])) q)) hf (Nat.le_refl _) new
  refine ⟨.ref s.heap.objs.size,_,I1,rfl,⟨_,x,y,rfl,I.hok.fresh (Nat.le_refl _),rfl,fun l hl=>by rw [I.list_inj hl hqx];exact hx,fun l hl=>by rw [I.list_inj hl hqy];exact hy⟩,⟨z'',?_,⟨u,u2,?_⟩,?_,?_⟩,fun c hcm=>?_⟩
  ·exact (sb.2 _ D.TIz).trans (hk _ _ D.TIz D.TITO D.TIi1 D.TIi2 hTI)
  ·exact (sb.2 _ D.TOz).trans TO'
  ·exact h1'.at fun o q=>(sb.2 _ D.i1z).trans q
  ·exact h2'.at fun o q=>(sb.2 _ D.i2z).trans q
  ·have hlt:c < s.heap.objs.size:=by
    have e':c=z∨c=TI∨c=TO∨c=i1∨c=i2:=by simpa using hcm
    rcases e' with q | q | q | q | q
    ·rw [q];exact hzl
    ·rw [q];exact Heap.lt_size hTI
    ·rw [q];exact Heap.lt_size hTO
    ·rw [q];obtain ⟨_,e1,_⟩:=h1;exact Heap.lt_size e1
    ·rw [q];obtain ⟨_,e2,_⟩:=h2;exact Heap.lt_size e2
   rw [upd_ne (Nat.ne_of_lt hlt)]
   exact (hf c hcm).1
 done:=by
  intro X hP hw hK hc i pins s σ H E I hf st hg
  subst hP hw hK
  obtain ⟨hz,hTI,⟨x0,y0,hTO⟩,h1,h2⟩:=st
  obtain ⟨xs,ys,hqx,hqy,hend⟩:=hg
  obtain ⟨its,rv,p,_⟩:=I.list hqx
  obtain ⟨its2,rv2,p2,_⟩:=I.list hqy
  have l1:=rv.length
  have l2:=rv2.length
  have he:its.toArray[i]?=none∨its2.toArray[i]?=none:=by
   rcases hend with q | q
   ·exact .inl (by simp;omega)
   ·exact .inr (by simp;omega)
  exact wpAny_pyNext_zip_end (I.ok.hd hc) D hz hTI hTO h1 h2 p.isList p2.isList he fun h' hk=>⟨rfl,I.turnedL (t':=s.toks) (ch:=[z,TI,TO,i1,i2]) (fun c o hb q =>
   hk c o (fun q'=>hb (by simp [q'])) (fun q'=>hb (by simp [q'])) (fun q'=>hb (by simp [q'])) (fun q'=>hb (by simp [q'])) q) hf⟩
 self:=fun A i s Q E st h=>wpAny_pyIter_zip st.1 h
def iZip (K:PySem.W.Frag) (ta:TA):TI:=fun σ H R=>ta σ H fun vs H1=>∃ a b xs ys,vs=[.ref a,.ref b]∧SqL K H1 a xs∧SqL K H1 b ys∧R (Itz K a b) H1
theorem pi_zip {X:Cx} {e e2:Expr} {ta:TA} {p pos tpos:Pos} {elts:List Expr} {kk:Nat} (hg:Gl X "zip") (hm:X.mg "zip"=none) (ha:PA X [e,e2] ta)
  (hs:starEach [e,e2] X.env=(false,eval e X.env)::starEach [e2] X.env:=by rfl) (hpl:(backTo pos (starEach [e2] X.env)).any (·.1)=false:=by rfl) :
  PI X (.Tuple elts kk tpos) (.Call (.Name "zip" p) [e,e2] [] pos) (iZip X.K ta):=by
 intro pins s σ H R I h
 refine Call_ (ld_blt I hg hm boot_zip5 (PyProof.Rows.callWith_type1 (thn (ha pos pins s σ H _ I h) fun us s1 ⟨vs,H1,I1,r1,q1⟩=>?_) hs hpl))
 obtain ⟨a,b,xs,ys,ex,hqx,hqy,q⟩:=q1
 subst ex
 cases r1 with
 | cons r rr =>
  cases rr with
  | cons r' rr =>
   cases rr
   cases r
   cases r'
   obtain ⟨its,rv,p1,_⟩:=I1.list hqx
   obtain ⟨its2,rv2,p2,_⟩:=I1.list hqy
   have la:a < s1.heap.objs.size:=p1.lt
   have lb:b < s1.heap.objs.size:=p2.lt
   refine call_zip_2 p1.isList p2.isList fun h' hz hTI hTO h1 h2 hsz hk=>wpAny_pyIter_zip hz ?_
   have I2:Inv X pins σ H1 { s1 with heap:=h' }:=I1.kept (t':=s1.toks) hk
   refine ⟨s1.heap.objs.size+4,[s1.heap.objs.size+4,s1.heap.objs.size+2,s1.heap.objs.size+3,s1.heap.objs.size,s1.heap.objs.size+1],_,_,H1,rfl,I2,turn_zip (PySem.W.ktu_apart s1.heap.objs.size a b la lb),⟨hz,hTI,⟨_,_,hTO⟩,h1,h2⟩,fun c hcm=>?_,q⟩
   have e':c=s1.heap.objs.size+4∨c=s1.heap.objs.size+2∨c=s1.heap.objs.size+3∨c=s1.heap.objs.size∨c=s1.heap.objs.size+1:=by simpa using hcm
   have hle:s1.heap.objs.size≤c:=by
    rcases e' with z | z | z | z | z
    ·rw [z];exact Nat.le_add_right _ _
    ·rw [z];exact Nat.le_add_right _ _
    ·rw [z];exact Nat.le_add_right _ _
    ·rw [z];exact Nat.le_refl _
    ·rw [z];exact Nat.le_add_right _ _
   exact I1.fpOk hle (I1.hok.fresh hle)
end L2
section
namespace L2
open PySem PySem.Spec PyProof.Rows
open PySem.W (WData Codec OpenSpec Well WellAll ReadsW ReadsAllW)
mutual
inductive Dw (K:PySem.W.Frag) (H:Hp):V→WData→Prop
 | non:Dw K H .non .none
 | bl (b:Bool):Dw K H (.bl b) (.bool b)
 | int (i:Int):Dw K H (.int i) (.int i)
 | str (x:Str):Dw K H (.str x) (.str x)
 | byt (b:Array UInt8):Dw K H (.byt b) (.bytes b.toList)
 | lst {a:Addr} {xs:List V} {ds:List WData}:SqL K H a xs→DwAll K H xs ds→Dw K H (.ref a) (.list ds)
 | tup {a:Addr} {xs:List V} {ds:List WData}:SqT K H a xs→DwAll K H xs ds→Dw K H (.ref a) (.tuple ds)
inductive DwAll (K:PySem.W.Frag) (H:Hp):List V→List WData→Prop
 | nil:DwAll K H [] []
 | cons {v:V} {vs:List V} {d:WData} {ds:List WData}:Dw K H v d→DwAll K H vs ds→DwAll K H (v::vs) (d::ds)
end
theorem dw_ints {K:PySem.W.Frag} {H:Hp}:∀ ns:List Int,DwAll K H (ns.map V.int) (ns.map WData.int)
 | []=>.nil
 | n::r=>.cons (.int n) (dw_ints r)
theorem ints_dw {K:PySem.W.Frag} {H:Hp}:∀ (ns:List Int) (xs:List V),DwAll K H xs (ns.map WData.int)→xs=ns.map V.int
 | [],xs,h=>by
  cases h
  rfl
 | n::r,xs,h=>by
  cases h with
  | cons h1 h2 =>
   cases h1
   rw [ints_dw r _ h2] <;> rfl
section
variable {P:Program} {w:World} {K:PySem.W.Frag} {H:Hp} {h:Heap} {R:PySem.W.WRecords} {cl:Str→Option Addr}
theorem sqL_at {a:Addr} {xs:List V} (hok:HOk P w H h) (KX:K.In h) (q:SqL K H a xs):∃ (its:List Value) (o:Obj) (n:Nat),Vals xs its∧h.get? a=some o∧o.cls=.type "list"∧o.data=.seq its.toArray n:=by
 rcases q with q | ⟨o,its,n,e,hc,_,hd,_,hv⟩
 ·obtain ⟨_,its,n,hv,e⟩:=(show ObjOk P w H h a (.lst xs) from q.ok hok)
  exact ⟨its,_,n,hv,e,rfl,rfl⟩
 ·exact ⟨its.toList,o,n,hv,KX _ _ e,hc,by simp [hd]⟩
theorem sqT_at {a:Addr} {xs:List V} (hok:HOk P w H h) (KX:K.In h) (q:SqT K H a xs):∃ (its:List Value) (o:Obj) (n:Nat),Vals xs its∧h.get? a=some o∧o.cls=.type "tuple"∧o.data=.seq its.toArray n:=by
 rcases q with q | ⟨o,its,n,e,hc,hd,_,hv⟩
 ·obtain ⟨_,its,hv,o,e,hc,n,hd⟩:=(show ObjOk P w H h a (.tup xs) from q.ok hok)
  exact ⟨its,o,n,hv,e,hc,hd⟩
 ·exact ⟨its.toList,o,n,hv,KX _ _ e,hc,by simp [hd]⟩
mutual
theorem Dw.reads (hok:HOk P w H h) (KX:K.In h):∀ (d:WData) (v:V) (u:Value),Dw K H v d→RelV v u→∃ as,ReadsW R cl h u d as
 | .none,_,_,x,r=>by
  cases x
  cases r
  exact ⟨_,ReadsW.none⟩
 | .bool b,_,_,x,r=>by
  cases x
  cases r
  exact ⟨_,ReadsW.bool b⟩
 | .int i,_,_,x,r=>by
  cases x
  obtain ⟨t,rfl⟩:=r
  exact ⟨_,ReadsW.int i t⟩
 | .str s,_,_,x,r=>by
  cases x
  obtain ⟨t,rfl⟩:=r
  exact ⟨_,ReadsW.str s t⟩
 | .bytes b,_,_,x,r=>by
  cases x
  obtain ⟨t,rfl⟩:=r
  exact ⟨_,ReadsW.bytes _ t⟩
 | .list ds,_,_,x,r=>by
  cases x with
  | lst hs ha =>
   cases r
   obtain ⟨its,o,n,rv,ho,hc,hd⟩:=sqL_at hok KX hs
   obtain ⟨as,hr⟩:=Dw.readsAll hok KX ds _ its ha rv
   exact ⟨_,ReadsW.list ho hc hd hr⟩
 | .tuple ds,_,_,x,r=>by
  cases x with
  | tup hs ha =>
   cases r
   obtain ⟨its,o,n,rv,ho,hc,hd⟩:=sqT_at hok KX hs
   obtain ⟨as,hr⟩:=Dw.readsAll hok KX ds _ its ha rv
   exact ⟨_,ReadsW.tuple ho hc hd hr⟩
 | .float _,_,_,x,_=>by cases x
 | .dict _,_,_,x,_=>by cases x
 | .bytearray _,_,_,x,_=>by cases x
 | .set _,_,_,x,_=>by cases x
 | .frozenset _,_,_,x,_=>by cases x
 | .obj _ _,_,_,x,_=>by cases x
theorem Dw.readsAll (hok:HOk P w H h) (KX:K.In h):∀ (ds:List WData) (vs:List V) (us:List Value),DwAll K H vs ds→Vals vs us→∃ as,ReadsAllW R cl h us ds as
 | [],_,_,x,r=>by
  cases x
  cases r
  exact ⟨_,ReadsAllW.nil⟩
 | d::ds,_,_,x,r=>by
  cases x with
  | cons h1 h2 =>
   cases r with
   | cons r1 r2 =>
    obtain ⟨as,q1⟩:=Dw.reads hok KX d _ _ h1 r1
    obtain ⟨bs,q2⟩:=Dw.readsAll hok KX ds _ _ h2 r2
    exact ⟨_,ReadsAllW.cons q1 q2⟩
end
end
mutual
def plW:WData→Bool
 | .none=>true
 | .bool _=>true
 | .int _=>true
 | .str _=>true
 | .bytes _=>true
 | .list xs=>plWs xs
 | .tuple xs=>plWs xs
 | _=>false
def plWs:List WData→Bool
 | []=>true
 | x::r=>plW x && plWs r
end
theorem plWs_map {α:Type} {f:α→WData} (h:∀ a,plW (f a)=true):∀ l:List α,plWs (l.map f)=true
 | []=>rfl
 | x::r=>by
  show (plW (f x) && plWs (r.map f))=true
  rw [h x,plWs_map h r] <;> rfl
theorem pl_enc:∀ (c:Codec) (a:c.denote),plW (c.enc a)=true
 | .unit,_=>rfl
 | .bool,_=>rfl
 | .int _ _,_=>rfl
 | .nat _ _,_=>rfl
 | .u8,_=>rfl
 | .bytes _ _,_=>rfl
 | .text _ _ _ _,_=>rfl
 | .list _ _ c,a=>plWs_map (fun x=>pl_enc c x) a
 | .pair c d,a=>by
  show (plW (c.enc a.1) && (plW (d.enc a.2) && true))=true
  rw [pl_enc c a.1,pl_enc d a.2] <;> rfl
 | .triple c d e,a=>by
  show (plW (c.enc a.1) && (plW (d.enc a.2.1) && (plW (e.enc a.2.2) && true)))=true
  rw [pl_enc c a.1,pl_enc d a.2.1,pl_enc e a.2.2] <;> rfl
 | .option c,none=>rfl
 | .option c,some x=>pl_enc c x
theorem pl_encAll:∀ (cs:List Codec) (a:Codec.denoteAll cs),plWs (Codec.encAll cs a)=true
 | [],_=>rfl
 | c::cs,a=>by
  show (plW (c.enc a.1) && plWs (Codec.encAll cs a.2))=true
  rw [pl_enc c a.1,pl_encAll cs a.2] <;> rfl
theorem weight_mem:∀ {xs:List WData} {d:WData},d∈xs→d.weight≤WData.weightAll xs
 | [],d,h=>absurd h (by simp)
 | x::r,d,h=>by
  show d.weight≤x.weight+1+WData.weightAll r
  rcases List.mem_cons.mp h with e | m
  ·rw [e]
   omega
  ·have z:=weight_mem m
   omega
def toV:Value→V
 | .none=>.non
 | .bool b=>.bl b
 | .int i _=>.int i
 | .str x _=>.str x
 | .bytes b _=>.byt b
 | .ref a=>.ref a
 | _=>.non
def OkU (A:List Addr):Value→Prop
 | .none=>True
 | .bool _=>True
 | .int _ _=>True
 | .str _ _=>True
 | .bytes _ _=>True
 | .ref a=>a∈A
 | _=>False
theorem OkU.mono {A B:List Addr} (h:∀ a∈A,a∈B):∀ {u:Value},OkU A u→OkU B u:=fun {u} x=>by
 cases u with
 | ref a=>exact h a x
 | none=>trivial
 | bool b=>trivial
 | int i t=>trivial
 | str s t=>trivial
 | bytes b t=>trivial
 | _=>exact False.elim x
theorem relV_toV {A:List Addr} {u:Value} (x:OkU A u):RelV (toV u) u:=by
 cases u with
 | ref a=>rfl
 | none=>rfl
 | bool b=>rfl
 | int i t=>exact ⟨t,rfl⟩
 | str s t=>exact ⟨t,rfl⟩
 | bytes b t=>exact ⟨t,rfl⟩
 | _=>exact False.elim x
theorem vals_toV {A:List Addr}:∀ {vs:List Value},(∀ u∈vs,OkU A u)→Vals (vs.map toV) vs
 | [],_=>.nil
 | u::r,h=>.cons (relV_toV (h u (List.mem_cons_self ..))) (vals_toV fun x hx=>h x (List.mem_cons_of_mem _ hx))
def ArgOb (h:Heap) (A:List Addr) (a:Addr):Prop:=∃ vs:List Value,vs.length≤sizeLine∧(∀ u∈vs,OkU A u) ∧
 (h.get? a=some { cls:=.type "list",data:=.seq vs.toArray }∨h.get? a=some { cls:=.type "tuple",data:=.seq vs.toArray })
theorem ArgOb.mono {h:Heap} {A B:List Addr} {a:Addr} (k:∀ a∈A,a∈B) (x:ArgOb h A a):ArgOb h B a:=by
 obtain ⟨vs,h1,h2,h3⟩:=x
 exact ⟨vs,h1,fun u hu=>(h2 u hu).mono k,h3⟩
theorem wellAll_len {P:Params} {h:Heap}:∀ {vs:List Value} {ds:List WData},WellAll P h vs ds→vs.length=ds.length
 | _,_,.nil=>rfl
 | _,_,.cons _ b=>by
  show _+1=_+1
  rw [wellAll_len b]
theorem well_list {P:Params} {h:Heap} {v:Value} {ds:List WData} (x:Well P h v (.list ds)):∃ (a:Addr) (vs:List Value),v=.ref a∧h.get? a=some { cls:=.type "list",data:=.seq vs.toArray }∧WellAll P h vs ds:=by
 cases x with
 | list ho hall=>exact ⟨_,_,rfl,ho,hall⟩
theorem well_tuple {P:Params} {h:Heap} {v:Value} {ds:List WData} (x:Well P h v (.tuple ds)):∃ (a:Addr) (vs:List Value),v=.ref a∧h.get? a=some { cls:=.type "tuple",data:=.seq vs.toArray }∧WellAll P h vs ds:=by
 cases x with
 | tuple ho hall=>exact ⟨_,_,rfl,ho,hall⟩
theorem well_cons {P:Params} {h:Heap} {us:List Value} {d:WData} {ds:List WData} (x:WellAll P h us (d::ds)):∃ (v:Value) (vs:List Value),us=v::vs∧Well P h v d∧WellAll P h vs ds:=by
 cases x with
 | cons a b=>exact ⟨_,_,rfl,a,b⟩
theorem line_of {n:Nat} (h:n≤1048576):n≤sizeLine:=Nat.le_trans h (by decide)
section
variable {P:Params} {h:Heap}
mutual
theorem area_one:∀ (d:WData) (v:Value),Well P h v d→plW d=true→d.weight≤1048576→∃ A:List Addr,OkU A v∧∀ a∈A,ArgOb h A a
 | .none,_,x,_,_=>by
  cases x
  exact ⟨[],trivial,fun a m=>absurd m (by simp)⟩
 | .bool b,_,x,_,_=>by
  cases x
  exact ⟨[],trivial,fun a m=>absurd m (by simp)⟩
 | .int i,_,x,_,_=>by
  cases x
  exact ⟨[],trivial,fun a m=>absurd m (by simp)⟩
 | .str s,_,x,_,_=>by
  cases x
  exact ⟨[],trivial,fun a m=>absurd m (by simp)⟩
 | .bytes b,_,x,_,_=>by
  cases x
  exact ⟨[],trivial,fun a m=>absurd m (by simp)⟩
 | .list ds,_,x,p,z=>by
  obtain ⟨a,vs,rfl,ho,hall⟩:=well_list x
  have z2:WData.weightAll ds≤1048576:=z
  obtain ⟨A,h1,h2⟩:=area_all ds _ hall p fun d hd=>Nat.le_trans (weight_mem hd) z2
  have k:∀ b∈A,b∈a::A:=fun b hb=>List.mem_cons_of_mem _ hb
  refine ⟨a::A,List.mem_cons_self ..,fun b hb=>?_⟩
  rcases List.mem_cons.mp hb with e | m
  ·rw [e]
   exact ⟨vs,line_of (by rw [wellAll_len hall];exact Nat.le_trans (PySem.W.length_le_weightAllW ds) z2),fun u hu=>(h1 u hu).mono k,.inl ho⟩
  ·exact (h2 b m).mono k
 | .tuple ds,_,x,p,z=>by
  obtain ⟨a,vs,rfl,ho,hall⟩:=well_tuple x
  have z2:WData.weightAll ds≤1048576:=z
  obtain ⟨A,h1,h2⟩:=area_all ds _ hall p fun d hd=>Nat.le_trans (weight_mem hd) z2
  have k:∀ b∈A,b∈a::A:=fun b hb=>List.mem_cons_of_mem _ hb
  refine ⟨a::A,List.mem_cons_self ..,fun b hb=>?_⟩
  rcases List.mem_cons.mp hb with e | m
  ·rw [e]
   exact ⟨vs,line_of (by rw [wellAll_len hall];exact Nat.le_trans (PySem.W.length_le_weightAllW ds) z2),fun u hu=>(h1 u hu).mono k,.inr ho⟩
  ·exact (h2 b m).mono k
 | .float _,_,_,p,_=>Bool.noConfusion (show false=true from p)
 | .dict _,_,_,p,_=>Bool.noConfusion (show false=true from p)
 | .bytearray _,_,_,p,_=>Bool.noConfusion (show false=true from p)
 | .set _,_,_,p,_=>Bool.noConfusion (show false=true from p)
 | .frozenset _,_,_,p,_=>Bool.noConfusion (show false=true from p)
 | .obj _ _,_,_,p,_=>Bool.noConfusion (show false=true from p)
theorem area_all:∀ (ds:List WData) (vs:List Value),WellAll P h vs ds→plWs ds=true→(∀ d∈ds,d.weight≤1048576)→∃ A:List Addr,(∀ u∈vs,OkU A u)∧∀ a∈A,ArgOb h A a
 | [],_,x,_,_=>by
  cases x
  exact ⟨[],fun u m=>absurd m (by simp),fun a m=>absurd m (by simp)⟩
 | d::ds,_,x,p,z=>by
  obtain ⟨v,vs,rfl,x1,x2⟩:=well_cons x
  have q:plW d=true∧plWs ds=true:=Bool.and_eq_true_iff.mp p
  obtain ⟨A,a1,a2⟩:=area_one d v x1 q.1 (z d (List.mem_cons_self ..))
  obtain ⟨B,b1,b2⟩:=area_all ds vs x2 q.2 fun e he=>z e (List.mem_cons_of_mem _ he)
  have kA:∀ b∈A,b∈A++B:=fun b hb=>List.mem_append.mpr (.inl hb)
  have kB:∀ b∈B,b∈A++B:=fun b hb=>List.mem_append.mpr (.inr hb)
  refine ⟨A++B,fun u hu=>?_,fun b hb=>?_⟩
  ·rcases List.mem_cons.mp hu with e | m
   ·rw [e]
    exact a1.mono kA
   ·exact (b1 u m).mono kB
  ·rcases List.mem_append.mp hb with m | m
   ·exact (a2 b m).mono kA
   ·exact (b2 b m).mono kB
end
end
def hoOf (o:Obj):Option HO:=match o.data with
 | .seq vs _=>if (o.cls == Value.type "list")=true then some (.frz o (.lst (vs.toList.map toV))) else some (.frz o (.tup (vs.toList.map toV)))
 | _=>none
def argH (K:PySem.W.Frag) (h:Heap) (A:List Addr):Hp:=fun b=>if b∈A then (if (K.lookup b).isNone=true then (h.get? b).bind hoOf else none) else none
def OnlyF (H:Hp):Prop:=∀ b,H b=none∨∃ o u,H b=some (.frz o u)
theorem hoOf_lst (vs:List Value):hoOf { cls:=.type "list",data:=.seq vs.toArray }=some (.frz { cls:=.type "list",data:=.seq vs.toArray } (.lst (vs.map toV))):=by
 show (if (Value.type "list" == Value.type "list")=true then some (HO.frz { cls:=.type "list",data:=.seq vs.toArray } (.lst (vs.toArray.toList.map toV))) else some (HO.frz { cls:=.type "list",data:=.seq vs.toArray } (.tup (vs.toArray.toList.map toV))))=_
 rw [if_pos (beq_self_eq_true _)]
theorem hoOf_tup (vs:List Value):hoOf { cls:=.type "tuple",data:=.seq vs.toArray }=some (.frz { cls:=.type "tuple",data:=.seq vs.toArray } (.tup (vs.map toV))):=by
 show (if (Value.type "tuple" == Value.type "list")=true then some (HO.frz { cls:=.type "tuple",data:=.seq vs.toArray } (.lst (vs.toArray.toList.map toV))) else some (HO.frz { cls:=.type "tuple",data:=.seq vs.toArray } (.tup (vs.toArray.toList.map toV))))=_
 rw [if_neg (by decide)]
section
variable {P:Program} {w:World} {K:PySem.W.Frag} {h:Heap} {A:List Addr}
theorem argH_at {b:Addr} {o:Obj} (hb:b∈A) (hk:K.lookup b=none) (e:h.get? b=some o):argH K h A b=hoOf o:=by
 unfold argH
 rw [if_pos hb,hk,if_pos (show (none:Option Obj).isNone=true from rfl),e] <;> rfl
theorem of_argH {b:Addr} {u:HO} (q:argH K h A b=some u):b∈A∧K.lookup b=none:=by
 unfold argH at q
 by_cases hb:b∈A
 ·rw [if_pos hb] at q
  cases hk:K.lookup b with
  | none=>exact ⟨hb,rfl⟩
  | some o =>
   rw [hk,if_neg (by simp)] at q
   cases q
 ·rw [if_neg hb] at q
  cases q
theorem argH_is (ar:∀ a∈A,ArgOb h A a) {b:Addr} {u:HO} (q:argH K h A b=some u):K.lookup b=none∧∃ vs:List Value,vs.length≤sizeLine∧(∀ u∈vs,OkU A u) ∧
    ((h.get? b=some { cls:=.type "list",data:=.seq vs.toArray }∧u=.frz { cls:=.type "list",data:=.seq vs.toArray } (.lst (vs.map toV))) ∨
     (h.get? b=some { cls:=.type "tuple",data:=.seq vs.toArray }∧u=.frz { cls:=.type "tuple",data:=.seq vs.toArray } (.tup (vs.map toV)))):=by
  obtain ⟨hb,hk⟩:=of_argH q
  obtain ⟨vs,h1,h2,h3⟩:=ar b hb
  refine ⟨hk,vs,h1,h2,?_⟩
  rcases h3 with e | e
  · rw [argH_at hb hk e,hoOf_lst] at q
    exact .inl ⟨e,(Option.some.inj q).symm⟩
  · rw [argH_at hb hk e,hoOf_tup] at q
    exact .inr ⟨e,(Option.some.inj q).symm⟩
theorem argH_only (ar:∀ a∈A,ArgOb h A a):OnlyF (argH K h A):=fun b=>by
 cases q:argH K h A b with
 | none=>exact .inl rfl
 | some u =>
  obtain ⟨_,vs,_,_,⟨_,e⟩ | ⟨_,e⟩⟩:=argH_is ar q
  ·exact .inr ⟨_,_,by rw [e]⟩
  ·exact .inr ⟨_,_,by rw [e]⟩
theorem argH_ok (ar:∀ a∈A,ArgOb h A a):HOk P w (argH K h A) h:=fun b u q=>by
 obtain ⟨_,vs,h1,h2,⟨e,rfl⟩ | ⟨e,rfl⟩⟩:=argH_is ar q
 ·exact ⟨e,by rw [List.length_map];exact h1,vs,_,vals_toV h2,e⟩
 ·exact ⟨e,by rw [List.length_map];exact h1,vs,vals_toV h2,_,e,rfl,_,rfl⟩
theorem seq_inj {c c':Value} {vs us:List Value} (e:(some { cls:=c,data:=.seq vs.toArray }:Option Obj)=some { cls:=c',data:=.seq us.toArray }):c=c'∧vs=us:=by
 have e1:=Option.some.inj e
 have e2:c=c':=congrArg Obj.cls e1
 have e3:Data.seq vs.toArray=Data.seq us.toArray:=congrArg Obj.data e1
 injection e3 with e4
 refine ⟨e2,?_⟩
 have e5:=congrArg Array.toList e4
 simpa using e5
theorem argL (KX:K.In h) (ar:∀ a∈A,ArgOb h A a) {a:Addr} {vs:List Value} (ha:a∈A) (e:h.get? a=some { cls:=.type "list",data:=.seq vs.toArray }):(∀ u∈vs,OkU A u)∧SqL K (argH K h A) a (vs.map toV):=by
 obtain ⟨us,h1,h2,h3⟩:=ar a ha
 have hu:us=vs:=by
  rcases h3 with q | q
  ·rw [e] at q
   exact (seq_inj q).2.symm
  ·rw [e] at q
   exact absurd (Value.type.inj (seq_inj q).1) (by decide)
 subst hu
 refine ⟨h2,?_⟩
 cases hk:K.lookup a with
 | none=>exact .inl (.inr ⟨_,by rw [argH_at ha hk e,hoOf_lst]⟩)
 | some o =>
  have e2:=KX a o hk
  rw [e] at e2
  obtain rfl:=Option.some.inj e2
  exact .inr ⟨_,us.toArray,_,hk,rfl,rfl,rfl,by rw [List.size_toArray];exact h1,by simpa using vals_toV h2⟩
theorem argT (KX:K.In h) (ar:∀ a∈A,ArgOb h A a) {a:Addr} {vs:List Value} (ha:a∈A) (e:h.get? a=some { cls:=.type "tuple",data:=.seq vs.toArray }):(∀ u∈vs,OkU A u)∧SqT K (argH K h A) a (vs.map toV):=by
 obtain ⟨us,h1,h2,h3⟩:=ar a ha
 have hu:us=vs:=by
  rcases h3 with q | q
  ·rw [e] at q
   exact absurd (Value.type.inj (seq_inj q).1) (by decide)
  ·rw [e] at q
   exact (seq_inj q).2.symm
 subst hu
 refine ⟨h2,?_⟩
 cases hk:K.lookup a with
 | none=>exact .inl (.inr ⟨_,by rw [argH_at ha hk e,hoOf_tup]⟩)
 | some o =>
  have e2:=KX a o hk
  rw [e] at e2
  obtain rfl:=Option.some.inj e2
  exact .inr ⟨_,us.toArray,_,hk,rfl,rfl,by rw [List.size_toArray];exact h1,by simpa using vals_toV h2⟩
mutual
theorem dw_one {Pm:Params} (KX:K.In h) (ar:∀ a∈A,ArgOb h A a):∀ (d:WData) (v:Value),Well Pm h v d→plW d=true→OkU A v→Dw K (argH K h A) (toV v) d
 | .none,_,x,_,_=>by
  cases x
  exact .non
 | .bool b,_,x,_,_=>by
  cases x
  exact .bl b
 | .int i,_,x,_,_=>by
  cases x
  exact .int i
 | .str s,_,x,_,_=>by
  cases x
  exact .str s
 | .bytes b,_,x,_,_=>by
  cases x
  have z:=Dw.byt (K:=K) (H:=argH K h A) b.toArray
  exact z
 | .list ds,_,x,p,hu=>by
  obtain ⟨a,vs,rfl,ho,hall⟩:=well_list x
  obtain ⟨h2,hs⟩:=argL KX ar hu ho
  exact .lst hs (dw_all KX ar ds _ hall p h2)
 | .tuple ds,_,x,p,hu=>by
  obtain ⟨a,vs,rfl,ho,hall⟩:=well_tuple x
  obtain ⟨h2,hs⟩:=argT KX ar hu ho
  exact .tup hs (dw_all KX ar ds _ hall p h2)
 | .float _,_,_,p,_=>Bool.noConfusion (show false=true from p)
 | .dict _,_,_,p,_=>Bool.noConfusion (show false=true from p)
 | .bytearray _,_,_,p,_=>Bool.noConfusion (show false=true from p)
 | .set _,_,_,p,_=>Bool.noConfusion (show false=true from p)
 | .frozenset _,_,_,p,_=>Bool.noConfusion (show false=true from p)
 | .obj _ _,_,_,p,_=>Bool.noConfusion (show false=true from p)
theorem dw_all {Pm:Params} (KX:K.In h) (ar:∀ a∈A,ArgOb h A a):∀ (ds:List WData) (vs:List Value),WellAll Pm h vs ds→plWs ds=true→(∀ u∈vs,OkU A u)→DwAll K (argH K h A) (vs.map toV) ds
 | [],_,x,_,_=>by
  cases x
  exact .nil
 | d::ds,_,x,p,hu=>by
  obtain ⟨v,vs,rfl,x1,x2⟩:=well_cons x
  have q:plW d=true∧plWs ds=true:=Bool.and_eq_true_iff.mp p
  exact .cons (dw_one KX ar d v x1 q.1 (hu _ (List.mem_cons_self ..))) (dw_all KX ar ds vs x2 q.2 fun u m=>hu u (List.mem_cons_of_mem _ m))
end
end
theorem spec_call {P:Program} {w:World} {K:PySem.W.Frag} {mg mb:Str→Option Value} {CX:CXT} {k:Nat} {fa:Addr} {fd:FuncData} {ps:List Str} {sp:Sp} {s₁:Shared} {vals:List Value} {ds:List WData} {R:PySem.W.WRecords} {cl:Str→Option Addr} {d0:WData}
  (KX:K.In s₁.heap) (hns:s₁.heap.Ns mainGlobals mg) (hb:s₁.heap.Ns builtinsNs mb) (hbb:∀ x:Str,x≠"__name__"→mb x=bootBuiltins x) (hlim:s₁.heap.NoLimit) (hse:s₁.heap.NoSeer) (hg:s₁.gens=#[])
  (hwl:WellAll w.params s₁.heap vals ds) (hpl:plWs ds=true) (hwt:∀ d∈ds,d.weight≤1048576) (hr:Room k callerA)
  (F:∀ base:Heap,K.In base→base.Ns mainGlobals mg→FnOk P w K mg base CX k fa fd ps sp) (hbind:∀ (s:Shared) (us:List Value),us.length=ps.length→BindsTo s fd ⟨us,[]⟩ (ps.zip us)) (hlen:ds.length=ps.length)
  (hsp:∀ (H:Hp) (xs:List V),OnlyF H→DwAll K H xs ds→sp xs H (fun v H'=>Dw K H' v d0) fun _ _ _=>False)
  (hCX:∀ H e s',CX [] H s₁ (fun _ _ _=>False) e s'→False) :
  codeAny (model P w) callerA (.call (.ref fa) ⟨vals,[]⟩) (fun r s'=>∃ u as,r=.ok (.ret u)∧ReadsW R cl s'.heap u d0 as∧OldK s₁.heap s'.heap∧s'.os=s₁.os∧AllBare s'.gens) s₁:=by
 obtain ⟨A,ho,ar⟩:=area_all ds vals hwl hpl hwt
 have hO:OnlyF (argH K s₁.heap A):=argH_only ar
 have hok:HOk P w (argH K s₁.heap A) s₁.heap:=argH_ok ar
 have hS:=dw_all KX ar ds vals hwl hpl ho
 have hV:=vals_toV ho
 have hK:∀ b u,argH K s₁.heap A b=some u→K.lookup b=none:=fun b u q=>(argH_is ar q).1
 have noA:∀ {b:Addr} {o:Obj} {es:Array DictEntry} {ep:Nat},s₁.heap.get? b=some o→o.data=.dict es ep→argH K s₁.heap A b=none:=fun {b o es ep} e d=>by
  cases q:argH K s₁.heap A b with
  | none=>rfl
  | some u =>
   obtain ⟨_,vs,_,_,⟨e2,_⟩ | ⟨e2,_⟩⟩:=argH_is ar q
   ·rw [e2] at e
    cases e
    have d':Data.seq vs.toArray _=Data.dict es ep:=d
    cases d'
   ·rw [e2] at e
    cases e
    have d':Data.seq vs.toArray _=Data.dict es ep:=d
    cases d'
 have noM:∀ {b:Addr} {o:Obj},s₁.heap.get? b=some o→o.cls=.type "module"→argH K s₁.heap A b=none:=fun {b o} e d=>by
  cases q:argH K s₁.heap A b with
  | none=>rfl
  | some u =>
   obtain ⟨_,vs,_,_,⟨e2,_⟩ | ⟨e2,_⟩⟩:=argH_is ar q
   ·rw [e2] at e
    cases e
    have d':Value.type "list"=Value.type "module":=d
    injection d' with d'
    exact absurd d' (by decide)
   ·rw [e2] at e
    cases e
    have d':Value.type "tuple"=Value.type "module":=d
    injection d' with d'
    exact absurd d' (by decide)
 generalize argH K s₁.heap A=H at hO hok hS hK noA noM
 have base_of:∀ {b:Addr} {o:Obj},s₁.heap.get? b=some o→H b=none→(hidT s₁.heap H).get? b=some o:=fun e n=>hidT_get e n
 have nsK:∀ {b:Addr} {m:Str→Option Value},s₁.heap.Ns b m→(hidT s₁.heap H).Ns b m:=fun {b m} ⟨o,es,ep,e,d,r⟩=>⟨o,es,ep,base_of e (noA e d),d,r⟩
 have nK:∀ b o,K.lookup b=some o→H b=none:=fun b o e=>by
  cases q:H b with
  | none=>rfl
  | some u =>
   rw [hK b u q] at e
   cases e
 have hKb:K.In (hidT s₁.heap H):=fun b o e=>base_of (KX b o e) (nK b o e)
 have hM:Mod K mg (hidT s₁.heap H):=⟨hKb,nsK hns,⟨mb,nsK hb,hbb⟩,(let ⟨mc,h1,h2⟩:=hlim;⟨mc,nsK h1,h2⟩),⟨(let ⟨m1,h1,h2⟩:=hse.statics;⟨m1,nsK h1,h2⟩),(let ⟨m1,h1,h2⟩:=hse.mods;⟨m1,nsK h1,h2⟩),(let ⟨m1,h1,h2⟩:=hse.imp;⟨m1,nsK h1,h2⟩),(let ⟨m1,bm,ob,h1,h2,h3,h4,h5⟩:=hse.main;⟨m1,bm,ob,nsK h1,h2,base_of h3 (noM h3 h4),h4,h5⟩)⟩⟩
 have e0:Env0 P w K mg (hidT s₁.heap H) callerA [] s₁ H:=⟨rfl,hM,fun b o e=>of_hidT e,Nat.le_of_eq (hidT_size _ _),trivial,fun b hb=>absurd (show b∈([]:List Addr) from hb) (by simp),hok,.of_eq hg⟩
 have hl:vals.length=ps.length:=by rw [wellAll_len hwl];exact hlen
 refine codeAny_mono ((F _ hKb (nsK hns)).run callerA [] s₁ H ⟨vals,[]⟩ vals (vals.map toV) _ _ hr e0 (hbind s₁ vals hl) hV (hsp H _ hO hS)) fun r s' x=>?_
 cases r with
 | error e=>exact (hCX H e s' x).elim
 | ok fl =>
  cases fl with
  | next=>exact False.elim x
  | brk=>exact False.elim x
  | cont=>exact False.elim x
  | ret u =>
   obtain ⟨v,H',os,bare,un,hok',r',q⟩:=x
   have kept:∀ b o,s₁.heap.get? b=some o→s'.heap.get? b=some o:=fun b o e=>by
    cases q2:H b with
    | none=>exact un.keep b o e q2 (by intro z;exact absurd (show b∈([]:List Addr) from z) (by simp)) (by simp)
    | some u2 =>
     rcases hO b with z | ⟨ob,u3,z⟩
     ·rw [q2] at z
      cases z
     ·have z2:=un.frzs b ob _ z
      obtain ⟨e1,_⟩:=hok b _ z
      obtain ⟨e2,_⟩:=hok' b _ z2
      rw [e] at e1
      cases e1
      exact e2
   have KX':K.In s'.heap:=fun b o e=>kept b o (KX b o e)
   obtain ⟨as,hrd⟩:=Dw.reads (R:=R) (cl:=cl) hok' KX' d0 v u q r'
   exact ⟨u,as,rfl,hrd,OldK.of_keep kept,os,bare⟩
theorem layable_weight {ds:List WData} (h:WData.layableAll ds=true):∀ d∈ds,d.weight≤1048576:=fun d hd =>
 (PySem.W.layableW_iff.mp (List.all_eq_true.mp h d hd)).2.2
theorem encAll_len:∀ (cs:List Codec) (a:Codec.denoteAll cs),(Codec.encAll cs a).length=cs.length
 | [],_=>rfl
 | c::cs,a=>by
  show (Codec.encAll cs a.2).length+1=cs.length+1
  rw [encAll_len cs a.2]
theorem walk_spec {r:OpenSpec} {k:Nat} {q:Program} {loose:List Str} {XP:(Str→Option Value)→Heap→Prop} {YP:World→Heap→Prop} {d:DefRec} {K:Params→PySem.W.Frag} {CX:World→CXT} {ps:List Str} {sp:World→Sp}
  (himp:importsNone q=true) (hwell:r.wellSaid=true) (hdf:d.params.defaults=[]) (hlen:r.args.length=ps.length) (hr:Room k callerA)
  (hY:∀ (w:World) (h:Heap),YP w h→(K w.params).In h)
  (F:∀ (w:World) (mg:Str→Option Value) (fa:Addr) (h:Heap),YP w h→(K w.params).In h→h.Ns mainGlobals mg→mg d.name=some (.ref fa) →
   ∃ fd:FuncData,(∀ (s:Shared) (us:List Value),us.length=ps.length→BindsTo s fd ⟨us,[]⟩ (ps.zip us)) ∧
    ∀ base:Heap,(K w.params).In base→base.Ns mainGlobals mg→FnOk r.prog w (K w.params) mg base (CX w) k fa fd ps (sp w))
  (hsp:∀ (w:World) (H:Hp) (xs:List V) (a:Codec.denoteAll r.args),OnlyF H→Codec.withinAll r.args a=true→Codec.app r.args r.asked a=true→DwAll (K w.params) H xs (Codec.encAll r.args a) →
   sp w xs H (fun v H'=>Dw (K w.params) H' v (r.ret.enc (Codec.app r.args r.f a))) fun _ _ _=>False)
  (hCX:∀ (w:World) (H:Hp) (s:Shared) (e:Value) (s':Shared),CX w [] H s (fun _ _ _=>False) e s'→False) :
  PySem.W.WalkOS q loose XP YP r d [] (fun f vs=>PySem.call f vs):=by
 intro w s_0 s₁ mg mb G Y fa o pm cd doc dV kV ho hd hcd hD hmg hg args vals as hpre hlay hrd hwl hlo
 obtain ⟨a,e1,e2⟩:=PySem.W.os_pre_some hpre
 obtain ⟨e3,hwi⟩:=Codec.encAll_of_decAll r.args args a e1
 subst e3
 have KX:=hY w _ Y
 obtain ⟨fd,hb,hF⟩:=F w mg fa _ Y KX G.T.g hmg
 refine PySem.W.enter_call (codeAny_mono (spec_call (R:=[]) (cl:=classAt s_0.heap) (d0:=r.ret.enc (Codec.app r.args r.f a)) KX G.T.g G.T.b G.T.builtins G.T.nolimit (G.T.seer himp) hg hwl (pl_encAll _ _) (layable_weight hlay) hr hF hb (by rw [encAll_len];exact hlen)
  (fun H xs hO hS=>hsp w H xs a hO hwi e2 hS) fun H e s'=>hCX w H s₁ e s') fun r' s' hq=>?_)
 obtain ⟨u,as',rfl,h1,h2,h3,h4⟩:=hq
 exact ⟨.inl ⟨u,_,as',rfl,fun _=>rfl,h1,(OpenSpec.post_iff hwell hwi _ _).mpr rfl,fun z=>Bool.noConfusion (show false=true from z)⟩,h2,h3,h4⟩
theorem walk_specK {r:OpenSpec} {k:Nat} {q:Program} {loose:List Str} {XP:(Str→Option Value)→Heap→Prop} {YP:World→Heap→Prop} {d:DefRec} {K:Params→PySem.W.Frag} {CX:CXT} {ps:List Str} {sp:PySem.W.Frag→Sp}
  (himp:importsNone q=true) (hwell:r.wellSaid=true) (hdf:d.params.defaults=[]) (hlen:r.args.length=ps.length) (hr:Room k callerA)
  (hY:∀ (w:World) (h:Heap),YP w h→(K w.params).In h)
  (F:∀ (w:World) (mg:Str→Option Value) (fa:Addr) (h:Heap),YP w h→(K w.params).In h→h.Ns mainGlobals mg→mg d.name=some (.ref fa) →
   ∃ fd:FuncData,(∀ (s:Shared) (us:List Value),us.length=ps.length→BindsTo s fd ⟨us,[]⟩ (ps.zip us)) ∧
    ∀ base:Heap,(K w.params).In base→base.Ns mainGlobals mg→FnOk r.prog w (K w.params) mg base CX k fa fd ps (sp (K w.params)))
  (hsp:∀ (K:PySem.W.Frag) (H:Hp) (xs:List V) (a:Codec.denoteAll r.args),OnlyF H→Codec.withinAll r.args a=true→Codec.app r.args r.asked a=true→DwAll K H xs (Codec.encAll r.args a) →
   sp K xs H (fun v H'=>Dw K H' v (r.ret.enc (Codec.app r.args r.f a))) fun _ _ _=>False)
  (hCX:∀ (H:Hp) (s:Shared) (e:Value) (s':Shared),CX [] H s (fun _ _ _=>False) e s'→False) :
  PySem.W.WalkOS q loose XP YP r d [] (fun f vs=>PySem.call f vs) :=
 walk_spec (K:=K) (CX:=fun _=>CX) (sp:=fun w=>sp (K w.params)) himp hwell hdf hlen hr hY F (fun w H xs a h1 h2 h3 h4=>hsp (K w.params) H xs a h1 h2 h3 h4) fun _ H s e s'=>hCX H s e s'
end L2
end
section
namespace L2
open PySem PySem.Spec PyProof.Rows
def inClass (s:Stmt) (j:Nat):Stmt:=match s with
 | .ClassDef _ _ _ body _ _ _ _ _ _ _=>body.getD j (.Pass ⟨0,0,0,0⟩)
 | _=>.Pass ⟨0,0,0,0⟩
def defArgs (s:Stmt):Arguments:=match s with
 | .FunctionDef _ a _ _ _ _ _ _ _ _=>a
 | _=>{ posonlyargs:=[],args:=[],vararg:=none,kwonlyargs:=[],kw_defaults:=[],kwarg:=none,defaults:=[] }
def defBody (s:Stmt):List Stmt:=match s with
 | .FunctionDef _ _ b _ _ _ _ _ _ _=>b
 | _=>[]
def defScope (s:Stmt):Scope:=match s with
 | .FunctionDef _ _ _ _ _ _ sc _ _ _=>sc
 | _=>{ kind:=.function,names:=[],isGenerator:=false,isCoroutine:=false }
abbrev CX0:CXT:=fun _ _ _ _ _ _=>False
abbrev E0:XK:=fun _ _ _=>False
theorem pass0 {X:Cx}:Passes CX0 X E0:=fun _ _ _ _ _ _ _ h=>h.elim
structure Fun (K:PySem.W.Frag) (x qual:Str) (st:Stmt) (f:Addr) (fd:FuncData):Prop where
 ex:∃ (oc:Value) (od:Option Addr) (kV doc pm:Value) (an:Option Addr) (cdv ct:Value) (osl:Array (Option Value)),
  fd=PySem.W.fnOf x qual (defArgs st) (defBody st) (defScope st) .none kV doc pm an cdv ct∧K.lookup f=some ⟨oc,od,.func fd,osl⟩∧PySem.W.codeIn K cdv qual=true
 kp:PySem.W.keepIn K (.ref f)=true
section
variable {P:Program} {w:World} {K:PySem.W.Frag} {mg:Str→Option Value} {base:Heap}
theorem Fun.ok {x qual:Str} {st:Stmt} {f:Addr} {fd:FuncData} {N ps:List Str} {k:Nat} {sp:Sp} (F:Fun K x qual st f fd) (S:FnScope N ps (defScope st)) (len:∀ vs H Q E,sp vs H Q E→vs.length=ps.length)
  (hbody:∀ (cdv:Value) (A:Around) (outer:List Env) (s:Shared) (H:Hp) (vs:List V) (Q:VK) (E:XK),Room k (A.deeper (envOfC qual (defScope st) s.heap.objs.size f cdv))→sp vs H Q E →
   ∃ t,PSs (cxOf CX0 P w K mg base N qual (defScope st) f cdv A outer s H E).nox (defBody st) t∧t { nx:=fun _ H'=>Q .non H',rt:=Q } (start N vs) H):FnOk P w K mg base CX0 (k+1) f fd ps sp:=by
 obtain ⟨oc,od,kV,doc,pm,an,cdv,ct,osl,rfl,lk,hcd⟩:=F.ex
 refine fn_of lk hcd S len fun A outer s H vs Q E hr hsp=>?_
 obtain ⟨t,h,q⟩:=hbody cdv A outer s H vs Q E hr hsp
 exact ⟨t,h.nox,q⟩
theorem Fun.binds {x qual:Str} {st:Stmt} {f:Addr} {fd:FuncData} {ps:List Str} (F:Fun K x qual st f fd)
  (h:∀ (kV doc pm:Value) (an:Option Addr) (cdv ct:Value) (us:List Value),us.length=ps.length→bindArgs (PySem.W.fnOf x qual (defArgs st) (defBody st) (defScope st) .none kV doc pm an cdv ct) ⟨us,[]⟩=pure (ps.zip us)):Binds K fd ps []:=by
 obtain ⟨oc,od,kV,doc,pm,an,cdv,ct,osl,rfl,lk,hcd⟩:=F.ex
 exact .all (h kV doc pm an cdv ct)
theorem fun_mk {x qual:Str} {st:Stmt} {f:Addr} {oc:Value} {od an:Option Addr} {osl:Array (Option Value)} {kV doc pm cdv ct:Value} (l:K.lookup f=some ⟨oc,od,.func (PySem.W.fnOf x qual (defArgs st) (defBody st) (defScope st) .none kV doc pm an cdv ct),osl⟩)
  (c:PySem.W.codeIn K cdv qual=true) (k:PySem.W.keepIn K (.ref f)=true):Fun K x qual st f (PySem.W.fnOf x qual (defArgs st) (defBody st) (defScope st) .none kV doc pm an cdv ct):=⟨⟨oc,od,kV,doc,pm,an,cdv,ct,osl,rfl,l,c⟩,k⟩
end
theorem hu_of {A:Around} {k:Nat} (hr:Room k A):A.units+1 < cLine:=Nat.lt_of_le_of_lt (Nat.add_le_add_left (by decide:1≤64) _) hr.units
section
variable {X:Cx}
theorem pv (i:Nat) {x:Str} {pos:Pos} (hN:X.N[i]?=some x:=by rfl) (hv:Vis X.env.scope x:=by first | exact Or.inl rfl | exact Or.inr (Or.inl rfl) | exact Or.inr (Or.inr rfl)) (hd:(x == ("__debug__":Str))=false:=by decide)
  (hcd:(x == ("__classdict__":Str))=false:=by decide):PE X (.Name x pos) (tVar i):=pe_var hN hv hd hcd
end
theorem iteF {A B:Prop} (h:B):if false=true then A else B:=by
 rw [if_neg Bool.false_ne_true]
 exact h
theorem iteT {A B:Prop} (h:A):if true=true then A else B:=by
 rw [if_pos rfl]
 exact h
def Same (H H':Hp):Prop:=∀ b o,H b=some o→H' b=some o
theorem Same.refl (H:Hp):Same H H:=fun _ _ h=>h
theorem Same.trans {H H1 H2:Hp} (a:Same H H1) (b:Same H1 H2):Same H H2:=fun c o h=>b c o (a c o h)
theorem Same.free {H H':Hp} (e:Same H H') {l:Addr} (h:H' l=Option.none):H l=Option.none:=by
 cases q:H l with
 | none=>rfl
 | some o =>
  rw [e l o q] at h
  cases h
theorem Same.seq {K:PySem.W.Frag} {H H':Hp} {a:Addr} {xs:List V} (e:Same H H') (h:SqL K H a xs):SqL K H' a xs:=by
 rcases h with (h | ⟨o,h⟩) | h
 ·exact .inl (.inl (e _ _ h))
 ·exact .inl (.inr ⟨o,e _ _ h⟩)
 ·exact .inr h
section
variable {κ:Type} [DecidableEq κ]
theorem valV_not {kvs:List (κ × V)} {k:κ} (h:valV kvs k=none):¬ k∈kvs.map (·.1):=by
 intro m
 obtain ⟨p,hp,e⟩:=List.mem_map.mp m
 have q:(kvs.any fun kv=>decide (kv.1=k))=true:=List.any_eq_true.mpr ⟨p,hp,decide_eq_true e⟩
 rw [valV_any,h] at q
 exact absurd q (by simp)
theorem nd_snoc:∀ {l:List κ} {k:κ},l.Nodup→¬ k∈l→(l++[k]).Nodup
 | [],k,_,_=>by simp
 | a::r,k,h,hk=>by
  obtain ⟨h1,h2⟩:=List.nodup_cons.mp h
  show (a::(r++[k])).Nodup
  refine List.nodup_cons.mpr ⟨fun m=>?_,nd_snoc h2 fun m=>hk (List.mem_cons.mpr (Or.inr m))⟩
  rcases List.mem_append.mp m with q | q
  ·exact h1 q
  ·exact hk (List.mem_cons.mpr (Or.inl (List.mem_singleton.mp q).symm))
theorem nd_putK {kvs:List (κ × V)} {k:κ} (v:V) (hn:(kvs.map (·.1)).Nodup) (h:valV kvs k=none):((putK kvs k v).map (·.1)).Nodup:=by
 rw [putK_new v h,List.map_append]
 exact nd_snoc hn (valV_not h)
end
end L2
end
end
section
namespace L2
open PySem PySem.Spec PyProof.Rows
section
variable {prog:Program} {w:World} {A:Around} {E:Value→Shared→Prop} {s:Shared} {l:Addr} {its:List Value} {ns:List Int} {Q:Value→Shared→Prop}
theorem maxT_raw (hh:A.handled=none) (hl:s.heap.IsTuple l its.toArray) (hi:IntsAre its ns) (hne:0 < ns.length)
  (h:∀ h' tk M t',(∀ b o,s.heap.get? b=some o→h'.get? b=some o)→M∈ns→(∀ a,a∈ns→a≤M)→Q (.int M t') { s with heap:=h',toks:=tk }):wpAny (model prog w) A (call (.builtin "max") [.ref l]) Q E s:=by
 obtain ⟨xs,e⟩:=hi.allInts.items
 have hn:numsOf (intItems xs).toList=ns:=by rw [← e];exact hi.numsOf
 rw [nums_intItems] at hn
 subst hn
 rw [e] at hl
 have hsz:0 < xs.size:=by simpa using hne
 obtain ⟨o,ho,hc,n,hd⟩:=id hl
 have hnl:l≠s.heap.objs.size:=Nat.ne_of_lt (Heap.lt_size ho)
 refine call_max_walk (wpAny_pyIter_tuple hl ?_)
 refine ⟨s.heap.objs.size,_,_,_,_,_,_,rfl,Walks.tuple (A:=A.in1) hh s.heap.objs.size l hnl (intItems xs),⟨⟨_,Heap.get?_push_size _ rfl,rfl,rfl⟩,hl.at fun o e=>Heap.get?_push_of_some _ e⟩,fun b hb=>?_,by simpa [intItems] using hsz,CmpOf.ints_gt (numAt xs) (fun _ _=>intItems_at),fun v h' tk hP hk=>?_⟩
 ·rcases List.mem_cons.mp hb with rfl | hb
  ·exact Heap.lt_size (Heap.get?_push_size _ rfl)
  ·obtain rfl:=List.mem_singleton.mp hb
   exact Heap.lt_size (Heap.get?_push_of_some _ ho)
 ·obtain ⟨t,rfl⟩:=intItems_at hP
  have ez:(intItems xs).size=xs.size:=by simp [intItems]
  rw [ez]
  obtain ⟨h1,h2⟩:=argBest_gt (numAt xs) (xs.size - 1)
  refine h h' tk _ t (fun b o e=>hk b o (fun hb=>absurd (Heap.lt_size e) ((List.mem_singleton.mp hb) ▸ Nat.lt_irrefl _)) (Heap.get?_push_of_some _ e)) ?_ fun a ha=>?_
  ·rw [numAt_eq];exact PySem.getD_mem (by rw [List.length_map,Array.length_toList];omega)
  ·obtain ⟨j,hj,rfl⟩:=mem_getD ha
   rw [List.length_map,Array.length_toList] at hj
   rw [← numAt_eq];exact h2 j (by omega)
theorem minT_raw (hh:A.handled=none) (hl:s.heap.IsTuple l its.toArray) (hi:IntsAre its ns) (hne:0 < ns.length)
  (h:∀ h' tk M t',(∀ b o,s.heap.get? b=some o→h'.get? b=some o)→M∈ns→(∀ a,a∈ns→M≤a)→Q (.int M t') { s with heap:=h',toks:=tk }):wpAny (model prog w) A (call (.builtin "min") [.ref l]) Q E s:=by
 obtain ⟨xs,e⟩:=hi.allInts.items
 have hn:numsOf (intItems xs).toList=ns:=by rw [← e];exact hi.numsOf
 rw [nums_intItems] at hn
 subst hn
 rw [e] at hl
 have hsz:0 < xs.size:=by simpa using hne
 obtain ⟨o,ho,hc,n,hd⟩:=id hl
 have hnl:l≠s.heap.objs.size:=Nat.ne_of_lt (Heap.lt_size ho)
 refine call_min_walk (wpAny_pyIter_tuple hl ?_)
 refine ⟨s.heap.objs.size,_,_,_,_,_,_,rfl,Walks.tuple (A:=A.in1) hh s.heap.objs.size l hnl (intItems xs),⟨⟨_,Heap.get?_push_size _ rfl,rfl,rfl⟩,hl.at fun o e=>Heap.get?_push_of_some _ e⟩,fun b hb=>?_,by simpa [intItems] using hsz,CmpOf.ints_lt (numAt xs) (fun _ _=>intItems_at),fun v h' tk hP hk=>?_⟩
 ·rcases List.mem_cons.mp hb with rfl | hb
  ·exact Heap.lt_size (Heap.get?_push_size _ rfl)
  ·obtain rfl:=List.mem_singleton.mp hb
   exact Heap.lt_size (Heap.get?_push_of_some _ ho)
 ·obtain ⟨t,rfl⟩:=intItems_at hP
  have ez:(intItems xs).size=xs.size:=by simp [intItems]
  rw [ez]
  obtain ⟨h1,h2⟩:=argBest_lt (numAt xs) (xs.size - 1)
  refine h h' tk _ t (fun b o e=>hk b o (fun hb=>absurd (Heap.lt_size e) ((List.mem_singleton.mp hb) ▸ Nat.lt_irrefl _)) (Heap.get?_push_of_some _ e)) ?_ fun a ha=>?_
  ·rw [numAt_eq];exact PySem.getD_mem (by rw [List.length_map,Array.length_toList];omega)
  ·obtain ⟨j,hj,rfl⟩:=mem_getD ha
   rw [List.length_map,Array.length_toList] at hj
   rw [← numAt_eq];exact h2 j (by omega)
end
section
variable {X:Cx}
def rMaxT (K:PySem.W.Frag):List V→Hp→VK→Prop:=fun vs H Q=>∃ (a:Addr) (ns:List Int),vs=[V.ref a]∧SqT K H a (ns.map V.int)∧0 < ns.length∧∀ m,m∈ns→(∀ y,y∈ns→y≤m)→Q (.int m) H
def rMinT (K:PySem.W.Frag):List V→Hp→VK→Prop:=fun vs H Q=>∃ (a:Addr) (ns:List Int),vs=[V.ref a]∧SqT K H a (ns.map V.int)∧0 < ns.length∧∀ m,m∈ns→(∀ y,y∈ns→m≤y)→Q (.int m) H
theorem cr_maxT (hc:X.calm=true):CallR X (.builtin "max") (rMaxT X.K):=by
 intro pins s σ H vs us Q I r h
 obtain ⟨a,ns,rfl,hs,hne,q⟩:=h
 obtain ⟨its,rv,hl,_⟩:=I.tuple hs
 rw [Vals.ref1 r]
 exact maxT_raw (I.ok.hd hc) hl rv.ints hne fun h' tk m t' hk h1 h2=>⟨.int _,H,I.kept hk,⟨_,rfl⟩,q m h1 h2⟩
theorem cr_minT (hc:X.calm=true):CallR X (.builtin "min") (rMinT X.K):=by
 intro pins s σ H vs us Q I r h
 obtain ⟨a,ns,rfl,hs,hne,q⟩:=h
 obtain ⟨its,rv,hl,_⟩:=I.tuple hs
 rw [Vals.ref1 r]
 exact minT_raw (I.ok.hd hc) hl rv.ints hne fun h' tk m t' hk h1 h2=>⟨.int _,H,I.kept hk,⟨_,rfl⟩,q m h1 h2⟩
theorem op_mulB:OpR X (binaryOp .Mult) (rI IntMulOk fun i j=>.int (i*j)):=opI fun _ _ _ _ _ _ _ hc q=>mul_int q hc
theorem op_fdivP (hd:X.A.depth+Builtin.pylongFrames < recursionLimit) (ht:X.prog.given.tree=none) (hfr:X.stack=X.env::X.outer) (hg:X.env.scope.isGenerator=false) (hco:X.env.scope.isCoroutine=false) :
  OpR X (binaryOp .FloorDiv) (rI (fun _ j=>0 < j) fun i j=>.int (i / j)):=by
 intro pins s σ H x y v u Q I rx ry h
 obtain ⟨i,j,rfl,rfl,hc,q⟩:=h
 obtain ⟨t,rfl⟩:=rx
 obtain ⟨t',rfl⟩:=ry
 have h1:(0:Int) < j:=hc
 refine floordiv_int (by omega) ?_ (.inr (PylongRoom.of I.nolimit hd (SeerAt.of (env:=X.env) (l:=X.outer) (I.ok.mod.seer.keeps I.bk) ht (by rw [I.ok.frames,hfr]) hg hco I.ok.blt I.ok.glob)))
 rw [Int.fdiv_eq_ediv_of_nonneg i (by omega)]
 exact ⟨.int (i / j),H,I.tok _,⟨_,rfl⟩,q⟩
theorem mt_bits:MtR X "int.bit_length" (fun x xs H Q=>∃ i,x=.int i∧xs=[]∧Q (.int (Builtin.Int.intBits i:Nat)) H):=by
 intro pins s σ H x xs v us Q I rx rv h
 obtain ⟨i,rfl,rfl,q⟩:=h
 obtain ⟨t,rfl⟩:=rx
 cases rv
 exact call_int_bit_length ⟨.int _,H,I.tok _,⟨_,rfl⟩,q⟩
end
theorem for_enum {K:PySem.W.Frag} {a:Addr} {xs:List V} {g:TG} {tb:TS} {D:Ends} {σ:St} {H:Hp} (Pv:Nat→St→Hp→Prop) (h0:Pv 0 σ H) (hl:∀ i σ H,i≤xs.length→Pv i σ H→SqL K H a xs)
  (hs:∀ i x σ H T,xs[i]?=some x→Pv i σ H→H T=none→g (.ref T) σ (upd H T (.tup [.int (i:Nat),x])) fun σ2 H2=>tb { D with nx:=Pv (i+1),ct:=Pv (i+1),bk:=D.nx } σ2 H2) (hd:∀ σ H,Pv xs.length σ H→D.nx σ H) :
  ∃ W:Nat→Nat→St→Hp→Prop,(∃ m,W 0 m σ H)∧∀ i m σ H,W i m σ H →
   ((Ite K a).stop i H∧D.nx σ H)∨((Ite K a).go i H∧∃ N:St→Hp→Prop,(∀ σ' H',N σ' H'→∃ m',m' < m∧W (i+1) m' σ' H')∧∀ x H',(Ite K a).yld i H x H'→g x σ H' fun σ2 H2=>tb { D with nx:=N,ct:=N,bk:=D.nx } σ2 H2):=by
 refine ⟨fun i m σ H=>m=xs.length - i∧i≤xs.length∧Pv i σ H,⟨xs.length,by simp,Nat.zero_le _,h0⟩,?_⟩
 rintro i m σ H ⟨rfl,hi,p⟩
 have q:=hl i σ H hi p
 by_cases hlt:i < xs.length
 ·refine .inr ⟨⟨xs,xs[i],q,by simp [hlt]⟩,Pv (i+1),fun σ' H' p'=>⟨xs.length - (i+1),by omega,rfl,hlt,p'⟩,fun v H' y=>?_⟩
  obtain ⟨T,x,rfl,hT,rfl,y⟩:=y
  exact hs i x σ H T (y xs q) p hT
 ·have e:i=xs.length:=by omega
  subst e
  exact .inl ⟨⟨xs,q,Nat.le_refl _⟩,hd σ H p⟩
theorem bt_abs:bootBuiltins "abs"=some (.builtin "abs"):=by decide +kernel
theorem bt_len:bootBuiltins "len"=some (.builtin "len"):=by decide +kernel
theorem bt_min:bootBuiltins "min"=some (.builtin "min"):=by decide +kernel
theorem bt_max:bootBuiltins "max"=some (.builtin "max"):=by decide +kernel
theorem bt_sum:bootBuiltins "sum"=some (.builtin "sum"):=by decide +kernel
theorem bt_tuple:bootBuiltins "tuple"=some (.type "tuple"):=by decide +kernel
structure Callee (P:Program) (w:World) (K:PySem.W.Frag) (mg:Str→Option Value) (base:Heap) (x:Str) (ps:List Str) (k:Nat) (sp:Sp):Prop where
 ex:∃ (f:Addr) (fd:FuncData),mg x=some (.ref f)∧PySem.W.keepIn K (.ref f)=true∧Binds K fd ps []∧FnOk P w K mg base CX0 k f fd ps sp
section
variable {X:Cx} {x:Str} {ps:List Str} {k j:Nat} {sp:Sp} {p pos:Pos} {e:Expr} {es:List Expr} {t:TA}
theorem pe_callC (C:Callee X.prog X.w X.K X.mg X.base x ps k sp) (hr:Room j X.A) (ha:PA X (e::es) t) (hk:k≤j:=by decide) (hg:Gl X x:=by rfl) (hdb:(x == ("__debug__":Str))=false:=by decide)
  (he:starEach (e::es) X.env=(false,eval e X.env)::starEach es X.env:=by rfl) (hpl:(backTo pos (starEach es X.env)).any (·.1)=false:=by rfl) :
  PE X (.Call (.Name x p) (e::es) [] pos) (tCall sp [] E0 t):=by
 obtain ⟨f,fd,hm,hkp,hb,F⟩:=C.ex
 exact pe_call F (hr.mono hk) hg hm hkp hb .nil pass0 ha hdb he hpl
structure Const (mg:Str→Option Value) (x:Str) (v:V):Prop where
 ex:∃ u,mg x=some u∧RelV v u
theorem pe_const {v:V} (C:Const X.mg x v) (hg:Gl X x:=by rfl) (hd:(x == ("__debug__":Str))=false:=by decide):PE X (.Name x pos) (tC v):=by
 obtain ⟨u,hm,r⟩:=C.ex
 exact pe_glob hg hm r hd
end
end L2
end
section
namespace Ls
open PySem
def Rising (xs:Array Nat):Prop:=xs.toList.Pairwise (· < ·)
theorem Rising.lt {xs:Array Nat} (h:Rising xs) {i k:Nat} (hik:i < k) (hk:k < xs.size) (d:Nat):xs.getD i d < xs.getD k d:=by
 have:=List.pairwise_iff_getElem.mp h i k (by simpa using Nat.lt_trans hik hk) (by simpa using hk) hik
 simpa [Array.getD,Nat.lt_trans hik hk,hk] using this
theorem below_go {xs:Array Nat} {j:Nat} (h:Rising xs):∀ (fuel lo hi:Nat),hi - lo≤fuel→lo≤hi→hi≤xs.size→(∀ i,i < lo→xs.getD i j < j)→(∀ i,hi≤i→i < xs.size→j≤xs.getD i j) →
  SetTable.below.go xs j fuel lo hi≤xs.size∧(∀ i,i < SetTable.below.go xs j fuel lo hi→xs.getD i j < j)∧∀ i,SetTable.below.go xs j fuel lo hi≤i→i < xs.size→j≤xs.getD i j
 | 0,lo,hi,hf,hl,hs,h1,h2=>by
  unfold SetTable.below.go
  have:lo=hi:=by omega
  subst this
  exact ⟨hs,h1,h2⟩
 | fuel+1,lo,hi,hf,hl,hs,h1,h2=>by
  unfold SetTable.below.go
  by_cases hlt:lo < hi
  ·rw [if_pos hlt]
   dsimp only
   have m1:lo≤(lo+hi) / 2:=by omega
   have m2:(lo+hi) / 2 < hi:=by omega
   by_cases hm:xs.getD ((lo+hi) / 2) j < j
   ·rw [if_pos hm]
    refine below_go h fuel _ hi (by omega) (by omega) hs (fun i hi'=>?_) h2
    by_cases e:i=(lo+hi) / 2
    ·rw [e];exact hm
    ·have:=h.lt (i:=i) (k:=(lo+hi) / 2) (by omega) (by omega) j
     omega
   ·rw [if_neg hm]
    refine below_go h fuel lo _ (by omega) m1 (by omega) h1 (fun i hi' hsz=>?_)
    by_cases e:i=(lo+hi) / 2
    ·rw [e];omega
    ·have:=h.lt (i:=(lo+hi) / 2) (k:=i) (by omega) hsz j
     omega
  ·rw [if_neg hlt]
   have:lo=hi:=by omega
   subst this
   exact ⟨hs,h1,h2⟩
theorem below_spec {xs:Array Nat} (h:Rising xs) (j:Nat):SetTable.below xs j≤xs.size∧(∀ i,i < SetTable.below xs j→xs.getD i j < j)∧∀ i,SetTable.below xs j≤i→i < xs.size→j≤xs.getD i j :=
 below_go h xs.size 0 xs.size (by omega) (Nat.zero_le _) (Nat.le_refl _) (fun i hi=>by omega) (fun i hi hs=>by omega)
theorem getD_mem {xs:Array Nat} {i d:Nat} (h:i < xs.size):xs.toList[i]'(by simpa using h)=xs.getD i d:=by
 simp [Array.getD,h]
theorem rising_insert {xs:Array Nat} {j:Nat} (h:Rising xs) (hn:xs[SetTable.below xs j]?≠some j):Rising (SetTable.insertAt xs (SetTable.below xs j) j):=by
 obtain ⟨b1,b2,b3⟩:=below_spec h j
 have hgt:∀ i,SetTable.below xs j≤i→i < xs.size→j < xs.getD i j:=fun i hi hs=>by
  have hp:SetTable.below xs j < xs.size:=by omega
  have h0:=b3 _ (Nat.le_refl _) hp
  have hne:xs.getD (SetTable.below xs j) j≠j:=fun e=>hn (by
   rw [Array.getElem?_eq_getElem hp]
   simp [Array.getD,hp] at e
   rw [e])
  by_cases e:i=SetTable.below xs j
  ·rw [e];omega
  ·have:=h.lt (i:=SetTable.below xs j) (k:=i) (by omega) hs j
   omega
 unfold Rising
 rw [SetTable.toList_insertAt]
 rw [List.pairwise_append]
 refine ⟨h.sublist (List.take_sublist ..),?_,fun a ha b hb=>?_⟩
 ·rw [List.pairwise_cons]
  refine ⟨fun b hb=>?_,h.sublist (List.drop_sublist ..)⟩
  obtain ⟨i,hi,e⟩:=List.getElem_of_mem hb
  rw [List.getElem_drop] at e
  rw [List.length_drop,Array.length_toList] at hi
  have:=hgt (SetTable.below xs j+i) (by omega) (by omega)
  rw [← e,getD_mem (d:=j) (by omega)]
  exact this
 ·obtain ⟨i,hi,e⟩:=List.getElem_of_mem ha
  rw [List.getElem_take] at e
  rw [List.length_take,Array.length_toList] at hi
  have hi1:i < SetTable.below xs j:=by omega
  have a1:=b2 i hi1
  have ea:a=xs.getD i j:=by rw [← e,getD_mem (d:=j) (by omega)]
  rcases List.mem_cons.mp hb with rfl | hb
  ·rw [ea];exact a1
  ·obtain ⟨k,hk,e'⟩:=List.getElem_of_mem hb
   rw [List.getElem_drop] at e'
   rw [List.length_drop,Array.length_toList] at hk
   have:=hgt (SetTable.below xs j+k) (by omega) (by omega)
   rw [← e',getD_mem (d:=j) (by omega),ea]
   omega
theorem rising_range (n:Nat):Rising (Array.range n):=by
 unfold Rising
 rw [Array.toList_range]
 exact List.pairwise_lt_range
theorem slot_not {t:SetTable} {j:Nat} (h:t.slot j=.empty∨t.slot j=.dummy):t.place[SetTable.below t.place j]?≠some j:=by
 intro e
 unfold SetTable.slot at h
 dsimp only at h
 rw [e] at h
 simp at h
theorem probe_free {t:SetTable} {f:Nat→Int} {h:Int}:∀ (fuel:Nat) (p:SetTable.Probe),(∀ d,p.dummy=some d→t.slot d=.dummy)→∀ {j:Nat} {dm:Option Nat},SetTable.probe.go t f h fuel p=some (.empty j dm)→t.slot j=.empty∧∀ d,dm=some d→t.slot d=.dummy
 | 0,p,_,j,dm,e=>by unfold SetTable.probe.go at e;cases e
 | fuel+1,p,hp,j,dm,e=>by
  have adv:∀ q:SetTable.Probe,(t.advance q).dummy=q.dummy:=fun q=>by
   unfold SetTable.advance
   by_cases hm:q.more > 0
   ·rw [if_pos hm]
   ·rw [if_neg hm]
  unfold SetTable.probe.go at e
  cases hs:t.slot p.j with
  | empty =>
   rw [hs] at e
   injection e with e
   injection e with e1 e2
   subst e1 e2
   exact ⟨hs,hp⟩
  | dummy =>
   rw [hs] at e
   refine probe_free fuel _ (fun d hd=>?_) e
   rw [adv] at hd
   injection hd with hd
   subst hd
   exact hs
  | live i =>
   rw [hs] at e
   dsimp only at e
   by_cases hh:(f i == h)=true
   ·rw [if_pos hh] at e;cases e
   ·rw [if_neg hh] at e
    exact probe_free fuel _ (fun d hd=>by rw [adv] at hd;exact hp d hd) e
theorem put_rising {t:SetTable} {j:Nat} (h:Rising t.place) (hj:t.slot j=.empty∨t.slot j=.dummy):Rising (t.put j).1.place:=rising_insert h (slot_not hj)
theorem standIn_rising (t:SetTable) (n:Nat):Rising (t.standIn n).place:=rising_range n
theorem orStandIn_rising {t:SetTable} {n:Nat} (h:Rising t.place):Rising (t.orStandIn n).place:=by
 unfold SetTable.orStandIn
 split
 ·exact h
 ·exact standIn_rising t n
theorem orStandIn_led (t:SetTable) (n:Nat):(t.orStandIn n).led=t.led:=by
 unfold SetTable.orStandIn
 split <;> rfl
theorem layNew_tab {t:SetTable} (es:Array (Int × Value)) (h:Int) (x:Value) (hr:Rising t.place):Rising (layNew t es h x).2.1.place∧(layNew t es h x).2.1.led=t.led:=by
 unfold layNew
 cases e:t.freeSlot h with
 | none=>exact ⟨standIn_rising _ _,rfl⟩
 | some sw =>
  obtain ⟨sl,wd⟩:=sw
  dsimp only
  have hs:t.slot sl=.empty∨t.slot sl=.dummy:=by
   unfold SetTable.freeSlot at e
   split at e
   ·rename_i j dm hm
    obtain ⟨q1,q2⟩:=probe_free _ _ (fun d hd=>by cases hd) hm
    injection e with e
    injection e with e1 e2
    cases dm with
    | none=>subst e1;exact .inl q1
    | some d=>subst e1;exact .inr (q2 d rfl)
   ·cases e
  exact ⟨orStandIn_rising (put_rising hr hs),(orStandIn_led _ _).trans rfl⟩
theorem laid_tab {mask finger moves:Nat} {led plain:Bool} {hashes:Array Int} {t:SetTable} {o:Array Nat} (e:SetTable.laid mask finger moves led plain hashes=some (t,o)):Rising t.place∧t.led=led:=by
 unfold SetTable.laid at e
 cases q:SetTable.layClean mask hashes with
 | none=>rw [q] at e;cases e
 | some owner =>
  rw [q] at e
  have e:=Option.some.inj e
  injection e with e1 e2
  subst e1
  refine ⟨?_,rfl⟩
  unfold Rising
  dsimp only
  rw [List.pairwise_map]
  refine List.Pairwise.filterMap _ (R:=(· < ·)) (fun a a' ha b hb b' hb'=>?_) List.pairwise_lt_range
  cases q1:owner.getD a none with
  | none=>rw [q1] at hb;cases hb
  | some u =>
   cases q2:owner.getD a' none with
   | none=>rw [q2] at hb';cases hb'
   | some u' =>
    rw [q1] at hb
    rw [q2] at hb'
    injection hb with hb
    injection hb' with hb'
    subst hb hb'
    exact ha
theorem relayAll_tab {t:SetTable} (es:Array (Int × Value)) (n:Nat):Rising (relayAll t es n).2.1.place∧(relayAll t es n).2.1.led=t.led:=by
 unfold relayAll
 cases e:t.relaid (es.map (·.1)) n with
 | none=>exact ⟨standIn_rising _ _,rfl⟩
 | some to =>
  obtain ⟨t',o⟩:=to
  dsimp only
  split
  ·exact laid_tab e
  ·exact ⟨standIn_rising _ _,rfl⟩
end Ls
end
section
namespace Ls
open PySem
def intOf:Value→Int
 | .int k _=>k
 | _=>0
def El (e:Int × Value):Prop:=∃ k t,e=(hashInt k,.int k t)
def keysE (es:Array (Int × Value)):List Int:=es.toList.map fun e=>intOf e.2
structure SetD (es:Array (Int × Value)) (t:SetTable) (ks:List Int) (led:Bool):Prop where
 fits:t.fits es.size=true
 ris:Rising t.place
 led:t.led=led
 els:∀ e∈es.toList,El e
 perm:(keysE es).Perm ks
def SetS (h:Heap) (a:Addr) (ks:List Int) (led:Bool):Prop:=∃ o es ep t,h.get? a=some o∧o.ExactSet∧o.data=.set es ep t∧SetD es t ks led
theorem SetD.size {es:Array (Int × Value)} {t:SetTable} {ks:List Int} {led:Bool} (h:SetD es t ks led):es.size=ks.length:=by
 have:=h.perm.length_eq
 unfold keysE at this
 rw [List.length_map,Array.length_toList] at this
 exact this
section
variable {prog:Program} {w:World} {A:Around} {E:Value→Shared→Prop} {s:Shared}
theorem els_kind {es:List (Int × Value)} (h:∀ e∈es,El e):ElemsOf (intKind prog w) es:=fun e he=>by
 obtain ⟨k,t,rfl⟩:=h e he
 exact ⟨⟨k,by simp [intKind,Value.isInt],rfl⟩,rfl⟩
theorem isInt_of {k:Int} {e:Int × Value} (he:El e):(intKind prog w).is k e.2=true ↔ intOf e.2=k:=by
 obtain ⟨j,t,rfl⟩:=he
 show Value.isInt k (.int j t)=true ↔ j=k
 simp [Value.isInt]
theorem put_at {h:Heap} {a:Addr} {o:Obj} {es es':Array (Int × Value)} {ep:Nat} {t t':SetTable} {ks:List Int} {led:Bool} (ho:h.get? a=some o) (hx:o.ExactSet) (hd:o.data=.set es ep t) (D:SetD es' t' ks led) :
  (h.update a (Obj.putSet es' t')).get? a=some { o with data:=.set es' (ep+1) t' }∧SetS (h.update a (Obj.putSet es' t')) a ks led:=by
 have g:(h.update a (Obj.putSet es' t')).get? a=some { o with data:=.set es' (ep+1) t' }:=by
  rw [← putSet_of es' t' hd]
  exact Heap.get?_update_self (Obj.putSet es' t') ho (by rw [putSet_of es' t' hd];rfl)
 exact ⟨g,_,es',ep+1,t',g,hx,rfl,D⟩
theorem store_new {gv:Bool→Sem Unit} (hgv:∀ (b:Bool) (s₁:Shared) (Q':Unit→Shared→Prop),Q' () s₁→wpAny (model prog w) A (gv b) Q' E s₁) {a:Addr} {o:Obj} {es es1:Array (Int × Value)} {ep:Nat} {t t1:SetTable} {ks:List Int} {led wd:Bool} {R:Option Bool→Shared→Prop}
  (ho:s.heap.get? a=some o) (hx:o.ExactSet) (hd:o.data=.set es ep t) (D:SetD es1 t1 ks led) (hn:ks.length < scanBound) (k:∀ h',Heap.SameBut a s.heap h'→SetS h' a ks led→R (some true) { s with heap:=h' }) :
  wpAny (model prog w) A (do
   storeSet a es1 t1
   if (!wd && t1.tooFull)=true then do
    gv (relayAll t1 es1 (SetTable.grown es1.size)).2.2
    storeSet a (relayAll t1 es1 (SetTable.grown es1.size)).1 (relayAll t1 es1 (SetTable.grown es1.size)).2.1
    pure (some true)
   else pure (some true)) R E s:=by
 have z1:es1.size≤sizeLine:=fits_of_scanBound (by rw [D.size];exact hn)
 obtain ⟨g1,S1⟩:=put_at ho hx hd D
 refine wpAny_bind (wpAny_storeSet_of ho hd ?_ z1)
 have b1:=Heap.SameBut.update s.heap a (Obj.putSet es1 t1)
 by_cases hf:(!wd && t1.tooFull)=true
 ·rw [if_pos hf]
  have p2:=relayAll_perm t1 es1 (SetTable.grown es1.size)
  have f2:=relayAll_fits t1 es1 (SetTable.grown es1.size)
  obtain ⟨r2,l2⟩:=relayAll_tab (t:=t1) es1 (SetTable.grown es1.size)
  generalize relayAll t1 es1 (SetTable.grown es1.size)=rl at p2 f2 r2 l2 ⊢
  have D2:SetD rl.1 rl.2.1 ks led:=⟨f2,r2,l2.trans D.led,fun e he=>D.els e (p2.mem_iff.mp he),(p2.map _).trans D.perm⟩
  refine wpAny_bind (hgv _ _ _ (wpAny_bind (wpAny_storeSet_of g1 rfl ?_ (fits_of_scanBound (by rw [D2.size];exact hn)))))
  exact wpAny_pure (k _ (b1.trans (Heap.SameBut.update _ a _)) (put_at g1 hx rfl D2).2)
 ·rw [if_neg hf]
  exact wpAny_pure (k _ b1 S1)
theorem set_add {a:Addr} {ks:List Int} {led:Bool} {n:Int} {tk:Tok} {Q:Bool→Shared→Prop} (hS:SetS s.heap a ks led) (hn:ks.length+1 < scanBound)
  (k:∀ b h',Heap.SameBut a s.heap h'→SetS h' a (if n∈ks then ks else ks++[n]) led→Q b { s with heap:=h' }):wpAny (model prog w) A (setAddHashed a (.int n tk) (hashInt n)) Q E s:=by
 obtain ⟨o,es,ep,t,ho,hx,hd,D⟩:=hS
 have hel:ElemsOf (intKind prog w) es.toList:=els_kind D.els
 have hkey:(intKind prog w).is n (.int n tk)=true:=by simp [intKind,Value.isInt]
 unfold setAddHashed setAddHashedIn
 refine wpAny_holding (wpAny_bind (wpAny_setState_of ho hd D.fits ?_))
 dsimp only
 rw [byScan_of (knd:=intKind prog w) rfl (by rw [D.size];omega) hel,if_pos rfl]
 unfold setAddByScan
 refine wpAny_bind (wpAny_bind (wpAny_rule (wpAny_bind ?_)))
 refine wpAny_setScan_of (knd:=intKind prog w) hkey ho hd D.fits hel ?_
 have there:(∃ e∈es.toList,(intKind prog w).is n e.2=true) ↔ n∈ks:=by
  rw [← D.perm.mem_iff]
  unfold keysE
  rw [List.mem_map]
  constructor
  ·rintro ⟨e,he,q⟩
   exact ⟨e,he,(isInt_of (D.els e he)).mp q⟩
  ·rintro ⟨e,he,q⟩
   exact ⟨e,he,(isInt_of (D.els e he)).mpr q⟩
 cases hr:List.findIdx? (fun e=>(intKind prog w).is n e.2) es.toList with
 | some j =>
  obtain ⟨hj,hp,_⟩:=List.findIdx?_eq_some_iff_getElem.mp hr
  have hin:n∈ks:=there.mp ⟨_,List.getElem_mem hj,hp⟩
  rw [if_pos hin] at k
  have:=k false s.heap (Heap.SameBut.refl a s.heap) ⟨o,es,ep,t,ho,hx,hd,D⟩
  exact wpAny_pure (wpAny_pure this)
 | none =>
  have hin:¬ n∈ks:=fun q=>by
   obtain ⟨e,he,hp⟩:=there.mpr q
   have:=List.findIdx?_eq_none_iff.mp hr e he
   rw [hp] at this
   cases this
  rw [if_neg hin] at k
  have p1:=layNew_perm t es (hashInt n) (.int n tk)
  have f1:=layNew_fits t es (hashInt n) (.int n tk)
  obtain ⟨r1,l1⟩:=layNew_tab (t:=t) es (hashInt n) (.int n tk) D.ris
  have gvo:∀ (b:Bool) (s₁:Shared) (Q':Unit→Shared→Prop),Q' () s₁→wpAny (model prog w) A (match b with | true=>rule "set.scan.the-table-gave-way" | false=>pure ()) Q' E s₁:=fun b s₁ Q' hq=>by
   cases b
   ·exact wpAny_pure hq
   ·exact wpAny_rule hq
  dsimp only
  show wpAny (model prog w) A (do
   (match (layNew t es (hashInt n) (.int n tk)).2.2.2 with | true=>rule "set.scan.the-table-gave-way" | false=>pure ())
   let byValue ← if (layNew t es (hashInt n) (.int n tk)).2.1.plain then hashByValue 8 (.int n tk) else pure true
   let t2:=if byValue then (layNew t es (hashInt n) (.int n tk)).2.1 else { (layNew t es (hashInt n) (.int n tk)).2.1 with plain:=false }
   storeSet a (layNew t es (hashInt n) (.int n tk)).1 t2
   if (!(layNew t es (hashInt n) (.int n tk)).2.2.1 && t2.tooFull)=true then do
    (match (relayAll t2 (layNew t es (hashInt n) (.int n tk)).1 (SetTable.grown (layNew t es (hashInt n) (.int n tk)).1.size)).2.2 with | true=>rule "set.scan.the-table-gave-way" | false=>pure ())
    storeSet a (relayAll t2 (layNew t es (hashInt n) (.int n tk)).1 (SetTable.grown (layNew t es (hashInt n) (.int n tk)).1.size)).1 (relayAll t2 (layNew t es (hashInt n) (.int n tk)).1 (SetTable.grown (layNew t es (hashInt n) (.int n tk)).1.size)).2.1
    pure (some true)
   else pure (some true)) _ E s
  generalize layNew t es (hashInt n) (.int n tk)=L at p1 f1 r1 l1 ⊢
  rw [Array.toList_push] at p1
  have D1:SetD L.1 L.2.1 (ks++[n]) led:=⟨f1,r1,l1.trans D.led,fun e he=>by
   rcases List.mem_append.mp (p1.mem_iff.mp he) with q | q
   ·exact D.els e q
   ·exact ⟨n,tk,by simpa using q⟩,by
   unfold keysE
   refine (p1.map _).trans ?_
   rw [List.map_append]
   exact D.perm.append_right _⟩
  refine wpAny_bind (gvo _ _ _ ?_)
  dsimp only
  have jp:∀ m:Sem Bool,m=pure true→∀ (f:Bool→Sem (Option Bool)) (R:Option Bool→Shared→Prop),wpAny (model prog w) A (f true) R E s→wpAny (model prog w) A (m >>= f) R E s:=fun m e f R h=>by
   rw [e]
   exact wpAny_bind (wpAny_pure h)
  refine (show ∀ (c:Bool) (f:Bool→Sem (Option Bool)) (R:Option Bool→Shared→Prop),wpAny (model prog w) A (f true) R E s→wpAny (model prog w) A (if c=true then hashByValue 8 (.int n tk) >>= f else pure true >>= f) R E s from fun c f R h=>by
   cases c
   ·exact jp _ rfl f R h
   ·exact jp _ rfl f R h) _ _ _ ?_
  simp only [if_true]
  refine store_new gvo ho hx hd D1 (by rw [List.length_append];exact hn) fun h' sb S'=>?_
  exact wpAny_pure (k true h' sb S')
end
end Ls
end
section
namespace Ls
open PySem
theorem erase_perm {α:Type}:∀ (l:List α) (n:Nat) (x:α),l[n]?=some x→(x::l.eraseIdx n).Perm l
 | [],n,x,h=>by simp at h
 | y::l,0,x,h=>by
  have:y=x:=by simpa using h
  subst this
  exact .rfl
 | y::l,n+1,x,h=>by
  have:=erase_perm l n x (by simpa using h)
  exact (List.Perm.swap y x _).trans (this.cons y)
theorem pick_go {α:Type} (next:Nat→Nat):∀ (fuel k:Nat) (left:List α) (out:Array α),left.length=fuel→(pickOrder.go next fuel k left out).toList.Perm (out.toList++left)
 | 0,k,left,out,h=>by
  have:left=[]:=List.length_eq_zero_iff.mp h
  subst this
  unfold pickOrder.go
  rw [List.append_nil]
 | fuel+1,k,left,out,h=>by
  unfold pickOrder.go
  have hlt:next k % left.length < left.length:=Nat.mod_lt _ (by omega)
  have e:left[next k % left.length]?=some left[next k % left.length]:=List.getElem?_eq_getElem hlt
  rw [e]
  dsimp only
  refine (pick_go next fuel (k+1) _ _ (by rw [List.length_eraseIdx_of_lt hlt];omega)).trans ?_
  rw [Array.toList_push,List.append_assoc]
  exact (erase_perm left _ _ e).append_left _
theorem pick_perm {α:Type} (next:Nat→Nat) (xs:Array α):(pickOrder next xs).toList.Perm xs.toList:=by
 have:=pick_go next xs.size 0 xs.toList #[] (by simp)
 simpa [pickOrder] using this
def slotAt (xs:Array Nat):Nat→Nat
 | 0=>0
 | i+1=>xs.getD i 0+1
theorem getD_any {xs:Array Nat} {i:Nat} (h:i < xs.size) (d e:Nat):xs.getD i d=xs.getD i e:=by
 simp [Array.getD,h]
theorem below_slotAt {xs:Array Nat} (h:Rising xs) {i:Nat} (hi:i≤xs.size):SetTable.below xs (slotAt xs i)=i:=by
 obtain ⟨b1,b2,b3⟩:=below_spec h (slotAt xs i)
 cases i with
 | zero =>
  by_cases e:SetTable.below xs (slotAt xs 0)=0
  ·exact e
  ·have:=b2 0 (by omega)
   have:xs.getD 0 (slotAt xs 0) < 0:=this
   omega
 | succ i =>
  have e:slotAt xs (i+1)=xs.getD i 0+1:=rfl
  generalize hj:slotAt xs (i+1)=j at *
  have hge:i+1≤SetTable.below xs j:=by
   by_cases q:i < SetTable.below xs j
   ·exact q
   ·have:=b3 i (by omega) (by omega)
    rw [getD_any (by omega) j 0] at this
    omega
  by_cases q:SetTable.below xs j=i+1
  ·exact q
  ·have h1:=b2 (i+1) (by omega)
   have h2:=h.lt (i:=i) (k:=i+1) (by omega) (by omega) j
   rw [getD_any (show i < xs.size by omega) j 0] at h2
   omega
section
variable {prog:Program} {w:World} {A:Around} {E:Value→Shared→Prop} {s:Shared}
theorem choose_any {src:Source} {n:Nat} {Q:Nat→Shared→Prop} (hn:n≠0) (h:∀ i,i < n→Q i { s with drawn:=s.drawn.bump src }):wpAny (model prog w) A (choose src n) Q E s:=fun Γ p hΓ=>by
 unfold choose
 rw [Sem.wp_choose]
 exact ⟨hn,h _ (Nat.mod_lt _ (by omega))⟩
theorem draw_perm {α:Type}:∀ (n:Nat) (xs:List α) (s:Shared) (Q:List α→Shared→Prop),xs.length=n→(∀ ys d,ys.Perm xs→Q ys { s with drawn:=d })→wpAny (model prog w) A (drawOrder n xs) Q E s
 | 0,xs,s,Q,hl,h=>by
  have:xs=[]:=List.length_eq_zero_iff.mp hl
  subst this
  unfold drawOrder
  exact wpAny_pure (h [] s.drawn .rfl)
 | n+1,[],s,Q,hl,h=>by cases hl
 | n+1,x::xs,s,Q,hl,h=>by
  unfold drawOrder
  refine wpAny_bind (choose_any (by simp) fun i hi=>?_)
  have e:(x::xs)[i]?=some (x::xs)[i]:=List.getElem?_eq_getElem hi
  rw [e]
  dsimp only
  refine wpAny_bind (draw_perm n _ _ _ (by rw [List.length_eraseIdx_of_lt hi,hl];omega) fun ys d hp=>?_)
  exact wpAny_pure (h _ d ((hp.cons _).trans (erase_perm _ _ _ e)))
abbrev byText (w:World):Bool:=w.params.followText "set-order"
theorem byText_any {Q:Bool→Shared→Prop} (h:Q (byText w) s):wpAny (model prog w) A setsByText Q E s:=by
 unfold setsByText
 exact wpAny_bind (wpAny_askSetting (wpAny_pure h))
abbrev drawnB (es:Array (Int × Value)) (t:SetTable):Bool:=!t.plain && decide (es.size > 1)
section
variable {a:Addr} {o:Obj} {es:Array (Int × Value)} {ep:Nat} {t:SetTable} {ks:List Int}
theorem next_text {slot i:Nat} {Q:Option (Value × Nat)→Shared→Prop} {led:Bool} (ho:s.heap.get? a=some o) (hd:o.data=.set es ep t) (D:SetD es t ks led) (hb:byText w=true)
  (h:Q (((pickOrder (w.params.setOrder a ep) es)[i]?).map fun e=>(e.2,slot)) s):wpAny (model prog w) A (setNext a slot i ep) Q E s:=by
 unfold setNext
 refine wpAny_bind (wpAny_setState_of ho hd D.fits ?_)
 dsimp only
 refine wpAny_bind (byText_any ?_)
 rw [hb,if_pos rfl,if_neg (by simp)]
 refine wpAny_bind ?_
 unfold setWalk
 refine wpAny_bind (wpAny_setState_of ho hd D.fits ?_)
 dsimp only
 refine wpAny_bind (byText_any ?_)
 rw [hb,if_pos rfl]
 exact wpAny_bind (wpAny_askSetting (wpAny_pure (wpAny_pure h)))
theorem next_slot {i:Nat} {Q:Option (Value × Nat)→Shared→Prop} (ho:s.heap.get? a=some o) (hd:o.data=.set es ep t) (D:SetD es t ks true) (hb:byText w=false) (hdr:drawnB es t=false) (hi:i≤es.size)
  (h:Q (match es[i]? with | some (_,x)=>some (x,slotAt t.place (i+1)) | none=>none) s):wpAny (model prog w) A (setNext a (slotAt t.place i) i ep) Q E s:=by
 have hp:t.place.size=es.size:=by
  have:=D.fits
  simp only [SetTable.fits,Bool.and_eq_true,beq_iff_eq] at this
  exact this.1
 unfold setNext
 refine wpAny_bind (wpAny_setState_of ho hd D.fits ?_)
 dsimp only
 refine wpAny_bind (byText_any ?_)
 rw [hb,if_neg (by decide)]
 show wpAny _ _ (if drawnB es t=true then _ else _) _ _ _
 rw [hdr,if_neg (by decide)]
 refine wpAny_bind ?_
 show wpAny _ _ (if (!t.led && !es.isEmpty)=true then _ else _) _ _ _
 rw [D.led,if_neg (by simp)]
 refine wpAny_pure ?_
 rw [below_slotAt D.ris (by omega)]
 refine wpAny_pure ?_
 by_cases hlt:i < es.size
 ·rw [Array.getElem?_eq_getElem hlt] at h
  have hl2:i < t.place.size:=by omega
  rw [Array.getElem?_eq_getElem hlt,Array.getElem?_eq_getElem hl2]
  have e:slotAt t.place (i+1)=t.place[i]+1:=by
   show t.place.getD i 0+1=_
   simp [Array.getD,hl2]
  rw [e] at h
  exact h
 ·rw [Array.getElem?_eq_none (by omega)] at h
  rw [Array.getElem?_eq_none (by omega)]
  exact h
theorem next_drawn {pl:Nat} {x:Value} {hsh:Int} {Q:Value→Shared→Prop} {led:Bool} (ho:s.heap.get? a=some o) (hd:o.data=.set es ep t) (D:SetD es t ks led) (hx:es[pl]?=some (hsh,x)) (h:Q x s):wpAny (model prog w) A (setNextDrawn a pl ep) Q E s:=by
 unfold setNextDrawn
 refine wpAny_bind (wpAny_setState_of ho hd D.fits ?_)
 dsimp only
 rw [if_neg (by simp)]
 rw [hx]
 exact wpAny_pure h
end
end
end Ls
end
section
namespace Ls
open PySem
theorem si_next:Slot "set_iterator" "__next__" "set_iterator.__next__":=.of (owner:="set_iterator") (n:="__next__") (by rw [typeLookup_type,builtinLookup_eq_fast];kernel_rfl) (by decide +kernel) (by decide +kernel) (by decide +kernel) (by first | exact .inl (by decide +kernel) | exact .inr (by decide +kernel)) (by rw [isSubtype_type];kernel_rfl)
theorem si_next_entry:entryFor table "set_iterator.__next__"=some Builtin.«set_iterator.__next__»:=entryFor_of_tree (by kernel_rfl)
theorem si_next_args (a:Value):argsOk "set_iterator.__next__" ⟨[a],[]⟩:=by unfold argsOk;kernel_rfl
theorem si_iter:Slot "set_iterator" "__iter__" "set_iterator.__iter__":=.of (owner:="set_iterator") (n:="__iter__") (by rw [typeLookup_type,builtinLookup_eq_fast];kernel_rfl) (by decide +kernel) (by decide +kernel) (by decide +kernel) (by first | exact .inl (by decide +kernel) | exact .inr (by decide +kernel)) (by rw [isSubtype_type];kernel_rfl)
theorem si_iter_entry:entryFor table "set_iterator.__iter__"=some Builtin.«dict_keyiterator.__iter__»:=entryFor_alias (id':="dict_keyiterator.__iter__") (by kernel_rfl) rfl (by decide +kernel) (by kernel_rfl)
theorem si_iter_args (a:Value):argsOk "set_iterator.__iter__" ⟨[a],[]⟩:=by unfold argsOk;kernel_rfl
theorem set_iter_entry:entryFor table "set.__iter__"=some Builtin.«frozenset.__iter__»:=entryFor_alias (id':="frozenset.__iter__") (by kernel_rfl) rfl (by decide +kernel) (by kernel_rfl)
def SetIt (h:Heap) (it:Addr) (f:Value) (a:Addr) (i n ep:Nat):Prop:=∃ o,h.get? it=some o∧o.cls=.type "set_iterator"∧o.data=.fields #[f,rawInt i,.ref a,rawInt n,rawInt ep]
theorem SetIt.ty {s:Shared} {it a:Addr} {f:Value} {i n ep:Nat} (h:SetIt s.heap it f a i n ep):s.TypeIs (.ref it) "set_iterator":=let ⟨o,ho,hc,_⟩:=h;⟨o,ho,hc⟩
theorem SetIt.keep {h h':Heap} {it a:Addr} {f:Value} {i n ep:Nat} (x:SetIt h it f a i n ep) (e:∀ o,h.get? it=some o→h'.get? it=some o):SetIt h' it f a i n ep:=let ⟨o,ho,r⟩:=x;⟨o,e o ho,r⟩
section
variable {prog:Program} {w:World} {A:Around} {E:Value→Shared→Prop} {s:Shared} {it a:Addr} {o:Obj} {es:Array (Int × Value)} {ep i n:Nat} {t:SetTable} {ks:List Int} {led:Bool}
theorem stop_now {α:Type} {Q:α→Shared→Prop} {E':Value→Shared→Prop} (hh:A.handled=none) (h:∀ (h':Heap) (e:Value),(∀ b u,s.heap.get? b=some u→h'.get? b=some u)→Shared.TypeIs { s with heap:=h' } e "StopIteration"→E' e { s with heap:=h' }) :
  wpAny (model prog w) A (newExc (.type "StopIteration") [] >>= fun e=>(raiseNew e:Sem α)) Q E' s:=by
 refine wpAny_bind ?_
 simp only [newExc,newTuple]
 refine wpAny_bind (wpAny_newObj_type ?_ (by size_fits))
 refine wpAny_bind (m:=firstArgMember _ _) (wpAny_of_eq (a:=Value.none) (by first | rfl | (simp only [firstArgMember];rfl)) ?_)
 refine wpAny_newObj_type ?_ (by size_fits)
 simp only [raiseNew]
 refine wpAny_bind (wpAny_handled ?_)
 rw [hh]
 refine wpAny_bind (wpAny_pure (wpAny_throw ?_))
 exact h _ _ (fun b u e=>Heap.get?_push_of_some _ (Heap.get?_push_of_some _ e)) ⟨_,Heap.get?_push_size _ rfl,rfl⟩
theorem si_head {f:Value} {Q:Option Value→Shared→Prop} (hit:SetIt s.heap it f a i n ep) (ho:s.heap.get? a=some o) (hd:o.data=.set es ep t) (D:SetD es t ks led) (hn:es.size=n)
  (h:wpAny (model prog w) A.in1 (match f with
   | .int slot _=>do
    match ← setNext a slot.toNat i ep with
    | some (x,next) =>
     setField (.ref it) 0 (rawInt next)
     setField (.ref it) 1 (rawInt ((i:Int)+1))
     ret x
    | none=>do setField (.ref it) 2 .none;raiseNew (← newExc (.type "StopIteration") [])
   | _=>do
    let some places ← seqItems? f | unsupported "internal:set_iterator"
    match places[i]? with
    | some (.int place _) =>
     let x ← setNextDrawn a place.toNat ep
     setField (.ref it) 1 (rawInt ((i:Int)+1))
     ret x
    | some _=>unsupported "internal:set_iterator"
    | none=>do setField (.ref it) 0 (rawInt 0);setField (.ref it) 2 .none;raiseNew (← newExc (.type "StopIteration") []))
   (fun fin s'=>∃ x,fin=.done (.ret x)∧Q (some x) s') (fun e s'=>Shared.TypeIs s' e "StopIteration"∧Q none s') s) :
  wpAny (model prog w) A (pyNext (.ref it)) Q E s:=by
 obtain ⟨oi,hoi,hci,hdi⟩:=id hit
 unfold pyNext
 refine wpAny_bind (wpAny_attempt (wpAny_callSpecial?_slot (name:=Str.ofString "__next__") hit.ty si_next (wpAny_call_entry si_next hit.ty si_next_entry ?_ (si_next_args _))))
 unfold Builtin.«set_iterator.__next__»
 refine wpAny_bind (m:=slotArgs "__next__" 0 ⟨[.ref it],[]⟩) (wpAny_pure ?_)
 dsimp only
 refine wpAny_bind (wpAny_fieldsOf hoi hdi ?_)
 dsimp only [List.toList_toArray,rawInt]
 refine wpAny_bind (wpAny_setEntries_of ho hd D.fits ?_)
 rw [if_neg (by rw [hn];simp)]
 rw [Int.toNat_natCast,Int.toNat_natCast]
 refine wpAny_mono h (fun fin s' q=>?_) (fun e s' q=>?_)
 ·obtain ⟨x,e,q⟩:=q
  exact ⟨x,e,wpAny_pure q⟩
 ·exact wpAny_bind (wpAny_isInstance (T:="StopIteration") (b:=true) q.1 isSubtype_stop (wpAny_pure q.2))
end
end Ls
end
section
namespace Ls
open PySem
inductive Way (w:World) (h:Heap) (a:Addr) (es:Array (Int × Value)) (t:SetTable) (ep:Nat):List Value→(Nat→Value)→List Addr→Prop
 | text:byText w=true→Way w h a es t ep ((pickOrder (w.params.setOrder a ep) es).toList.map (·.2)) (fun _=>rawInt 0) []
 | slot:byText w=false→drawnB es t=false→t.led=true→Way w h a es t ep (es.toList.map (·.2)) (fun i=>rawInt (slotAt t.place i)) []
 | drawn {tp:Addr} {ord:List Nat}:ord.Perm (List.range es.size)→h.IsTuple tp (ord.map fun i=>rawInt (i:Nat)).toArray→Way w h a es t ep (ord.filterMap fun i=>(es[i]?).map (·.2)) (fun _=>.ref tp) [tp]
theorem Way.keep {w:World} {h h':Heap} {a:Addr} {es:Array (Int × Value)} {t:SetTable} {ep:Nat} {vs:List Value} {f:Nat→Value} {ad:List Addr} (x:Way w h a es t ep vs f ad) (k:∀ b∈ad,∀ o,h.get? b=some o→h'.get? b=some o):Way w h' a es t ep vs f ad:=by
 cases x with
 | text h1=>exact .text h1
 | slot h1 h2 h3=>exact .slot h1 h2 h3
 | drawn h1 h2 =>
  obtain ⟨o,e,r⟩:=h2
  exact .drawn h1 ⟨o,k _ (List.mem_singleton.mpr rfl) o e,r⟩
theorem filterMap_perm {es:Array (Int × Value)}:(List.range es.size).filterMap (fun i=>(es[i]?).map (·.2))=es.toList.map (·.2):=by
 have e:=filterMap_getElem?_range es
 have:(List.range es.size).filterMap (fun i=>(es[i]?).map (·.2))=((List.range es.size).filterMap (fun i=>es[i]?)).map (·.2):=by
  rw [List.map_filterMap]
 rw [this,e]
theorem Way.perm {w:World} {h:Heap} {a:Addr} {es:Array (Int × Value)} {t:SetTable} {ep:Nat} {vs:List Value} {f:Nat→Value} {ad:List Addr} (x:Way w h a es t ep vs f ad):vs.Perm (es.toList.map (·.2)):=by
 cases x with
 | text _=>exact (pick_perm _ es).map _
 | slot _ _ _=>exact .rfl
 | drawn h1 _=>exact (h1.filterMap _).trans (by rw [filterMap_perm])
section
variable {prog:Program} {w:World} {A:Around} {s:Shared} {it a:Addr} {es:Array (Int × Value)} {ep:Nat} {t:SetTable} {ks:List Int} {led:Bool} {vs:List Value} {f:Nat→Value} {ad:List Addr}
structure WalkSt (w:World) (it a:Addr) (es:Array (Int × Value)) (t:SetTable) (ep:Nat) (ks:List Int) (led:Bool) (vs:List Value) (f:Nat→Value) (ad:List Addr) (i:Nat) (h:Heap):Prop where
 itr:SetIt h it (f i) a i es.size ep
 set:∃ o,h.get? a=some o∧o.data=.set es ep t
 dat:SetD es t ks led
 way:Way w h a es t ep vs f ad
 na:a≠it
 nad:it ∉ ad
theorem walk_item {E:Value→Shared→Prop} {i:Nat} {x:Value} {Q:Option Value→Shared→Prop} (W:WalkSt w it a es t ep ks led vs f ad i s.heap) (hx:vs[i]?=some x) (h:∀ h',WalkSt w it a es t ep ks led vs f ad (i+1) h'→Heap.SameBut it s.heap h'→Q (some x) { s with heap:=h' }) :
  wpAny (model prog w) A (pyNext (.ref it)) Q E s:=by
 obtain ⟨hit,⟨o,ho,hd⟩,D,way,na,nad⟩:=W
 obtain ⟨oi,hoi,hci,hdi⟩:=id hit
 refine si_head hit ho hd D rfl ?_
 have kp:∀ h',Heap.SameBut it s.heap h'→SetIt h' it (f (i+1)) a (i+1) es.size ep→WalkSt w it a es t ep ks led vs f ad (i+1) h':=fun h' sb si =>
  ⟨si,⟨o,(sb.2 a na).trans ho,hd⟩,D,way.keep fun b hb u e=>(sb.2 b (fun q=>nad (q ▸ hb))).trans e,na,nad⟩
 have two:∀ (nx:Nat),f (i+1)=rawInt nx→wpAny (model prog w) A.in1 (do setField (.ref it) 0 (rawInt nx);setField (.ref it) 1 (rawInt ((i:Int)+1));ret x) (fun fin s'=>∃ x,fin=.done (.ret x)∧Q (some x) s') (fun e s'=>Shared.TypeIs s' e "StopIteration"∧Q none s') s:=fun nx ef=>by
  refine wpAny_bind (wpAny_setField hoi hdi (by simp) ?_)
  have g1:=Heap.get?_update_self (Obj.mapFields (·.setIfInBounds 0 (rawInt nx))) hoi (Obj.isFreed_of_fields (Obj.data_mapFields hdi _))
  refine wpAny_bind (wpAny_setField g1 (Obj.data_mapFields hdi _) (by simp) ?_)
  refine wpAny_pure ⟨x,rfl,h _ (kp _ ((Heap.SameBut.update ..).trans (Heap.SameBut.update ..)) ?_) ((Heap.SameBut.update ..).trans (Heap.SameBut.update ..))⟩
  refine ⟨_,Heap.get?_update_self _ g1 (Obj.isFreed_of_fields (Obj.data_mapFields (Obj.data_mapFields hdi _) _)),?_,?_⟩
  ·rw [Obj.cls_mapFields,Obj.cls_mapFields];exact hci
  ·rw [Obj.data_mapFields (Obj.data_mapFields hdi _),ef];simp [rawInt]
 cases way with
 | text hb =>
  have hx':((pickOrder (w.params.setOrder a ep) es)[i]?).map (fun e=>(e.2,0))=some (x,0):=by
   rw [List.getElem?_map,Array.getElem?_toList] at hx
   cases q:(pickOrder (w.params.setOrder a ep) es)[i]? with
   | none=>rw [q] at hx;cases hx
   | some e=>rw [q] at hx;rw [← Option.some.inj hx];rfl
  show wpAny _ _ (setNext a 0 i ep >>= _) _ _ s
  refine wpAny_bind (next_text ho hd D hb ?_)
  rw [hx']
  exact two 0 rfl
 | slot hb hdr hl =>
  have hx':∃ hs,es[i]?=some (hs,x):=by
   rw [List.getElem?_map,Array.getElem?_toList] at hx
   cases q:es[i]? with
   | none=>rw [q] at hx;cases hx
   | some e=>rw [q] at hx;exact ⟨e.1,by rw [← Option.some.inj hx]⟩
  obtain ⟨hs,hx'⟩:=hx'
  have hlt:i < es.size:=by
   by_cases q:i < es.size
   ·exact q
   ·rw [Array.getElem?_eq_none (by omega)] at hx';cases hx'
  show wpAny _ _ (setNext a (((slotAt t.place i:Nat):Int)).toNat i ep >>= _) _ _ s
  rw [Int.toNat_natCast]
  have hled:led=true:=by rw [← D.led];exact hl
  subst hled
  refine wpAny_bind (next_slot ho hd D hb hdr (by omega) ?_)
  rw [hx']
  exact two _ rfl
 | drawn hp htp =>
  rename_i tp ord
  obtain ⟨ot,hot,_,nt,hdt⟩:=htp
  have hall:∀ j∈ord,j < es.size:=fun j hj=>List.mem_range.mp (hp.mem_iff.mp hj)
  have hx':∃ pl hs,ord[i]?=some pl∧es[pl]?=some (hs,x):=by
   have gen:∀ (l:List Nat) (k:Nat),(∀ j∈l,j < es.size)→(l.filterMap fun i=>(es[i]?).map (·.2))[k]?=some x→∃ pl hs,l[k]?=some pl∧es[pl]?=some (hs,x):=by
    intro l
    induction l with
    | nil=>intro k _ h;simp at h
    | cons p l ih =>
     intro k hl h
     have hpz:=hl p (List.mem_cons_self ..)
     have hfs:(fun i:Nat=>(es[i]?).map (·.2)) p=some es[p].2:=by
      show (es[p]?).map (·.2)=_
      rw [Array.getElem?_eq_getElem hpz]
      rfl
     rw [List.filterMap_cons_some (f:=fun i:Nat=>(es[i]?).map (·.2)) hfs] at h
     cases k with
     | zero =>
      have q:es[p].2=x:=by simpa using h
      exact ⟨p,es[p].1,rfl,by rw [Array.getElem?_eq_getElem hpz,← q]⟩
     | succ k=>exact ih k (fun j hj=>hl j (List.mem_cons_of_mem _ hj)) (by simpa using h)
   exact gen ord i hall hx
  obtain ⟨pl,hs,e1,e2⟩:=hx'
  refine wpAny_bind (wpAny_seqItems hot hdt ?_)
  dsimp only
  have e3:(ord.map fun i=>rawInt (i:Nat)).toArray[i]?=some (rawInt (pl:Nat)):=by
   rw [List.getElem?_toArray,List.getElem?_map,e1];rfl
  rw [e3]
  show wpAny _ _ (setNextDrawn a (((pl:Nat):Int)).toNat ep >>= _) _ _ s
  rw [Int.toNat_natCast]
  refine wpAny_bind (next_drawn ho hd D e2 ?_)
  refine wpAny_bind (wpAny_setField hoi hdi (by simp) ?_)
  refine wpAny_pure ⟨x,rfl,h _ (kp _ (Heap.SameBut.update ..) ?_) (Heap.SameBut.update ..)⟩
  refine ⟨_,Heap.get?_update_self _ hoi (Obj.isFreed_of_fields (Obj.data_mapFields hdi _)),?_,?_⟩
  ·rw [Obj.cls_mapFields];exact hci
  ·rw [Obj.data_mapFields hdi];simp [rawInt]
theorem walk_done {E:Value→Shared→Prop} {Q:Option Value→Shared→Prop} (hh:A.handled=none) (W:WalkSt w it a es t ep ks led vs f ad vs.length s.heap) (h:∀ h',(∀ b u,b≠it→s.heap.get? b=some u→h'.get? b=some u)→Q none { s with heap:=h' }) :
  wpAny (model prog w) A (pyNext (.ref it)) Q E s:=by
 obtain ⟨hit,⟨o,ho,hd⟩,D,way,na,nad⟩:=W
 obtain ⟨oi,hoi,hci,hdi⟩:=id hit
 have hlen:vs.length=es.size:=by rw [way.perm.length_eq,List.length_map,Array.length_toList]
 refine si_head hit ho hd D rfl ?_
 have one:wpAny (model prog w) A.in1 (do setField (.ref it) 2 .none;raiseNew (← newExc (.type "StopIteration") [])) (fun fin s'=>∃ x,fin=Fin.done (.ret x)∧Q (some x) s') (fun e s'=>Shared.TypeIs s' e "StopIteration"∧Q none s') s:=by
  refine wpAny_bind (wpAny_setField hoi hdi (by simp) (stop_now hh fun h' e k ty=>⟨ty,h h' fun b u hb eb=>k b u ?_⟩))
  exact ((Heap.SameBut.update s.heap it _).2 b hb).trans eb
 cases way with
 | text hb =>
  show wpAny _ _ (setNext a 0 _ ep >>= _) _ _ s
  refine wpAny_bind (next_text ho hd D hb ?_)
  rw [Array.getElem?_eq_none (by rw [List.length_map,Array.length_toList];exact Nat.le_refl _)]
  exact one
 | slot hb hdr hl =>
  show wpAny _ _ (setNext a (((slotAt t.place _:Nat):Int)).toNat _ ep >>= _) _ _ s
  rw [Int.toNat_natCast]
  have hled:led=true:=by rw [← D.led];exact hl
  subst hled
  refine wpAny_bind (next_slot ho hd D hb hdr (by omega) ?_)
  rw [Array.getElem?_eq_none (by omega)]
  exact one
 | drawn hp htp =>
  rename_i tp ord
  obtain ⟨ot,hot,_,nt,hdt⟩:=htp
  refine wpAny_bind (wpAny_seqItems hot hdt ?_)
  dsimp only
  rw [Array.getElem?_eq_none (by rw [List.size_toArray,List.length_map,hp.length_eq,List.length_range];omega)]
  refine wpAny_bind (wpAny_setField hoi hdi (by simp) ?_)
  have g1:=Heap.get?_update_self (Obj.mapFields (·.setIfInBounds 0 (rawInt 0))) hoi (Obj.isFreed_of_fields (Obj.data_mapFields hdi _))
  refine wpAny_bind (wpAny_setField g1 (Obj.data_mapFields hdi _) (by simp) (stop_now hh fun h' e k ty=>⟨ty,h h' fun b u hb eb=>k b u ?_⟩))
  exact (((Heap.SameBut.update s.heap it _).trans (Heap.SameBut.update _ it _)).2 b hb).trans eb
theorem walk_self {E:Value→Shared→Prop} {i:Nat} {Q:Value→Shared→Prop} (W:WalkSt w it a es t ep ks led vs f ad i s.heap) (h:Q (.ref it) s):wpAny (model prog w) A (pyIter (.ref it)) Q E s:=by
 refine wpAny_pyIter_slot W.itr.ty si_iter (wpAny_call_entry si_iter W.itr.ty si_iter_entry ?_ (si_iter_args _))
 show wpAny _ _ (ret (.ref it)) _ _ s
 exact wpAny_pure ⟨_,rfl,"set_iterator",_,W.itr.ty,si_next.lookup,h⟩
theorem walks_set (hh:A.handled=none):Walks prog w A it (it::a::ad) [it] vs.length (fun i v=>vs[i]?=some v) (fun i h=>WalkSt w it a es t ep ks led vs f ad i h) where
 sub:=fun b hb=>by simp at hb;simp [hb]
 frame:=fun i h h' st k=>by
  obtain ⟨o,ho,hd⟩:=st.set
  exact ⟨st.itr.keep fun o e=>k it (by simp) o e,⟨o,k a (by simp) o ho,hd⟩,st.dat,st.way.keep fun b hb u e=>k b (by simp [hb]) u e,st.na,st.nad⟩
 item:=fun i s Q E hi st hQ=>by
  have hx:vs[i]?=some vs[i]:=List.getElem?_eq_getElem hi
  exact walk_item st hx fun h' st' sb=>hQ _ h' s.toks hx st' fun b o hb e=>(sb.2 b (fun q=>hb (by simp [q]))).trans e
 done:=fun s Q E st hQ=>walk_done hh st fun h' k=>hQ h' s.toks fun b o hb e=>k b o (fun q=>hb (by simp [q])) e
 self:=fun i s Q E st hQ=>walk_self st hQ
theorem iter_set {E:Value→Shared→Prop} {Q:Value→Shared→Prop} {o:Obj} (ho:s.heap.get? a=some o) (hc:o.cls=.type "set") (hd:o.data=.set es ep t) (D:SetD es t ks (!byText w)) (hk:ks.length < 64)
  (h:∀ (it:Addr) (h':Heap) (dr:Drawn) (vs:List Value) (f:Nat→Value) (ad:List Addr),WalkSt w it a es t ep ks (!byText w) vs f ad 0 h'→s.heap.objs.size≤it→(∀ b∈ad,s.heap.objs.size≤b∧b < h'.objs.size)→it < h'.objs.size→(∀ b u,s.heap.get? b=some u→h'.get? b=some u)→Q (.ref it) { s with heap:=h',drawn:=dr }) :
  wpAny (model prog w) A (pyIter (.ref a)) Q E s:=by
 have hT:s.TypeIs (.ref a) "set":=⟨o,ho,hc⟩
 have hlt:a < s.heap.objs.size:=Heap.lt_size ho
 refine wpAny_pyIter_slot hT F.slot_set_iter (wpAny_call_entry F.slot_set_iter hT set_iter_entry ?_ (F.args_set_iter_1 _))
 unfold Builtin.«frozenset.__iter__» Builtin.Frozenset.slot0 Builtin.Frozenset.sizeOf Builtin.Frozenset.addrOf
 refine wpAny_bind (wpAny_bind (m:=slotArgs "__iter__" 0 ⟨[.ref a],[]⟩) (wpAny_pure (wpAny_pure ?_)))
 refine wpAny_bind (wpAny_bind (wpAny_setEntries_of ho hd D.fits (wpAny_pure ?_)))
 dsimp only
 unfold setDrawn
 refine wpAny_bind ?_
 refine wpAny_bind (wpAny_setState_of ho hd D.fits ?_)
 dsimp only
 refine wpAny_bind (byText_any (wpAny_pure ?_))
 have fin:∀ (h1:Heap) (vs:List Value) (f:Nat→Value) (ad:List Addr) (dr:Drawn),(∀ b u,s.heap.get? b=some u→h1.get? b=some u)→s.heap.objs.size≤h1.objs.size→(∀ b∈ad,s.heap.objs.size≤b∧b < h1.objs.size)→Way w h1 a es t ep vs f ad →
   wpAny (model prog w) A.in1 (do ret (← newFields "set_iterator" [f 0,rawInt 0,.ref a,rawInt (es.size:Nat),rawInt (← setEpoch a)])) (fun fin s'=>∃ v,fin=Fin.done (.ret v)∧∃ T' r,s'.TypeIs v T'∧typeLookup (.type T') "__next__"=pure (some r)∧Q v s') E { s with heap:=h1,drawn:=dr }:=fun h1 vs f ad dr kp sz had way=>by
  refine wpAny_bind (wpAny_setEpoch_of (kp a o ho) hd D.fits ?_)
  refine wpAny_bind (wpAny_newObj_type (wpAny_pure ⟨_,rfl,"set_iterator",_,⟨_,Heap.get?_push_size _ rfl,rfl⟩,si_next.lookup,?_⟩))
  refine h h1.objs.size _ dr vs f ad ⟨⟨_,Heap.get?_push_size _ rfl,rfl,rfl⟩,⟨o,Heap.get?_push_of_some _ (kp a o ho),hd⟩,D,way.keep fun b hb u e=>Heap.get?_push_of_some _ e,?_,fun q=>?_⟩ sz (fun b hb=>⟨(had b hb).1,?_⟩) ?_ (fun b u e=>Heap.get?_push_of_some _ (kp b u e))
  ·exact Nat.ne_of_lt (Heap.lt_size (kp a o ho))
  ·exact absurd (had _ q).2 (Nat.lt_irrefl _)
  ·rw [Heap.size_push];exact Nat.lt_succ_of_lt (had b hb).2
  ·rw [Heap.size_push];exact Nat.lt_succ_self _
 show wpAny _ _ (if (!byText w && drawnB es t)=true then _ else _) _ _ _
 by_cases hdr:(!byText w && drawnB es t)=true
 ·rw [if_pos hdr]
  refine wpAny_bind (draw_perm es.size (List.range es.size) s _ (by simp) fun ys d hp=>?_)
  simp only [newTuple]
  refine wpAny_bind (wpAny_newObj_type ?_ ?_)
  ·refine fin _ _ (fun _=>.ref s.heap.objs.size) [s.heap.objs.size] d (fun b u e=>Heap.get?_push_of_some _ e) (by rw [Heap.size_push];exact Nat.le_succ _) (fun b hb=>?_) (Way.drawn hp ⟨_,Heap.get?_push_size _ rfl,rfl,_,rfl⟩)
   have:b=s.heap.objs.size:=by simpa using hb
   subst this
   exact ⟨Nat.le_refl _,by rw [Heap.size_push];exact Nat.lt_succ_self _⟩
  ·show (ys.map fun (i:Nat)=>rawInt i).toArray.size≤sizeLine
   rw [List.size_toArray,List.length_map,hp.length_eq,List.length_range,D.size,sizeLine_eq]
   omega
 ·rw [if_neg hdr]
  refine wpAny_bind (wpAny_pure ?_)
  cases hb:byText w with
  | true=>exact fin s.heap _ (fun _=>rawInt 0) [] s.drawn (fun b u e=>e) (Nat.le_refl _) (fun b hb=>by cases hb) (Way.text hb)
  | false =>
   have hd2:drawnB es t=false:=by
    cases q:drawnB es t with
    | false=>rfl
    | true=>exact absurd (by rw [hb,q];rfl) hdr
   exact fin s.heap _ (fun i=>rawInt (slotAt t.place i)) [] s.drawn (fun b u e=>e) (Nat.le_refl _) (fun b hb=>by cases hb) (Way.slot hb hd2 (by rw [D.led,hb];rfl))
end
end Ls
end
section
namespace Ls
open PySem PyProof.Rows
section
variable {prog:Program} {w:World} {A:Around} {E:Value→Shared→Prop} {s:Shared} {a:Addr} {ks:List Int}
theorem collect_set {Q:List Value→Shared→Prop} (hh:A.handled=none) (hS:SetS s.heap a ks (!byText w)) (hk:ks.length < 64)
  (h:∀ (vs:List Value) (s':Shared),(∃ (o:Obj) (es:Array (Int × Value)) (t:SetTable),s.heap.get? a=some o∧SetD es t ks (!byText w)∧vs.Perm (es.toList.map (·.2)))→(∀ b u,s.heap.get? b=some u→s'.heap.get? b=some u)→s'.gens=s.gens→s'.os=s.os→s.heap.objs.size < s'.heap.objs.size→Q vs s'):wpAny (model prog w) A (collect (.ref a)) Q E s:=by
 obtain ⟨o,es,ep,t,ho,hx,hd,D⟩:=hS
 unfold collect
 refine wpAny_bind (wpAny_runValue (codeAny_builtin F.entry_proto_collect ?_));rw [Around.under_plainId F.plain_proto_collect _]
 show wpAny (model prog w) A.in1 (newList [] >>= fun l=>again (.builtin "list.__iadd__" ⟨[l,.ref a],[]⟩)) _ _ s
 refine wpAny_bind (wpAny_newObj_type (wpAny_pure ⟨plainId_quiet F.plain_list_iadd _,codeAny_builtin F.entry_list_iadd ?_⟩));rw [Around.under_plainId F.plain_list_iadd _]
 have hlt:a < s.heap.objs.size:=Heap.lt_size ho
 generalize hL:s.heap.objs.size=L
 have hs1:L=s.heap.objs.size:=hL.symm
 have ho1:∀ b u,s.heap.get? b=some u→(s.heap.push { cls:=.type "list",data:=.seq ([]:List Value).toArray }).get? b=some u:=fun b u e=>Heap.get?_push_of_some _ e
 have hS1:(s.heap.push { cls:=.type "list",data:=.seq ([]:List Value).toArray }).get? L=some { cls:=.type "list",data:=.seq ([]:List Value).toArray }:=by rw [← hL];exact Heap.get?_push_size _ rfl
 have hz1:(s.heap.push { cls:=.type "list",data:=.seq ([]:List Value).toArray }).objs.size=L+1:=by rw [Heap.size_push,hL]
 generalize s.heap.push { cls:=.type "list",data:=.seq ([]:List Value).toArray }=h1 at ho1 hS1 hz1 ⊢
 have hne:L≠a:=fun e=>absurd (e ▸ hlt) (by rw [hL];exact Nat.lt_irrefl _)
 show wpAny (model prog w) A.in1 (Builtin.List.listExtendWith (.ref L) (.ref a) (.ref L)) _ _ _
 unfold Builtin.List.listExtendWith
 refine wpAny_bind (wpAny_typeOf (T:="set") ⟨o,ho1 a o ho,hx.1⟩ ?_)
 have e1:Builtin.List.listSameRef (.ref L) (.ref a)=false:=by simp [Builtin.List.listSameRef,hne]
 rw [if_neg (by rw [e1];decide)]
 refine wpAny_bind (iter_set (s:={ s with heap:=h1 }) (ho1 a o ho) hx.1 hd D hk fun it h2 dr vs f ad W hit had hit2 k2=>?_)
 have hT2:Shared.TypeIs { s with heap:=h2,drawn:=dr } (.ref a) "set":=⟨o,k2 a o (ho1 a o ho),hx.1⟩
 refine wpAny_bind (wpAny_holding ?_)
 unfold Builtin.List.listLengthHint
 refine wpAny_bind (wpAny_specialOf hT2 F.slot_set_len.lookup ?_)
 generalize hid:("set.__len__":String)=id0
 (fail_if_success (clear hid id0))
 wp_delta
 rw [show splitId id0=some ("set","__len__") from by subst hid;decide +kernel]
 subst hid
 refine wpAny_bind (wpAny_isInstance (b:=true) hT2 (by rw [isSubtype_type];kernel_rfl) ?_)
 show wpAny (model prog w) A.in1 (typeOf (.ref a) >>= _) _ _ _
 refine wpAny_bind (wpAny_typeOf hT2 (wpAny_pure ?_))
 rw [if_pos (by decide)]
 refine wpAny_bind (wpAny_rule (wpAny_bind ?_))
 have hS2:h2.get? L=some { cls:=.type "list",data:=.seq ([]:List Value).toArray }:=k2 L _ hS1
 show wpAny (model prog w) A.in1 (updateSeq L (·.push .none) >>= fun _=>updateSeq L (·.pop)) _ _ _
 refine wpAny_bind (wpAny_updateSeq hS2 rfl ?_)
 have hS3:=Heap.get?_update_self (Obj.mapSeq (·.push Value.none)) hS2 rfl
 refine wpAny_updateSeq hS3 rfl ?_
 have hS4:=Heap.get?_update_self (Obj.mapSeq (·.pop)) hS3 rfl
 have oth:∀ b u,b≠L→h2.get? b=some u→((h2.update L (Obj.mapSeq (·.push Value.none))).update L (Obj.mapSeq (·.pop))).get? b=some u:=fun b u hb e =>
  (Heap.get?_update_other _ _ (Ne.symm hb)).trans ((Heap.get?_update_other _ _ (Ne.symm hb)).trans e)
 have nit:it≠L:=fun e=>absurd (show L+1≤L by rw [← hz1];exact e ▸ hit) (Nat.not_succ_le_self L)
 have nad:∀ b∈ad,b≠L:=fun b hb e=>absurd (show L+1≤L by rw [← hz1];exact e ▸ (had b hb).1) (Nat.not_succ_le_self L)
 have hLf:L ∉ it::a::ad:=by
  simp only [List.mem_cons,not_or]
  exact ⟨fun e=>nit e.symm,hne,fun q=>nad L q rfl⟩
 have WS:=(walks_set (prog:=prog) (w:=w) (A:=A.in1) (it:=it) (a:=a) (es:=es) (ep:=ep) (t:=t) (ks:=ks) (led:=!byText w) (vs:=vs) (f:=f) (ad:=ad) hh).toS
 have hn:vs.length=ks.length:=by rw [W.way.perm.length_eq,List.length_map,Array.length_toList,D.size]
 refine wpAny_pure ⟨plainId_quiet F.plain_extend_loop _,codeAny_extend_loopS WS (by rw [hn,sizeLine_eq];omega) L hLf _ vs.length 0 _ _ _ rfl (Nat.zero_le _) ((walks_set (prog:=prog) (A:=A) hh).frame 0 h2 _ W fun b hb u e=>oth b u (fun q=>hLf (q ▸ hb)) e) hS4 (ItemsOf.nil _) fun s' acc c hm hS' hacc=>?_⟩
 show wpAny (model prog w) A (load L >>= _) _ _ s'
 refine wpAny_bind (wpAny_load hS' (wpAny_pure (h acc.toList s' ⟨o,es,t,ho,D,?_⟩ (fun b u e=>?_) ?_ ?_ ?_)))
 ·have e:acc.toList=vs:=by
   refine List.ext_getElem? fun i=>?_
   by_cases hi:i < vs.length
   ·have ha:i < acc.size:=by rw [hacc.1];exact hi
    rw [Array.getElem?_toList,Array.getElem?_eq_getElem ha]
    exact (hacc.2 i _ (Array.getElem?_eq_getElem ha)).symm
   ·rw [Array.getElem?_toList,Array.getElem?_eq_none (by rw [hacc.1];omega),List.getElem?_eq_none (by omega)]
  rw [e]
  exact W.way.perm
 ·have hb:b < s.heap.objs.size:=Heap.lt_size e
  have q1:b≠L:=by rw [← hL];exact Nat.ne_of_lt hb
  refine hm.heap b u ?_ (oth b u q1 (k2 b u (ho1 b u e)))
  simp only [List.mem_cons,List.not_mem_nil,or_false,not_or]
  refine ⟨q1,fun q=>?_⟩
  have:L+1≤b:=by rw [← hz1,q];exact hit
  exact absurd (Nat.lt_of_lt_of_le hb (by rw [hL];exact Nat.le_of_succ_le this)) (Nat.lt_irrefl _)
 ·exact hm.gens
 ·exact hm.os
 ·rw [hL];exact Heap.lt_size hS'
end
end Ls
end
section
namespace Ls
open PySem PyProof.Rows
section
variable {prog:Program} {w:World} {A:Around} {E:Value→Shared→Prop} {s:Shared} {a:Addr} {ks:List Int}
theorem new_set {Q:Value→Shared→Prop} (x:Value) (h:Q (.ref s.heap.objs.size) { s with heap:=s.heap.push { cls:=.type "set",dict:=none,data:=.set #[] 0 (.fresh 0 0 (!byText w)) } }) :
  codeAny (model prog w) A (.call (.builtin "set.__new__") ⟨[.type "set",x],[]⟩) (wants Q E) s:=by
 refine codeAny_of_tree ?_
 show wpAny (model prog w) A.in1 (do checkBuiltinCall "set.__new__" ⟨[.type "set",x],[]⟩;again (.builtin "set.__new__" ⟨[.type "set",x],[]⟩)) _ _ s
 refine wpAny_bind (wpAny_of_eq (F.newCall_set_1 x) (wpAny_pure ⟨plainId_quiet F.plain_set_new _,codeAny_builtin F.entry_set_new ?_⟩));rw [Around.under_plainId F.plain_set_new _]
 unfold Builtin.«set.__new__» Builtin.Frozenset.newClass
 have hsub:=sub_set_self;obtain ⟨hp,g,d,tk,os⟩:=s;dsimp only
 wp_walk
 refine wpAny_askSetting (wpAny_pure ?_);dsimp only;simp only [newObj]
 refine wpAny_bind (wpAny_alloc (wpAny_pure ?_))
 refine wpAny_pure ?_
 exact h
theorem SetS.keep {h h':Heap} {led:Bool} (x:SetS h a ks led) (e:∀ o,h.get? a=some o→h'.get? a=some o):SetS h' a ks led:=let ⟨o,es,ep,t,ho,r⟩:=x;⟨o,es,ep,t,e o ho,r⟩
theorem met_eq (val:Nat→Int) (i:Nat):firstMet val (i+1)=if val i∈firstMet val i then firstMet val i else firstMet val i++[val i]:=by
 rw [firstMet_succ]
 unfold step_dedup
 by_cases h:val i∈firstMet val i
 ·rw [if_pos h,if_pos (by rw [List.any_eq_true];exact ⟨_,h,by simp⟩)]
 ·rw [if_neg h,if_neg]
  intro q
  rw [List.any_eq_true] at q
  obtain ⟨x,hx,e⟩:=q
  have:x=val i:=by simpa using e
  exact h (this ▸ hx)
theorem set_loop {R:Result→Shared→Prop} {I S:Addr} {fp wr:List Addr} {G:Array GenState→Array GenState→Prop} {n:Nat} {P:Nat→Value→Prop} {St:Nat→Shared→Prop} {led:Bool} (W:WalksS prog w A.in1 I fp wr G n P St) (hSf:S ∉ fp) {val:Nat→Int} (hval:∀ i v,P i v→∃ tk,v=.int (val i) tk) (hb:n+1 < scanBound) :
  ∀ (m i:Nat) (s:Shared),n - i=m→i≤n→St i s→SetS s.heap S (firstMet val i) led→(∀ s',Moved (S::wr) G s s'→SetS s'.heap S (firstMet val n) led→R (.ok (.ret .none)) s')→codeAny (model prog w) A (.builtin "set.update.loop" ⟨[.ref S,.ref I],[]⟩) R s:=by
 have nw:S ∉ wr:=fun q=>hSf (W.sub _ q)
 have up:∀ b∈wr,b∈S::wr:=fun b q=>List.mem_cons_of_mem _ q
 intro m
 induction m with
 | zero =>
  intro i s hm hi st hS k
  obtain rfl:i=n:=by omega
  refine codeAny_builtin PyProof.Rows.F.entry_set_update_loop ?_;rw [Around.under_plainId PyProof.Rows.F.plain_set_update_loop _]
  refine wpAny_bind (m:=pyNext (.ref I)) (W.done s _ _ st fun s' mv=>?_)
  exact wpAny_pure (k s' (mv.mono up) (hS.keep fun o e=>mv.heap S o nw e))
 | succ m ih =>
  intro i s hm hi st hS k
  have hlt:i < n:=by omega
  refine codeAny_builtin PyProof.Rows.F.entry_set_update_loop ?_;rw [Around.under_plainId PyProof.Rows.F.plain_set_update_loop _]
  refine wpAny_bind (m:=pyNext (.ref I)) (W.item i s _ _ hlt st fun v s' pv st' mv=>?_)
  obtain ⟨tk,rfl⟩:=hval i v pv
  have hS':=hS.keep (h':=s'.heap) fun o e=>mv.heap S o nw e
  refine wpAny_bind (m:=holding [Value.int (val i) tk] (setAdd S (.int (val i) tk))) (wpAny_holding ?_)
  unfold setAdd
  refine wpAny_holding (wpAny_bind ((intKind prog w).pyHash (k:=val i) (intKind_is _ _ _ _) ?_))
  have hl:=firstMet_length_le val i
  refine set_add (s:={ s' with toks:=s'.toks+1 }) hS' (by omega) fun b h' sb S2=>?_
  rw [← met_eq] at S2
  refine wpAny_pure ⟨plainId_quiet PyProof.Rows.F.plain_set_update_loop _,ih (i+1) _ (by omega) hlt (W.frame _ s' h' _ st' (Nat.le_succ _) fun b hb o e=>?_) S2 fun s2 mv2 S3=>?_⟩
  ·exact (sb.2 b (fun q=>hSf (q ▸ hb))).trans e
  ·exact k s2 (Moved.trans W.gtrans ((mv.mono up).then_heap (Nat.le_succ _) fun b o hb e=>(sb.2 b (fun q=>hb (q ▸ List.mem_cons_self))).trans e) mv2) S3
theorem call_set_ints {l:Addr} {items:Array Value} {ns:List Int} {Q:Value→Shared→Prop} (hh:A.handled=none) (hl:s.heap.IsList l items) (hi:IntsAre items.toList ns) (hb:items.size+1 < scanBound)
  (h:∀ (h':Heap) (tk:Nat),SetS h' s.heap.objs.size (firstMet (fun i=>ns.getD i 0) items.size) (!byText w)→(∀ b o,b < s.heap.objs.size→s.heap.get? b=some o→h'.get? b=some o)→Q (.ref s.heap.objs.size) { s with heap:=h',toks:=tk }) :
  wpAny (model prog w) A (call (.type "set") [.ref l]) Q E s:=by
 obtain ⟨mc,mt,hmro⟩:=F.called_set.mro
 have hmade:=F.called_set.made;have hsub:=F.called_set.sub
 refine wpAny_call (codeAny_of_tree ?_)
 show wpAny (model prog w) _ (callAny (.type "set") _) _ _ _
 refine wpAny_pure ⟨Code.quiet_builtin _ (by decide +kernel),codeAny_builtin F.entry_type_call ?_⟩;rw [Around.under_plain (weight_type_call_type "set" [.ref l] []) rfl]
 have h1:=F.called_set.notType;have h2:=F.called_set.canCreate;have hct:=F.typeCall_set_1 (.ref l)
 repeat (any_goals (first | assumption | wp_step))
 generalize hob:({ cls:=.type "set",dict:=none,data:=.set #[] 0 (.fresh 0 0 (!byText w)) }:Obj)=ob
 refine codeAny_mono (new_set (.ref l) (E:=E) (Q:=fun v s1=>v=.ref s.heap.objs.size∧s1={ s with heap:=s.heap.push ob }) ⟨rfl,by rw [hob]⟩) fun r s1 hr=>?_
 match r,hr with
 | .error e,hr=>exact hr
 | .ok (.ret v),hr =>
  obtain ⟨rfl,rfl⟩:=hr
  have g0:(s.heap.push ob).get? s.heap.objs.size=some ob:=Heap.get?_push_size _ (by rw [← hob];rfl)
  have hcls:ob.cls=.type "set":=by rw [← hob]
  have hT:Shared.TypeIs { s with heap:=s.heap.push ob } (.ref s.heap.objs.size) "set":=⟨ob,g0,hcls⟩
  have hli:=F.called_set.init.lookup;have hbi:=F.called_set.init.bind (.ref s.heap.objs.size)
  repeat (any_goals (first | assumption | wp_step))
  refine codeAny_mono (codeAny_call_builtin (R:=wants (fun r s2=>r=.none∧∃ h' tk,s2={ s with heap:=h',toks:=tk }∧SetS h' s.heap.objs.size (firstMet (fun i=>ns.getD i 0) items.size) (!byText w)∧∀ b o,b < s.heap.objs.size→s.heap.get? b=some o→h'.get? b=some o) E) F.called_set.init.plain F.entry_set_init (check_set_init_1 hT ?_)) fun r2 s2 hr2=>?_
  ·obtain ⟨ol,hol,hcl,nl,hdl⟩:=hl
   obtain ⟨ocls,odict,odata,oslots⟩:=ol
   simp only at hcl hdl
   subst hcl hdl
   have hol':(s.heap.push ob).get? l=some { cls:=.type "list",dict:=odict,data:=.seq items nl,slots:=oslots }:=Heap.get?_push_of_some _ hol
   have q1:=F.sub_list_set;have q2:=F.sub_list_frozenset
   have q3:(Value.type "list" == Value.type "dict")=false:=by decide
   have hl1:(s.heap.push ob).IsList l items:=⟨_,hol',rfl,nl,rfl⟩
   have ll:l < s.heap.objs.size:=Heap.lt_size hol
   have lI:l≠(s.heap.push ob).objs.size:=by rw [Heap.size_push];exact Nat.ne_of_lt (Nat.lt_succ_of_lt ll)
   have sf:s.heap.objs.size ∉ [(s.heap.push ob).objs.size,l]:=by
    rw [Heap.size_push]
    simp only [List.mem_cons,List.not_mem_nil,or_false,not_or]
    exact ⟨Nat.ne_of_lt (Nat.lt_succ_self _),Nat.ne_of_gt ll⟩
   subst hob
   unfold Builtin.«set.__init__» noKeywords Builtin.Frozenset.updateFrom
   generalize hPI:pyIter=PI
   wp_walk
   subst hPI
   refine wpAny_pyIter_list hl1 ?_;refine wpAny_bind (wpAny_runValue ?_)
   refine set_loop (led:=!byText w) ((Walks.list (by simp [hh]) _ l lI items).toS) sf (val:=fun i=>ns.getD i 0) (fun i v hv=>PyProof.Rows.IntsAre.int_at hi i v (by rw [Array.getElem?_toList];exact hv)) hb (items.size - 0) 0 _ (by omega) (Nat.zero_le _) ⟨⟨_,Heap.get?_push_size _ rfl,rfl,rfl⟩,hl1.push _⟩ ?_ fun s' mv S'=>?_
   ·exact ⟨_,#[],0,.fresh 0 0 (!byText w),Heap.get?_push_of_some _ g0,⟨rfl,rfl,rfl⟩,rfl,⟨rfl,List.Pairwise.nil,rfl,fun e he=>by simp at he,.rfl⟩⟩
   ·obtain ⟨h',g',d',tk',os'⟩:=s'
    have eg:g'=s.gens:=mv.gens
    have ed:d'=s.drawn:=mv.drawn
    have eo:os'=s.os:=mv.os
    subst eg ed eo
    refine wpAny_pure ?_
    refine wpAny_pure ⟨rfl,h',tk',rfl,S',fun b o hb' e=>?_⟩
    refine mv.heap b o ?_ (Heap.get?_push_of_some _ (Heap.get?_push_of_some _ e))
    simp only [List.mem_cons,List.not_mem_nil,or_false,not_or]
    exact ⟨Nat.ne_of_lt hb',by rw [Heap.size_push];exact Nat.ne_of_lt (Nat.lt_succ_of_lt hb')⟩
  ·match r2,hr2 with
   | .error e,hr2=>exact hr2
   | .ok (.ret r),hr2 =>
    obtain ⟨rfl,h',tk,rfl,S',k'⟩:=hr2
    repeat (any_goals (first | assumption | wp_step))
    exact h _ _ S' k'
end
end Ls
end
section
namespace Ls
open PySem PyProof.Rows
theorem nodup_len:∀ (n:Nat) (l:List Int),l.Nodup→(∀ x∈l,0≤x∧x < (n:Int))→l.length≤n
 | 0,l,_,h=>by
  cases l with
  | nil=>exact Nat.le_refl _
  | cons x l=>have:=h x (List.mem_cons_self ..);omega
 | n+1,l,hn,h=>by
  have ih:=nodup_len n (l.erase (n:Int)) (hn.erase _) fun x hx=>by
   have q:=(hn.mem_erase_iff).mp hx
   have:=h x q.2
   have:=q.1
   omega
  rw [List.length_erase] at ih
  split at ih <;> omega
theorem met_nodup (val:Nat→Int):∀ i,(firstMet val i).Nodup
 | 0=>List.nodup_nil
 | i+1=>by
  rw [met_eq]
  have ih:=met_nodup val i
  by_cases h:val i∈firstMet val i
  ·rw [if_pos h];exact ih
  ·rw [if_neg h,List.nodup_append]
   refine ⟨ih,by simp,fun a ha b hb=>?_⟩
   have:b=val i:=by simpa using hb
   subst this
   exact fun e=>h (e ▸ ha)
theorem met_mem (val:Nat→Int):∀ (i:Nat) (x:Int),x∈firstMet val i ↔ ∃ j,j < i∧val j=x
 | 0,x=>by
  constructor
  ·intro h;cases h
  ·rintro ⟨j,hj,_⟩;omega
 | i+1,x=>by
  have ih:=met_mem val i
  rw [met_eq]
  have:x∈(if val i∈firstMet val i then firstMet val i else firstMet val i++[val i]) ↔ x∈firstMet val i∨x=val i:=by
   by_cases h:val i∈firstMet val i
   ·rw [if_pos h]
    exact ⟨.inl,fun q=>q.elim id fun e=>e ▸ h⟩
   ·rw [if_neg h]
    simp
  rw [this,ih]
  constructor
  ·rintro (⟨j,hj,e⟩ | e)
   ·exact ⟨j,by omega,e⟩
   ·exact ⟨i,by omega,e.symm⟩
  ·rintro ⟨j,hj,e⟩
   by_cases q:j < i
   ·exact .inl ⟨j,q,e⟩
   ·have:j=i:=by omega
    subst this
    exact .inr e.symm
theorem ints_of {vs:List Value} {es:List (Int × Value)} (hel:∀ e∈es,El e) (hp:vs.Perm (es.map (·.2))):IntsAre vs (vs.map intOf):=by
 have gen:∀ l:List Value,(∀ v∈l,∃ k t,v=.int k t)→IntsAre l (l.map intOf):=by
  intro l
  induction l with
  | nil=>intro _;exact .nil
  | cons v l ih =>
   intro h
   obtain ⟨k,t,rfl⟩:=h v (List.mem_cons_self ..)
   exact .cons k t (ih fun u hu=>h u (List.mem_cons_of_mem _ hu))
 refine gen vs fun v hv=>?_
 obtain ⟨e,he,rfl⟩:=List.mem_map.mp (hp.mem_iff.mp hv)
 obtain ⟨k,t,rfl⟩:=hel e he
 exact ⟨k,t,rfl⟩
section
variable {prog:Program} {w:World} {A:Around} {E:Value→Shared→Prop} {s:Shared} {a:Addr} {ks:List Int}
theorem sorted_set {Q:Value→Shared→Prop} (hh:A.handled=none) (hS:SetS s.heap a ks (!byText w)) (hk:ks.length < 64)
  (h:∀ (p:Addr) (out:Array Value) (ns:List Int) (e:Nat) (s':Shared),s.heap.objs.size≤p→s'.heap.get? p=some (seqObj "list" out e)→IntsAre out.toList ns→ns.Perm ks→ns.Pairwise (·≤·)→(∀ b u,s.heap.get? b=some u→s'.heap.get? b=some u)→s'.gens=s.gens→s'.os=s.os→Q (.ref p) s') :
  wpAny (model prog w) A (call (.builtin "sorted") [.ref a]) Q E s:=by
 refine Calls.call_function_entry kind_sorted plain_sorted entry_sorted (args_sorted1 _) ?_
 unfold Builtin.«sorted»
 refine wpAny_bind (m:=checkCount "sorted" 1 1 _) (wpAny_pure (wpAny_bind ?_))
 refine collect_set hh hS hk fun vs s1 hv k1 g1 o1 z1=>?_
 obtain ⟨o,es,t,ho,D,hp⟩:=hv
 have hi:=ints_of D.els hp
 have hperm:(vs.map intOf).Perm ks:=(hp.map intOf).trans (by rw [List.map_map];exact D.perm)
 have hlen:vs.length=ks.length:=by rw [← hperm.length_eq,List.length_map]
 refine wpAny_bind (wpAny_newList ?_ (by first | (rw [List.size_toArray,hlen,sizeLine_eq];omega) | (rw [hlen,sizeLine_eq];omega)))
 have g2:(s1.heap.push (seqObj "list" vs.toArray 0)).get? s1.heap.objs.size=some (seqObj "list" vs.toArray 0):=Heap.get?_push_size _ rfl
 refine wpAny_bind (wpAny_holding (wpAny_call_entry slot_list_sort ⟨_,g2,rfl⟩ entry_list_sort (list_sort_tree g2 hi (by rw [hlen];exact hk) fun out ns q1 q2 q3=>⟨_,rfl,?_⟩) (args_list_sort _)))
 obtain ⟨e,he⟩:=sortedHeap_at (vs:=vs) (out:=out) g2
 refine wpAny_pure ⟨_,rfl,h s1.heap.objs.size out ns e _ (Nat.le_of_lt z1) he q1 (q2.trans hperm) q3 (fun b u eb=>?_) g1 o1⟩
 have hb:=Heap.lt_size (k1 b u eb)
 show (sortedHeap _ _ vs out).get? b=some u
 rw [sortedHeap_old (Nat.ne_of_lt hb) (by rw [size_push'];exact Nat.lt_succ_of_lt hb)]
 exact Heap.get?_push_of_some _ (k1 b u eb)
end
end Ls
end
section
namespace L2
open PySem PySem.Spec PyProof.Rows
section
variable {X:Cx}
theorem Inv.drew {pins:List (Addr × Obj)} {σ:St} {H:Hp} {s:Shared} (I:Inv X pins σ H s) (d:Drawn):Inv X pins σ H { s with drawn:=d }:=⟨I.ok,I.os,I.bare,I.base,I.loc,I.cell,I.free,I.freeC,I.pin,I.hok,I.len⟩
def rNotInP (K:PySem.W.Frag):R2:=fun x y H Q=>∃ (z p u v:Addr) (a0 a1 b0 b1 c0 c1:Int),x=.ref z∧y=.ref p∧SqT K H z [.int a0,.int a1]∧SqT K H p [.ref u,.ref v]∧SqT K H u [.int b0,.int b1]∧SqT K H v [.int c0,.int c1] ∧
 Q (.bl (!((b0 == a0 && b1 == a1) || (c0 == a0 && c1 == a1)))) H
theorem op_notInP (hu:X.A.units+64 < cLine):OpR X (compareOp .NotIn) (rNotInP X.K):=by
 intro pins s σ H x y v u Q I rx ry h
 obtain ⟨z,p,u1,v1,a0,a1,b0,b1,c0,c1,rfl,rfl,hz,hp,h1,h2,q⟩:=h
 have pr:∀ {w:Addr} {m n:Int},SqT X.K H w [.int m,.int n]→Dp X.K H (.ref w) (.tuple [.int m,.int n]):=fun h=>.tup h (.cons (.int _) (.cons (.int _) .nil))
 obtain ⟨as,r1⟩:=Dp.reads I _ _ _ (pr hz) rx
 obtain ⟨bs,r2⟩:=Dp.reads I (.tuple [.tuple [.int b0,.int b1],.tuple [.int c0,.int c1]]) _ _ (.tup hp (.cons (pr h1) (.cons (pr h2) .nil))) ry
 refine SeqAt.notIn_tuple_reads r2 r1 rfl rfl (by show X.A.units+1+min _ _ < cLine;have:min (PyData.depthAll [.tuple [.int b0,.int b1],.tuple [.int c0,.int c1]]) (PyData.depth (.tuple [.int a0,.int a1]))≤8:=Nat.le_trans (Nat.min_le_right _ _) (by show 1≤8;decide);omega) ⟨.bl _,H,I,rfl,?_⟩
 have e:([PyData.tuple [.int b0,.int b1],.tuple [.int c0,.int c1]].any fun y=>PyData.eqv y (.tuple [.int a0,.int a1]))=((b0 == a0 && b1 == a1) || (c0 == a0 && c1 == a1)):=by
  simp [PyData.eqv,PyData.eqvAll]
 rw [e]
 exact q
theorem bt_sorted:bootBuiltins "sorted"=some (.builtin "sorted"):=by decide +kernel
theorem bt_set:bootBuiltins "set"=some (.type "set"):=by decide +kernel
theorem bt_all:bootBuiltins "all"=some (.builtin "all"):=by decide +kernel
def tSortedSet (K:PySem.W.Frag) (t:TA):TE:=fun σ H Q=>t σ H fun vs H1=>∃ (a:Addr) (ns:List Int),vs=[.ref a]∧SqL K H1 a (ns.map V.int)∧ns.length≤1000∧(∀ x∈ns,0≤x∧x < 60) ∧
 ∀ (ms:List Int) (p:Addr),ms.Pairwise (· < ·)→(∀ x,x∈ms ↔ x∈ns)→H1 p=none→Q (.ref p) (upd H1 p (.lst (ms.map V.int)))
theorem pe_sortedSet {e:Expr} {t:TA} {p p2 pos pos2:Pos} (hg:Gl X "sorted") (hm:X.mg "sorted"=none) (hg2:Gl X "set") (hm2:X.mg "set"=none) (ha:PA X [e] t) (hc:X.calm=true:=by rfl)
  (he:starEach [Expr.Call (.Name "set" p2) [e] [] pos2] X.env=(false,eval (.Call (.Name "set" p2) [e] [] pos2) X.env)::starEach [] X.env:=by rfl) (he2:starEach [e] X.env=(false,eval e X.env)::starEach [] X.env:=by rfl) :
  PE X (.Call (.Name "sorted" p) [.Call (.Name "set" p2) [e] [] pos2] [] pos) (tSortedSet X.K t):=by
 intro pins s σ H Q I h
 refine wpAny_Call_Name_kw (ld_blt I hg hm bt_sorted ?_)
 refine PyProof.Rows.callWith_builtin1 ?_ he rfl
 rw [he]
 show wpAny _ _ (spliced ((false,eval (.Call (.Name "set" p2) [e] [] pos2) X.env)::backTo pos (starEach [] X.env))) _ _ s
 refine Calls.spliced_cons (wpAny_Call_Name_kw (ld_blt I hg2 hm2 bt_set (PyProof.Rows.callWith_type1 (thn (ha pos2 pins s σ H _ I h) fun us s1 hq=>?_) he2 rfl)))
 obtain ⟨vs,H1,I1,r1,a,ns,rfl,hs,hlen,hsm,q⟩:=hq
 obtain ⟨its,rv,pl,hz⟩:=I1.list hs
 rw [Vals.ref1 r1]
 have hl:=rv.length
 rw [List.length_map] at hl
 refine Ls.call_set_ints (I1.ok.hd hc) pl.isList (by simpa using rv.ints) (by simp only [List.size_toArray];unfold scanBound;omega) fun h2 tk S2 k2=>?_
 have I2:Inv X pins σ H1 { s1 with heap:=h2,toks:=tk }:=I1.kept fun b o eb=>k2 b o (Heap.lt_size eb) eb
 refine Calls.spliced_nil ?_
 have mem:∀ x,x∈firstMet (fun i=>ns.getD i 0) its.toArray.size ↔ x∈ns:=fun x=>by
  rw [Ls.met_mem,List.size_toArray,← hl]
  constructor
  ·rintro ⟨j,hj,e⟩
   rw [List.getD_eq_getElem?_getD,List.getElem?_eq_getElem hj] at e
   exact e ▸ List.getElem_mem hj
  ·intro hx
   obtain ⟨j,hj,e⟩:=List.getElem_of_mem hx
   exact ⟨j,hj,by rw [List.getD_eq_getElem?_getD,List.getElem?_eq_getElem hj];exact e⟩
 have hk:(firstMet (fun i=>ns.getD i 0) its.toArray.size).length < 64:=Nat.lt_of_le_of_lt (Ls.nodup_len 60 _ (Ls.met_nodup _ _) fun x hx=>hsm x ((mem x).mp hx)) (by decide)
 refine Ls.sorted_set (I1.ok.hd hc) S2 hk fun pp out ms ep s3 z3 g3 i3 p3 o3 k3 e3 f3=>?_
 have nd:ms.Nodup:=p3.nodup_iff.mpr (Ls.met_nodup _ _)
 have lt3:ms.Pairwise (· < ·):=by
  have:=List.pairwise_and_iff.mpr ⟨o3,nd⟩
  exact this.imp fun h=>by have:=h.1;have:=h.2;omega
 obtain ⟨hp3,gg3,dd3,tt3,oo3⟩:=s3
 have eg:gg3=s1.gens:=e3
 have eo:oo3=s1.os:=f3
 subst eg eo
 have hzz:(ms.map V.int).length≤sizeLine:=by rw [List.length_map,p3.length_eq,sizeLine_eq];omega
 have I3:Inv X pins σ (upd H1 pp (.lst (ms.map V.int))) { s1 with heap:=hp3,toks:=tt3 }:=I2.laid (t':=tt3) (fun b o eb=>k3 b o eb) z3 ⟨hzz,out.toList,ep,vals_of_ints i3,by simpa using g3⟩
 exact ⟨.ref pp,_,I3.drew dd3,rfl,q ms pp lt3 (fun x=>(p3.mem_iff).trans (mem x)) (I2.hok.fresh z3)⟩
end
end L2
end
section
namespace Lc
open PySem PySem.Spec PyProof.Rows L2
def top (i:Nat):Stmt:=PySem.Challenge.pw_linechanges_s01_answers.main.body.getD i (.Pass ⟨0,0,0,0⟩)
abbrev s_has_form:Stmt:=top 9
theorem sc_has_form:FnScope ["line"] ["line"] (defScope s_has_form):=⟨rfl,rfl,rfl,by decide +kernel,rfl,by decide +kernel,by decide +kernel⟩
abbrev s_read_lines:Stmt:=top 10
theorem sc_read_lines:FnScope ["numbers","lines","place","kind","end","line"] ["numbers"] (defScope s_read_lines):=⟨rfl,rfl,rfl,by decide +kernel,rfl,by decide +kernel,by decide +kernel⟩
abbrev s_finds_what_it_uses:Stmt:=top 11
theorem sc_finds_what_it_uses:FnScope ["line","place","inputs"] ["line","place","inputs"] (defScope s_finds_what_it_uses):=⟨rfl,rfl,rfl,by decide +kernel,rfl,by decide +kernel,by decide +kernel⟩
abbrev s_all_find_what_they_use:Stmt:=top 12
theorem sc_all_find_what_they_use:FnScope ["lines","inputs","place","line"] ["lines","inputs"] (defScope s_all_find_what_they_use):=⟨rfl,rfl,rfl,by decide +kernel,rfl,by decide +kernel,by decide +kernel⟩
abbrev s_common_divisor:Stmt:=top 16
theorem sc_common_divisor:FnScope ["a","b","rest"] ["a","b"] (defScope s_common_divisor):=⟨rfl,rfl,rfl,by decide +kernel,rfl,by decide +kernel,by decide +kernel⟩
abbrev s_in_lowest_terms:Stmt:=top 17
theorem sc_in_lowest_terms:FnScope ["upper","lower","shared"] ["upper","lower"] (defScope s_in_lowest_terms):=⟨rfl,rfl,rfl,by decide +kernel,rfl,by decide +kernel,by decide +kernel⟩
abbrev s_opposite:Stmt:=top 18
theorem sc_opposite:FnScope ["x"] ["x"] (defScope s_opposite):=⟨rfl,rfl,rfl,by decide +kernel,rfl,by decide +kernel,by decide +kernel⟩
abbrev s_total:Stmt:=top 19
theorem sc_total:FnScope ["x","y","shared","own","upper","left"] ["x","y"] (defScope s_total):=⟨rfl,rfl,rfl,by decide +kernel,rfl,by decide +kernel,by decide +kernel⟩
abbrev s_difference:Stmt:=top 20
theorem sc_difference:FnScope ["x","y"] ["x","y"] (defScope s_difference):=⟨rfl,rfl,rfl,by decide +kernel,rfl,by decide +kernel,by decide +kernel⟩
abbrev s_product:Stmt:=top 21
theorem sc_product:FnScope ["x","y","first","second"] ["x","y"] (defScope s_product):=⟨rfl,rfl,rfl,by decide +kernel,rfl,by decide +kernel,by decide +kernel⟩
abbrev s_sum_of_products:Stmt:=top 22
theorem sc_sum_of_products:FnScope ["pairs","there","pair"] ["pairs"] (defScope s_sum_of_products):=⟨rfl,rfl,rfl,by decide +kernel,rfl,by decide +kernel,by decide +kernel⟩
abbrev s_sum_by_steps:Stmt:=top 23
theorem sc_sum_by_steps:FnScope ["pairs","result","x","y"] ["pairs"] (defScope s_sum_by_steps):=⟨rfl,rfl,rfl,by decide +kernel,rfl,by decide +kernel,by decide +kernel⟩
abbrev s_sum_at_once:Stmt:=top 24
theorem sc_sum_at_once:FnScope ["pairs","upper","lower","x","y","other","shared"] ["pairs"] (defScope s_sum_at_once):=⟨rfl,rfl,rfl,by decide +kernel,rfl,by decide +kernel,by decide +kernel⟩
abbrev s_inverse:Stmt:=top 25
theorem sc_inverse:FnScope ["x"] ["x"] (defScope s_inverse):=⟨rfl,rfl,rfl,by decide +kernel,rfl,by decide +kernel,by decide +kernel⟩
abbrev s_quotient:Stmt:=top 26
theorem sc_quotient:FnScope ["x","y"] ["x","y"] (defScope s_quotient):=⟨rfl,rfl,rfl,by decide +kernel,rfl,by decide +kernel,by decide +kernel⟩
abbrev s_weight:Stmt:=top 27
theorem sc_weight:FnScope ["x"] ["x"] (defScope s_weight):=⟨rfl,rfl,rfl,by decide +kernel,rfl,by decide +kernel,by decide +kernel⟩
abbrev s_read_fractions:Stmt:=top 28
theorem sc_read_fractions:FnScope ["numbers","how_many","fractions","place"] ["numbers","how_many"] (defScope s_read_fractions):=⟨rfl,rfl,rfl,by decide +kernel,rfl,by decide +kernel,by decide +kernel⟩
abbrev s_line_value:Stmt:=top 33
theorem sc_line_value:FnScope ["line","point","found","kind","first","second"] ["line","point","found"] (defScope s_line_value):=⟨rfl,rfl,rfl,by decide +kernel,rfl,by decide +kernel,by decide +kernel⟩
abbrev s_run_lines:Stmt:=top 34
theorem sc_run_lines:FnScope ["lines","point","found","place","line","value"] ["lines","point"] (defScope s_run_lines):=⟨rfl,rfl,rfl,by decide +kernel,rfl,by decide +kernel,by decide +kernel⟩
abbrev s_moved:Stmt:=top 35
theorem sc_moved:FnScope ["point","direction","step","here","way"] ["point","direction","step"] (defScope s_moved):=⟨rfl,rfl,rfl,by decide +kernel,rfl,by decide +kernel,by decide +kernel⟩
abbrev s_is_operation:Stmt:=top 38
theorem sc_is_operation:FnScope ["line"] ["line"] (defScope s_is_operation):=⟨rfl,rfl,rfl,by decide +kernel,rfl,by decide +kernel,by decide +kernel⟩
abbrev s_lines_behind:Stmt:=top 39
theorem sc_lines_behind:FnScope ["lines","i","needed","place","used"] ["lines","i"] (defScope s_lines_behind):=⟨rfl,rfl,rfl,by decide +kernel,rfl,by decide +kernel,by decide +kernel⟩
abbrev s_inputs_behind:Stmt:=top 40
theorem sc_inputs_behind:FnScope ["lines","i","behind","place","line"] ["lines","i"] (defScope s_inputs_behind):=⟨rfl,rfl,rfl,by decide +kernel,rfl,by decide +kernel,by decide +kernel⟩
abbrev s_how_many_operations:Stmt:=top 41
theorem sc_how_many_operations:FnScope ["lines","line"] ["lines"] (defScope s_how_many_operations):=⟨rfl,rfl,rfl,by decide +kernel,rfl,by decide +kernel,by decide +kernel⟩
abbrev s_cost_of_direction:Stmt:=top 42
theorem sc_cost_of_direction:FnScope ["lines","line"] ["lines"] (defScope s_cost_of_direction):=⟨rfl,rfl,rfl,by decide +kernel,rfl,by decide +kernel,by decide +kernel⟩
abbrev s_product_coefficient:Stmt:=top 44
theorem sc_product_coefficient:FnScope ["first","second","r","s"] ["first","second","r"] (defScope s_product_coefficient):=⟨rfl,rfl,rfl,by decide +kernel,rfl,by decide +kernel,by decide +kernel⟩
abbrev s_quotient_coefficient:Stmt:=top 45
theorem sc_quotient_coefficient:FnScope ["own","first","second","r","pairs","s"] ["own","first","second"] (defScope s_quotient_coefficient):=⟨rfl,rfl,rfl,by decide +kernel,rfl,by decide +kernel,by decide +kernel⟩
abbrev s_next_coefficient:Stmt:=top 46
theorem sc_next_coefficient:FnScope ["line","own","made","direction","kind","r","first","second"] ["line","own","made","direction"] (defScope s_next_coefficient):=⟨rfl,rfl,rfl,by decide +kernel,rfl,by decide +kernel,by decide +kernel⟩
abbrev s_Series___init__:Stmt:=inClass (top 47) 0
theorem sc_Series___init__:FnScope ["self","lines","results","direction","value"] ["self","lines","results","direction"] (defScope s_Series___init__):=⟨rfl,rfl,rfl,by decide +kernel,rfl,by decide +kernel,by decide +kernel⟩
abbrev s_Series_make:Stmt:=inClass (top 47) 1
theorem sc_Series_make:FnScope ["self","i","how_many","place","own"] ["self","i","how_many"] (defScope s_Series_make):=⟨rfl,rfl,rfl,by decide +kernel,rfl,by decide +kernel,by decide +kernel⟩
abbrev s_Series_first_coefficients:Stmt:=inClass (top 47) 2
theorem sc_Series_first_coefficients:FnScope ["self","i","how_many"] ["self","i","how_many"] (defScope s_Series_first_coefficients):=⟨rfl,rfl,rfl,by decide +kernel,rfl,by decide +kernel,by decide +kernel⟩
abbrev s_Series_change_of:Stmt:=inClass (top 47) 3
theorem sc_Series_change_of:FnScope ["self","i"] ["self","i"] (defScope s_Series_change_of):=⟨rfl,rfl,rfl,by decide +kernel,rfl,by decide +kernel,by decide +kernel⟩
abbrev s_has_heavy:Stmt:=top 62
theorem sc_has_heavy:FnScope ["fractions","fraction"] ["fractions"] (defScope s_has_heavy):=⟨rfl,rfl,rfl,by decide +kernel,rfl,by decide +kernel,by decide +kernel⟩
abbrev s_told:Stmt:=top 63
theorem sc_told:FnScope ["fractions","answer","fraction"] ["fractions"] (defScope s_told):=⟨rfl,rfl,rfl,by decide +kernel,rfl,by decide +kernel,by decide +kernel⟩
abbrev s_Holder___init__:Stmt:=inClass (top 64) 0
theorem sc_Holder___init__:FnScope ["self"] ["self"] (defScope s_Holder___init__):=⟨rfl,rfl,rfl,by decide +kernel,rfl,by decide +kernel,by decide +kernel⟩
abbrev s_Holder_leave_point:Stmt:=inClass (top 64) 1
theorem sc_Holder_leave_point:FnScope ["self"] ["self"] (defScope s_Holder_leave_point):=⟨rfl,rfl,rfl,by decide +kernel,rfl,by decide +kernel,by decide +kernel⟩
abbrev s_Holder_stand_at:Stmt:=inClass (top 64) 2
theorem sc_Holder_stand_at:FnScope ["self","point","ran"] ["self","point"] (defScope s_Holder_stand_at):=⟨rfl,rfl,rfl,by decide +kernel,rfl,by decide +kernel,by decide +kernel⟩
abbrev s_Holder_forget_series:Stmt:=inClass (top 64) 3
theorem sc_Holder_forget_series:FnScope ["self"] ["self"] (defScope s_Holder_forget_series):=⟨rfl,rfl,rfl,by decide +kernel,rfl,by decide +kernel,by decide +kernel⟩
abbrev s_Holder_has_line:Stmt:=inClass (top 64) 4
theorem sc_Holder_has_line:FnScope ["self","i"] ["self","i"] (defScope s_Holder_has_line):=⟨rfl,rfl,rfl,by decide +kernel,rfl,by decide +kernel,by decide +kernel⟩
abbrev s_Holder_has_direction:Stmt:=inClass (top 64) 5
theorem sc_Holder_has_direction:FnScope ["self","d"] ["self","d"] (defScope s_Holder_has_direction):=⟨rfl,rfl,rfl,by decide +kernel,rfl,by decide +kernel,by decide +kernel⟩
abbrev s_Holder_run_refusal:Stmt:=inClass (top 64) 6
theorem sc_Holder_run_refusal:FnScope ["self"] ["self"] (defScope s_Holder_run_refusal):=⟨rfl,rfl,rfl,by decide +kernel,rfl,by decide +kernel,by decide +kernel⟩
abbrev s_Holder_along:Stmt:=inClass (top 64) 7
theorem sc_Holder_along:FnScope ["self","d"] ["self","d"] (defScope s_Holder_along):=⟨rfl,rfl,rfl,by decide +kernel,rfl,by decide +kernel,by decide +kernel⟩
abbrev s_Holder_along_input:Stmt:=inClass (top 64) 8
theorem sc_Holder_along_input:FnScope ["self","k","direction"] ["self","k"] (defScope s_Holder_along_input):=⟨rfl,rfl,rfl,by decide +kernel,rfl,by decide +kernel,by decide +kernel⟩
abbrev s_Holder_partials:Stmt:=inClass (top 64) 9
theorem sc_Holder_partials:FnScope ["self","i","k"] ["self","i"] (defScope s_Holder_partials):=⟨rfl,rfl,rfl,by decide +kernel,rfl,by decide +kernel,by decide +kernel⟩
abbrev s_Holder_take_code:Stmt:=inClass (top 64) 10
theorem sc_Holder_take_code:FnScope ["self","inputs","numbers","lines"] ["self","inputs","numbers"] (defScope s_Holder_take_code):=⟨rfl,rfl,rfl,by decide +kernel,rfl,by decide +kernel,by decide +kernel⟩
abbrev s_Holder_take_point:Stmt:=inClass (top 64) 11
theorem sc_Holder_take_point:FnScope ["self","numbers","point"] ["self","numbers"] (defScope s_Holder_take_point):=⟨rfl,rfl,rfl,by decide +kernel,rfl,by decide +kernel,by decide +kernel⟩
abbrev s_Holder_tell_fault:Stmt:=inClass (top 64) 12
theorem sc_Holder_tell_fault:FnScope ["self"] ["self"] (defScope s_Holder_tell_fault):=⟨rfl,rfl,rfl,by decide +kernel,rfl,by decide +kernel,by decide +kernel⟩
abbrev s_Holder_take_direction:Stmt:=inClass (top 64) 13
theorem sc_Holder_take_direction:FnScope ["self","numbers","direction"] ["self","numbers"] (defScope s_Holder_take_direction):=⟨rfl,rfl,rfl,by decide +kernel,rfl,by decide +kernel,by decide +kernel⟩
abbrev s_Holder_drop_directions:Stmt:=inClass (top 64) 14
theorem sc_Holder_drop_directions:FnScope ["self","how_many"] ["self"] (defScope s_Holder_drop_directions):=⟨rfl,rfl,rfl,by decide +kernel,rfl,by decide +kernel,by decide +kernel⟩
abbrev s_Holder_tell_value:Stmt:=inClass (top 64) 15
theorem sc_Holder_tell_value:FnScope ["self","i","refusal"] ["self","i"] (defScope s_Holder_tell_value):=⟨rfl,rfl,rfl,by decide +kernel,rfl,by decide +kernel,by decide +kernel⟩
abbrev s_Holder_tell_values:Stmt:=inClass (top 64) 16
theorem sc_Holder_tell_values:FnScope ["self","refusal"] ["self"] (defScope s_Holder_tell_values):=⟨rfl,rfl,rfl,by decide +kernel,rfl,by decide +kernel,by decide +kernel⟩
abbrev s_Holder_tell_change:Stmt:=inClass (top 64) 17
theorem sc_Holder_tell_change:FnScope ["self","i","d","refusal"] ["self","i","d"] (defScope s_Holder_tell_change):=⟨rfl,rfl,rfl,by decide +kernel,rfl,by decide +kernel,by decide +kernel⟩
abbrev s_Holder_tell_changes:Stmt:=inClass (top 64) 18
theorem sc_Holder_tell_changes:FnScope ["self","d","refusal","i"] ["self","d"] (defScope s_Holder_tell_changes):=⟨rfl,rfl,rfl,by decide +kernel,rfl,by decide +kernel,by decide +kernel⟩
abbrev s_Holder_tell_gradient:Stmt:=inClass (top 64) 19
theorem sc_Holder_tell_gradient:FnScope ["self","i","refusal"] ["self","i"] (defScope s_Holder_tell_gradient):=⟨rfl,rfl,rfl,by decide +kernel,rfl,by decide +kernel,by decide +kernel⟩
abbrev s_Holder_tell_table:Stmt:=inClass (top 64) 20
theorem sc_Holder_tell_table:FnScope ["self","places","refusal","fractions","i"] ["self","places"] (defScope s_Holder_tell_table):=⟨rfl,rfl,rfl,by decide +kernel,rfl,by decide +kernel,by decide +kernel⟩
abbrev s_Holder_move:Stmt:=inClass (top 64) 21
theorem sc_Holder_move:FnScope ["self","d","n","m","point"] ["self","d","n","m"] (defScope s_Holder_move):=⟨rfl,rfl,rfl,by decide +kernel,rfl,by decide +kernel,by decide +kernel⟩
abbrev s_Holder_tell_quotient:Stmt:=inClass (top 64) 22
theorem sc_Holder_tell_quotient:FnScope ["self","i","d","n","m","refusal","step","there","slope"] ["self","i","d","n","m"] (defScope s_Holder_tell_quotient):=⟨rfl,rfl,rfl,by decide +kernel,rfl,by decide +kernel,by decide +kernel⟩
abbrev s_Holder_tell_series:Stmt:=inClass (top 64) 23
theorem sc_Holder_tell_series:FnScope ["self","i","d","k","refusal"] ["self","i","d","k"] (defScope s_Holder_tell_series):=⟨rfl,rfl,rfl,by decide +kernel,rfl,by decide +kernel,by decide +kernel⟩
abbrev s_Holder_tell_hangs:Stmt:=inClass (top 64) 24
theorem sc_Holder_tell_hangs:FnScope ["self","i","inputs"] ["self","i"] (defScope s_Holder_tell_hangs):=⟨rfl,rfl,rfl,by decide +kernel,rfl,by decide +kernel,by decide +kernel⟩
abbrev s_Holder_tell_cost:Stmt:=inClass (top 64) 25
theorem sc_Holder_tell_cost:FnScope ["self","one"] ["self"] (defScope s_Holder_tell_cost):=⟨rfl,rfl,rfl,by decide +kernel,rfl,by decide +kernel,by decide +kernel⟩
abbrev s_read_call:Stmt:=top 81
theorem sc_read_call:FnScope ["calls","place","shape","end","given","start"] ["calls","place"] (defScope s_read_call):=⟨rfl,rfl,rfl,by decide +kernel,rfl,by decide +kernel,by decide +kernel⟩
abbrev s_answer:Stmt:=top 82
theorem sc_answer:FnScope ["holder","number","given"] ["holder","number","given"] (defScope s_answer):=⟨rfl,rfl,rfl,by decide +kernel,rfl,by decide +kernel,by decide +kernel⟩
abbrev s_answers:Stmt:=top 83
theorem sc_answers:FnScope ["calls","holder","every","place","call","numbers"] ["calls"] (defScope s_answers):=⟨rfl,rfl,rfl,by decide +kernel,rfl,by decide +kernel,by decide +kernel⟩
end Lc
end
section
namespace Lc
open PySem PySem.Spec PyProof.Rows L2
theorem Same.seqT {K:PySem.W.Frag} {H H':Hp} {a:Addr} {xs:List V} (e:Same H H') (h:SqT K H a xs):SqT K H' a xs:=by
 rcases h with (h | ⟨o,h⟩) | h
 ·exact .inl (.inl (e _ _ h))
 ·exact .inl (.inr ⟨o,e _ _ h⟩)
 ·exact .inr h
theorem same_upd {H:Hp} {p:Addr} {o:HO} (h:H p=none):Same H (upd H p o):=fun b u e=>by
 rw [upd_ne (ne_of_none e h)]
 exact e
def FrAt (K:PySem.W.Frag) (H:Hp) (r:Addr) (q:Rat):Prop:=SqT K H r [.int q.num,.int (q.den:Int)]
theorem FrAt.same {K:PySem.W.Frag} {H H':Hp} {r:Addr} {q:Rat} (h:FrAt K H r q) (e:Same H H'):FrAt K H' r q:=Same.seqT e h
abbrev Ok (q:Rat):Prop:=Small 60000000 q
theorem dep {k:Nat} {A:Around} (hr:Room k A) (hk:40≤k:=by decide):A.depth+Builtin.pylongFrames < recursionLimit:=by
 have:=hr.dp
 show A.depth+100 < recursionLimit
 omega
structure DefAt (K:PySem.W.Frag) (mg:Str→Option Value) (x:Str) (st:Stmt):Prop where
 ex:∃ (f:Addr) (fd:FuncData),mg x=some (.ref f)∧Fun K x x st f fd
theorem mkC {P:Program} {w:World} {K:PySem.W.Frag} {mg:Str→Option Value} {base:Heap} {x:Str} {st:Stmt} {N ps:List Str} {k:Nat} {sp:Sp} (D:DefAt K mg x st) (S:FnScope N ps (defScope st))
  (hb:∀ (kV doc pm:Value) (an:Option Addr) (cdv ct:Value) (us:List Value),us.length=ps.length→bindArgs (PySem.W.fnOf x x (defArgs st) (defBody st) (defScope st) .none kV doc pm an cdv ct) ⟨us,[]⟩=pure (ps.zip us))
  (len:∀ vs H Q E,sp vs H Q E→vs.length=ps.length)
  (hbody:∀ (f:Addr) (cdv:Value) (A:Around) (outer:List Env) (s:Shared) (H:Hp) (vs:List V) (Q:VK) (E:XK),Room k (A.deeper (envOfC x (defScope st) s.heap.objs.size f cdv))→sp vs H Q E →
   ∃ t,PSs (cxOf CX0 P w K mg base N x (defScope st) f cdv A outer s H E).nox (defBody st) t∧t { nx:=fun _ H'=>Q .non H',rt:=Q } (start N vs) H):Callee P w K mg base x ps (k+1) sp:=by
 obtain ⟨f,fd,hm,F⟩:=D.ex
 exact ⟨f,fd,hm,F.kp,F.binds hb,F.ok S len (hbody f)⟩
theorem mulOk {x y:Int} {m n:Nat} (h:x.natAbs < 2 ^ m) (k:y.natAbs < 2 ^ n) (l:m+n≤134217728):IntMulOk x y :=
 IntMulOk.of_le (intBits_le_iff.mpr h) (intBits_le_iff.mpr k) l
theorem natAbs_ediv_lt {x y:Int} {m:Nat} (h:x.natAbs < 2 ^ m):(x / y).natAbs < 2 ^ m:=Nat.lt_of_le_of_lt (Int.natAbs_ediv_le_natAbs x y) h
theorem natAbs_den {q:Rat} {m:Nat} (h:Small m q):((q.den:Nat):Int).natAbs < 2 ^ m:=by
 rw [Int.natAbs_natCast]
 exact h.2
section
variable {P:Program} {w:World} {K:PySem.W.Frag} {mg:Str→Option Value} {base:Heap}
def spGcd:Sp:=fun vs H Q _=>∃ a b:Int,vs=[.int a,.int b]∧Q (.int (Nat.gcd a.natAbs b.natAbs:Nat)) H
theorem absI (i:Int):(if i < 0 then -i else i)=((i.natAbs:Nat):Int):=by
 by_cases h:i < 0
 ·rw [if_pos h];omega
 ·rw [if_neg h];omega
theorem ok_common_divisor (D:DefAt K mg "common_divisor" s_common_divisor) (n_abs:mg "abs"=none):Callee P w K mg base "common_divisor" ["a","b"] 41 spGcd:=by
 refine mkC (k:=40) D sc_common_divisor (fun _ _ _ _ _ _ us hl=>match us,hl with | [_,_],_=>rfl) (fun vs H Q E h=>?_) (fun f cdv A outer s H vs Q E hr h=>?_)
 ·obtain ⟨a,b,rfl,_⟩:=h
  rfl
 ·obtain ⟨a,b,rfl,k⟩:=h
  refine ⟨_,(pss_cons (ps_set (i:=0) sc_common_divisor.nd rfl (by first|exact .inl rfl|exact .inr rfl) (pe_callB call_abs (by rfl) n_abs bt_abs (pa_cons (pv 0) pa_nil)))
   (pss_cons (ps_set (i:=1) sc_common_divisor.nd rfl (by first|exact .inl rfl|exact .inr rfl) (pe_callB call_abs (by rfl) n_abs bt_abs (pa_cons (pv 1) pa_nil)))
   (pss_cons (ps_while PassesOwn.never (pt_cmpR op_gt (pv 1) pe_int (nomark _)) (pss_cons (ps_set (i:=2) sc_common_divisor.nd rfl (by first|exact .inl rfl|exact .inr rfl) (pe_op op_mod (pv 0) (pv 1)))
   (pss_cons (ps_set (i:=0) sc_common_divisor.nd rfl (by first|exact .inl rfl|exact .inr rfl) (pv 1))
   (pss_one (ps_set (i:=1) sc_common_divisor.nd rfl (by first|exact .inl rfl|exact .inr rfl) (pv 2))))))
   (pss_one (ps_ret (pv 0)))))),?_⟩
  refine ⟨_,rfl,_,rfl,?_⟩
  refine ⟨_,rfl,_,rfl,?_⟩
  refine ⟨fun m σ H1=>∃ (x y:Nat) (v:Option V),m=y∧σ=[some (.int x),some (.int y),v]∧H1=H∧Nat.gcd x y=Nat.gcd a.natAbs b.natAbs,⟨b.natAbs,a.natAbs,b.natAbs,none,rfl,?_,rfl,rfl⟩,?_⟩
  ·rw [absI,absI]
   rfl
  ·rintro y σ H1 ⟨x,_,v,rfl,rfl,rfl,e⟩
   refine ⟨_,rfl,_,_,rfl,rfl,_,rfl,?_⟩
   by_cases hy:(0:Int) < (y:Int)
   ·rw [decide_eq_true hy]
    refine iteT ⟨fun σ' H'=>∃ u:Option V,σ'=[some (.int y),some (.int (x % y:Nat)),u]∧H'=H1,?_,?_⟩
    ·rintro σ' H' ⟨u,rfl,rfl⟩
     refine ⟨x % y,Nat.mod_lt _ (by omega),y,x % y,u,rfl,rfl,rfl,?_⟩
     rw [← e,Nat.gcd_comm x y]
     exact (Nat.gcd_rec y x ▸ Nat.gcd_comm _ _)
    ·refine ⟨_,rfl,_,rfl,_,_,rfl,rfl,hy,?_⟩
     refine ⟨_,rfl,?_⟩
     refine ⟨_,rfl,?_⟩
     exact ⟨_,rfl,rfl⟩
   ·rw [decide_eq_false hy]
    have y0:y=0:=by omega
    subst y0
    refine iteF ⟨_,rfl,?_⟩
    rw [Nat.gcd_zero_right] at e
    rw [e]
    exact k
def spLow (K:PySem.W.Frag):Sp:=fun vs H Q _=>∃ n d:Int,vs=[.int n,.int d]∧1≤d∧∀ H' r,Same H H'→FrAt K H' r (mkRat n d.toNat)→Q (.ref r) H'
theorem ok_in_lowest_terms (D:DefAt K mg "in_lowest_terms" s_in_lowest_terms) (hP:P.given.tree=none) (C_common_divisor:Callee P w K mg base "common_divisor" ["a","b"] 41 spGcd):Callee P w K mg base "in_lowest_terms" ["upper","lower"] 42 (spLow K):=by
 refine mkC (k:=41) D sc_in_lowest_terms (fun _ _ _ _ _ _ us hl=>match us,hl with | [_,_],_=>rfl) (fun vs H Q E h=>?_) (fun f cdv A outer s H vs Q E hr h=>?_)
 ·obtain ⟨a,b,rfl,_⟩:=h
  rfl
 ·obtain ⟨n,d,rfl,hd,k⟩:=h
  refine ⟨_,(pss_cons (ps_set (i:=2) sc_in_lowest_terms.nd rfl (by first|exact .inl rfl|exact .inr rfl) (pe_callC C_common_divisor hr (pa_cons (pv 0) (pa_cons (pv 1) pa_nil))))
   (pss_one (ps_ret (pe_tup (pa_cons (pe_op (op_fdivP (dep hr) hP rfl rfl rfl) (pv 0) (pv 2)) (pa_cons (pe_op (op_fdivP (dep hr) hP rfl rfl rfl) (pv 1) (pv 2)) pa_nil)))))),?_⟩
  refine ⟨_,rfl,_,rfl,_,_,rfl,?_⟩
  have hg:0 < Nat.gcd n.natAbs d.natAbs:=Nat.gcd_pos_of_pos_right _ (by omega)
  refine ⟨_,rfl,_,rfl,_,_,rfl,rfl,(by show (0:Int) < _;omega),?_⟩
  refine ⟨_,rfl,_,rfl,_,_,rfl,rfl,(by show (0:Int) < _;omega),(by show 2≤sizeLine;decide),fun p hp=>?_⟩
  refine k _ p (same_upd hp) (SqT.of ?_)
  have ed:d=((d.toNat:Nat):Int):=by omega
  have e1:(mkRat n d.toNat).num=n / ((Nat.gcd n.natAbs d.natAbs:Nat):Int):=by
   rw [Rat.num_mkRat,if_neg (by omega),Nat.gcd_comm,show d.toNat=d.natAbs by omega]
  have e2:(((mkRat n d.toNat).den:Nat):Int)=d / ((Nat.gcd n.natAbs d.natAbs:Nat):Int):=by
   rw [Rat.den_mkRat,if_neg (by omega),Nat.gcd_comm,show d.toNat=d.natAbs by omega,Int.natCast_ediv,show ((d.natAbs:Nat):Int)=d by omega]
  rw [e1,e2]
  exact upd_same
def spOpp (K:PySem.W.Frag):Sp:=fun vs H Q _=>∃ (x:Addr) (a:Rat),vs=[.ref x]∧FrAt K H x a∧∀ H' r,Same H H'→FrAt K H' r (-a)→Q (.ref r) H'
theorem ok_opposite (D:DefAt K mg "opposite" s_opposite):Callee P w K mg base "opposite" ["x"] 41 (spOpp K):=by
 refine mkC (k:=40) D sc_opposite (fun _ _ _ _ _ _ us hl=>match us,hl with | [_],_=>rfl) (fun vs H Q E h=>?_) (fun f cdv A outer s H vs Q E hr h=>?_)
 ·obtain ⟨x,a,rfl,_⟩:=h
  rfl
 ·obtain ⟨x,a,rfl,hx,k⟩:=h
  refine ⟨_,(pss_one (ps_ret (pe_tup (pa_cons (pe_un un_neg (pe_ix ix_tup (pv 0) pe_int (fun _ _=>rfl))) (pa_cons (pe_ix ix_tup (pv 0) pe_int (fun _ _=>rfl)) pa_nil))))),?_⟩
  refine ⟨_,rfl,_,_,_,_,rfl,rfl,hx,rfl,_,rfl,?_⟩
  refine ⟨_,rfl,_,_,_,_,rfl,rfl,hx,rfl,(by show 2≤sizeLine;decide),fun p hp=>?_⟩
  exact k _ p (same_upd hp) (SqT.of upd_same)
def sp2 (K:PySem.W.Frag) (g:Rat→Rat→Rat):Sp:=fun vs H Q _=>∃ (x y:Addr) (a b:Rat),vs=[.ref x,.ref y]∧FrAt K H x a∧FrAt K H y b∧Ok a∧Ok b∧∀ H' r,Same H H'→FrAt K H' r (g a b)→Q (.ref r) H'
theorem ok_total (D:DefAt K mg "total" s_total) (hP:P.given.tree=none) (C_common_divisor:Callee P w K mg base "common_divisor" ["a","b"] 41 spGcd):Callee P w K mg base "total" ["x","y"] 42 (sp2 K (·+·)):=by
 refine mkC (k:=41) D sc_total (fun _ _ _ _ _ _ us hl=>match us,hl with | [_,_],_=>rfl) (fun vs H Q E h=>?_) (fun f cdv A outer s H vs Q E hr h=>?_)
 ·obtain ⟨x,y,a,b,rfl,_⟩:=h
  rfl
 ·obtain ⟨x,y,a,b,rfl,hx,hy,sa,sb,k⟩:=h
  refine ⟨_,(pss_cons (ps_set (i:=2) sc_total.nd rfl (by first|exact .inl rfl|exact .inr rfl) (pe_callC C_common_divisor hr (pa_cons (pe_ix ix_tup (pv 0) pe_int (fun _ _=>rfl)) (pa_cons (pe_ix ix_tup (pv 1) pe_int (fun _ _=>rfl)) pa_nil))))
   (pss_cons (ps_set (i:=3) sc_total.nd rfl (by first|exact .inl rfl|exact .inr rfl) (pe_op (op_fdivP (dep hr) hP rfl rfl rfl) (pe_ix ix_tup (pv 0) pe_int (fun _ _=>rfl)) (pv 2)))
   (pss_cons (ps_set (i:=4) sc_total.nd rfl (by first|exact .inl rfl|exact .inr rfl) (pe_op op_add (pe_op op_mulB (pe_ix ix_tup (pv 0) pe_int (fun _ _=>rfl)) (pe_op (op_fdivP (dep hr) hP rfl rfl rfl) (pe_ix ix_tup (pv 1) pe_int (fun _ _=>rfl)) (pv 2))) (pe_op op_mulB (pe_ix ix_tup (pv 1) pe_int (fun _ _=>rfl)) (pv 3))))
   (pss_cons (ps_set (i:=5) sc_total.nd rfl (by first|exact .inl rfl|exact .inr rfl) (pe_callC C_common_divisor hr (pa_cons (pv 4) (pa_cons (pv 2) pa_nil))))
   (pss_one (ps_ret (pe_tup (pa_cons (pe_op (op_fdivP (dep hr) hP rfl rfl rfl) (pv 4) (pv 5)) (pa_cons (pe_op op_mulB (pv 3) (pe_op (op_fdivP (dep hr) hP rfl rfl rfl) (pe_ix ix_tup (pv 1) pe_int (fun _ _=>rfl)) (pv 5))) pa_nil))))))))),?_⟩
  refine ⟨_,rfl,_,_,_,_,rfl,rfl,hx,rfl,?_⟩
  refine ⟨_,rfl,_,_,_,_,rfl,rfl,hy,rfl,_,_,rfl,?_⟩
  rw [Int.natAbs_natCast,Int.natAbs_natCast]
  have hg:0 < Nat.gcd a.den b.den:=Nat.gcd_pos_of_pos_left _ a.den_pos
  have ea:((a.den:Nat):Int) / ((Nat.gcd a.den b.den:Nat):Int)=((a.den / Nat.gcd a.den b.den:Nat):Int):=by rw [Int.natCast_ediv]
  have eb:((b.den:Nat):Int) / ((Nat.gcd a.den b.den:Nat):Int)=((b.den / Nat.gcd a.den b.den:Nat):Int):=by rw [Int.natCast_ediv]
  have la:((a.den / Nat.gcd a.den b.den:Nat):Int).natAbs < 2 ^ 60000000:=by rw [Int.natAbs_natCast];exact Nat.lt_of_le_of_lt (Nat.div_le_self _ _) sa.2
  have lb:((b.den / Nat.gcd a.den b.den:Nat):Int).natAbs < 2 ^ 60000000:=by rw [Int.natAbs_natCast];exact Nat.lt_of_le_of_lt (Nat.div_le_self _ _) sb.2
  refine ⟨_,rfl,_,_,_,_,rfl,rfl,hx,rfl,_,rfl,_,_,rfl,rfl,(by show (0:Int) < _;omega),?_⟩
  dsimp only
  rw [ea]
  refine ⟨_,rfl,_,_,_,_,rfl,rfl,hx,rfl,?_⟩
  refine ⟨_,rfl,_,_,_,_,rfl,rfl,hy,rfl,_,rfl,_,_,rfl,rfl,(by show (0:Int) < _;omega),?_⟩
  dsimp only
  rw [eb]
  refine ⟨_,_,rfl,rfl,mulOk sa.1 lb (by decide),?_⟩
  refine ⟨_,rfl,_,_,_,_,rfl,rfl,hy,rfl,_,rfl,_,_,rfl,rfl,mulOk sb.1 la (by decide),_,_,rfl,rfl,?_⟩
  refine ⟨_,rfl,_,rfl,_,_,rfl,?_⟩
  rw [Int.natAbs_natCast]
  have t:=total_num a b
  generalize hn:a.num*((b.den / Nat.gcd a.den b.den:Nat):Int)+b.num*((a.den / Nat.gcd a.den b.den:Nat):Int)=num at t ⊢
  have hl:0 < Nat.gcd num.natAbs (Nat.gcd a.den b.den):=Nat.gcd_pos_of_pos_right _ hg
  refine ⟨_,rfl,_,rfl,_,_,rfl,rfl,(by show (0:Int) < _;omega),?_⟩
  refine ⟨_,rfl,_,rfl,_,_,_,_,rfl,rfl,hy,rfl,_,rfl,_,_,rfl,rfl,(by show (0:Int) < _;omega),?_⟩
  refine ⟨_,_,rfl,rfl,mulOk la (natAbs_ediv_lt (natAbs_den sb)) (by decide),(by show 2≤sizeLine;decide),fun p hp=>?_⟩
  refine k _ p (same_upd hp) (SqT.of ?_)
  have z1:(((a+b).den:Nat):Int)=((a.den / Nat.gcd a.den b.den:Nat):Int)*((b.den:Int) / ((Nat.gcd num.natAbs (Nat.gcd a.den b.den):Nat):Int)):=by
   rw [← t.2,Int.natCast_mul,Int.natCast_ediv b.den]
  rw [upd_same]
  show some (HO.tup [V.int ((a.num*((b.den:Int) / ((Nat.gcd a.den b.den:Nat):Int))+b.num*((a.den / Nat.gcd a.den b.den:Nat):Int)) / _),V.int (_*_)])=some (HO.tup [.int (a+b).num,.int (((a+b).den:Nat):Int)])
  rw [z1,← t.1,eb,hn]
end
end Lc
end
section
namespace Lc
open PySem PySem.Spec PyProof.Rows L2
section
variable {P:Program} {w:World} {K:PySem.W.Frag} {mg:Str→Option Value} {base:Heap}
theorem ok_difference (D:DefAt K mg "difference" s_difference) (C_total:Callee P w K mg base "total" ["x","y"] 42 (sp2 K (·+·))) (C_opposite:Callee P w K mg base "opposite" ["x"] 41 (spOpp K)) :
  Callee P w K mg base "difference" ["x","y"] 43 (sp2 K (· - ·)):=by
 refine mkC (k:=42) D sc_difference (fun _ _ _ _ _ _ us hl=>match us,hl with | [_,_],_=>rfl) (fun vs H Q E h=>?_) (fun f cdv A outer s H vs Q E hr h=>?_)
 ·obtain ⟨x,y,a,b,rfl,_⟩:=h
  rfl
 ·obtain ⟨x,y,a,b,rfl,hx,hy,sa,sb,k⟩:=h
  refine ⟨_,(pss_one (ps_ret (pe_callC C_total hr (pa_cons (pv 0) (pa_cons (pe_callC C_opposite hr (pa_cons (pv 1) pa_nil)) pa_nil))))),?_⟩
  refine ⟨_,rfl,_,rfl,y,b,rfl,hy,fun H1 r s1 h1=>?_⟩
  refine ⟨x,r,a,-b,rfl,hx.same s1,h1,sa,sb.neg,fun H2 r2 s2 h2=>?_⟩
  exact k H2 r2 (s1.trans s2) (by show FrAt K H2 r2 (a - b);rw [Rat.sub_eq_add_neg];exact h2)
theorem ok_product (D:DefAt K mg "product" s_product) (hP:P.given.tree=none) (C_common_divisor:Callee P w K mg base "common_divisor" ["a","b"] 41 spGcd):Callee P w K mg base "product" ["x","y"] 42 (sp2 K (·*·)):=by
 refine mkC (k:=41) D sc_product (fun _ _ _ _ _ _ us hl=>match us,hl with | [_,_],_=>rfl) (fun vs H Q E h=>?_) (fun f cdv A outer s H vs Q E hr h=>?_)
 ·obtain ⟨x,y,a,b,rfl,_⟩:=h
  rfl
 ·obtain ⟨x,y,a,b,rfl,hx,hy,sa,sb,k⟩:=h
  refine ⟨_,(pss_cons (ps_set (i:=2) sc_product.nd rfl (by first|exact .inl rfl|exact .inr rfl) (pe_callC C_common_divisor hr (pa_cons (pe_ix ix_tup (pv 0) pe_int (fun _ _=>rfl)) (pa_cons (pe_ix ix_tup (pv 1) pe_int (fun _ _=>rfl)) pa_nil))))
   (pss_cons (ps_set (i:=3) sc_product.nd rfl (by first|exact .inl rfl|exact .inr rfl) (pe_callC C_common_divisor hr (pa_cons (pe_ix ix_tup (pv 1) pe_int (fun _ _=>rfl)) (pa_cons (pe_ix ix_tup (pv 0) pe_int (fun _ _=>rfl)) pa_nil))))
   (pss_one (ps_ret (pe_tup (pa_cons (pe_op op_mulB (pe_op (op_fdivP (dep hr) hP rfl rfl rfl) (pe_ix ix_tup (pv 0) pe_int (fun _ _=>rfl)) (pv 2)) (pe_op (op_fdivP (dep hr) hP rfl rfl rfl) (pe_ix ix_tup (pv 1) pe_int (fun _ _=>rfl)) (pv 3))) (pa_cons (pe_op op_mulB (pe_op (op_fdivP (dep hr) hP rfl rfl rfl) (pe_ix ix_tup (pv 0) pe_int (fun _ _=>rfl)) (pv 3)) (pe_op (op_fdivP (dep hr) hP rfl rfl rfl) (pe_ix ix_tup (pv 1) pe_int (fun _ _=>rfl)) (pv 2))) pa_nil))))))),?_⟩
  refine ⟨_,rfl,_,_,_,_,rfl,rfl,hx,rfl,?_⟩
  refine ⟨_,rfl,_,_,_,_,rfl,rfl,hy,rfl,_,_,rfl,?_⟩
  refine ⟨_,rfl,_,_,_,_,rfl,rfl,hy,rfl,?_⟩
  refine ⟨_,rfl,_,_,_,_,rfl,rfl,hx,rfl,_,_,rfl,?_⟩
  rw [Int.natAbs_natCast,Int.natAbs_natCast]
  have g1:0 < Nat.gcd a.num.natAbs b.den:=Nat.gcd_pos_of_pos_right _ b.den_pos
  have g2:0 < Nat.gcd b.num.natAbs a.den:=Nat.gcd_pos_of_pos_right _ a.den_pos
  refine ⟨_,rfl,_,_,_,_,rfl,rfl,hx,rfl,_,rfl,_,_,rfl,rfl,(by show (0:Int) < _;omega),?_⟩
  refine ⟨_,rfl,_,_,_,_,rfl,rfl,hy,rfl,_,rfl,_,_,rfl,rfl,(by show (0:Int) < _;omega),?_⟩
  refine ⟨_,_,rfl,rfl,mulOk (natAbs_ediv_lt sa.1) (natAbs_ediv_lt sb.1) (by decide),?_⟩
  refine ⟨_,rfl,_,_,_,_,rfl,rfl,hx,rfl,_,rfl,_,_,rfl,rfl,(by show (0:Int) < _;omega),?_⟩
  refine ⟨_,rfl,_,_,_,_,rfl,rfl,hy,rfl,_,rfl,_,_,rfl,rfl,(by show (0:Int) < _;omega),?_⟩
  refine ⟨_,_,rfl,rfl,mulOk (natAbs_ediv_lt (natAbs_den sa)) (natAbs_ediv_lt (natAbs_den sb)) (by decide),(by show 2≤sizeLine;decide),fun p hp=>?_⟩
  refine k _ p (same_upd hp) (SqT.of ?_)
  have t:=product_num a b
  rw [upd_same]
  show _=some (HO.tup [.int (a*b).num,.int (((a*b).den:Nat):Int)])
  rw [← t.1,← t.2,Int.natCast_mul,Int.natCast_ediv,Int.natCast_ediv]
def spInv (K:PySem.W.Frag):Sp:=fun vs H Q _=>∃ (x:Addr) (a:Rat),vs=[.ref x]∧FrAt K H x a∧a≠0∧∀ H' r,Same H H'→FrAt K H' r a⁻¹→Q (.ref r) H'
theorem ok_inverse (D:DefAt K mg "inverse" s_inverse):Callee P w K mg base "inverse" ["x"] 41 (spInv K):=by
 refine mkC (k:=40) D sc_inverse (fun _ _ _ _ _ _ us hl=>match us,hl with | [_],_=>rfl) (fun vs H Q E h=>?_) (fun f cdv A outer s H vs Q E hr h=>?_)
 ·obtain ⟨x,a,rfl,_⟩:=h
  rfl
 ·obtain ⟨x,a,rfl,hx,h0,k⟩:=h
  have hz:a.num≠0:=fun e=>h0 (Rat.num_eq_zero.mp e)
  refine ⟨_,(pss_cons (ps_if (pt_cmpR op_lt (pe_ix ix_tup (pv 0) pe_int (fun _ _=>rfl)) pe_int (nomark _)) (pss_one (ps_ret (pe_tup (pa_cons (pe_un un_neg (pe_ix ix_tup (pv 0) pe_int (fun _ _=>rfl))) (pa_cons (pe_un un_neg (pe_ix ix_tup (pv 0) pe_int (fun _ _=>rfl))) pa_nil))))) pss_nil)
   (pss_one (ps_ret (pe_tup (pa_cons (pe_ix ix_tup (pv 0) pe_int (fun _ _=>rfl)) (pa_cons (pe_ix ix_tup (pv 0) pe_int (fun _ _=>rfl)) pa_nil)))))),?_⟩
  refine ⟨_,rfl,_,_,_,_,rfl,rfl,hx,rfl,_,_,rfl,rfl,_,rfl,?_⟩
  by_cases hn:a.num < 0
  ·rw [decide_eq_true hn]
   refine iteT ?_
   refine ⟨_,rfl,_,_,_,_,rfl,rfl,hx,rfl,_,rfl,?_⟩
   refine ⟨_,rfl,_,_,_,_,rfl,rfl,hx,rfl,_,rfl,(by show 2≤sizeLine;decide),fun p hp=>?_⟩
   refine k _ p (same_upd hp) (SqT.of ?_)
   rw [upd_same,Rat.num_inv,Rat.den_inv,if_neg hz,Int.sign_eq_neg_one_of_neg hn,show ((a.num.natAbs:Nat):Int)=-a.num by omega,show (-1:Int)*(a.den:Int)=-(a.den:Int) by omega]
  ·rw [decide_eq_false hn]
   refine iteF ?_
   refine ⟨_,rfl,_,_,_,_,rfl,rfl,hx,rfl,?_⟩
   refine ⟨_,rfl,_,_,_,_,rfl,rfl,hx,rfl,(by show 2≤sizeLine;decide),fun p hp=>?_⟩
   refine k _ p (same_upd hp) (SqT.of ?_)
   rw [upd_same,Rat.num_inv,Rat.den_inv,if_neg hz,Int.sign_eq_one_of_pos (by omega),show ((a.num.natAbs:Nat):Int)=a.num by omega,Int.one_mul]
def spDiv (K:PySem.W.Frag):Sp:=fun vs H Q _=>∃ (x y:Addr) (a b:Rat),vs=[.ref x,.ref y]∧FrAt K H x a∧FrAt K H y b∧Ok a∧Ok b∧b≠0∧∀ H' r,Same H H'→FrAt K H' r (a / b)→Q (.ref r) H'
theorem ok_quotient (D:DefAt K mg "quotient" s_quotient) (C_product:Callee P w K mg base "product" ["x","y"] 42 (sp2 K (·*·))) (C_inverse:Callee P w K mg base "inverse" ["x"] 41 (spInv K)) :
  Callee P w K mg base "quotient" ["x","y"] 43 (spDiv K):=by
 refine mkC (k:=42) D sc_quotient (fun _ _ _ _ _ _ us hl=>match us,hl with | [_,_],_=>rfl) (fun vs H Q E h=>?_) (fun f cdv A outer s H vs Q E hr h=>?_)
 ·obtain ⟨x,y,a,b,rfl,_⟩:=h
  rfl
 ·obtain ⟨x,y,a,b,rfl,hx,hy,sa,sb,h0,k⟩:=h
  refine ⟨_,(pss_one (ps_ret (pe_callC C_product hr (pa_cons (pv 0) (pa_cons (pe_callC C_inverse hr (pa_cons (pv 1) pa_nil)) pa_nil))))),?_⟩
  refine ⟨_,rfl,_,rfl,y,b,rfl,hy,h0,fun H1 r s1 h1=>?_⟩
  refine ⟨x,r,a,b⁻¹,rfl,hx.same s1,h1,sa,sb.inv (by decide),fun H2 r2 s2 h2=>?_⟩
  exact k H2 r2 (s1.trans s2) (by rw [Rat.div_def];exact h2)
theorem bits_intBits (i:Int):Vagraa.bits i.natAbs=Builtin.Int.intBits i:=by
 unfold Vagraa.bits Builtin.Int.intBits
 by_cases h:i=0
 ·subst h;rfl
 ·rw [if_neg (by omega),if_neg (by simpa using h)]
def spWeight (K:PySem.W.Frag):Sp:=fun vs H Q _=>∃ (x:Addr) (a:Rat),vs=[.ref x]∧FrAt K H x a∧Q (.int (wt a:Nat)) H
theorem ok_weight (D:DefAt K mg "weight" s_weight) (n_abs:mg "abs"=none):Callee P w K mg base "weight" ["x"] 41 (spWeight K):=by
 refine mkC (k:=40) D sc_weight (fun _ _ _ _ _ _ us hl=>match us,hl with | [_],_=>rfl) (fun vs H Q E h=>?_) (fun f cdv A outer s H vs Q E hr h=>?_)
 ·obtain ⟨x,a,rfl,_⟩:=h
  rfl
 ·obtain ⟨x,a,rfl,hx,k⟩:=h
  refine ⟨_,(pss_one (ps_ret (pe_op op_add (pe_bm0 PySem.F.plainAttrs_int PySem.F.slot_int_bit_length PySem.F.type_int_bit_length mt_bits (pe_callB call_abs (by rfl) n_abs bt_abs (pa_cons (pe_ix ix_tup (pv 0) pe_int (fun _ _=>rfl)) pa_nil))) (pe_bm0 PySem.F.plainAttrs_int PySem.F.slot_int_bit_length PySem.F.type_int_bit_length mt_bits (pe_ix ix_tup (pv 0) pe_int (fun _ _=>rfl)))))),?_⟩
  refine ⟨_,rfl,_,_,_,_,rfl,rfl,hx,rfl,_,rfl,rfl,_,rfl,rfl,?_⟩
  refine ⟨_,rfl,_,_,_,_,rfl,rfl,hx,rfl,rfl,_,rfl,rfl,_,_,rfl,rfl,?_⟩
  rw [absI]
  have e:(wt a:Nat)=Builtin.Int.intBits ((a.num.natAbs:Nat):Int)+Builtin.Int.intBits ((a.den:Nat):Int):=by
   show Vagraa.bits a.num.natAbs+Vagraa.bits a.den=_
   rw [← bits_intBits,← bits_intBits,Int.natAbs_natCast,Int.natAbs_natCast]
  rw [e] at k
  exact k
end
end Lc
end
section
namespace Lc
open PySem PySem.Spec PyProof.Rows L2
theorem at_0 {v:V} {xs:List V}:atI (v::xs) 0=some v:=atI_nat (j:=0) rfl
theorem at_1 {v u:V} {xs:List V}:atI (v::u::xs) 1=some u:=atI_nat (j:=1) rfl
theorem at_2 {v u z:V} {xs:List V}:atI (v::u::z::xs) 2=some z:=atI_nat (j:=2) rfl
theorem SqT.put {K:PySem.W.Frag} {H:Hp} {r l:Addr} {xs ys zs:List V} (h:SqT K H r xs) (hl:H l=some (.lst ys)):SqT K (upd H l (.lst zs)) r xs:=by
 rcases h with (h | ⟨o,h⟩) | h
 ·refine .inl (.inl ?_)
  rw [upd_ne (ne_of h hl (by intro e;cases e))]
  exact h
 ·refine .inl (.inr ⟨o,?_⟩)
  rw [upd_ne (ne_of h hl (by intro e;cases e))]
  exact h
 ·exact .inr h
theorem same_put {H H1:Hp} {l:Addr} {o:HO} (h:H l=none) (s:Same H H1):Same H (upd H1 l o):=fun b u e=>by
 rw [upd_ne (ne_of_none e h)]
 exact s b u e
theorem psnoc {α β:Type} {F:α→β→Prop}:∀ {l:List α} {m:List β} {a:α} {b:β},Paired F l m→F a b→Paired F (l++[a]) (m++[b])
 | _,_,_,_,.nil,h=>.cons h .nil
 | _,_,_,_,.cons r t,h=>.cons r (psnoc t h)
theorem pget {α β:Type} {F:α→β→Prop}:∀ {l:List α} {m:List β} {i:Nat} {b:β},Paired F l m→m[i]?=some b→∃ a,l[i]?=some a∧F a b
 | _,_,_,_,.nil,h=>by simp at h
 | _,_,0,_,.cons r t,h=>by simp at h;subst h;exact ⟨_,rfl,r⟩
 | _,_,i+1,b,.cons r t,h=>by
  obtain ⟨a,h1,h2⟩:=pget (i:=i) (b:=b) t (by simpa using h)
  exact ⟨a,by simpa using h1,h2⟩
def LnAt (K:PySem.W.Frag) (H:Hp) (r:Addr) (raw:List Int):Prop:=SqT K H r (raw.map V.int)
def LnsAt (K:PySem.W.Frag) (H:Hp) (a:Addr) (c:List (List Int)):Prop:=∃ rs:List Addr,SqL K H a (rs.map V.ref)∧Paired (LnAt K H) rs c
def LnsNew (K:PySem.W.Frag) (H:Hp) (a:Addr) (c:List (List Int)):Prop:=∃ rs:List Addr,H a=some (.lst (rs.map V.ref))∧Paired (LnAt K H) rs c
theorem LnsNew.at {K:PySem.W.Frag} {H:Hp} {a:Addr} {c:List (List Int)} (h:LnsNew K H a c):LnsAt K H a c:=by
 obtain ⟨rs,h1,h2⟩:=h
 exact ⟨rs,SqL.of h1,h2⟩
theorem LnsAt.same {K:PySem.W.Frag} {H H':Hp} {a:Addr} {c:List (List Int)} (h:LnsAt K H a c) (e:Same H H'):LnsAt K H' a c:=by
 obtain ⟨rs,h1,h2⟩:=h
 exact ⟨rs,e.seq h1,Paired.mapP h2 fun _ _ z=>Same.seqT e z⟩
def FrsAt (K:PySem.W.Frag) (H:Hp) (a:Addr) (qs:List Rat):Prop:=∃ rs:List Addr,SqL K H a (rs.map V.ref)∧Paired (FrAt K H) rs qs
theorem FrsAt.same {K:PySem.W.Frag} {H H':Hp} {a:Addr} {c:List Rat} (h:FrsAt K H a c) (e:Same H H'):FrsAt K H' a c:=by
 obtain ⟨rs,h1,h2⟩:=h
 exact ⟨rs,e.seq h1,Paired.mapP h2 fun _ _ z=>Same.seqT e z⟩
def FrsNew (K:PySem.W.Frag) (H:Hp) (a:Addr) (qs:List Rat):Prop:=∃ rs:List Addr,H a=some (.lst (rs.map V.ref))∧Paired (FrAt K H) rs qs
theorem FrsNew.at {K:PySem.W.Frag} {H:Hp} {a:Addr} {c:List Rat} (h:FrsNew K H a c):FrsAt K H a c:=by
 obtain ⟨rs,h1,h2⟩:=h
 exact ⟨rs,SqL.of h1,h2⟩
theorem FrsNew.same {K:PySem.W.Frag} {H H':Hp} {a:Addr} {c:List Rat} (h:FrsNew K H a c) (e:Same H H'):FrsNew K H' a c:=by
 obtain ⟨rs,h1,h2⟩:=h
 exact ⟨rs,e _ _ h1,Paired.mapP h2 fun _ _ z=>Same.seqT e z⟩
theorem FrsAt.get {K:PySem.W.Frag} {H:Hp} {a:Addr} {qs:List Rat} {i:Nat} {q:Rat} (h:FrsAt K H a qs) (e:qs[i]?=some q):∃ xs r,SqL K H a xs∧atI xs (i:Int)=some (.ref r)∧FrAt K H r q:=by
 obtain ⟨rs,h1,h2⟩:=h
 obtain ⟨r,h3,h4⟩:=pget h2 e
 exact ⟨_,r,h1,atI_nat (by rw [List.getElem?_map,h3];rfl),h4⟩
theorem LnsAt.get {K:PySem.W.Frag} {H:Hp} {a:Addr} {c:List (List Int)} {i:Nat} {raw:List Int} (h:LnsAt K H a c) (e:c[i]?=some raw):∃ xs r,SqL K H a xs∧atI xs (i:Int)=some (.ref r)∧LnAt K H r raw:=by
 obtain ⟨rs,h1,h2⟩:=h
 obtain ⟨r,h3,h4⟩:=pget h2 e
 exact ⟨_,r,h1,atI_nat (by rw [List.getElem?_map,h3];rfl),h4⟩
theorem sIxN (n d j:Nat):HT.sIx n d (some (j:Int))=min j n:=by
 show (if (j:Int) < 0 then ((j:Int)+(n:Int)).toNat else min (j:Int).toNat n)=_
 rw [if_neg (by omega),Int.toNat_natCast]
theorem cut1 {k i:Int} {r:List Int}:¬ (HT.sIx ((k::i::r).map V.int).length 0 (some 1)=0∧HT.sIx ((k::i::r).map V.int).length ((k::i::r).map V.int).length none=((k::i::r).map V.int).length)∧cutV ((k::i::r).map V.int) (some 1) none=(i::r).map V.int:=by
 have hlen:((k::i::r).map V.int).length=r.length+2:=by simp
 have e1:HT.sIx (r.length+2) 0 (some 1)=1:=(sIxN (r.length+2) 0 1).trans (by omega)
 refine ⟨?_,?_⟩
 ·rw [hlen,e1]
  intro e
  exact absurd e.1 (by decide)
 ·unfold cutV
  rw [hlen,e1,HT.sIx_none]
  show (((i::r).map V.int)).take (r.length+2 - 1)=_
  rw [List.take_of_length_le (by simp)]
section
variable {P:Program} {w:World} {K:PySem.W.Frag} {mg:Str→Option Value} {base:Heap}
def spForm (K:PySem.W.Frag):Sp:=fun vs H Q _=>∃ (x:Addr) (k i:Int) (r:List Int),vs=[.ref x]∧LnAt K H x (k::i::r)∧r.length+1=beh k∧0≤k∧∀ H',Same H H'→Q (.bl (formB (k::i::r))) H'
theorem formB_min {k i m:Int} {r:List Int} (hk:¬ k=1) (h1:m∈i::r) (h2:∀ y,y∈i::r→m≤y):decide (0≤m)=formB (k::i::r):=by
 have e:formB (k::i::r)=(i::r).all fun i=>decide (0≤i):=by
  unfold formB
  split
  ·rename_i h
   injection h with h3 h4
   exact absurd h3 hk
  ·rename_i h
   injection h with h3 h4
   rw [h4]
  ·rename_i h
   cases h
 rw [e]
 by_cases hm:0≤m
 ·rw [decide_eq_true hm]
  refine (List.all_eq_true.mpr fun y hy=>decide_eq_true ?_).symm
  have:=h2 y hy
  omega
 ·rw [decide_eq_false hm]
  cases q:(i::r).all fun i=>decide (0≤i) with
  | false=>rfl
  | true=>exact absurd (of_decide_eq_true (List.all_eq_true.mp q m h1)) hm
theorem ok_has_form (D:DefAt K mg "has_form" s_has_form) (c_CONSTANT:Const mg "CONSTANT" (.int 1)) (n_min:mg "min"=none):Callee P w K mg base "has_form" ["line"] 41 (spForm K):=by
 refine mkC (k:=40) D sc_has_form (fun _ _ _ _ _ _ us hl=>match us,hl with | [_],_=>rfl) (fun vs H Q E h=>?_) (fun f cdv A outer s H vs Q E hr h=>?_)
 ·obtain ⟨x,k,i,r,rfl,_⟩:=h
  rfl
 ·obtain ⟨x,k,i,r,rfl,hx,hl,hk0,kk⟩:=h
  refine ⟨_,(pss_cons (ps_if (pt_cmpR op_eq (pe_ix ix_tup (pv 0) pe_int (fun _ _=>rfl)) (pe_const c_CONSTANT) (nomark _)) (pss_one (ps_ret (pe_cmpR op_ge (pe_ix ix_tup (pv 0) pe_int (fun _ _=>rfl)) pe_int (nomark _)))) pss_nil)
   (pss_one (ps_ret (pe_cmpR op_ge (pe_callB (cr_minT rfl) (by rfl) n_min bt_min (pa_cons (pe_slice sl_tup (pv 0) (po_some pe_int) po_none) pa_nil)) pe_int (nomark _))))),?_⟩
  refine ⟨_,rfl,_,_,_,_,rfl,rfl,hx,at_0,(by rfl),_,rfl,?_⟩
  by_cases hk:k=1
  ·subst hk
   rw [decide_eq_true (show V.int 1=V.int 1 from rfl)]
   refine iteT ?_
   match r,hl with
   | [d],_ =>
    refine ⟨_,rfl,_,_,_,_,rfl,rfl,hx,rfl,_,_,rfl,rfl,?_⟩
    exact kk H (Same.refl H)
  ·rw [decide_eq_false (show ¬ V.int k=V.int 1 from fun e=>hk (by injection e))]
   refine iteF ?_
   refine ⟨_,rfl,_,rfl,x,_,rfl,hx,cut1.1,fun p hp=>?_⟩
   ·rw [cut1.2]
    refine ⟨p,i::r,rfl,SqT.of upd_same,(by simp),fun m h1 h2=>?_⟩
    refine ⟨_,_,rfl,rfl,?_⟩
    dsimp only
    rw [formB_min hk h1 h2]
    exact kk _ (same_upd hp)
end
end Lc
end
section
namespace Lc
open PySem PySem.Spec PyProof.Rows L2
theorem plen {α β:Type} {F:α→β→Prop}:∀ {l:List α} {m:List β},Paired F l m→l.length=m.length
 | _,_,.nil=>rfl
 | _,_,.cons _ t=>by rw [List.length_cons,List.length_cons,plen t]
section
variable {P:Program} {w:World} {K:PySem.W.Frag} {mg:Str→Option Value} {base:Heap}
def spFinds (K:PySem.W.Frag):Sp:=fun vs H Q _=>∃ (x:Addr) (raw:List Int) (n i:Nat),vs=[.ref x,.int i,.int n]∧LnAt K H x raw∧RawOk raw∧∀ H',Same H H'→Q (.bl (findsB n i raw)) H'
theorem ok_finds (D:DefAt K mg "finds_what_it_uses" s_finds_what_it_uses) (c_CONSTANT:Const mg "CONSTANT" (.int 1)) (c_INPUT:Const mg "INPUT" (.int 0)) (n_max:mg "max"=none) :
  Callee P w K mg base "finds_what_it_uses" ["line","place","inputs"] 41 (spFinds K):=by
 refine mkC (k:=40) D sc_finds_what_it_uses (fun _ _ _ _ _ _ us hl=>match us,hl with | [_,_,_],_=>rfl) (fun vs H Q E h=>?_) (fun f cdv A outer s H vs Q E hr h=>?_)
 ·obtain ⟨x,raw,n,i,rfl,_⟩:=h
  rfl
 ·obtain ⟨x,raw,n,pl,rfl,hx,ho,kk⟩:=h
  have three:(∃ k,raw=[0,k])∨(∃ a d,raw=[1,a,d])∨(∃ o i r,raw=o::i::r∧¬ o=1∧¬ o=0∧∀ m,m∈i::r→(∀ y,y∈i::r→y≤m)→decide (m < (pl:Int))=findsB n pl raw):=by
   rcases ho with ⟨k,rfl,hk⟩ | ⟨a,d,rfl,hd⟩ | ⟨o,i,j,rfl,h2,h5,hi,hj⟩ | ⟨i,rfl,hi⟩
   ·exact .inl ⟨k,rfl⟩
   ·exact .inr (.inl ⟨a,d,rfl⟩)
   ·refine .inr (.inr ⟨o,i,[j],rfl,by omega,by omega,fun m m1 m2=>?_⟩)
    have e:findsB n pl [o,i,j]=(decide (i < (pl:Int)) && decide (j < (pl:Int))):=by
     have ho:o=2∨o=3∨o=4∨o=5:=by omega
     rcases ho with rfl | rfl | rfl | rfl <;> rfl
    rw [e]
    have a1:=m2 i (by simp)
    have a2:=m2 j (by simp)
    have a3:m=i∨m=j:=by simpa using m1
    by_cases q:m < (pl:Int)
    ·rw [decide_eq_true q,decide_eq_true (show i < (pl:Int) by omega),decide_eq_true (show j < (pl:Int) by omega)]
     rfl
    ·rw [decide_eq_false q]
     rcases a3 with rfl | rfl
     ·rw [decide_eq_false q];rfl
     ·rw [decide_eq_false q,Bool.and_false]
   ·refine .inr (.inr ⟨6,i,[],rfl,by decide,by decide,fun m m1 m2=>?_⟩)
    have a3:m=i:=by simpa using m1
    subst a3
    rfl
  refine ⟨_,(pss_cons (ps_if (pt_cmpR op_eq (pe_ix ix_tup (pv 0) pe_int (fun _ _=>rfl)) (pe_const c_CONSTANT) (nomark _)) (pss_one (ps_ret pe_bl)) pss_nil)
   (pss_cons (ps_if (pt_cmpR op_eq (pe_ix ix_tup (pv 0) pe_int (fun _ _=>rfl)) (pe_const c_INPUT) (nomark _)) (pss_one (ps_ret (pe_cmpR op_lt (pe_ix ix_tup (pv 0) pe_int (fun _ _=>rfl)) (pv 2) (nomark _)))) pss_nil)
   (pss_one (ps_ret (pe_cmpR op_lt (pe_callB (cr_maxT rfl) (by rfl) n_max bt_max (pa_cons (pe_slice sl_tup (pv 0) (po_some pe_int) po_none) pa_nil)) (pv 1) (nomark _)))))),?_⟩
  rcases three with ⟨k,rfl⟩ | ⟨a,d,rfl⟩ | ⟨o,i,r,rfl,h1,h0,hm⟩
  ·refine ⟨_,rfl,_,_,_,_,rfl,rfl,hx,at_0,(by rfl),_,rfl,?_⟩
   refine iteF ?_
   refine ⟨_,rfl,_,_,_,_,rfl,rfl,hx,at_0,(by rfl),_,rfl,?_⟩
   refine iteT ?_
   refine ⟨_,rfl,_,_,_,_,rfl,rfl,hx,at_1,_,rfl,_,_,rfl,rfl,?_⟩
   exact kk H (Same.refl H)
  ·refine ⟨_,rfl,_,_,_,_,rfl,rfl,hx,at_0,(by rfl),_,rfl,?_⟩
   refine iteT ?_
   exact kk H (Same.refl H)
  ·refine ⟨_,rfl,_,_,_,_,rfl,rfl,hx,at_0,(by rfl),_,rfl,?_⟩
   rw [decide_eq_false (show ¬ V.int o=V.int 1 from fun e=>h1 (by injection e))]
   refine iteF ?_
   refine ⟨_,rfl,_,_,_,_,rfl,rfl,hx,at_0,(by rfl),_,rfl,?_⟩
   rw [decide_eq_false (show ¬ V.int o=V.int 0 from fun e=>h0 (by injection e))]
   refine iteF ?_
   refine ⟨_,rfl,_,rfl,x,_,rfl,hx,cut1.1,fun p hp=>?_⟩
   rw [cut1.2]
   refine ⟨p,i::r,rfl,SqT.of upd_same,(by simp),fun m m1 m2=>?_⟩
   refine ⟨_,rfl,_,_,rfl,rfl,?_⟩
   dsimp only
   rw [hm m m1 m2]
   exact kk _ (same_upd hp)
theorem findsAll_at (n:Nat):∀ (c:List (List Int)) (p:Nat) (i:Nat) (raw:List Int),c[i]?=some raw→findsB n (p+i) raw=false→findsAll n p c=false
 | [],_,_,_,h,_=>by simp at h
 | r::c,p,0,raw,h,hf=>by
  simp at h
  subst h
  unfold findsAll
  rw [show p=p+0 by omega,hf]
  rfl
 | r::c,p,i+1,raw,h,hf=>by
  unfold findsAll
  rw [findsAll_at n c (p+1) i raw (by simpa using h) (by rw [show p+1+i=p+(i+1) by omega];exact hf),Bool.and_false]
theorem findsAll_all (n:Nat):∀ (c:List (List Int)) (p:Nat),(∀ i raw,c[i]?=some raw→findsB n (p+i) raw=true)→findsAll n p c=true
 | [],_,_=>rfl
 | r::c,p,h=>by
  unfold findsAll
  rw [show findsB n p r=true from h 0 r rfl,findsAll_all n c (p+1) fun i raw e=>(by rw [show p+1+i=p+(i+1) by omega];exact h (i+1) raw (by simpa using e))]
  rfl
def spAllFind (K:PySem.W.Frag):Sp:=fun vs H Q _=>∃ (a:Addr) (c:List (List Int)) (n:Nat),vs=[.ref a,.int n]∧LnsAt K H a c∧(∀ r∈c,RawOk r)∧∀ H',Same H H'→Q (.bl (findsAll n 0 c)) H'
theorem ok_all_find (D:DefAt K mg "all_find_what_they_use" s_all_find_what_they_use) (n_enumerate:mg "enumerate"=none) (C_finds_what_it_uses:Callee P w K mg base "finds_what_it_uses" ["line","place","inputs"] 41 (spFinds K)) :
  Callee P w K mg base "all_find_what_they_use" ["lines","inputs"] 42 (spAllFind K):=by
 refine mkC (k:=41) D sc_all_find_what_they_use (fun _ _ _ _ _ _ us hl=>match us,hl with | [_,_],_=>rfl) (fun vs H Q E h=>?_) (fun f cdv A outer s H vs Q E hr h=>?_)
 ·obtain ⟨a,c,n,rfl,_⟩:=h
  rfl
 ·obtain ⟨a,c,n,rfl,hc,hok,kk⟩:=h
  obtain ⟨rs,hl,hp⟩:=id hc
  refine ⟨_,(pss_cons (ps_for PassesOwn.never rfl (pi_enum rfl n_enumerate (pa_cons (pv 0) pa_nil)) (pg_tup rfl (pgs_cons (pg_name (i:=2) sc_all_find_what_they_use.nd rfl (by first|exact .inl rfl|exact .inr rfl)) (pgs_cons (pg_name (i:=3) sc_all_find_what_they_use.nd rfl (by first|exact .inl rfl|exact .inr rfl)) pgs_nil))) (pss_one (ps_if (pt_not (pt_val (pe_callC C_finds_what_it_uses hr (pa_cons (pv 3) (pa_cons (pv 2) (pa_cons (pv 1) pa_nil)))))) (pss_one (ps_ret pe_bl)) pss_nil)))
   (pss_one (ps_ret pe_bl))),?_⟩
  refine ⟨_,rfl,a,_,rfl,hl,?_⟩
  refine for_enum (K:=K) (a:=a) (xs:=rs.map V.ref) (fun i σ H1=>∃ u v:Option V,σ=[some (.ref a),some (.int n),u,v]∧Same H H1∧∀ j raw,j < i→c[j]?=some raw→findsB n j raw=true) ⟨none,none,rfl,Same.refl H,fun j raw h=>absurd h (by omega)⟩ (fun i σ H1 _ ⟨_,_,_,s1,_⟩=>s1.seq hl) ?_ ?_
  ·rintro i x σ H1 T hi ⟨u,v,rfl,s1,hall⟩ hT
   obtain ⟨r,hr',rfl⟩:∃ r,rs[i]?=some r∧x=V.ref r:=by
    rw [List.getElem?_map] at hi
    cases e:rs[i]? with
    | none=>rw [e] at hi;cases hi
    | some r=>rw [e] at hi;exact ⟨r,rfl,(Option.some.inj hi).symm⟩
   obtain ⟨raw,hraw⟩:∃ raw,c[i]?=some raw:=by
    have h1:=(List.getElem?_eq_some_iff.mp hr').1
    rw [plen hp] at h1
    exact ⟨_,List.getElem?_eq_getElem h1⟩
   obtain ⟨r2,h2,h3⟩:=pget hp hraw
   rw [hr'] at h2
   cases h2
   have s2:Same H (upd H1 T (.tup [.int (i:Nat),.ref r])):=s1.trans (same_upd hT)
   refine ⟨T,_,rfl,SqT.of upd_same,rfl,_,_,rfl,_,_,rfl,rfl,?_⟩
   refine ⟨_,rfl,_,rfl,_,rfl,r,raw,n,i,rfl,Same.seqT s2 h3,hok raw (List.mem_of_getElem? hraw),fun H2 s3=>?_⟩
   refine ⟨_,rfl,?_⟩
   cases hf:findsB n i raw with
   | false =>
    refine iteT ?_
    have e:findsAll n 0 c=false:=findsAll_at n c 0 i raw hraw (by rw [Nat.zero_add];exact hf)
    rw [e] at kk
    exact kk H2 (s2.trans s3)
   | true =>
    refine iteF ?_
    refine ⟨_,_,rfl,s2.trans s3,fun j raw' hj hj'=>?_⟩
    by_cases q:j < i
    ·exact hall j raw' q hj'
    ·have:j=i:=by omega
     subst this
     rw [hraw] at hj'
     cases hj'
     exact hf
  ·rintro σ H1 ⟨u,v,rfl,s1,hall⟩
   have e:findsAll n 0 c=true:=findsAll_all n c 0 fun i raw hi=>by
    rw [Nat.zero_add]
    refine hall i raw ?_ hi
    have h1:=(List.getElem?_eq_some_iff.mp hi).1
    rw [List.length_map,plen hp]
    exact h1
   rw [e] at kk
   exact kk H1 s1
end
end Lc
end
section
namespace Lc
open PySem PySem.Spec PyProof.Rows L2
theorem cut_mid (ns:List Int) (a b:Nat) (h:a≤b) (hb:b≤ns.length):cutV (ns.map V.int) (some (a:Int)) (some (b:Int))=((ns.drop a).take (b - a)).map V.int:=by
 unfold cutV
 rw [List.length_map,sIxN,sIxN,Nat.min_eq_left hb,Nat.min_eq_left (show a≤ns.length by omega),List.map_take,List.map_drop]
theorem nbk_at {k:Int} (h0:0≤k) (h6:k≤6):atI [V.int 1,V.int 2,V.int 2,V.int 2,V.int 2,V.int 2,V.int 1] k=some (V.int (beh k:Nat)):=by
 have h7:k=0∨k=1∨k=2∨k=3∨k=4∨k=5∨k=6:=by omega
 rcases h7 with rfl | rfl | rfl | rfl | rfl | rfl | rfl <;> rfl
theorem beh_pos (k:Int):1≤beh k:=by
 unfold beh
 by_cases h:k=0
 ·rw [if_pos h];omega
 ·rw [if_neg h]
  by_cases h6:k=6
  ·rw [if_pos h6];omega
  ·rw [if_neg h6];omega
section
variable {P:Program} {w:World} {K:PySem.W.Frag} {mg:Str→Option Value} {base:Heap}
def spRead (K:PySem.W.Frag):Sp:=fun vs H Q _=>∃ (a:Addr) (ns:List Int),vs=[.ref a]∧SqL K H a (ns.map V.int)∧ns.length≤100000 ∧
 (readL ns.length ns=none→∀ H',Same H H'→Q .non H')∧∀ c,readL ns.length ns=some c→∀ H' l,Same H H'→H l=none→LnsNew K H' l c→Q (.ref l) H'
theorem ok_read_lines {nb:Addr} (D:DefAt K mg "read_lines" s_read_lines) (c_INPUT:Const mg "INPUT" (.int 0)) (c_OPPOSITE:Const mg "OPPOSITE" (.int 6)) (c_NUMBERS_BEHIND_KIND:Const mg "NUMBERS_BEHIND_KIND" (.ref nb))
  (hnb:∀ H,SqT K H nb [.int 1,.int 2,.int 2,.int 2,.int 2,.int 2,.int 1]) (n_len:mg "len"=none) (n_tuple:mg "tuple"=none) (C_has_form:Callee P w K mg base "has_form" ["line"] 41 (spForm K)) :
  Callee P w K mg base "read_lines" ["numbers"] 42 (spRead K):=by
 refine mkC (k:=41) D sc_read_lines (fun _ _ _ _ _ _ us hl=>match us,hl with | [_],_=>rfl) (fun vs H Q E h=>?_) (fun f cdv A outer s H vs Q E hr h=>?_)
 ·obtain ⟨a,ns,rfl,_⟩:=h
  rfl
 ·obtain ⟨a,ns,rfl,hS,hlen,kN,kS⟩:=h
  refine ⟨_,(pss_cons (ps_set (i:=1) sc_read_lines.nd rfl (by first|exact .inl rfl|exact .inr rfl) (pe_lst pa_nil))
   (pss_cons (ps_set (i:=2) sc_read_lines.nd rfl (by first|exact .inl rfl|exact .inr rfl) pe_int)
   (pss_cons (ps_while PassesOwn.never (pt_cmpR op_lt (pv 2) (pe_callB call_len_seq (by rfl) n_len bt_len (pa_cons (pv 0) pa_nil)) (nomark _)) (pss_cons (ps_set (i:=3) sc_read_lines.nd rfl (by first|exact .inl rfl|exact .inr rfl) (pe_ix ix_list (pv 0) (pv 2) (fun _ _=>rfl)))
   (pss_cons (ps_if (PW.pt (pw_or (pt_cmpR op_lt (pv 3) (pe_const c_INPUT) (nomark _)) (pw_or1 (pt_cmpR op_gt (pv 3) (pe_const c_OPPOSITE) (nomark _))))) (pss_one (ps_ret pe_non)) pss_nil)
   (pss_cons (ps_set (i:=4) sc_read_lines.nd rfl (by first|exact .inl rfl|exact .inr rfl) (pe_op op_add (pe_op op_add (pv 2) pe_int) (pe_ix ix_tup (pe_const c_NUMBERS_BEHIND_KIND) (pv 3) (fun _ _=>rfl))))
   (pss_cons (ps_if (pt_cmpR op_gt (pv 4) (pe_callB call_len_seq (by rfl) n_len bt_len (pa_cons (pv 0) pa_nil)) (nomark _)) (pss_one (ps_ret pe_non)) pss_nil)
   (pss_cons (ps_set (i:=5) sc_read_lines.nd rfl (by first|exact .inl rfl|exact .inr rfl) (pe_callTy call_tuple_of (by rfl) n_tuple bt_tuple (pa_cons (pe_slice sl_list (pv 0) (po_some (pv 2)) (po_some (pv 4))) pa_nil)))
   (pss_cons (ps_if (pt_not (pt_val (pe_callC C_has_form hr (pa_cons (pv 5) pa_nil)))) (pss_one (ps_ret pe_non)) pss_nil)
   (pss_cons (ps_expr (pe_bm PySem.F.plainAttrs_list PySem.F.slot_list_append PySem.F.type_list_append mt_append (pv 1) (pa_cons (pv 5) pa_nil)))
   (pss_one (ps_set (i:=2) sc_read_lines.nd rfl (by first|exact .inl rfl|exact .inr rfl) (pv 4)))))))))))
   (pss_one (ps_ret (pv 1)))))),?_⟩
  refine ⟨Nat.zero_le _,fun l hl=>?_⟩
  have sl:Same H (upd H l (.lst [])):=same_upd hl
  refine ⟨fun m σ H1=>∃ (pl:Nat) (acc:List (List Int)) (rs:List Addr) (u v z:Option V),m=ns.length - pl∧σ=[some (.ref a),some (.ref l),some (.int pl),u,v,z]∧pl≤ns.length∧Same H H1 ∧
   H1 l=some (.lst (rs.map V.ref))∧Paired (LnAt K H1) rs acc∧rs.length≤pl∧readL ns.length ns=(readL (ns.length - pl) (ns.drop pl)).map (acc++·),⟨_,0,[],[],none,none,none,rfl,rfl,Nat.zero_le _,sl,upd_same,.nil,Nat.le_refl _,?_⟩,?_⟩
  ·rw [List.drop_zero,Nat.sub_zero]
   cases readL ns.length ns <;> rfl
  ·rintro m σ H1 ⟨pl,acc,rs,u,v,z,rfl,rfl,hpl,s1,hl1,hp,hrs,hread⟩
   have hS1:=s1.seq hS
   refine ⟨_,rfl,_,rfl,a,_,rfl,.inl hS1,_,_,rfl,rfl,_,rfl,?_⟩
   rw [List.length_map]
   by_cases hlt:pl < ns.length
   ·rw [decide_eq_true (show (pl:Int) < (ns.length:Int) by omega)]
    refine iteT ⟨fun σ' H'=>∃ m',m' < ns.length - pl∧∃ (pl:Nat) (acc:List (List Int)) (rs:List Addr) (u v z:Option V),m'=ns.length - pl∧σ'=[some (.ref a),some (.ref l),some (.int pl),u,v,z]∧pl≤ns.length∧Same H H' ∧
     H' l=some (.lst (rs.map V.ref))∧Paired (LnAt K H') rs acc∧rs.length≤pl∧readL ns.length ns=(readL (ns.length - pl) (ns.drop pl)).map (acc++·),fun σ' H' h=>h,?_⟩
    obtain ⟨k,hk⟩:∃ k,ns[pl]?=some k:=⟨_,List.getElem?_eq_getElem hlt⟩
    have hd:ns.drop pl=k::ns.drop (pl+1):=by
     rw [List.drop_eq_getElem_cons hlt]
     congr 1
     exact Option.some.inj ((List.getElem?_eq_getElem hlt).symm.trans hk)
    refine ⟨_,rfl,_,rfl,_,_,_,_,rfl,rfl,hS1,atI_nat (j:=pl) (v:=V.int k) (by rw [List.getElem?_map,hk];rfl),?_⟩
    have hstep:readL (ns.length - pl) (ns.drop pl)=if 0≤k∧k≤6∧beh k≤(ns.drop (pl+1)).length∧formB (k::(ns.drop (pl+1)).take (beh k))=true then (readL (ns.length - pl - 1) ((ns.drop (pl+1)).drop (beh k))).map fun c=>(k::(ns.drop (pl+1)).take (beh k))::c else none:=by
     rw [hd,show ns.length - pl=(ns.length - pl - 1)+1 by omega]
     rfl
    have hnone:¬ (0≤k∧k≤6∧beh k≤(ns.drop (pl+1)).length∧formB (k::(ns.drop (pl+1)).take (beh k))=true)→∀ H',Same H H'→Q .non H':=fun hno=>by
     rw [if_neg hno] at hstep
     rw [hstep] at hread
     exact kN hread
    refine ⟨_,rfl,_,_,rfl,rfl,_,rfl,?_⟩
    by_cases h0:k < 0
    ·rw [decide_eq_true h0]
     exact iteT (iteT (hnone (fun z=>by omega) H1 s1))
    rw [decide_eq_false h0]
    refine iteF ⟨_,rfl,_,_,rfl,rfl,_,rfl,?_⟩
    by_cases h6:6 < k
    ·rw [decide_eq_true h6]
     exact iteT (hnone (fun z=>by omega) H1 s1)
    rw [decide_eq_false h6]
    refine iteF ?_
    refine ⟨_,rfl,_,_,rfl,rfl,_,rfl,nb,_,_,_,rfl,rfl,hnb H1,nbk_at (by omega) (by omega),_,_,rfl,rfl,?_⟩
    refine ⟨_,rfl,_,rfl,a,_,rfl,.inl hS1,_,_,rfl,rfl,_,rfl,?_⟩
    rw [List.length_map]
    have hdl:(ns.drop (pl+1)).length=ns.length - (pl+1):=by rw [List.length_drop]
    by_cases he:(ns.length:Int) < (pl:Int)+1+(beh k:Int)
    ·rw [decide_eq_true he]
     exact iteT (hnone (fun z=>by omega) H1 s1)
    rw [decide_eq_false he]
    refine iteF ?_
    have eEnd:(pl:Int)+1+(beh k:Int)=((pl+1+beh k:Nat):Int):=by omega
    dsimp only
    rw [eEnd]
    refine ⟨_,rfl,_,rfl,_,rfl,_,rfl,_,rfl,a,_,rfl,hS1,fun p hp1=>?_⟩
    rw [cut_mid ns pl (pl+1+beh k) (by omega) (by omega)]
    have hraw:(ns.drop pl).take (pl+1+beh k - pl)=k::(ns.drop (pl+1)).take (beh k):=by
     rw [hd,show pl+1+beh k - pl=beh k+1 by omega,List.take_succ_cons]
    rw [hraw]
    refine ⟨p,_,rfl,.inl ⟨SqL.of upd_same,fun q hq=>?_⟩⟩
    obtain ⟨i,r,hir⟩:∃ i r,(ns.drop (pl+1)).take (beh k)=i::r:=by
     have hb:=beh_pos k
     cases e:(ns.drop (pl+1)).take (beh k) with
     | nil =>
      have:=congrArg List.length e
      rw [List.length_take,hdl,List.length_nil] at this
      omega
     | cons i r=>exact ⟨i,r,rfl⟩
    have hilen:r.length+1=beh k:=by
     have:=congrArg List.length hir
     rw [List.length_take,hdl,List.length_cons] at this
     omega
    have s2:Same H1 (upd (upd H1 p (.lst ((k::(ns.drop (pl+1)).take (beh k)).map V.int))) q (.tup ((k::(ns.drop (pl+1)).take (beh k)).map V.int))):=(same_upd hp1).trans (same_upd hq)
    have hline:LnAt K (upd (upd H1 p (.lst ((k::(ns.drop (pl+1)).take (beh k)).map V.int))) q (.tup ((k::(ns.drop (pl+1)).take (beh k)).map V.int))) q (k::(ns.drop (pl+1)).take (beh k)):=SqT.of upd_same
    generalize upd (upd H1 p (.lst ((k::(ns.drop (pl+1)).take (beh k)).map V.int))) q (.tup ((k::(ns.drop (pl+1)).take (beh k)).map V.int))=H2 at s2 hline ⊢
    rw [hir] at hline
    refine ⟨_,rfl,q,k,i,r,rfl,hline,hilen,by omega,fun H3 s3=>⟨_,rfl,?_⟩⟩
    rw [← hir]
    cases hf:formB (k::(ns.drop (pl+1)).take (beh k)) with
    | false=>exact iteT (hnone (fun z=>by rw [hf] at z;exact absurd z.2.2.2 (by decide)) H3 ((s1.trans s2).trans s3))
    | true =>
     refine iteF ?_
     have s13:Same H1 H3:=s2.trans s3
     have hl3:=s13 l _ hl1
     have hp3:Paired (LnAt K H3) rs acc:=Paired.mapP hp fun _ _ z=>Same.seqT s13 z
     have hline3:LnAt K H3 q (k::(ns.drop (pl+1)).take (beh k)):=by rw [hir];exact Same.seqT s3 hline
     refine ⟨_,rfl,.inl ⟨rfl,_,SqL.of hl3⟩,_,rfl,l,_,_,rfl,rfl,hl3,(by rw [List.length_map,sizeLine_eq];omega),?_⟩
     refine ⟨_,rfl,?_⟩
     refine ⟨_,?_,pl+1+beh k,acc++[k::(ns.drop (pl+1)).take (beh k)],rs++[q],_,_,_,rfl,rfl,by omega,same_put hl (s1.trans s13),?_,?_,?_,?_⟩
     ·omega
     ·rw [upd_same,List.map_append]
      rfl
     ·exact psnoc (Paired.mapP hp3 fun _ _ z=>SqT.put z hl3) (SqT.put hline3 hl3)
     ·rw [List.length_append,List.length_cons,List.length_nil]
      omega
     ·have hif:0≤k∧k≤6∧beh k≤(ns.drop (pl+1)).length∧formB (k::(ns.drop (pl+1)).take (beh k))=true:=⟨by omega,by omega,by omega,hf⟩
      rw [if_pos hif] at hstep
      rw [hread,hstep,List.drop_drop,Option.map_map]
      rw [readL_fuel (ns.length - pl - 1) (ns.length - (pl+1+beh k)) (ns.drop (pl+1+beh k)) (by rw [List.length_drop];omega) (by rw [List.length_drop];exact Nat.le_refl _)]
      congr 1
      funext c
      simp
   ·rw [decide_eq_false (show ¬ (pl:Int) < (ns.length:Int) by omega)]
    refine iteF ⟨_,rfl,?_⟩
    have e0:ns.drop pl=[]:=List.drop_eq_nil_of_le (by omega)
    rw [e0,show ns.length - pl=0 by omega] at hread
    have e1:readL ns.length ns=some acc:=by
     rw [hread]
     show some (acc++[])=some acc
     rw [List.append_nil]
    exact kS acc e1 H1 l s1 hl ⟨rs,hl1,hp⟩
end
end Lc
end
section
namespace Lc
open PySem PySem.Spec PyProof.Rows L2
theorem RgC.two {n:Nat} (h:n≤1000000):RgC 0 ((2*n:Nat):Int) 2 n:=by
 have e:Builtin.Range.rangeSize 0 ((2*n:Nat):Int) 2=n:=by
  unfold Builtin.Range.rangeSize
  simp only [show (2:Int) > 0 by decide,if_true]
  split <;> omega
 have f:∀ i:Int,-1000000000≤i→i≤1000000000→Builtin.Range.rangeFitsLong i=true:=fun i h1 h2=>by
  unfold Builtin.Range.rangeFitsLong
  rw [decide_eq_true (show -(2 ^ 63)≤i by omega),decide_eq_true (show i < 2 ^ 63 by omega)]
  rfl
 refine ⟨by decide,by decide,?_,e⟩
 unfold Builtin.Range.small
 rw [e,f 0 (by decide) (by decide),f 2 (by decide) (by decide),f ((2*n:Nat):Int) (by omega) (by omega),f (n:Int) (by omega) (by omega),if_pos (by decide),f _ (by omega) (by omega),Bool.or_true]
 rfl
theorem readF_none:∀ (l:List Int) (i:Nat) (d:Int),l[2*i+1]?=some d→d < 1→readF l=none
 | [],i,d,h,_=>by simp at h
 | [_],i,d,h,_=>by simp at h
 | n::e::r,0,d,h,hd=>by
  simp at h
  subst h
  unfold readF
  rw [if_pos hd]
 | n::e::r,i+1,d,h,hd=>by
  unfold readF
  rw [readF_none r i d (by simpa [Nat.mul_add] using h) hd]
  split <;> rfl
section
variable {P:Program} {w:World} {K:PySem.W.Frag} {mg:Str→Option Value} {base:Heap}
def spReadF (K:PySem.W.Frag):Sp:=fun vs H Q _=>∃ (a:Addr) (ns:List Int) (n:Nat),vs=[.ref a,.int n]∧SqL K H a (ns.map V.int)∧ns.length≤100000∧n≤100000 ∧
 (fracsQ n ns=none→∀ H',Same H H'→Q .non H')∧∀ c,fracsQ n ns=some c→∀ H' l,Same H H'→H l=none→FrsNew K H' l c→Q (.ref l) H'
theorem ok_read_fractions (D:DefAt K mg "read_fractions" s_read_fractions) (n_len:mg "len"=none) (n_range:mg "range"=none) (C_in_lowest_terms:Callee P w K mg base "in_lowest_terms" ["upper","lower"] 42 (spLow K)) :
  Callee P w K mg base "read_fractions" ["numbers","how_many"] 43 (spReadF K):=by
 refine mkC (k:=42) D sc_read_fractions (fun _ _ _ _ _ _ us hl=>match us,hl with | [_,_],_=>rfl) (fun vs H Q E h=>?_) (fun f cdv A outer s H vs Q E hr h=>?_)
 ·obtain ⟨a,ns,n,rfl,_⟩:=h
  rfl
 ·obtain ⟨a,ns,n,rfl,hS,hlen,hn,kN,kS⟩:=h
  refine ⟨_,(pss_cons (ps_if (pt_cmpR op_ne (pe_callB call_len_seq (by rfl) n_len bt_len (pa_cons (pv 0) pa_nil)) (pe_op op_mulB pe_int (pv 1)) (nomark _)) (pss_one (ps_ret pe_non)) pss_nil)
   (pss_cons (ps_set (i:=2) sc_read_fractions.nd rfl (by first|exact .inl rfl|exact .inr rfl) (pe_lst pa_nil))
   (pss_cons (ps_for PassesOwn.never rfl (pi_range3 rfl n_range (pa_cons pe_int (pa_cons (pe_callB call_len_seq (by rfl) n_len bt_len (pa_cons (pv 0) pa_nil)) (pa_cons pe_int pa_nil)))) (pg_name (i:=3) sc_read_fractions.nd rfl (by first|exact .inl rfl|exact .inr rfl)) (pss_cons (ps_if (pt_cmpR op_lt (pe_ix ix_list (pv 0) (pe_op op_add (pv 3) pe_int) (fun _ _=>rfl)) pe_int (nomark _)) (pss_one (ps_ret pe_non)) pss_nil)
   (pss_one (ps_expr (pe_bm PySem.F.plainAttrs_list PySem.F.slot_list_append PySem.F.type_list_append mt_append (pv 2) (pa_cons (pe_callC C_in_lowest_terms hr (pa_cons (pe_ix ix_list (pv 0) (pv 3) (fun _ _=>rfl)) (pa_cons (pe_ix ix_list (pv 0) (pe_op op_add (pv 3) pe_int) (fun _ _=>rfl)) pa_nil))) pa_nil))))))
   (pss_one (ps_ret (pv 2)))))),?_⟩
  refine ⟨_,rfl,a,_,rfl,.inl hS,_,rfl,_,_,rfl,rfl,.of_left (by decide),rfl,_,rfl,?_⟩
  rw [List.length_map]
  by_cases h2:ns.length=2*n
  ·rw [decide_eq_true (show V.int (ns.length:Int)=V.int (2*(n:Int)) by rw [h2];rfl)]
   refine iteF ?_
   have hq:fracsQ n ns=readF ns:=by unfold fracsQ;rw [if_pos h2]
   rw [hq] at kN kS
   refine ⟨Nat.zero_le _,fun l hl=>?_⟩
   have sl:Same H (upd H l (.lst [])):=same_upd hl
   refine ⟨_,rfl,a,_,rfl,.inl (sl.seq hS),0,_,2,n,rfl,?_,?_⟩
   ·rw [List.length_map,h2]
    exact RgC.two (by omega)
   ·refine for_rangeC (lo:=0) (c:=2) (n:=n) (fun i σ H1=>∃ (acc:List Rat) (rs:List Addr) (u:Option V),σ=[some (.ref a),some (.int n),some (.ref l),u]∧Same H H1 ∧
     H1 l=some (.lst (rs.map V.ref))∧Paired (FrAt K H1) rs acc∧rs.length=i∧readF ns=(readF (ns.drop (2*i))).map (acc++·)) ⟨[],[],none,rfl,sl,upd_same,.nil,rfl,?_⟩ ?_ ?_
    ·rw [Nat.mul_zero,List.drop_zero]
     cases readF ns <;> rfl
    ·rintro i σ H1 hi ⟨acc,rs,u,rfl,s1,hl1,hp,hrs,hread⟩
     have hS1:=s1.seq hS
     obtain ⟨x,hx⟩:∃ x,ns[2*i]?=some x:=⟨_,List.getElem?_eq_getElem (by omega)⟩
     obtain ⟨d,hd⟩:∃ d,ns[2*i+1]?=some d:=⟨_,List.getElem?_eq_getElem (by omega)⟩
     have hdr:ns.drop (2*i)=x::d::ns.drop (2*(i+1)):=by
      have e1:2*i < ns.length:=by omega
      have e2:2*i+1 < ns.length:=by omega
      rw [List.drop_eq_getElem_cons e1,List.drop_eq_getElem_cons e2,Option.some.inj ((List.getElem?_eq_getElem e1).symm.trans hx),Option.some.inj ((List.getElem?_eq_getElem e2).symm.trans hd),show 2*(i+1)=2*i+1+1 by omega]
     have eI:(0:Int)+(i:Int)*2=((2*i:Nat):Int):=by omega
     have eI1:((2*i:Nat):Int)+1=((2*i+1:Nat):Int):=by omega
     rw [eI]
     have hat:atI (ns.map V.int) (((2*i:Nat):Int)+1)=some (V.int d):=by
      rw [eI1]
      exact atI_nat (by rw [List.getElem?_map,hd];rfl)
     refine ⟨_,rfl,_,rfl,_,_,rfl,rfl,_,_,_,V.int d,rfl,rfl,hS1,hat,_,_,rfl,rfl,_,rfl,?_⟩
     ·by_cases h1:d < 1
      ·rw [decide_eq_true h1]
       exact iteT (kN (readF_none ns i d hd h1) H1 s1)
      ·rw [decide_eq_false h1]
       refine iteF ?_
       refine ⟨_,rfl,.inl ⟨rfl,_,SqL.of hl1⟩,_,rfl,_,rfl,_,_,_,_,rfl,rfl,hS1,atI_nat (v:=V.int x) (by rw [List.getElem?_map,hx];rfl),?_⟩
       refine ⟨_,rfl,_,rfl,_,_,rfl,rfl,_,_,_,V.int d,rfl,rfl,hS1,hat,?_⟩
       refine ⟨x,d,rfl,by omega,fun H2 r s2 hr2=>?_⟩
       have hl2:=s2 l _ hl1
       refine ⟨l,_,_,rfl,rfl,hl2,(by rw [List.length_map,sizeLine_eq];omega),?_⟩
       refine ⟨acc++[mkRat x d.toNat],rs++[r],_,rfl,same_put hl (s1.trans s2),?_,?_,?_,?_⟩
       ·rw [upd_same,List.map_append]
        rfl
       ·exact psnoc (Paired.mapP hp fun _ _ z=>SqT.put (Same.seqT s2 z) hl2) (SqT.put hr2 hl2)
       ·rw [List.length_append,List.length_cons,List.length_nil]
        omega
       ·rw [hread,hdr]
        show (if d < 1 then none else (readF (ns.drop (2*(i+1)))).map fun l=>mkRat x d.toNat::l).map _=_
        rw [if_neg h1,Option.map_map]
        congr 1
        funext c
        simp
    ·rintro σ H1 ⟨acc,rs,u,rfl,s1,hl1,hp,hrs,hread⟩
     refine ⟨_,rfl,?_⟩
     rw [← h2,List.drop_length] at hread
     have e1:readF ns=some acc:=by
      rw [hread]
      show some (acc++[])=some acc
      rw [List.append_nil]
     exact kS acc e1 H1 l s1 hl ⟨rs,hl1,hp⟩
  ·rw [decide_eq_false (show ¬ V.int (ns.length:Int)=V.int (2*(n:Int)) from fun e=>h2 (by injection e with e;omega))]
   refine iteT ?_
   have hq:fracsQ n ns=none:=by unfold fracsQ;rw [if_neg h2]
   exact kN hq H (Same.refl H)
end
end Lc
end
section
namespace Lc
open PySem PySem.Spec PyProof.Rows L2
theorem FrsAt.getI {K:PySem.W.Frag} {H:Hp} {a:Addr} {qs:List Rat} {i:Int} (h:FrsAt K H a qs) (h0:0≤i) (hl:i < (qs.length:Int)):∃ xs r,SqL K H a xs∧atI xs i=some (.ref r)∧FrAt K H r (at0 qs i.toNat):=by
 have hlt:i.toNat < qs.length:=by omega
 obtain ⟨xs,r,h1,h2,h3⟩:=h.get (List.getElem?_eq_getElem hlt)
 refine ⟨xs,r,h1,?_,?_⟩
 ·rw [show i=((i.toNat:Nat):Int) by omega]
  exact h2
 ·rw [at0_some (List.getElem?_eq_getElem hlt)]
  exact h3
structure Kinds (mg:Str→Option Value):Prop where
 c_INPUT:Const mg "INPUT" (.int 0)
 c_CONSTANT:Const mg "CONSTANT" (.int 1)
 c_SUM:Const mg "SUM" (.int 2)
 c_DIFFERENCE:Const mg "DIFFERENCE" (.int 3)
 c_PRODUCT:Const mg "PRODUCT" (.int 4)
 c_QUOTIENT_lines:Const mg "QUOTIENT_lines" (.int 5)
 c_OPPOSITE:Const mg "OPPOSITE" (.int 6)
structure Ratios (P:Program) (w:World) (K:PySem.W.Frag) (mg:Str→Option Value) (base:Heap):Prop where
 C_in_lowest_terms:Callee P w K mg base "in_lowest_terms" ["upper","lower"] 42 (spLow K)
 C_opposite:Callee P w K mg base "opposite" ["x"] 41 (spOpp K)
 C_total:Callee P w K mg base "total" ["x","y"] 42 (sp2 K (·+·))
 C_difference:Callee P w K mg base "difference" ["x","y"] 43 (sp2 K (· - ·))
 C_product:Callee P w K mg base "product" ["x","y"] 42 (sp2 K (·*·))
 C_quotient:Callee P w K mg base "quotient" ["x","y"] 43 (spDiv K)
 C_weight:Callee P w K mg base "weight" ["x"] 41 (spWeight K)
section
variable {P:Program} {w:World} {K:PySem.W.Frag} {mg:Str→Option Value} {base:Heap}
def spVal (K:PySem.W.Frag):Sp:=fun vs H Q _=>∃ (x pt fd:Addr) (raw:List Int) (ps us:List Rat) (a:Rat),vs=[.ref x,.ref pt,.ref fd]∧LnAt K H x raw∧FrsAt K H pt ps∧FrsAt K H fd us∧RawOk raw ∧
 findsB ps.length us.length raw=true∧(∀ q∈us,Ok q)∧valueQ ps us (lineOf raw)=some a∧∀ H' r,Same H H'→FrAt K H' r a→Q (.ref r) H'
theorem ok_line_value (D:DefAt K mg "line_value" s_line_value) (N:Kinds mg) (R:Ratios P w K mg base):Callee P w K mg base "line_value" ["line","point","found"] 44 (spVal K):=by
 obtain ⟨c_INPUT,c_CONSTANT,c_SUM,c_DIFFERENCE,c_PRODUCT,c_QUOTIENT_lines,c_OPPOSITE⟩:=N
 obtain ⟨C_in_lowest_terms,C_opposite,C_total,C_difference,C_product,C_quotient,C_weight⟩:=R
 refine mkC (k:=43) D sc_line_value (fun _ _ _ _ _ _ us hl=>match us,hl with | [_,_,_],_=>rfl) (fun vs H Q E h=>?_) (fun f cdv A outer s H vs Q E hr h=>?_)
 ·obtain ⟨x,pt,fd,raw,ps,us,a,rfl,_⟩:=h
  rfl
 ·obtain ⟨x,pt,fd,raw,ps,us,a,rfl,hx,hpt,hfd,ho,hf,hok,hv,k⟩:=h
  have ok0:∀ i,Ok (at0 us i):=fun i=>at0_all hok (Small.zero (by decide)) i
  refine ⟨_,(pss_cons (ps_set (i:=3) sc_line_value.nd rfl (by first|exact .inl rfl|exact .inr rfl) (pe_ix ix_tup (pv 0) pe_int (fun _ _=>rfl)))
   (pss_cons (ps_if (pt_cmpR op_eq (pv 3) (pe_const c_INPUT) (nomark _)) (pss_one (ps_ret (pe_ix ix_list (pv 1) (pe_ix ix_tup (pv 0) pe_int (fun _ _=>rfl)) (fun _ _=>rfl)))) pss_nil)
   (pss_cons (ps_if (pt_cmpR op_eq (pv 3) (pe_const c_CONSTANT) (nomark _)) (pss_one (ps_ret (pe_callC C_in_lowest_terms hr (pa_cons (pe_ix ix_tup (pv 0) pe_int (fun _ _=>rfl)) (pa_cons (pe_ix ix_tup (pv 0) pe_int (fun _ _=>rfl)) pa_nil))))) pss_nil)
   (pss_cons (ps_set (i:=4) sc_line_value.nd rfl (by first|exact .inl rfl|exact .inr rfl) (pe_ix ix_list (pv 2) (pe_ix ix_tup (pv 0) pe_int (fun _ _=>rfl)) (fun _ _=>rfl)))
   (pss_cons (ps_if (pt_cmpR op_eq (pv 3) (pe_const c_OPPOSITE) (nomark _)) (pss_one (ps_ret (pe_callC C_opposite hr (pa_cons (pv 4) pa_nil)))) pss_nil)
   (pss_cons (ps_set (i:=5) sc_line_value.nd rfl (by first|exact .inl rfl|exact .inr rfl) (pe_ix ix_list (pv 2) (pe_ix ix_tup (pv 0) pe_int (fun _ _=>rfl)) (fun _ _=>rfl)))
   (pss_cons (ps_if (pt_cmpR op_eq (pv 3) (pe_const c_SUM) (nomark _)) (pss_one (ps_ret (pe_callC C_total hr (pa_cons (pv 4) (pa_cons (pv 5) pa_nil))))) pss_nil)
   (pss_cons (ps_if (pt_cmpR op_eq (pv 3) (pe_const c_DIFFERENCE) (nomark _)) (pss_one (ps_ret (pe_callC C_difference hr (pa_cons (pv 4) (pa_cons (pv 5) pa_nil))))) pss_nil)
   (pss_cons (ps_if (pt_cmpR op_eq (pv 3) (pe_const c_PRODUCT) (nomark _)) (pss_one (ps_ret (pe_callC C_product hr (pa_cons (pv 4) (pa_cons (pv 5) pa_nil))))) pss_nil)
   (pss_one (ps_ret (pe_callC C_quotient hr (pa_cons (pv 4) (pa_cons (pv 5) pa_nil)))))))))))))),?_⟩
  rcases ho with ⟨i,rfl,hi⟩ | ⟨n,d,rfl,hd⟩ | ⟨o,i,j,rfl,h2,h5,hi,hj⟩ | ⟨i,rfl,hi⟩
  ·have hlt:i < (ps.length:Int):=of_decide_eq_true hf
   have hv:at0 ps i.toNat=a:=Option.some.inj hv
   refine ⟨_,rfl,_,_,_,_,rfl,rfl,hx,at_0,?_⟩
   refine ⟨_,rfl,(by rfl),_,rfl,?_⟩
   refine iteT ?_
   obtain ⟨xs,r,q1,q2,q3⟩:=hpt.getI hi hlt
   refine ⟨_,rfl,_,rfl,_,_,_,_,rfl,rfl,hx,at_1,_,_,_,_,rfl,rfl,q1,q2,?_⟩
   rw [hv] at q3
   exact k H r (Same.refl H) q3
  ·have hv:QF (Vagraa.frac n d.toNat)=a:=Option.some.inj hv
   rw [frac_F,QF_F] at hv
   refine ⟨_,rfl,_,_,_,_,rfl,rfl,hx,at_0,?_⟩
   refine ⟨_,rfl,(by rfl),_,rfl,?_⟩
   refine iteF ?_
   refine ⟨_,rfl,(by rfl),_,rfl,?_⟩
   refine iteT ?_
   refine ⟨_,rfl,_,_,_,_,rfl,rfl,hx,at_1,?_⟩
   refine ⟨_,rfl,_,_,_,_,rfl,rfl,hx,at_2,n,d,rfl,hd,fun H1 r s1 h1=>?_⟩
   rw [hv] at h1
   exact k H1 r s1 h1
  ·have hij:i < (us.length:Int)∧j < (us.length:Int):=by
    have ho:o=2∨o=3∨o=4∨o=5:=by omega
    have hb:(decide (i < (us.length:Int)) && decide (j < (us.length:Int)))=true:=by
     rcases ho with rfl | rfl | rfl | rfl <;> exact hf
    simpa using hb
   obtain ⟨xs,r1,p1,p2,p3⟩:=hfd.getI hi hij.1
   obtain ⟨ys,r2,q1,q2,q3⟩:=hfd.getI hj hij.2
   have ho:o=2∨o=3∨o=4∨o=5:=by omega
   rcases ho with rfl | rfl | rfl | rfl
   ·have hv:at0 us i.toNat+at0 us j.toNat=a:=Option.some.inj hv
    refine ⟨_,rfl,_,_,_,_,rfl,rfl,hx,at_0,?_⟩
    refine ⟨_,rfl,(by rfl),_,rfl,?_⟩
    refine iteF ?_
    refine ⟨_,rfl,(by rfl),_,rfl,?_⟩
    refine iteF ?_
    refine ⟨_,rfl,_,rfl,_,_,_,_,rfl,rfl,hx,at_1,_,_,_,_,rfl,rfl,p1,p2,?_⟩
    refine ⟨_,rfl,(by rfl),_,rfl,?_⟩
    refine iteF ?_
    refine ⟨_,rfl,_,rfl,_,_,_,_,rfl,rfl,hx,at_2,_,_,_,_,rfl,rfl,q1,q2,?_⟩
    refine ⟨_,rfl,(by rfl),_,rfl,?_⟩
    refine iteT ?_
    refine ⟨_,rfl,_,rfl,r1,r2,_,_,rfl,p3,q3,ok0 _,ok0 _,fun H1 r s1 h1=>?_⟩
    dsimp only at h1
    rw [hv] at h1
    exact k H1 r s1 h1
   ·have hv:at0 us i.toNat - at0 us j.toNat=a:=Option.some.inj hv
    refine ⟨_,rfl,_,_,_,_,rfl,rfl,hx,at_0,?_⟩
    refine ⟨_,rfl,(by rfl),_,rfl,?_⟩
    refine iteF ?_
    refine ⟨_,rfl,(by rfl),_,rfl,?_⟩
    refine iteF ?_
    refine ⟨_,rfl,_,rfl,_,_,_,_,rfl,rfl,hx,at_1,_,_,_,_,rfl,rfl,p1,p2,?_⟩
    refine ⟨_,rfl,(by rfl),_,rfl,?_⟩
    refine iteF ?_
    refine ⟨_,rfl,_,rfl,_,_,_,_,rfl,rfl,hx,at_2,_,_,_,_,rfl,rfl,q1,q2,?_⟩
    refine ⟨_,rfl,(by rfl),_,rfl,?_⟩
    refine iteF ?_
    refine ⟨_,rfl,(by rfl),_,rfl,?_⟩
    refine iteT ?_
    refine ⟨_,rfl,_,rfl,r1,r2,_,_,rfl,p3,q3,ok0 _,ok0 _,fun H1 r s1 h1=>?_⟩
    dsimp only at h1
    rw [hv] at h1
    exact k H1 r s1 h1
   ·have hv:at0 us i.toNat*at0 us j.toNat=a:=Option.some.inj hv
    refine ⟨_,rfl,_,_,_,_,rfl,rfl,hx,at_0,?_⟩
    refine ⟨_,rfl,(by rfl),_,rfl,?_⟩
    refine iteF ?_
    refine ⟨_,rfl,(by rfl),_,rfl,?_⟩
    refine iteF ?_
    refine ⟨_,rfl,_,rfl,_,_,_,_,rfl,rfl,hx,at_1,_,_,_,_,rfl,rfl,p1,p2,?_⟩
    refine ⟨_,rfl,(by rfl),_,rfl,?_⟩
    refine iteF ?_
    refine ⟨_,rfl,_,rfl,_,_,_,_,rfl,rfl,hx,at_2,_,_,_,_,rfl,rfl,q1,q2,?_⟩
    refine ⟨_,rfl,(by rfl),_,rfl,?_⟩
    refine iteF ?_
    refine ⟨_,rfl,(by rfl),_,rfl,?_⟩
    refine iteF ?_
    refine ⟨_,rfl,(by rfl),_,rfl,?_⟩
    refine iteT ?_
    refine ⟨_,rfl,_,rfl,r1,r2,_,_,rfl,p3,q3,ok0 _,ok0 _,fun H1 r s1 h1=>?_⟩
    dsimp only at h1
    rw [hv] at h1
    exact k H1 r s1 h1
   ·have hv:¬ at0 us j.toNat=0∧at0 us i.toNat / at0 us j.toNat=a:=by
     change (if at0 us j.toNat=0 then none else some (at0 us i.toNat / at0 us j.toNat))=some a at hv
     by_cases hz:at0 us j.toNat=0
     ·rw [if_pos hz] at hv;cases hv
     ·rw [if_neg hz] at hv;exact ⟨hz,Option.some.inj hv⟩
    refine ⟨_,rfl,_,_,_,_,rfl,rfl,hx,at_0,?_⟩
    refine ⟨_,rfl,(by rfl),_,rfl,?_⟩
    refine iteF ?_
    refine ⟨_,rfl,(by rfl),_,rfl,?_⟩
    refine iteF ?_
    refine ⟨_,rfl,_,rfl,_,_,_,_,rfl,rfl,hx,at_1,_,_,_,_,rfl,rfl,p1,p2,?_⟩
    refine ⟨_,rfl,(by rfl),_,rfl,?_⟩
    refine iteF ?_
    refine ⟨_,rfl,_,rfl,_,_,_,_,rfl,rfl,hx,at_2,_,_,_,_,rfl,rfl,q1,q2,?_⟩
    refine ⟨_,rfl,(by rfl),_,rfl,?_⟩
    refine iteF ?_
    refine ⟨_,rfl,(by rfl),_,rfl,?_⟩
    refine iteF ?_
    refine ⟨_,rfl,(by rfl),_,rfl,?_⟩
    refine iteF ?_
    refine ⟨_,rfl,_,rfl,r1,r2,_,_,rfl,p3,q3,ok0 _,ok0 _,hv.1,fun H1 r s1 h1=>?_⟩
    rw [hv.2] at h1
    exact k H1 r s1 h1
  ·have hlt:i < (us.length:Int):=of_decide_eq_true hf
   have hv:-(at0 us i.toNat)=a:=Option.some.inj hv
   obtain ⟨xs,r1,p1,p2,p3⟩:=hfd.getI hi hlt
   refine ⟨_,rfl,_,_,_,_,rfl,rfl,hx,at_0,?_⟩
   refine ⟨_,rfl,(by rfl),_,rfl,?_⟩
   refine iteF ?_
   refine ⟨_,rfl,(by rfl),_,rfl,?_⟩
   refine iteF ?_
   refine ⟨_,rfl,_,rfl,_,_,_,_,rfl,rfl,hx,at_1,_,_,_,_,rfl,rfl,p1,p2,?_⟩
   refine ⟨_,rfl,(by rfl),_,rfl,?_⟩
   refine iteT ?_
   refine ⟨_,rfl,r1,_,rfl,p3,fun H1 r s1 h1=>?_⟩
   rw [hv] at h1
   exact k H1 r s1 h1
end
end Lc
end
section
namespace Lc
open PySem PySem.Spec PyProof.Rows L2
open VagraLine (Fault)
def FaultAt (K:PySem.W.Frag) (H:Hp) (v:V):Option Fault→Prop
 | none=>v=.non
 | some e=>∃ r,v=.ref r∧SqT K H r [.int (e.line:Int),.int (e.kind:Int)]
theorem FaultAt.same {K:PySem.W.Frag} {H H':Hp} {v:V}:∀ {o:Option Fault},FaultAt K H v o→Same H H'→FaultAt K H' v o
 | none,h,_=>h
 | some _,⟨r,h1,h2⟩,e=>⟨r,h1,Same.seqT e h2⟩
theorem eqv_zero (q:Rat):PyData.eqv (.tuple [.int q.num,.int (q.den:Int)]) (.tuple [.int 0,.int 1])=decide (q=0):=by
 show ((q.num == 0) && (((q.den:Int) == 1) && true))=decide (q=0)
 by_cases h:q=0
 ·subst h;rfl
 ·have hn:¬ q.num=0:=fun e=>h (Rat.num_eq_zero.mp e)
  rw [decide_eq_false h,beq_eq_false_iff_ne.mpr hn]
  rfl
theorem dp_fr {K:PySem.W.Frag} {H:Hp} {r:Addr} {q:Rat} (h:FrAt K H r q):Dp K H (.ref r) (.tuple [.int q.num,.int (q.den:Int)]) :=
 .tup h (.cons (.int _) (.cons (.int _) .nil))
theorem raw_head {raw:List Int} (h:RawOk raw):∃ o rest,raw=o::rest∧((o=5∧∃ i j,raw=[5,i,j]∧0≤i∧0≤j)∨(¬ o=5∧∀ ps us,∃ a,valueQ ps us (lineOf raw)=some a)):=by
 rcases h with ⟨i,rfl,hi⟩ | ⟨n,d,rfl,hd⟩ | ⟨o,i,j,rfl,h2,h5,hi,hj⟩ | ⟨i,rfl,hi⟩
 ·exact ⟨0,_,rfl,.inr ⟨by decide,fun ps us=>⟨_,rfl⟩⟩⟩
 ·exact ⟨1,_,rfl,.inr ⟨by decide,fun ps us=>⟨_,rfl⟩⟩⟩
 ·have ho:o=2∨o=3∨o=4∨o=5:=by omega
  rcases ho with rfl | rfl | rfl | rfl
  ·exact ⟨2,_,rfl,.inr ⟨by decide,fun ps us=>⟨_,rfl⟩⟩⟩
  ·exact ⟨3,_,rfl,.inr ⟨by decide,fun ps us=>⟨_,rfl⟩⟩⟩
  ·exact ⟨4,_,rfl,.inr ⟨by decide,fun ps us=>⟨_,rfl⟩⟩⟩
  ·exact ⟨5,_,rfl,.inl ⟨rfl,i,j,rfl,hi,hj⟩⟩
 ·exact ⟨6,_,rfl,.inr ⟨by decide,fun ps us=>⟨_,rfl⟩⟩⟩
theorem quot_zero {K:PySem.W.Frag} {H:Hp} {σ:L2.St} {x fd z:Addr} {raw:List Int} {ps us:List Rat} {m n:Nat} {Kc:Bool→Hp→Prop} (hm:σ[m]?=some (some (.ref x))) (hn:σ[n]?=some (some (.ref fd))) (hx:LnAt K H x raw) (hfd:FrsAt K H fd us)
  (hz:SqT K H z [.int 0,.int 1]) (ho:RawOk raw) (hf:findsB ps.length us.length raw=true) (hk:Kc (decide (valueQ ps us (lineOf raw)=none)) H) :
  tAnd (tTest (tOp rEq (tOp (rIxT K) (tVar m) (tC (.int 0))) (tC (.int 5)))) (tTest (tOp (rEqD K) (tOp (rIxL K) (tVar n) (tOp (rIxT K) (tVar m) (tC (.int 2)))) (tC (.ref z)))) σ H Kc:=by
 obtain ⟨o,rest,e,h⟩:=raw_head ho
 have hx0:atI (raw.map V.int) 0=some (V.int o):=by
  rw [e]
  exact at_0
 refine ⟨_,hm,_,_,_,_,rfl,rfl,hx,hx0,(by rfl),_,rfl,?_⟩
 rcases h with ⟨h5,i,j,e5,hi,hj⟩ | ⟨h5,hv⟩
 ·subst h5
  rw [decide_eq_true rfl]
  refine iteT ?_
  rw [e5] at hx hf
  have hij:i < (us.length:Int)∧j < (us.length:Int):=by
   have hb:(decide (i < (us.length:Int)) && decide (j < (us.length:Int)))=true:=hf
   simpa using hb
  obtain ⟨ys,r2,q1,q2,q3⟩:=hfd.getI hj hij.2
  refine ⟨_,hn,_,hm,_,_,_,_,rfl,rfl,hx,at_2,_,_,_,_,rfl,rfl,q1,q2,?_⟩
  refine ⟨_,_,dp_fr q3,.tup hz (.cons (.int _) (.cons (.int _) .nil)),rfl,rfl,_,rfl,?_⟩
  rw [eqv_zero]
  have ed:decide (valueQ ps us (lineOf raw)=none)=decide (at0 us j.toNat=0):=by
   rw [e5]
   show decide ((if at0 us j.toNat=0 then none else some (at0 us i.toNat / at0 us j.toNat))=none)=_
   by_cases hz:at0 us j.toNat=0
   ·rw [if_pos hz,decide_eq_true rfl,decide_eq_true hz]
   ·rw [if_neg hz,decide_eq_false hz,decide_eq_false (by intro q;cases q)]
  rw [ed] at hk
  exact hk
 ·rw [decide_eq_false (show ¬ V.int o=V.int 5 from fun q=>h5 (by injection q))]
  refine iteF ?_
  obtain ⟨a,ha⟩:=hv ps us
  rw [ha,decide_eq_false (by intro q;cases q)] at hk
  exact hk
section
variable {P:Program} {w:World} {K:PySem.W.Frag} {mg:Str→Option Value} {base:Heap}
def spRun (K:PySem.W.Frag):Sp:=fun vs H Q _=>∃ (ls pt:Addr) (c:List (List Int)) (ps:List Rat),vs=[.ref ls,.ref pt]∧LnsAt K H ls c∧FrsAt K H pt ps∧(∀ r∈c,RawOk r)∧findsAll ps.length 0 c=true∧c.length≤100000 ∧
 ∀ H' t fl fv,Same H H'→H fl=none→SqT K H' t [.ref fl,fv]→FrsNew K H' fl (runQ ps [] (c.map lineOf)).1→FaultAt K H' fv (runQ ps [] (c.map lineOf)).2→Q (.ref t) H'
theorem findsAll_get (n:Nat):∀ (c:List (List Int)) (p:Nat),findsAll n p c=true→∀ i raw,c[i]?=some raw→findsB n (p+i) raw=true
 | [],_,_,i,raw,h=>by simp at h
 | r::c,p,hf,0,raw,h=>by
  simp at h
  subst h
  unfold findsAll at hf
  exact (Bool.and_eq_true_iff.mp hf).1
 | r::c,p,hf,i+1,raw,h=>by
  unfold findsAll at hf
  have:=findsAll_get n c (p+1) (Bool.and_eq_true_iff.mp hf).2 i raw (by simpa using h)
  rw [show p+(i+1)=p+1+i by omega]
  exact this
theorem ok_run_lines {z:Addr} (D:DefAt K mg "run_lines" s_run_lines) (N:Kinds mg) (c_ZERO:Const mg "ZERO" (.ref z)) (hz:∀ H,SqT K H z [.int 0,.int 1]) (c_DIVISOR_IS_ZERO:Const mg "DIVISOR_IS_ZERO" (.int 1)) (c_VALUE_TOO_HEAVY:Const mg "VALUE_TOO_HEAVY" (.int 2))
  (c_MOST_WEIGHT_run:Const mg "MOST_WEIGHT_run" (.int 200)) (n_enumerate:mg "enumerate"=none) (C_line_value:Callee P w K mg base "line_value" ["line","point","found"] 44 (spVal K)) (C_weight:Callee P w K mg base "weight" ["x"] 41 (spWeight K)) :
  Callee P w K mg base "run_lines" ["lines","point"] 45 (spRun K):=by
 have c_QUOTIENT_lines:=N.c_QUOTIENT_lines
 refine mkC (k:=44) D sc_run_lines (fun _ _ _ _ _ _ us hl=>match us,hl with | [_,_],_=>rfl) (fun vs H Q E h=>?_) (fun f cdv A outer s H vs Q E hr h=>?_)
 ·obtain ⟨ls,pt,c,ps,rfl,_⟩:=h
  rfl
 ·obtain ⟨ls,pt,c,ps,rfl,hls,hpt,hok,hfa,hlen,k⟩:=h
  obtain ⟨lrs,hl,hlp⟩:=id hls
  refine ⟨_,(pss_cons (ps_set (i:=2) sc_run_lines.nd rfl (by first|exact .inl rfl|exact .inr rfl) (pe_lst pa_nil))
   (pss_cons (ps_for PassesOwn.never rfl (pi_enum rfl n_enumerate (pa_cons (pv 0) pa_nil)) (pg_tup rfl (pgs_cons (pg_name (i:=3) sc_run_lines.nd rfl (by first|exact .inl rfl|exact .inr rfl)) (pgs_cons (pg_name (i:=4) sc_run_lines.nd rfl (by first|exact .inl rfl|exact .inr rfl)) pgs_nil))) (pss_cons (ps_if (PW.pt (pw_and (pt_cmpR op_eq (pe_ix ix_tup (pv 4) pe_int (fun _ _=>rfl)) (pe_const c_QUOTIENT_lines) (nomark _)) (pw_and1 (pt_cmpR (op_eqD hr.units) (pe_ix ix_list (pv 2) (pe_ix ix_tup (pv 4) pe_int (fun _ _=>rfl)) (fun _ _=>rfl)) (pe_const c_ZERO) (nomark _))))) (pss_one (ps_ret (pe_tup (pa_cons (pv 2) (pa_cons (pe_tup (pa_cons (pv 3) (pa_cons (pe_const c_DIVISOR_IS_ZERO) pa_nil))) pa_nil))))) pss_nil)
   (pss_cons (ps_set (i:=5) sc_run_lines.nd rfl (by first|exact .inl rfl|exact .inr rfl) (pe_callC C_line_value hr (pa_cons (pv 4) (pa_cons (pv 1) (pa_cons (pv 2) pa_nil)))))
   (pss_cons (ps_if (pt_cmpR op_gt (pe_callC C_weight hr (pa_cons (pv 5) pa_nil)) (pe_const c_MOST_WEIGHT_run) (nomark _)) (pss_one (ps_ret (pe_tup (pa_cons (pv 2) (pa_cons (pe_tup (pa_cons (pv 3) (pa_cons (pe_const c_VALUE_TOO_HEAVY) pa_nil))) pa_nil))))) pss_nil)
   (pss_one (ps_expr (pe_bm PySem.F.plainAttrs_list PySem.F.slot_list_append PySem.F.type_list_append mt_append (pv 2) (pa_cons (pv 5) pa_nil))))))))
   (pss_one (ps_ret (pe_tup (pa_cons (pv 2) (pa_cons pe_non pa_nil))))))),?_⟩
  refine ⟨Nat.zero_le _,fun fl hfl=>?_⟩
  have sl:Same H (upd H fl (.lst [])):=same_upd hfl
  refine ⟨_,rfl,ls,_,rfl,sl.seq hl,?_⟩
  refine for_enum (K:=K) (a:=ls) (xs:=lrs.map V.ref) (fun i σ H1=>∃ (us:List Rat) (rs:List Addr) (u v y:Option V),σ=[some (.ref ls),some (.ref pt),some (.ref fl),u,v,y]∧Same H H1 ∧
   H1 fl=some (.lst (rs.map V.ref))∧Paired (FrAt K H1) rs us∧us.length=i∧(∀ q∈us,wt q≤200)∧runQ ps [] (c.map lineOf)=runQ ps us ((c.drop i).map lineOf)) ⟨[],[],none,none,none,rfl,sl,upd_same,.nil,rfl,fun q h=>(nomatch h),rfl⟩ (fun i σ H1 _ ⟨_,_,_,_,_,_,s1,_⟩=>s1.seq hl) ?_ ?_
  ·rintro i x σ H1 T hi ⟨us,rs,u,v,y,rfl,s1,hl1,hp,hus,hwt,hrun⟩ hT
   obtain ⟨r,hr',rfl⟩:∃ r,lrs[i]?=some r∧x=V.ref r:=by
    rw [List.getElem?_map] at hi
    cases e:lrs[i]? with
    | none=>rw [e] at hi;cases hi
    | some r=>rw [e] at hi;exact ⟨r,rfl,(Option.some.inj hi).symm⟩
   have hic:i < c.length:=by
    have h1:=(List.getElem?_eq_some_iff.mp hr').1
    rw [plen hlp] at h1
    exact h1
   obtain ⟨raw,hraw⟩:∃ raw,c[i]?=some raw:=⟨_,List.getElem?_eq_getElem hic⟩
   obtain ⟨r2,h2,h3⟩:=pget hlp hraw
   rw [hr'] at h2
   cases h2
   have s2:Same H1 (upd H1 T (.tup [.int (i:Nat),.ref r])):=same_upd hT
   have hdrop:c.drop i=raw::c.drop (i+1):=by
    rw [List.drop_eq_getElem_cons hic,Option.some.inj ((List.getElem?_eq_getElem hic).symm.trans hraw)]
   have hraw0:RawOk raw:=hok raw (List.mem_of_getElem? hraw)
   have hfb:findsB ps.length us.length raw=true:=by
    have:=findsAll_get ps.length c 0 hfa i raw hraw
    rw [hus,← Nat.zero_add i]
    exact this
   refine ⟨T,_,rfl,SqT.of upd_same,rfl,_,_,rfl,_,_,rfl,rfl,?_⟩
   have hl2:=s2 fl _ hl1
   have hp2:Paired (FrAt K (upd H1 T (.tup [.int (i:Nat),.ref r]))) rs us:=Paired.mapP hp fun _ _ q=>Same.seqT s2 q
   have hx2:=Same.seqT (s1.trans s2) h3
   generalize upd H1 T (.tup [.int (i:Nat),.ref r])=H2 at s2 hl2 hp2 hx2 ⊢
   have s02:=s1.trans s2
   have hfn2:FrsNew K H2 fl us:=⟨rs,hl2,hp2⟩
   have hfd2:FrsAt K H2 fl us:=hfn2.at
   refine quot_zero (ps:=ps) (m:=4) (n:=2) rfl rfl hx2 hfd2 (hz H2) hraw0 hfb ?_
   have hstep:runQ ps us ((c.drop i).map lineOf)=match valueQ ps us (lineOf raw) with
     | none=>(us,some ⟨us.length,1⟩)
     | some a=>if 200 < wt a then (us,some ⟨us.length,2⟩) else runQ ps (us++[a]) ((c.drop (i+1)).map lineOf):=by
    rw [hdrop]
    rfl
   cases hv:valueQ ps us (lineOf raw) with
   | none =>
    rw [decide_eq_true rfl]
    refine iteT ?_
    rw [hv] at hstep
    refine ⟨_,rfl,_,rfl,(by show 2≤sizeLine;decide),fun p1 hp1=>?_⟩
    refine ⟨(by show 2≤sizeLine;decide),fun p2 hp2'=>?_⟩
    have s3:Same H2 (upd H2 p1 (.tup [.int (i:Int),.int 1])):=same_upd hp1
    refine k _ p2 fl (.ref p1) ((s02.trans s3).trans (same_upd hp2')) hfl (SqT.of upd_same) ?_ ?_
    ·rw [hrun,hstep]
     exact hfn2.same (s3.trans (same_upd hp2'))
    ·rw [hrun,hstep]
     refine ⟨p1,rfl,?_⟩
     show SqT K _ p1 [.int (us.length:Int),.int 1]
     rw [hus]
     exact Same.seqT (same_upd hp2') (SqT.of upd_same)
   | some a =>
    rw [decide_eq_false (by intro q;cases q)]
    refine iteF ?_
    rw [hv] at hstep
    refine ⟨_,rfl,_,rfl,_,rfl,r,pt,fl,raw,ps,us,a,rfl,hx2,hpt.same s02,hfd2,hraw0,hfb,fun q hq=>(weight_small (hwt q hq)).mono (by decide),hv,fun H3 r3 s3 h3'=>?_⟩
    refine ⟨_,rfl,r3,a,rfl,h3',_,_,rfl,rfl,_,rfl,?_⟩
    have s03:=s02.trans s3
    by_cases hw:200 < wt a
    ·rw [decide_eq_true (show (200:Int) < (wt a:Int) by omega)]
     refine iteT ?_
     change _=(if 200 < wt a then _ else _) at hstep
     rw [if_pos hw] at hstep
     refine ⟨_,rfl,_,rfl,(by show 2≤sizeLine;decide),fun p1 hp1=>?_⟩
     refine ⟨(by show 2≤sizeLine;decide),fun p2 hp2'=>?_⟩
     have s4:Same H3 (upd H3 p1 (.tup [.int (i:Int),.int 2])):=same_upd hp1
     refine k _ p2 fl (.ref p1) ((s03.trans s4).trans (same_upd hp2')) hfl (SqT.of upd_same) ?_ ?_
     ·rw [hrun,hstep]
      exact hfn2.same ((s3.trans s4).trans (same_upd hp2'))
     ·rw [hrun,hstep]
      refine ⟨p1,rfl,?_⟩
      show SqT K _ p1 [.int (us.length:Int),.int 2]
      rw [hus]
      exact Same.seqT (same_upd hp2') (SqT.of upd_same)
    ·rw [decide_eq_false (show ¬ (200:Int) < (wt a:Int) by omega)]
     refine iteF ?_
     change _=(if 200 < wt a then _ else _) at hstep
     rw [if_neg hw] at hstep
     have hl3:=s3 fl _ hl2
     refine ⟨_,rfl,.inl ⟨rfl,_,SqL.of hl3⟩,_,rfl,fl,_,_,rfl,rfl,hl3,?_,?_⟩
     ·rw [List.length_map,plen hp,sizeLine_eq]
      omega
     ·refine ⟨us++[a],rs++[r3],_,_,_,rfl,same_put hfl s03,?_,?_,?_,?_,?_⟩
      ·rw [upd_same,List.map_append]
       rfl
      ·exact psnoc (Paired.mapP hp2 fun _ _ q=>SqT.put (Same.seqT s3 q) hl3) (SqT.put h3' hl3)
      ·rw [List.length_append,List.length_cons,List.length_nil]
       omega
      ·intro q hq
       rcases List.mem_append.mp hq with hq | hq
       ·exact hwt q hq
       ·have:q=a:=by simpa using hq
        subst this
        omega
      ·rw [hrun,hstep]
  ·rintro σ H1 ⟨us,rs,u,v,y,rfl,s1,hl1,hp,hus,hwt,hrun⟩
   rw [List.length_map,plen hlp,List.drop_length] at hrun
   refine ⟨_,rfl,(by show 2≤sizeLine;decide),fun p1 hp1=>?_⟩
   refine k _ p1 fl .non (s1.trans (same_upd hp1)) hfl (SqT.of upd_same) ?_ ?_
   ·rw [hrun]
    exact FrsNew.same ⟨rs,hl1,hp⟩ (same_upd hp1)
   ·rw [hrun]
    rfl
end
end Lc
end
section
namespace Lc
open PySem PySem.Spec PyProof.Rows L2
def PrAt (K:PySem.W.Frag) (H:Hp) (p:Addr) (x:Rat × Rat):Prop:=∃ u v,SqT K H p [.ref u,.ref v]∧FrAt K H u x.1∧FrAt K H v x.2
def PrsAt (K:PySem.W.Frag) (H:Hp) (a:Addr) (l:List (Rat × Rat)):Prop:=∃ ps:List Addr,SqL K H a (ps.map V.ref)∧Paired (PrAt K H) ps l
theorem PrAt.same {K:PySem.W.Frag} {H H':Hp} {p:Addr} {x:Rat × Rat} (h:PrAt K H p x) (e:Same H H'):PrAt K H' p x:=by
 obtain ⟨u,v,h1,h2,h3⟩:=h
 exact ⟨u,v,Same.seqT e h1,h2.same e,h3.same e⟩
theorem PrAt.put {K:PySem.W.Frag} {H:Hp} {p l:Addr} {x:Rat × Rat} {ys zs:List V} (h:PrAt K H p x) (hl:H l=some (.lst ys)):PrAt K (upd H l (.lst zs)) p x:=by
 obtain ⟨u,v,h1,h2,h3⟩:=h
 exact ⟨u,v,SqT.put h1 hl,SqT.put h2 hl,SqT.put h3 hl⟩
theorem ppick {α:Type} {F:Addr→α→Prop} {rs:List Addr} {l:List α} {i:Nat} {x:V} (hp:Paired F rs l) (hi:(rs.map V.ref)[i]?=some x):∃ r q,x=V.ref r∧l[i]?=some q∧F r q∧i < l.length:=by
 rw [List.getElem?_map] at hi
 cases e:rs[i]? with
 | none=>rw [e] at hi;cases hi
 | some r =>
  rw [e] at hi
  have h1:=(List.getElem?_eq_some_iff.mp e).1
  rw [plen hp] at h1
  have hq:l[i]?=some l[i]:=List.getElem?_eq_getElem h1
  obtain ⟨r2,h2,h3⟩:=pget hp hq
  rw [e] at h2
  cases h2
  exact ⟨r,l[i],(Option.some.inj hi).symm,hq,h3,h1⟩
abbrev Sm2 (l:List (Rat × Rat)):Prop:=∀ x∈l,Small 300000 x.1∧Small 300000 x.2
theorem prods_small {l:List (Rat × Rat)} (h:Sm2 l) (hl:l.length≤9):Small 6000000 (sumQ (prodsQ l)):=by
 have a:=sumQ_small (m:=600000) (prodsQ l) fun y hy=>by
  obtain ⟨x,hx,rfl⟩:=List.mem_map.mp hy
  exact ((h x hx).1.mul (h x hx).2).mono (by decide)
 refine a.mono ?_
 unfold prodsQ
 rw [List.length_map]
 have:(600000+1)*l.length≤(600000+1)*9:=Nat.mul_le_mul_left _ hl
 omega
theorem take_next {α:Type} {l:List α} {i:Nat} {q:α} (h:l[i]?=some q):l.take (i+1)=l.take i++[q]:=by
 rw [List.take_add_one,h]
 rfl
section
variable {P:Program} {w:World} {K:PySem.W.Frag} {mg:Str→Option Value} {base:Heap} {z:Addr}
def spSum (K:PySem.W.Frag):Sp:=fun vs H Q _=>∃ (a:Addr) (l:List (Rat × Rat)),vs=[.ref a]∧PrsAt K H a l∧Sm2 l∧l.length≤9∧∀ H' r,Same H H'→FrAt K H' r (sumQ (prodsQ l))→Q (.ref r) H'
theorem ok_sum_by_steps (D:DefAt K mg "sum_by_steps" s_sum_by_steps) (c_ZERO:Const mg "ZERO" (.ref z)) (hz:∀ H,SqT K H z [.int 0,.int 1]) (C_total:Callee P w K mg base "total" ["x","y"] 42 (sp2 K (·+·))) (C_product:Callee P w K mg base "product" ["x","y"] 42 (sp2 K (·*·))) :
  Callee P w K mg base "sum_by_steps" ["pairs"] 43 (spSum K):=by
 refine mkC (k:=42) D sc_sum_by_steps (fun _ _ _ _ _ _ us hl=>match us,hl with | [_],_=>rfl) (fun vs H Q E h=>?_) (fun f cdv A outer s H vs Q E hr h=>?_)
 ·obtain ⟨a,l,rfl,_⟩:=h
  rfl
 ·obtain ⟨a,l,rfl,ha,hs,hlen,k⟩:=h
  obtain ⟨rs,hl,hp⟩:=id ha
  refine ⟨_,(pss_cons (ps_set (i:=1) sc_sum_by_steps.nd rfl (by first|exact .inl rfl|exact .inr rfl) (pe_const c_ZERO))
   (pss_cons (ps_for PassesOwn.never rfl (pi_list (pv 0)) (pg_tup rfl (pgs_cons (pg_name (i:=2) sc_sum_by_steps.nd rfl (by first|exact .inl rfl|exact .inr rfl)) (pgs_cons (pg_name (i:=3) sc_sum_by_steps.nd rfl (by first|exact .inl rfl|exact .inr rfl)) pgs_nil))) (pss_one (ps_set (i:=1) sc_sum_by_steps.nd rfl (by first|exact .inl rfl|exact .inr rfl) (pe_callC C_total hr (pa_cons (pv 1) (pa_cons (pe_callC C_product hr (pa_cons (pv 2) (pa_cons (pv 3) pa_nil))) pa_nil))))))
   (pss_one (ps_ret (pv 1))))),?_⟩
  refine ⟨_,rfl,a,rfl,⟨_,hl⟩,?_⟩
  refine for_list (K:=K) (a:=a) (xs:=rs.map V.ref) (fun i σ H1=>∃ (r:Addr) (u v:Option V),σ=[some (.ref a),some (.ref r),u,v]∧Same H H1∧FrAt K H1 r (sumQ (prodsQ (l.take i)))) ⟨z,none,none,rfl,Same.refl H,hz H⟩ (fun i σ H1 _ ⟨_,_,_,_,s1,_⟩=>s1.seq hl) ?_ ?_
  ·rintro i x σ H1 hi ⟨r,u,v,rfl,s1,hr1⟩
   obtain ⟨p,q,rfl,hq,hpq,hil⟩:=ppick hp hi
   obtain ⟨pu,pv',t1,t2,t3⟩:=hpq.same s1
   obtain ⟨sa,sb⟩:=hs q (List.mem_of_getElem? hq)
   refine ⟨p,_,rfl,t1,rfl,_,_,rfl,_,_,rfl,rfl,?_⟩
   refine ⟨_,rfl,_,rfl,_,rfl,pu,pv',q.1,q.2,rfl,t2,t3,sa.mono (by decide),sb.mono (by decide),fun H2 r2 s2 h2=>?_⟩
   have hsm:Small 6000000 (sumQ (prodsQ (l.take i))):=prods_small (fun x hx=>hs x (List.mem_of_mem_take hx)) (by rw [List.length_take];omega)
   refine ⟨r,r2,_,_,rfl,hr1.same s2,h2,hsm.mono (by decide),(sa.mul sb).mono (by decide),fun H3 r3 s3 h3=>?_⟩
   refine ⟨r3,_,_,rfl,(s1.trans s2).trans s3,?_⟩
   rw [take_next hq]
   unfold prodsQ
   rw [List.map_append,List.map_cons,List.map_nil,sumQ_snoc]
   exact h3
  ·rintro σ H1 ⟨r,u,v,rfl,s1,hr1⟩
   refine ⟨_,rfl,?_⟩
   rw [List.length_map,plen hp,List.take_length] at hr1
   exact k H1 r s1 hr1
theorem ok_sum_at_once (D:DefAt K mg "sum_at_once" s_sum_at_once) (hP:P.given.tree=none) (C_common_divisor:Callee P w K mg base "common_divisor" ["a","b"] 41 spGcd) (C_in_lowest_terms:Callee P w K mg base "in_lowest_terms" ["upper","lower"] 42 (spLow K)) :
  Callee P w K mg base "sum_at_once" ["pairs"] 43 (spSum K):=by
 refine mkC (k:=42) D sc_sum_at_once (fun _ _ _ _ _ _ us hl=>match us,hl with | [_],_=>rfl) (fun vs H Q E h=>?_) (fun f cdv A outer s H vs Q E hr h=>?_)
 ·obtain ⟨a,l,rfl,_⟩:=h
  rfl
 ·obtain ⟨a,l,rfl,ha,hs,hlen,k⟩:=h
  obtain ⟨rs,hl,hp⟩:=id ha
  refine ⟨_,(pss_cons (ps_set (i:=1) sc_sum_at_once.nd rfl (by first|exact .inl rfl|exact .inr rfl) pe_int)
   (pss_cons (ps_set (i:=2) sc_sum_at_once.nd rfl (by first|exact .inl rfl|exact .inr rfl) pe_int)
   (pss_cons (ps_for PassesOwn.never rfl (pi_list (pv 0)) (pg_tup rfl (pgs_cons (pg_name (i:=3) sc_sum_at_once.nd rfl (by first|exact .inl rfl|exact .inr rfl)) (pgs_cons (pg_name (i:=4) sc_sum_at_once.nd rfl (by first|exact .inl rfl|exact .inr rfl)) pgs_nil))) (pss_cons (ps_set (i:=5) sc_sum_at_once.nd rfl (by first|exact .inl rfl|exact .inr rfl) (pe_op op_mulB (pe_ix ix_tup (pv 3) pe_int (fun _ _=>rfl)) (pe_ix ix_tup (pv 4) pe_int (fun _ _=>rfl))))
   (pss_cons (ps_set (i:=6) sc_sum_at_once.nd rfl (by first|exact .inl rfl|exact .inr rfl) (pe_callC C_common_divisor hr (pa_cons (pv 2) (pa_cons (pv 5) pa_nil))))
   (pss_cons (ps_set (i:=1) sc_sum_at_once.nd rfl (by first|exact .inl rfl|exact .inr rfl) (pe_op op_add (pe_op op_mulB (pv 1) (pe_op (op_fdivP (dep hr) hP rfl rfl rfl) (pv 5) (pv 6))) (pe_op op_mulB (pe_op op_mulB (pe_ix ix_tup (pv 3) pe_int (fun _ _=>rfl)) (pe_ix ix_tup (pv 4) pe_int (fun _ _=>rfl))) (pe_op (op_fdivP (dep hr) hP rfl rfl rfl) (pv 2) (pv 6)))))
   (pss_one (ps_set (i:=2) sc_sum_at_once.nd rfl (by first|exact .inl rfl|exact .inr rfl) (pe_op op_mulB (pv 2) (pe_op (op_fdivP (dep hr) hP rfl rfl rfl) (pv 5) (pv 6)))))))))
   (pss_one (ps_ret (pe_callC C_in_lowest_terms hr (pa_cons (pv 1) (pa_cons (pv 2) pa_nil)))))))),?_⟩
  refine ⟨_,rfl,a,rfl,⟨_,hl⟩,?_⟩
  refine for_list (K:=K) (a:=a) (xs:=rs.map V.ref) (fun i σ H1=>∃ (up:Int) (lo:Nat) (u v y w':Option V),σ=[some (.ref a),some (.int up),some (.int lo),u,v,y,w']∧Same H H1∧0 < lo∧(up:Rat)=sumQ (prodsQ (l.take i))*((lo:Nat):Rat)∧up.natAbs < 2 ^ (600001*i+1)∧lo < 2 ^ (600001*i+1))
   ⟨0,1,none,none,none,none,rfl,Same.refl H,by decide,?_,by decide,by decide⟩ (fun i σ H1 _ ⟨_,_,_,_,_,_,_,s1,_⟩=>s1.seq hl) ?_ ?_
  ·show ((0:Int):Rat)=sumQ []*_
   rw [sumQ_nil,Rat.zero_mul]
   rfl
  ·rintro i x σ H1 hi ⟨up,lo,u,v,y,w',rfl,s1,hlo,hq1,hb1,hb2⟩
   obtain ⟨p,q,rfl,hq,hpq,hil⟩:=ppick hp hi
   obtain ⟨pu,pv',t1,t2,t3⟩:=hpq.same s1
   obtain ⟨sa,sb⟩:=hs q (List.mem_of_getElem? hq)
   have hi9:i < 9:=by omega
   refine ⟨p,_,rfl,t1,rfl,_,_,rfl,_,_,rfl,rfl,?_⟩
   refine ⟨_,rfl,_,_,_,_,rfl,rfl,t2,rfl,_,rfl,_,_,_,_,rfl,rfl,t3,rfl,_,_,rfl,rfl,mulOk (natAbs_den sa) (natAbs_den sb) (by decide),?_⟩
   have eo:((q.1.den:Nat):Int)*((q.2.den:Nat):Int)=((q.1.den*q.2.den:Nat):Int):=(Int.natCast_mul _ _).symm
   dsimp only
   rw [eo]
   refine ⟨_,rfl,_,rfl,_,_,rfl,?_⟩
   rw [Int.natAbs_natCast,Int.natAbs_natCast]
   have hg:0 < Nat.gcd lo (q.1.den*q.2.den):=Nat.gcd_pos_of_pos_left _ hlo
   have e1:((q.1.den*q.2.den:Nat):Int) / ((Nat.gcd lo (q.1.den*q.2.den):Nat):Int)=((q.1.den*q.2.den / Nat.gcd lo (q.1.den*q.2.den):Nat):Int):=by rw [Int.natCast_ediv]
   have e2:((lo:Nat):Int) / ((Nat.gcd lo (q.1.den*q.2.den):Nat):Int)=((lo / Nat.gcd lo (q.1.den*q.2.den):Nat):Int):=by rw [Int.natCast_ediv]
   have lo1:q.1.den*q.2.den / Nat.gcd lo (q.1.den*q.2.den) < 2 ^ 600000:=Nat.lt_of_le_of_lt (Nat.div_le_self _ _) (lt_pow_mono (mul_lt_pow sa.2 sb.2) (by decide))
   have lo2:lo / Nat.gcd lo (q.1.den*q.2.den) < 2 ^ (600001*i+1):=Nat.lt_of_le_of_lt (Nat.div_le_self _ _) hb2
   refine ⟨_,rfl,_,rfl,_,rfl,_,_,rfl,rfl,(by show (0:Int) < _;omega),?_⟩
   dsimp only
   rw [e1]
   refine ⟨_,_,rfl,rfl,mulOk hb1 (by rw [Int.natAbs_natCast];exact lo1) (by omega),?_⟩
   refine ⟨_,rfl,_,_,_,_,rfl,rfl,t2,rfl,_,rfl,_,_,_,_,rfl,rfl,t3,rfl,_,_,rfl,rfl,mulOk sa.1 sb.1 (by decide),?_⟩
   refine ⟨_,rfl,_,rfl,_,_,rfl,rfl,(by show (0:Int) < _;omega),?_⟩
   dsimp only
   rw [e2]
   refine ⟨_,_,rfl,rfl,mulOk (natAbs_mul_lt sa.1 sb.1) (by rw [Int.natAbs_natCast];exact lo2) (by omega),?_⟩
   refine ⟨_,_,rfl,rfl,?_⟩
   refine ⟨_,rfl,_,rfl,_,rfl,_,_,rfl,rfl,(by show (0:Int) < _;omega),?_⟩
   dsimp only
   rw [e1]
   refine ⟨_,_,rfl,rfl,mulOk (by rw [Int.natAbs_natCast];exact hb2) (by rw [Int.natAbs_natCast];exact lo1) (by omega),?_⟩
   have hst:=once_step hlo hq1 q.1 q.2
   have hsm:=once_small (m:=300000) hb1 hb2 sa sb
   rw [show 600001*i+1+(2*300000+1)=600001*(i+1)+1 by omega] at hsm
   refine ⟨_,lo*(q.1.den*q.2.den / Nat.gcd lo (q.1.den*q.2.den)),some (.ref pu),some (.ref pv'),some (.int ((q.1.den*q.2.den:Nat):Int)),some (.int ((Nat.gcd lo (q.1.den*q.2.den):Nat):Int)),?_,s1,?_,?_,hsm.1,hsm.2⟩
   ·dsimp only
    rw [← Int.natCast_mul lo]
    rfl
   ·refine Nat.mul_pos hlo (Nat.div_pos (Nat.le_of_dvd (Nat.mul_pos q.1.den_pos q.2.den_pos) (Nat.gcd_dvd_right _ _)) hg)
   ·rw [take_next hq]
    unfold prodsQ
    rw [List.map_append,List.map_cons,List.map_nil,sumQ_snoc]
    exact hst
  ·rintro σ H1 ⟨up,lo,u,v,y,w',rfl,s1,hlo,hq1,hb1,hb2⟩
   rw [List.length_map,plen hp,List.take_length] at hq1
   refine ⟨_,rfl,_,rfl,up,(lo:Int),rfl,by omega,fun H2 r s2 h2=>?_⟩
   rw [Int.toNat_natCast,once_end hlo hq1] at h2
   exact k H2 r (s1.trans s2) h2
theorem isz (q:Rat):(q.num == 0 && ((q.den:Nat):Int) == 1)=decide (q=0):=by
 by_cases h:q=0
 ·subst h;rfl
 ·have hn:¬ q.num=0:=fun e=>h (Rat.num_eq_zero.mp e)
  rw [decide_eq_false h,beq_eq_false_iff_ne.mpr hn]
  rfl
theorem filter_next {α:Type} {l:List α} {i:Nat} {q:α} {f:α→Bool} (h:l[i]?=some q):(l.take (i+1)).filter f=(l.take i).filter f++(if f q=true then [q] else []):=by
 rw [take_next h,List.filter_append]
 congr 1
 rw [List.filter_cons]
 by_cases e:f q=true
 ·rw [if_pos e,if_pos e];rfl
 ·rw [if_neg e,if_neg e];rfl
theorem ok_sum_of_products (D:DefAt K mg "sum_of_products" s_sum_of_products) (n_len:mg "len"=none) (c_ZERO:Const mg "ZERO" (.ref z)) (hz:∀ H,SqT K H z [.int 0,.int 1]) (C_sum_by_steps:Callee P w K mg base "sum_by_steps" ["pairs"] 43 (spSum K)) (C_sum_at_once:Callee P w K mg base "sum_at_once" ["pairs"] 43 (spSum K)) :
  Callee P w K mg base "sum_of_products" ["pairs"] 44 (spSum K):=by
 refine mkC (k:=43) D sc_sum_of_products (fun _ _ _ _ _ _ us hl=>match us,hl with | [_],_=>rfl) (fun vs H Q E h=>?_) (fun f cdv A outer s H vs Q E hr h=>?_)
 ·obtain ⟨a,l,rfl,_⟩:=h
  rfl
 ·obtain ⟨a,l,rfl,ha,hs,hlen,k⟩:=h
  obtain ⟨rs,hl,hp⟩:=id ha
  refine ⟨_,(pss_cons (ps_setLc (i:=1) rfl sc_sum_of_products.nd rfl rfl (sw_true rfl rfl rfl rfl) (pi_list (pv 0)) (show BlkOk ["pairs","there","pair"] (defScope s_sum_of_products) _ [("pair",2)] from blkOk_by (by decide +kernel)) (fun _ _ _ _ _=>(pg_name (i:=2) sc_sum_of_products.nd rfl (by first|exact .inl rfl|exact .inr rfl))) (fun _ _ _ _ _=>(pts_one (pt_cmpR (show OpR _ _ (rNotInP K) from op_notInP hr.units) (pe_const c_ZERO) (pv 2) (by with_unfolding_all rfl)))) (fun _ _ _ _ _=>(pv 2)))
   (pss_cons (ps_if (pt_cmpR op_lt (pe_callB call_len_seq (by rfl) n_len bt_len (pa_cons (pv 1) pa_nil)) pe_int (nomark _)) (pss_one (ps_ret (pe_callC C_sum_by_steps hr (pa_cons (pv 1) pa_nil)))) pss_nil)
   (pss_one (ps_ret (pe_callC C_sum_at_once hr (pa_cons (pv 1) pa_nil)))))),?_⟩
  refine ⟨_,rfl,a,rfl,⟨_,hl⟩,fun d hd=>?_⟩
  refine lc_list (K:=K) (a:=a) (xs:=rs.map V.ref) (fun i H1=>Same H H1∧∃ ps:List Addr,H1 d=some (.lst (ps.map V.ref))∧Paired (PrAt K H1) ps ((l.take i).filter bothB)) ⟨same_upd hd,[],upd_same,.nil⟩ (fun i H1 _ h1=>h1.1.seq hl) ?_ ?_
  ·rintro i x H1 hi ⟨s1,ps,hd1,hp1⟩
   obtain ⟨p,q,rfl,hq,hpq,hil⟩:=ppick hp hi
   obtain ⟨pu,pv',t1,t2,t3⟩:=hpq.same s1
   refine ⟨rfl,?_⟩
   refine ⟨_,rfl,z,p,pu,pv',0,1,q.1.num,_,q.2.num,_,rfl,rfl,hz H1,t1,t2,t3,_,rfl,?_⟩
   rw [isz,isz]
   by_cases hb:bothB q=true
   ·have hb':(!(decide (q.1=0) || decide (q.2=0)))=true:=hb
    rw [hb']
    refine iteT ⟨_,rfl,ps.map V.ref,hd1,?_,same_put hd s1,ps++[p],?_,?_⟩
    ·rw [List.length_map,plen hp1,sizeLine_eq]
     have:=List.length_filter_le bothB (l.take i)
     rw [List.length_take] at this
     omega
    ·rw [upd_same,List.map_append]
     rfl
    ·rw [filter_next hq,if_pos hb]
     exact psnoc (Paired.mapP hp1 fun _ _ q=>PrAt.put q hd1) (PrAt.put (hpq.same s1) hd1)
   ·have hb':(!(decide (q.1=0) || decide (q.2=0)))=false:=by
     cases e:(!(decide (q.1=0) || decide (q.2=0))) with
     | false=>rfl
     | true=>exact absurd e hb
    rw [hb']
    refine iteF ⟨s1,ps,hd1,?_⟩
    rw [filter_next hq,if_neg hb,List.append_nil]
    exact hp1
  ·rintro H1 ⟨s1,ps,hd1,hp1⟩
   rw [List.length_map,plen hp,List.take_length] at hp1
   have hf:PrsAt K H1 d (l.filter bothB):=⟨ps,SqL.of hd1,hp1⟩
   have hs':Sm2 (l.filter bothB):=fun x hx=>hs x (List.mem_filter.mp hx).1
   have hl':(l.filter bothB).length≤9:=Nat.le_trans (List.length_filter_le _ _) hlen
   rw [← sumQ_filter] at k
   refine ⟨_,rfl,d,_,rfl,.inl (SqL.of hd1),_,_,rfl,rfl,_,rfl,?_⟩
   rw [List.length_map,plen hp1]
   by_cases h3:(l.filter bothB).length < 3
   ·rw [decide_eq_true (show (((l.filter bothB).length:Nat):Int) < 3 by omega)]
    refine iteT ⟨_,rfl,d,_,rfl,hf,hs',hl',fun H2 r s2 h2=>k H2 r (s1.trans s2) h2⟩
   ·rw [decide_eq_false (show ¬ (((l.filter bothB).length:Nat):Int) < 3 by omega)]
    refine iteF ⟨_,rfl,d,_,rfl,hf,hs',hl',fun H2 r s2 h2=>k H2 r (s1.trans s2) h2⟩
end
end Lc
end
section
namespace L2
open PySem PySem.Spec PyProof.Rows
theorem lc_zip {K:PySem.W.Frag} {a b:Addr} {xs ys:List V} {g:TG} {tt:TT} {te:TE} {vs:List Nat} {σ:St} {H1:Hp} {D:Addr} {Qd:Hp→Prop} (hle:xs.length=ys.length) (Pv:Nat→Hp→Prop) (h0:Pv 0 (upd H1 D (.lst []))) (hl:∀ i H,i≤xs.length→Pv i H→SqL K H a xs∧SqL K H b ys)
  (hs:∀ i x y H T,xs[i]?=some x→ys[i]?=some y→Pv i H→H T=none→g (.ref T) (wipe σ vs) (upd H T (.tup [x,y])) fun σ2 H2=>wipe σ2 vs=wipe σ vs∧tt σ2 H2 fun b H3 =>
   if b=true then te σ2 H3 fun y H4=>∃ acc,H4 D=some (.lst acc)∧acc.length < sizeLine∧Pv (i+1) (upd H4 D (.lst (acc++[y]))) else Pv (i+1) H3) (hd:∀ H,Pv xs.length H→Qd H) :
  ∃ W:Nat→Nat→Hp→Prop,(∃ m,W 0 m (upd H1 D (.lst [])))∧∀ i m H,W i m H →
   ((Itz K a b).stop i H∧Qd H)∨((Itz K a b).go i H∧∃ Nx:Hp→Prop,(∀ H',Nx H'→∃ m',m' < m∧W (i+1) m' H')∧∀ x H',(Itz K a b).yld i H x H'→g x (wipe σ vs) H' fun σ2 H2=>wipe σ2 vs=wipe σ vs∧tt σ2 H2 fun b H3 =>
    if b=true then te σ2 H3 fun y H4=>∃ acc,H4 D=some (.lst acc)∧acc.length < sizeLine∧Nx (upd H4 D (.lst (acc++[y]))) else Nx H3):=by
 refine ⟨fun i m H=>m=xs.length - i∧i≤xs.length∧Pv i H,⟨xs.length,by simp,Nat.zero_le _,h0⟩,?_⟩
 rintro i m H ⟨rfl,hi,p⟩
 obtain ⟨q1,q2⟩:=hl i H hi p
 by_cases hlt:i < xs.length
 ·refine .inr ⟨⟨xs,ys,xs[i],ys[i]'(by omega),q1,q2,by simp [hlt],by simp [← hle,hlt]⟩,Pv (i+1),fun H' p'=>⟨xs.length - (i+1),by omega,rfl,hlt,p'⟩,fun v H' y=>?_⟩
  obtain ⟨T,x,y,rfl,hT,rfl,y1,y2⟩:=y
  exact hs i x y H T (y1 xs q1) (y2 ys q2) p hT
 ·have e:i=xs.length:=by omega
  subst e
  exact .inl ⟨⟨xs,ys,q1,q2,.inl (Nat.le_refl _)⟩,hd H p⟩
theorem tyes {A B:Hp→Prop} {σ:St} {H:Hp} (h:A H):tYes σ H (fun b H3=>if b=true then A H3 else B H3):=by
 show (if true=true then A H else B H)
 rw [if_pos rfl]
 exact h
end L2
namespace Lc
open PySem PySem.Spec PyProof.Rows L2
section
variable {P:Program} {w:World} {K:PySem.W.Frag} {mg:Str→Option Value} {base:Heap}
def spMoved (K:PySem.W.Frag):Sp:=fun vs H Q _=>∃ (pa da st:Addr) (p d:List Rat) (t:Rat),vs=[.ref pa,.ref da,.ref st]∧FrsAt K H pa p∧FrsAt K H da d∧FrAt K H st t∧d.length=p.length∧p.length≤100∧(∀ q∈p,Small 5000 q)∧(∀ q∈d,Small 200 q)∧Small 200 t ∧
 ∀ H' l,Same H H'→H l=none→FrsNew K H' l (movedQ p d t)→Q (.ref l) H'
theorem ok_moved (D:DefAt K mg "moved" s_moved) (n_zip:mg "zip"=none) (C_total:Callee P w K mg base "total" ["x","y"] 42 (sp2 K (·+·))) (C_product:Callee P w K mg base "product" ["x","y"] 42 (sp2 K (·*·))) :
  Callee P w K mg base "moved" ["point","direction","step"] 43 (spMoved K):=by
 refine mkC (k:=42) D sc_moved (fun _ _ _ _ _ _ us hl=>match us,hl with | [_,_,_],_=>rfl) (fun vs H Q E h=>?_) (fun f cdv A outer s H vs Q E hr h=>?_)
 ·obtain ⟨pa,da,st,p,d,t,rfl,_⟩:=h
  rfl
 ·obtain ⟨pa,da,st,p,d,t,rfl,hpa,hda,hst,hle,h100,sp,sd,stt,k⟩:=h
  obtain ⟨rs,hl,hp⟩:=id hpa
  obtain ⟨rs2,hl2,hp2⟩:=id hda
  refine ⟨_,(pss_one (ps_ret (pe_lc rfl sc_moved.nd (pi_zip rfl n_zip (pa_cons (pv 0) (pa_cons (pv 1) pa_nil))) (show BlkOk ["point","direction","step","here","way"] (defScope s_moved) _ [("here",3),("way",4)] from blkOk_by (by decide +kernel)) (fun _ _ _ _ _=>(show PG _ _ (gTup K 2 _) from pg_tup rfl (pgs_cons (pg_name (i:=3) sc_moved.nd rfl (by first|exact .inl rfl|exact .inr rfl)) (pgs_cons (pg_name (i:=4) sc_moved.nd rfl (by first|exact .inl rfl|exact .inr rfl)) pgs_nil)))) (fun _ _ _ _ _=>pts_nil) (fun _ _ _ _ _=>(pe_callC C_total hr (pa_cons (pv 3) (pa_cons (pe_callC C_product hr (pa_cons (pv 2) (pa_cons (pv 4) pa_nil))) pa_nil))))))),?_⟩
  refine ⟨_,rfl,_,rfl,pa,da,_,_,rfl,hl,hl2,fun l hll=>?_⟩
  refine lc_zip (K:=K) (a:=pa) (b:=da) (xs:=rs.map V.ref) (ys:=rs2.map V.ref) (by rw [List.length_map,List.length_map,plen hp,plen hp2,hle]) (fun i H1=>Same H H1∧∃ ps:List Addr,H1 l=some (.lst (ps.map V.ref))∧Paired (FrAt K H1) ps ((List.range i).map fun k=>at0 p k+t*at0 d k)) ⟨same_upd hll,[],upd_same,.nil⟩ (fun i H1 _ h1=>⟨h1.1.seq hl,h1.1.seq hl2⟩) ?_ ?_
  ·rintro i x y H1 T hi hj ⟨s1,ps,hd1,hp1⟩ hT
   obtain ⟨r,q,rfl,hq,hrq,hil⟩:=ppick hp hi
   obtain ⟨r2,q2,rfl,hq2,hrq2,hil2⟩:=ppick hp2 hj
   have s2:Same H1 (upd H1 T (.tup [.ref r,.ref r2])):=same_upd hT
   have hTT:upd H1 T (.tup [.ref r,.ref r2]) T=some (.tup [.ref r,.ref r2]):=upd_same
   generalize upd H1 T (.tup [.ref r,.ref r2])=H2 at s2 hTT ⊢
   have s02:=s1.trans s2
   refine ⟨T,_,rfl,SqT.of hTT,rfl,_,_,rfl,_,_,rfl,rfl,rfl,?_⟩
   refine tyes ?_
   refine ⟨_,rfl,_,rfl,_,rfl,st,r2,t,q2,rfl,hst.same s02,hrq2.same s02,stt.mono (by decide),(sd q2 (List.mem_of_getElem? hq2)).mono (by decide),fun H3 r3 s3 h3=>?_⟩
   refine ⟨r,r3,q,t*q2,rfl,(hrq.same s02).same s3,h3,(sp q (List.mem_of_getElem? hq)).mono (by decide),((stt.mul (sd q2 (List.mem_of_getElem? hq2)))).mono (by decide),fun H4 r4 s4 h4=>?_⟩
   have s24:=s2.trans (s3.trans s4)
   have hd4:=s24 l _ hd1
   refine ⟨_,hd4,?_,same_put hll (s1.trans s24),ps++[r4],?_,?_⟩
   ·rw [List.length_map,plen hp1,List.length_map,List.length_range,sizeLine_eq]
    omega
   ·rw [upd_same,List.map_append]
    rfl
   ·rw [List.range_succ,List.map_append,List.map_cons,List.map_nil,at0_some hq,at0_some hq2]
    exact psnoc (Paired.mapP hp1 fun _ _ z=>SqT.put (Same.seqT s24 z) hd4) (SqT.put h4 hd4)
  ·rintro H1 ⟨s1,ps,hd1,hp1⟩
   rw [List.length_map,plen hp] at hp1
   exact k H1 l s1 hll ⟨ps,hd1,hp1⟩
end
end Lc
end
section
namespace Lc
open PySem PySem.Spec PyProof.Rows L2
open VagraLine (Line Code)
section
variable {P:Program} {w:World} {K:PySem.W.Frag} {mg:Str→Option Value} {base:Heap}
def spIsOp (K:PySem.W.Frag):Sp:=fun vs H Q _=>∃ (x:Addr) (raw:List Int),vs=[.ref x]∧LnAt K H x raw∧RawOk raw∧Q (.bl (opB raw)) H
theorem raw_first {raw:List Int} (h:RawOk raw):∃ o us,raw=o::us∧us≠[]:=by
 rcases raw_cases h with ⟨k,rfl,_⟩ | ⟨n,d,rfl,_⟩ | ⟨o,us,rfl,_,_,hn,_⟩
 ·exact ⟨_,_,rfl,by simp⟩
 ·exact ⟨_,_,rfl,by simp⟩
 ·exact ⟨_,_,rfl,hn⟩
theorem decV {i j:Int}:decide (V.int i=V.int j)=decide (i=j):=by
 by_cases h:i=j
 ·rw [decide_eq_true h,decide_eq_true (by rw [h])]
 ·rw [decide_eq_false h,decide_eq_false (fun e=>h (by injection e))]
theorem ok_is_operation (D:DefAt K mg "is_operation" s_is_operation) (c_CONSTANT:Const mg "CONSTANT" (.int 1)) (c_INPUT:Const mg "INPUT" (.int 0)):Callee P w K mg base "is_operation" ["line"] 41 (spIsOp K):=by
 refine mkC (k:=40) D sc_is_operation (fun _ _ _ _ _ _ us hl=>match us,hl with | [_],_=>rfl) (fun vs H Q E h=>?_) (fun f cdv A outer s H vs Q E hr h=>?_)
 ·obtain ⟨x,raw,rfl,_⟩:=h
  rfl
 ·obtain ⟨x,raw,rfl,hx,ho,k⟩:=h
  obtain ⟨o,us,rfl,_⟩:=raw_first ho
  refine ⟨_,(pss_one (ps_ret (pe_and (pe_cmpR op_ne (pe_ix ix_tup (pv 0) pe_int (fun _ _=>rfl)) (pe_const c_INPUT) (nomark _)) (pe_one (pe_cmpR op_ne (pe_ix ix_tup (pv 0) pe_int (fun _ _=>rfl)) (pe_const c_CONSTANT) (nomark _)))))),?_⟩
  change Q (.bl (decide (o≠0) && decide (o≠1))) H at k
  refine ⟨_,rfl,_,_,_,_,rfl,rfl,hx,at_0,(by rfl),_,rfl,?_⟩
  rw [decV]
  by_cases h0:o=0
  ·rw [decide_eq_true h0]
   rw [decide_eq_false (show ¬ o≠0 by omega)] at k
   exact iteF k
  ·rw [decide_eq_false h0]
   rw [decide_eq_true (show o≠0 from h0)] at k
   refine iteT ⟨_,rfl,_,_,_,_,rfl,rfl,hx,at_0,(by rfl),?_⟩
   rw [decV]
   have e:(!decide (o=1))=(true && decide (o≠1)):=by
    by_cases h1:o=1
    ·rw [decide_eq_true h1,decide_eq_false (show ¬ o≠1 by omega)];rfl
    ·rw [decide_eq_false h1,decide_eq_true (show o≠1 from h1)];rfl
   rw [e]
   exact k
theorem RgC.down (i:Nat) (hi:i≤1000):RgC (i:Int) (-1) (-1) (i+1):=by
 have:=RgC.neg (i:=(i:Int)) (j:=-1) (by omega) (by omega) (by omega) (by omega)
 rw [show ((i:Int) - -1).toNat=i+1 by omega] at this
 exact this
theorem rep_false (n:Nat):(List.replicate n [V.bl false]).flatten=(List.replicate n false).map V.bl:=by
 induction n with
 | zero=>rfl
 | succ n ih=>rw [List.replicate_succ,List.flatten_cons,ih,List.replicate_succ];rfl
theorem ixN_nat {n j:Nat} (h:j < n):ixN n (j:Int)=some j:=by
 unfold ixN
 rw [if_pos (by omega),if_pos (by omega),Int.toNat_natCast]
theorem at_bl {nd:List Bool} {j:Nat} {b:Bool} (h:nd[j]?=some b):atI (nd.map V.bl) (j:Int)=some (V.bl b):=atI_nat (by rw [List.getElem?_map,h];rfl)
def spBehind (K:PySem.W.Frag):Sp:=fun vs H Q _=>∃ (la:Addr) (c:List (List Int)) (i n:Nat),vs=[.ref la,.int i]∧LnsAt K H la c∧(∀ r∈c,RawOk r)∧findsAll n 0 c=true∧c.length≤80∧i < c.length ∧
 ∀ H' l L,Same H H'→H l=none→H' l=some (.lst (L.map fun j:Nat=>V.int j))→Behind (c.map lineOf) i L→L.length≤80→Q (.ref l) H'
theorem ok_lines_behind (D:DefAt K mg "lines_behind" s_lines_behind) (n_range:mg "range"=none) (C_is_operation:Callee P w K mg base "is_operation" ["line"] 41 (spIsOp K)):Callee P w K mg base "lines_behind" ["lines","i"] 42 (spBehind K):=by
 refine mkC (k:=41) D sc_lines_behind (fun _ _ _ _ _ _ us hl=>match us,hl with | [_,_],_=>rfl) (fun vs H Q E h=>?_) (fun f cdv A outer s H vs Q E hr h=>?_)
 ·obtain ⟨la,c,i,n,rfl,_⟩:=h
  rfl
 ·obtain ⟨la,c,i,n,rfl,hla,hok,hfa,h80,hi,k⟩:=h
  obtain ⟨rs,hl,hp⟩:=id hla
  have hwell:∀ (j:Nat) (l:Line),(c.map lineOf)[j]?=some l→∀ u∈l.uses,u < j:=fun j l hj u hu=>by
   have:=well_uses (n:=n) (c.map lineOf) 0 (by rw [well_F n c 0 hok];exact hfa) j l hj u hu
   omega
  refine ⟨_,(pss_cons (ps_set (i:=2) sc_lines_behind.nd rfl (by first|exact .inl rfl|exact .inr rfl) (pe_op op_rep (pe_lst (pa_cons pe_bl pa_nil)) (pe_op op_add (pv 1) pe_int)))
   (pss_cons (ps_asg pe_bl (pg_sub (pv 2) (pv 1) set_list))
   (pss_cons (ps_for PassesOwn.never rfl (pi_range3 rfl n_range (pa_cons (pv 1) (pa_cons (pe_un un_neg pe_int) (pa_cons (pe_un un_neg pe_int) pa_nil)))) (pg_name (i:=3) sc_lines_behind.nd rfl (by first|exact .inl rfl|exact .inr rfl)) (pss_one (ps_if (PW.pt (pw_and (pt_val (pe_ix ix_list (pv 2) (pv 3) (fun _ _=>rfl))) (pw_and1 (pt_val (pe_callC C_is_operation hr (pa_cons (pe_ix ix_list (pv 0) (pv 3) (fun _ _=>rfl)) pa_nil)))))) (pss_one (ps_for PassesOwn.never rfl (pi_tup (pe_slice sl_tup (pe_ix ix_list (pv 0) (pv 3) (fun _ _=>rfl)) (po_some pe_int) po_none)) (pg_name (i:=4) sc_lines_behind.nd rfl (by first|exact .inl rfl|exact .inr rfl)) (pss_one (ps_asg pe_bl (pg_sub (pv 2) (pv 4) set_list))))) pss_nil)))
   (pss_one (ps_ret (pe_lc rfl sc_lines_behind.nd (pi_range1 rfl n_range (pa_cons (pe_op op_add (pv 1) pe_int) pa_nil)) (show BlkOk ["lines","i","needed","place","used"] (defScope s_lines_behind) _ [("place",3)] from blkOk_by (by decide +kernel)) (fun _ _ _ _ _=>(pg_name (i:=3) sc_lines_behind.nd rfl (by first|exact .inl rfl|exact .inr rfl))) (fun _ _ _ _ _=>(pts_one (pt_val (pe_ix (show IxR _ (rIxL K) from ix_list) (pv 2) (pv 3) (fun _ _=>rfl))))) (fun _ _ _ _ _=>(pv 3)))))))),?_⟩
  refine ⟨(by show 1≤sizeLine;decide),fun n0 hn0=>?_⟩
  refine ⟨_,rfl,_,_,rfl,rfl,n0,(i:Int)+1,[V.bl false],rfl,rfl,upd_same,by omega,by omega,(by rw [show ((i:Int)+1).toNat=i+1 by omega,sizeLine_eq];show 1*(i+1)≤_;omega),fun nd hnd=>?_⟩
  rw [show ((i:Int)+1).toNat=i+1 by omega,rep_false]
  have s0:Same H (upd H n0 (.lst [V.bl false])):=same_upd hn0
  have hnd0:H nd=none:=s0.free hnd
  have s1:Same H (upd (upd H n0 (.lst [V.bl false])) nd (.lst ((List.replicate (i+1) false).map V.bl))):=s0.trans (same_upd hnd)
  have hl1:upd (upd H n0 (.lst [V.bl false])) nd (.lst ((List.replicate (i+1) false).map V.bl)) nd=some (.lst ((List.replicate (i+1) false).map V.bl)):=upd_same
  generalize upd (upd H n0 (.lst [V.bl false])) nd (.lst ((List.replicate (i+1) false).map V.bl))=H1 at s1 hl1 ⊢
  refine ⟨_,rfl,_,rfl,nd,_,(i:Int),i,rfl,rfl,hl1,(by rw [List.length_map,List.length_replicate];exact ixN_nat (by omega)),?_⟩
  have es:((List.replicate (i+1) false).map V.bl).set i (V.bl true)=((List.replicate (i+1) false).set i true).map V.bl:=by rw [List.map_set]
  rw [es]
  have s2:Same H (upd H1 nd (.lst (((List.replicate (i+1) false).set i true).map V.bl))):=same_put hnd0 s1
  have hl2:upd H1 nd (.lst (((List.replicate (i+1) false).set i true).map V.bl)) nd=some (.lst (((List.replicate (i+1) false).set i true).map V.bl)):=upd_same
  generalize upd H1 nd (.lst (((List.replicate (i+1) false).set i true).map V.bl))=H2 at s2 hl2 ⊢
  refine ⟨_,rfl,_,rfl,_,rfl,(i:Int),-1,-1,i+1,rfl,RgC.down i (by omega),?_⟩
  refine for_rangeC (lo:=(i:Int)) (c:=-1) (n:=i+1) (fun t σ H3=>∃ (b:List Bool) (u v:Option V),σ=[some (.ref la),some (.int i),some (.ref nd),u,v]∧Same H H3∧H3 nd=some (.lst (b.map V.bl))∧NInv (c.map lineOf) i t b) ⟨_,none,none,rfl,s2,hl2,NInv.start _ i⟩ ?_ ?_
  ·rintro t σ H3 ht ⟨b,u,v,rfl,s3,hb3,hN⟩
   have et:(i:Int)+(t:Int)*-1=((i - t:Nat):Int):=by omega
   rw [et]
   have hblt:i - t < b.length:=by rw [hN.len];omega
   obtain ⟨x,hx⟩:∃ x,b[i - t]?=some x:=⟨_,List.getElem?_eq_getElem hblt⟩
   obtain ⟨raw,hraw⟩:∃ raw,c[i - t]?=some raw:=⟨_,List.getElem?_eq_getElem (by omega)⟩
   have hro:=hok raw (List.mem_of_getElem? hraw)
   have hcl:(c.map lineOf)[i - t]?=some (lineOf raw):=by rw [List.getElem?_map,hraw];rfl
   obtain ⟨xs,r,w1,w2,w3⟩:=(hla.same s3).get hraw
   refine ⟨_,rfl,_,rfl,nd,_,_,_,rfl,rfl,SqL.of hb3,at_bl hx,_,rfl,?_⟩
   cases x with
   | false =>
    refine iteF ?_
    exact iteF ⟨b,_,_,rfl,s3,hb3,hN.skip (by omega) fun h=>absurd (hx.symm.trans h) (by simp)⟩
   | true =>
    refine iteT ?_
    refine ⟨_,rfl,_,rfl,la,_,_,_,rfl,rfl,w1,w2,r,raw,rfl,w3,hro,_,rfl,?_⟩
    rcases raw_cases hro with ⟨k',rfl,_⟩ | ⟨n',d',rfl,_⟩ | ⟨o,us,rfl,h2,h6,hne,hpos,hus2,huse,hop⟩
    ·exact iteF ⟨b,_,_,rfl,s3,hb3,hN.skip (by omega) fun _ l hl'=>by rw [hcl] at hl';cases hl';rfl⟩
    ·exact iteF ⟨b,_,_,rfl,s3,hb3,hN.skip (by omega) fun _ l hl'=>by rw [hcl] at hl';cases hl';rfl⟩
    ·have eop:opB (o::us)=true:=by rw [opB_F hro];exact hop
     rw [eop]
     refine iteT ?_
     obtain ⟨u0,ur,rfl⟩:∃ u0 ur,us=u0::ur:=by
      cases us with
      | nil=>exact absurd rfl hne
      | cons a b=>exact ⟨a,b,rfl⟩
     refine ⟨_,rfl,_,rfl,la,_,_,_,rfl,rfl,w1,w2,_,rfl,r,_,rfl,w3,cut1.1,fun q hq=>?_⟩
     rw [cut1.2]
     have s4:=same_upd (o:=.tup ((u0::ur).map V.int)) hq
     have hq4:upd H3 q (.tup ((u0::ur).map V.int)) q=some (.tup ((u0::ur).map V.int)):=upd_same
     generalize upd H3 q (.tup ((u0::ur).map V.int))=H4 at s4 hq4 ⊢
     have hb4:=s4 nd _ hb3
     have hlt:∀ y∈u0::ur,y.toNat < i - t∧0≤y:=fun y hy=>⟨hwell _ _ hcl y.toNat (by rw [huse];exact List.mem_map.mpr ⟨y,hy,rfl⟩),hpos y hy⟩
     refine ⟨q,rfl,⟨_,SqT.of hq4⟩,?_⟩
     refine for_tup (K:=K) (a:=q) (xs:=(u0::ur).map V.int) (fun m σ H5=>∃ (b':List Bool) (v:Option V),σ=[some (.ref la),some (.int i),some (.ref nd),some (.int ((i - t:Nat):Int)),v]∧Same H H5∧SqT K H5 q ((u0::ur).map V.int)∧H5 nd=some (.lst (b'.map V.bl))∧b'=setAll b (((u0::ur).take m).map Int.toNat)) ⟨b,_,rfl,s3.trans s4,SqT.of hq4,hb4,rfl⟩ (fun m σ H5 _ ⟨_,_,_,_,h5,_⟩=>h5) ?_ ?_
     ·rintro m y σ H5 hm ⟨b',v',rfl,s5,h5,hb5,rfl⟩
      obtain ⟨y0,hy0,rfl⟩:∃ y0,(u0::ur)[m]?=some y0∧y=V.int y0:=by
       rw [List.getElem?_map] at hm
       cases e:(u0::ur)[m]? with
       | none=>rw [e] at hm;cases hm
       | some y0=>rw [e] at hm;exact ⟨y0,rfl,(Option.some.inj hm).symm⟩
      obtain ⟨hy1,hy2⟩:=hlt y0 (List.mem_of_getElem? hy0)
      have hlen':(setAll b (((u0::ur).take m).map Int.toNat)).length=i+1:=by rw [setAll_length,hN.len]
      refine ⟨_,rfl,_,rfl,nd,_,y0,y0.toNat,rfl,rfl,hb5,?_,?_⟩
      ·rw [List.length_map,hlen']
       have e:y0=((y0.toNat:Nat):Int):=by omega
       rw [e]
       exact ixN_nat (by omega)
      ·refine ⟨_,_,rfl,same_put hnd0 s5,SqT.put h5 hb5,upd_same.trans ?_,rfl⟩
       rw [take_next hy0,List.map_append]
       unfold setAll
       rw [List.foldl_append,← List.map_set]
       rfl
     ·rintro σ H5 ⟨b',v',rfl,s5,h5,hb5,rfl⟩
      rw [List.length_map,List.take_length] at hb5
      refine ⟨_,_,_,rfl,s5,hb5,?_⟩
      rw [← huse]
      exact hN.sets (by omega) hx hcl fun u hu=>hwell _ _ hcl u hu
  ·rintro σ H3 ⟨b,u,v,rfl,s3,hb3,hN⟩
   refine ⟨_,rfl,_,_,rfl,rfl,(i:Int)+1,rfl,by omega,by omega,fun l hll=>?_⟩
   rw [show ((i:Int)+1).toNat=i+1 by omega]
   have hll0:H l=none:=s3.free hll
   have nln:nd≠l:=ne_of_none hb3 hll
   refine lc_range (lo:=0) (n:=i+1) (fun m H4=>Same H H4∧H4 nd=some (.lst (b.map V.bl))∧H4 l=some (.lst (((List.range m).filter fun j=>b.getD j false).map fun j:Nat=>V.int j))) ⟨s3.trans (same_upd hll),by rw [upd_ne nln];exact hb3,upd_same⟩ ?_ ?_
   ·rintro m H4 hm ⟨s4,hb4,hl4⟩
    rw [show (0:Int)+(m:Int)=((m:Nat):Int) by omega]
    obtain ⟨x,hx⟩:∃ x,b[m]?=some x:=⟨_,List.getElem?_eq_getElem (by rw [hN.len];exact hm)⟩
    refine ⟨rfl,?_⟩
    refine ⟨_,rfl,_,rfl,nd,_,_,_,rfl,rfl,SqL.of hb4,at_bl hx,_,rfl,?_⟩
    have ef:(List.range (m+1)).filter (fun j=>b.getD j false)=(List.range m).filter (fun j=>b.getD j false)++(if x=true then [m] else []):=by
     rw [List.range_succ,List.filter_append]
     congr 1
     have:b.getD m false=x:=by rw [List.getD_eq_getElem?_getD,hx];rfl
     rw [List.filter_cons,this]
     cases x <;> rfl
    cases x with
    | false =>
     refine iteF ⟨s4,hb4,?_⟩
     rw [ef]
     simpa using hl4
    | true =>
     refine iteT ⟨_,rfl,_,hl4,?_,same_put hll0 s4,by rw [upd_ne nln];exact hb4,?_⟩
     ·rw [List.length_map,sizeLine_eq]
      have:=List.length_filter_le (fun j=>b.getD j false) (List.range m)
      rw [List.length_range] at this
      omega
     ·rw [upd_same,ef,if_pos rfl,List.map_append]
      rfl
   ·rintro H4 ⟨s4,hb4,hl4⟩
    refine k H4 l _ s4 hll0 hl4 hN.behind ?_
    have:=List.length_filter_le (fun j=>b.getD j false) (List.range (i+1))
    rw [List.length_range] at this
    show ((List.range (i+1)).filter fun j=>b.getD j false).length≤80
    omega
end
end Lc
end
section
namespace Lc
open PySem PySem.Spec PyProof.Rows L2
open VagraLine (Line)
def inK:List Int→Option Int
 | [0,k]=>some k
 | _=>none
def rawAt (c:List (List Int)) (j:Nat):List Int:=c.getD j []
def hangsL (n:Nat) (c:VagraLine.Code) (i:Nat):List Nat:=(List.range n).filter fun k=>((Vagrae.reaches n c).getD i []).getD k false
theorem inK_some {raw:List Int} {x:Int} (h:RawOk raw):inK raw=some x ↔ 0≤x∧lineOf raw=.input x.toNat:=by
 rcases h with ⟨k,rfl,hk⟩ | ⟨a,d,rfl,hd⟩ | ⟨o,i,j,rfl,h2,h5,hi,hj⟩ | ⟨i,rfl,hi⟩
 ·constructor
  ·intro e
   have:k=x:=Option.some.inj e
   subst this
   exact ⟨hk,rfl⟩
  ·rintro ⟨h1,h2⟩
   have h3:k.toNat=x.toNat:=by injection h2
   have:k=x:=by omega
   rw [this];rfl
 ·exact ⟨fun e=>(nomatch e),fun e=>(nomatch e.2)⟩
 ·have ho:o=2∨o=3∨o=4∨o=5:=by omega
  rcases ho with rfl | rfl | rfl | rfl <;> exact ⟨fun e=>(nomatch e),fun e=>(nomatch e.2)⟩
 ·exact ⟨fun e=>(nomatch e),fun e=>(nomatch e.2)⟩
theorem well_input {n:Nat}:∀ (cc:VagraLine.Code) (p:Nat),VagraLine.wellFrom n p cc=true→∀ (j k:Nat),cc[j]?=some (Line.input k)→k < n:=by
 intro cc
 induction cc with
 | nil=>intro p _ j k h;simp at h
 | cons l cc ih =>
  intro p hp j k h
  cases j with
  | zero =>
   have:l=.input k:=by simpa using h
   subst this
   unfold VagraLine.wellFrom at hp
   rw [Bool.and_eq_true,Bool.and_eq_true] at hp
   exact of_decide_eq_true hp.1.2
  | succ j=>exact ih (p+1) (wellFrom_cons hp).2 j k (by simpa using h)
theorem hangs_eq {n i:Nat} {c:List (List Int)} {L:List Nat} {ms:List Int} (hok:∀ r∈c,RawOk r) (hfa:findsAll n 0 c=true) (hi:i < c.length) (B:Behind (c.map lineOf) i L) (h1:ms.Pairwise (· < ·))
  (h2:∀ x,x∈ms ↔ x∈(L.map (rawAt c)).filterMap inK):ms=(hangsL n (c.map lineOf) i).map Int.ofNat:=by
 have hwell:∀ (j:Nat) (l:Line),(c.map lineOf)[j]?=some l→∀ u∈l.uses,u < j:=fun j l hj u hu=>by
  have:=well_uses (n:=n) (c.map lineOf) 0 (by rw [well_F n c 0 hok];exact hfa) j l hj u hu
  omega
 refine sorted_eq h1 ?_ fun x=>?_
 ·rw [List.pairwise_map]
  refine (List.pairwise_lt_range.sublist List.filter_sublist).imp fun h=>?_
  exact Int.ofNat_lt.mpr h
 ·rw [h2,List.mem_filterMap]
  have hin:∀ j raw,c[j]?=some raw→rawAt c j=raw:=fun j raw e=>by
   unfold rawAt
   rw [List.getD_eq_getElem?_getD,e]
   rfl
  constructor
  ·rintro ⟨raw,hraw,e⟩
   obtain ⟨j,hj,rfl⟩:=List.mem_map.mp hraw
   have hjc:j < c.length:=by have:=(B.rch j hj).1;omega
   have hcj:c[j]?=some c[j]:=List.getElem?_eq_getElem hjc
   rw [hin j _ hcj] at e
   obtain ⟨e1,e2⟩:=(inK_some (hok _ (List.mem_of_getElem? hcj))).mp e
   have hcode:(c.map lineOf)[j]?=some (.input x.toNat):=by rw [List.getElem?_map,hcj];show some (lineOf c[j])=_;rw [e2]
   have hxn:x.toNat < n:=by
    have hw:=well_F n c 0 hok
    rw [hfa] at hw
    exact well_input _ 0 hw j _ hcode
   refine List.mem_map.mpr ⟨x.toNat,List.mem_filter.mpr ⟨List.mem_range.mpr hxn,?_⟩,?_⟩
   ·exact (hang_iff hwell hxn i (by rw [List.length_map];exact hi)).mpr ⟨j,(B.rch j hj).2,hcode⟩
   ·show ((x.toNat:Nat):Int)=x
    omega
  ·intro hx
   obtain ⟨k,hk,rfl⟩:=List.mem_map.mp hx
   obtain ⟨hk1,hk2⟩:=List.mem_filter.mp hk
   have hkn:=List.mem_range.mp hk1
   obtain ⟨j,hr,hc⟩:=(hang_iff hwell hkn i (by rw [List.length_map];exact hi)).mp hk2
   have hj:=hr.in B
   rw [List.getElem?_map] at hc
   cases e:c[j]? with
   | none=>rw [e] at hc;cases hc
   | some raw =>
    rw [e] at hc
    have hc:lineOf raw=.input k:=Option.some.inj hc
    refine ⟨raw,List.mem_map.mpr ⟨j,hj,hin j raw e⟩,(inK_some (hok _ (List.mem_of_getElem? e))).mpr ⟨?_,?_⟩⟩
    ·exact Int.natCast_nonneg k
    ·rw [hc];show _=Line.input ((k:Nat):Int).toNat;rw [Int.toNat_natCast]
theorem fm_next {α β:Type} {l:List α} {i:Nat} {q:α} {f:α→Option β} (h:l[i]?=some q):(l.take (i+1)).filterMap f=(l.take i).filterMap f++(match f q with | some y=>[y] | none=>[]):=by
 rw [take_next h,List.filterMap_append]
 congr 1
 rw [List.filterMap_cons]
 cases f q <;> rfl
section
variable {P:Program} {w:World} {K:PySem.W.Frag} {mg:Str→Option Value} {base:Heap}
def spInputs (K:PySem.W.Frag):Sp:=fun vs H Q _=>∃ (la:Addr) (c:List (List Int)) (i n:Nat),vs=[.ref la,.int i]∧LnsAt K H la c∧(∀ r∈c,RawOk r)∧findsAll n 0 c=true∧n≤12∧c.length≤80∧i < c.length ∧
 ∀ H' l,Same H H'→H l=none→H' l=some (.lst (((hangsL n (c.map lineOf) i).map Int.ofNat).map V.int))→Q (.ref l) H'
theorem ok_inputs_behind (D:DefAt K mg "inputs_behind" s_inputs_behind) (n_sorted:mg "sorted"=none) (n_set:mg "set"=none) (c_INPUT:Const mg "INPUT" (.int 0)) (C_lines_behind:Callee P w K mg base "lines_behind" ["lines","i"] 42 (spBehind K)):Callee P w K mg base "inputs_behind" ["lines","i"] 43 (spInputs K):=by
 refine mkC (k:=42) D sc_inputs_behind (fun _ _ _ _ _ _ us hl=>match us,hl with | [_,_],_=>rfl) (fun vs H Q E h=>?_) (fun f cdv A outer s H vs Q E hr h=>?_)
 ·obtain ⟨la,c,i,n,rfl,_⟩:=h
  rfl
 ·obtain ⟨la,c,i,n,rfl,hla,hok,hfa,h12,h80,hi,k⟩:=h
  refine ⟨_,(pss_cons (ps_setLc (i:=2) rfl sc_inputs_behind.nd rfl rfl (sw_true rfl rfl rfl rfl) (pi_list (pe_callC C_lines_behind hr (pa_cons (pv 0) (pa_cons (pv 1) pa_nil)))) (show BlkOk ["lines","i","behind","place","line"] (defScope s_inputs_behind) _ [("place",3)] from blkOk_by (by decide +kernel)) (fun _ _ _ _ _=>(pg_name (i:=3) sc_inputs_behind.nd rfl (by first|exact .inl rfl|exact .inr rfl))) (fun _ _ _ _ _=>pts_nil) (fun _ _ _ _ _=>(pe_ix (show IxR _ (rIxL K) from ix_list) (pv 0) (pv 3) (fun _ _=>rfl))))
   (pss_one (ps_ret (pe_sortedSet rfl n_sorted rfl n_set (pa_cons (pe_lc rfl sc_inputs_behind.nd (pi_list (pv 2)) (show BlkOk ["lines","i","behind","place","line"] (defScope s_inputs_behind) _ [("line",4)] from blkOk_by (by decide +kernel)) (fun _ _ _ _ _=>(pg_name (i:=4) sc_inputs_behind.nd rfl (by first|exact .inl rfl|exact .inr rfl))) (fun _ _ _ _ _=>(pts_one (pt_cmpR op_eq (pe_ix (show IxR _ (rIxT K) from ix_tup) (pv 4) pe_int (fun _ _=>rfl)) (pe_const c_INPUT) (nomark _)))) (fun _ _ _ _ _=>(pe_ix (show IxR _ (rIxT K) from ix_tup) (pv 4) pe_int (fun _ _=>rfl)))) pa_nil))))),?_⟩
  refine ⟨_,rfl,_,rfl,la,c,i,n,rfl,hla,hok,hfa,h80,hi,fun H1 lb L s1 hlb hl1 B hL80=>?_⟩
  refine ⟨lb,rfl,⟨_,SqL.of hl1⟩,fun d hd=>?_⟩
  have hd0:H d=none:=s1.free hd
  refine lc_list (K:=K) (a:=lb) (xs:=L.map fun j:Nat=>V.int j) (fun m H2=>Same H1 H2∧∃ rs:List Addr,H2 d=some (.lst (rs.map V.ref))∧Paired (LnAt K H2) rs ((L.take m).map (rawAt c))) ⟨same_upd hd,[],upd_same,.nil⟩ (fun m H2 _ h2=>h2.1.seq (SqL.of hl1)) ?_ ?_
  ·rintro m x H2 hm ⟨s2,rs,hd2,hp2⟩
   obtain ⟨j,hj,rfl⟩:∃ j,L[m]?=some j∧x=V.int (j:Nat):=by
    rw [List.getElem?_map] at hm
    cases e:L[m]? with
    | none=>rw [e] at hm;cases hm
    | some j=>rw [e] at hm;exact ⟨j,rfl,(Option.some.inj hm).symm⟩
   have hjc:j < c.length:=by have:=(B.rch j (List.mem_of_getElem? hj)).1;omega
   have hcj:c[j]?=some c[j]:=List.getElem?_eq_getElem hjc
   obtain ⟨xs,r,w1,w2,w3⟩:=(hla.same (s1.trans s2)).get hcj
   refine ⟨rfl,tyes ?_⟩
   refine ⟨_,rfl,_,rfl,la,_,_,_,rfl,rfl,w1,w2,_,hd2,?_,same_put hd s2,rs++[r],?_,?_⟩
   ·rw [List.length_map,plen hp2,List.length_map,List.length_take,sizeLine_eq]
    omega
   ·rw [upd_same,List.map_append];rfl
   ·rw [take_next hj,List.map_append,List.map_cons,List.map_nil]
    have e:rawAt c j=c[j]:=by unfold rawAt;rw [List.getD_eq_getElem?_getD,hcj];rfl
    rw [e]
    exact psnoc (Paired.mapP hp2 fun _ _ z=>SqT.put z hd2) (SqT.put w3 hd2)
  ·rintro H2 ⟨s2,rs,hd2,hp2⟩
   rw [List.length_map,List.take_length] at hp2
   refine ⟨_,rfl,d,rfl,⟨_,SqL.of hd2⟩,fun e he=>?_⟩
   refine lc_list (K:=K) (a:=d) (xs:=rs.map V.ref) (fun m H3=>Same H2 H3∧H3 e=some (.lst ((((L.map (rawAt c)).take m).filterMap inK).map V.int))) ⟨same_upd he,upd_same⟩ (fun m H3 _ h3=>h3.1.seq (SqL.of hd2)) ?_ ?_
   ·rintro m x H3 hm ⟨s3,he3⟩
    obtain ⟨r,raw,rfl,hraw,hrr,_⟩:=ppick hp2 hm
    have hr3:LnAt K H3 r raw:=Same.seqT s3 hrr
    have hro:RawOk raw:=by
     obtain ⟨j,hj,e⟩:=List.mem_map.mp (List.mem_of_getElem? hraw)
     have hjc:j < c.length:=by have:=(B.rch j hj).1;omega
     have:rawAt c j=c[j]:=by unfold rawAt;rw [List.getD_eq_getElem?_getD,List.getElem?_eq_getElem hjc];rfl
     rw [← e,this]
     exact hok _ (List.getElem_mem hjc)
    have hfl:(((L.map (rawAt c)).take m).filterMap inK).length≤80:=by
     refine Nat.le_trans (List.length_filterMap_le _ _) ?_
     rw [List.length_take,List.length_map]
     omega
    refine ⟨rfl,?_⟩
    rcases raw_cases hro with ⟨k',rfl,_⟩ | ⟨n',d',rfl,_⟩ | ⟨o,us,rfl,h2,h6,hne,_⟩
    ·refine ⟨_,rfl,r,_,_,_,rfl,rfl,hr3,at_0,(by rfl),_,rfl,?_⟩
     refine iteT ⟨_,rfl,r,_,_,_,rfl,rfl,hr3,at_1,_,he3,?_,same_put he s3,?_⟩
     ·rw [List.length_map,sizeLine_eq];omega
     ·rw [upd_same,fm_next hraw]
      show _=some (HO.lst ((_++[k']).map V.int))
      rw [List.map_append];rfl
    ·refine ⟨_,rfl,r,_,_,_,rfl,rfl,hr3,at_0,(by rfl),_,rfl,?_⟩
     refine iteF ⟨s3,?_⟩
     rw [fm_next hraw]
     simpa [inK] using he3
    ·refine ⟨_,rfl,r,_,_,_,rfl,rfl,hr3,at_0,(by rfl),_,rfl,?_⟩
     rw [decV,decide_eq_false (show ¬ o=0 by omega)]
     refine iteF ⟨s3,?_⟩
     have e0:inK (o::us)=none:=by
      unfold inK
      split
      ·rename_i q;injection q with q1 q2;omega
      ·rfl
     rw [fm_next hraw,e0,List.append_nil]
     exact he3
   ·rintro H3 ⟨s3,he3⟩
    rw [List.length_map,plen hp2,List.take_length] at he3
    have s13:=s1.trans (s2.trans s3)
    have hsub:∀ x∈(L.map (rawAt c)).filterMap inK,0≤x∧x < 60:=fun x hx=>by
     obtain ⟨raw,hraw,ex⟩:=List.mem_filterMap.mp hx
     obtain ⟨j,hj,rfl⟩:=List.mem_map.mp hraw
     have hjc:j < c.length:=by have:=(B.rch j hj).1;omega
     have hcj:c[j]?=some c[j]:=List.getElem?_eq_getElem hjc
     have ej:rawAt c j=c[j]:=by unfold rawAt;rw [List.getD_eq_getElem?_getD,hcj];rfl
     rw [ej] at ex
     obtain ⟨e1,e2⟩:=(inK_some (hok _ (List.mem_of_getElem? hcj))).mp ex
     have hcode:(c.map lineOf)[j]?=some (.input x.toNat):=by rw [List.getElem?_map,hcj];show some (lineOf c[j])=_;rw [e2]
     have hw:=well_F n c 0 hok
     rw [hfa] at hw
     have:=well_input _ 0 hw j _ hcode
     omega
    refine ⟨e,_,rfl,SqL.of he3,?_,hsub,fun ms pp h1 h2 hpp=>?_⟩
    ·refine Nat.le_trans (List.length_filterMap_le _ _) ?_
     rw [List.length_map];omega
    ·refine k _ pp (s13.trans (same_upd hpp)) (s13.free hpp) ?_
     rw [upd_same,hangs_eq hok hfa hi B h1 h2]
def spCount (K:PySem.W.Frag) (g:VagraLine.Code→Nat):Sp:=fun vs H Q _=>∃ (la:Addr) (c:List (List Int)),vs=[.ref la]∧LnsAt K H la c∧(∀ r∈c,RawOk r)∧c.length≤80∧∀ H',Same H H'→Q (.int (g (c.map lineOf):Nat)) H'
theorem ok_how_many (D:DefAt K mg "how_many_operations" s_how_many_operations) (n_len:mg "len"=none) (C_is_operation:Callee P w K mg base "is_operation" ["line"] 41 (spIsOp K)):Callee P w K mg base "how_many_operations" ["lines"] 42 (spCount K VagraLine.ops):=by
 refine mkC (k:=41) D sc_how_many_operations (fun _ _ _ _ _ _ us hl=>match us,hl with | [_],_=>rfl) (fun vs H Q E h=>?_) (fun f cdv A outer s H vs Q E hr h=>?_)
 ·obtain ⟨la,c,rfl,_⟩:=h
  rfl
 ·obtain ⟨la,c,rfl,hla,hok,h80,k⟩:=h
  obtain ⟨rs,hl,hp⟩:=id hla
  refine ⟨_,(pss_one (ps_ret (pe_callB call_len_seq (by rfl) n_len bt_len (pa_cons (pe_lc rfl sc_how_many_operations.nd (pi_list (pv 0)) (show BlkOk ["lines","line"] (defScope s_how_many_operations) _ [("line",1)] from blkOk_by (by decide +kernel)) (fun _ _ _ _ _=>(pg_name (i:=1) sc_how_many_operations.nd rfl (by first|exact .inl rfl|exact .inr rfl))) (fun _ _ _ _ _=>(pts_one (pt_val (pe_callC C_is_operation hr (pa_cons (pv 1) pa_nil))))) (fun _ _ _ _ _=>(pv 1))) pa_nil)))),?_⟩
  refine ⟨_,rfl,la,rfl,⟨_,hl⟩,fun d hd=>?_⟩
  refine lc_list (K:=K) (a:=la) (xs:=rs.map V.ref) (fun m H2=>Same H H2∧∃ vs,H2 d=some (.lst vs)∧vs.length=((c.take m).filter opB).length) ⟨same_upd hd,[],upd_same,rfl⟩ (fun m H2 _ h2=>h2.1.seq hl) ?_ ?_
  ·rintro m x H2 hm ⟨s2,vs,hd2,hv2⟩
   obtain ⟨r,raw,rfl,hraw,hrr,hlt⟩:=ppick hp hm
   have hro:=hok raw (List.mem_of_getElem? hraw)
   refine ⟨rfl,?_⟩
   refine ⟨_,rfl,r,raw,rfl,Same.seqT s2 hrr,hro,_,rfl,?_⟩
   cases e:opB raw with
   | false =>
    refine iteF ⟨s2,vs,hd2,?_⟩
    rw [filter_next hraw,if_neg (by rw [e];decide),List.append_nil,hv2]
   | true =>
    refine iteT ⟨_,rfl,vs,hd2,?_,same_put hd s2,_,upd_same,?_⟩
    ·rw [hv2,sizeLine_eq]
     have:=List.length_filter_le opB (c.take m)
     rw [List.length_take] at this
     omega
    ·rw [filter_next hraw,if_pos e,List.length_append,List.length_append,hv2]
     rfl
  ·rintro H2 ⟨s2,vs,hd2,hv2⟩
   refine ⟨d,vs,rfl,.inl (SqL.of hd2),?_⟩
   rw [List.length_map,plen hp,List.take_length] at hv2
   have e:VagraLine.ops (c.map lineOf)=(c.filter opB).length:=by
    unfold VagraLine.ops
    rw [List.filter_map,List.length_map]
    congr 1
    refine List.filter_congr fun r hr=>?_
    exact (opB_F (hok r hr)).symm
   rw [hv2,← e]
   exact k H2 s2
theorem ok_cost {zc:Addr} (D:DefAt K mg "cost_of_direction" s_cost_of_direction) (n_sum:mg "sum"=none) (c_COSTS:Const mg "COSTS" (.ref zc)) (hzc:∀ H,SqT K H zc (costsL.map V.int)):Callee P w K mg base "cost_of_direction" ["lines"] 42 (spCount K Vagrae.cost):=by
 refine mkC (k:=41) D sc_cost_of_direction (fun _ _ _ _ _ _ us hl=>match us,hl with | [_],_=>rfl) (fun vs H Q E h=>?_) (fun f cdv A outer s H vs Q E hr h=>?_)
 ·obtain ⟨la,c,rfl,_⟩:=h
  rfl
 ·obtain ⟨la,c,rfl,hla,hok,h80,k⟩:=h
  obtain ⟨rs,hl,hp⟩:=id hla
  refine ⟨_,(pss_one (ps_ret (pe_callB (cr_sum rfl) (by rfl) n_sum bt_sum (pa_cons (pe_lc rfl sc_cost_of_direction.nd (pi_list (pv 0)) (show BlkOk ["lines","line"] (defScope s_cost_of_direction) _ [("line",1)] from blkOk_by (by decide +kernel)) (fun _ _ _ _ _=>(pg_name (i:=1) sc_cost_of_direction.nd rfl (by first|exact .inl rfl|exact .inr rfl))) (fun _ _ _ _ _=>pts_nil) (fun _ _ _ _ _=>(pe_ix (show IxR _ (rIxT K) from ix_tup) (pe_const c_COSTS) (pe_ix (show IxR _ (rIxT K) from ix_tup) (pv 1) pe_int (fun _ _=>rfl)) (fun _ _=>rfl)))) pa_nil)))),?_⟩
  refine ⟨_,rfl,la,rfl,⟨_,hl⟩,fun d hd=>?_⟩
  refine lc_list (K:=K) (a:=la) (xs:=rs.map V.ref) (fun m H2=>Same H H2∧H2 d=some (.lst (((c.take m).map fun r=>((Vagrae.Line.cost (lineOf r):Nat):Int)).map V.int))) ⟨same_upd hd,upd_same⟩ (fun m H2 _ h2=>h2.1.seq hl) ?_ ?_
  ·rintro m x H2 hm ⟨s2,hd2⟩
   obtain ⟨r,raw,rfl,hraw,hrr,hlt⟩:=ppick hp hm
   have hro:=hok raw (List.mem_of_getElem? hraw)
   obtain ⟨k0,⟨us,e⟩,hk7,hc⟩:=cost_F hro
   have hr2:LnAt K H2 r ((k0:Int)::us):=by rw [← e];exact Same.seqT s2 hrr
   refine ⟨rfl,tyes ?_⟩
   refine ⟨_,rfl,r,_,_,_,rfl,rfl,hr2,at_0,zc,_,_,_,rfl,rfl,hzc H2,atI_nat (by rw [List.getElem?_map,hc];rfl),_,hd2,?_,same_put hd s2,?_⟩
   ·rw [List.length_map,List.length_map,List.length_take,sizeLine_eq];omega
   ·rw [upd_same,take_next hraw,List.map_append,List.map_append]
    rfl
  ·rintro H2 ⟨s2,hd2⟩
   rw [List.length_map,plen hp,List.take_length] at hd2
   refine ⟨d,_,rfl,SqL.of hd2,?_⟩
   have e:(c.map fun r=>((Vagrae.Line.cost (lineOf r):Nat):Int)).sum=((Vagrae.cost (c.map lineOf):Nat):Int):=by
    unfold Vagrae.cost
    clear k hla hl hp hd2 h80
    induction c with
    | nil=>rfl
    | cons r c ih =>
     have:=ih fun q hq=>hok q (List.mem_cons_of_mem _ hq)
     rw [List.map_cons,List.sum_cons,this,List.map_cons,List.map_cons,List.sum_cons,Int.natCast_add]
   rw [e]
   exact k H2 s2
end
end Lc
end
section
namespace Lc
open PySem PySem.Spec PyProof.Rows L2
open VagraLine (Line)
theorem at0_get {l:List Rat} {i:Nat} (h:i < l.length):l[i]?=some (at0 l i):=by
 rw [List.getElem?_eq_getElem h]
 congr 1
 exact (at0_some (List.getElem?_eq_getElem h)).symm
theorem at0_mem {l:List Rat} {i:Nat} (h:i < l.length):at0 l i∈l:=List.mem_of_getElem? (at0_get h)
abbrev Sm (l:List Rat):Prop:=∀ q∈l,Small 300000 q
section
variable {P:Program} {w:World} {K:PySem.W.Frag} {mg:Str→Option Value} {base:Heap}
def spPC (K:PySem.W.Frag):Sp:=fun vs H Q _=>∃ (f g:Addr) (a b:List Rat) (r:Nat),vs=[.ref f,.ref g,.int r]∧FrsAt K H f a∧FrsAt K H g b∧r < a.length∧r < b.length∧r≤7∧Sm a∧Sm b∧∀ H' v,Same H H'→FrAt K H' v (mulCoefQ a b r)→Q (.ref v) H'
theorem ok_product_coefficient (D:DefAt K mg "product_coefficient" s_product_coefficient) (n_range:mg "range"=none) (C_sum_of_products:Callee P w K mg base "sum_of_products" ["pairs"] 44 (spSum K)) :
  Callee P w K mg base "product_coefficient" ["first","second","r"] 45 (spPC K):=by
 refine mkC (k:=44) D sc_product_coefficient (fun _ _ _ _ _ _ us hl=>match us,hl with | [_,_,_],_=>rfl) (fun vs H Q E h=>?_) (fun fa cdv A outer s H vs Q E hr h=>?_)
 ·obtain ⟨f,g,a,b,r,rfl,_⟩:=h
  rfl
 ·obtain ⟨f,g,a,b,r,rfl,hf,hg,ha,hb,h7,sa,sb,k⟩:=h
  refine ⟨_,(pss_one (ps_ret (pe_callC C_sum_of_products hr (pa_cons (pe_lc rfl sc_product_coefficient.nd (pi_range1 rfl n_range (pa_cons (pe_op op_add (pv 2) pe_int) pa_nil)) (show BlkOk ["first","second","r","s"] (defScope s_product_coefficient) _ [("s",3)] from blkOk_by (by decide +kernel)) (fun _ _ _ _ _=>(pg_name (i:=3) sc_product_coefficient.nd rfl (by first|exact .inl rfl|exact .inr rfl))) (fun _ _ _ _ _=>pts_nil) (fun _ _ _ _ _=>(pe_tup (pa_cons (pe_ix (show IxR _ (rIxL K) from ix_list) (pv 0) (pv 3) (fun _ _=>rfl)) (pa_cons (pe_ix (show IxR _ (rIxL K) from ix_list) (pv 1) (pe_op op_sub (pv 2) (pv 3)) (fun _ _=>rfl)) pa_nil))))) pa_nil)))),?_⟩
  refine ⟨_,rfl,_,_,rfl,rfl,(r:Int)+1,rfl,by omega,by omega,fun d hd=>?_⟩
  rw [show ((r:Int)+1).toNat=r+1 by omega]
  refine lc_range (lo:=0) (n:=r+1) (fun m H1=>Same H H1∧∃ ps:List Addr,H1 d=some (.lst (ps.map V.ref))∧Paired (PrAt K H1) ps ((List.range m).map fun s=>(at0 a s,at0 b (r - s)))) ⟨same_upd hd,[],upd_same,.nil⟩ ?_ ?_
  ·rintro m H1 hm ⟨s1,ps,hd1,hp1⟩
   rw [show (0:Int)+(m:Int)=((m:Nat):Int) by omega]
   obtain ⟨xs,u,w1,w2,w3⟩:=(hf.same s1).get (at0_get (l:=a) (i:=m) (by omega))
   obtain ⟨ys,v,y1,y2,y3⟩:=(hg.same s1).get (at0_get (l:=b) (i:=r - m) (by omega))
   have er:(r:Int) - (m:Int)=((r - m:Nat):Int):=by omega
   refine ⟨rfl,tyes ?_⟩
   refine ⟨_,rfl,_,rfl,f,_,_,_,rfl,rfl,w1,w2,?_⟩
   refine ⟨_,rfl,_,rfl,_,rfl,_,_,rfl,rfl,g,_,_,_,rfl,rfl,y1,(by rw [er];exact y2),(by show 2≤sizeLine;decide),fun T hT=>?_⟩
   have s2:=same_upd (o:=.tup [V.ref u,V.ref v]) hT
   have hTT:upd H1 T (.tup [V.ref u,V.ref v]) T=some (.tup [V.ref u,V.ref v]):=upd_same
   generalize upd H1 T (.tup [V.ref u,V.ref v])=H2 at s2 hTT ⊢
   have hd2:=s2 d _ hd1
   refine ⟨_,hd2,?_,same_put hd (s1.trans s2),ps++[T],?_,?_⟩
   ·rw [List.length_map,plen hp1,List.length_map,List.length_range,sizeLine_eq];omega
   ·rw [upd_same,List.map_append];rfl
   ·rw [List.range_succ,List.map_append,List.map_cons,List.map_nil]
    exact psnoc (Paired.mapP hp1 fun _ _ z=>PrAt.put (z.same s2) hd2) (PrAt.put ⟨u,v,SqT.of hTT,w3.same s2,y3.same s2⟩ hd2)
  ·rintro H1 ⟨s1,ps,hd1,hp1⟩
   refine ⟨d,_,rfl,⟨ps,SqL.of hd1,hp1⟩,fun x hx=>?_,by rw [List.length_map,List.length_range];omega,fun H2 v s2 h2=>?_⟩
   ·obtain ⟨j,hj,rfl⟩:=List.mem_map.mp hx
    have hj:=List.mem_range.mp hj
    exact ⟨sa _ (at0_mem (by omega)),sb _ (at0_mem (by omega))⟩
   ·refine k H2 v (s1.trans s2) ?_
    unfold prodsQ at h2
    rw [List.map_map] at h2
    exact h2
def spQC (K:PySem.W.Frag):Sp:=fun vs H Q _=>∃ (o f g:Addr) (q a b:List Rat),vs=[.ref o,.ref f,.ref g]∧FrsAt K H o q∧FrsAt K H f a∧FrsAt K H g b∧q.length < a.length∧q.length < b.length∧q.length≤7∧Sm q∧Sm a∧Sm b∧at0 b 0≠0∧∀ H' v,Same H H'→FrAt K H' v (divCoefQ a b q)→Q (.ref v) H'
def qcL (q a b:List Rat) (m:Nat):List (Rat × Rat):=(at0 a q.length,1)::(List.range m).map fun s=>(-(at0 q s),at0 b (q.length - s))
theorem qcL_sum (q a b:List Rat):sumQ (prodsQ (qcL q a b q.length)) / at0 b 0=divCoefQ a b q:=by
 unfold qcL prodsQ divCoefQ
 rw [List.map_cons,sumQ_cons,Rat.mul_one,List.map_map]
 congr 1
 rw [Rat.sub_eq_add_neg,sumQ_neg,List.map_map]
 congr 1
 congr 1
 refine List.map_congr_left fun i _=>?_
 show -(at0 q i)*at0 b (q.length - i)=-(at0 q i*at0 b (q.length - i))
 rw [Rat.neg_mul]
theorem ok_quotient_coefficient {z1:Addr} (D:DefAt K mg "quotient_coefficient" s_quotient_coefficient) (n_range:mg "range"=none) (n_len:mg "len"=none) (c_ONE:Const mg "ONE" (.ref z1)) (hz1:∀ H,SqT K H z1 [.int 1,.int 1]) (C_opposite:Callee P w K mg base "opposite" ["x"] 41 (spOpp K))
  (C_sum_of_products:Callee P w K mg base "sum_of_products" ["pairs"] 44 (spSum K)) (C_quotient:Callee P w K mg base "quotient" ["x","y"] 43 (spDiv K)):Callee P w K mg base "quotient_coefficient" ["own","first","second"] 45 (spQC K):=by
 refine mkC (k:=44) D sc_quotient_coefficient (fun _ _ _ _ _ _ us hl=>match us,hl with | [_,_,_],_=>rfl) (fun vs H Q E h=>?_) (fun fa cdv A outer s H vs Q E hr h=>?_)
 ·obtain ⟨o,f,g,q,a,b,rfl,_⟩:=h
  rfl
 ·obtain ⟨o,f,g,q,a,b,rfl,ho,hf,hg,ha,hb,h7,sq,sa,sb,hnz,k⟩:=h
  obtain ⟨rs,hl,hp⟩:=id ho
  refine ⟨_,(pss_cons (ps_set (i:=3) sc_quotient_coefficient.nd rfl (by first|exact .inl rfl|exact .inr rfl) (pe_callB call_len_seq (by rfl) n_len bt_len (pa_cons (pv 0) pa_nil)))
   (pss_cons (ps_set (i:=4) sc_quotient_coefficient.nd rfl (by first|exact .inl rfl|exact .inr rfl) (pe_lst (pa_cons (pe_tup (pa_cons (pe_ix ix_list (pv 1) (pv 3) (fun _ _=>rfl)) (pa_cons (pe_const c_ONE) pa_nil))) pa_nil)))
   (pss_cons (ps_for PassesOwn.never rfl (pi_range1 rfl n_range (pa_cons (pv 3) pa_nil)) (pg_name (i:=5) sc_quotient_coefficient.nd rfl (by first|exact .inl rfl|exact .inr rfl)) (pss_one (ps_expr (pe_bm PySem.F.plainAttrs_list PySem.F.slot_list_append PySem.F.type_list_append mt_append (pv 4) (pa_cons (pe_tup (pa_cons (pe_callC C_opposite hr (pa_cons (pe_ix ix_list (pv 0) (pv 5) (fun _ _=>rfl)) pa_nil)) (pa_cons (pe_ix ix_list (pv 2) (pe_op op_sub (pv 3) (pv 5)) (fun _ _=>rfl)) pa_nil))) pa_nil)))))
   (pss_one (ps_ret (pe_callC C_quotient hr (pa_cons (pe_callC C_sum_of_products hr (pa_cons (pv 4) pa_nil)) (pa_cons (pe_ix ix_list (pv 2) pe_int (fun _ _=>rfl)) pa_nil)))))))),?_⟩
  refine ⟨_,rfl,o,_,rfl,.inl hl,?_⟩
  rw [List.length_map,plen hp]
  obtain ⟨xs,u,w1,w2,w3⟩:=hf.get (at0_get (l:=a) (i:=q.length) (by omega))
  refine ⟨_,rfl,_,rfl,f,_,_,_,rfl,rfl,w1,w2,(by show 2≤sizeLine;decide),fun T hT=>?_⟩
  have s1:=same_upd (o:=.tup [V.ref u,V.ref z1]) hT
  have hTT:upd H T (.tup [V.ref u,V.ref z1]) T=some (.tup [V.ref u,V.ref z1]):=upd_same
  generalize upd H T (.tup [V.ref u,V.ref z1])=H1 at s1 hTT ⊢
  refine ⟨(by show 1≤sizeLine;decide),fun d hd=>?_⟩
  have s2:=same_upd (o:=.lst [V.ref T]) hd
  have hd2:upd H1 d (.lst [V.ref T]) d=some (.lst [V.ref T]):=upd_same
  have hd0:H d=none:=s1.free hd
  generalize upd H1 d (.lst [V.ref T])=H2 at s2 hd2 ⊢
  have s02:=s1.trans s2
  refine ⟨_,rfl,(q.length:Int),rfl,by omega,by omega,?_⟩
  rw [Int.toNat_natCast]
  refine for_range (lo:=0) (n:=q.length) (fun m σ H3=>∃ (ps:List Addr) (v:Option V),σ=[some (.ref o),some (.ref f),some (.ref g),some (.int q.length),some (.ref d),v]∧Same H H3∧H3 d=some (.lst (ps.map V.ref))∧Paired (PrAt K H3) ps (qcL q a b m))
   ⟨[T],none,rfl,s02,hd2,.cons ⟨u,z1,Same.seqT s2 (SqT.of hTT),w3.same s02,hz1 _⟩ .nil⟩ ?_ ?_
  ·rintro m σ H3 hm ⟨ps,v,rfl,s3,hd3,hp3⟩
   rw [show (0:Int)+(m:Int)=((m:Nat):Int) by omega]
   obtain ⟨os,ou,o1,o2,o3⟩:=(ho.same s3).get (at0_get (l:=q) (i:=m) hm)
   obtain ⟨ys,y,y1,y2,y3⟩:=(hg.same s3).get (at0_get (l:=b) (i:=q.length - m) (by omega))
   have er:(q.length:Int) - (m:Int)=((q.length - m:Nat):Int):=by omega
   refine ⟨_,rfl,.inl ⟨rfl,_,SqL.of hd3⟩,_,rfl,_,rfl,o,_,_,_,rfl,rfl,o1,o2,ou,_,rfl,o3,fun H4 nu s4 h4=>?_⟩
   obtain ⟨ys,y,y1,y2,y3⟩:=(hg.same (s3.trans s4)).get (at0_get (l:=b) (i:=q.length - m) (by omega))
   refine ⟨_,rfl,_,rfl,_,rfl,_,_,rfl,rfl,g,_,_,_,rfl,rfl,y1,(by rw [er];exact y2),(by show 2≤sizeLine;decide),fun T' hT'=>?_⟩
   have s5:=same_upd (o:=.tup [V.ref nu,V.ref y]) hT'
   have hT5:upd H4 T' (.tup [V.ref nu,V.ref y]) T'=some (.tup [V.ref nu,V.ref y]):=upd_same
   generalize upd H4 T' (.tup [V.ref nu,V.ref y])=H5 at s5 hT5 ⊢
   have hd5:=(s4.trans s5) d _ hd3
   refine ⟨d,_,_,rfl,rfl,hd5,?_,ps++[T'],_,rfl,same_put hd0 (s3.trans (s4.trans s5)),?_,?_⟩
   ·rw [List.length_map,plen hp3,sizeLine_eq]
    unfold qcL
    rw [List.length_cons,List.length_map,List.length_range]
    omega
   ·rw [upd_same,List.map_append];rfl
   ·have e:qcL q a b (m+1)=qcL q a b m++[(-(at0 q m),at0 b (q.length - m))]:=by
     unfold qcL
     rw [List.range_succ,List.map_append]
     rfl
    rw [e]
    exact psnoc (Paired.mapP hp3 fun _ _ z=>PrAt.put (z.same (s4.trans s5)) hd5) (PrAt.put ⟨nu,y,SqT.of hT5,h4.same s5,y3.same s5⟩ hd5)
  ·rintro σ H3 ⟨ps,v,rfl,s3,hd3,hp3⟩
   have hs:Sm2 (qcL q a b q.length):=fun x hx=>by
    unfold qcL at hx
    rcases List.mem_cons.mp hx with rfl | hx
    ·exact ⟨sa _ (at0_mem (by omega)),Small.one (by decide)⟩
    ·obtain ⟨j,hj,rfl⟩:=List.mem_map.mp hx
     have hj:=List.mem_range.mp hj
     exact ⟨(sq _ (at0_mem hj)).neg,sb _ (at0_mem (by omega))⟩
   have hlq:(qcL q a b q.length).length≤9:=by
    unfold qcL
    rw [List.length_cons,List.length_map,List.length_range]
    omega
   refine ⟨_,rfl,d,_,rfl,⟨ps,SqL.of hd3,hp3⟩,hs,hlq,fun H4 v4 s4 h4=>?_⟩
   obtain ⟨ys,y,y1,y2,y3⟩:=(hg.same (s3.trans s4)).get (at0_get (l:=b) (i:=0) (by omega))
   refine ⟨_,rfl,g,_,_,_,rfl,rfl,y1,y2,v4,y,_,_,rfl,h4,y3,(prods_small hs hlq).mono (by decide),(sb _ (at0_mem (by omega))).mono (by decide),hnz,fun H5 v5 s5 h5=>?_⟩
   rw [qcL_sum] at h5
   exact k H5 v5 (s3.trans (s4.trans s5)) h5
end
end Lc
end
section
namespace Lc
open PySem PySem.Spec PyProof.Rows L2
open VagraLine (Line)
section
variable {P:Program} {w:World} {K:PySem.W.Frag} {mg:Str→Option Value} {base:Heap}
def spNext (K:PySem.W.Frag):Sp:=fun vs H Q _=>∃ (x o ma dr:Addr) (raw:List Int) (q d:List Rat) (rows:List Addr) (A:Nat→List Rat),vs=[.ref x,.ref o,.ref ma,.ref dr]∧LnAt K H x raw∧RawOk raw∧FrsAt K H o q∧1≤q.length∧q.length≤7∧Sm q∧SqL K H ma (rows.map V.ref)∧FrsAt K H dr d ∧
 (∀ i,raw=[0,i]→i < (d.length:Int))∧(∀ j∈(lineOf raw).uses,∃ r,rows[j]?=some r∧FrsAt K H r (A j)∧q.length < (A j).length∧Sm (A j))∧(∀ i j,raw=[5,i,j]→at0 (A j.toNat) 0≠0) ∧
 ∀ H' v,Same H H'→FrAt K H' v (nextQ d A q (lineOf raw))→Q (.ref v) H'
theorem row_at {rows:List Addr} {i:Int} {r:Addr} (h0:0≤i) (h:rows[i.toNat]?=some r):atI (rows.map V.ref) i=some (V.ref r):=by
 have e:i=((i.toNat:Nat):Int):=by omega
 rw [e]
 exact atI_nat (by rw [List.getElem?_map,h];rfl)
theorem ok_next_coefficient {z:Addr} (D:DefAt K mg "next_coefficient" s_next_coefficient) (n_len:mg "len"=none) (N:Kinds mg) (R:Ratios P w K mg base) (c_ZERO:Const mg "ZERO" (.ref z)) (hz:∀ H,SqT K H z [.int 0,.int 1])
  (C_product_coefficient:Callee P w K mg base "product_coefficient" ["first","second","r"] 45 (spPC K)) (C_quotient_coefficient:Callee P w K mg base "quotient_coefficient" ["own","first","second"] 45 (spQC K)) :
  Callee P w K mg base "next_coefficient" ["line","own","made","direction"] 46 (spNext K):=by
 obtain ⟨c_INPUT,c_CONSTANT,c_SUM,c_DIFFERENCE,c_PRODUCT,c_QUOTIENT_lines,c_OPPOSITE⟩:=N
 obtain ⟨C_in_lowest_terms,C_opposite,C_total,C_difference,C_product,C_quotient,C_weight⟩:=R
 refine mkC (k:=45) D sc_next_coefficient (fun _ _ _ _ _ _ us hl=>match us,hl with | [_,_,_,_],_=>rfl) (fun vs H Q E h=>?_) (fun fa cdv A' outer s H vs Q E hr h=>?_)
 ·obtain ⟨x,o,ma,dr,raw,q,d,rows,A,rfl,_⟩:=h
  rfl
 ·obtain ⟨x,o,ma,dr,raw,q,d,rows,A,rfl,hx,hro,ho,h1,h7,sq,hma,hdr,hin,hA,hnz,k⟩:=h
  obtain ⟨ors,hol,hop⟩:=id ho
  refine ⟨_,(pss_cons (ps_set (i:=4) sc_next_coefficient.nd rfl (by first|exact .inl rfl|exact .inr rfl) (pe_ix ix_tup (pv 0) pe_int (fun _ _=>rfl)))
   (pss_cons (ps_set (i:=5) sc_next_coefficient.nd rfl (by first|exact .inl rfl|exact .inr rfl) (pe_callB call_len_seq (by rfl) n_len bt_len (pa_cons (pv 1) pa_nil)))
   (pss_cons (ps_if (pt_cmpR op_eq (pv 4) (pe_const c_INPUT) (nomark _)) (pss_one (ps_ret (pe_ifExp (pt_cmpR op_eq (pv 5) pe_int (nomark _)) (pe_ix ix_list (pv 3) (pe_ix ix_tup (pv 0) pe_int (fun _ _=>rfl)) (fun _ _=>rfl)) (pe_const c_ZERO)))) pss_nil)
   (pss_cons (ps_if (pt_cmpR op_eq (pv 4) (pe_const c_CONSTANT) (nomark _)) (pss_one (ps_ret (pe_const c_ZERO))) pss_nil)
   (pss_cons (ps_set (i:=6) sc_next_coefficient.nd rfl (by first|exact .inl rfl|exact .inr rfl) (pe_ix ix_list (pv 2) (pe_ix ix_tup (pv 0) pe_int (fun _ _=>rfl)) (fun _ _=>rfl)))
   (pss_cons (ps_if (pt_cmpR op_eq (pv 4) (pe_const c_OPPOSITE) (nomark _)) (pss_one (ps_ret (pe_callC C_opposite hr (pa_cons (pe_ix ix_list (pv 6) (pv 5) (fun _ _=>rfl)) pa_nil)))) pss_nil)
   (pss_cons (ps_set (i:=7) sc_next_coefficient.nd rfl (by first|exact .inl rfl|exact .inr rfl) (pe_ix ix_list (pv 2) (pe_ix ix_tup (pv 0) pe_int (fun _ _=>rfl)) (fun _ _=>rfl)))
   (pss_cons (ps_if (pt_cmpR op_eq (pv 4) (pe_const c_SUM) (nomark _)) (pss_one (ps_ret (pe_callC C_total hr (pa_cons (pe_ix ix_list (pv 6) (pv 5) (fun _ _=>rfl)) (pa_cons (pe_ix ix_list (pv 7) (pv 5) (fun _ _=>rfl)) pa_nil))))) pss_nil)
   (pss_cons (ps_if (pt_cmpR op_eq (pv 4) (pe_const c_DIFFERENCE) (nomark _)) (pss_one (ps_ret (pe_callC C_difference hr (pa_cons (pe_ix ix_list (pv 6) (pv 5) (fun _ _=>rfl)) (pa_cons (pe_ix ix_list (pv 7) (pv 5) (fun _ _=>rfl)) pa_nil))))) pss_nil)
   (pss_cons (ps_if (pt_cmpR op_eq (pv 4) (pe_const c_PRODUCT) (nomark _)) (pss_one (ps_ret (pe_callC C_product_coefficient hr (pa_cons (pv 6) (pa_cons (pv 7) (pa_cons (pv 5) pa_nil)))))) pss_nil)
   (pss_one (ps_ret (pe_callC C_quotient_coefficient hr (pa_cons (pv 1) (pa_cons (pv 6) (pa_cons (pv 7) pa_nil)))))))))))))))),?_⟩
  have hk0:∀ {o':Int} {us:List Int},raw=o'::us→atI (raw.map V.int) 0=some (V.int o'):=fun e=>by rw [e];exact at_0
  obtain ⟨o',us',eraw,_⟩:=raw_first hro
  refine ⟨_,rfl,_,_,_,_,rfl,rfl,hx,hk0 eraw,?_⟩
  refine ⟨_,rfl,o,_,rfl,.inl hol,?_⟩
  rw [List.length_map,plen hop]
  refine ⟨_,rfl,(by rfl),_,rfl,?_⟩
  rw [decV]
  rcases hro with ⟨i,rfl,hi⟩ | ⟨n',d',rfl,hd⟩ | ⟨op,i,j,rfl,h2,h5,hi,hj⟩ | ⟨i,rfl,hi⟩
  ·injection eraw with e0 _
   subst e0
   refine iteT ?_
   refine ⟨_,rfl,(by rfl),_,rfl,?_⟩
   rw [decV]
   by_cases hr1:q.length=1
   ·rw [decide_eq_true (show ((q.length:Nat):Int)=1 by omega)]
    obtain ⟨xs,r,q1,q2,q3⟩:=hdr.getI hi (hin i rfl)
    refine iteT ⟨_,rfl,_,rfl,_,_,_,_,rfl,rfl,hx,at_1,dr,_,_,_,rfl,rfl,q1,q2,?_⟩
    refine k H r (Same.refl H) ?_
    show FrAt K H r (if q.length=1 then at0 d i.toNat else 0)
    rw [if_pos hr1]
    exact q3
   ·rw [decide_eq_false (show ¬ ((q.length:Nat):Int)=1 by omega)]
    refine iteF ?_
    refine k H z (Same.refl H) ?_
    show FrAt K H z (if q.length=1 then at0 d i.toNat else 0)
    rw [if_neg hr1]
    exact hz H
  ·injection eraw with e0 _
   subst e0
   refine iteF ?_
   refine ⟨_,rfl,(by rfl),_,rfl,iteT ?_⟩
   exact k H z (Same.refl H) (hz H)
  ·injection eraw with e0 _
   subst e0
   rw [decide_eq_false (show ¬ op=0 by omega)]
   refine iteF ⟨_,rfl,(by rfl),_,rfl,?_⟩
   rw [decV,decide_eq_false (show ¬ op=1 by omega)]
   refine iteF ?_
   have huse:(lineOf [op,i,j]).uses=[i.toNat,j.toNat]:=by
    have ho:op=2∨op=3∨op=4∨op=5:=by omega
    rcases ho with rfl | rfl | rfl | rfl <;> rfl
   obtain ⟨r1,a1,a2,a3,a4⟩:=hA i.toNat (by rw [huse];simp)
   obtain ⟨r2,b1,b2,b3,b4⟩:=hA j.toNat (by rw [huse];simp)
   refine ⟨_,rfl,_,rfl,_,_,_,_,rfl,rfl,hx,at_1,ma,_,_,_,rfl,rfl,hma,row_at hi a1,?_⟩
   refine ⟨_,rfl,(by rfl),_,rfl,?_⟩
   rw [decV,decide_eq_false (show ¬ op=6 by omega)]
   refine iteF ?_
   refine ⟨_,rfl,_,rfl,_,_,_,_,rfl,rfl,hx,at_2,ma,_,_,_,rfl,rfl,hma,row_at hj b1,?_⟩
   obtain ⟨xs,u,x1,x2,x3⟩:=a2.get (at0_get (l:=A i.toNat) (i:=q.length) a3)
   obtain ⟨ys,v,y1,y2,y3⟩:=b2.get (at0_get (l:=A j.toNat) (i:=q.length) b3)
   have su:=a4 _ (at0_mem a3)
   have sv:=b4 _ (at0_mem b3)
   have ho:op=2∨op=3∨op=4∨op=5:=by omega
   rcases ho with rfl | rfl | rfl | rfl
   ·refine ⟨_,rfl,(by rfl),_,rfl,iteT ?_⟩
    refine ⟨_,rfl,_,rfl,r1,_,_,_,rfl,rfl,x1,x2,?_⟩
    refine ⟨_,rfl,_,rfl,r2,_,_,_,rfl,rfl,y1,y2,u,v,_,_,rfl,x3,y3,su.mono (by decide),sv.mono (by decide),fun H1 w1 s1 g1=>k H1 w1 s1 g1⟩
   ·refine ⟨_,rfl,(by rfl),_,rfl,iteF ?_⟩
    refine ⟨_,rfl,(by rfl),_,rfl,iteT ?_⟩
    refine ⟨_,rfl,_,rfl,r1,_,_,_,rfl,rfl,x1,x2,?_⟩
    refine ⟨_,rfl,_,rfl,r2,_,_,_,rfl,rfl,y1,y2,u,v,_,_,rfl,x3,y3,su.mono (by decide),sv.mono (by decide),fun H1 w1 s1 g1=>k H1 w1 s1 g1⟩
   ·refine ⟨_,rfl,(by rfl),_,rfl,iteF ?_⟩
    refine ⟨_,rfl,(by rfl),_,rfl,iteF ?_⟩
    refine ⟨_,rfl,(by rfl),_,rfl,iteT ?_⟩
    exact ⟨_,rfl,_,rfl,_,rfl,r1,r2,A i.toNat,A j.toNat,q.length,rfl,a2,b2,a3,b3,h7,a4,b4,fun H1 w1 s1 g1=>k H1 w1 s1 g1⟩
   ·refine ⟨_,rfl,(by rfl),_,rfl,iteF ?_⟩
    refine ⟨_,rfl,(by rfl),_,rfl,iteF ?_⟩
    refine ⟨_,rfl,(by rfl),_,rfl,iteF ?_⟩
    exact ⟨_,rfl,_,rfl,_,rfl,o,r1,r2,q,A i.toNat,A j.toNat,rfl,ho,a2,b2,a3,b3,h7,sq,a4,b4,hnz i j rfl,fun H1 w1 s1 g1=>k H1 w1 s1 g1⟩
  ·injection eraw with e0 _
   subst e0
   refine iteF ?_
   refine ⟨_,rfl,(by rfl),_,rfl,iteF ?_⟩
   obtain ⟨r1,a1,a2,a3,a4⟩:=hA i.toNat (by show i.toNat∈[i.toNat];simp)
   refine ⟨_,rfl,_,rfl,_,_,_,_,rfl,rfl,hx,at_1,ma,_,_,_,rfl,rfl,hma,row_at hi a1,?_⟩
   refine ⟨_,rfl,(by rfl),_,rfl,iteT ?_⟩
   obtain ⟨xs,u,x1,x2,x3⟩:=a2.get (at0_get (l:=A i.toNat) (i:=q.length) a3)
   exact ⟨_,rfl,_,rfl,r1,_,_,_,rfl,rfl,x1,x2,u,_,rfl,x3,fun H1 w1 s1 g1=>k H1 w1 s1 g1⟩
end
end Lc
end
section
namespace L2
open PySem PySem.Spec PyProof.Rows
structure Mth (P:Program) (w:World) (K:PySem.W.Frag) (mg:Str→Option Value) (base:Heap) (C:Addr) (m:Str) (ps:List Str) (k:Nat) (sp:Sp):Prop where
 ex:∃ (f:Addr) (fd:FuncData),Meth K C m f∧Binds K fd ps []∧FnOk P w K mg base CX0 k f fd ps sp
section
variable {X:Cx} {C:Addr} {x m:Str} {ps:List Str} {k j:Nat} {sp:Sp} {p pos apos:Pos} {e o:Expr} {es:List Expr} {ta:TE} {t:TA}
theorem pe_methC {pl:Sem Bool} (c:Cls X.K C) (M:Mth X.prog X.w X.K X.mg X.base C m ps k sp) (hr:Room j X.A) (he:PE X o ta) (ha:PA X (e::es) t) (hk:k≤j:=by decide)
  (hst:starEach (e::es) X.env=(false,eval e X.env)::starEach es X.env:=by rfl) (hpl:(backTo pos (starEach es X.env)).any (·.1)=false:=by rfl)
  (ht:eval (.Call (.Attribute o m apos) (e::es) [] pos) X.env=(do
   let ov ← eval o X.env
   standAt apos.atName
   let (f,first) ← holding [ov] (getMethod ov m pl)
   callWith pos f first (backTo pos (starEach (e::es) X.env)) (backToKw pos (keywordEach [] X.env))):=by rfl) :
  PE X (.Call (.Attribute o m apos) (e::es) [] pos) (tMeth C m sp [] E0 ta t):=by
 obtain ⟨f,fd,hm,hb,F⟩:=M.ex
 exact pe_meth (pl:=pl) he c hm F (hr.mono hk) hb .nil pass0 ha hst hpl ht
theorem pe_methC0 {pl:Sem Bool} (c:Cls X.K C) (M:Mth X.prog X.w X.K X.mg X.base C m ps k sp) (hr:Room j X.A) (he:PE X o ta) (hk:k≤j:=by decide)
  (ht:eval (.Call (.Attribute o m apos) [] [] pos) X.env=(do
   let ov ← eval o X.env
   standAt apos.atName
   let (f,first) ← holding [ov] (getMethod ov m pl)
   callWith pos f first (backTo pos (starEach [] X.env)) (backToKw pos (keywordEach [] X.env))):=by rfl) :
  PE X (.Call (.Attribute o m apos) [] [] pos) (tMeth C m sp [] E0 ta tNil):=by
 obtain ⟨f,fd,hm,hb,F⟩:=M.ex
 exact pe_meth0 (pl:=pl) he c hm F (hr.mono hk) hb .nil pass0 ht
structure Mkr (P:Program) (w:World) (K:PySem.W.Frag) (mg:Str→Option Value) (base:Heap) (C:Addr) (x:Str) (ps:List Str) (k:Nat) (sp:Sp):Prop where
 ex:∃ (f:Addr) (fd:FuncData),Mk K C f∧mg x=some (.ref C)∧Binds K fd ps []∧FnOk P w K mg base CX0 k f fd ps sp
theorem pe_makeC0 (M:Mkr X.prog X.w X.K X.mg X.base C x ps k sp) (hr:Room j X.A) (hk:k+1≤j:=by decide) (hg:Gl X x:=by rfl) (hdb:(x == ("__debug__":Str))=false:=by decide):PE X (.Call (.Name x p) [] [] pos) (tMake C sp [] E0 tNil):=by
 obtain ⟨f,fd,hm,hmg,hb,F⟩:=M.ex
 exact pe_make0 hm F (hr.mono hk) hg hmg hb .nil pass0 hdb
theorem pe_makeC (M:Mkr X.prog X.w X.K X.mg X.base C x ps k sp) (hr:Room j X.A) (ha:PA X (e::es) t) (hk:k+1≤j:=by decide) (hg:Gl X x:=by rfl) (hdb:(x == ("__debug__":Str))=false:=by decide)
  (he:starEach (e::es) X.env=(false,eval e X.env)::starEach es X.env:=by rfl) (hpl:(backTo pos (starEach es X.env)).any (·.1)=false:=by rfl):PE X (.Call (.Name x p) (e::es) [] pos) (tMake C sp [] E0 t):=by
 obtain ⟨f,fd,hm,hmg,hb,F⟩:=M.ex
 exact pe_make hm F (hr.mono hk) hg hmg hb .nil pass0 ha hdb he hpl
end
end L2
namespace Lc
open PySem PySem.Spec PyProof.Rows L2
open VagraLine (Line)
structure MethAt (K:PySem.W.Frag) (C:Addr) (m qual:Str) (st:Stmt):Prop where
 ex:∃ (f:Addr) (fd:FuncData),Meth K C m f∧Fun K m qual st f fd
theorem mkM {P:Program} {w:World} {K:PySem.W.Frag} {mg:Str→Option Value} {base:Heap} {C:Addr} {m qual:Str} {st:Stmt} {N ps:List Str} {k:Nat} {sp:Sp} (D:MethAt K C m qual st) (S:FnScope N ps (defScope st))
  (hb:∀ (kV doc pm:Value) (an:Option Addr) (cdv ct:Value) (us:List Value),us.length=ps.length→bindArgs (PySem.W.fnOf m qual (defArgs st) (defBody st) (defScope st) .none kV doc pm an cdv ct) ⟨us,[]⟩=pure (ps.zip us))
  (len:∀ vs H Q E,sp vs H Q E→vs.length=ps.length)
  (hbody:∀ (f:Addr) (cdv:Value) (A:Around) (outer:List Env) (s:Shared) (H:Hp) (vs:List V) (Q:VK) (E:XK),Room k (A.deeper (envOfC qual (defScope st) s.heap.objs.size f cdv))→sp vs H Q E →
   ∃ t,PSs (cxOf CX0 P w K mg base N qual (defScope st) f cdv A outer s H E).nox (defBody st) t∧t { nx:=fun _ H'=>Q .non H',rt:=Q } (start N vs) H):Mth P w K mg base C m ps (k+1) sp:=by
 obtain ⟨f,fd,hm,F⟩:=D.ex
 exact ⟨f,fd,hm,F.binds hb,F.ok S len (hbody f)⟩
theorem len_putF (f:Str) (v:V):∀ fs:List (Str × V),(putF f v fs).length≤fs.length+1
 | []=>Nat.le_refl _
 | (g,x)::r=>by
  unfold putF
  by_cases h:g=f
  ·rw [if_pos h];exact Nat.le_succ _
  ·rw [if_neg h,List.length_cons,List.length_cons]
   exact Nat.succ_le_succ (len_putF f v r)
def SameX (rows:List Addr) (H H':Hp):Prop:=∀ b o,b ∉ rows→H b=some o→H' b=some o
theorem SameX.refl (rows:List Addr) (H:Hp):SameX rows H H:=fun _ _ _ h=>h
theorem SameX.trans {rows:List Addr} {H H1 H2:Hp} (a:SameX rows H H1) (b:SameX rows H1 H2):SameX rows H H2:=fun c o l h=>b c o l (a c o l h)
theorem SameX.of {rows:List Addr} {H H':Hp} (h:Same H H'):SameX rows H H':=fun b o _ e=>h b o e
def RowK (K:PySem.W.Frag) (H:Hp) (r:Addr) (s:List Rat) (k:Nat):Prop:=∃ vs:List Addr,H r=some (.lst (vs.map V.ref))∧Paired (FrAt K H) vs (s.take k)
structure RowsK (K:PySem.W.Frag) (H:Hp) (rows:List Addr) (ss:List (List Rat)) (ks:Nat→Nat):Prop where
 nd:rows.Nodup
 row:∀ i r,rows[i]?=some r→RowK K H r (sAt ss i) (ks i)
 k1:∀ i,i < rows.length→1≤ks i∧ks i≤8
theorem RowK.tup {K:PySem.W.Frag} {H H':Hp} {r:Addr} {s:List Rat} {k:Nat} (h:RowK K H r s k) (e:H' r=H r) (kt:∀ v q,FrAt K H v q→FrAt K H' v q):RowK K H' r s k:=by
 obtain ⟨vs,h1,h2⟩:=h
 exact ⟨vs,e.trans h1,Paired.mapP h2 fun _ _ z=>kt _ _ z⟩
theorem RowsK.lst {K:PySem.W.Frag} {H:Hp} {rows:List Addr} {ss:List (List Rat)} {ks:Nat→Nat} (R:RowsK K H rows ss ks) {r:Addr} (h:r∈rows):∃ xs,H r=some (.lst xs):=by
 obtain ⟨i,hi⟩:=List.getElem?_of_mem h
 obtain ⟨vs,h1,_⟩:=R.row i r hi
 exact ⟨_,h1⟩
theorem RowsK.same {K:PySem.W.Frag} {H H':Hp} {rows:List Addr} {ss:List (List Rat)} {ks:Nat→Nat} (R:RowsK K H rows ss ks) (e:Same H H'):RowsK K H' rows ss ks :=
 ⟨R.nd,fun i r hr=>by
  obtain ⟨vs,h1,h2⟩:=R.row i r hr
  exact ⟨vs,e _ _ h1,Paired.mapP h2 fun _ _ z=>z.same e⟩,R.k1⟩
def sf (la dra ma:Addr):List (Str × V):=[("lines",.ref la),("direction",.ref dra),("made",.ref ma)]
structure SerIn (K:PySem.W.Frag) (CS:Addr) (H:Hp) (sa dx la dra ma:Addr) (rows:List Addr) (c:List (List Int)) (d:List Rat) (ss:List (List Rat)) (ks:Nat→Nat):Prop where
 ins:H sa=some (.ins CS dx (sf la dra ma))
 lns:LnsAt K H la c
 dir:FrsAt K H dra d
 mad:SqL K H ma (rows.map V.ref)
 out:la ∉ rows∧dra ∉ rows∧ma ∉ rows
 len:rows.length=c.length
 rws:RowsK K H rows ss ks
structure SerM (c:List (List Int)) (p d:List Rat) (n:Nat):Prop where
 raw:∀ r∈c,RawOk r
 fnd:findsAll n 0 c=true
 dl:d.length=n
 c80:c.length≤80
 small:∀ i r,Small 300000 (at0 (sAt (ser p d (c.map lineOf)) i) r)
 nz:∀ (i:Nat) (a b:Int),c[i]?=some [5,a,b]→at0 (sAt (ser p d (c.map lineOf)) b.toNat) 0≠0
theorem SqL.keepX {K:PySem.W.Frag} {rows:List Addr} {H H':Hp} {a:Addr} {xs:List V} (h:SqL K H a xs) (hn:a ∉ rows) (e:SameX rows H H'):SqL K H' a xs:=by
 rcases h with (h | ⟨o,h⟩) | h
 ·exact .inl (.inl (e _ _ hn h))
 ·exact .inl (.inr ⟨o,e _ _ hn h⟩)
 ·exact .inr h
theorem tupX {K:PySem.W.Frag} {rows:List Addr} {H H':Hp} {a:Addr} {xs:List V} (hl:∀ r∈rows,∃ ys,H r=some (.lst ys)) (h:SqT K H a xs) (e:SameX rows H H'):SqT K H' a xs:=by
 rcases h with (h | ⟨o,h⟩) | h
 ·refine .inl (.inl (e _ _ (fun q=>?_) h))
  obtain ⟨ys,hy⟩:=hl a q
  rw [h] at hy;cases hy
 ·refine .inl (.inr ⟨o,e _ _ (fun q=>?_) h⟩)
  obtain ⟨ys,hy⟩:=hl a q
  rw [h] at hy;cases hy
 ·exact .inr h
theorem LnsAt.keepX {K:PySem.W.Frag} {rows:List Addr} {H H':Hp} {a:Addr} {c:List (List Int)} (hl:∀ r∈rows,∃ ys,H r=some (.lst ys)) (h:LnsAt K H a c) (hn:a ∉ rows) (e:SameX rows H H'):LnsAt K H' a c:=by
 obtain ⟨rs,h1,h2⟩:=h
 exact ⟨rs,SqL.keepX h1 hn e,Paired.mapP h2 fun _ _ z=>tupX hl z e⟩
theorem FrsAt.keepX {K:PySem.W.Frag} {rows:List Addr} {H H':Hp} {a:Addr} {c:List Rat} (hl:∀ r∈rows,∃ ys,H r=some (.lst ys)) (h:FrsAt K H a c) (hn:a ∉ rows) (e:SameX rows H H'):FrsAt K H' a c:=by
 obtain ⟨rs,h1,h2⟩:=h
 exact ⟨rs,SqL.keepX h1 hn e,Paired.mapP h2 fun _ _ z=>tupX hl z e⟩
theorem SerIn.keepX {K:PySem.W.Frag} {CS:Addr} {H H':Hp} {sa dx la dra ma:Addr} {rows:List Addr} {c:List (List Int)} {d:List Rat} {ss:List (List Rat)} {ks ks':Nat→Nat} (S:SerIn K CS H sa dx la dra ma rows c d ss ks) (e:SameX rows H H') (R:RowsK K H' rows ss ks'):SerIn K CS H' sa dx la dra ma rows c d ss ks':=by
 have hl:∀ r∈rows,∃ ys,H r=some (.lst ys):=fun r hr=>S.rws.lst hr
 refine ⟨e _ _ (fun q=>?_) S.ins,S.lns.keepX hl S.out.1 e,S.dir.keepX hl S.out.2.1 e,SqL.keepX S.mad S.out.2.2 e,S.out,S.len,R⟩
 obtain ⟨ys,hy⟩:=hl sa q
 rw [S.ins] at hy;cases hy
structure TxtS (K:PySem.W.Frag) (CS:Addr):Prop where
 cl:Cls K CS
 nL:NoAttr K CS "lines"
 nD:NoAttr K CS "direction"
 nM:NoAttr K CS "made"
section
variable {P:Program} {w:World} {K:PySem.W.Frag} {mg:Str→Option Value} {base:Heap} {CS:Addr}
def spMake (K:PySem.W.Frag) (CS:Addr):Sp:=fun vs H Q _=>∃ (sa dx la dra ma:Addr) (rows:List Addr) (c:List (List Int)) (p d:List Rat) (n i hm:Nat) (ks:Nat→Nat),vs=[.ref sa,.int i,.int hm]∧SerIn K CS H sa dx la dra ma rows c d (ser p d (c.map lineOf)) ks∧SerM c p d n∧i < c.length∧1≤hm∧hm≤8 ∧
 ∀ H' ks',SameX rows H H'→RowsK K H' rows (ser p d (c.map lineOf)) ks'→hm≤ks' i→Q .non H'
theorem ok_make (D:MethAt K CS "make" "Series.make" s_Series_make) (TS:TxtS K CS) (n_len:mg "len"=none) (C_lines_behind:Callee P w K mg base "lines_behind" ["lines","i"] 42 (spBehind K))
  (C_next_coefficient:Callee P w K mg base "next_coefficient" ["line","own","made","direction"] 46 (spNext K)):Mth P w K mg base CS "make" ["self","i","how_many"] 47 (spMake K CS):=by
 refine mkM (k:=46) D sc_Series_make (fun _ _ _ _ _ _ us hl=>match us,hl with | [_,_,_],_=>rfl) (fun vs H Q E h=>?_) (fun f cdv A outer s H vs Q E hr h=>?_)
 ·obtain ⟨sa,dx,la,dra,ma,rows,c,p,d,n,i,hm,ks,rfl,_⟩:=h
  rfl
 ·obtain ⟨sa,dx,la,dra,ma,rows,c,p,d,n,i,hm,ks,rfl,S,M,hi,h1,h8,k⟩:=h
  refine ⟨_,(pss_cons (ps_if (pt_cmpR op_ge (pe_callB call_len_seq (by rfl) n_len bt_len (pa_cons (pe_ix ix_list (pe_fld (pv 0) rfl) (pv 1) (fun _ _=>rfl)) pa_nil)) (pv 2) (nomark _)) (pss_one ps_retN) pss_nil)
   (pss_one (ps_for PassesOwn.never rfl (pi_list (pe_callC C_lines_behind hr (pa_cons (pe_fld (pv 0) rfl) (pa_cons (pv 1) pa_nil)))) (pg_name (i:=3) sc_Series_make.nd rfl (by first|exact .inl rfl|exact .inr rfl)) (pss_cons (ps_set (i:=4) sc_Series_make.nd rfl (by first|exact .inl rfl|exact .inr rfl) (pe_ix ix_list (pe_fld (pv 0) rfl) (pv 3) (fun _ _=>rfl)))
   (pss_one (ps_while PassesOwn.never (pt_cmpR op_lt (pe_callB call_len_seq (by rfl) n_len bt_len (pa_cons (pv 4) pa_nil)) (pv 2) (nomark _)) (pss_one (ps_expr (pe_bm PySem.F.plainAttrs_list PySem.F.slot_list_append PySem.F.type_list_append mt_append (pv 4) (pa_cons (pe_callC C_next_coefficient hr (pa_cons (pe_ix ix_list (pe_fld (pv 0) rfl) (pv 3) (fun _ _=>rfl)) (pa_cons (pv 4) (pa_cons (pe_fld (pv 0) rfl) (pa_cons (pe_fld (pv 0) rfl) pa_nil))))) pa_nil)))))))))),?_⟩
  have hir:i < rows.length:=by rw [S.len];exact hi
  obtain ⟨ri,hri⟩:∃ r,rows[i]?=some r:=⟨_,List.getElem?_eq_getElem hir⟩
  have hrow8:∀ j,j < c.length→(sAt (ser p d (c.map lineOf)) j).length=8:=fun j hj=>ser_row_length (by rw [List.length_map];exact hj)
  have plenK:∀ {H1:Hp} {r:Addr} {j kk:Nat} {vs:List Addr},j < c.length→kk≤8→Paired (FrAt K H1) vs ((sAt (ser p d (c.map lineOf)) j).take kk)→vs.length=kk:=fun hj hk hp=>by
   rw [plen hp,List.length_take,hrow8 _ hj];omega
  obtain ⟨vs0,hv0,hpv0⟩:=S.rws.row i ri hri
  have hki:=S.rws.k1 i hir
  have hlen0:vs0.length=ks i:=plenK (r:=ri) hi hki.2 hpv0
  refine ⟨_,rfl,sa,CS,dx,_,_,rfl,S.ins,TS.cl,TS.nM,rfl,_,rfl,ma,_,_,_,rfl,rfl,S.mad,atI_nat (v:=V.ref ri) (by rw [List.getElem?_map,hri];rfl),ri,_,rfl,.inl (SqL.of hv0),_,rfl,_,_,rfl,rfl,_,rfl,?_⟩
  rw [List.length_map,hlen0]
  by_cases hge:hm≤ks i
  ·rw [decide_eq_true (show ((hm:Nat):Int)≤((ks i:Nat):Int) by omega)]
   exact iteT (k H ks (SameX.refl _ _) S.rws hge)
  ·rw [decide_eq_false (show ¬ ((hm:Nat):Int)≤((ks i:Nat):Int) by omega)]
   refine iteF ?_
   refine ⟨_,rfl,sa,CS,dx,_,_,rfl,S.ins,TS.cl,TS.nL,rfl,_,rfl,la,c,i,n,rfl,S.lns,M.raw,M.fnd,M.c80,hi,fun H1 lb L s1 hlb hl1 B hL80=>?_⟩
   have S1:SerIn K CS H1 sa dx la dra ma rows c d (ser p d (c.map lineOf)) ks:=S.keepX (SameX.of s1) (S.rws.same s1)
   have hwell:∀ (j:Nat) (l:Line),(c.map lineOf)[j]?=some l→∀ u∈l.uses,u < j:=fun j l hj u hu=>by
    have:=well_uses (n:=n) (c.map lineOf) 0 (by rw [well_F n c 0 M.raw];exact M.fnd) j l hj u hu
    omega
   have hlbr:lb ∉ rows:=fun q=>by
    obtain ⟨ys,hy⟩:=S.rws.lst q
    rw [hlb] at hy;cases hy
   refine ⟨lb,rfl,⟨_,SqL.of hl1⟩,?_⟩
   refine for_list (K:=K) (a:=lb) (xs:=L.map fun j:Nat=>V.int j) (fun m σ H2=>∃ (ks':Nat→Nat) (u v:Option V),σ=[some (.ref sa),some (.int i),some (.int hm),u,v]∧SameX rows H1 H2∧RowsK K H2 rows (ser p d (c.map lineOf)) ks'∧∀ j∈L.take m,hm≤ks' j)
    ⟨ks,none,none,rfl,SameX.refl _ _,S1.rws,fun j hj=>by cases hj⟩ (fun m σ H2 _ ⟨_,_,_,_,s2,_⟩=>SqL.keepX (SqL.of hl1) hlbr s2) ?_ ?_
   ·rintro m x σ H2 hmm ⟨ks',u,v,rfl,s2,R2,hdone⟩
    obtain ⟨pl,hpl,rfl⟩:∃ j,L[m]?=some j∧x=V.int (j:Nat):=by
     rw [List.getElem?_map] at hmm
     cases e:L[m]? with
     | none=>rw [e] at hmm;cases hmm
     | some j=>rw [e] at hmm;exact ⟨j,rfl,(Option.some.inj hmm).symm⟩
    have hplL:=List.mem_of_getElem? hpl
    have hplc:pl < c.length:=by have:=(B.rch pl hplL).1;omega
    have hplr:pl < rows.length:=by rw [S.len];exact hplc
    obtain ⟨ro,hro⟩:∃ r,rows[pl]?=some r:=⟨_,List.getElem?_eq_getElem hplr⟩
    obtain ⟨raw,hraw⟩:∃ raw,c[pl]?=some raw:=⟨_,List.getElem?_eq_getElem hplc⟩
    have hcode:(c.map lineOf)[pl]?=some (lineOf raw):=by rw [List.getElem?_map,hraw];rfl
    have S2:=S1.keepX s2 R2
    have huse:∀ j∈(lineOf raw).uses,j < c.length∧hm≤ks' j∧j≠pl:=fun j hj=>by
     have hlt:=hwell pl _ hcode j hj
     have hjL:=B.cls pl hplL _ hcode j hj
     obtain ⟨t,ht⟩:=List.getElem?_of_mem hjL
     have htm:t < m:=by
      by_cases q:t < m
      ·exact q
      ·exfalso
       have ht':=List.getElem?_eq_some_iff.mp ht
       have hm':=List.getElem?_eq_some_iff.mp hpl
       by_cases q2:t=m
       ·subst q2
        rw [hpl] at ht
        have:=Option.some.inj ht
        omega
       ·have:=List.pairwise_iff_getElem.mp B.inc m t hm'.1 ht'.1 (by omega)
        rw [hm'.2,ht'.2] at this
        omega
     refine ⟨by omega,hdone j ?_,by omega⟩
     exact List.mem_of_getElem? (i:=t) (by rw [List.getElem?_take_of_lt htm];exact ht)
    refine ⟨_,rfl,sa,CS,dx,_,_,rfl,S2.ins,TS.cl,TS.nM,rfl,_,rfl,ma,_,_,_,rfl,rfl,S2.mad,atI_nat (v:=V.ref ro) (by rw [List.getElem?_map,hro];rfl),?_⟩
    refine ⟨fun t σ H3=>∃ kk:Nat,t=hm - kk∧σ=[some (.ref sa),some (.int i),some (.int hm),some (.int pl),some (.ref ro)]∧SameX rows H2 H3∧RowsK K H3 rows (ser p d (c.map lineOf)) (fun j=>if j=pl then kk else ks' j)∧ks' pl≤kk,
     ⟨hm - ks' pl,ks' pl,rfl,rfl,SameX.refl _ _,?_,Nat.le_refl _⟩,?_⟩
    ·have e:(fun j=>if j=pl then ks' pl else ks' j)=ks':=by
      funext j
      by_cases q:j=pl
      ·rw [if_pos q,q]
      ·rw [if_neg q]
     rw [e]
     exact R2
    ·rintro t σ H3 ⟨kk,rfl,rfl,s3,R3,hkk⟩
     have hk8:=R3.k1 pl hplr
     rw [if_pos rfl] at hk8
     obtain ⟨ov,hov,hop⟩:=R3.row pl ro hro
     rw [if_pos rfl] at hop
     have hol:ov.length=kk:=plenK (r:=ro) hplc hk8.2 hop
     refine ⟨_,rfl,ro,_,rfl,.inl (SqL.of hov),_,rfl,_,_,rfl,rfl,_,rfl,?_⟩
     rw [List.length_map,hol]
     by_cases hlt:kk < hm
     ·rw [decide_eq_true (show ((kk:Nat):Int) < ((hm:Nat):Int) by omega)]
      have S3:=S2.keepX s3 R3
      refine iteT ⟨fun σ' H'=>σ'=[some (.ref sa),some (.int i),some (.int hm),some (.int pl),some (.ref ro)]∧SameX rows H2 H'∧RowsK K H' rows (ser p d (c.map lineOf)) (fun j=>if j=pl then kk+1 else ks' j),?_,?_⟩
      ·rintro σ' H' ⟨rfl,s4,R4⟩
       exact ⟨hm - (kk+1),by omega,kk+1,rfl,rfl,s4,R4,by omega⟩
      ·obtain ⟨lx,x,w1,w2,hx⟩:=S3.lns.get hraw
       have hql:((sAt (ser p d (c.map lineOf)) pl).take kk).length=kk:=by rw [List.length_take,hrow8 pl hplc];omega
       have smA:∀ (j kj:Nat),Sm ((sAt (ser p d (c.map lineOf)) j).take kj):=fun j kj y hy=>by
        obtain ⟨r,hr⟩:=List.getElem?_of_mem (List.mem_of_mem_take hy)
        rw [← at0_some hr]
        exact M.small j r
       refine ⟨_,rfl,.inl ⟨rfl,_,SqL.of hov⟩,?_⟩
       refine ⟨_,rfl,sa,CS,dx,_,_,rfl,S3.ins,TS.cl,TS.nL,rfl,_,rfl,la,_,_,_,rfl,rfl,w1,w2,?_⟩
       refine ⟨_,rfl,?_⟩
       refine ⟨_,rfl,sa,CS,dx,_,_,rfl,S3.ins,TS.cl,TS.nM,rfl,?_⟩
       refine ⟨_,rfl,sa,CS,dx,_,_,rfl,S3.ins,TS.cl,TS.nD,rfl,?_⟩
       refine ⟨x,ro,ma,dra,raw,(sAt (ser p d (c.map lineOf)) pl).take kk,d,rows,fun j=>(sAt (ser p d (c.map lineOf)) j).take (ks' j),rfl,hx,M.raw raw (List.mem_of_getElem? hraw),⟨ov,SqL.of hov,hop⟩,by omega,by omega,smA _ _,S3.mad,S3.dir,?_,?_,?_,fun H4 nv s4 h4=>?_⟩
       ·rintro i' rfl
        have:=findsAll_get n c 0 M.fnd pl _ hraw
        have:decide (i' < (n:Int))=true:=this
        have:=of_decide_eq_true this
        rw [M.dl];exact this
       ·intro j hj
        obtain ⟨hjc,hjk,hjp⟩:=huse j hj
        have hjr:j < rows.length:=by rw [S.len];exact hjc
        obtain ⟨r,hr⟩:∃ r,rows[j]?=some r:=⟨_,List.getElem?_eq_getElem hjr⟩
        have hrow:=R3.row j r hr
        rw [if_neg hjp] at hrow
        obtain ⟨vs,hvs,hvp⟩:=hrow
        have hj8:=(R3.k1 j hjr).2
        rw [if_neg hjp] at hj8
        refine ⟨r,hr,⟨vs,SqL.of hvs,hvp⟩,?_,smA _ _⟩
        rw [hql,List.length_take,hrow8 j hjc]
        omega
       ·rintro a' b' rfl
        have hb1:=M.nz pl a' b' hraw
        have hbu:=huse b'.toNat (by show b'.toNat∈[a'.toNat,b'.toNat];simp)
        show at0 ((sAt (ser p d (c.map lineOf)) b'.toNat).take (ks' b'.toNat)) 0≠0
        rw [at0_take (by omega)]
        exact hb1
       ·have hnx:=ser_next (p:=p) (d:=d) (A:=fun j=>(sAt (ser p d (c.map lineOf)) j).take (ks' j)) hcode (show 1≤kk by omega) (by omega) (hwell pl _ hcode) fun j hj=>⟨ks' j,by have:=(huse j hj).2.1;omega,rfl⟩
        rw [hnx] at h4
        have hov4:=s4 ro _ hov
        refine ⟨ro,_,_,rfl,rfl,hov4,?_,?_⟩
        ·rw [List.length_map,hol,sizeLine_eq];omega
        ·have R4:=R3.same s4
         refine ⟨rfl,s3.trans ((SameX.of s4).trans fun b o hb e=>?_),R4.nd,fun j r hr=>?_,fun j hj=>?_⟩
         ·have hbr:b≠ro:=fun q=>hb (by rw [q];exact List.mem_of_getElem? hro)
          rw [upd_ne hbr]
          exact e
         ·by_cases q:j=pl
          ·subst q
           rw [hro] at hr
           cases hr
           rw [if_pos rfl]
           unfold RowK
           rw [take_next (at0_get (i:=kk) (by rw [hrow8 j hplc];omega))]
           refine ⟨ov++[nv],?_,?_⟩
           ·rw [upd_same,List.map_append];rfl
           ·exact psnoc (Paired.mapP hop fun _ _ z=>SqT.put (Same.seqT s4 z) hov4) (SqT.put h4 hov4)
          ·have hrow:=R4.row j r hr
           rw [if_neg q] at hrow ⊢
           have hne:r≠ro:=fun e=>q (by
            have h1:=List.getElem?_eq_some_iff.mp hr
            have h2:=List.getElem?_eq_some_iff.mp hro
            exact (List.getElem_inj R4.nd).mp (h1.2.trans (e.trans h2.2.symm)))
           exact hrow.tup (upd_ne hne) fun v' q' z=>SqT.put z hov4
         ·by_cases q:j=pl
          ·rw [if_pos q];omega
          ·have:=R3.k1 j hj
           rw [if_neg q] at this ⊢
           exact this
     ·rw [decide_eq_false (show ¬ ((kk:Nat):Int) < ((hm:Nat):Int) by omega)]
      refine iteF ⟨_,_,_,rfl,s2.trans s3,R3,fun j hj=>?_⟩
      by_cases q:j=pl
      ·rw [if_pos q];omega
      ·rw [if_neg q]
       rw [take_next hpl] at hj
       rcases List.mem_append.mp hj with hj | hj
       ·exact hdone j hj
       ·exact absurd (by simpa using hj) q
   ·rintro σ H2 ⟨ks',u,v,rfl,s2,R2,hdone⟩
    refine k H2 ks' ((SameX.of s1).trans s2) R2 (hdone i ?_)
    rw [List.length_map,List.take_length]
    exact B.top
end
end Lc
end
section
namespace Lc
open PySem PySem.Spec PyProof.Rows L2
open VagraLine (Line)
theorem cut0 {xs:List V} {m:Nat} (h:m≤xs.length):cutV xs none (some (m:Int))=xs.take m:=by
 unfold cutV
 rw [HT.sIx_none,sIxN,Nat.min_eq_left h]
 simp
theorem Paired.mem_mapP {α β:Type} {F G:α→β→Prop}:∀ {l:List α} {m:List β},Paired F l m→(∀ a b,a∈l→F a b→G a b)→Paired G l m
 | _,_,.nil,_=>.nil
 | _,_,.cons r t,h=>.cons (h _ _ (List.mem_cons_self ..) r) (Paired.mem_mapP t fun a b ha z=>h a b (List.mem_cons_of_mem _ ha) z)
section
variable {P:Program} {w:World} {K:PySem.W.Frag} {mg:Str→Option Value} {base:Heap} {CS:Addr}
def spChg (K:PySem.W.Frag) (CS:Addr):Sp:=fun vs H Q _=>∃ (sa dx la dra ma:Addr) (rows:List Addr) (c:List (List Int)) (p d:List Rat) (n i:Nat) (ks:Nat→Nat),vs=[.ref sa,.int i]∧SerIn K CS H sa dx la dra ma rows c d (ser p d (c.map lineOf)) ks∧SerM c p d n∧i < c.length ∧
 ∀ H' ks' v,SameX rows H H'→RowsK K H' rows (ser p d (c.map lineOf)) ks'→FrAt K H' v (at0 (sAt (ser p d (c.map lineOf)) i) 1)→Q (.ref v) H'
theorem ok_change_of (D:MethAt K CS "change_of" "Series.change_of" s_Series_change_of) (TS:TxtS K CS) (m_make:Mth P w K mg base CS "make" ["self","i","how_many"] 47 (spMake K CS)):Mth P w K mg base CS "change_of" ["self","i"] 48 (spChg K CS):=by
 refine mkM (k:=47) D sc_Series_change_of (fun _ _ _ _ _ _ us hl=>match us,hl with | [_,_],_=>rfl) (fun vs H Q E h=>?_) (fun f cdv A outer s H vs Q E hr h=>?_)
 ·obtain ⟨sa,dx,la,dra,ma,rows,c,p,d,n,i,ks,rfl,_⟩:=h
  rfl
 ·obtain ⟨sa,dx,la,dra,ma,rows,c,p,d,n,i,ks,rfl,S,M,hi,k⟩:=h
  refine ⟨_,(pss_cons (ps_expr (pe_methC TS.cl m_make hr (pv 0) (pa_cons (pv 1) (pa_cons pe_int pa_nil))))
   (pss_one (ps_ret (pe_ix ix_list (pe_ix ix_list (pe_fld (pv 0) rfl) (pv 1) (fun _ _=>rfl)) pe_int (fun _ _=>rfl))))),?_⟩
  refine ⟨_,rfl,sa,dx,_,rfl,S.ins,rfl,_,rfl,sa,dx,la,dra,ma,rows,c,p,d,n,i,2,ks,rfl,S,M,hi,by decide,by decide,fun H1 ks' s1 R1 hge=>?_⟩
  have S1:=S.keepX s1 R1
  have hir:i < rows.length:=by rw [S.len];exact hi
  obtain ⟨ri,hri⟩:∃ r,rows[i]?=some r:=⟨_,List.getElem?_eq_getElem hir⟩
  obtain ⟨vs,hv,hp⟩:=R1.row i ri hri
  have hF:FrsAt K H1 ri ((sAt (ser p d (c.map lineOf)) i).take (ks' i)):=⟨vs,SqL.of hv,hp⟩
  have hl8:(sAt (ser p d (c.map lineOf)) i).length=8:=ser_row_length (by rw [List.length_map];exact hi)
  obtain ⟨xs,v,w1,w2,w3⟩:=hF.get (at0_get (i:=1) (by rw [List.length_take,hl8];omega))
  rw [at0_take (by omega)] at w3
  refine ⟨_,rfl,sa,CS,dx,_,_,rfl,S1.ins,TS.cl,TS.nM,rfl,_,rfl,ma,_,_,_,rfl,rfl,S1.mad,atI_nat (v:=V.ref ri) (by rw [List.getElem?_map,hri];rfl),ri,_,_,_,rfl,rfl,w1,w2,?_⟩
  exact k H1 ks' v s1 R1 w3
def spFirst (K:PySem.W.Frag) (CS:Addr):Sp:=fun vs H Q _=>∃ (sa dx la dra ma:Addr) (rows:List Addr) (c:List (List Int)) (p d:List Rat) (n i hm:Nat) (ks:Nat→Nat),vs=[.ref sa,.int i,.int hm]∧SerIn K CS H sa dx la dra ma rows c d (ser p d (c.map lineOf)) ks∧SerM c p d n∧i < c.length∧1≤hm∧hm≤8 ∧
 ∀ H1 H' ks' l,SameX rows H H1→RowsK K H1 rows (ser p d (c.map lineOf)) ks'→Same H1 H'→H1 l=none→FrsNew K H' l ((sAt (ser p d (c.map lineOf)) i).take hm)→Q (.ref l) H'
theorem ok_first_coefficients (D:MethAt K CS "first_coefficients" "Series.first_coefficients" s_Series_first_coefficients) (TS:TxtS K CS) (m_make:Mth P w K mg base CS "make" ["self","i","how_many"] 47 (spMake K CS)):Mth P w K mg base CS "first_coefficients" ["self","i","how_many"] 48 (spFirst K CS):=by
 refine mkM (k:=47) D sc_Series_first_coefficients (fun _ _ _ _ _ _ us hl=>match us,hl with | [_,_,_],_=>rfl) (fun vs H Q E h=>?_) (fun f cdv A outer s H vs Q E hr h=>?_)
 ·obtain ⟨sa,dx,la,dra,ma,rows,c,p,d,n,i,hm,ks,rfl,_⟩:=h
  rfl
 ·obtain ⟨sa,dx,la,dra,ma,rows,c,p,d,n,i,hm,ks,rfl,S,M,hi,h1,h8,k⟩:=h
  refine ⟨_,(pss_cons (ps_expr (pe_methC TS.cl m_make hr (pv 0) (pa_cons (pv 1) (pa_cons (pv 2) pa_nil))))
   (pss_one (ps_ret (pe_slice sl_list (pe_ix ix_list (pe_fld (pv 0) rfl) (pv 1) (fun _ _=>rfl)) po_none (po_some (pv 2)))))),?_⟩
  refine ⟨_,rfl,sa,dx,_,rfl,S.ins,rfl,_,rfl,_,rfl,sa,dx,la,dra,ma,rows,c,p,d,n,i,hm,ks,rfl,S,M,hi,h1,h8,fun H1 ks' s1 R1 hge=>?_⟩
  have S1:=S.keepX s1 R1
  have hir:i < rows.length:=by rw [S.len];exact hi
  obtain ⟨ri,hri⟩:∃ r,rows[i]?=some r:=⟨_,List.getElem?_eq_getElem hir⟩
  obtain ⟨vs,hv,hp⟩:=R1.row i ri hri
  have hl8:(sAt (ser p d (c.map lineOf)) i).length=8:=ser_row_length (by rw [List.length_map];exact hi)
  have hk8:=(R1.k1 i hir).2
  have hvl:vs.length=ks' i:=by rw [plen hp,List.length_take,hl8];omega
  refine ⟨_,rfl,sa,CS,dx,_,_,rfl,S1.ins,TS.cl,TS.nM,rfl,_,rfl,ma,_,_,_,rfl,rfl,S1.mad,atI_nat (v:=V.ref ri) (by rw [List.getElem?_map,hri];rfl),_,rfl,_,rfl,ri,_,rfl,SqL.of hv,fun l hl=>?_⟩
  rw [cut0 (by rw [List.length_map,hvl];exact hge)]
  refine k H1 _ ks' l s1 R1 (same_upd hl) hl ⟨vs.take hm,by rw [upd_same,List.map_take],?_⟩
  have tk:∀ {l':List Addr} {m':List Rat} (t:Nat),Paired (FrAt K H1) l' m'→Paired (FrAt K H1) (l'.take t) (m'.take t):=by
   intro l' m' t h
   induction h generalizing t with
   | nil=>simp;exact .nil
   | cons r h ih =>
    cases t with
    | zero=>exact .nil
    | succ t=>exact .cons r (ih t)
  have:=tk hm hp
  rw [List.take_take,Nat.min_eq_left hge] at this
  exact Paired.mapP this fun _ _ z=>z.same (same_upd hl)
def spSInit (K:PySem.W.Frag) (CS:Addr):Sp:=fun vs H Q _=>∃ (p dx la ra dra:Addr) (us:List Rat),vs=[.ref p,.ref la,.ref ra,.ref dra]∧H p=some (.ins CS dx [])∧FrsAt K H ra us∧us.length≤1000 ∧
 ∀ H' ma rows,H' p=some (.ins CS dx (sf la dra ma))→(∀ b o,H b=some o→b≠p→H' b=some o)→H ma=none→H' ma=some (.lst (rows.map V.ref))→rows.Nodup→(∀ r∈rows,H r=none∧r≠ma)→Paired (fun r q=>∃ v,H' r=some (.lst [.ref v])∧FrAt K H' v q) rows us→Q .non H'
theorem ok_series_init (D:MethAt K CS "__init__" "Series.__init__" s_Series___init__) (TS:TxtS K CS):Mth P w K mg base CS "__init__" ["self","lines","results","direction"] 41 (spSInit K CS):=by
 refine mkM (k:=40) D sc_Series___init__ (fun _ _ _ _ _ _ us hl=>match us,hl with | [_,_,_,_],_=>rfl) (fun vs H Q E h=>?_) (fun f cdv A outer s H vs Q E hr h=>?_)
 ·obtain ⟨p,dx,la,ra,dra,us,rfl,_⟩:=h
  rfl
 ·obtain ⟨p,dx,la,ra,dra,us,rfl,hp,hra,hus,k⟩:=h
  refine ⟨_,(pss_cons (ps_fld (pv 0) (pv 1) rfl)
   (pss_cons (ps_fld (pv 0) (pv 3) rfl)
   (pss_one (ps_fld (pv 0) (pe_lc rfl sc_Series___init__.nd (pi_list (pv 2)) (show BlkOk ["self","lines","results","direction","value"] (defScope s_Series___init__) _ [("value",4)] from blkOk_by (by decide +kernel)) (fun _ _ _ _ _=>(pg_name (i:=4) sc_Series___init__.nd rfl (by first|exact .inl rfl|exact .inr rfl))) (fun _ _ _ _ _=>pts_nil) (fun _ _ _ _ _=>(pe_lst (pa_cons (pv 4) pa_nil)))) rfl)))),?_⟩
  refine ⟨_,rfl,_,rfl,p,CS,dx,_,rfl,hp,TS.cl,TS.nL,(by decide),?_⟩
  have k1:∀ b o,H b=some o→b≠p→upd H p (.ins CS dx (putF "lines" (.ref la) [])) b=some o:=fun b o e hb=>by rw [upd_ne hb];exact e
  have f1:∀ b,upd H p (.ins CS dx (putF "lines" (.ref la) [])) b=none→H b=none:=fun b e=>by
   by_cases q:b=p
   ·rw [q,upd_same] at e;cases e
   ·rw [upd_ne q] at e;exact e
  have p1:upd H p (.ins CS dx (putF "lines" (.ref la) [])) p=some (.ins CS dx (putF "lines" (.ref la) [])):=upd_same
  generalize upd H p (.ins CS dx (putF "lines" (.ref la) []))=H1 at k1 f1 p1 ⊢
  refine ⟨_,rfl,_,rfl,p,CS,dx,_,rfl,p1,TS.cl,TS.nD,(by show 1 < 1000;decide),?_⟩
  have k2:∀ b o,H1 b=some o→b≠p→upd H1 p (.ins CS dx (putF "direction" (.ref dra) (putF "lines" (.ref la) []))) b=some o:=fun b o e hb=>by rw [upd_ne hb];exact e
  have f2:∀ b,upd H1 p (.ins CS dx (putF "direction" (.ref dra) (putF "lines" (.ref la) []))) b=none→H1 b=none:=fun b e=>by
   by_cases q:b=p
   ·rw [q,upd_same] at e;cases e
   ·rw [upd_ne q] at e;exact e
  have p2:upd H1 p (.ins CS dx (putF "direction" (.ref dra) (putF "lines" (.ref la) []))) p=some _:=upd_same
  generalize upd H1 p (.ins CS dx (putF "direction" (.ref dra) (putF "lines" (.ref la) [])))=H2 at k2 f2 p2 ⊢
  have keep02:∀ b o,H b=some o→b≠p→H2 b=some o:=fun b o e hb=>k2 b o (k1 b o e hb) hb
  have kpx:∀ {a:Addr} {xs:List V},SqL K H a xs→SqL K H2 a xs:=fun {a xs} h=>by
   rcases h with (h | ⟨o,h⟩) | h
   ·exact .inl (.inl (keep02 _ _ h (ne_of h hp (by intro e;cases e))))
   ·exact .inl (.inr ⟨o,keep02 _ _ h (ne_of h hp (by intro e;cases e))⟩)
   ·exact .inr h
  have kpt:∀ {a:Addr} {xs:List V},SqT K H a xs→SqT K H2 a xs:=fun {a xs} h=>by
   rcases h with (h | ⟨o,h⟩) | h
   ·exact .inl (.inl (keep02 _ _ h (ne_of h hp (by intro e;cases e))))
   ·exact .inl (.inr ⟨o,keep02 _ _ h (ne_of h hp (by intro e;cases e))⟩)
   ·exact .inr h
  obtain ⟨rs,hl,hpp⟩:=hra
  have hl2:=kpx hl
  have hp2:Paired (FrAt K H2) rs us:=Paired.mapP hpp fun _ _ z=>kpt z
  refine ⟨_,rfl,ra,rfl,⟨_,hl2⟩,fun ma hma=>?_⟩
  refine lc_list (K:=K) (a:=ra) (xs:=rs.map V.ref) (fun m H3=>Same H2 H3∧∃ rows:List Addr,H3 ma=some (.lst (rows.map V.ref))∧rows.Nodup∧(∀ r∈rows,H2 r=none∧r≠ma)∧Paired (fun r q=>∃ v,H3 r=some (.lst [.ref v])∧FrAt K H3 v q) rows (us.take m))
   ⟨same_upd hma,[],upd_same,List.nodup_nil,(fun r h=>nomatch h),.nil⟩ (fun m H3 _ h3=>h3.1.seq hl2) ?_ ?_
  ·rintro m x H3 hm ⟨s3,rows,hma3,nd3,fr3,pr3⟩
   obtain ⟨v,q,rfl,hq,hvq,hlt⟩:=ppick hp2 hm
   refine ⟨rfl,tyes ?_⟩
   refine ⟨_,rfl,(by show 1≤sizeLine;decide),fun r hr=>?_⟩
   have s4:=same_upd (o:=.lst [V.ref v]) hr
   have hr4:upd H3 r (.lst [V.ref v]) r=some (.lst [V.ref v]):=upd_same
   have hnr:r ∉ rows:=fun hmem=>by
    obtain ⟨i,hi⟩:=List.getElem?_of_mem hmem
    have hi2:=(List.getElem?_eq_some_iff.mp hi).1
    rw [plen pr3] at hi2
    obtain ⟨r',h1,v',h2,_⟩:=pget pr3 (List.getElem?_eq_getElem hi2)
    rw [hi] at h1
    cases h1
    rw [h2] at hr;cases hr
   have nrm:r≠ma:=fun e=>by rw [e,hma3] at hr;cases hr
   generalize upd H3 r (.lst [V.ref v])=H4 at s4 hr4 ⊢
   have hma4:=s4 ma _ hma3
   refine ⟨_,hma4,?_,same_put hma (s3.trans s4),rows++[r],?_,?_,?_,?_⟩
   ·rw [List.length_map,plen pr3,List.length_take,sizeLine_eq];omega
   ·rw [upd_same,List.map_append];rfl
   ·rw [List.nodup_append]
    refine ⟨nd3,by simp,fun a ha b hb=>?_⟩
    have:b=r:=by simpa using hb
    subst this
    exact fun e=>hnr (e ▸ ha)
   ·intro r' hr'
    rcases List.mem_append.mp hr' with hr' | hr'
    ·exact fr3 r' hr'
    ·have:r'=r:=by simpa using hr'
     subst this
     exact ⟨s3.free hr,nrm⟩
   ·rw [take_next hq]
    refine psnoc (Paired.mem_mapP pr3 fun a b ha z=>?_) ?_
    ·obtain ⟨v',z1,z2⟩:=z
     exact ⟨v',by rw [upd_ne (fr3 a ha).2];exact s4 _ _ z1,SqT.put (Same.seqT s4 z2) hma4⟩
    ·exact ⟨v,by rw [upd_ne nrm];exact hr4,SqT.put (Same.seqT (s3.trans s4) hvq) hma4⟩
  ·rintro H3 ⟨s3,rows,hma3,nd3,fr3,pr3⟩
   rw [List.length_map,plen hp2,List.take_length] at pr3
   have p3:=s3 p _ p2
   have npm:p≠ma:=ne_of_none p2 hma
   refine ⟨_,rfl,p,CS,dx,_,rfl,p3,TS.cl,TS.nM,(by show 2 < 1000;decide),?_⟩
   have e1:putF "made" (.ref ma) (putF "direction" (.ref dra) (putF "lines" (.ref la) []))=sf la dra ma:=rfl
   rw [e1]
   have nrp:∀ r∈rows,r≠p:=fun r hr e=>by have:=(fr3 r hr).1;rw [e,p2] at this;cases this
   refine k _ ma rows upd_same (fun b o e hb=>?_) (f1 ma (f2 ma hma)) ?_ nd3 (fun r hr=>⟨f1 r (f2 r (fr3 r hr).1),(fr3 r hr).2⟩) (Paired.mem_mapP pr3 fun a b ha z=>?_)
   ·rw [upd_ne hb]
    exact s3 b o (keep02 b o e hb)
   ·rw [upd_ne npm.symm]
    exact hma3
   ·obtain ⟨v',z1,z2⟩:=z
    refine ⟨v',by rw [upd_ne (nrp a ha)];exact z1,?_⟩
    rcases z2 with (h | ⟨o,h⟩) | h
    ·exact .inl (.inl (by rw [upd_ne (ne_of h p3 (by intro e;cases e))];exact h))
    ·exact .inl (.inr ⟨o,by rw [upd_ne (ne_of h p3 (by intro e;cases e))];exact h⟩)
    ·exact .inr h
end
end Lc
end
section
namespace Lc
open PySem PySem.Spec PyProof.Rows L2
section
variable {P:Program} {w:World} {K:PySem.W.Frag} {mg:Str→Option Value} {base:Heap}
def spTold (K:PySem.W.Frag):Sp:=fun vs H Q _=>∃ (a:Addr) (qs:List Rat),vs=[.ref a]∧FrsAt K H a qs∧qs.length≤1000∧∀ H' l,Same H H'→H l=none→H' l=some (.lst ((toldQ qs).map V.int))→Q (.ref l) H'
def pairs (qs:List Rat):List Int:=qs.flatMap fun q=>[q.num,(q.den:Int)]
theorem pairs_length (qs:List Rat):(pairs qs).length=2*qs.length:=by
 unfold pairs
 induction qs with
 | nil=>rfl
 | cons q r ih=>rw [List.flatMap_cons,List.length_append,ih];simp only [List.length_cons,List.length_nil];omega
def spHeavy (K:PySem.W.Frag):Sp:=fun vs H Q _=>∃ (a:Addr) (qs:List Rat),vs=[.ref a]∧FrsAt K H a qs∧Q (.bl (heavyQ qs)) H
theorem ok_has_heavy (D:DefAt K mg "has_heavy" s_has_heavy) (c_MOST_WEIGHT_holder:Const mg "MOST_WEIGHT_holder" (.int 4000)) (C_weight:Callee P w K mg base "weight" ["x"] 41 (spWeight K)):Callee P w K mg base "has_heavy" ["fractions"] 42 (spHeavy K):=by
 refine mkC (k:=41) D sc_has_heavy (fun _ _ _ _ _ _ us hl=>match us,hl with | [_],_=>rfl) (fun vs H Q E h=>?_) (fun f cdv A outer s H vs Q E hr h=>?_)
 ·obtain ⟨a,qs,rfl,_⟩:=h
  rfl
 ·obtain ⟨a,qs,rfl,ha,k⟩:=h
  obtain ⟨rs,hl,hp⟩:=id ha
  refine ⟨_,(pss_cons (ps_for PassesOwn.never rfl (pi_list (pv 0)) (pg_name (i:=1) sc_has_heavy.nd rfl (by first|exact .inl rfl|exact .inr rfl)) (pss_one (ps_if (pt_cmpR op_gt (pe_callC C_weight hr (pa_cons (pv 1) pa_nil)) (pe_const c_MOST_WEIGHT_holder) (nomark _)) (pss_one (ps_ret pe_bl)) pss_nil)))
   (pss_one (ps_ret pe_bl))),?_⟩
  refine ⟨_,rfl,a,rfl,⟨_,hl⟩,?_⟩
  refine for_list (K:=K) (a:=a) (xs:=rs.map V.ref) (fun i σ H1=>∃ (u:Option V),σ=[some (.ref a),u]∧H1=H∧∀ (j:Nat) q,j < i→qs[j]?=some q→wt q≤4000) ⟨none,rfl,rfl,fun j q h=>absurd h (by omega)⟩ (fun i σ H1 _ ⟨_,_,e,_⟩=>e ▸ hl) ?_ ?_
  ·rintro i x σ H1 hi ⟨u,rfl,rfl,hall⟩
   obtain ⟨r,q,rfl,hq,hfr,hic⟩:=ppick hp hi
   refine ⟨_,rfl,r,q,rfl,hfr,_,_,rfl,rfl,_,rfl,?_⟩
   by_cases hw:4000 < wt q
   ·rw [decide_eq_true (show (4000:Int) < (wt q:Int) by omega)]
    refine iteT ?_
    have e:heavyQ qs=true:=List.any_eq_true.mpr ⟨q,List.mem_of_getElem? hq,decide_eq_true hw⟩
    rw [e] at k
    exact k
   ·rw [decide_eq_false (show ¬ (4000:Int) < (wt q:Int) by omega)]
    refine iteF ⟨_,rfl,rfl,fun j q' hj hj'=>?_⟩
    by_cases hji:j < i
    ·exact hall j q' hji hj'
    ·have:j=i:=by omega
     subst this
     rw [hq] at hj'
     cases hj'
     omega
  ·rintro σ H1 ⟨u,rfl,rfl,hall⟩
   rw [List.length_map,plen hp] at hall
   have e:heavyQ qs=false:=by
    cases q:heavyQ qs with
    | false=>rfl
    | true =>
     obtain ⟨y,hy,hw⟩:=List.any_eq_true.mp q
     obtain ⟨j,hj⟩:=List.getElem?_of_mem hy
     have h1:=(List.getElem?_eq_some_iff.mp hj).1
     have:=hall j y h1 hj
     have:=of_decide_eq_true hw
     omega
   rw [e] at k
   exact k
theorem ok_told (D:DefAt K mg "told" s_told) (n_len:mg "len"=none) (c_TOO_HEAVY:Const mg "TOO_HEAVY" (.int (-6))) (C_has_heavy:Callee P w K mg base "has_heavy" ["fractions"] 42 (spHeavy K)) :
  Callee P w K mg base "told" ["fractions"] 43 (spTold K):=by
 refine mkC (k:=42) D sc_told (fun _ _ _ _ _ _ us hl=>match us,hl with | [_],_=>rfl) (fun vs H Q E h=>?_) (fun f cdv A outer s H vs Q E hr h=>?_)
 ·obtain ⟨a,qs,rfl,_⟩:=h
  rfl
 ·obtain ⟨a,qs,rfl,ha,hlen,k⟩:=h
  obtain ⟨rs,hl,hp⟩:=id ha
  refine ⟨_,(pss_cons (ps_if (pt_val (pe_callC C_has_heavy hr (pa_cons (pv 0) pa_nil))) (pss_one (ps_ret (pe_lst (pa_cons (pe_const c_TOO_HEAVY) pa_nil)))) pss_nil)
   (pss_cons (ps_set (i:=1) sc_told.nd rfl (by first|exact .inl rfl|exact .inr rfl) (pe_lst (pa_cons (pe_callB call_len_seq (by rfl) n_len bt_len (pa_cons (pv 0) pa_nil)) pa_nil)))
   (pss_cons (ps_for PassesOwn.never rfl (pi_list (pv 0)) (pg_name (i:=2) sc_told.nd rfl (by first|exact .inl rfl|exact .inr rfl)) (pss_cons (ps_expr (pe_bm PySem.F.plainAttrs_list PySem.F.slot_list_append PySem.F.type_list_append mt_append (pv 1) (pa_cons (pe_ix ix_tup (pv 2) pe_int (fun _ _=>rfl)) pa_nil)))
   (pss_one (ps_expr (pe_bm PySem.F.plainAttrs_list PySem.F.slot_list_append PySem.F.type_list_append mt_append (pv 1) (pa_cons (pe_ix ix_tup (pv 2) pe_int (fun _ _=>rfl)) pa_nil))))))
   (pss_one (ps_ret (pv 1)))))),?_⟩
  refine ⟨_,rfl,a,qs,rfl,ha,_,rfl,?_⟩
  cases hh:heavyQ qs with
  | true =>
   refine iteT ⟨(by show 1≤sizeLine;decide),fun p hp'=>?_⟩
   refine k _ p (same_upd hp') hp' ?_
   have e:toldQ qs=[-6]:=by
    unfold toldQ
    rw [if_pos hh]
   rw [e]
   exact upd_same
  | false =>
   refine iteF ?_
   refine ⟨_,rfl,a,_,rfl,.inl hl,(by show 1≤sizeLine;decide),fun l hll=>?_⟩
   rw [List.length_map,plen hp]
   have sl:Same H (upd H l (.lst [.int (qs.length:Int)])):=same_upd hll
   refine ⟨_,rfl,a,rfl,⟨_,sl.seq hl⟩,?_⟩
   refine for_list (K:=K) (a:=a) (xs:=rs.map V.ref) (fun i σ H1=>∃ (u:Option V),σ=[some (.ref a),some (.ref l),u]∧Same H H1∧H1 l=some (.lst (((qs.length:Int)::pairs (qs.take i)).map V.int)))
    ⟨none,rfl,sl,upd_same⟩ (fun i σ H1 _ ⟨_,_,s1,_⟩=>s1.seq hl) ?_ ?_
   ·rintro i x σ H1 hi ⟨u,rfl,s1,hl1⟩
    obtain ⟨r,q,rfl,hq,h3,hic⟩:=ppick hp hi
    have hfr:FrAt K H1 r q:=FrAt.same h3 s1
    have hsz:((qs.length:Int)::pairs (qs.take i)).length≤2001:=by
     rw [List.length_cons,pairs_length,List.length_take]
     omega
    refine ⟨_,rfl,.inl ⟨rfl,_,SqL.of hl1⟩,_,rfl,_,_,_,_,rfl,rfl,hfr,rfl,l,_,_,rfl,rfl,hl1,(by rw [List.length_map,sizeLine_eq];omega),?_⟩
    have hfr2:=SqT.put (zs:=((qs.length:Int)::pairs (qs.take i)).map V.int++[V.int q.num]) hfr hl1
    refine ⟨_,rfl,.inl ⟨rfl,_,SqL.of upd_same⟩,_,rfl,_,_,_,_,rfl,rfl,hfr2,rfl,l,_,_,rfl,rfl,upd_same,(by rw [List.length_append,List.length_map,sizeLine_eq];simp only [List.length_cons,List.length_nil] at hsz ⊢;omega),?_⟩
    refine ⟨_,rfl,same_put hll (same_put hll s1),?_⟩
    have ep:pairs (qs.take i++[q])=pairs (qs.take i)++[q.num,(q.den:Int)]:=by
     unfold pairs
     rw [List.flatMap_append]
     rfl
    rw [upd_same,take_next hq,ep]
    simp
   ·rintro σ H1 ⟨u,rfl,s1,hl1⟩
    refine ⟨_,rfl,?_⟩
    rw [List.length_map,plen hp,List.take_length] at hl1
    have e:toldQ qs=(qs.length:Int)::pairs qs:=by
     unfold toldQ
     rw [if_neg (by rw [hh];decide)]
     rfl
    rw [← e] at hl1
    exact k H1 l s1 hll hl1
end
end Lc
end
section
namespace Lc
open PySem PySem.Spec PyProof.Rows L2
open VagraLine (Fault)
def isLT:HO→Bool
 | .lst _=>true
 | .tup _=>true
 | .frz _ _=>true
 | _=>false
def Keeps (H H':Hp):Prop:=∀ b o,isLT o=true→H b=some o→H' b=some o
theorem Keeps.trans {H H1 H2:Hp} (a:Keeps H H1) (b:Keeps H1 H2):Keeps H H2:=fun c o l h=>b c o l (a c o l h)
theorem Keeps.of {H H':Hp} (h:Same H H'):Keeps H H':=fun b o _ e=>h b o e
theorem Keeps.seqT {K:PySem.W.Frag} {H H':Hp} {a:Addr} {xs:List V} (e:Keeps H H') (h:SqT K H a xs):SqT K H' a xs:=by
 rcases h with (h | ⟨o,h⟩) | h
 ·exact .inl (.inl (e _ _ rfl h))
 ·exact .inl (.inr ⟨o,e _ _ rfl h⟩)
 ·exact .inr h
theorem FaultAt.keeps {K:PySem.W.Frag} {H H':Hp} {v:V}:∀ {o:Option Fault},FaultAt K H v o→Keeps H H'→FaultAt K H' v o
 | none,h,_=>h
 | some _,⟨r,h1,h2⟩,e=>⟨r,h1,e.seqT h2⟩
def isTF:HO→Bool
 | .tup _=>true
 | .frz _ _=>true
 | _=>false
def KeepT (H H':Hp):Prop:=∀ b o,isTF o=true→H b=some o→H' b=some o
theorem KeepT.refl (H:Hp):KeepT H H:=fun _ _ _ h=>h
theorem KeepT.trans {H H1 H2:Hp} (a:KeepT H H1) (b:KeepT H1 H2):KeepT H H2:=fun c o l h=>b c o l (a c o l h)
theorem KeepT.of {H H':Hp} (h:Same H H'):KeepT H H':=fun b o _ e=>h b o e
theorem keepT_put {H:Hp} {x:Addr} {o:HO} (h:∀ u,H x=some u→isTF u=false):KeepT H (upd H x o):=fun b u l e=>by
 by_cases q:b=x
 ·subst q
  rw [h u e] at l
  cases l
 ·rw [upd_ne q]
  exact e
theorem FaultAt.non {K:PySem.W.Frag} {H:Hp} {v:V}:∀ {o:Option Fault},FaultAt K H v o→decide (v=.non)=decide (o=none)
 | none,h=>by rw [show v=.non from h];rfl
 | some _,⟨r,h,_⟩=>by rw [h];rfl
theorem FrsNew.keeps {K:PySem.W.Frag} {H H':Hp} {a:Addr} {c:List Rat} (h:FrsNew K H a c) (e:Keeps H H'):FrsNew K H' a c:=by
 obtain ⟨rs,h1,h2⟩:=h
 exact ⟨rs,e _ _ rfl h1,Paired.mapP h2 fun _ _ z=>e.seqT z⟩
theorem LnsNew.keeps {K:PySem.W.Frag} {H H':Hp} {a:Addr} {c:List (List Int)} (h:LnsNew K H a c) (e:Keeps H H'):LnsNew K H' a c:=by
 obtain ⟨rs,h1,h2⟩:=h
 exact ⟨rs,e _ _ rfl h1,Paired.mapP h2 fun _ _ z=>e.seqT z⟩
theorem keeps_put {H:Hp} {x:Addr} {o:HO} (h:∀ u,H x=some u→isLT u=false):Keeps H (upd H x o):=fun b u l e=>by
 by_cases q:b=x
 ·subst q
  rw [h u e] at l
  cases l
 ·rw [upd_ne q]
  exact e
def hides (E:List Addr) (H:Hp):Hp:=fun b=>if b∈E then none else H b
theorem hides_some {E:List Addr} {b:Addr} {H:Hp} {o:HO} (h:hides E H b=some o):H b=some o∧b ∉ E:=by
 unfold hides at h
 by_cases e:b∈E
 ·rw [if_pos e] at h;cases h
 ·rw [if_neg e] at h;exact ⟨h,e⟩
theorem hides_ne {E:List Addr} {b:Addr} {H:Hp} (h:b ∉ E):hides E H b=H b:=by
 unfold hides
 rw [if_neg h]
theorem hides_sub (E:List Addr) (H:Hp):Same (hides E H) H:=fun b o e=>(hides_some e).1
theorem hides_same {E:List Addr} {H H':Hp} (h:Same H H'):Same (hides E H) (hides E H'):=fun b o e=>by
 obtain ⟨e1,e2⟩:=hides_some e
 rw [hides_ne e2]
 exact h b o e1
theorem hides_keeps {E:List Addr} {H H':Hp} (h:Keeps H H'):Keeps (hides E H) (hides E H'):=fun b o l e=>by
 obtain ⟨e1,e2⟩:=hides_some e
 rw [hides_ne e2]
 exact h b o l e1
abbrev Own:=Addr→Option (Bool × Nat)
def cov (own:Own) (da:Addr) (H:Hp):Hp:=fun b=>if own b=none∧b≠da then H b else none
theorem cov_some {own:Own} {da b:Addr} {H:Hp} {o:HO} (h:cov own da H b=some o):H b=some o∧own b=none∧b≠da:=by
 unfold cov at h
 by_cases e:own b=none∧b≠da
 ·rw [if_pos e] at h;exact ⟨h,e⟩
 ·rw [if_neg e] at h;cases h
theorem cov_in {own:Own} {da b:Addr} {H:Hp} (h1:own b=none) (h2:b≠da):cov own da H b=H b:=by
 unfold cov
 rw [if_pos ⟨h1,h2⟩]
theorem cov_sub (own:Own) (da:Addr) (H:Hp):Same (cov own da H) H:=fun b o e=>(cov_some e).1
theorem cov_keeps {own:Own} {da:Addr} {H H':Hp} (h:Keeps H H'):Keeps (cov own da H) (cov own da H'):=fun b o l e=>by
 obtain ⟨e1,e2,e3⟩:=cov_some e
 rw [cov_in e2 e3]
 exact h b o l e1
def EL (E:List Addr) (H:Hp):Prop:=∀ e∈E,∃ zs,H e=some (.lst zs)
def KeepE (E:List Addr) (H H':Hp):Prop:=∀ e∈E,∀ o,H e=some o→H' e=some o
theorem KeepE.refl (E:List Addr) (H:Hp):KeepE E H H:=fun _ _ _ h=>h
theorem KeepE.trans {E:List Addr} {H H1 H2:Hp} (a:KeepE E H H1) (b:KeepE E H1 H2):KeepE E H H2:=fun c h o e=>b c h o (a c h o e)
theorem KeepE.of {E:List Addr} {H H':Hp} (h:Same H H'):KeepE E H H':=fun b _ o e=>h b o e
theorem KeepE.ofKeeps {E:List Addr} {H H':Hp} (hE:EL E H) (h:Keeps H H'):KeepE E H H':=fun b hb o e=>by
 obtain ⟨zs,hz⟩:=hE b hb
 rw [hz] at e
 cases e
 exact h b _ rfl hz
theorem EL.keep {E:List Addr} {H H':Hp} (h:EL E H) (k:KeepE E H H'):EL E H':=fun e he=>by
 obtain ⟨zs,hz⟩:=h e he
 exact ⟨zs,k e he _ hz⟩
theorem SqT.hides {K:PySem.W.Frag} {H:Hp} {r:Addr} {E:List Addr} {xs:List V} (h:SqT K H r xs) (hE:EL E H):SqT K (Lc.hides E H) r xs:=by
 rcases h with (h | ⟨o,h⟩) | h
 ·refine .inl (.inl ?_)
  rw [hides_ne fun q=>by obtain ⟨zs,hz⟩:=hE r q;rw [h] at hz;cases hz]
  exact h
 ·refine .inl (.inr ⟨o,?_⟩)
  rw [hides_ne fun q=>by obtain ⟨zs,hz⟩:=hE r q;rw [h] at hz;cases hz]
  exact h
 ·exact .inr h
theorem FrsNew.hides {K:PySem.W.Frag} {H:Hp} {a:Addr} {E:List Addr} {c:List Rat} (h:FrsNew K H a c) (hn:a ∉ E) (hE:EL E H):FrsNew K (Lc.hides E H) a c:=by
 obtain ⟨rs,h1,h2⟩:=h
 exact ⟨rs,by rw [hides_ne hn];exact h1,Paired.mapP h2 fun _ _ z=>SqT.hides z hE⟩
theorem LnsNew.hides {K:PySem.W.Frag} {H:Hp} {a:Addr} {E:List Addr} {c:List (List Int)} (h:LnsNew K H a c) (hn:a ∉ E) (hE:EL E H):LnsNew K (Lc.hides E H) a c:=by
 obtain ⟨rs,h1,h2⟩:=h
 exact ⟨rs,by rw [hides_ne hn];exact h1,Paired.mapP h2 fun _ _ z=>SqT.hides z hE⟩
theorem FaultAt.hides {K:PySem.W.Frag} {H:Hp} {v:V} {E:List Addr} (hE:EL E H):∀ {o:Option Fault},FaultAt K H v o→FaultAt K (Lc.hides E H) v o
 | none,h=>h
 | some _,⟨r,h1,h2⟩=>⟨r,h1,SqT.hides h2 hE⟩
def CL (own:Own) (da:Addr) (H:Hp):Prop:=(∀ b,own b≠none→∃ xs,H b=some (.lst xs))∧∃ xs,H da=some (.lst xs)
theorem CL.same {own:Own} {da:Addr} {H H':Hp} (h:CL own da H) (s:Same H H'):CL own da H':=⟨fun b q=>by obtain ⟨xs,e⟩:=h.1 b q;exact ⟨xs,s _ _ e⟩,by obtain ⟨xs,e⟩:=h.2;exact ⟨xs,s _ _ e⟩⟩
theorem CL.keeps {own:Own} {da:Addr} {H H':Hp} (h:CL own da H) (s:Keeps H H'):CL own da H':=⟨fun b q=>by obtain ⟨xs,e⟩:=h.1 b q;exact ⟨xs,s _ _ rfl e⟩,by obtain ⟨xs,e⟩:=h.2;exact ⟨xs,s _ _ rfl e⟩⟩
theorem SqT.cov {K:PySem.W.Frag} {H:Hp} {r:Addr} {own:Own} {da:Addr} {xs:List V} (h:SqT K H r xs) (hC:CL own da H):SqT K (Lc.cov own da H) r xs:=by
 have key:∀ o,H r=some o→(∀ ys,o≠.lst ys)→Lc.cov own da H r=some o:=fun o e hn=>by
  have h1:own r=none:=by
   cases q:own r with
   | none=>rfl
   | some x =>
    obtain ⟨ys,e2⟩:=hC.1 r (by rw [q];simp)
    rw [e] at e2
    exact absurd (Option.some.inj e2) (hn ys)
  have h2:r≠da:=fun q=>by
   obtain ⟨ys,e2⟩:=hC.2
   rw [← q,e] at e2
   exact absurd (Option.some.inj e2) (hn ys)
  rw [cov_in h1 h2]
  exact e
 rcases h with (h | ⟨o,h⟩) | h
 ·exact .inl (.inl (key _ h (by intro ys e;cases e)))
 ·exact .inl (.inr ⟨o,key _ h (by intro ys e;cases e)⟩)
 ·exact .inr h
theorem FrsNew.cov {K:PySem.W.Frag} {H:Hp} {a:Addr} {own:Own} {da:Addr} {c:List Rat} (h:FrsNew K H a c) (h1:own a=none) (h2:a≠da) (hC:CL own da H):FrsNew K (Lc.cov own da H) a c:=by
 obtain ⟨rs,e1,e2⟩:=h
 exact ⟨rs,by rw [cov_in h1 h2];exact e1,Paired.mapP e2 fun _ _ z=>SqT.cov z hC⟩
theorem LnsNew.cov {K:PySem.W.Frag} {H:Hp} {a:Addr} {own:Own} {da:Addr} {c:List (List Int)} (h:LnsNew K H a c) (h1:own a=none) (h2:a≠da) (hC:CL own da H):LnsNew K (Lc.cov own da H) a c:=by
 obtain ⟨rs,e1,e2⟩:=h
 exact ⟨rs,by rw [cov_in h1 h2];exact e1,Paired.mapP e2 fun _ _ z=>SqT.cov z hC⟩
theorem FaultAt.cov {K:PySem.W.Frag} {H:Hp} {v:V} {own:Own} {da:Addr} (hC:CL own da H):∀ {o:Option Fault},FaultAt K H v o→FaultAt K (Lc.cov own da H) v o
 | none,h=>h
 | some _,⟨r,h1,h2⟩=>⟨r,h1,SqT.cov h2 hC⟩
def hf (n:Nat) (la da:Addr) (pv:V) (ra:Addr) (fv:V) (ka kp:Addr):List (Str × V) :=
 [("inputs",.int (n:Int)),("lines",.ref la),("directions",.ref da),("point",pv),("results",.ref ra),("fault",fv),("known_along",.ref ka),("known_partial",.ref kp)]
def PtAt (K:PySem.W.Frag) (H:Hp) (v:V):Option (List Rat)→Prop
 | none=>v=.non
 | some p=>∃ r,v=.ref r∧FrsNew K H r p
theorem PtAt.keeps {K:PySem.W.Frag} {H H':Hp} {v:V}:∀ {o:Option (List Rat)},PtAt K H v o→Keeps H H'→PtAt K H' v o
 | none,h,_=>h
 | some _,⟨r,h1,h2⟩,e=>⟨r,h1,h2.keeps e⟩
def SerAt (K:PySem.W.Frag) (CS:Addr) (Hh H:Hp) (own:Own) (o:Bool × Nat) (sa:Addr) (c:List (List Int)) (p dr:List Rat):Prop:=∃ (dx la dra ma:Addr) (rows:List Addr) (ks:Nat→Nat),H sa=some (.ins CS dx (sf la dra ma))∧LnsNew K Hh la c∧FrsNew K Hh dra dr ∧
 Hh ma=some (.lst (rows.map V.ref))∧rows.length=c.length∧(∀ r∈rows,own r=some o)∧RowsK K H rows (ser p dr (c.map lineOf)) ks
theorem SerAt.mono {K:PySem.W.Frag} {CS:Addr} {Hh Hh' H H':Hp} {own:Own} {o:Bool × Nat} {sa:Addr} {c:List (List Int)} {p dr:List Rat} (h:SerAt K CS Hh H own o sa c p dr) (k1:Keeps Hh Hh') (k2:Same H H'):SerAt K CS Hh' H' own o sa c p dr:=by
 obtain ⟨dx,la,dra,ma,rows,ks,h1,h2,h3,h4,h5,h6,h7⟩:=h
 exact ⟨dx,la,dra,ma,rows,ks,k2 _ _ h1,h2.keeps k1,h3.keeps k1,k1 _ _ rfl h4,h5,h6,h7.same k2⟩
theorem SerAt.other {K:PySem.W.Frag} {CS:Addr} {Hh Hh' H H':Hp} {own:Own} {o o':Bool × Nat} {sa:Addr} {c:List (List Int)} {p dr:List Rat} {rows':List Addr} (h:SerAt K CS Hh H own o sa c p dr) (hne:o≠o') (hr:∀ r∈rows',own r=some o') (hl:∀ r∈rows',∃ ys,H r=some (.lst ys)) (k1:Keeps Hh Hh') (k2:SameX rows' H H'):SerAt K CS Hh' H' own o sa c p dr:=by
 obtain ⟨dx,la,dra,ma,rows,ks,h1,h2,h3,h4,h5,h6,h7⟩:=h
 have hsa:sa ∉ rows':=fun q=>by obtain ⟨ys,hy⟩:=hl sa q;rw [h1] at hy;cases hy
 refine ⟨dx,la,dra,ma,rows,ks,k2 _ _ hsa h1,h2.keeps k1,h3.keeps k1,k1 _ _ rfl h4,h5,h6,h7.nd,fun i r hir=>?_,h7.k1⟩
 have hrr:r ∉ rows':=fun q=>by
  have a1:=h6 r (List.mem_of_getElem? hir)
  rw [hr r q] at a1
  exact hne (Option.some.inj a1).symm
 obtain ⟨vs,e1,e2⟩:=h7.row i r hir
 exact ⟨vs,k2 _ _ hrr e1,Paired.mapP e2 fun _ _ z=>tupX hl z k2⟩
def KnAt (K:PySem.W.Frag) (CS:Addr) (Hh H:Hp) (own:Own) (t:Bool) (kvs:List (Key × V)) (S:HS) (dirOf:Nat→Option (List Rat)):Prop:=∀ (k:Key) (v:V),valV kvs k=some v→∃ (d:Nat) (dr p:List Rat) (sa:Addr),k=Sum.inl (d:Int)∧dirOf d=some dr∧v=.ref sa∧S.pt=some p∧S.flt=none∧SerAt K CS Hh H own (t,d) sa S.c p dr
def dir1 (S:HS):Nat→Option (List Rat):=fun d=>S.dirs[d]?
def dir2 (S:HS):Nat→Option (List Rat):=fun k=>if k < S.n then some (unitQ S.n k) else none
structure HdAt (K:PySem.W.Frag) (C CS:Addr) (H:Hp) (a dx la da:Addr) (pv:V) (ra:Addr) (fv:V) (ka kp:Addr) (drs:List Addr) (kv1 kv2:List (Key × V)) (own:Own) (S:HS):Prop where
 ins:H a=some (.ins C dx (hf S.n la da pv ra fv ka kp))
 lns:LnsNew K (cov own da H) la S.c
 dir:H da=some (.lst (drs.map V.ref))
 drs:Paired (FrsNew K (cov own da H)) drs S.dirs
 pt:PtAt K (cov own da H) pv S.pt
 res:FrsNew K (cov own da H) ra S.res
 flt:FaultAt K (cov own da H) fv S.flt
 kn1:H ka=some (.dK kv1)
 kn2:H kp=some (.dK kv2)
 ko1:KnAt K CS (cov own da H) H own false kv1 S (dir1 S)
 ko2:KnAt K CS (cov own da H) H own true kv2 S (dir2 S)
 nd1:(kv1.map (·.1)).Nodup
 nd2:(kv2.map (·.1)).Nodup
 cl:CL own da H
 kne:ka≠kp
 oda:own da=none
def HolderAt (K:PySem.W.Frag) (C CS:Addr) (H:Hp) (a:Addr) (S:HS):Prop:=∃ dx la da pv ra fv ka kp drs kv1 kv2 own,HdAt K C CS H a dx la da pv ra fv ka kp drs kv1 kv2 own S
end Lc
end
section
namespace Lc
open PySem PySem.Spec PyProof.Rows L2
open VagraLine (Fault)
theorem nats_le:∀ (n:Nat) (l:List Nat),l.Nodup→(∀ k∈l,k < n)→l.length≤n
 | 0,[],_,_=>Nat.le_refl _
 | 0,k::_,_,h=>by
  have:=h k (List.mem_cons_self ..)
  omega
 | n+1,l,hn,h=>by
  by_cases hm:n∈l
  ·have h1:=nats_le n (l.erase n) (hn.erase _) fun k hk=>by
    obtain ⟨hne,hk'⟩:=(List.Nodup.mem_erase_iff hn).mp hk
    have:=h k hk'
    omega
   rw [List.length_erase_of_mem hm] at h1
   have:0 < l.length:=List.length_pos_of_mem hm
   omega
  ·have h1:=nats_le n l hn fun k hk=>by
    have:=h k hk
    have:k≠n:=fun e=>hm (by rw [← e];exact hk)
    omega
   omega
def keyNat:Key→Nat
 | .inl i=>i.toNat
 | .inr _=>0
theorem keys_le (n:Nat) (l:List Key) (hn:l.Nodup) (h:∀ k∈l,∃ d:Nat,d < n∧k=Sum.inl (d:Int)):l.length≤n:=by
 have h1:(l.map keyNat).Nodup:=by
  refine List.pairwise_map.mpr (List.Pairwise.imp_of_mem (fun {a b} ha hb hab e=>?_) hn)
  obtain ⟨d,_,rfl⟩:=h a ha
  obtain ⟨d',_,rfl⟩:=h b hb
  have e:((d:Int)).toNat=((d':Int)).toNat:=e
  exact hab (by rw [show (d:Int)=(d':Int) by omega])
 have:=nats_le n (l.map keyNat) h1 fun k hk=>by
  obtain ⟨a,ha,rfl⟩:=List.mem_map.mp hk
  obtain ⟨d,hd,rfl⟩:=h a ha
  show ((d:Int)).toNat < n
  omega
 rwa [List.length_map] at this
theorem HS.nz {S:HS} (G:S.Good) {p:List Rat} (hp:S.pt=some p) (hf:S.flt=none):∀ (i:Nat) (a b:Int),S.c[i]?=some [5,a,b]→at0 S.res b.toNat≠0:=fun i a b h=>by
 have hfl:(runQ p [] S.code).2=none:=by
  unfold HS.flt at hf
  rw [hp] at hf
  exact hf
 have hr:S.res=(runQ p [] S.code).1:=by
  unfold HS.res
  rw [hp]
 rw [hr]
 have hb:findsB S.n i [5,a,b]=true:=by
  have:=findsAll_get S.n S.c 0 G.fnd i _ h
  rwa [Nat.zero_add] at this
 have hb2:(decide (a < (i:Int)) && decide (b < (i:Int)))=true:=hb
 have hb3:b < (i:Int):=of_decide_eq_true (Bool.and_eq_true_iff.mp hb2).2
 have ho:=G.raw _ (List.mem_of_getElem? h)
 have hb0:0≤b:=by
  rcases ho with ⟨k,e,_⟩ | ⟨n,d,e,_⟩ | ⟨o,x,y,e,_,_,_,hy⟩ | ⟨x,e,_⟩
  ·cases e
  ·cases e
  ·cases e;exact hy
  ·cases e
 refine runQ_div p S.code [] hfl i a.toNat b.toNat ?_ ?_
 ·rw [List.getElem?_map,h]
  rfl
 ·simp only [List.length_nil]
  omega
theorem HS.resS {S:HS}:∀ q∈S.res,Small 200 q:=fun q hq=>by
 unfold HS.res at hq
 cases e:S.pt with
 | none=>rw [e] at hq;cases hq
 | some p =>
  rw [e] at hq
  exact weight_small (runQ_small p S.code [] (fun v h=>nomatch h) q hq)
theorem HS.resL {S:HS} {p:List Rat} (hp:S.pt=some p) (hf:S.flt=none):S.res.length=S.c.length:=by
 unfold HS.flt at hf
 unfold HS.res
 rw [hp] at hf ⊢
 have:=runQ_length p S.code [] hf
 show (runQ p [] S.code).1.length=_
 rw [this,List.length_map]
 simp
theorem hf_point {n la da po ra fv ka kp v}:putF "point" v (hf n la da po ra fv ka kp)=hf n la da v ra fv ka kp:=rfl
theorem hf_results {n la da po ra fv ka kp v}:putF "results" (.ref v) (hf n la da po ra fv ka kp)=hf n la da po v fv ka kp:=rfl
theorem hf_fault {n la da po ra fv ka kp v}:putF "fault" v (hf n la da po ra fv ka kp)=hf n la da po ra v ka kp:=rfl
theorem hf_along {n la da po ra fv ka kp v}:putF "known_along" (.ref v) (hf n la da po ra fv ka kp)=hf n la da po ra fv v kp:=rfl
theorem hf_dirs {n la da po ra fv ka kp v}:putF "directions" (.ref v) (hf n la da po ra fv ka kp)=hf n la v po ra fv ka kp:=rfl
theorem hf_lines {n la da po ra fv ka kp v}:putF "lines" (.ref v) (hf n la da po ra fv ka kp)=hf n v da po ra fv ka kp:=rfl
theorem hf_inputs {n la da po ra fv ka kp} {v:Nat}:putF "inputs" (.int v) (hf n la da po ra fv ka kp)=hf v la da po ra fv ka kp:=rfl
section
variable {K:PySem.W.Frag} {C CS:Addr} {H H':Hp} {a dx la da:Addr} {po:V} {ra:Addr} {fv:V} {ka kp:Addr} {drs:List Addr} {kv1 kv2 kvs:List (Key × V)} {own:Own} {S:HS} {E:List Addr}
theorem KnAt.len {Hh:Hp} {t:Bool} {dirOf:Nat→Option (List Rat)} {n:Nat} (h:KnAt K CS Hh H own t kvs S dirOf) (nd:(kvs.map (·.1)).Nodup) (hn:∀ d dr,dirOf d=some dr→d < n):kvs.length≤n:=by
 have:=keys_le n (kvs.map (·.1)) nd fun k hk=>by
  have hs:(valV kvs k).isSome=true:=by
   obtain ⟨p,hp,e⟩:=List.mem_map.mp hk
   rw [← valV_any]
   exact List.any_eq_true.mpr ⟨p,hp,decide_eq_true e⟩
  obtain ⟨v,hv⟩:=Option.isSome_iff_exists.mp hs
  obtain ⟨d,dr,p,sa,h1,h2,_⟩:=h k v hv
  exact ⟨d,hn d dr h2,h1⟩
 rwa [List.length_map] at this
theorem dir1_lt {d:Nat} {dr:List Rat} (h:dir1 S d=some dr):d < S.dirs.length:=(List.getElem?_eq_some_iff.mp h).1
theorem dir2_lt {d:Nat} {dr:List Rat} (h:dir2 S d=some dr):d < S.n:=by
 unfold dir2 at h
 by_cases q:d < S.n
 ·exact q
 ·rw [if_neg q] at h;cases h
theorem KnAt.mono {Hh Hh':Hp} {t:Bool} {dirOf:Nat→Option (List Rat)} (h:KnAt K CS Hh H own t kvs S dirOf) (k1:Keeps Hh Hh') (k2:Same H H'):KnAt K CS Hh' H' own t kvs S dirOf:=fun k v e=>by
 obtain ⟨d,dr,p,sa,h1,h2,h3,h4,h5,h6⟩:=h k v e
 exact ⟨d,dr,p,sa,h1,h2,h3,h4,h5,h6.mono k1 k2⟩
theorem HdAt.mono0 (B:HdAt K C CS H a dx la da po ra fv ka kp drs kv1 kv2 own S) (s:Same H H'):HdAt K C CS H' a dx la da po ra fv ka kp drs kv1 kv2 own S:=by
 have kp':Keeps (cov own da H) (cov own da H'):=cov_keeps (Keeps.of s)
 exact ⟨s _ _ B.ins,B.lns.keeps kp',s _ _ B.dir,Paired.mapP B.drs fun _ _ z=>z.keeps kp',B.pt.keeps kp',B.res.keeps kp',B.flt.keeps kp',s _ _ B.kn1,s _ _ B.kn2,B.ko1.mono kp' s,B.ko2.mono kp' s,B.nd1,B.nd2,B.cl.same s,B.kne,B.oda⟩
theorem HolderAt.mono (h:HolderAt K C CS (hides E H) a S) (s:Same H H'):HolderAt K C CS (hides E H') a S:=by
 obtain ⟨dx,la,da,po,ra,fv,ka,kp,drs,kv1,kv2,own,B⟩:=h
 exact ⟨dx,la,da,po,ra,fv,ka,kp,drs,kv1,kv2,own,B.mono0 (hides_same s)⟩
theorem HolderAt.hideMore {D:Addr} (h:HolderAt K C CS (hides E H) a S) (hD:H D=none):HolderAt K C CS (hides (D::E) H) a S:=by
 have e:hides (D::E) H=hides E H:=by
  funext b
  unfold hides
  by_cases q:b=D
  ·subst q
   rw [if_pos (List.mem_cons_self ..),hD]
   split <;> rfl
  ·by_cases q2:b∈E
   ·rw [if_pos (List.mem_cons_of_mem _ q2),if_pos q2]
   ·rw [if_neg q2,if_neg (by intro h;rcases List.mem_cons.mp h with h | h;exact q h;exact q2 h)]
 rw [e]
 exact h
theorem hides_upd {D:Addr} {o:HO} (h:D∈E):hides E (upd H D o)=hides E H:=by
 funext b
 unfold hides
 by_cases q:b∈E
 ·rw [if_pos q,if_pos q]
 ·have hb:b≠D:=fun e=>q (by rw [e];exact h)
  rw [if_neg q,if_neg q,upd_ne hb]
theorem HolderAt.unhide {D:Addr} (h:HolderAt K C CS (hides (D::E) H) a S) (hE:D ∉ E):HolderAt K C CS (hides E H) a S:=by
 obtain ⟨dx,la,da,po,ra,fv,ka,kp,drs,kv1,kv2,own,B⟩:=h
 refine ⟨dx,la,da,po,ra,fv,ka,kp,drs,kv1,kv2,own,B.mono0 fun b o e=>?_⟩
 obtain ⟨e1,e2⟩:=hides_some e
 rw [hides_ne (fun q=>e2 (List.mem_cons_of_mem _ q))]
 exact e1
def Known (K:PySem.W.Frag) (C CS:Addr) (H:Hp) (a:Addr) (S:HS) (t:Bool) (d:Nat) (sa:Addr):Prop:=∃ dx la da pv ra fv ka kp drs kv1 kv2 own,HdAt K C CS H a dx la da pv ra fv ka kp drs kv1 kv2 own S∧valV (if t=true then kv2 else kv1) (Sum.inl (d:Int))=some (.ref sa)
def dirOf (S:HS) (t:Bool):Nat→Option (List Rat):=if t=true then dir2 S else dir1 S
theorem KnAt.grow {Hh Hh':Hp} {t t0:Bool} {d0:Nat} {df:Nat→Option (List Rat)} {rows:List Addr} (h:KnAt K CS Hh H own t kvs S df) (k1:Keeps Hh Hh') (k2:SameX rows H H') (hr:∀ r∈rows,own r=some (t0,d0)) (hl:∀ r∈rows,∃ ys,H r=some (.lst ys))
  (hc:t=t0→∀ v,valV kvs (Sum.inl (d0:Int))=some v→∃ (dr p:List Rat) (sa:Addr),df d0=some dr∧v=.ref sa∧S.pt=some p∧S.flt=none∧SerAt K CS Hh' H' own (t,d0) sa S.c p dr):KnAt K CS Hh' H' own t kvs S df:=fun k v e=>by
 obtain ⟨d,dr,p,sa,h1,h2,h3,h4,h5,h6⟩:=h k v e
 by_cases q:(t,d)=(t0,d0)
 ·injection q with q1 q2
  subst q1 q2
  rw [h1] at e
  obtain ⟨dr',p',sa',g1,g2,g3,g4,g5⟩:=hc rfl v e
  exact ⟨d,dr',p',sa',h1,g1,g2,g3,g4,g5⟩
 ·exact ⟨d,dr,p,sa,h1,h2,h3,h4,h5,h6.other q hr hl k1 k2⟩
theorem HdAt.grow {t0:Bool} {d0:Nat} {rows:List Addr} (B:HdAt K C CS H a dx la da po ra fv ka kp drs kv1 kv2 own S) (e:SameX rows H H') (hr:∀ r∈rows,own r=some (t0,d0)) (hl:∀ r∈rows,∃ ys,H r=some (.lst ys)) (hl':∀ r∈rows,∃ ys,H' r=some (.lst ys))
  (hc:∀ v,valV (if t0=true then kv2 else kv1) (Sum.inl (d0:Int))=some v→∃ (dr p:List Rat) (sa:Addr),dirOf S t0 d0=some dr∧v=.ref sa∧S.pt=some p∧S.flt=none∧SerAt K CS (cov own da H') H' own (t0,d0) sa S.c p dr):HdAt K C CS H' a dx la da po ra fv ka kp drs kv1 kv2 own S:=by
 have up:∀ b o,H b=some o→own b=none→H' b=some o:=fun b o q qo=>e b o (fun hm=>by rw [hr b hm] at qo;cases qo) q
 have kp':Keeps (cov own da H) (cov own da H'):=fun b o _ q=>by
  obtain ⟨q1,q2,q3⟩:=cov_some q
  rw [cov_in q2 q3]
  exact up b o q1 q2
 have nl:∀ {b:Addr} {o:HO},H b=some o→(∀ ys,o≠.lst ys)→H' b=some o:=fun {b o} q hn=>e b o (fun hm=>by
  obtain ⟨ys,hy⟩:=hl b hm
  rw [q] at hy
  exact hn ys (Option.some.inj hy)) q
 have cl':CL own da H':=by
  refine ⟨fun b q=>?_,?_⟩
  ·by_cases hm:b∈rows
   ·exact hl' b hm
   ·obtain ⟨xs,hx⟩:=B.cl.1 b q
    exact ⟨xs,e b _ hm hx⟩
  ·by_cases hm:da∈rows
   ·exact hl' da hm
   ·obtain ⟨xs,hx⟩:=B.cl.2
    exact ⟨xs,e da _ hm hx⟩
 have hda:da ∉ rows:=fun hm=>by
  have:=hr da hm
  rw [B.oda] at this
  cases this
 refine ⟨nl B.ins (by intro ys q;cases q),B.lns.keeps kp',e _ _ hda B.dir,Paired.mapP B.drs fun _ _ z=>z.keeps kp',B.pt.keeps kp',B.res.keeps kp',B.flt.keeps kp',nl B.kn1 (by intro ys q;cases q),nl B.kn2 (by intro ys q;cases q),?_,?_,B.nd1,B.nd2,cl',B.kne,B.oda⟩
 ·refine B.ko1.grow kp' e hr hl fun ht v hv=>?_
  subst ht
  exact hc v hv
 ·refine B.ko2.grow kp' e hr hl fun ht v hv=>?_
  subst ht
  exact hc v hv
theorem serM {p dr:List Rat} (G:S.Good) (hp:S.pt=some p) (hf:S.flt=none) (hd:dr.length=S.n) (hs:∀ x∈dr,Small 200 x):SerM S.c p dr S.n:=by
 have hfl:(runQ p [] S.code).2=none:=by
  unfold HS.flt at hf
  rw [hp] at hf
  exact hf
 have hr:S.res=(runQ p [] S.code).1:=by
  unfold HS.res
  rw [hp]
 obtain ⟨h1,h2,h3⟩:=ser_run (p:=p) (d:=dr) (c:=S.code) (n:=S.n) hs (by rw [well_F S.n S.c 0 G.raw];exact G.fnd) hfl (by rw [List.length_map];exact G.c80)
 refine ⟨G.raw,G.fnd,hd,G.c80,fun i r=>(h3 i r).mono (by decide),fun i x y hx=>?_⟩
 have:=HS.nz G hp hf i x y hx
 rw [hr] at this
 show at0 (sAt (ser p dr S.code) y.toNat) 0≠0
 rw [h1]
 exact this
theorem ser_change {p dr:List Rat} (G:S.Good) (hp:S.pt=some p) (hf:S.flt=none) (hs:∀ x∈dr,Small 200 x) (i:Nat):at0 (sAt (ser p dr S.code) i) 1=at0 (changesQ dr S.res [] S.code) i:=by
 have hfl:(runQ p [] S.code).2=none:=by
  unfold HS.flt at hf
  rw [hp] at hf
  exact hf
 have hr:S.res=(runQ p [] S.code).1:=by
  unfold HS.res
  rw [hp]
 obtain ⟨h1,h2,h3⟩:=ser_run (p:=p) (d:=dr) (c:=S.code) (n:=S.n) hs (by rw [well_F S.n S.c 0 G.raw];exact G.fnd) hfl (by rw [List.length_map];exact G.c80)
 rw [hr]
 exact (h2 i).symm
theorem ser_head {p dr:List Rat} (G:S.Good) (hp:S.pt=some p) (hf:S.flt=none) (hs:∀ x∈dr,Small 200 x) (i:Nat):at0 (sAt (ser p dr S.code) i) 0=at0 S.res i:=by
 have hfl:(runQ p [] S.code).2=none:=by
  unfold HS.flt at hf
  rw [hp] at hf
  exact hf
 have hr:S.res=(runQ p [] S.code).1:=by
  unfold HS.res
  rw [hp]
 obtain ⟨h1,h2,h3⟩:=ser_run (p:=p) (d:=dr) (c:=S.code) (n:=S.n) hs (by rw [well_F S.n S.c 0 G.raw];exact G.fnd) hfl (by rw [List.length_map];exact G.c80)
 rw [hr]
 exact h1 i
theorem Known.use {t:Bool} {d:Nat} {sa:Addr} (h:Known K C CS (hides E H) a S t d sa) (hE:EL E H):∃ (dr p:List Rat) (sx sl sd sm:Addr) (rows:List Addr) (ks:Nat→Nat),dirOf S t d=some dr∧S.pt=some p∧S.flt=none∧SerIn K CS H sa sx sl sd sm rows S.c dr (ser p dr S.code) ks ∧
  ∀ H' ks',SameX rows H H'→RowsK K H' rows (ser p dr S.code) ks'→HolderAt K C CS (hides E H') a S∧Known K C CS (hides E H') a S t d sa∧KeepE E H H'∧KeepT H H':=by
 obtain ⟨dx,la,da,po,ra,fv,ka,kp,drs,kv1,kv2,own,B,hv⟩:=h
 have hk:∃ (dr p:List Rat),dirOf S t d=some dr∧S.pt=some p∧S.flt=none∧SerAt K CS (cov own da (hides E H)) (hides E H) own (t,d) sa S.c p dr:=by
  cases t with
  | false =>
   obtain ⟨d',dr,p,sa',h1,h2,h3,h4,h5,h6⟩:=B.ko1 _ _ hv
   have e:d'=d:=by injection h1 with h1;omega
   subst e
   cases h3
   exact ⟨dr,p,h2,h4,h5,h6⟩
  | true =>
   obtain ⟨d',dr,p,sa',h1,h2,h3,h4,h5,h6⟩:=B.ko2 _ _ hv
   have e:d'=d:=by injection h1 with h1;omega
   subst e
   cases h3
   exact ⟨dr,p,h2,h4,h5,h6⟩
 obtain ⟨dr,p,g1,g2,g3,sx,sl,sd,sm,rows,ks,q1,q2,q3,q4,q5,q6,q7⟩:=hk
 have sub:Same (hides E H) H:=hides_sub E H
 have csub:Same (cov own da (hides E H)) H:=(cov_sub own da _).trans sub
 have out:∀ {b:Addr} {o:HO},cov own da (hides E H) b=some o→b ∉ rows:=fun {b o} q hm=>by
  have:=(cov_some q).2.1
  rw [q6 b hm] at this
  cases this
 have hrl:∀ r∈rows,∃ ys,hides E H r=some (.lst ys):=fun r hr=>q7.lst hr
 have hrl0:∀ r∈rows,∃ ys,H r=some (.lst ys):=fun r hr=>by obtain ⟨ys,hy⟩:=hrl r hr;exact ⟨ys,sub _ _ hy⟩
 have hrE:∀ r∈rows,r ∉ E:=fun r hr=>by obtain ⟨ys,hy⟩:=hrl r hr;exact (hides_some hy).2
 refine ⟨dr,p,sx,sl,sd,sm,rows,ks,g1,g2,g3,⟨sub _ _ q1,(q2.at).same csub,(q3.at).same csub,SqL.of (csub _ _ q4),⟨?_,?_,out q4⟩,q5,q7.same sub⟩,fun H' ks' sx' R'=>?_⟩
 ·obtain ⟨_,e1,_⟩:=q2;exact out e1
 ·obtain ⟨_,e1,_⟩:=q3;exact out e1
 ·have kE:KeepE E H H':=fun e he o eo=>sx' e o (fun hm=>hrE e hm he) eo
  have hE':EL E H':=hE.keep kE
  have sxh:SameX rows (hides E H) (hides E H'):=fun b o hb eo=>by
   obtain ⟨e1,e2⟩:=hides_some eo
   rw [hides_ne e2]
   exact sx' b o hb e1
  have Rh:RowsK K (hides E H') rows (ser p dr S.code) ks':=⟨R'.nd,fun i r hi=>by
   obtain ⟨vs,e1,e2⟩:=R'.row i r hi
   exact ⟨vs,by rw [hides_ne (hrE r (List.mem_of_getElem? hi))];exact e1,Paired.mapP e2 fun _ _ z=>SqT.hides z hE'⟩,R'.k1⟩
  have kc:Keeps (cov own da (hides E H)) (cov own da (hides E H')):=fun b o _ q=>by
   obtain ⟨e1,e2,e3⟩:=cov_some q
   rw [cov_in e2 e3]
   exact sxh b o (out q) e1
  have hsa:sa ∉ rows:=fun hm=>by obtain ⟨ys,hy⟩:=hrl sa hm;rw [q1] at hy;cases hy
  have B':HdAt K C CS (hides E H') a dx la da po ra fv ka kp drs kv1 kv2 own S:=by
   refine B.grow (t0:=t) (d0:=d) sxh q6 hrl (fun r hr=>Rh.lst hr) fun v hv'=>?_
   rw [hv] at hv'
   cases hv'
   exact ⟨dr,p,sa,g1,rfl,g2,g3,sx,sl,sd,sm,rows,ks',sxh _ _ hsa q1,q2.keeps kc,q3.keeps kc,kc _ _ rfl q4,q5,q6,Rh⟩
  refine ⟨⟨dx,la,da,po,ra,fv,ka,kp,drs,kv1,kv2,own,B'⟩,⟨dx,la,da,po,ra,fv,ka,kp,drs,kv1,kv2,own,B',hv⟩,kE,fun b o lt eo=>sx' b o (fun hm=>?_) eo⟩
  obtain ⟨ys,hy⟩:=hrl0 b hm
  rw [eo] at hy
  cases hy
  cases lt
end
end Lc
end
section
namespace Lc
open PySem PySem.Spec PyProof.Rows L2
open VagraLine (Fault)
structure Txt (K:PySem.W.Frag) (C:Addr):Prop where
 cl:Cls K C
 n1:NoAttr K C "inputs"
 n2:NoAttr K C "lines"
 n3:NoAttr K C "directions"
 n4:NoAttr K C "point"
 n5:NoAttr K C "results"
 n6:NoAttr K C "fault"
 n7:NoAttr K C "known_along"
 n8:NoAttr K C "known_partial"
theorem lk_putF {f m:Str} {v:V} (h:(m == f)=false):∀ fs:List (Str × V),(putF f v fs).lookup m=fs.lookup m
 | []=>by
  unfold putF
  rw [List.lookup_cons,h]
 | (g,x)::r=>by
  unfold putF
  by_cases e:g=f
  ·rw [if_pos e,List.lookup_cons,List.lookup_cons,e,h]
  ·rw [if_neg e,List.lookup_cons,List.lookup_cons,lk_putF h r]
section
variable {P:Program} {w:World} {K:PySem.W.Frag} {mg:Str→Option Value} {base:Heap} {C CS:Addr}
def spForget (C:Addr):Sp:=fun vs H Q _=>∃ (p dx:Addr) (fs:List (Str × V)),vs=[.ref p]∧H p=some (.ins C dx fs)∧fs.length≤20∧∀ H' ka kp,H' p=some (.ins C dx (putF "known_partial" (.ref kp) (putF "known_along" (.ref ka) fs)))→H ka=none→H kp=none→ka≠kp→H' ka=some (.dK [])→H' kp=some (.dK []) →
 (∀ b o,H b=some o→b≠p→H' b=some o)→Q .non H'
theorem ok_forget_series (D:MethAt K C "forget_series" "Holder.forget_series" s_Holder_forget_series) (T:Txt K C):Mth P w K mg base C "forget_series" ["self"] 41 (spForget C):=by
 refine mkM (k:=40) D sc_Holder_forget_series (fun _ _ _ _ _ _ us hl=>match us,hl with | [_],_=>rfl) (fun vs H Q E h=>?_) (fun f cdv A outer s H vs Q E hr h=>?_)
 ·obtain ⟨p,dx,fs,rfl,_⟩:=h
  rfl
 ·obtain ⟨p,dx,fs,rfl,hp,hl,k⟩:=h
  refine ⟨_,(pss_cons (ps_fld (pv 0) pe_dnewK rfl)
   (pss_one (ps_fld (pv 0) pe_dnewK rfl))),?_⟩
  intro ka hka
  have q1:p≠ka:=ne_of_none hp hka
  have l1:=len_putF "known_along" (.ref ka) fs
  refine ⟨_,rfl,p,C,dx,_,rfl,(by rw [upd_ne q1];exact hp),T.cl,T.n7,by omega,?_⟩
  have k1:∀ b o,H b=some o→b≠p→upd (upd H ka (.dK [])) p (.ins C dx (putF "known_along" (.ref ka) fs)) b=some o:=fun b o e hb=>by rw [upd_ne hb,upd_ne (ne_of_none e hka)];exact e
  have f1:∀ b,upd (upd H ka (.dK [])) p (.ins C dx (putF "known_along" (.ref ka) fs)) b=none→H b=none∧b≠ka:=fun b e=>by
   by_cases q:b=p
   ·rw [q,upd_same] at e;cases e
   ·rw [upd_ne q] at e
    by_cases q':b=ka
    ·rw [q',upd_same] at e;cases e
    ·rw [upd_ne q'] at e;exact ⟨e,q'⟩
  have p1:upd (upd H ka (.dK [])) p (.ins C dx (putF "known_along" (.ref ka) fs)) p=some _:=upd_same
  have r1:upd (upd H ka (.dK [])) p (.ins C dx (putF "known_along" (.ref ka) fs)) ka=some (.dK []):=by rw [upd_ne q1.symm,upd_same]
  generalize upd (upd H ka (.dK [])) p (.ins C dx (putF "known_along" (.ref ka) fs))=H1 at k1 f1 p1 r1 ⊢
  intro kp hkp
  have q2:p≠kp:=ne_of_none p1 hkp
  have q3:=(f1 kp hkp).2
  refine ⟨_,rfl,p,C,dx,_,rfl,(by rw [upd_ne q2];exact p1),T.cl,T.n8,by omega,?_⟩
  refine k _ ka kp upd_same hka (f1 kp hkp).1 q3.symm ?_ ?_ fun b o e hb=>?_
  ·rw [upd_ne q1.symm,upd_ne q3.symm]
   exact r1
  ·rw [upd_ne q2.symm,upd_same]
  ·have:=k1 b o e hb
   rw [upd_ne hb,upd_ne (ne_of_none this hkp)]
   exact this
def lpF (fs:List (Str × V)) (ra ka kp:Addr):List (Str × V):=putF "known_partial" (.ref kp) (putF "known_along" (.ref ka) (putF "fault" .non (putF "results" (.ref ra) (putF "point" .non fs))))
def spLeave (C:Addr):Sp:=fun vs H Q _=>∃ (p dx:Addr) (fs:List (Str × V)),vs=[.ref p]∧H p=some (.ins C dx fs)∧fs.length≤12∧fs.lookup (Str.ofString "forget_series")=none∧∀ H' ra ka kp,H' p=some (.ins C dx (lpF fs ra ka kp))→H ra=none→ka≠kp→H' ra=some (.lst [])→H' ka=some (.dK [])→H' kp=some (.dK []) →
 (∀ b o,H b=some o→b≠p→H' b=some o)→Q .non H'
theorem ok_leave_point (D:MethAt K C "leave_point" "Holder.leave_point" s_Holder_leave_point) (T:Txt K C) (m_forget_series:Mth P w K mg base C "forget_series" ["self"] 41 (spForget C)):Mth P w K mg base C "leave_point" ["self"] 42 (spLeave C):=by
 refine mkM (k:=41) D sc_Holder_leave_point (fun _ _ _ _ _ _ us hl=>match us,hl with | [_],_=>rfl) (fun vs H Q E h=>?_) (fun f cdv A outer s H vs Q E hr h=>?_)
 ·obtain ⟨p,dx,fs,rfl,_⟩:=h
  rfl
 ·obtain ⟨p,dx,fs,rfl,hp,hl,hlk,k⟩:=h
  refine ⟨_,(pss_cons (ps_fld (pv 0) pe_non rfl)
   (pss_cons (ps_fld (pv 0) (pe_lst pa_nil) rfl)
   (pss_cons (ps_fld (pv 0) pe_non rfl)
   (pss_one (ps_expr (pe_methC0 T.cl m_forget_series hr (pv 0))))))),?_⟩
  refine ⟨_,rfl,p,C,dx,_,rfl,hp,T.cl,T.n4,by omega,?_⟩
  have l1:=len_putF "point" .non fs
  have k1:∀ b o,H b=some o→b≠p→upd H p (.ins C dx (putF "point" .non fs)) b=some o:=fun b o e hb=>by rw [upd_ne hb];exact e
  have f1:∀ b,upd H p (.ins C dx (putF "point" .non fs)) b=none→H b=none:=fun b e=>by
   by_cases q:b=p
   ·rw [q,upd_same] at e;cases e
   ·rw [upd_ne q] at e;exact e
  have p1:upd H p (.ins C dx (putF "point" .non fs)) p=some (.ins C dx (putF "point" .non fs)):=upd_same
  generalize upd H p (.ins C dx (putF "point" .non fs))=H1 at k1 f1 p1 ⊢
  refine ⟨Nat.zero_le _,fun ra hra=>?_⟩
  have q2:p≠ra:=ne_of_none p1 hra
  have l2:=len_putF "results" (.ref ra) (putF "point" .non fs)
  refine ⟨_,rfl,p,C,dx,_,rfl,(by rw [upd_ne q2];exact p1),T.cl,T.n5,by omega,?_⟩
  have k2:∀ b o,H1 b=some o→b≠p→upd (upd H1 ra (.lst [])) p (.ins C dx (putF "results" (.ref ra) (putF "point" .non fs))) b=some o:=fun b o e hb=>by rw [upd_ne hb,upd_ne (ne_of_none e hra)];exact e
  have p2:upd (upd H1 ra (.lst [])) p (.ins C dx (putF "results" (.ref ra) (putF "point" .non fs))) p=some _:=upd_same
  have r2:upd (upd H1 ra (.lst [])) p (.ins C dx (putF "results" (.ref ra) (putF "point" .non fs))) ra=some (.lst []):=by rw [upd_ne q2.symm,upd_same]
  generalize upd (upd H1 ra (.lst [])) p (.ins C dx (putF "results" (.ref ra) (putF "point" .non fs)))=H2 at k2 p2 r2 ⊢
  have l3:=len_putF "fault" .non (putF "results" (.ref ra) (putF "point" .non fs))
  refine ⟨_,rfl,p,C,dx,_,rfl,p2,T.cl,T.n6,by omega,?_⟩
  have k3:∀ b o,H2 b=some o→b≠p→upd H2 p (.ins C dx (putF "fault" .non (putF "results" (.ref ra) (putF "point" .non fs)))) b=some o:=fun b o e hb=>by rw [upd_ne hb];exact e
  have p3:upd H2 p (.ins C dx (putF "fault" .non (putF "results" (.ref ra) (putF "point" .non fs)))) p=some _:=upd_same
  generalize upd H2 p (.ins C dx (putF "fault" .non (putF "results" (.ref ra) (putF "point" .non fs))))=H3 at k3 p3 ⊢
  refine ⟨_,rfl,p,dx,_,rfl,p3,(by rw [lk_putF (by decide),lk_putF (by decide),lk_putF (by decide)];exact hlk),p,dx,_,rfl,p3,by omega,fun H4 ka kp e1 e2 e3 e4 e5 e6 e7=>?_⟩
  exact k H4 ra ka kp e1 (f1 ra hra) e4 (e7 ra _ (k3 ra _ r2 q2.symm) q2.symm) e5 e6 fun b o e hb=>e7 b o (k3 b o (k2 b o (k1 b o e hb) hb) hb) hb
def spInit (K:PySem.W.Frag) (C CS:Addr):Sp:=fun vs H Q _=>∃ (p dx:Addr),vs=[.ref p]∧H p=some (.ins C dx [])∧∀ H',HolderAt K C CS H' p emptyS→(∀ b o,H b=some o→b≠p→H' b=some o)→Q .non H'
theorem knil {Hh H:Hp} {own:Own} {t:Bool} {S:HS} {df:Nat→Option (List Rat)}:KnAt K CS Hh H own t [] S df:=fun k v e=>by cases e
theorem ok_init (D:MethAt K C "__init__" "Holder.__init__" s_Holder___init__) (T:Txt K C) (m_leave_point:Mth P w K mg base C "leave_point" ["self"] 42 (spLeave C)):Mth P w K mg base C "__init__" ["self"] 43 (spInit K C CS):=by
 refine mkM (k:=42) D sc_Holder___init__ (fun _ _ _ _ _ _ us hl=>match us,hl with | [_],_=>rfl) (fun vs H Q E h=>?_) (fun f cdv A outer s H vs Q E hr h=>?_)
 ·obtain ⟨p,dx,rfl,_⟩:=h
  rfl
 ·obtain ⟨p,dx,rfl,hp,k⟩:=h
  refine ⟨_,(pss_cons (ps_fld (pv 0) pe_int rfl)
   (pss_cons (ps_fld (pv 0) (pe_lst pa_nil) rfl)
   (pss_cons (ps_fld (pv 0) (pe_lst pa_nil) rfl)
   (pss_one (ps_expr (pe_methC0 T.cl m_leave_point hr (pv 0))))))),?_⟩
  refine ⟨_,rfl,p,C,dx,_,rfl,hp,T.cl,T.n1,(by decide),?_⟩
  have k1:∀ b o,H b=some o→b≠p→upd H p (.ins C dx (putF "inputs" (.int 0) [])) b=some o:=fun b o e hb=>by rw [upd_ne hb];exact e
  have p1:upd H p (.ins C dx (putF "inputs" (.int 0) [])) p=some (.ins C dx (putF "inputs" (.int 0) [])):=upd_same
  generalize upd H p (.ins C dx (putF "inputs" (.int 0) []))=H1 at k1 p1 ⊢
  refine ⟨Nat.zero_le _,fun la hla=>?_⟩
  have q2:p≠la:=ne_of_none p1 hla
  refine ⟨_,rfl,p,C,dx,_,rfl,(by rw [upd_ne q2];exact p1),T.cl,T.n2,(by decide),?_⟩
  have k2:∀ b o,H1 b=some o→b≠p→upd (upd H1 la (.lst [])) p (.ins C dx (putF "lines" (.ref la) (putF "inputs" (.int 0) []))) b=some o:=fun b o e hb=>by rw [upd_ne hb,upd_ne (ne_of_none e hla)];exact e
  have p2:upd (upd H1 la (.lst [])) p (.ins C dx (putF "lines" (.ref la) (putF "inputs" (.int 0) []))) p=some _:=upd_same
  have r2:upd (upd H1 la (.lst [])) p (.ins C dx (putF "lines" (.ref la) (putF "inputs" (.int 0) []))) la=some (.lst []):=by rw [upd_ne q2.symm,upd_same]
  generalize upd (upd H1 la (.lst [])) p (.ins C dx (putF "lines" (.ref la) (putF "inputs" (.int 0) [])))=H2 at k2 p2 r2 ⊢
  refine ⟨Nat.zero_le _,fun da hda=>?_⟩
  have q3:p≠da:=ne_of_none p2 hda
  have q4:la≠da:=ne_of_none r2 hda
  refine ⟨_,rfl,p,C,dx,_,rfl,(by rw [upd_ne q3];exact p2),T.cl,T.n3,(by show 2 < 1000;decide),?_⟩
  have k3:∀ b o,H2 b=some o→b≠p→upd (upd H2 da (.lst [])) p (.ins C dx (putF "directions" (.ref da) (putF "lines" (.ref la) (putF "inputs" (.int 0) [])))) b=some o:=fun b o e hb=>by rw [upd_ne hb,upd_ne (ne_of_none e hda)];exact e
  have p3:upd (upd H2 da (.lst [])) p (.ins C dx (putF "directions" (.ref da) (putF "lines" (.ref la) (putF "inputs" (.int 0) [])))) p=some _:=upd_same
  have r3:upd (upd H2 da (.lst [])) p (.ins C dx (putF "directions" (.ref da) (putF "lines" (.ref la) (putF "inputs" (.int 0) [])))) da=some (.lst []):=by rw [upd_ne q3.symm,upd_same]
  generalize upd (upd H2 da (.lst [])) p (.ins C dx (putF "directions" (.ref da) (putF "lines" (.ref la) (putF "inputs" (.int 0) []))))=H3 at k3 p3 r3 ⊢
  refine ⟨_,rfl,p,dx,_,rfl,p3,(by rfl),?_⟩
  refine ⟨p,dx,_,rfl,p3,(by show 3≤12;decide),(by rfl),fun H4 ra ka kp h1 h2 h3 h4 h5 h5' h6=>?_⟩
  have hla:H4 la=some (.lst []):=h6 la _ (k3 la _ r2 q2.symm) q2.symm
  have hda:H4 da=some (.lst []):=h6 da _ r3 q3.symm
  have nra:ra≠da:=fun e=>by rw [e,r3] at h2;cases h2
  refine k H4 ⟨dx,la,da,.non,ra,.non,ka,kp,[],[],[],fun _=>none,?_,⟨[],?_,.nil⟩,hda,.nil,rfl,⟨[],?_,.nil⟩,rfl,h5,h5',knil,knil,List.nodup_nil,List.nodup_nil,⟨fun b q=>absurd rfl q,⟨_,hda⟩⟩,h3,rfl⟩ fun b o e hb=>h6 b o (k3 b o (k2 b o (k1 b o e hb) hb) hb) hb
  ·exact h1
  ·rw [cov_in rfl q4];exact hla
  ·rw [cov_in rfl nra];exact h4
def spLook (K:PySem.W.Frag) (C CS:Addr) (g:HS→Int→V):Sp:=fun vs H Q _=>∃ (a:Addr) (E:List Addr) (S:HS) (i:Int),vs=[.ref a,.int i]∧HolderAt K C CS (hides E H) a S∧Q (g S i) H
theorem HdAt.insH {E:List Addr} {H:Hp} {a dx la da:Addr} {po:V} {ra:Addr} {fv:V} {ka kp:Addr} {drs:List Addr} {kv1 kv2:List (Key × V)} {own:Own} {S:HS} (B:HdAt K C CS (hides E H) a dx la da po ra fv ka kp drs kv1 kv2 own S):H a=some (.ins C dx (hf S.n la da po ra fv ka kp)):=(hides_some B.ins).1
theorem HdAt.sub {E:List Addr} {H:Hp} {a dx la da:Addr} {po:V} {ra:Addr} {fv:V} {ka kp:Addr} {drs:List Addr} {kv1 kv2:List (Key × V)} {own:Own} {S:HS} (B:HdAt K C CS (hides E H) a dx la da po ra fv ka kp drs kv1 kv2 own S):Same (cov own da (hides E H)) H:=(cov_sub own da _).trans (hides_sub E H)
theorem ok_has_line (D:MethAt K C "has_line" "Holder.has_line" s_Holder_has_line) (T:Txt K C) (n_len:mg "len"=none):Mth P w K mg base C "has_line" ["self","i"] 41 (spLook K C CS fun S i=>.bl (hasLine S i)):=by
 refine mkM (k:=40) D sc_Holder_has_line (fun _ _ _ _ _ _ us hl=>match us,hl with | [_,_],_=>rfl) (fun vs H Q E h=>?_) (fun f cdv A outer s H vs Q E hr h=>?_)
 ·obtain ⟨a,ev,S,i,rfl,_⟩:=h
  rfl
 ·obtain ⟨a,ev,S,i,rfl,⟨dx,la,da,po,ra,fv,ka,kp,drs,kv1,kv2,own,B⟩,k⟩:=h
  refine ⟨_,(pss_one (ps_ret (pe_and (pe_cmpR op_le pe_int (pv 1) (nomark _)) (pe_one (pe_cmpR op_lt (pv 1) (pe_callB call_len_seq (by rfl) n_len bt_len (pa_cons (pe_fld (pv 0) rfl) pa_nil)) (nomark _)))))),?_⟩
  have hi:=B.insH
  obtain ⟨rs,h1,h2⟩:=B.lns.at.same B.sub
  refine ⟨_,rfl,_,_,rfl,rfl,_,rfl,?_⟩
  unfold hasLine at k
  dsimp only at k
  by_cases h0:0≤i
  ·rw [decide_eq_true h0] at k ⊢
   refine iteT ⟨_,rfl,_,rfl,a,C,dx,_,_,rfl,hi,T.cl,T.n2,rfl,la,_,rfl,.inl h1,_,_,rfl,rfl,?_⟩
   dsimp only
   rw [List.length_map,plen h2]
   exact k
  ·rw [decide_eq_false h0] at k ⊢
   exact iteF k
theorem ok_has_direction (D:MethAt K C "has_direction" "Holder.has_direction" s_Holder_has_direction) (T:Txt K C) (n_len:mg "len"=none):Mth P w K mg base C "has_direction" ["self","d"] 41 (spLook K C CS fun S i=>.bl (hasDir S i)):=by
 refine mkM (k:=40) D sc_Holder_has_direction (fun _ _ _ _ _ _ us hl=>match us,hl with | [_,_],_=>rfl) (fun vs H Q E h=>?_) (fun f cdv A outer s H vs Q E hr h=>?_)
 ·obtain ⟨a,ev,S,i,rfl,_⟩:=h
  rfl
 ·obtain ⟨a,ev,S,i,rfl,⟨dx,la,da,po,ra,fv,ka,kp,drs,kv1,kv2,own,B⟩,k⟩:=h
  refine ⟨_,(pss_one (ps_ret (pe_and (pe_cmpR op_le pe_int (pv 1) (nomark _)) (pe_one (pe_cmpR op_lt (pv 1) (pe_callB call_len_seq (by rfl) n_len bt_len (pa_cons (pe_fld (pv 0) rfl) pa_nil)) (nomark _)))))),?_⟩
  have hi:=B.insH
  have hd:=(hides_some B.dir).1
  refine ⟨_,rfl,_,_,rfl,rfl,_,rfl,?_⟩
  unfold hasDir at k
  dsimp only at k
  by_cases h0:0≤i
  ·rw [decide_eq_true h0] at k ⊢
   refine iteT ⟨_,rfl,_,rfl,a,C,dx,_,_,rfl,hi,T.cl,T.n3,rfl,da,_,rfl,.inl (SqL.of hd),_,_,rfl,rfl,?_⟩
   dsimp only
   rw [List.length_map,plen B.drs]
   exact k
  ·rw [decide_eq_false h0] at k ⊢
   exact iteF k
def spNeed (K:PySem.W.Frag) (C CS:Addr):Sp:=fun vs H Q _=>∃ (a:Addr) (E:List Addr) (S:HS),vs=[.ref a]∧HolderAt K C CS (hides E H) a S∧Q (.int S.need) H
theorem ok_run_refusal (D:MethAt K C "run_refusal" "Holder.run_refusal" s_Holder_run_refusal) (T:Txt K C) (c_NO_POINT:Const mg "NO_POINT" (.int (-4))) (c_FAULT:Const mg "FAULT" (.int (-5))):Mth P w K mg base C "run_refusal" ["self"] 41 (spNeed K C CS):=by
 refine mkM (k:=40) D sc_Holder_run_refusal (fun _ _ _ _ _ _ us hl=>match us,hl with | [_],_=>rfl) (fun vs H Q E h=>?_) (fun f cdv A outer s H vs Q E hr h=>?_)
 ·obtain ⟨a,ev,S,rfl,_⟩:=h
  rfl
 ·obtain ⟨a,ev,S,rfl,⟨dx,la,da,po,ra,fv,ka,kp,drs,kv1,kv2,own,B⟩,k⟩:=h
  refine ⟨_,(pss_cons (ps_if (pt_cmpR op_isN (pe_fld (pv 0) rfl) pe_non (nomark _)) (pss_one (ps_ret (pe_const c_NO_POINT))) pss_nil)
   (pss_cons (ps_if (pt_cmpR op_notN (pe_fld (pv 0) rfl) pe_non (nomark _)) (pss_one (ps_ret (pe_const c_FAULT))) pss_nil)
   (pss_one (ps_ret pe_int)))),?_⟩
  have hi:=B.insH
  have hp:=B.pt
  have hfn:=B.flt.non
  unfold HS.need at k
  refine ⟨_,rfl,a,C,dx,_,_,rfl,hi,T.cl,T.n4,rfl,rfl,_,rfl,?_⟩
  cases e:S.pt with
  | none =>
   rw [e] at hp k
   rw [show po=.non from hp]
   exact iteT k
  | some p =>
   rw [e] at hp k
   obtain ⟨r,hr1,_⟩:=hp
   rw [hr1]
   refine iteF ?_
   refine ⟨_,rfl,a,C,dx,_,_,rfl,hi,T.cl,T.n6,rfl,rfl,_,rfl,?_⟩
   rw [hfn]
   cases e2:S.flt with
   | none =>
    rw [e2] at k
    exact iteF k
   | some x =>
    rw [e2] at k
    exact iteT k
def fltL:Option Fault→List Int
 | none=>[0]
 | some e=>[1,(e.line:Int),(e.kind:Int)]
def spFault (K:PySem.W.Frag) (C CS:Addr):Sp:=fun vs H Q _=>∃ (a:Addr) (E:List Addr) (S:HS),vs=[.ref a]∧HolderAt K C CS (hides E H) a S∧∀ H' r,Same H H'→H r=none→H' r=some (.lst ((fltL S.flt).map V.int))→Q (.ref r) H'
theorem ok_tell_fault (D:MethAt K C "tell_fault" "Holder.tell_fault" s_Holder_tell_fault) (T:Txt K C):Mth P w K mg base C "tell_fault" ["self"] 41 (spFault K C CS):=by
 refine mkM (k:=40) D sc_Holder_tell_fault (fun _ _ _ _ _ _ us hl=>match us,hl with | [_],_=>rfl) (fun vs H Q E h=>?_) (fun f cdv A outer s H vs Q E hr h=>?_)
 ·obtain ⟨a,ev,S,rfl,_⟩:=h
  rfl
 ·obtain ⟨a,ev,S,rfl,⟨dx,la,da,po,ra,fv,ka,kp,drs,kv1,kv2,own,B⟩,k⟩:=h
  refine ⟨_,(pss_cons (ps_if (pt_cmpR op_isN (pe_fld (pv 0) rfl) pe_non (nomark _)) (pss_one (ps_ret (pe_lst (pa_cons pe_int pa_nil)))) pss_nil)
   (pss_one (ps_ret (pe_lst (pa_cons pe_int (pa_cons (pe_ix ix_tup (pe_fld (pv 0) rfl) pe_int (fun _ _=>rfl)) (pa_cons (pe_ix ix_tup (pe_fld (pv 0) rfl) pe_int (fun _ _=>rfl)) pa_nil))))))),?_⟩
  have hi:=B.insH
  have hfv:=(B.flt.same B.sub)
  refine ⟨_,rfl,a,C,dx,_,_,rfl,hi,T.cl,T.n6,rfl,rfl,_,rfl,?_⟩
  rw [hfv.non]
  cases e:S.flt with
  | none =>
   rw [e] at k
   refine iteT ⟨(by show 1≤sizeLine;decide),fun p hp=>?_⟩
   exact k _ p (same_upd hp) hp upd_same
  | some x =>
   rw [e] at k hfv
   obtain ⟨rf,rfl,hrf⟩:=hfv
   refine iteF ?_
   refine ⟨_,rfl,a,C,dx,_,_,rfl,hi,T.cl,T.n6,rfl,rf,_,_,_,rfl,rfl,hrf,at_0,?_⟩
   refine ⟨_,rfl,a,C,dx,_,_,rfl,hi,T.cl,T.n6,rfl,rf,_,_,_,rfl,rfl,hrf,at_1,(by show 3≤sizeLine;decide),fun p hp=>?_⟩
   exact k _ p (same_upd hp) hp upd_same
def spStand (K:PySem.W.Frag) (C CS:Addr):Sp:=fun vs H Q _=>∃ (a:Addr) (E:List Addr) (S:HS) (dx la da:Addr) (po:V) (ra:Addr) (fv:V) (ka kp:Addr) (drs:List Addr) (kv1 kv2:List (Key × V)) (own:Own) (pa:Addr) (ps:List Rat),vs=[.ref a,.ref pa]∧S.Good∧EL E H ∧
 HdAt K C CS (hides E H) a dx la da po ra fv ka kp drs kv1 kv2 own S∧FrsNew K H pa ps∧pa ∉ E∧own pa=none∧pa≠da∧ps.length=S.n∧∀ H',KeepE E H H'→HolderAt K C CS (hides E H') a { S with pt:=some ps }→KeepT H H'→Q .non H'
theorem ok_stand_at (D:MethAt K C "stand_at" "Holder.stand_at" s_Holder_stand_at) (T:Txt K C) (C_run_lines:Callee P w K mg base "run_lines" ["lines","point"] 45 (spRun K)) (m_forget_series:Mth P w K mg base C "forget_series" ["self"] 41 (spForget C)):Mth P w K mg base C "stand_at" ["self","point"] 46 (spStand K C CS):=by
 refine mkM (k:=45) D sc_Holder_stand_at (fun _ _ _ _ _ _ us hl=>match us,hl with | [_,_],_=>rfl) (fun vs H Q E h=>?_) (fun f cdv A outer s H vs Q E hr h=>?_)
 ·obtain ⟨a,El,S,dx,la,da,po,ra,fv,ka,kp,drs,kv1,kv2,own,pa,ps,rfl,_⟩:=h
  rfl
 ·obtain ⟨a,El,S,dx,la,da,po,ra,fv,ka,kp,drs,kv1,kv2,own,pa,ps,rfl,G,hE,B,hpa,ne1,ne2,ne3,hpl,k⟩:=h
  refine ⟨_,(pss_cons (ps_set (i:=2) sc_Holder_stand_at.nd rfl (by first|exact .inl rfl|exact .inr rfl) (pe_callC C_run_lines hr (pa_cons (pe_fld (pv 0) rfl) (pa_cons (pv 1) pa_nil))))
   (pss_cons (ps_fld (pv 0) (pv 1) rfl)
   (pss_cons (ps_fld (pv 0) (pe_ix ix_tup (pv 2) pe_int (fun _ _=>rfl)) rfl)
   (pss_cons (ps_fld (pv 0) (pe_ix ix_tup (pv 2) pe_int (fun _ _=>rfl)) rfl)
   (pss_one (ps_expr (pe_methC0 T.cl m_forget_series hr (pv 0)))))))),?_⟩
  have hi:=B.insH
  have nea:=(hides_some B.ins).2
  refine ⟨_,rfl,a,C,dx,_,_,rfl,hi,T.cl,T.n2,rfl,_,rfl,?_⟩
  refine ⟨la,pa,S.c,ps,rfl,B.lns.at.same B.sub,hpa.at,G.raw,(by rw [hpl];exact G.fnd),(by have:=G.c80;omega),fun H1 t fl fv' s1 hfl ht hfs hfv=>?_⟩
  have hi1:=s1 a _ hi
  refine ⟨_,rfl,_,rfl,a,C,dx,_,rfl,hi1,T.cl,T.n4,(by show 8 < 1000;decide),?_⟩
  have k2:∀ b o,H1 b=some o→b≠a→upd H1 a (.ins C dx (hf S.n la da (.ref pa) ra fv ka kp)) b=some o:=fun b o e hb=>by rw [upd_ne hb];exact e
  have hi2:upd H1 a (.ins C dx (hf S.n la da (.ref pa) ra fv ka kp)) a=some (.ins C dx (hf S.n la da (.ref pa) ra fv ka kp)):=upd_same
  rw [hf_point]
  generalize upd H1 a (.ins C dx (hf S.n la da (.ref pa) ra fv ka kp))=H2 at k2 hi2 ⊢
  have tt:∀ {H3:Hp} {r:Addr} {xs:List V},(∀ b o,H1 b=some o→b≠a→H3 b=some o)→SqT K H1 r xs→SqT K H3 r xs:=fun {H3 r xs} hk h=>by
   rcases h with (h | ⟨o,h⟩) | h
   ·exact .inl (.inl (hk _ _ h (ne_of h hi1 (by intro e;cases e))))
   ·exact .inl (.inr ⟨o,hk _ _ h (ne_of h hi1 (by intro e;cases e))⟩)
   ·exact .inr h
  refine ⟨_,rfl,t,_,_,_,rfl,rfl,tt k2 ht,at_0,_,rfl,a,C,dx,_,rfl,hi2,T.cl,T.n5,(by show 8 < 1000;decide),?_⟩
  have k3:∀ b o,H1 b=some o→b≠a→upd H2 a (.ins C dx (hf S.n la da (.ref pa) fl fv ka kp)) b=some o:=fun b o e hb=>by rw [upd_ne hb];exact k2 b o e hb
  have hi3:upd H2 a (.ins C dx (hf S.n la da (.ref pa) fl fv ka kp)) a=some (.ins C dx (hf S.n la da (.ref pa) fl fv ka kp)):=upd_same
  rw [hf_results]
  generalize upd H2 a (.ins C dx (hf S.n la da (.ref pa) fl fv ka kp))=H3 at k3 hi3 ⊢
  refine ⟨_,rfl,t,_,_,_,rfl,rfl,tt k3 ht,at_1,_,rfl,a,C,dx,_,rfl,hi3,T.cl,T.n6,(by show 8 < 1000;decide),?_⟩
  have k4:∀ b o,H1 b=some o→b≠a→upd H3 a (.ins C dx (hf S.n la da (.ref pa) fl fv' ka kp)) b=some o:=fun b o e hb=>by rw [upd_ne hb];exact k3 b o e hb
  have hi4:upd H3 a (.ins C dx (hf S.n la da (.ref pa) fl fv' ka kp)) a=some (.ins C dx (hf S.n la da (.ref pa) fl fv' ka kp)):=upd_same
  rw [hf_fault]
  generalize upd H3 a (.ins C dx (hf S.n la da (.ref pa) fl fv' ka kp))=H4 at k4 hi4 ⊢
  refine ⟨_,rfl,a,dx,_,rfl,hi4,rfl,a,dx,_,rfl,hi4,(by show 8≤20;decide),fun H5 ka' kp' e1 e2 e3 e4 e5 e6 e7=>?_⟩
  have k5:∀ b o,H1 b=some o→b≠a→H5 b=some o:=fun b o e hb=>e7 b o (k4 b o e hb) hb
  have k05:∀ b o,H b=some o→b≠a→H5 b=some o:=fun b o e hb=>k5 b o (s1 b o e) hb
  have kp15:Keeps H1 H5:=fun b o l e=>k5 b o e (fun q=>by rw [q,hi1] at e;cases e;cases l)
  have kpH:Keeps H H5:=(Keeps.of s1).trans kp15
  have kt:KeepT H H5:=fun b o l e=>k05 b o e (fun q=>by rw [q,hi] at e;cases e;cases l)
  have kE:KeepE El H H5:=KeepE.ofKeeps hE kpH
  have hE5:=hE.keep kE
  have hcl5:CL own da (hides El H5):=B.cl.keeps (hides_keeps kpH)
  have kc:Keeps (cov own da (hides El H)) (cov own da (hides El H5)):=cov_keeps (hides_keeps kpH)
  have nfE:fl ∉ El:=fun q=>by obtain ⟨zs,hz⟩:=hE fl q;rw [hz] at hfl;cases hfl
  have ofl:own fl=none:=by
   cases q:own fl with
   | none=>rfl
   | some x=>obtain ⟨xs,hx⟩:=B.cl.1 fl (by rw [q];simp);rw [(hides_some hx).1] at hfl;cases hfl
  have nfd:fl≠da:=fun q=>by rw [q,(hides_some B.dir).1] at hfl;cases hfl
  have nda:=(hides_some B.dir).2
  have hd5:hides El H5 da=some (.lst (drs.map V.ref)):=by rw [hides_ne nda];exact kpH da _ rfl (hides_some B.dir).1
  have nka:ka' ∉ El:=fun q=>by obtain ⟨zs,hz⟩:=hE5 ka' q;rw [e5] at hz;cases hz
  have nkp:kp' ∉ El:=fun q=>by obtain ⟨zs,hz⟩:=hE5 kp' q;rw [e6] at hz;cases hz
  refine k H5 kE ⟨dx,la,da,.ref pa,fl,fv',ka',kp',drs,[],[],own,?_,B.lns.keeps kc,hd5,Paired.mapP B.drs fun _ _ z=>z.keeps kc,?_,?_,?_,?_,?_,knil,knil,List.nodup_nil,List.nodup_nil,hcl5,e4,B.oda⟩ kt
  ·rw [hides_ne nea];exact e1
  ·exact ⟨pa,rfl,FrsNew.cov (FrsNew.hides (hpa.keeps kpH) ne1 hE5) ne2 ne3 hcl5⟩
  ·exact FrsNew.cov (FrsNew.hides (hfs.keeps kp15) nfE hE5) ofl nfd hcl5
  ·exact FaultAt.cov hcl5 (FaultAt.hides hE5 (hfv.keeps kp15))
  ·rw [hides_ne nka];exact e5
  ·rw [hides_ne nkp];exact e6
end
end Lc
end
section
namespace Lc
open PySem PySem.Spec PyProof.Rows L2
open VagraLine (Fault)
section
variable {K:PySem.W.Frag} {C CS:Addr} {H H':Hp} {a dx la da:Addr} {po:V} {ra:Addr} {fv:V} {ka kp:Addr} {drs:List Addr} {kv1 kv2 kvs:List (Key × V)} {own:Own} {S:HS} {E:List Addr}
def own1 (own:Own) (rows:List Addr) (o:Bool × Nat):Own:=fun b=>if b∈rows then some o else own b
theorem KnAt.own1 {Hh Hh':Hp} {t:Bool} {df:Nat→Option (List Rat)} {rows:List Addr} {o:Bool × Nat} (h:KnAt K CS Hh H own t kvs S df) (k1:Keeps Hh Hh') (k2:Same H H') (hf:∀ r∈rows,H r=none):KnAt K CS Hh' H' (own1 own rows o) t kvs S df:=fun k v e=>by
 obtain ⟨d,dr,p,sa,h1,h2,h3,h4,h5,dx,la,dra,ma,rows',ks,q1,q2,q3,q4,q5,q6,q7⟩:=h k v e
 refine ⟨d,dr,p,sa,h1,h2,h3,h4,h5,dx,la,dra,ma,rows',ks,k2 _ _ q1,q2.keeps k1,q3.keeps k1,k1 _ _ rfl q4,q5,fun r hr=>?_,q7.same k2⟩
 have:¬ r∈rows:=fun hm=>by
  obtain ⟨ys,hy⟩:=q7.lst hr
  rw [hf r hm] at hy
  cases hy
 unfold Lc.own1
 rw [if_neg this]
 exact q6 r hr
theorem HdAt.own1 {rows:List Addr} {o:Bool × Nat} (B:HdAt K C CS H a dx la da po ra fv ka kp drs kv1 kv2 own S) (s:Same H H') (hf:∀ r∈rows,H r=none) (hl:∀ r∈rows,∃ ys,H' r=some (.lst ys)) :
  HdAt K C CS H' a dx la da po ra fv ka kp drs kv1 kv2 (own1 own rows o) S∧Keeps (cov own da H) (cov (own1 own rows o) da H'):=by
 have kc:Keeps (cov own da H) (cov (Lc.own1 own rows o) da H'):=fun b u _ q=>by
  obtain ⟨e1,e2,e3⟩:=cov_some q
  have hn:¬ b∈rows:=fun hm=>by rw [hf b hm] at e1;cases e1
  rw [cov_in (by unfold Lc.own1;rw [if_neg hn];exact e2) e3]
  exact s b u e1
 have hda:¬ da∈rows:=fun hm=>by have:=hf da hm;rw [B.dir] at this;cases this
 refine ⟨⟨s _ _ B.ins,B.lns.keeps kc,s _ _ B.dir,Paired.mapP B.drs fun _ _ z=>z.keeps kc,B.pt.keeps kc,B.res.keeps kc,B.flt.keeps kc,s _ _ B.kn1,s _ _ B.kn2,B.ko1.own1 kc s hf,B.ko2.own1 kc s hf,B.nd1,B.nd2,⟨fun b q=>?_,⟨_,s _ _ B.dir⟩⟩,B.kne,?_⟩,kc⟩
 ·by_cases hm:b∈rows
  ·exact hl b hm
  ·unfold Lc.own1 at q
   rw [if_neg hm] at q
   obtain ⟨xs,e⟩:=B.cl.1 b q
   exact ⟨xs,s _ _ e⟩
 ·unfold Lc.own1
  rw [if_neg hda]
  exact B.oda
theorem rows_one {p dr us:List Rat} {rows:List Addr} (G:S.Good) (hp:S.pt=some p) (hf:S.flt=none) (hs:∀ x∈dr,Small 200 x) (nd:rows.Nodup) (h:Paired (fun r q=>∃ v,H r=some (.lst [.ref v])∧FrAt K H v q) rows S.res):RowsK K H rows (ser p dr S.code) (fun _=>1):=by
 refine ⟨nd,fun i r hi=>?_,fun i _=>⟨by decide,by decide⟩⟩
 have hil:=(List.getElem?_eq_some_iff.mp hi).1
 have hl1:rows.length=S.res.length:=plen h
 have hic:i < S.c.length:=by rw [← HS.resL hp hf,← hl1];exact hil
 obtain ⟨r',e1,v,e2,e3⟩:=pget h (at0_get (l:=S.res) (i:=i) (by omega))
 rw [hi] at e1
 cases e1
 refine ⟨[v],e2,?_⟩
 have h8:(sAt (ser p dr S.code) i).length=8:=ser_row_length (by rw [List.length_map];exact hic)
 have et:(sAt (ser p dr S.code) i).take 1=[at0 (sAt (ser p dr S.code) i) 0]:=by
  have:=take_next (at0_get (l:=sAt (ser p dr S.code) i) (i:=0) (by omega))
  simpa using this
 rw [et,ser_head G hp hf hs]
 exact .cons e3 .nil
theorem HdAt.known {rows:List Addr} {t:Bool} {d:Nat} {p dr:List Rat} {sa sx dra ma:Addr} (B:HdAt K C CS (hides E H) a dx la da po ra fv ka kp drs kv1 kv2 own S) (hE:EL E H) (G:S.Good) (hp:S.pt=some p) (hfl:S.flt=none) (hs:∀ x∈dr,Small 200 x) (hdo:dirOf S t d=some dr)
  (hdr:FrsNew K (cov own da (hides E H)) dra dr) (s:Same H H') (h1:H' sa=some (.ins CS sx (sf la dra ma))) (h2:H ma=none) (h3:H' ma=some (.lst (rows.map V.ref))) (nd:rows.Nodup) (hf:∀ r∈rows,H r=none∧r≠ma) (hpr:Paired (fun r q=>∃ v,H' r=some (.lst [.ref v])∧FrAt K H' v q) rows S.res)
  (hno:valV (if t=true then kv2 else kv1) (Sum.inl (d:Int))=none) :
  Known K C CS (hides E (upd H' (if t=true then kp else ka) (.dK (putK (if t=true then kv2 else kv1) (Sum.inl (d:Int)) (.ref sa))))) a S t d sa:=by
 have hE':EL E H':=hE.keep (KeepE.of s)
 have nE:∀ {b:Addr},H b=none→b ∉ E:=fun {b} hb q=>by obtain ⟨zs,hz⟩:=hE b q;rw [hb] at hz;cases hz
 have hlr:∀ r∈rows,∃ v,H' r=some (.lst [.ref v]):=fun r hr=>by
  obtain ⟨i,hi⟩:=List.getElem?_of_mem hr
  have hil:=(List.getElem?_eq_some_iff.mp hi).1
  rw [plen hpr] at hil
  obtain ⟨r',e1,v,e2,_⟩:=pget hpr (at0_get hil)
  rw [hi] at e1
  cases e1
  exact ⟨v,e2⟩
 have hfh:∀ r∈rows,hides E H r=none:=fun r hr=>by rw [hides_ne (nE (hf r hr).1)];exact (hf r hr).1
 have hlh:∀ r∈rows,∃ ys,hides E H' r=some (.lst ys):=fun r hr=>by
  obtain ⟨v,hv⟩:=hlr r hr
  exact ⟨_,by rw [hides_ne (nE (hf r hr).1)];exact hv⟩
 obtain ⟨B',kc⟩:=B.own1 (o:=(t,d)) (hides_same s) hfh hlh
 have hprh:Paired (fun r q=>∃ v,hides E H' r=some (.lst [.ref v])∧FrAt K (hides E H') v q) rows S.res:=Paired.mem_mapP hpr fun r q hr z=>by
  obtain ⟨v,z1,z2⟩:=z
  exact ⟨v,by rw [hides_ne (nE (hf r hr).1)];exact z1,SqT.hides z2 hE'⟩
 have R:=rows_one (us:=S.res) G hp hfl hs nd hprh
 have nma:ma ∉ E:=nE h2
 have oma:Lc.own1 own rows (t,d) ma=none:=by
  unfold Lc.own1
  rw [if_neg (fun hm=>(hf ma hm).2 rfl)]
  cases q:own ma with
  | none=>rfl
  | some x=>obtain ⟨xs,hx⟩:=B.cl.1 ma (by rw [q];simp);rw [(hides_some hx).1] at h2;cases h2
 have mda:ma≠da:=fun q=>by rw [q,(hides_some B.dir).1] at h2;cases h2
 have nsa:sa ∉ E:=fun q=>by obtain ⟨zs,hz⟩:=hE' sa q;rw [h1] at hz;cases hz
 have Se:SerAt K CS (cov (Lc.own1 own rows (t,d)) da (hides E H')) (hides E H') (Lc.own1 own rows (t,d)) (t,d) sa S.c p dr:=by
  refine ⟨sx,la,dra,ma,rows,fun _=>1,by rw [hides_ne nsa];exact h1,B'.lns,hdr.keeps kc,by rw [cov_in oma mda,hides_ne nma];exact h3,by rw [plen hpr,HS.resL hp hfl],fun r hr=>?_,R⟩
  unfold Lc.own1
  rw [if_pos hr]
 generalize hkt:(if t=true then kp else ka)=kt
 generalize hvt:(if t=true then kv2 else kv1)=kvt at hno ⊢
 have hkd:hides E H' kt=some (.dK kvt):=by
  rw [← hkt,← hvt]
  cases t with
  | false=>exact B'.kn1
  | true=>exact B'.kn2
 obtain ⟨hkd1,nkt⟩:=hides_some hkd
 have eh:hides E (upd H' kt (.dK (putK kvt (Sum.inl (d:Int)) (.ref sa))))=upd (hides E H') kt (.dK (putK kvt (Sum.inl (d:Int)) (.ref sa))):=by
  funext b
  by_cases q:b=kt
  ·rw [q,hides_ne nkt,upd_same,upd_same]
  ·rw [upd_ne q]
   unfold hides
   by_cases q2:b∈E
   ·rw [if_pos q2,if_pos q2]
   ·rw [if_neg q2,if_neg q2,upd_ne q]
 rw [eh]
 generalize hides E H'=Hd at B' kc Se hkd ⊢
 have kd:Keeps Hd (upd Hd kt (.dK (putK kvt (Sum.inl (d:Int)) (.ref sa)))):=keeps_put fun u e=>by rw [hkd] at e;cases e;rfl
 have up:∀ {b:Addr} {o:HO},Hd b=some o→b≠kt→upd Hd kt (.dK (putK kvt (Sum.inl (d:Int)) (.ref sa))) b=some o:=fun {b o} e hb=>by rw [upd_ne hb];exact e
 have kcd:Keeps (cov (Lc.own1 own rows (t,d)) da Hd) (cov (Lc.own1 own rows (t,d)) da (upd Hd kt (.dK (putK kvt (Sum.inl (d:Int)) (.ref sa))))):=cov_keeps kd
 have serK:∀ {o':Bool × Nat} {sb:Addr} {p' dr':List Rat},SerAt K CS (cov (Lc.own1 own rows (t,d)) da Hd) Hd (Lc.own1 own rows (t,d)) o' sb S.c p' dr'→SerAt K CS (cov (Lc.own1 own rows (t,d)) da (upd Hd kt (.dK (putK kvt (Sum.inl (d:Int)) (.ref sa))))) (upd Hd kt (.dK (putK kvt (Sum.inl (d:Int)) (.ref sa)))) (Lc.own1 own rows (t,d)) o' sb S.c p' dr':=fun h=>by
  obtain ⟨x1,x2,x3,x4,x5,x6,q1,q2,q3,q4,q5,q6,q7⟩:=h
  refine ⟨x1,x2,x3,x4,x5,x6,up q1 (ne_of q1 hkd (by intro e;cases e)),q2.keeps kcd,q3.keeps kcd,kcd _ _ rfl q4,q5,q6,q7.nd,fun i r hi=>?_,q7.k1⟩
  obtain ⟨vs,e1,e2⟩:=q7.row i r hi
  exact ⟨vs,kd _ _ rfl e1,Paired.mapP e2 fun _ _ z=>kd.seqT z⟩
 have knK:∀ {t':Bool} {df:Nat→Option (List Rat)} {kvs:List (Key × V)},KnAt K CS (cov (Lc.own1 own rows (t,d)) da Hd) Hd (Lc.own1 own rows (t,d)) t' kvs S df→KnAt K CS (cov (Lc.own1 own rows (t,d)) da (upd Hd kt (.dK (putK kvt (Sum.inl (d:Int)) (.ref sa))))) (upd Hd kt (.dK (putK kvt (Sum.inl (d:Int)) (.ref sa)))) (Lc.own1 own rows (t,d)) t' kvs S df:=fun h k v e=>by
  obtain ⟨d',dr',p',sb,q1,q2,q3,q4,q5,q6⟩:=h k v e
  exact ⟨d',dr',p',sb,q1,q2,q3,q4,q5,serK q6⟩
 have knP:∀ {df:Nat→Option (List Rat)},df d=some dr→KnAt K CS (cov (Lc.own1 own rows (t,d)) da Hd) Hd (Lc.own1 own rows (t,d)) t kvt S df→KnAt K CS (cov (Lc.own1 own rows (t,d)) da (upd Hd kt (.dK (putK kvt (Sum.inl (d:Int)) (.ref sa))))) (upd Hd kt (.dK (putK kvt (Sum.inl (d:Int)) (.ref sa)))) (Lc.own1 own rows (t,d)) t (putK kvt (Sum.inl (d:Int)) (.ref sa)) S df:=fun hdf h k v e=>by
  rw [valV_put] at e
  by_cases q:k=Sum.inl (d:Int)
  ·rw [if_pos q] at e
   cases e
   exact ⟨d,dr,p,sa,q,hdf,rfl,hp,hfl,serK Se⟩
  ·rw [if_neg q] at e
   exact knK h k v e
 have hval:valV (putK kvt (Sum.inl (d:Int)) (.ref sa)) (Sum.inl (d:Int))=some (.ref sa):=by rw [valV_put,if_pos rfl]
 have nal:a≠kt:=ne_of B'.ins hkd (by intro e;cases e)
 have ndl:da≠kt:=ne_of B'.dir hkd (by intro e;cases e)
 cases t with
 | false =>
  have e1:ka=kt:=hkt
  have e2:kv1=kvt:=hvt
  subst e1 e2
  refine ⟨dx,la,da,po,ra,fv,ka,kp,drs,putK kv1 (Sum.inl (d:Int)) (.ref sa),kv2,_,⟨up B'.ins nal,B'.lns.keeps kcd,up B'.dir ndl,Paired.mapP B'.drs fun _ _ z=>z.keeps kcd,B'.pt.keeps kcd,B'.res.keeps kcd,B'.flt.keeps kcd,upd_same,up B'.kn2 B'.kne.symm,knP hdo B'.ko1,knK B'.ko2,nd_putK _ B'.nd1 hno,B'.nd2,B'.cl.keeps kd,B'.kne,B'.oda⟩,hval⟩
 | true =>
  have e1:kp=kt:=hkt
  have e2:kv2=kvt:=hvt
  subst e1 e2
  refine ⟨dx,la,da,po,ra,fv,ka,kp,drs,kv1,putK kv2 (Sum.inl (d:Int)) (.ref sa),_,⟨up B'.ins nal,B'.lns.keeps kcd,up B'.dir ndl,Paired.mapP B'.drs fun _ _ z=>z.keeps kcd,B'.pt.keeps kcd,B'.res.keeps kcd,B'.flt.keeps kcd,up B'.kn1 B'.kne,upd_same,knK B'.ko1,knP hdo B'.ko2,B'.nd1,nd_putK _ B'.nd2 hno,B'.cl.keeps kd,B'.kne,B'.oda⟩,hval⟩
end
end Lc
end
section
namespace Lc
open PySem PySem.Spec PyProof.Rows L2
open VagraLine (Fault)
theorem unit_length (n k:Nat):(unitQ n k).length=n:=by
 unfold unitQ
 rw [List.length_map,List.length_range]
theorem unit_small (n k:Nat):∀ x∈unitQ n k,Small 200 x:=fun x hx=>by
 unfold unitQ at hx
 obtain ⟨i,_,rfl⟩:=List.mem_map.mp hx
 by_cases h:i=k
 ·rw [if_pos h];exact Small.one (by decide)
 ·rw [if_neg h];exact Small.zero (by decide)
theorem unit_paired {K:PySem.W.Frag} {H:Hp} {z z1:Addr} (hz:SqT K H z [.int 0,.int 1]) (hz1:SqT K H z1 [.int 1,.int 1]) (n k:Nat):Paired (FrAt K H) ((List.replicate n z).set k z1) (unitQ n k):=by
 have gen:∀ (l:List Addr) (qs:List Rat),l.length=qs.length→(∀ (i:Nat) (r:Addr),l[i]?=some r→∃ q,qs[i]?=some q∧FrAt K H r q)→Paired (FrAt K H) l qs:=by
  intro l
  induction l with
  | nil=>intro qs h _;cases qs with | nil=>exact .nil | cons _ _=>cases h
  | cons r l ih =>
   intro qs h hf
   cases qs with
   | nil=>cases h
   | cons q qs =>
    obtain ⟨q',e1,e2⟩:=hf 0 r rfl
    cases e1
    exact .cons e2 (ih qs (by simpa using h) fun i r' hr=>hf (i+1) r' (by simpa using hr))
 refine gen _ _ (by rw [List.length_set,List.length_replicate,unit_length]) fun i r hr=>?_
 have hil:=(List.getElem?_eq_some_iff.mp hr).1
 rw [List.length_set,List.length_replicate] at hil
 refine ⟨if i=k then 1 else 0,by unfold unitQ;rw [List.getElem?_map,List.getElem?_range hil];rfl,?_⟩
 rw [List.getElem?_set] at hr
 by_cases h:i=k
 ·subst h
  rw [if_pos rfl,List.length_replicate,if_pos hil] at hr
  cases hr
  rw [if_pos rfl]
  exact hz1
 ·rw [if_neg (fun e=>h e.symm),List.getElem?_replicate,if_pos hil] at hr
  cases hr
  rw [if_neg h]
  exact hz
theorem rep_refs (z:Addr) (n:Nat):(List.replicate n [V.ref z]).flatten=(List.replicate n z).map V.ref:=by
 induction n with
 | zero=>rfl
 | succ n ih=>rw [List.replicate_succ,List.flatten_cons,ih,List.replicate_succ];rfl
section
variable {P:Program} {w:World} {K:PySem.W.Frag} {mg:Str→Option Value} {base:Heap} {C CS:Addr}
def spSer (K:PySem.W.Frag) (C CS:Addr) (t:Bool):Sp:=fun vs H Q _=>∃ (a:Addr) (E:List Addr) (S:HS) (d:Nat) (dr p:List Rat),vs=[.ref a,.int d]∧S.Good∧S.pt=some p∧S.flt=none∧dirOf S t d=some dr∧EL E H∧HolderAt K C CS (hides E H) a S ∧
 ∀ H' sa,KeepE E H H'→KeepT H H'→Known K C CS (hides E H') a S t d sa→Q (.ref sa) H'
theorem ok_along (D:MethAt K C "along" "Holder.along" s_Holder_along) (T:Txt K C) (M_Series:Mkr P w K mg base CS "Series" ["self","lines","results","direction"] 41 (spSInit K CS)):Mth P w K mg base C "along" ["self","d"] 43 (spSer K C CS false):=by
 refine mkM (k:=42) D sc_Holder_along (fun _ _ _ _ _ _ us hl=>match us,hl with | [_,_],_=>rfl) (fun vs H Q E h=>?_) (fun f cdv A outer s H vs Q E hr h=>?_)
 ·obtain ⟨a,El,S,d,dr,p,rfl,_⟩:=h
  rfl
 ·obtain ⟨a,El,S,d,dr,p,rfl,G,hp,hfl,hdo,hE,⟨dx,la,da,po,ra,fv,ka,kp,drs,kv1,kv2,own,B⟩,k⟩:=h
  have hu:=hu_of hr
  refine ⟨_,(pss_cons (ps_if (pt_cmp (pc_dnotin hu (pv 1) (pe_fld (pv 0) rfl))) (pss_one (ps_dput hu (pe_fld (pv 0) rfl) (pv 1) (pe_makeC M_Series hr (pa_cons (pe_fld (pv 0) rfl) (pa_cons (pe_fld (pv 0) rfl) (pa_cons (pe_ix ix_list (pe_fld (pv 0) rfl) (pv 1) (fun _ _=>rfl)) pa_nil)))) rfl)) pss_nil)
   (pss_one (ps_ret (pe_dget hu (pe_fld (pv 0) rfl) (pv 1) (fun _ _=>rfl))))),?_⟩
  have hi:=B.insH
  have hkn:=(hides_some B.kn1).1
  have hdl:=(hides_some B.dir).1
  have hdr:S.dirs[d]?=some dr:=hdo
  have hds:=(G.dl dr (List.mem_of_getElem? hdr)).2
  refine ⟨_,rfl,_,rfl,a,C,dx,_,_,rfl,hi,T.cl,T.n7,rfl,ka,_,rfl,DGet.k (k:=Sum.inl (d:Int)) hkn,_,rfl,?_⟩
  cases e:valV kv1 (Sum.inl (d:Int)) with
  | some v =>
   refine iteF ?_
   obtain ⟨d',dr',p',sa,g1,g2,rfl,_⟩:=B.ko1 _ v e
   refine ⟨_,rfl,a,C,dx,_,_,rfl,hi,T.cl,T.n7,rfl,_,rfl,ka,_,rfl,(by rw [← e];exact DGet.k (k:=Sum.inl (d:Int)) hkn),?_⟩
   exact k H sa (KeepE.refl _ _) (KeepT.refl H) ⟨dx,la,da,po,ra,fv,ka,kp,drs,kv1,kv2,own,B,e⟩
  | none =>
   refine iteT ?_
   obtain ⟨ar,har,hfr⟩:=pget B.drs hdr
   refine ⟨_,rfl,a,C,dx,_,_,rfl,hi,T.cl,T.n2,rfl,?_⟩
   refine ⟨_,rfl,a,C,dx,_,_,rfl,hi,T.cl,T.n5,rfl,?_⟩
   refine ⟨_,rfl,a,C,dx,_,_,rfl,hi,T.cl,T.n3,rfl,_,rfl,da,_,_,_,rfl,rfl,SqL.of hdl,atI_nat (v:=V.ref ar) (by rw [List.getElem?_map,har];rfl),?_⟩
   intro sa sx nsa nsx nex
   have sx1:Same H (upd (upd H sx (.own sa)) sa (.ins CS sx [])):=fun b o eb=>by rw [upd_ne (ne_of_none eb nsa),upd_ne (ne_of_none eb nsx)];exact eb
   have hsa1:upd (upd H sx (.own sa)) sa (.ins CS sx []) sa=some (.ins CS sx []):=upd_same
   have fr1:∀ b,upd (upd H sx (.own sa)) sa (.ins CS sx []) b=none→H b=none:=fun b eb=>by
    by_cases q:b=sa
    ·rw [q,upd_same] at eb;cases eb
    ·rw [upd_ne q] at eb
     by_cases q2:b=sx
     ·rw [q2,upd_same] at eb;cases eb
     ·rw [upd_ne q2] at eb;exact eb
   generalize upd (upd H sx (.own sa)) sa (.ins CS sx [])=H1 at sx1 hsa1 fr1 ⊢
   refine ⟨sa,sx,la,ra,ar,S.res,rfl,hsa1,(B.res.at.same B.sub).same sx1,(by rw [HS.resL hp hfl];have:=G.c80;omega),fun H2 ma rows h1 h2 h3 h4 h5 h6 h7=>⟨rfl,?_⟩⟩
   have s2:Same H H2:=fun b o eb=>h2 b o (sx1 b o eb) (ne_of_none eb nsa)
   have hi2:=s2 a _ hi
   have hk2:=s2 ka _ hkn
   have hlen:kv1.length≤6:=Nat.le_trans (B.ko1.len B.nd1 fun d dr h=>dir1_lt h) G.d6
   refine ⟨_,rfl,a,C,dx,_,_,rfl,hi2,T.cl,T.n7,rfl,_,rfl,ka,_,rfl,DPut.k (k:=Sum.inl (d:Int)) hk2 (by rw [sizeLine_eq];omega),?_⟩
   have Kn:=B.known (t:=false) (d:=d) (p:=p) (dr:=dr) (sa:=sa) (sx:=sx) (dra:=ar) (ma:=ma) (rows:=rows) hE G hp hfl hds hdo hfr s2 h1 (fr1 ma h3) h4 h5 (fun r hr=>⟨fr1 r (h6 r hr).1,(h6 r hr).2⟩) h7 e
   change Known K C CS (hides El (upd H2 ka (.dK (putK kv1 (Sum.inl (d:Int)) (.ref sa))))) a S false d sa at Kn
   have hval:valV (putK kv1 (Sum.inl (d:Int)) (.ref sa)) (Sum.inl (d:Int))=some (.ref sa):=by rw [valV_put,if_pos rfl]
   have hk3:upd H2 ka (.dK (putK kv1 (Sum.inl (d:Int)) (.ref sa))) ka=some (.dK (putK kv1 (Sum.inl (d:Int)) (.ref sa))):=upd_same
   have hi3:upd H2 ka (.dK (putK kv1 (Sum.inl (d:Int)) (.ref sa))) a=some (.ins C dx (hf S.n la da po ra fv ka kp)):=by rw [upd_ne (ne_of hi2 hk2 (by intro q;cases q))];exact hi2
   have kp3:Keeps H2 (upd H2 ka (.dK (putK kv1 (Sum.inl (d:Int)) (.ref sa)))):=keeps_put fun u q=>by rw [hk2] at q;cases q;rfl
   have kt3:KeepT H2 (upd H2 ka (.dK (putK kv1 (Sum.inl (d:Int)) (.ref sa)))):=keepT_put fun u q=>by rw [hk2] at q;cases q;rfl
   generalize upd H2 ka (.dK (putK kv1 (Sum.inl (d:Int)) (.ref sa)))=H3 at Kn hk3 hi3 kp3 kt3 ⊢
   refine ⟨_,rfl,a,C,dx,_,_,rfl,hi3,T.cl,T.n7,rfl,_,rfl,ka,_,rfl,(by rw [← hval];exact DGet.k (k:=Sum.inl (d:Int)) hk3),?_⟩
   exact k H3 sa (KeepE.ofKeeps hE ((Keeps.of s2).trans kp3)) ((KeepT.of s2).trans kt3) Kn
theorem ok_along_input {z z1:Addr} (D:MethAt K C "along_input" "Holder.along_input" s_Holder_along_input) (T:Txt K C) (c_ZERO:Const mg "ZERO" (.ref z)) (hz:∀ H,SqT K H z [.int 0,.int 1]) (c_ONE:Const mg "ONE" (.ref z1)) (hz1:∀ H,SqT K H z1 [.int 1,.int 1])
  (M_Series:Mkr P w K mg base CS "Series" ["self","lines","results","direction"] 41 (spSInit K CS)):Mth P w K mg base C "along_input" ["self","k"] 43 (spSer K C CS true):=by
 refine mkM (k:=42) D sc_Holder_along_input (fun _ _ _ _ _ _ us hl=>match us,hl with | [_,_],_=>rfl) (fun vs H Q E h=>?_) (fun f cdv A outer s H vs Q E hr h=>?_)
 ·obtain ⟨a,El,S,d,dr,p,rfl,_⟩:=h
  rfl
 ·obtain ⟨a,El,S,d,dr,p,rfl,G,hp,hfl,hdo,hE,⟨dx,la,da,po,ra,fv,ka,kp,drs,kv1,kv2,own,B⟩,k⟩:=h
  have hu:=hu_of hr
  refine ⟨_,(pss_cons (ps_if (pt_cmp (pc_dnotin hu (pv 1) (pe_fld (pv 0) rfl))) (pss_cons (ps_set (i:=2) sc_Holder_along_input.nd rfl (by first|exact .inl rfl|exact .inr rfl) (pe_op op_rep (pe_lst (pa_cons (pe_const c_ZERO) pa_nil)) (pe_fld (pv 0) rfl)))
   (pss_cons (ps_asg (pe_const c_ONE) (pg_sub (pv 2) (pv 1) set_list))
   (pss_one (ps_dput hu (pe_fld (pv 0) rfl) (pv 1) (pe_makeC M_Series hr (pa_cons (pe_fld (pv 0) rfl) (pa_cons (pe_fld (pv 0) rfl) (pa_cons (pv 2) pa_nil)))) rfl)))) pss_nil)
   (pss_one (ps_ret (pe_dget hu (pe_fld (pv 0) rfl) (pv 1) (fun _ _=>rfl))))),?_⟩
  have hi:=B.insH
  have hkn:=(hides_some B.kn2).1
  have hdl:=(hides_some B.dir).1
  have hdn:d < S.n:=dir2_lt (S:=S) (d:=d) (dr:=dr) hdo
  have hdr:dr=unitQ S.n d:=by
   have:dir2 S d=some dr:=hdo
   unfold dir2 at this
   rw [if_pos hdn] at this
   exact (Option.some.inj this).symm
  have hds:∀ x∈dr,Small 200 x:=by rw [hdr];exact unit_small S.n d
  have hn12:=G.n12
  refine ⟨_,rfl,_,rfl,a,C,dx,_,_,rfl,hi,T.cl,T.n8,rfl,kp,_,rfl,DGet.k (k:=Sum.inl (d:Int)) hkn,_,rfl,?_⟩
  cases e:valV kv2 (Sum.inl (d:Int)) with
  | some v =>
   refine iteF ?_
   obtain ⟨d',dr',p',sa,g1,g2,rfl,_⟩:=B.ko2 _ v e
   refine ⟨_,rfl,a,C,dx,_,_,rfl,hi,T.cl,T.n8,rfl,_,rfl,kp,_,rfl,(by rw [← e];exact DGet.k (k:=Sum.inl (d:Int)) hkn),?_⟩
   exact k H sa (KeepE.refl _ _) (KeepT.refl H) ⟨dx,la,da,po,ra,fv,ka,kp,drs,kv1,kv2,own,B,e⟩
  | none =>
   refine iteT ?_
   refine ⟨(by show 1≤sizeLine;decide),fun n0 hn0=>?_⟩
   have s0:=same_upd (o:=.lst [V.ref z]) hn0
   have hn00:upd H n0 (.lst [V.ref z]) n0=some (.lst [V.ref z]):=upd_same
   generalize upd H n0 (.lst [V.ref z])=H0 at s0 hn00 ⊢
   refine ⟨_,rfl,a,C,dx,_,_,rfl,s0 a _ hi,T.cl,T.n1,rfl,n0,(S.n:Int),[V.ref z],rfl,rfl,hn00,by omega,by omega,(by rw [Int.toNat_natCast,sizeLine_eq];show 1*S.n≤_;omega),fun da1 hda1=>?_⟩
   rw [Int.toNat_natCast,rep_refs]
   have hda0:H da1=none:=s0.free hda1
   have s1:Same H (upd H0 da1 (.lst ((List.replicate S.n z).map V.ref))):=s0.trans (same_upd hda1)
   have hd1:upd H0 da1 (.lst ((List.replicate S.n z).map V.ref)) da1=some (.lst ((List.replicate S.n z).map V.ref)):=upd_same
   generalize upd H0 da1 (.lst ((List.replicate S.n z).map V.ref))=H1 at s1 hd1 ⊢
   refine ⟨_,rfl,_,rfl,da1,_,(d:Int),d,rfl,rfl,hd1,(by rw [List.length_map,List.length_replicate];exact ixN_nat hdn),?_⟩
   have es:((List.replicate S.n z).map V.ref).set d (V.ref z1)=((List.replicate S.n z).set d z1).map V.ref:=by rw [List.map_set]
   rw [es]
   have s2:Same H (upd H1 da1 (.lst (((List.replicate S.n z).set d z1).map V.ref))):=same_put hda0 s1
   have hd2:upd H1 da1 (.lst (((List.replicate S.n z).set d z1).map V.ref)) da1=some (.lst (((List.replicate S.n z).set d z1).map V.ref)):=upd_same
   generalize upd H1 da1 (.lst (((List.replicate S.n z).set d z1).map V.ref))=H2 at s2 hd2 ⊢
   have B2:=B.mono0 (hides_same s2)
   have hE2:=hE.keep (KeepE.of s2)
   have hi2:=B2.insH
   have hkn2:=(hides_some B2.kn2).1
   have fr2:FrsNew K H2 da1 dr:=⟨_,hd2,by rw [hdr];exact unit_paired (hz _) (hz1 _) S.n d⟩
   have nE1:da1 ∉ El:=fun q=>by obtain ⟨zs,hz'⟩:=hE da1 q;rw [hda0] at hz';cases hz'
   have o1:own da1=none:=by
    cases q:own da1 with
    | none=>rfl
    | some x=>obtain ⟨xs,hx⟩:=B.cl.1 da1 (by rw [q];simp);rw [(hides_some hx).1] at hda0;cases hda0
   have n1:da1≠da:=fun q=>by rw [q,hdl] at hda0;cases hda0
   have hfr:=FrsNew.cov (FrsNew.hides fr2 nE1 hE2) o1 n1 B2.cl
   refine ⟨_,rfl,a,C,dx,_,_,rfl,hi2,T.cl,T.n2,rfl,?_⟩
   refine ⟨_,rfl,a,C,dx,_,_,rfl,hi2,T.cl,T.n5,rfl,?_⟩
   refine ⟨_,rfl,?_⟩
   intro sa sx nsa nsx nex
   have sx1:Same H2 (upd (upd H2 sx (.own sa)) sa (.ins CS sx [])):=fun b o eb=>by rw [upd_ne (ne_of_none eb nsa),upd_ne (ne_of_none eb nsx)];exact eb
   have hsa1:upd (upd H2 sx (.own sa)) sa (.ins CS sx []) sa=some (.ins CS sx []):=upd_same
   have fr1:∀ b,upd (upd H2 sx (.own sa)) sa (.ins CS sx []) b=none→H2 b=none:=fun b eb=>by
    by_cases q:b=sa
    ·rw [q,upd_same] at eb;cases eb
    ·rw [upd_ne q] at eb
     by_cases q2:b=sx
     ·rw [q2,upd_same] at eb;cases eb
     ·rw [upd_ne q2] at eb;exact eb
   generalize upd (upd H2 sx (.own sa)) sa (.ins CS sx [])=H3 at sx1 hsa1 fr1 ⊢
   refine ⟨sa,sx,la,ra,da1,S.res,rfl,hsa1,(B2.res.at.same B2.sub).same sx1,(by rw [HS.resL hp hfl];have:=G.c80;omega),fun H4 ma rows h1 h2 h3 h4 h5 h6 h7=>⟨rfl,?_⟩⟩
   have s4:Same H2 H4:=fun b o eb=>h2 b o (sx1 b o eb) (ne_of_none eb nsa)
   have hi4:=s4 a _ hi2
   have hk4:=s4 kp _ hkn2
   have hlen:kv2.length≤12:=Nat.le_trans (B.ko2.len B.nd2 fun d dr h=>dir2_lt h) G.n12
   refine ⟨_,rfl,a,C,dx,_,_,rfl,hi4,T.cl,T.n8,rfl,_,rfl,kp,_,rfl,DPut.k (k:=Sum.inl (d:Int)) hk4 (by rw [sizeLine_eq];omega),?_⟩
   have Kn:=B2.known (t:=true) (d:=d) (p:=p) (dr:=dr) (sa:=sa) (sx:=sx) (dra:=da1) (ma:=ma) (rows:=rows) hE2 G hp hfl hds hdo hfr s4 h1 (fr1 ma h3) h4 h5 (fun r hr=>⟨fr1 r (h6 r hr).1,(h6 r hr).2⟩) h7 e
   change Known K C CS (hides El (upd H4 kp (.dK (putK kv2 (Sum.inl (d:Int)) (.ref sa))))) a S true d sa at Kn
   have hval:valV (putK kv2 (Sum.inl (d:Int)) (.ref sa)) (Sum.inl (d:Int))=some (.ref sa):=by rw [valV_put,if_pos rfl]
   have hk5:upd H4 kp (.dK (putK kv2 (Sum.inl (d:Int)) (.ref sa))) kp=some (.dK (putK kv2 (Sum.inl (d:Int)) (.ref sa))):=upd_same
   have hi5:upd H4 kp (.dK (putK kv2 (Sum.inl (d:Int)) (.ref sa))) a=some (.ins C dx (hf S.n la da po ra fv ka kp)):=by rw [upd_ne (ne_of hi4 hk4 (by intro q;cases q))];exact hi4
   have kp5:Keeps H4 (upd H4 kp (.dK (putK kv2 (Sum.inl (d:Int)) (.ref sa)))):=keeps_put fun u q=>by rw [hk4] at q;cases q;rfl
   have kt5:KeepT H4 (upd H4 kp (.dK (putK kv2 (Sum.inl (d:Int)) (.ref sa)))):=keepT_put fun u q=>by rw [hk4] at q;cases q;rfl
   generalize upd H4 kp (.dK (putK kv2 (Sum.inl (d:Int)) (.ref sa)))=H5 at Kn hk5 hi5 kp5 kt5 ⊢
   refine ⟨_,rfl,a,C,dx,_,_,rfl,hi5,T.cl,T.n8,rfl,_,rfl,kp,_,rfl,(by rw [← hval];exact DGet.k (k:=Sum.inl (d:Int)) hk5),?_⟩
   exact k H5 sa (KeepE.ofKeeps hE ((Keeps.of (s2.trans s4)).trans kp5)) ((KeepT.of (s2.trans s4)).trans kt5) Kn
end
end Lc
end
section
namespace Lc
open PySem PySem.Spec PyProof.Rows L2
open VagraLine (Fault)
theorem KeepT.seqT {K:PySem.W.Frag} {H H':Hp} {a:Addr} {xs:List V} (e:KeepT H H') (h:SqT K H a xs):SqT K H' a xs:=by
 rcases h with (h | ⟨o,h⟩) | h
 ·exact .inl (.inl (e _ _ rfl h))
 ·exact .inl (.inr ⟨o,e _ _ rfl h⟩)
 ·exact .inr h
def pI:Hp→List Addr→List V→Int→Prop:=fun _ _ rest i=>rest=[.int i]
def pII:Hp→List Addr→List V→Int × Int→Prop:=fun _ _ rest x=>rest=[.int x.1,.int x.2]
def pIII:Hp→List Addr→List V→Int × Int × Int→Prop:=fun _ _ rest x=>rest=[.int x.1,.int x.2.1,.int x.2.2]∧x.2.1.natAbs < 2 ^ 60∧x.2.2.natAbs < 2 ^ 60
def pIIII:Hp→List Addr→List V→Int × Int × Int × Int→Prop:=fun _ _ rest x=>rest=[.int x.1,.int x.2.1,.int x.2.2.1,.int x.2.2.2]∧x.2.2.1.natAbs < 2 ^ 60∧x.2.2.2.natAbs < 2 ^ 60
def p0:Hp→List Addr→List V→Unit→Prop:=fun _ _ rest _=>rest=[]
def pL:Hp→List Addr→List V→List Int→Prop:=fun H E rest ns=>∃ l,rest=[.ref l]∧H l=some (.lst (ns.map V.int))∧l∈E∧ns.length≤20000∧∀ z∈ns,z.natAbs < 2 ^ 60
def pIL:Hp→List Addr→List V→Int × List Int→Prop:=fun H E rest x=>∃ l,rest=[.int x.1,.ref l]∧H l=some (.lst (x.2.map V.int))∧l∈E∧x.2.length≤20000∧∀ z∈x.2,z.natAbs < 2 ^ 60
def spH (K:PySem.W.Frag) (C CS:Addr) {α:Type} (pre:Hp→List Addr→List V→α→Prop) (f:HS→α→HS × List Int):Sp:=fun vs H Q _=>∃ (a:Addr) (E:List Addr) (S:HS) (rest:List V) (x:α),vs=.ref a::rest∧pre H E rest x∧S.Good∧EL E H∧HolderAt K C CS (hides E H) a S ∧
 ∀ H' r,r ∉ E→KeepE E H H'→HolderAt K C CS (hides E H') a (f S x).1→KeepT H H'→H' r=some (.lst ((f S x).2.map V.int))→Q (.ref r) H'
theorem EL.free {E:List Addr} {H:Hp} {b:Addr} (hE:EL E H) (hb:H b=none):b ∉ E:=fun q=>by obtain ⟨zs,hz⟩:=hE b q;rw [hz] at hb;cases hb
theorem one_told {K:PySem.W.Frag} {C CS:Addr} {H H0:Hp} {a:Addr} {E:List Addr} {S S':HS} {Q:VK} {n:Int} {ans:List Int} (hE:EL E H0) (kE:KeepE E H0 H) (kT:KeepT H0 H) (B:HolderAt K C CS (hides E H) a S) (e1:S'=S) (e2:ans=[n])
  (k:∀ H' r,r ∉ E→KeepE E H0 H'→HolderAt K C CS (hides E H') a S'→KeepT H0 H'→H' r=some (.lst (ans.map V.int))→Q (.ref r) H'):[V.int n].length≤sizeLine∧∀ p,H p=none→Q (.ref p) (upd H p (.lst [.int n])):=by
 refine ⟨(by show 1≤sizeLine;decide),fun p hp=>?_⟩
 have s:=same_upd (o:=.lst [V.int n]) hp
 subst e1 e2
 exact k _ p ((hE.keep kE).free hp) (kE.trans (KeepE.of s)) (B.mono s) (kT.trans (KeepT.of s)) upd_same
theorem need_ok {S:HS} (h:¬ S.need < 0):∃ p,S.pt=some p∧S.flt=none:=needs h
theorem HS.alongL (S:HS) (d:Nat):(S.along d).length=S.c.length:=by
 unfold HS.along
 rw [changesQ_length,List.length_map]
 simp
theorem range_at0 (l:List Rat):(List.range l.length).map (at0 l)=l:=by
 refine List.ext_getElem? fun i=>?_
 rw [List.getElem?_map]
 by_cases h:i < l.length
 ·rw [List.getElem?_range h,at0_get h];rfl
 ·rw [List.getElem?_eq_none (by rw [List.length_range];omega),List.getElem?_eq_none (by omega)];rfl
section
variable {P:Program} {w:World} {K:PySem.W.Frag} {mg:Str→Option Value} {base:Heap} {C CS:Addr}
theorem end_told {H H1:Hp} {a l:Addr} {E:List Addr} {S:HS} {Q:VK} {qs:List Rat} {ans:List Int} (hE:EL E H) (kE:KeepE E H H1) (B1:HolderAt K C CS (hides E H1) a S) (kt:KeepT H H1) (hl:FrsAt K H1 l qs) (hq:qs.length≤1000) (e2:ans=toldQ qs)
  (k:∀ H' r,r ∉ E→KeepE E H H'→HolderAt K C CS (hides E H') a S→KeepT H H'→H' r=some (.lst (ans.map V.int))→Q (.ref r) H') (Ex:XK):spTold K ([.ref l]++[]) H1 Q Ex:=by
 refine ⟨l,qs,rfl,hl,hq,fun H2 r s2 hrn h2=>?_⟩
 subst e2
 exact k H2 r ((hE.keep kE).free hrn) (kE.trans (KeepE.of s2)) (B1.mono s2) (kt.trans (KeepT.of s2)) h2
theorem chg_use {H:Hp} {a:Addr} {E:List Addr} {S:HS} {t:Bool} {d i:Nat} {sa:Addr} {dr:List Rat} {Q:VK} {Ex:XK} (TS:TxtS K CS) (G:S.Good) (hdo:dirOf S t d=some dr) (hdl:dr.length=S.n) (hds:∀ x∈dr,Small 200 x) (hi:i < S.c.length) (hE:EL E H) (Kn:Known K C CS (hides E H) a S t d sa)
  (k:∀ H' v,KeepE E H H'→HolderAt K C CS (hides E H') a S→KeepT H H'→FrAt K H' v (at0 (changesQ dr S.res [] S.code) i)→Q (.ref v) H') :
  ∃ sx fs,H sa=some (.ins CS sx fs)∧fs.lookup (Str.ofString "change_of")=none∧fs.lookup (Str.ofString "first_coefficients")=none∧spChg K CS [.ref sa,.int i] H Q Ex:=by
 obtain ⟨dr',p,sx,sl,sd,sm,rows,ks,g1,g2,g3,Si,use⟩:=Kn.use hE
 rw [hdo] at g1
 cases g1
 refine ⟨sx,_,Si.ins,rfl,rfl,sa,sx,sl,sd,sm,rows,S.c,p,dr,S.n,i,ks,rfl,Si,serM G g2 g3 hdl hds,hi,fun H' ks' v s1 R1 hv=>?_⟩
 obtain ⟨u1,_,u2,u3⟩:=use H' ks' s1 R1
 refine k H' v u2 u1 u3 ?_
 have e:=ser_change G g2 g3 hds i
 rw [← e]
 exact hv
def spPart (K:PySem.W.Frag) (C CS:Addr):Sp:=fun vs H Q _=>∃ (a:Addr) (E:List Addr) (S:HS) (i:Nat) (p:List Rat),vs=[.ref a,.int i]∧S.Good∧S.pt=some p∧S.flt=none∧i < S.c.length∧EL E H∧HolderAt K C CS (hides E H) a S ∧
 ∀ H' l,KeepE E H H'→KeepT H H'→HolderAt K C CS (hides E H') a S→H l=none→FrsNew K H' l (S.grad i)→Q (.ref l) H'
theorem ok_partials (D:MethAt K C "partials" "Holder.partials" s_Holder_partials) (T:Txt K C) (TS:TxtS K CS) (n_range:mg "range"=none) (m_along_input:Mth P w K mg base C "along_input" ["self","k"] 43 (spSer K C CS true)) (m_change_of:Mth P w K mg base CS "change_of" ["self","i"] 48 (spChg K CS)) :
  Mth P w K mg base C "partials" ["self","i"] 49 (spPart K C CS):=by
 refine mkM (k:=48) D sc_Holder_partials (fun _ _ _ _ _ _ us hl=>match us,hl with | [_,_],_=>rfl) (fun vs H Q E h=>?_) (fun f cdv A outer s H vs Q E hr h=>?_)
 ·obtain ⟨a,El,S,i,p,rfl,_⟩:=h
  rfl
 ·obtain ⟨a,El,S,i,p,rfl,G,hp,hfl,hi,hE,hB,k⟩:=h
  obtain ⟨dx,la,da,po,ra,fv,ka,kp,drs,kv1,kv2,own,B⟩:=id hB
  refine ⟨_,(pss_one (ps_ret (pe_lc rfl sc_Holder_partials.nd (pi_range1 rfl n_range (pa_cons (pe_fld (pv 0) rfl) pa_nil)) (show BlkOk ["self","i","k"] (defScope s_Holder_partials) _ [("k",2)] from blkOk_by (by decide +kernel)) (fun _ _ _ _ _=>(pg_name (i:=2) sc_Holder_partials.nd rfl (by first|exact .inl rfl|exact .inr rfl))) (fun _ _ _ _ _=>pts_nil) (fun _ _ _ _ _=>(pe_methC TS.cl m_change_of hr (pe_methC T.cl m_along_input hr (pv 0) (pa_cons (pv 2) pa_nil)) (pa_cons (pv 1) pa_nil)))))),?_⟩
  have hn12:=G.n12
  refine ⟨_,rfl,a,C,dx,_,_,rfl,B.insH,T.cl,T.n1,rfl,(S.n:Int),rfl,by omega,by omega,fun l hl=>?_⟩
  rw [Int.toNat_natCast]
  have nlE:l ∉ El:=fun q=>by obtain ⟨zs,hz⟩:=hE l q;rw [hl] at hz;cases hz
  refine lc_range (lo:=0) (n:=S.n) (fun m H1=>HolderAt K C CS (hides (l::El) H1) a S∧KeepE El H H1∧KeepT H H1∧∃ rs:List Addr,H1 l=some (.lst (rs.map V.ref))∧Paired (FrAt K H1) rs ((List.range m).map fun k=>at0 (changesQ (unitQ S.n k) S.res [] S.code) i)) ⟨?_,KeepE.of (same_upd hl),KeepT.of (same_upd hl),[],upd_same,.nil⟩ ?_ ?_
  ·rw [hides_upd (List.mem_cons_self ..)]
   exact hB.hideMore hl
  ·rintro m H1 hm ⟨hB1,kE1,kT1,rs,hl1,hp1⟩
   rw [show (0:Int)+(m:Int)=((m:Nat):Int) by omega]
   obtain ⟨dx1,la1,da1,po1,ra1,fv1,ka1,kp1,drs1,kv11,kv21,own1,B1⟩:=id hB1
   have hE1:EL (l::El) H1:=fun e he=>by
    rcases List.mem_cons.mp he with rfl | he
    ·exact ⟨_,hl1⟩
    ·exact hE.keep kE1 e he
   have hdo:dirOf S true m=some (unitQ S.n m):=by
    show dir2 S m=_
    unfold dir2
    rw [if_pos hm]
   refine ⟨rfl,tyes ?_⟩
   refine ⟨_,rfl,a,dx1,_,rfl,B1.insH,rfl,_,rfl,a,l::El,S,m,_,p,rfl,G,hp,hfl,hdo,hE1,hB1,fun H2 sa kE2 kT2 Kn=>?_⟩
   obtain ⟨sx,fs,c1,c2,_,c4⟩:=chg_use (Q:=fun v H4=>∃ acc,H4 l=some (.lst acc)∧acc.length < sizeLine∧HolderAt K C CS (hides (l::El) (upd H4 l (.lst (acc++[v])))) a S∧KeepE El H (upd H4 l (.lst (acc++[v])))∧KeepT H (upd H4 l (.lst (acc++[v])))∧∃ rs:List Addr,upd H4 l (.lst (acc++[v])) l=some (.lst (rs.map V.ref))∧Paired (FrAt K (upd H4 l (.lst (acc++[v])))) rs ((List.range (m+1)).map fun k=>at0 (changesQ (unitQ S.n k) S.res [] S.code) i))
    (Ex:=E0) TS G hdo (unit_length _ _) (unit_small _ _) hi (hE1.keep kE2) Kn (fun H3 v kE3 hB3 kT3 hv=>by
     have hl3:H3 l=some (.lst (rs.map V.ref)):=kE3 l (List.mem_cons_self ..) _ (kE2 l (List.mem_cons_self ..) _ hl1)
     refine ⟨_,hl3,?_,?_,fun e he o eo=>?_,fun b o lt eo=>?_,rs++[v],?_,?_⟩
     ·rw [List.length_map,plen hp1,List.length_map,List.length_range,sizeLine_eq];omega
     ·rw [hides_upd (List.mem_cons_self ..)];exact hB3
     ·have hne:e≠l:=fun q=>nlE (by rw [← q];exact he)
      rw [upd_ne hne]
      exact kE3 e (List.mem_cons_of_mem _ he) o (kE2 e (List.mem_cons_of_mem _ he) o (kE1 e he o eo))
     ·have e3:=kT3 b o lt (kT2 b o lt (kT1 b o lt eo))
      have hne:b≠l:=fun q=>by rw [q,hl3] at e3;cases e3;cases lt
      rw [upd_ne hne]
      exact e3
     ·rw [upd_same,List.map_append];rfl
     ·rw [List.range_succ,List.map_append,List.map_cons,List.map_nil]
      exact psnoc (Paired.mapP hp1 fun _ _ z=>SqT.put (kT3.seqT (kT2.seqT z)) hl3) (SqT.put hv hl3))
   exact ⟨sa,sx,fs,rfl,c1,c2,_,rfl,c4⟩
  ·rintro H1 ⟨hB1,kE1,kT1,rs,hl1,hp1⟩
   exact k H1 l kE1 kT1 (hB1.unhide nlE) hl ⟨rs,hl1,hp1⟩
end
end Lc
end
section
namespace Lc
open PySem PySem.Spec PyProof.Rows L2
open VagraLine (Fault)
section
variable {P:Program} {w:World} {K:PySem.W.Frag} {mg:Str→Option Value} {base:Heap} {C CS:Addr}
structure Looks (P:Program) (w:World) (K:PySem.W.Frag) (mg:Str→Option Value) (base:Heap) (C CS:Addr):Prop where
 m_has_line:Mth P w K mg base C "has_line" ["self","i"] 41 (spLook K C CS fun S i=>.bl (hasLine S i))
 m_has_direction:Mth P w K mg base C "has_direction" ["self","d"] 41 (spLook K C CS fun S i=>.bl (hasDir S i))
 m_run_refusal:Mth P w K mg base C "run_refusal" ["self"] 41 (spNeed K C CS)
 C_told:Callee P w K mg base "told" ["fractions"] 43 (spTold K)
 c_OUT_OF_RANGE:Const mg "OUT_OF_RANGE" (.int (-1))
theorem hasLine_lt {S:HS} {i:Int} (h:hasLine S i=true):0≤i∧i < (S.c.length:Int):=by
 unfold hasLine at h
 simpa using h
theorem hasDir_lt {S:HS} {i:Int} (h:hasDir S i=true):0≤i∧i < (S.dirs.length:Int):=by
 unfold hasDir at h
 simpa using h
theorem hasDir_get {S:HS} {d:Int} (h:hasDir S d=true):∃ (n:Nat) (dr:List Rat),d=(n:Int)∧dirOf S false n=some dr∧dr=S.dirs.getD n []:=by
 obtain ⟨h0,h1⟩:=hasDir_lt h
 have hn:d.toNat < S.dirs.length:=by omega
 refine ⟨d.toNat,S.dirs[d.toNat],by omega,List.getElem?_eq_getElem hn,?_⟩
 rw [List.getD_eq_getElem?_getD,List.getElem?_eq_getElem hn]
 rfl
theorem ok_tell_value (D:MethAt K C "tell_value" "Holder.tell_value" s_Holder_tell_value) (T:Txt K C) (Lk:Looks P w K mg base C CS):Mth P w K mg base C "tell_value" ["self","i"] 50 (spH K C CS pI fValue):=by
 obtain ⟨m_has_line,m_has_direction,m_run_refusal,C_told,c_OUT_OF_RANGE⟩:=Lk
 refine mkM (k:=49) D sc_Holder_tell_value (fun _ _ _ _ _ _ us hl=>match us,hl with | [_,_],_=>rfl) (fun vs H Q E h=>?_) (fun f cdv A outer s H vs Q E hr h=>?_)
 ·obtain ⟨a,ev,S,rest,i,rfl,rfl,_⟩:=h
  rfl
 ·obtain ⟨a,El,S,rest,i,rfl,rfl,G,hE,hB,k⟩:=h
  obtain ⟨dx,la,da,po,ra,fv,ka,kp,drs,kv1,kv2,own,B⟩:=id hB
  have hi:=B.insH
  refine ⟨_,(pss_cons (ps_if (pt_not (pt_val (pe_methC T.cl m_has_line hr (pv 0) (pa_cons (pv 1) pa_nil)))) (pss_one (ps_ret (pe_lst (pa_cons (pe_const c_OUT_OF_RANGE) pa_nil)))) pss_nil)
   (pss_cons (ps_set (i:=2) sc_Holder_tell_value.nd rfl (by first|exact .inl rfl|exact .inr rfl) (pe_methC0 T.cl m_run_refusal hr (pv 0)))
   (pss_cons (ps_if (pt_cmpR op_lt (pv 2) pe_int (nomark _)) (pss_one (ps_ret (pe_lst (pa_cons (pv 2) pa_nil)))) pss_nil)
   (pss_one (ps_ret (pe_callC C_told hr (pa_cons (pe_lst (pa_cons (pe_ix ix_list (pe_fld (pv 0) rfl) (pv 1) (fun _ _=>rfl)) pa_nil)) pa_nil))))))),?_⟩
  refine ⟨_,rfl,a,dx,_,rfl,hi,rfl,_,rfl,a,El,S,i,rfl,hB,_,rfl,?_⟩
  unfold fValue at k
  dsimp only at k
  cases hL:hasLine S i with
  | false =>
   rw [hL] at k
   refine iteT ?_
   exact one_told hE (KeepE.refl _ _) (KeepT.refl H) hB rfl rfl k
  | true =>
   rw [hL,if_pos rfl] at k
   unfold fNeed at k
   refine iteF ?_
   refine ⟨_,rfl,a,dx,_,rfl,hi,rfl,a,El,S,rfl,hB,?_⟩
   refine ⟨_,rfl,_,_,rfl,rfl,_,rfl,?_⟩
   by_cases hn:S.need < 0
   ·rw [if_pos hn] at k
    rw [decide_eq_true hn]
    refine iteT ⟨_,rfl,?_⟩
    exact one_told hE (KeepE.refl _ _) (KeepT.refl H) hB rfl rfl k
   ·rw [if_neg hn] at k
    rw [decide_eq_false hn]
    refine iteF ?_
    obtain ⟨p,hp,hfl⟩:=need_ok hn
    have hi2:0≤i∧i < (S.res.length:Int):=by
     rw [HS.resL hp hfl]
     exact hasLine_lt hL
    obtain ⟨xs,r,q1,q2,q3⟩:=(B.res.at.same B.sub).getI hi2.1 hi2.2
    refine ⟨_,rfl,a,C,dx,_,_,rfl,hi,T.cl,T.n5,rfl,_,rfl,ra,_,_,_,rfl,rfl,q1,q2,(by show 1≤sizeLine;decide),fun l hl=>?_⟩
    have s1:=same_upd (o:=.lst [V.ref r]) hl
    exact end_told (H:=H) hE (KeepE.of s1) (hB.mono s1) (KeepT.of s1) ⟨[r],SqL.of upd_same,.cons (q3.same s1) .nil⟩ (by show 1≤1000;decide) rfl k E0
theorem ok_tell_values (D:MethAt K C "tell_values" "Holder.tell_values" s_Holder_tell_values) (T:Txt K C) (Lk:Looks P w K mg base C CS):Mth P w K mg base C "tell_values" ["self"] 50 (spH K C CS p0 fValues):=by
 obtain ⟨m_has_line,m_has_direction,m_run_refusal,C_told,c_OUT_OF_RANGE⟩:=Lk
 refine mkM (k:=49) D sc_Holder_tell_values (fun _ _ _ _ _ _ us hl=>match us,hl with | [_],_=>rfl) (fun vs H Q E h=>?_) (fun f cdv A outer s H vs Q E hr h=>?_)
 ·obtain ⟨a,ev,S,rest,i,rfl,rfl,_⟩:=h
  rfl
 ·obtain ⟨a,El,S,rest,i,rfl,rfl,G,hE,hB,k⟩:=h
  obtain ⟨dx,la,da,po,ra,fv,ka,kp,drs,kv1,kv2,own,B⟩:=id hB
  have hi:=B.insH
  refine ⟨_,(pss_cons (ps_set (i:=1) sc_Holder_tell_values.nd rfl (by first|exact .inl rfl|exact .inr rfl) (pe_methC0 T.cl m_run_refusal hr (pv 0)))
   (pss_cons (ps_if (pt_cmpR op_lt (pv 1) pe_int (nomark _)) (pss_one (ps_ret (pe_lst (pa_cons (pv 1) pa_nil)))) pss_nil)
   (pss_one (ps_ret (pe_callC C_told hr (pa_cons (pe_fld (pv 0) rfl) pa_nil)))))),?_⟩
  unfold fValues fNeed at k
  dsimp only at k
  refine ⟨_,rfl,a,dx,_,rfl,hi,rfl,a,El,S,rfl,hB,?_⟩
  refine ⟨_,rfl,_,_,rfl,rfl,_,rfl,?_⟩
  by_cases hn:S.need < 0
  ·rw [if_pos hn] at k
   rw [decide_eq_true hn]
   refine iteT ⟨_,rfl,?_⟩
   exact one_told hE (KeepE.refl _ _) (KeepT.refl H) hB rfl rfl k
  ·rw [if_neg hn] at k
   rw [decide_eq_false hn]
   refine iteF ?_
   obtain ⟨p,hp,hfl⟩:=need_ok hn
   refine ⟨_,rfl,a,C,dx,_,_,rfl,hi,T.cl,T.n5,rfl,?_⟩
   exact end_told (H:=H) hE (KeepE.refl _ _) hB (KeepT.refl H) (B.res.at.same B.sub) (by rw [HS.resL hp hfl];have:=G.c80;omega) rfl k E0
theorem ok_tell_change (D:MethAt K C "tell_change" "Holder.tell_change" s_Holder_tell_change) (T:Txt K C) (TS:TxtS K CS) (Lk:Looks P w K mg base C CS) (m_along:Mth P w K mg base C "along" ["self","d"] 43 (spSer K C CS false)) (m_change_of:Mth P w K mg base CS "change_of" ["self","i"] 48 (spChg K CS)) :
  Mth P w K mg base C "tell_change" ["self","i","d"] 50 (spH K C CS pII fChange):=by
 obtain ⟨m_has_line,m_has_direction,m_run_refusal,C_told,c_OUT_OF_RANGE⟩:=Lk
 refine mkM (k:=49) D sc_Holder_tell_change (fun _ _ _ _ _ _ us hl=>match us,hl with | [_,_,_],_=>rfl) (fun vs H Q E h=>?_) (fun f cdv A outer s H vs Q E hr h=>?_)
 ·obtain ⟨a,ev,S,rest,i,rfl,rfl,_⟩:=h
  rfl
 ·obtain ⟨a,El,S,rest,⟨i,d⟩,rfl,rfl,G,hE,hB,k⟩:=h
  obtain ⟨dx,la,da,po,ra,fv,ka,kp,drs,kv1,kv2,own,B⟩:=id hB
  have hi:=B.insH
  refine ⟨_,(pss_cons (ps_if (PW.pt (pw_or (pt_not (pt_val (pe_methC T.cl m_has_line hr (pv 0) (pa_cons (pv 1) pa_nil)))) (pw_or1 (pt_not (pt_val (pe_methC T.cl m_has_direction hr (pv 0) (pa_cons (pv 2) pa_nil))))))) (pss_one (ps_ret (pe_lst (pa_cons (pe_const c_OUT_OF_RANGE) pa_nil)))) pss_nil)
   (pss_cons (ps_set (i:=3) sc_Holder_tell_change.nd rfl (by first|exact .inl rfl|exact .inr rfl) (pe_methC0 T.cl m_run_refusal hr (pv 0)))
   (pss_cons (ps_if (pt_cmpR op_lt (pv 3) pe_int (nomark _)) (pss_one (ps_ret (pe_lst (pa_cons (pv 3) pa_nil)))) pss_nil)
   (pss_one (ps_ret (pe_callC C_told hr (pa_cons (pe_lst (pa_cons (pe_methC TS.cl m_change_of hr (pe_methC T.cl m_along hr (pv 0) (pa_cons (pv 2) pa_nil)) (pa_cons (pv 1) pa_nil)) pa_nil)) pa_nil))))))),?_⟩
  refine ⟨_,rfl,a,dx,_,rfl,hi,rfl,_,rfl,a,El,S,i,rfl,hB,_,rfl,?_⟩
  unfold fChange at k
  dsimp only at k
  cases hL:hasLine S i with
  | false =>
   rw [hL] at k
   refine iteT (iteT ?_)
   exact one_told hE (KeepE.refl _ _) (KeepT.refl H) hB rfl rfl k
  | true =>
   rw [hL,if_pos rfl] at k
   refine iteF ?_
   refine ⟨_,rfl,a,dx,_,rfl,hi,rfl,_,rfl,a,El,S,d,rfl,hB,_,rfl,?_⟩
   cases hD:hasDir S d with
   | false =>
    rw [hD] at k
    refine iteT ?_
    exact one_told hE (KeepE.refl _ _) (KeepT.refl H) hB rfl rfl k
   | true =>
    rw [hD,if_pos rfl] at k
    unfold fNeed at k
    refine iteF ?_
    refine ⟨_,rfl,a,dx,_,rfl,hi,rfl,a,El,S,rfl,hB,?_⟩
    refine ⟨_,rfl,_,_,rfl,rfl,_,rfl,?_⟩
    by_cases hn:S.need < 0
    ·rw [if_pos hn] at k
     rw [decide_eq_true hn]
     refine iteT ⟨_,rfl,?_⟩
     exact one_told hE (KeepE.refl _ _) (KeepT.refl H) hB rfl rfl k
    ·rw [if_neg hn] at k
     rw [decide_eq_false hn]
     refine iteF ?_
     obtain ⟨p,hp,hfl⟩:=need_ok hn
     obtain ⟨dn,dr,rfl,hdo,hdr⟩:=hasDir_get hD
     obtain ⟨hi0,hi1⟩:=hasLine_lt hL
     obtain ⟨jn,rfl⟩:∃ jn:Nat,i=(jn:Int):=⟨i.toNat,by omega⟩
     have hGd:=G.dl dr (List.mem_of_getElem? (show S.dirs[dn]?=some dr from hdo))
     rw [Int.toNat_natCast,Int.toNat_natCast] at k
     refine ⟨_,rfl,a,dx,_,rfl,hi,rfl,_,rfl,a,El,S,dn,dr,p,rfl,G,hp,hfl,hdo,hE,hB,fun H1 sa kE1 kT1 Kn=>?_⟩
     obtain ⟨sx,fs,c1,c2,_,c4⟩:=chg_use (i:=jn) (Ex:=E0) (Q:=fun v H2=>[v].length≤sizeLine∧∀ l,H2 l=none→spTold K ([.ref l]++[]) (upd H2 l (.lst [v])) Q E0) TS G hdo hGd.1 hGd.2 (by omega) (hE.keep kE1) Kn (fun H2 v kE2 hB2 kT2 hv=>by
      refine ⟨(by show 1≤sizeLine;decide),fun l hl=>?_⟩
      have s1:=same_upd (o:=.lst [V.ref v]) hl
      refine end_told (H:=H) hE (qs:=[at0 (S.along dn) jn]) ((kE1.trans kE2).trans (KeepE.of s1)) (hB2.mono s1) ((kT1.trans kT2).trans (KeepT.of s1)) ⟨[v],SqL.of upd_same,.cons ?_ .nil⟩ (by show 1≤1000;decide) rfl k E0
      have ea:S.along dn=changesQ dr S.res [] S.code:=by unfold HS.along;rw [hdr]
      rw [ea]
      exact hv.same s1)
     exact ⟨sa,sx,fs,rfl,c1,c2,_,rfl,c4⟩
theorem ok_tell_gradient (D:MethAt K C "tell_gradient" "Holder.tell_gradient" s_Holder_tell_gradient) (T:Txt K C) (Lk:Looks P w K mg base C CS) (m_partials:Mth P w K mg base C "partials" ["self","i"] 49 (spPart K C CS)):Mth P w K mg base C "tell_gradient" ["self","i"] 50 (spH K C CS pI fGradient):=by
 obtain ⟨m_has_line,m_has_direction,m_run_refusal,C_told,c_OUT_OF_RANGE⟩:=Lk
 refine mkM (k:=49) D sc_Holder_tell_gradient (fun _ _ _ _ _ _ us hl=>match us,hl with | [_,_],_=>rfl) (fun vs H Q E h=>?_) (fun f cdv A outer s H vs Q E hr h=>?_)
 ·obtain ⟨a,ev,S,rest,i,rfl,rfl,_⟩:=h
  rfl
 ·obtain ⟨a,El,S,rest,i,rfl,rfl,G,hE,hB,k⟩:=h
  obtain ⟨dx,la,da,po,ra,fv,ka,kp,drs,kv1,kv2,own,B⟩:=id hB
  have hi:=B.insH
  refine ⟨_,(pss_cons (ps_if (pt_not (pt_val (pe_methC T.cl m_has_line hr (pv 0) (pa_cons (pv 1) pa_nil)))) (pss_one (ps_ret (pe_lst (pa_cons (pe_const c_OUT_OF_RANGE) pa_nil)))) pss_nil)
   (pss_cons (ps_set (i:=2) sc_Holder_tell_gradient.nd rfl (by first|exact .inl rfl|exact .inr rfl) (pe_methC0 T.cl m_run_refusal hr (pv 0)))
   (pss_cons (ps_if (pt_cmpR op_lt (pv 2) pe_int (nomark _)) (pss_one (ps_ret (pe_lst (pa_cons (pv 2) pa_nil)))) pss_nil)
   (pss_one (ps_ret (pe_callC C_told hr (pa_cons (pe_methC T.cl m_partials hr (pv 0) (pa_cons (pv 1) pa_nil)) pa_nil))))))),?_⟩
  refine ⟨_,rfl,a,dx,_,rfl,hi,rfl,_,rfl,a,El,S,i,rfl,hB,_,rfl,?_⟩
  unfold fGradient at k
  dsimp only at k
  cases hL:hasLine S i with
  | false =>
   rw [hL] at k
   refine iteT ?_
   exact one_told hE (KeepE.refl _ _) (KeepT.refl H) hB rfl rfl k
  | true =>
   rw [hL,if_pos rfl] at k
   unfold fNeed at k
   refine iteF ?_
   refine ⟨_,rfl,a,dx,_,rfl,hi,rfl,a,El,S,rfl,hB,?_⟩
   refine ⟨_,rfl,_,_,rfl,rfl,_,rfl,?_⟩
   by_cases hn:S.need < 0
   ·rw [if_pos hn] at k
    rw [decide_eq_true hn]
    refine iteT ⟨_,rfl,?_⟩
    exact one_told hE (KeepE.refl _ _) (KeepT.refl H) hB rfl rfl k
   ·rw [if_neg hn] at k
    rw [decide_eq_false hn]
    refine iteF ?_
    obtain ⟨p,hp,hfl⟩:=need_ok hn
    obtain ⟨hi0,hi1⟩:=hasLine_lt hL
    obtain ⟨jn,rfl⟩:∃ jn:Nat,i=(jn:Int):=⟨i.toNat,by omega⟩
    rw [Int.toNat_natCast] at k
    refine ⟨_,rfl,a,dx,_,rfl,hi,rfl,_,rfl,a,El,S,jn,p,rfl,G,hp,hfl,by omega,hE,hB,fun H1 l kE1 kT1 hB1 hl hfr=>?_⟩
    refine end_told (H:=H) hE kE1 hB1 kT1 hfr.at ?_ rfl k E0
    unfold HS.grad
    rw [List.length_map,List.length_range]
    have:=G.n12
    omega
theorem ok_tell_changes (D:MethAt K C "tell_changes" "Holder.tell_changes" s_Holder_tell_changes) (T:Txt K C) (TS:TxtS K CS) (n_range:mg "range"=none) (n_len:mg "len"=none) (Lk:Looks P w K mg base C CS) (m_along:Mth P w K mg base C "along" ["self","d"] 43 (spSer K C CS false)) (m_change_of:Mth P w K mg base CS "change_of" ["self","i"] 48 (spChg K CS)) :
  Mth P w K mg base C "tell_changes" ["self","d"] 50 (spH K C CS pI fChanges):=by
 obtain ⟨m_has_line,m_has_direction,m_run_refusal,C_told,c_OUT_OF_RANGE⟩:=Lk
 refine mkM (k:=49) D sc_Holder_tell_changes (fun _ _ _ _ _ _ us hl=>match us,hl with | [_,_],_=>rfl) (fun vs H Q E h=>?_) (fun f cdv A outer s H vs Q E hr h=>?_)
 ·obtain ⟨a,ev,S,rest,i,rfl,rfl,_⟩:=h
  rfl
 ·obtain ⟨a,El,S,rest,d,rfl,rfl,G,hE,hB,k⟩:=h
  obtain ⟨dx,la,da,po,ra,fv,ka,kp,drs,kv1,kv2,own,B⟩:=id hB
  have hi:=B.insH
  refine ⟨_,(pss_cons (ps_if (pt_not (pt_val (pe_methC T.cl m_has_direction hr (pv 0) (pa_cons (pv 1) pa_nil)))) (pss_one (ps_ret (pe_lst (pa_cons (pe_const c_OUT_OF_RANGE) pa_nil)))) pss_nil)
   (pss_cons (ps_set (i:=2) sc_Holder_tell_changes.nd rfl (by first|exact .inl rfl|exact .inr rfl) (pe_methC0 T.cl m_run_refusal hr (pv 0)))
   (pss_cons (ps_if (pt_cmpR op_lt (pv 2) pe_int (nomark _)) (pss_one (ps_ret (pe_lst (pa_cons (pv 2) pa_nil)))) pss_nil)
   (pss_one (ps_ret (pe_callC C_told hr (pa_cons (pe_lc rfl sc_Holder_tell_changes.nd (pi_range1 rfl n_range (pa_cons (pe_callB call_len_seq (by rfl) n_len bt_len (pa_cons (pe_fld (pv 0) rfl) pa_nil)) pa_nil)) (show BlkOk ["self","d","refusal","i"] (defScope s_Holder_tell_changes) _ [("i",3)] from blkOk_by (by decide +kernel)) (fun _ _ _ _ _=>(pg_name (i:=3) sc_Holder_tell_changes.nd rfl (by first|exact .inl rfl|exact .inr rfl))) (fun _ _ _ _ _=>pts_nil) (fun _ _ _ _ _=>(pe_methC TS.cl m_change_of hr (pe_methC T.cl m_along hr (pv 0) (pa_cons (pv 1) pa_nil)) (pa_cons (pv 3) pa_nil)))) pa_nil))))))),?_⟩
  unfold fChanges at k
  dsimp only at k
  refine ⟨_,rfl,a,dx,_,rfl,hi,rfl,_,rfl,a,El,S,d,rfl,hB,_,rfl,?_⟩
  cases hD:hasDir S d with
  | false =>
   rw [hD] at k
   refine iteT ?_
   exact one_told hE (KeepE.refl _ _) (KeepT.refl H) hB rfl rfl k
  | true =>
   rw [hD,if_pos rfl] at k
   unfold fNeed at k
   refine iteF ?_
   refine ⟨_,rfl,a,dx,_,rfl,hi,rfl,a,El,S,rfl,hB,?_⟩
   refine ⟨_,rfl,_,_,rfl,rfl,_,rfl,?_⟩
   by_cases hn:S.need < 0
   ·rw [if_pos hn] at k
    rw [decide_eq_true hn]
    refine iteT ⟨_,rfl,?_⟩
    exact one_told hE (KeepE.refl _ _) (KeepT.refl H) hB rfl rfl k
   ·rw [if_neg hn] at k
    rw [decide_eq_false hn]
    refine iteF ?_
    obtain ⟨p,hp,hfl⟩:=need_ok hn
    obtain ⟨dn,dr,rfl,hdo,hdr⟩:=hasDir_get hD
    have hGd:=G.dl dr (List.mem_of_getElem? (show S.dirs[dn]?=some dr from hdo))
    rw [Int.toNat_natCast] at k
    have ea:S.along dn=changesQ dr S.res [] S.code:=by unfold HS.along;rw [hdr]
    have hc80:=G.c80
    obtain ⟨lrs,hl0,hlp⟩:=B.lns.at.same B.sub
    refine ⟨_,rfl,a,C,dx,_,_,rfl,hi,T.cl,T.n2,rfl,la,_,rfl,.inl hl0,_,rfl,(by rw [List.length_map,plen hlp];omega),(by rw [List.length_map,plen hlp];omega),fun l hl=>?_⟩
    rw [List.length_map,plen hlp,Int.toNat_natCast]
    have nlE:l ∉ El:=fun q=>by obtain ⟨zs,hz⟩:=hE l q;rw [hl] at hz;cases hz
    refine lc_range (lo:=0) (n:=S.c.length) (fun m H1=>HolderAt K C CS (hides (l::El) H1) a S∧KeepE El H H1∧KeepT H H1∧∃ rs:List Addr,H1 l=some (.lst (rs.map V.ref))∧Paired (FrAt K H1) rs ((List.range m).map (at0 (S.along dn)))) ⟨?_,KeepE.of (same_upd hl),KeepT.of (same_upd hl),[],upd_same,.nil⟩ ?_ ?_
    ·rw [hides_upd (List.mem_cons_self ..)]
     exact hB.hideMore hl
    ·rintro m H1 hm ⟨hB1,kE1,kT1,rs,hl1,hp1⟩
     rw [show (0:Int)+(m:Int)=((m:Nat):Int) by omega]
     obtain ⟨dx1,la1,da1,po1,ra1,fv1,ka1,kp1,drs1,kv11,kv21,own1,B1⟩:=id hB1
     have hE1:EL (l::El) H1:=fun e he=>by
      rcases List.mem_cons.mp he with rfl | he
      ·exact ⟨_,hl1⟩
      ·exact hE.keep kE1 e he
     refine ⟨rfl,tyes ?_⟩
     refine ⟨_,rfl,a,dx1,_,rfl,B1.insH,rfl,_,rfl,a,l::El,S,dn,_,p,rfl,G,hp,hfl,hdo,hE1,hB1,fun H2 sa kE2 kT2 Kn=>?_⟩
     obtain ⟨sx,fs,c1,c2,_,c4⟩:=chg_use (i:=m) (Q:=fun v H4=>∃ acc,H4 l=some (.lst acc)∧acc.length < sizeLine∧HolderAt K C CS (hides (l::El) (upd H4 l (.lst (acc++[v])))) a S∧KeepE El H (upd H4 l (.lst (acc++[v])))∧KeepT H (upd H4 l (.lst (acc++[v])))∧∃ rs:List Addr,upd H4 l (.lst (acc++[v])) l=some (.lst (rs.map V.ref))∧Paired (FrAt K (upd H4 l (.lst (acc++[v])))) rs ((List.range (m+1)).map (at0 (S.along dn))))
      (Ex:=E0) TS G hdo hGd.1 hGd.2 hm (hE1.keep kE2) Kn (fun H3 v kE3 hB3 kT3 hv=>by
       have hl3:H3 l=some (.lst (rs.map V.ref)):=kE3 l (List.mem_cons_self ..) _ (kE2 l (List.mem_cons_self ..) _ hl1)
       rw [← ea] at hv
       refine ⟨_,hl3,?_,?_,fun e he o eo=>?_,fun b o lt eo=>?_,rs++[v],?_,?_⟩
       ·rw [List.length_map,plen hp1,List.length_map,List.length_range,sizeLine_eq];omega
       ·rw [hides_upd (List.mem_cons_self ..)];exact hB3
       ·have hne:e≠l:=fun q=>nlE (by rw [← q];exact he)
        rw [upd_ne hne]
        exact kE3 e (List.mem_cons_of_mem _ he) o (kE2 e (List.mem_cons_of_mem _ he) o (kE1 e he o eo))
       ·have e3:=kT3 b o lt (kT2 b o lt (kT1 b o lt eo))
        have hne:b≠l:=fun q=>by rw [q,hl3] at e3;cases e3;cases lt
        rw [upd_ne hne]
        exact e3
       ·rw [upd_same,List.map_append];rfl
       ·rw [List.range_succ,List.map_append,List.map_cons,List.map_nil]
        exact psnoc (Paired.mapP hp1 fun _ _ z=>SqT.put (kT3.seqT (kT2.seqT z)) hl3) (SqT.put hv hl3))
     exact ⟨sa,sx,fs,rfl,c1,c2,_,rfl,c4⟩
    ·rintro H1 ⟨hB1,kE1,kT1,rs,hl1,hp1⟩
     have hal:=HS.alongL S dn
     rw [← hal,range_at0] at hp1
     exact end_told (H:=H) hE kE1 (hB1.unhide nlE) kT1 ⟨rs,SqL.of hl1,hp1⟩ (by omega) rfl k E0
theorem ok_tell_table (D:MethAt K C "tell_table" "Holder.tell_table" s_Holder_tell_table) (T:Txt K C) (n_len:mg "len"=none) (n_all:mg "all"=none) (Lk:Looks P w K mg base C CS) (c_MOST_LINES_OF_TABLE:Const mg "MOST_LINES_OF_TABLE" (.int 12)) (c_NOT_OF_THE_FORM:Const mg "NOT_OF_THE_FORM" (.int (-2)))
  (m_partials:Mth P w K mg base C "partials" ["self","i"] 49 (spPart K C CS)):Mth P w K mg base C "tell_table" ["self","places"] 50 (spH K C CS pL fTable):=by
 obtain ⟨m_has_line,m_has_direction,m_run_refusal,C_told,c_OUT_OF_RANGE⟩:=Lk
 refine mkM (k:=49) D sc_Holder_tell_table (fun _ _ _ _ _ _ us hl=>match us,hl with | [_,_],_=>rfl) (fun vs H Q E h=>?_) (fun f cdv A outer s H vs Q E hr h=>?_)
 ·obtain ⟨a,ev,S,rest,ns,rfl,⟨l,rfl,_⟩,_⟩:=h
  rfl
 ·obtain ⟨a,El,S,rest,ns,rfl,⟨l0,rfl,hl0,hl0E,hlen,hsz⟩,G,hE,hB,k⟩:=h
  obtain ⟨dx,la,da,po,ra,fv,ka,kp,drs,kv1,kv2,own,B⟩:=id hB
  have hi:=B.insH
  refine ⟨_,(pss_cons (ps_if (PW.pt (pw_or (pt_cmpR op_gt (pe_callB call_len_seq (by rfl) n_len bt_len (pa_cons (pv 1) pa_nil)) (pe_const c_MOST_LINES_OF_TABLE) (nomark _)) (pw_or1 (pt_not (pt_val (pe_callB (cr_all rfl) (by rfl) n_all bt_all (pa_cons (pe_lc rfl sc_Holder_tell_table.nd (pi_list (pv 1)) (show BlkOk ["self","places","refusal","fractions","i"] (defScope s_Holder_tell_table) _ [("i",4)] from blkOk_by (by decide +kernel)) (fun _ _ _ _ _=>(pg_name (i:=4) sc_Holder_tell_table.nd rfl (by first|exact .inl rfl|exact .inr rfl))) (fun _ _ _ _ _=>pts_nil) (fun _ _ _ _ _=>(pe_methC T.cl m_has_line hr (pv 0) (pa_cons (pv 4) pa_nil)))) pa_nil))))))) (pss_one (ps_ret (pe_lst (pa_cons (pe_const c_NOT_OF_THE_FORM) pa_nil)))) pss_nil)
   (pss_cons (ps_set (i:=2) sc_Holder_tell_table.nd rfl (by first|exact .inl rfl|exact .inr rfl) (pe_methC0 T.cl m_run_refusal hr (pv 0)))
   (pss_cons (ps_if (pt_cmpR op_lt (pv 2) pe_int (nomark _)) (pss_one (ps_ret (pe_lst (pa_cons (pv 2) pa_nil)))) pss_nil)
   (pss_cons (ps_set (i:=3) sc_Holder_tell_table.nd rfl (by first|exact .inl rfl|exact .inr rfl) (pe_lst pa_nil))
   (pss_cons (ps_for PassesOwn.never rfl (pi_list (pv 1)) (pg_name (i:=4) sc_Holder_tell_table.nd rfl (by first|exact .inl rfl|exact .inr rfl)) (pss_one (ps_expr (pe_bm PySem.F.plainAttrs_list PySem.F.slot_list_extend PySem.F.type_list_extend mt_extend (pv 3) (pa_cons (pe_methC T.cl m_partials hr (pv 0) (pa_cons (pv 4) pa_nil)) pa_nil)))))
   (pss_one (ps_ret (pe_callC C_told hr (pa_cons (pv 3) pa_nil))))))))),?_⟩
  unfold fTable at k
  dsimp only at k
  refine ⟨_,rfl,l0,_,rfl,.inl (SqL.of hl0),_,_,rfl,rfl,_,rfl,?_⟩
  rw [List.length_map]
  by_cases h12:12 < ns.length
  ·rw [if_neg (by omega)] at k
   rw [decide_eq_true (show (12:Int) < (ns.length:Int) by omega)]
   refine iteT (iteT ?_)
   exact one_told hE (KeepE.refl _ _) (KeepT.refl H) hB rfl rfl k
  rw [decide_eq_false (show ¬ (12:Int) < (ns.length:Int) by omega)]
  refine iteF ?_
  refine ⟨_,rfl,l0,rfl,⟨_,SqL.of hl0⟩,fun d hd=>?_⟩
  refine lc_list (K:=K) (a:=l0) (xs:=ns.map V.int) (fun m H1=>Same H H1∧H1 d=some (.lst (((ns.take m).map (hasLine S)).map V.bl))) ⟨same_upd hd,upd_same⟩ (fun m H1 _ h1=>h1.1.seq (SqL.of hl0)) ?_ ?_
  ·rintro m x H1 hm ⟨s1,hd1⟩
   obtain ⟨y,hy,rfl⟩:∃ y,ns[m]?=some y∧x=V.int y:=by
    rw [List.getElem?_map] at hm
    cases e:ns[m]? with
    | none=>rw [e] at hm;cases hm
    | some y=>rw [e] at hm;exact ⟨y,rfl,(Option.some.inj hm).symm⟩
   refine ⟨rfl,tyes ?_⟩
   refine ⟨_,rfl,a,dx,_,rfl,s1 a _ hi,rfl,_,rfl,a,El,S,y,rfl,hB.mono s1,_,hd1,?_,same_put hd s1,?_⟩
   ·rw [List.length_map,List.length_map,List.length_take,sizeLine_eq];omega
   ·rw [upd_same,take_next hy,List.map_append,List.map_append];rfl
  ·rintro H1 ⟨s1,hd1⟩
   rw [List.length_map,List.take_length] at hd1
   refine ⟨d,_,rfl,SqL.of hd1,_,rfl,?_⟩
   have eall:(ns.map (hasLine S)).all id=ns.all (hasLine S):=by rw [List.all_map];rfl
   rw [eall]
   have hB1:=hB.mono s1
   have hE1:=hE.keep (KeepE.of s1)
   have hi1:=s1 a _ hi
   cases hall:ns.all (hasLine S) with
   | false =>
    rw [if_neg (by rw [hall];intro q;exact absurd q.1 (by decide))] at k
    refine iteT ?_
    exact one_told hE (KeepE.of s1) (KeepT.of s1) hB1 rfl rfl k
   | true =>
    rw [if_pos ⟨hall,by omega⟩] at k
    unfold fNeed at k
    refine iteF ?_
    refine ⟨_,rfl,a,dx,_,rfl,hi1,rfl,a,El,S,rfl,hB1,?_⟩
    refine ⟨_,rfl,_,_,rfl,rfl,_,rfl,?_⟩
    by_cases hn:S.need < 0
    ·rw [if_pos hn] at k
     rw [decide_eq_true hn]
     refine iteT ⟨_,rfl,?_⟩
     exact one_told hE (KeepE.of s1) (KeepT.of s1) hB1 rfl rfl k
    ·rw [if_neg hn] at k
     rw [decide_eq_false hn]
     refine iteF ?_
     obtain ⟨p,hp,hfl⟩:=need_ok hn
     refine ⟨Nat.zero_le _,fun fr hfr=>?_⟩
     have nfE:fr ∉ El:=fun q=>by obtain ⟨zs,hz⟩:=hE1 fr q;rw [hfr] at hz;cases hz
     have s2:=same_upd (o:=.lst []) hfr
     have hfr2:upd H1 fr (.lst []) fr=some (.lst []):=upd_same
     have hB2:HolderAt K C CS (hides (fr::El) (upd H1 fr (.lst []))) a S:=by
      rw [hides_upd (List.mem_cons_self ..)]
      exact hB1.hideMore hfr
     generalize upd H1 fr (.lst [])=H2 at s2 hfr2 hB2 ⊢
     have s02:=s1.trans s2
     have hgl:∀ i,(S.grad i).length=S.n:=fun i=>by unfold HS.grad;rw [List.length_map,List.length_range]
     have hn12:=G.n12
     have hfl2:∀ m,((ns.take m).flatMap fun i=>S.grad i.toNat).length=(ns.take m).length*S.n:=fun m=>by
      rw [List.length_flatMap]
      have:(ns.take m).map (fun i=>(S.grad i.toNat).length)=(ns.take m).map fun _=>S.n:=List.map_congr_left fun i _=>hgl _
      rw [this,List.map_const',List.sum_replicate_nat]
     refine ⟨_,rfl,l0,rfl,⟨_,s02.seq (SqL.of hl0)⟩,?_⟩
     refine for_list (K:=K) (a:=l0) (xs:=ns.map V.int) (fun m σ H3=>∃ (u:Option V),σ=[some (.ref a),some (.ref l0),some (.int S.need),some (.ref fr),u]∧HolderAt K C CS (hides (fr::El) H3) a S∧KeepE El H H3∧KeepT H H3∧∃ rs:List Addr,H3 fr=some (.lst (rs.map V.ref))∧Paired (FrAt K H3) rs ((ns.take m).flatMap fun i=>S.grad i.toNat))
      ⟨none,rfl,hB2,KeepE.of s02,KeepT.of s02,[],hfr2,.nil⟩ (fun m σ H3 _ ⟨_,_,_,kE3,_⟩=>SqL.of (kE3 l0 hl0E _ hl0)) ?_ ?_
     ·rintro m x σ H3 hm ⟨u,rfl,hB3,kE3,kT3,rs,hf3,hp3⟩
      obtain ⟨y,hy,rfl⟩:∃ y,ns[m]?=some y∧x=V.int y:=by
       rw [List.getElem?_map] at hm
       cases e:ns[m]? with
       | none=>rw [e] at hm;cases hm
       | some y=>rw [e] at hm;exact ⟨y,rfl,(Option.some.inj hm).symm⟩
      obtain ⟨hy0,hy1⟩:=hasLine_lt (List.all_eq_true.mp hall y (List.mem_of_getElem? hy))
      obtain ⟨jn,rfl⟩:∃ jn:Nat,y=(jn:Int):=⟨y.toNat,by omega⟩
      obtain ⟨dx3,la3,da3,po3,ra3,fv3,ka3,kp3,drs3,kv13,kv23,own3,B3⟩:=id hB3
      have hE3:EL (fr::El) H3:=fun e he=>by
       rcases List.mem_cons.mp he with rfl | he
       ·exact ⟨_,hf3⟩
       ·exact hE.keep kE3 e he
      refine ⟨_,rfl,.inl ⟨rfl,_,SqL.of hf3⟩,?_⟩
      refine ⟨_,rfl,a,dx3,_,rfl,B3.insH,rfl,_,rfl,a,fr::El,S,jn,p,rfl,G,hp,hfl,by omega,hE3,hB3,fun H4 l4 kE4 kT4 hB4 hl4 hfr4=>?_⟩
      obtain ⟨rs4,h41,h42⟩:=hfr4
      have hf4:=kE4 fr (List.mem_cons_self ..) _ hf3
      have hml:=(List.getElem?_eq_some_iff.mp hy).1
      refine ⟨fr,l4,_,_,rfl,rfl,hf4,h41,?_,?_⟩
      ·rw [List.length_map,List.length_map,plen hp3,plen h42,hfl2,hgl,sizeLine_eq,List.length_take]
       have:min m ns.length*S.n≤12*12:=Nat.mul_le_mul (by omega) hn12
       omega
      ·refine ⟨_,rfl,?_,fun e he o eo=>?_,fun b o lt eo=>?_,rs++rs4,?_,?_⟩
       ·rw [hides_upd (List.mem_cons_self ..)];exact hB4
       ·have hne:e≠fr:=fun q=>nfE (by rw [← q];exact he)
        rw [upd_ne hne]
        exact kE4 e (List.mem_cons_of_mem _ he) o (kE3 e he o eo)
       ·have e4:=kT4 b o lt (kT3 b o lt eo)
        have hne:b≠fr:=fun q=>by rw [q,hf4] at e4;cases e4;cases lt
        rw [upd_ne hne]
        exact e4
       ·rw [upd_same,List.map_append]
       ·rw [take_next hy,List.flatMap_append]
        have e1:([(jn:Int)].flatMap fun i=>S.grad i.toNat)=S.grad jn:=by
         show S.grad ((jn:Int)).toNat++[]=_
         rw [List.append_nil,Int.toNat_natCast]
        rw [e1]
        have app:∀ {l1 l2:List Addr} {m1 m2:List Rat} {F:Addr→Rat→Prop},Paired F l1 m1→Paired F l2 m2→Paired F (l1++l2) (m1++m2):=by
         intro l1 l2 m1 m2 F h1 h2
         induction h1 with
         | nil=>exact h2
         | cons r h ih=>exact .cons r ih
        exact app (Paired.mapP hp3 fun _ _ z=>SqT.put (kT4.seqT z) hf4) (Paired.mapP h42 fun _ _ z=>SqT.put z hf4)
     ·rintro σ H3 ⟨u,rfl,hB3,kE3,kT3,rs,hf3,hp3⟩
      rw [List.length_map,List.take_length] at hp3
      refine ⟨_,rfl,?_⟩
      refine end_told (H:=H) hE kE3 (hB3.unhide nfE) kT3 ⟨rs,SqL.of hf3,hp3⟩ ?_ rfl k E0
      have:=hfl2 ns.length
      rw [List.take_length] at this
      rw [this]
      have:ns.length*S.n≤12*12:=Nat.mul_le_mul (by omega) hn12
      omega
end
end Lc
end
section
namespace Lc
open PySem PySem.Spec PyProof.Rows L2
open VagraLine (Fault)
theorem mkRat_ne {n:Int} {d:Nat} (hd:d≠0) (hn:n≠0):mkRat n d≠0:=fun e=>hn ((Rat.mkRat_eq_zero hd).mp e)
theorem cost_le:∀ c:List (List Int),(∀ r∈c,RawOk r)→Vagrae.cost (c.map lineOf)≤3*c.length
 | [],_=>Nat.le_refl _
 | r::c,h=>by
  have ih:=cost_le c fun q hq=>h q (List.mem_cons_of_mem _ hq)
  obtain ⟨k,_,hk,hc⟩:=cost_F (h r (List.mem_cons_self ..))
  have h7:∀ k:Fin 7,(costsL[k.1]?).getD 0≤3:=by decide
  have:=h7 ⟨k,hk⟩
  rw [hc] at this
  have:((Vagrae.Line.cost (lineOf r):Nat):Int)≤3:=this
  unfold Vagrae.cost at ih ⊢
  rw [List.map_cons,List.map_cons,List.sum_cons,List.length_cons]
  omega
section
variable {P:Program} {w:World} {K:PySem.W.Frag} {mg:Str→Option Value} {base:Heap} {C CS:Addr}
theorem ok_tell_series (D:MethAt K C "tell_series" "Holder.tell_series" s_Holder_tell_series) (T:Txt K C) (TS:TxtS K CS) (Lk:Looks P w K mg base C CS) (c_MOST_COEFFICIENTS:Const mg "MOST_COEFFICIENTS" (.int 8)) (m_along:Mth P w K mg base C "along" ["self","d"] 43 (spSer K C CS false)) (m_first_coefficients:Mth P w K mg base CS "first_coefficients" ["self","i","how_many"] 48 (spFirst K CS)) :
  Mth P w K mg base C "tell_series" ["self","i","d","k"] 50 (spH K C CS pIII fSeries):=by
 obtain ⟨m_has_line,m_has_direction,m_run_refusal,C_told,c_OUT_OF_RANGE⟩:=Lk
 refine mkM (k:=49) D sc_Holder_tell_series (fun _ _ _ _ _ _ us hl=>match us,hl with | [_,_,_,_],_=>rfl) (fun vs H Q E h=>?_) (fun f cdv A outer s H vs Q E hr h=>?_)
 ·obtain ⟨a,ev,S,rest,i,rfl,⟨rfl,_⟩,_⟩:=h
  rfl
 ·obtain ⟨a,El,S,rest,⟨i,d,kk⟩,rfl,⟨rfl,_⟩,G,hE,hB,k⟩:=h
  obtain ⟨dx,la,da,po,ra,fv,ka,kp,drs,kv1,kv2,own,B⟩:=id hB
  have hi:=B.insH
  refine ⟨_,(pss_cons (ps_if (PW.pt (pw_or (pt_not (pt_val (pe_methC T.cl m_has_line hr (pv 0) (pa_cons (pv 1) pa_nil)))) (pw_or (pt_not (pt_val (pe_methC T.cl m_has_direction hr (pv 0) (pa_cons (pv 2) pa_nil)))) (pw_or (pt_cmpR op_lt (pv 3) pe_int (nomark _)) (pw_or1 (pt_cmpR op_gt (pv 3) (pe_const c_MOST_COEFFICIENTS) (nomark _))))))) (pss_one (ps_ret (pe_lst (pa_cons (pe_const c_OUT_OF_RANGE) pa_nil)))) pss_nil)
   (pss_cons (ps_set (i:=4) sc_Holder_tell_series.nd rfl (by first|exact .inl rfl|exact .inr rfl) (pe_methC0 T.cl m_run_refusal hr (pv 0)))
   (pss_cons (ps_if (pt_cmpR op_lt (pv 4) pe_int (nomark _)) (pss_one (ps_ret (pe_lst (pa_cons (pv 4) pa_nil)))) pss_nil)
   (pss_one (ps_ret (pe_callC C_told hr (pa_cons (pe_methC TS.cl m_first_coefficients hr (pe_methC T.cl m_along hr (pv 0) (pa_cons (pv 2) pa_nil)) (pa_cons (pv 1) (pa_cons (pv 3) pa_nil))) pa_nil))))))),?_⟩
  refine ⟨_,rfl,a,dx,_,rfl,hi,rfl,_,rfl,a,El,S,i,rfl,hB,_,rfl,?_⟩
  unfold fSeries at k
  dsimp only at k
  have refuse:(∀ H' r,r ∉ El→KeepE El H H'→HolderAt K C CS (hides El H') a S→KeepT H H'→H' r=some (.lst ([(-1:Int)].map V.int))→Q (.ref r) H')→[V.int (-1)].length≤sizeLine∧∀ p,H p=none→Q (.ref p) (upd H p (.lst [.int (-1)])):=fun k=>one_told hE (KeepE.refl _ _) (KeepT.refl H) hB rfl rfl k
  cases hL:hasLine S i with
  | false =>
   rw [hL] at k
   exact iteT (iteT (refuse k))
  | true =>
   rw [hL,if_pos rfl] at k
   refine iteF ?_
   refine ⟨_,rfl,a,dx,_,rfl,hi,rfl,_,rfl,a,El,S,d,rfl,hB,_,rfl,?_⟩
   cases hD:hasDir S d with
   | false =>
    rw [hD] at k
    exact iteT (iteT (refuse k))
   | true =>
    rw [hD,if_pos rfl] at k
    refine iteF ⟨_,rfl,_,_,rfl,rfl,_,rfl,?_⟩
    by_cases h1:kk < 1
    ·rw [if_neg (by omega)] at k
     rw [decide_eq_true h1]
     exact iteT (iteT (refuse k))
    rw [decide_eq_false h1]
    refine iteF ⟨_,rfl,_,_,rfl,rfl,_,rfl,?_⟩
    by_cases h8:8 < kk
    ·rw [if_neg (by omega)] at k
     rw [decide_eq_true h8]
     exact iteT (refuse k)
    rw [decide_eq_false h8]
    rw [if_pos ⟨by omega,by omega⟩] at k
    unfold fNeed at k
    refine iteF ?_
    refine ⟨_,rfl,a,dx,_,rfl,hi,rfl,a,El,S,rfl,hB,?_⟩
    refine ⟨_,rfl,_,_,rfl,rfl,_,rfl,?_⟩
    by_cases hn:S.need < 0
    ·rw [if_pos hn] at k
     rw [decide_eq_true hn]
     refine iteT ⟨_,rfl,?_⟩
     exact one_told hE (KeepE.refl _ _) (KeepT.refl H) hB rfl rfl k
    ·rw [if_neg hn] at k
     rw [decide_eq_false hn]
     refine iteF ?_
     obtain ⟨p,hp,hfl⟩:=need_ok hn
     rw [hp] at k
     dsimp only at k
     obtain ⟨dn,dr,rfl,hdo,hdr⟩:=hasDir_get hD
     obtain ⟨hi0,hi1⟩:=hasLine_lt hL
     obtain ⟨jn,rfl⟩:∃ jn:Nat,i=(jn:Int):=⟨i.toNat,by omega⟩
     obtain ⟨kn,rfl⟩:∃ kn:Nat,kk=(kn:Int):=⟨kk.toNat,by omega⟩
     have hGd:=G.dl dr (List.mem_of_getElem? (show S.dirs[dn]?=some dr from hdo))
     rw [Int.toNat_natCast,Int.toNat_natCast,Int.toNat_natCast] at k
     refine ⟨_,rfl,a,dx,_,rfl,hi,rfl,_,rfl,a,El,S,dn,dr,p,rfl,G,hp,hfl,hdo,hE,hB,fun H1 sa kE1 kT1 Kn=>?_⟩
     have hE1:=hE.keep kE1
     obtain ⟨dr',p',sx,sl,sd,sm,rows,ks,g1,g2,g3,Si,use⟩:=Kn.use hE1
     rw [hdo] at g1
     cases g1
     rw [hp] at g2
     cases g2
     refine ⟨sa,sx,_,rfl,Si.ins,rfl,_,rfl,_,rfl,sa,sx,sl,sd,sm,rows,S.c,p,dr,S.n,jn,kn,ks,rfl,Si,serM G hp hfl hGd.1 hGd.2,by omega,by omega,by omega,fun H2 H3 ks' l s2 R2 s3 hl hfr=>?_⟩
     obtain ⟨u1,_,u2,u3⟩:=use H2 ks' s2 R2
     have eq:sAt (allSeriesQ kn p (S.dirQ dn) [] S.code) jn=(sAt (ser p dr S.code) jn).take kn:=by
      unfold HS.dirQ
      rw [← hdr]
      exact ser_take (by omega) jn
     rw [eq] at k
     refine end_told (H:=H) hE ((kE1.trans u2).trans (KeepE.of s3)) (u1.mono s3) ((kT1.trans u3).trans (KeepT.of s3)) hfr.at ?_ rfl k E0
     rw [List.length_take]
     omega
theorem ok_tell_hangs (D:MethAt K C "tell_hangs" "Holder.tell_hangs" s_Holder_tell_hangs) (T:Txt K C) (n_len:mg "len"=none) (Lk:Looks P w K mg base C CS) (C_inputs_behind:Callee P w K mg base "inputs_behind" ["lines","i"] 43 (spInputs K)):Mth P w K mg base C "tell_hangs" ["self","i"] 50 (spH K C CS pI fHangs):=by
 obtain ⟨m_has_line,m_has_direction,m_run_refusal,C_told,c_OUT_OF_RANGE⟩:=Lk
 refine mkM (k:=49) D sc_Holder_tell_hangs (fun _ _ _ _ _ _ us hl=>match us,hl with | [_,_],_=>rfl) (fun vs H Q E h=>?_) (fun f cdv A outer s H vs Q E hr h=>?_)
 ·obtain ⟨a,ev,S,rest,i,rfl,rfl,_⟩:=h
  rfl
 ·obtain ⟨a,El,S,rest,i,rfl,rfl,G,hE,hB,k⟩:=h
  obtain ⟨dx,la,da,po,ra,fv,ka,kp,drs,kv1,kv2,own,B⟩:=id hB
  have hi:=B.insH
  refine ⟨_,(pss_cons (ps_if (pt_not (pt_val (pe_methC T.cl m_has_line hr (pv 0) (pa_cons (pv 1) pa_nil)))) (pss_one (ps_ret (pe_lst (pa_cons (pe_const c_OUT_OF_RANGE) pa_nil)))) pss_nil)
   (pss_cons (ps_set (i:=2) sc_Holder_tell_hangs.nd rfl (by first|exact .inl rfl|exact .inr rfl) (pe_callC C_inputs_behind hr (pa_cons (pe_fld (pv 0) rfl) (pa_cons (pv 1) pa_nil))))
   (pss_one (ps_ret (pe_op op_cat (pe_lst (pa_cons (pe_callB call_len_seq (by rfl) n_len bt_len (pa_cons (pv 2) pa_nil)) pa_nil)) (pv 2)))))),?_⟩
  refine ⟨_,rfl,a,dx,_,rfl,hi,rfl,_,rfl,a,El,S,i,rfl,hB,_,rfl,?_⟩
  unfold fHangs at k
  dsimp only at k
  cases hL:hasLine S i with
  | false =>
   rw [hL] at k
   refine iteT ?_
   exact one_told hE (KeepE.refl _ _) (KeepT.refl H) hB rfl rfl k
  | true =>
   rw [hL,if_pos rfl] at k
   refine iteF ?_
   obtain ⟨hi0,hi1⟩:=hasLine_lt hL
   obtain ⟨jn,rfl⟩:∃ jn:Nat,i=(jn:Int):=⟨i.toNat,by omega⟩
   rw [Int.toNat_natCast] at k
   refine ⟨_,rfl,a,C,dx,_,_,rfl,hi,T.cl,T.n2,rfl,_,rfl,la,S.c,jn,S.n,rfl,B.lns.at.same B.sub,G.raw,G.fnd,G.n12,G.c80,by omega,fun H1 l s1 hl hl1=>?_⟩
   refine ⟨_,rfl,l,_,rfl,.inl (SqL.of hl1),(by show 1≤sizeLine;decide),fun q hq=>?_⟩
   rw [List.length_map,List.length_map]
   have s2:=same_upd (o:=.lst [V.int ((hangsL S.n (S.c.map lineOf) jn).length:Int)]) hq
   have hq2:upd H1 q (.lst [V.int ((hangsL S.n (S.c.map lineOf) jn).length:Int)]) q=some (.lst [V.int ((hangsL S.n (S.c.map lineOf) jn).length:Int)]):=upd_same
   generalize upd H1 q (.lst [V.int ((hangsL S.n (S.c.map lineOf) jn).length:Int)])=H2 at s2 hq2 ⊢
   have hll:(hangsL S.n (S.c.map lineOf) jn).length≤S.n:=by
    unfold hangsL
    refine Nat.le_trans (List.length_filter_le _ _) ?_
    rw [List.length_range]
    exact Nat.le_refl _
   have hn12:=G.n12
   refine ⟨_,rfl,q,l,_,_,rfl,rfl,hq2,s2 l _ hl1,(by rw [List.length_map,List.length_map,sizeLine_eq];show 1+_≤_;omega),fun p hp=>?_⟩
   have s3:=same_upd (o:=.lst ([V.int ((hangsL S.n (S.c.map lineOf) jn).length:Int)]++((hangsL S.n (S.c.map lineOf) jn).map Int.ofNat).map V.int)) hp
   have s03:=s1.trans (s2.trans s3)
   exact k _ p ((hE.keep (KeepE.of (s1.trans s2))).free hp) (KeepE.of s03) (hB.mono s03) (KeepT.of s03) upd_same
theorem ok_tell_cost (D:MethAt K C "tell_cost" "Holder.tell_cost" s_Holder_tell_cost) (T:Txt K C) (n_len:mg "len"=none) (C_how_many_operations:Callee P w K mg base "how_many_operations" ["lines"] 42 (spCount K VagraLine.ops)) (C_cost_of_direction:Callee P w K mg base "cost_of_direction" ["lines"] 42 (spCount K Vagrae.cost)) :
  Mth P w K mg base C "tell_cost" ["self"] 50 (spH K C CS p0 fCost):=by
 refine mkM (k:=49) D sc_Holder_tell_cost (fun _ _ _ _ _ _ us hl=>match us,hl with | [_],_=>rfl) (fun vs H Q E h=>?_) (fun f cdv A outer s H vs Q E hr h=>?_)
 ·obtain ⟨a,ev,S,rest,i,rfl,rfl,_⟩:=h
  rfl
 ·obtain ⟨a,El,S,rest,i,rfl,rfl,G,hE,hB,k⟩:=h
  obtain ⟨dx,la,da,po,ra,fv,ka,kp,drs,kv1,kv2,own,B⟩:=id hB
  have hi:=B.insH
  refine ⟨_,(pss_cons (ps_set (i:=1) sc_Holder_tell_cost.nd rfl (by first|exact .inl rfl|exact .inr rfl) (pe_callC C_cost_of_direction hr (pa_cons (pe_fld (pv 0) rfl) pa_nil)))
   (pss_one (ps_ret (pe_lst (pa_cons (pe_callC C_how_many_operations hr (pa_cons (pe_fld (pv 0) rfl) pa_nil)) (pa_cons (pv 1) (pa_cons (pe_op op_mulB (pv 1) (pe_callB call_len_seq (by rfl) n_len bt_len (pa_cons (pe_fld (pv 0) rfl) pa_nil))) pa_nil))))))),?_⟩
  refine ⟨_,rfl,a,C,dx,_,_,rfl,hi,T.cl,T.n2,rfl,la,S.c,rfl,B.lns.at.same B.sub,G.raw,G.c80,fun H1 s1=>?_⟩
  refine ⟨_,rfl,a,C,dx,_,_,rfl,s1 a _ hi,T.cl,T.n2,rfl,la,S.c,rfl,(B.lns.at.same B.sub).same s1,G.raw,G.c80,fun H2 s2=>?_⟩
  have s02:=s1.trans s2
  have hdl:=s02 da _ (hides_some B.dir).1
  have h6:=G.d6
  refine ⟨_,rfl,_,rfl,_,rfl,a,C,dx,_,_,rfl,s02 a _ hi,T.cl,T.n3,rfl,da,_,rfl,.inl (SqL.of hdl),_,_,rfl,rfl,?_,(by show 3≤sizeLine;decide),fun p hp=>?_⟩
  ·rw [List.length_map,plen B.drs]
   have h3:=cost_le S.c G.raw
   have h80:=G.c80
   exact mulOk (m:=8) (n:=3) (by rw [Int.natAbs_natCast];show _ < 256;omega) (by rw [Int.natAbs_natCast];show _ < 8;omega) (by decide)
  ·rw [List.length_map,plen B.drs]
   have s3:=same_upd (o:=.lst [V.int ((VagraLine.ops (S.c.map lineOf):Nat):Int),V.int ((Vagrae.cost (S.c.map lineOf):Nat):Int),V.int (((Vagrae.cost (S.c.map lineOf):Nat):Int)*((S.dirs.length:Nat):Int))]) hp
   have s03:=s02.trans s3
   refine k _ p ((hE.keep (KeepE.of s02)).free hp) (KeepE.of s03) (hB.mono s03) (KeepT.of s03) ?_
   rw [upd_same]
   unfold fCost
   dsimp only
   rw [Nat.mul_comm,Int.natCast_mul]
   rfl
end
end Lc
end
section
namespace Lc
open PySem PySem.Spec PyProof.Rows L2
open VagraLine (Fault)
section
variable {P:Program} {w:World} {K:PySem.W.Frag} {mg:Str→Option Value} {base:Heap} {C CS:Addr}
theorem ok_tell_quotient (D:MethAt K C "tell_quotient" "Holder.tell_quotient" s_Holder_tell_quotient) (T:Txt K C) (TS:TxtS K CS) (Lk:Looks P w K mg base C CS) (c_FAULT:Const mg "FAULT" (.int (-5))) (C_in_lowest_terms:Callee P w K mg base "in_lowest_terms" ["upper","lower"] 42 (spLow K)) (C_moved:Callee P w K mg base "moved" ["point","direction","step"] 43 (spMoved K)) (C_run_lines:Callee P w K mg base "run_lines" ["lines","point"] 45 (spRun K)) (C_difference:Callee P w K mg base "difference" ["x","y"] 43 (sp2 K (· - ·))) (C_quotient:Callee P w K mg base "quotient" ["x","y"] 43 (spDiv K)) (m_along:Mth P w K mg base C "along" ["self","d"] 43 (spSer K C CS false)) (m_change_of:Mth P w K mg base CS "change_of" ["self","i"] 48 (spChg K CS)) :
  Mth P w K mg base C "tell_quotient" ["self","i","d","n","m"] 50 (spH K C CS pIIII fQuotient):=by
 obtain ⟨m_has_line,m_has_direction,m_run_refusal,C_told,c_OUT_OF_RANGE⟩:=Lk
 refine mkM (k:=49) D sc_Holder_tell_quotient (fun _ _ _ _ _ _ us hl=>match us,hl with | [_,_,_,_,_],_=>rfl) (fun vs H Q E h=>?_) (fun f cdv A outer s H vs Q E hr h=>?_)
 ·obtain ⟨a,ev,S,rest,i,rfl,⟨rfl,_⟩,_⟩:=h
  rfl
 ·obtain ⟨a,El,S,rest,⟨i,d,nn,mm⟩,rfl,⟨rfl,hs1,hs2⟩,G,hE,hB,k⟩:=h
  obtain ⟨dx,la,da,po,ra,fv,ka,kp,drs,kv1,kv2,own,B⟩:=id hB
  have hi:=B.insH
  refine ⟨_,(pss_cons (ps_if (PW.pt (pw_or (pt_not (pt_val (pe_methC T.cl m_has_line hr (pv 0) (pa_cons (pv 1) pa_nil)))) (pw_or (pt_not (pt_val (pe_methC T.cl m_has_direction hr (pv 0) (pa_cons (pv 2) pa_nil)))) (pw_or (pt_cmpR op_eq (pv 3) pe_int (nomark _)) (pw_or1 (pt_cmpR op_lt (pv 4) pe_int (nomark _))))))) (pss_one (ps_ret (pe_lst (pa_cons (pe_const c_OUT_OF_RANGE) pa_nil)))) pss_nil)
   (pss_cons (ps_set (i:=5) sc_Holder_tell_quotient.nd rfl (by first|exact .inl rfl|exact .inr rfl) (pe_methC0 T.cl m_run_refusal hr (pv 0)))
   (pss_cons (ps_if (pt_cmpR op_lt (pv 5) pe_int (nomark _)) (pss_one (ps_ret (pe_lst (pa_cons (pv 5) pa_nil)))) pss_nil)
   (pss_cons (ps_set (i:=6) sc_Holder_tell_quotient.nd rfl (by first|exact .inl rfl|exact .inr rfl) (pe_callC C_in_lowest_terms hr (pa_cons (pv 3) (pa_cons (pv 4) pa_nil))))
   (pss_cons (ps_set (i:=7) sc_Holder_tell_quotient.nd rfl (by first|exact .inl rfl|exact .inr rfl) (pe_callC C_run_lines hr (pa_cons (pe_fld (pv 0) rfl) (pa_cons (pe_callC C_moved hr (pa_cons (pe_fld (pv 0) rfl) (pa_cons (pe_ix ix_list (pe_fld (pv 0) rfl) (pv 2) (fun _ _=>rfl)) (pa_cons (pv 6) pa_nil)))) pa_nil))))
   (pss_cons (ps_if (pt_cmpR op_notN (pe_ix ix_tup (pv 7) pe_int (fun _ _=>rfl)) pe_non (nomark _)) (pss_one (ps_ret (pe_lst (pa_cons (pe_const c_FAULT) pa_nil)))) pss_nil)
   (pss_cons (ps_set (i:=8) sc_Holder_tell_quotient.nd rfl (by first|exact .inl rfl|exact .inr rfl) (pe_callC C_quotient hr (pa_cons (pe_callC C_difference hr (pa_cons (pe_ix ix_list (pe_ix ix_tup (pv 7) pe_int (fun _ _=>rfl)) (pv 1) (fun _ _=>rfl)) (pa_cons (pe_ix ix_list (pe_fld (pv 0) rfl) (pv 1) (fun _ _=>rfl)) pa_nil))) (pa_cons (pv 6) pa_nil))))
   (pss_one (ps_ret (pe_callC C_told hr (pa_cons (pe_lst (pa_cons (pv 8) (pa_cons (pe_callC C_difference hr (pa_cons (pv 8) (pa_cons (pe_methC TS.cl m_change_of hr (pe_methC T.cl m_along hr (pv 0) (pa_cons (pv 2) pa_nil)) (pa_cons (pv 1) pa_nil)) pa_nil))) pa_nil))) pa_nil))))))))))),?_⟩
  refine ⟨_,rfl,a,dx,_,rfl,hi,rfl,_,rfl,a,El,S,i,rfl,hB,_,rfl,?_⟩
  unfold fQuotient at k
  dsimp only at k hs1 hs2
  have refuse:(∀ H' r,r ∉ El→KeepE El H H'→HolderAt K C CS (hides El H') a S→KeepT H H'→H' r=some (.lst ([(-1:Int)].map V.int))→Q (.ref r) H')→[V.int (-1)].length≤sizeLine∧∀ p,H p=none→Q (.ref p) (upd H p (.lst [.int (-1)])):=fun k=>one_told hE (KeepE.refl _ _) (KeepT.refl H) hB rfl rfl k
  cases hL:hasLine S i with
  | false =>
   rw [hL] at k
   exact iteT (iteT (refuse k))
  | true =>
   rw [hL,if_pos rfl] at k
   refine iteF ?_
   refine ⟨_,rfl,a,dx,_,rfl,hi,rfl,_,rfl,a,El,S,d,rfl,hB,_,rfl,?_⟩
   cases hD:hasDir S d with
   | false =>
    rw [hD] at k
    exact iteT (iteT (refuse k))
   | true =>
    rw [hD,if_pos rfl] at k
    refine iteF ⟨_,rfl,(by rfl),_,rfl,?_⟩
    by_cases h1:nn=0
    ·rw [if_pos (.inr h1)] at k
     rw [decide_eq_true (show V.int nn=V.int 0 by rw [h1])]
     exact iteT (iteT (refuse k))
    rw [decide_eq_false (show ¬ V.int nn=V.int 0 from fun e=>h1 (by injection e))]
    refine iteF ⟨_,rfl,_,_,rfl,rfl,_,rfl,?_⟩
    by_cases h8:mm < 1
    ·rw [if_pos (.inl h8)] at k
     rw [decide_eq_true h8]
     exact iteT (refuse k)
    rw [decide_eq_false h8]
    rw [if_neg (by rintro (q | q);exact h8 q;exact h1 q)] at k
    unfold fNeed at k
    refine iteF ?_
    refine ⟨_,rfl,a,dx,_,rfl,hi,rfl,a,El,S,rfl,hB,?_⟩
    refine ⟨_,rfl,_,_,rfl,rfl,_,rfl,?_⟩
    by_cases hn:S.need < 0
    ·rw [if_pos hn] at k
     rw [decide_eq_true hn]
     refine iteT ⟨_,rfl,?_⟩
     exact one_told hE (KeepE.refl _ _) (KeepT.refl H) hB rfl rfl k
    ·rw [if_neg hn] at k
     rw [decide_eq_false hn]
     refine iteF ?_
     obtain ⟨p,hp,hfl⟩:=need_ok hn
     rw [hp] at k
     dsimp only at k
     obtain ⟨dn,dr,rfl,hdo,hdr⟩:=hasDir_get hD
     obtain ⟨hi0,hi1⟩:=hasLine_lt hL
     obtain ⟨jn,rfl⟩:∃ jn:Nat,i=(jn:Int):=⟨i.toNat,by omega⟩
     have hdg:S.dirs[dn]?=some dr:=hdo
     have hGd:=G.dl dr (List.mem_of_getElem? hdg)
     have hGp:=G.pl p hp
     have hn12:=G.n12
     have hdq:S.dirQ dn=dr:=by unfold HS.dirQ;rw [← hdr]
     rw [Int.toNat_natCast,Int.toNat_natCast,hdq] at k
     have hm0:mm.toNat≠0:=by omega
     have hst:Small 60 (mkRat nn mm.toNat):=Small.mk hm0 hs1 (by omega)
     have hne:mkRat nn mm.toNat≠0:=mkRat_ne hm0 h1
     refine ⟨_,rfl,_,rfl,nn,mm,rfl,by omega,fun H1 st s1 hst1=>?_⟩
     generalize mkRat nn mm.toNat=t at hst hne hst1 k
     have hp':=B.pt
     rw [hp] at hp'
     obtain ⟨pa,rfl,hpa⟩:=hp'
     obtain ⟨ar,har,hfr⟩:=pget B.drs hdg
     have hi1':=s1 a _ hi
     have hdl1:=s1 da _ (hides_some B.dir).1
     refine ⟨_,rfl,a,C,dx,_,_,rfl,hi1',T.cl,T.n2,rfl,?_⟩
     refine ⟨_,rfl,a,C,dx,_,_,rfl,hi1',T.cl,T.n4,rfl,?_⟩
     refine ⟨_,rfl,a,C,dx,_,_,rfl,hi1',T.cl,T.n3,rfl,_,rfl,da,_,_,_,rfl,rfl,SqL.of hdl1,atI_nat (v:=V.ref ar) (by rw [List.getElem?_map,har];rfl),?_⟩
     refine ⟨_,rfl,pa,ar,st,p,dr,t,rfl,(hpa.at.same B.sub).same s1,(hfr.at.same B.sub).same s1,hst1,by rw [hGd.1,hGp.1],by omega,hGp.2,hGd.2,hst.mono (by decide),fun H2 ml s2 _ hml=>?_⟩
     have s02:=s1.trans s2
     refine ⟨la,ml,S.c,_,rfl,(B.lns.at.same B.sub).same s02,hml.at,G.raw,(by rw [movedQ_length,hGp.1];exact G.fnd),(by have:=G.c80;omega),fun H3 tt fl fv' s3 _ ht hfs hfv=>?_⟩
     have s03:=s02.trans s3
     refine ⟨_,rfl,tt,_,_,_,rfl,rfl,ht,at_1,rfl,_,rfl,?_⟩
     rw [hfv.non]
     cases hf3:(runQ (movedQ p dr t) [] S.code).2 with
     | some x =>
      rw [hf3] at k
      refine iteT ?_
      exact one_told hE (KeepE.of s03) (KeepT.of s03) (hB.mono s03) rfl rfl k
     | none =>
      rw [hf3] at k
      refine iteF ?_
      have hlen:(runQ (movedQ p dr t) [] S.code).1.length=S.c.length:=by
       have:=runQ_length (movedQ p dr t) S.code [] hf3
       rw [this,List.length_map]
       simp
      have hws:∀ q∈(runQ (movedQ p dr t) [] S.code).1,Small 200 q:=fun q hq=>weight_small (runQ_small (movedQ p dr t) S.code [] (fun v h=>nomatch h) q hq)
      obtain ⟨xs1,r1,q1,q2,q3⟩:=hfs.at.getI (i:=(jn:Int)) (by omega) (by rw [hlen];omega)
      have hrl:=HS.resL hp hfl
      obtain ⟨xs2,r2,u1,u2,u3⟩:=((B.res.at.same B.sub).same s03).getI (i:=(jn:Int)) (by omega) (by rw [hrl];omega)
      rw [Int.toNat_natCast] at q3 u3
      have sw:Small 200 (at0 (runQ (movedQ p dr t) [] S.code).1 jn):=hws _ (at0_mem (by omega))
      have sr:Small 200 (at0 S.res jn):=HS.resS _ (at0_mem (by omega))
      refine ⟨_,rfl,tt,_,_,_,rfl,rfl,ht,at_0,_,rfl,fl,_,_,_,rfl,rfl,q1,q2,?_⟩
      refine ⟨_,rfl,a,C,dx,_,_,rfl,s03 a _ hi,T.cl,T.n5,rfl,_,rfl,ra,_,_,_,rfl,rfl,u1,u2,?_⟩
      refine ⟨r1,r2,_,_,rfl,q3,u3,sw.mono (by decide),sr.mono (by decide),fun H4 dv s4 hdv=>?_⟩
      have sd:Small 401 (at0 (runQ (movedQ p dr t) [] S.code).1 jn - at0 S.res jn):=Small.sub sw sr
      refine ⟨_,rfl,dv,st,_,_,rfl,hdv,((hst1.same s2).same s3).same s4,sd.mono (by decide),hst.mono (by decide),hne,fun H5 sl s5 hsl=>?_⟩
      have s05:=s03.trans (s4.trans s5)
      have sq:Small 461 ((at0 (runQ (movedQ p dr t) [] S.code).1 jn - at0 S.res jn) / t):=Small.div sd hst (by decide)
      have hB5:=hB.mono s05
      have hE5:=hE.keep (KeepE.of s05)
      refine ⟨_,rfl,_,rfl,_,rfl,a,dx,_,rfl,s05 a _ hi,rfl,_,rfl,a,El,S,dn,dr,p,rfl,G,hp,hfl,hdo,hE5,hB5,fun H6 sa kE6 kT6 Kn=>?_⟩
      have sc:Small 300000 (at0 (changesQ dr S.res [] S.code) jn):=by
       have:=(serM G hp hfl hGd.1 hGd.2).small jn 1
       rw [← ser_change G hp hfl hGd.2 jn]
       exact this
      obtain ⟨sx,fs,c1,c2,_,c4⟩:=chg_use (i:=jn) (Ex:=E0) (Q:=fun v H2=>sp2 K (· - ·) [.ref sl,v] H2 (fun v H3=>[.ref sl,v].length≤sizeLine∧∀ l,H3 l=none→spTold K ([.ref l]++[]) (upd H3 l (.lst [.ref sl,v])) Q E0) E0) TS G hdo hGd.1 hGd.2 (by omega) (hE5.keep kE6) Kn (fun H7 v kE7 hB7 kT7 hv=>by
       refine ⟨sl,v,_,_,rfl,(kT6.trans kT7).seqT hsl,hv,sq.mono (by decide),sc.mono (by decide),fun H8 e s8 he=>?_⟩
       refine ⟨(by show 2≤sizeLine;decide),fun l hl=>?_⟩
       have s9:=same_upd (o:=.lst [V.ref sl,V.ref e]) hl
       have s89:=s8.trans s9
       have kT57:=kT6.trans kT7
       refine end_told (H:=H) hE (((KeepE.of s05).trans (kE6.trans kE7)).trans (KeepE.of s89)) (hB7.mono s89) (((KeepT.of s05).trans kT57).trans (KeepT.of s89)) ⟨[sl,e],SqL.of upd_same,.cons ((kT57.trans (KeepT.of s89)).seqT hsl) (.cons (he.same s9) .nil)⟩ (by show 2≤1000;decide) ?_ k E0
       unfold quotQ
       have ea:S.along dn=changesQ dr S.res [] S.code:=by unfold HS.along;rw [hdr]
       rw [ea])
      exact ⟨sa,sx,fs,rfl,c1,c2,_,rfl,c4⟩
theorem ok_move (D:MethAt K C "move" "Holder.move" s_Holder_move) (T:Txt K C) (Lk:Looks P w K mg base C CS) (c_NO_POINT:Const mg "NO_POINT" (.int (-4))) (c_TOO_HEAVY:Const mg "TOO_HEAVY" (.int (-6))) (C_in_lowest_terms:Callee P w K mg base "in_lowest_terms" ["upper","lower"] 42 (spLow K)) (C_moved:Callee P w K mg base "moved" ["point","direction","step"] 43 (spMoved K)) (C_has_heavy:Callee P w K mg base "has_heavy" ["fractions"] 42 (spHeavy K))
  (m_stand_at:Mth P w K mg base C "stand_at" ["self","point"] 46 (spStand K C CS)) (m_tell_fault:Mth P w K mg base C "tell_fault" ["self"] 41 (spFault K C CS)):Mth P w K mg base C "move" ["self","d","n","m"] 50 (spH K C CS pIII fMove):=by
 obtain ⟨m_has_line,m_has_direction,m_run_refusal,C_told,c_OUT_OF_RANGE⟩:=Lk
 refine mkM (k:=49) D sc_Holder_move (fun _ _ _ _ _ _ us hl=>match us,hl with | [_,_,_,_],_=>rfl) (fun vs H Q E h=>?_) (fun f cdv A outer s H vs Q E hr h=>?_)
 ·obtain ⟨a,ev,S,rest,i,rfl,⟨rfl,_⟩,_⟩:=h
  rfl
 ·obtain ⟨a,El,S,rest,⟨d,nn,mm⟩,rfl,⟨rfl,hs1,hs2⟩,G,hE,hB,k⟩:=h
  obtain ⟨dx,la,da,po,ra,fv,ka,kp,drs,kv1,kv2,own,B⟩:=id hB
  have hi:=B.insH
  refine ⟨_,(pss_cons (ps_if (PW.pt (pw_or (pt_not (pt_val (pe_methC T.cl m_has_direction hr (pv 0) (pa_cons (pv 1) pa_nil)))) (pw_or1 (pt_cmpR op_lt (pv 3) pe_int (nomark _))))) (pss_one (ps_ret (pe_lst (pa_cons (pe_const c_OUT_OF_RANGE) pa_nil)))) pss_nil)
   (pss_cons (ps_if (pt_cmpR op_isN (pe_fld (pv 0) rfl) pe_non (nomark _)) (pss_one (ps_ret (pe_lst (pa_cons (pe_const c_NO_POINT) pa_nil)))) pss_nil)
   (pss_cons (ps_set (i:=4) sc_Holder_move.nd rfl (by first|exact .inl rfl|exact .inr rfl) (pe_callC C_moved hr (pa_cons (pe_fld (pv 0) rfl) (pa_cons (pe_ix ix_list (pe_fld (pv 0) rfl) (pv 1) (fun _ _=>rfl)) (pa_cons (pe_callC C_in_lowest_terms hr (pa_cons (pv 2) (pa_cons (pv 3) pa_nil))) pa_nil)))))
   (pss_cons (ps_if (pt_val (pe_callC C_has_heavy hr (pa_cons (pv 4) pa_nil))) (pss_one (ps_ret (pe_lst (pa_cons (pe_const c_TOO_HEAVY) pa_nil)))) pss_nil)
   (pss_cons (ps_expr (pe_methC T.cl m_stand_at hr (pv 0) (pa_cons (pv 4) pa_nil)))
   (pss_one (ps_ret (pe_methC0 T.cl m_tell_fault hr (pv 0))))))))),?_⟩
  refine ⟨_,rfl,a,dx,_,rfl,hi,rfl,_,rfl,a,El,S,d,rfl,hB,_,rfl,?_⟩
  unfold fMove at k
  dsimp only at k hs1 hs2
  cases hD:hasDir S d with
  | false =>
   rw [hD] at k
   refine iteT (iteT ?_)
   exact one_told hE (KeepE.refl _ _) (KeepT.refl H) hB rfl rfl k
  | true =>
   rw [hD,if_pos rfl] at k
   refine iteF ⟨_,rfl,_,_,rfl,rfl,_,rfl,?_⟩
   by_cases h8:mm < 1
   ·rw [if_pos h8] at k
    rw [decide_eq_true h8]
    refine iteT ?_
    exact one_told hE (KeepE.refl _ _) (KeepT.refl H) hB rfl rfl k
   rw [decide_eq_false h8]
   rw [if_neg h8] at k
   refine iteF ?_
   have hp':=B.pt
   refine ⟨_,rfl,a,C,dx,_,_,rfl,hi,T.cl,T.n4,rfl,rfl,_,rfl,?_⟩
   cases hp:S.pt with
   | none =>
    rw [hp] at hp' k
    rw [show po=.non from hp']
    refine iteT ?_
    exact one_told hE (KeepE.refl _ _) (KeepT.refl H) hB rfl rfl k
   | some p =>
    rw [hp] at hp' k
    dsimp only at k
    obtain ⟨pa,rfl,hpa⟩:=hp'
    refine iteF ?_
    obtain ⟨dn,dr,rfl,hdo,hdr⟩:=hasDir_get hD
    have hdg:S.dirs[dn]?=some dr:=hdo
    have hGd:=G.dl dr (List.mem_of_getElem? hdg)
    have hGp:=G.pl p hp
    have hn12:=G.n12
    have hdq:S.dirQ dn=dr:=by unfold HS.dirQ;rw [← hdr]
    rw [Int.toNat_natCast,hdq] at k
    have hm0:mm.toNat≠0:=by omega
    have hst:Small 60 (mkRat nn mm.toNat):=Small.mk hm0 hs1 (by omega)
    obtain ⟨ar,har,hfr⟩:=pget B.drs hdg
    have hdl:=(hides_some B.dir).1
    refine ⟨_,rfl,a,C,dx,_,_,rfl,hi,T.cl,T.n4,rfl,?_⟩
    refine ⟨_,rfl,a,C,dx,_,_,rfl,hi,T.cl,T.n3,rfl,_,rfl,da,_,_,_,rfl,rfl,SqL.of hdl,atI_nat (v:=V.ref ar) (by rw [List.getElem?_map,har];rfl),?_⟩
    refine ⟨_,rfl,_,rfl,nn,mm,rfl,by omega,fun H1 st s1 hst1=>?_⟩
    generalize mkRat nn mm.toNat=t at hst hst1 k
    refine ⟨pa,ar,st,p,dr,t,rfl,(hpa.at.same B.sub).same s1,(hfr.at.same B.sub).same s1,hst1,by rw [hGd.1,hGp.1],by omega,hGp.2,hGd.2,hst.mono (by decide),fun H2 ml s2 hmn hml=>?_⟩
    have s02:=s1.trans s2
    have hmn0:H ml=none:=s1.free hmn
    refine ⟨_,rfl,ml,_,rfl,hml.at,_,rfl,?_⟩
    cases hh:heavyQ (movedQ p dr t) with
    | true =>
     rw [hh,if_pos rfl] at k
     refine iteT ?_
     exact one_told hE (KeepE.of s02) (KeepT.of s02) (hB.mono s02) rfl rfl k
    | false =>
     rw [hh] at k
     refine iteF ?_
     have nE:ml ∉ El:=fun q=>by obtain ⟨zs,hz⟩:=hE ml q;rw [hz] at hmn0;cases hmn0
     have nO:own ml=none:=by
      cases q:own ml with
      | none=>rfl
      | some x=>obtain ⟨xs,hx⟩:=B.cl.1 ml (by rw [q];simp);rw [(hides_some hx).1] at hmn0;cases hmn0
     have nD:ml≠da:=fun q=>by rw [q,hdl] at hmn0;cases hmn0
     refine ⟨_,rfl,a,dx,_,rfl,s02 a _ hi,rfl,_,rfl,a,El,S,dx,la,da,_,ra,fv,ka,kp,drs,kv1,kv2,own,ml,_,rfl,G,hE.keep (KeepE.of s02),B.mono0 (hides_same s02),hml,nE,nO,nD,(by rw [movedQ_length];exact hGp.1),fun H3 kE3 hB3 kT3=>?_⟩
     obtain ⟨dx3,la3,da3,po3,ra3,fv3,ka3,kp3,drs3,kv13,kv23,own3,B3⟩:=id hB3
     refine ⟨_,rfl,a,dx3,_,rfl,B3.insH,rfl,a,El,_,rfl,hB3,fun H4 r s4 hrn hr4=>?_⟩
     exact k H4 r ((hE.keep ((KeepE.of s02).trans kE3)).free hrn) ((KeepE.of s02).trans (kE3.trans (KeepE.of s4))) (hB3.mono s4) ((KeepT.of s02).trans (kT3.trans (KeepT.of s4))) hr4
end
end Lc
end
section
namespace Lc
open PySem PySem.Spec PyProof.Rows L2
open VagraLine (Fault)
section
variable {P:Program} {w:World} {K:PySem.W.Frag} {mg:Str→Option Value} {base:Heap} {C CS:Addr}
theorem own_free {E:List Addr} {own:Own} {da b:Addr} {H:Hp} (h:CL own da (hides E H)) (hb:H b=none):own b=none:=by
 cases q:own b with
 | none=>rfl
 | some x=>obtain ⟨xs,hx⟩:=h.1 b (by rw [q];simp);rw [(hides_some hx).1] at hb;cases hb
theorem ok_take_point (D:MethAt K C "take_point" "Holder.take_point" s_Holder_take_point) (T:Txt K C) (c_NOT_OF_THE_FORM:Const mg "NOT_OF_THE_FORM" (.int (-2))) (C_read_fractions:Callee P w K mg base "read_fractions" ["numbers","how_many"] 43 (spReadF K))
  (m_stand_at:Mth P w K mg base C "stand_at" ["self","point"] 46 (spStand K C CS)) (m_tell_fault:Mth P w K mg base C "tell_fault" ["self"] 41 (spFault K C CS)):Mth P w K mg base C "take_point" ["self","numbers"] 50 (spH K C CS pL fPoint):=by
 refine mkM (k:=49) D sc_Holder_take_point (fun _ _ _ _ _ _ us hl=>match us,hl with | [_,_],_=>rfl) (fun vs H Q E h=>?_) (fun f cdv A outer s H vs Q E hr h=>?_)
 ·obtain ⟨a,El,S,rest,ns,rfl,⟨l,rfl,_⟩,_⟩:=h
  rfl
 ·obtain ⟨a,El,S,rest,ns,rfl,⟨l,rfl,hS,hlE,hlen,hsz⟩,G,hE,hB,k⟩:=h
  obtain ⟨dx,la,da,po,ra,fv,ka,kp,drs,kv1,kv2,own,B⟩:=id hB
  have hi:=B.insH
  have hdl:=(hides_some B.dir).1
  refine ⟨_,(pss_cons (ps_set (i:=2) sc_Holder_take_point.nd rfl (by first|exact .inl rfl|exact .inr rfl) (pe_callC C_read_fractions hr (pa_cons (pv 1) (pa_cons (pe_fld (pv 0) rfl) pa_nil))))
   (pss_cons (ps_if (pt_cmpR op_isN (pv 2) pe_non (nomark _)) (pss_one (ps_ret (pe_lst (pa_cons (pe_const c_NOT_OF_THE_FORM) pa_nil)))) pss_nil)
   (pss_cons (ps_expr (pe_methC T.cl m_stand_at hr (pv 0) (pa_cons (pv 2) pa_nil)))
   (pss_one (ps_ret (pe_methC0 T.cl m_tell_fault hr (pv 0))))))),?_⟩
  have h12:=G.n12
  unfold fPoint at k
  refine ⟨_,rfl,_,rfl,a,C,dx,_,_,rfl,hi,T.cl,T.n1,rfl,l,ns,S.n,rfl,SqL.of hS,by omega,by omega,fun hq H1 s1=>?_,fun ps hq H1 pa s1 hpa hfr=>?_⟩
  ·refine ⟨_,rfl,rfl,_,rfl,?_⟩
   refine iteT ?_
   rw [hq] at k
   exact one_told hE (KeepE.of s1) (KeepT.of s1) (hB.mono s1) rfl rfl k
  ·refine ⟨_,rfl,rfl,_,rfl,?_⟩
   refine iteF ?_
   rw [hq] at k
   dsimp only at k
   have hpl:ps.length=S.n:=by
    unfold fracsQ at hq
    by_cases h2:ns.length=2*S.n
    ·rw [if_pos h2] at hq
     have:=readF_length ns ps hq
     omega
    ·rw [if_neg h2] at hq
     cases hq
   have npd:pa≠da:=fun e=>by rw [e,hdl] at hpa;cases hpa
   refine ⟨_,rfl,a,dx,_,rfl,s1 a _ hi,rfl,_,rfl,a,El,S,dx,la,da,po,ra,fv,ka,kp,drs,kv1,kv2,own,pa,ps,rfl,G,hE.keep (KeepE.of s1),B.mono0 (hides_same s1),hfr,hE.free hpa,own_free B.cl hpa,npd,hpl,fun H3 kE3 hB3 kT3=>?_⟩
   obtain ⟨dx3,la3,da3,po3,ra3,fv3,ka3,kp3,drs3,kv13,kv23,own3,B3⟩:=id hB3
   refine ⟨_,rfl,a,dx3,_,rfl,B3.insH,rfl,a,El,_,rfl,hB3,fun H4 r s4 hrn hr4=>?_⟩
   exact k H4 r ((hE.keep ((KeepE.of s1).trans kE3)).free hrn) ((KeepE.of s1).trans (kE3.trans (KeepE.of s4))) (hB3.mono s4) ((KeepT.of s1).trans (kT3.trans (KeepT.of s4))) hr4
theorem KnAt.dirs {Hh H:Hp} {own:Own} {t:Bool} {kvs:List (Key × V)} {S S':HS} {df df':Nat→Option (List Rat)} (h:KnAt K CS Hh H own t kvs S df) (e1:S'.c=S.c) (e2:S'.pt=S.pt) (e3:S'.flt=S.flt) (e4:∀ d dr,df d=some dr→df' d=some dr):KnAt K CS Hh H own t kvs S' df':=fun k v e=>by
 obtain ⟨d,dr,p,sa,h1,h2,h3,h4,h5,h6⟩:=h k v e
 exact ⟨d,dr,p,sa,h1,e4 d dr h2,h3,by rw [e2];exact h4,by rw [e3];exact h5,by rw [e1];exact h6⟩
theorem KnAt.keeps {Hh Hh' H H':Hp} {own:Own} {t:Bool} {kvs:List (Key × V)} {S:HS} {df:Nat→Option (List Rat)} (h:KnAt K CS Hh H own t kvs S df) (k1:Keeps Hh Hh') (k2:∀ b o,H b=some o→(own b≠none∨isLT o=true∧(∀ xs,o≠.lst xs)∨∃ dx x y z,o=.ins CS dx (sf x y z))→H' b=some o):KnAt K CS Hh' H' own t kvs S df:=fun k v e=>by
 obtain ⟨d,dr,p,sa,h1,h2,h3,h4,h5,dx,la,dra,ma,rows,ks,q1,q2,q3,q4,q5,q6,q7⟩:=h k v e
 refine ⟨d,dr,p,sa,h1,h2,h3,h4,h5,dx,la,dra,ma,rows,ks,k2 _ _ q1 (.inr (.inr ⟨_,_,_,_,rfl⟩)),q2.keeps k1,q3.keeps k1,k1 _ _ rfl q4,q5,q6,q7.nd,fun i r hi=>?_,q7.k1⟩
 obtain ⟨vs,e1,e2⟩:=q7.row i r hi
 refine ⟨vs,k2 _ _ e1 (.inl (by rw [q6 r (List.mem_of_getElem? hi)];simp)),Paired.mapP e2 fun _ _ z=>?_⟩
 rcases z with (z | ⟨o,z⟩) | z
 ·exact .inl (.inl (k2 _ _ z (.inr (.inl ⟨rfl,by intro xs e;cases e⟩))))
 ·exact .inl (.inr ⟨o,k2 _ _ z (.inr (.inl ⟨rfl,by intro xs e;cases e⟩))⟩)
 ·exact .inr z
theorem ok_take_direction (D:MethAt K C "take_direction" "Holder.take_direction" s_Holder_take_direction) (T:Txt K C) (c_NOT_OF_THE_FORM:Const mg "NOT_OF_THE_FORM" (.int (-2))) (c_TOO_MANY:Const mg "TOO_MANY" (.int (-7))) (c_MOST_DIRECTIONS:Const mg "MOST_DIRECTIONS" (.int 6)) (n_len:mg "len"=none)
  (C_read_fractions:Callee P w K mg base "read_fractions" ["numbers","how_many"] 43 (spReadF K)):Mth P w K mg base C "take_direction" ["self","numbers"] 50 (spH K C CS pL fDir):=by
 refine mkM (k:=49) D sc_Holder_take_direction (fun _ _ _ _ _ _ us hl=>match us,hl with | [_,_],_=>rfl) (fun vs H Q E h=>?_) (fun f cdv A outer s H vs Q E hr h=>?_)
 ·obtain ⟨a,El,S,rest,ns,rfl,⟨l,rfl,_⟩,_⟩:=h
  rfl
 ·obtain ⟨a,El,S,rest,ns,rfl,⟨l,rfl,hS,hlE,hlen,hsz⟩,G,hE,hB,k⟩:=h
  obtain ⟨dx,la,da,po,ra,fv,ka,kp,drs,kv1,kv2,own,B⟩:=id hB
  have hi:=B.insH
  obtain ⟨hdl,ned⟩:=hides_some B.dir
  refine ⟨_,(pss_cons (ps_set (i:=2) sc_Holder_take_direction.nd rfl (by first|exact .inl rfl|exact .inr rfl) (pe_callC C_read_fractions hr (pa_cons (pv 1) (pa_cons (pe_fld (pv 0) rfl) pa_nil))))
   (pss_cons (ps_if (pt_cmpR op_isN (pv 2) pe_non (nomark _)) (pss_one (ps_ret (pe_lst (pa_cons (pe_const c_NOT_OF_THE_FORM) pa_nil)))) pss_nil)
   (pss_cons (ps_if (pt_cmpR op_ge (pe_callB call_len_seq (by rfl) n_len bt_len (pa_cons (pe_fld (pv 0) rfl) pa_nil)) (pe_const c_MOST_DIRECTIONS) (nomark _)) (pss_one (ps_ret (pe_lst (pa_cons (pe_const c_TOO_MANY) pa_nil)))) pss_nil)
   (pss_cons (ps_expr (pe_bm PySem.F.plainAttrs_list PySem.F.slot_list_append PySem.F.type_list_append mt_append (pe_fld (pv 0) rfl) (pa_cons (pv 2) pa_nil)))
   (pss_one (ps_ret (pe_lst (pa_cons (pe_op op_sub (pe_callB call_len_seq (by rfl) n_len bt_len (pa_cons (pe_fld (pv 0) rfl) pa_nil)) pe_int) pa_nil)))))))),?_⟩
  have h12:=G.n12
  unfold fDir at k
  refine ⟨_,rfl,_,rfl,a,C,dx,_,_,rfl,hi,T.cl,T.n1,rfl,l,ns,S.n,rfl,SqL.of hS,by omega,by omega,fun hq H1 s1=>?_,fun d hq H1 pa s1 hpa hfr=>?_⟩
  ·refine ⟨_,rfl,rfl,_,rfl,?_⟩
   refine iteT ?_
   rw [hq] at k
   exact one_told hE (KeepE.of s1) (KeepT.of s1) (hB.mono s1) rfl rfl k
  ·refine ⟨_,rfl,rfl,_,rfl,?_⟩
   refine iteF ?_
   rw [hq] at k
   dsimp only at k
   have hi1:=s1 a _ hi
   have hd1:=s1 da _ hdl
   refine ⟨_,rfl,a,C,dx,_,_,rfl,hi1,T.cl,T.n3,rfl,da,_,rfl,.inl (SqL.of hd1),_,_,rfl,rfl,_,rfl,?_⟩
   rw [List.length_map,plen B.drs]
   by_cases h6:6≤S.dirs.length
   ·rw [if_pos h6] at k
    rw [decide_eq_true (show (6:Int)≤(S.dirs.length:Int) by omega)]
    refine iteT ?_
    exact one_told hE (KeepE.of s1) (KeepT.of s1) (hB.mono s1) rfl rfl k
   ·rw [if_neg h6] at k
    rw [decide_eq_false (show ¬ (6:Int)≤(S.dirs.length:Int) by omega)]
    refine iteF ?_
    have B1:=B.mono0 (hides_same (E:=El) s1)
    have hE1:=hE.keep (KeepE.of s1)
    have npe:=hE.free hpa
    have npo:=own_free B.cl hpa
    have npd:pa≠da:=fun e=>by rw [e,hdl] at hpa;cases hpa
    refine ⟨_,rfl,a,C,dx,_,_,rfl,hi1,T.cl,T.n3,rfl,.inl ⟨rfl,_,SqL.of hd1⟩,_,rfl,da,_,_,rfl,rfl,hd1,(by rw [List.length_map,plen B.drs,sizeLine_eq];omega),?_⟩
    have hm:drs.map V.ref++[V.ref pa]=(drs++[pa]).map V.ref:=by rw [List.map_append];rfl
    rw [hm]
    have hd2:upd H1 da (.lst ((drs++[pa]).map V.ref)) da=some (.lst ((drs++[pa]).map V.ref)):=upd_same
    have k2:∀ b o,H1 b=some o→b≠da→upd H1 da (.lst ((drs++[pa]).map V.ref)) b=some o:=fun b o e hb=>by rw [upd_ne hb];exact e
    generalize upd H1 da (.lst ((drs++[pa]).map V.ref))=H2 at hd2 k2 ⊢
    have hi2:=k2 a _ hi1 (ne_of hi1 hd1 (by intro q;cases q))
    have kt2:KeepT H1 H2:=fun b o lt e=>k2 b o e (fun q=>by rw [q,hd1] at e;cases e;cases lt)
    have kE2:KeepE El H1 H2:=fun b hb o e=>k2 b o e (fun q=>ned (by rw [← q];exact hb))
    have kh:∀ b o,hides El H1 b=some o→b≠da→hides El H2 b=some o:=fun b o e hb=>by
     obtain ⟨e1,e2⟩:=hides_some e
     rw [hides_ne e2]
     exact k2 b o e1 hb
    have nl:∀ {b:Addr} {o:HO},hides El H1 b=some o→(∀ ys,o≠.lst ys)→hides El H2 b=some o:=fun {b o} e hn=>kh b o e (fun q=>by
     rw [q,B1.dir] at e
     exact hn _ (Option.some.inj e).symm)
    have kd:Keeps (cov own da (hides El H1)) (cov own da (hides El H2)):=fun b o lt e=>by
     obtain ⟨e1,e2,e3⟩:=cov_some e
     rw [cov_in e2 e3]
     exact kh b o e1 e3
    have kk2:∀ b o,hides El H1 b=some o→(own b≠none∨isLT o=true∧(∀ xs,o≠.lst xs)∨∃ dx x y z,o=.ins CS dx (sf x y z))→hides El H2 b=some o:=fun b o e hc=>by
     rcases hc with hc | ⟨_,hc⟩ | ⟨_,_,_,_,rfl⟩
     ·exact kh b o e (fun q=>hc (by rw [q];exact B.oda))
     ·exact nl e hc
     ·exact nl e (by intro ys q;cases q)
    have cl2:CL own da (hides El H2):=by
     refine ⟨fun b q=>?_,_,by rw [hides_ne ned];exact hd2⟩
     obtain ⟨xs,e⟩:=B1.cl.1 b q
     exact ⟨xs,kk2 b _ e (.inl q)⟩
    have hnew:FrsNew K (cov own da (hides El H2)) pa d:=FrsNew.keeps (FrsNew.cov (FrsNew.hides hfr npe hE1) npo npd B1.cl) kd
    refine ⟨_,rfl,a,C,dx,_,_,rfl,hi2,T.cl,T.n3,rfl,da,_,rfl,.inl (SqL.of hd2),_,_,rfl,rfl,(by show 1≤sizeLine;decide),fun p hp=>?_⟩
    have hB2:HolderAt K C CS (hides El H2) a { S with dirs:=S.dirs++[d] }:=by
     refine ⟨dx,la,da,po,ra,fv,ka,kp,drs++[pa],kv1,kv2,own,nl B1.ins (by intro ys q;cases q),B1.lns.keeps kd,(by rw [hides_ne ned];exact hd2),psnoc (Paired.mapP B1.drs fun _ _ z=>z.keeps kd) hnew,B1.pt.keeps kd,B1.res.keeps kd,B1.flt.keeps kd,nl B1.kn1 (by intro ys q;cases q),nl B1.kn2 (by intro ys q;cases q),?_,?_,B.nd1,B.nd2,cl2,B.kne,B.oda⟩
     ·refine (B1.ko1.keeps kd kk2).dirs rfl rfl rfl fun d' dr h2=>?_
      show (S.dirs++[d])[d']?=some dr
      rw [List.getElem?_append_left (List.getElem?_eq_some_iff.mp h2).1]
      exact h2
     ·exact (B1.ko2.keeps kd kk2).dirs rfl rfl rfl fun d' dr h2=>h2
    have e1:(((drs++[pa]).map V.ref).length:Int) - 1=(S.dirs.length:Int):=by
     rw [List.length_map,List.length_append,plen B.drs,List.length_cons,List.length_nil]
     omega
    dsimp only
    rw [e1]
    have s4:=same_upd (o:=.lst [V.int (S.dirs.length:Int)]) hp
    exact k _ p ((hE1.keep kE2).free hp) (((KeepE.of s1).trans kE2).trans (KeepE.of s4)) (hB2.mono s4) ((KeepT.of s1).trans (kt2.trans (KeepT.of s4))) upd_same
end
end Lc
end
section
namespace Lc
open PySem PySem.Spec PyProof.Rows L2
open VagraLine (Fault)
section
variable {P:Program} {w:World} {K:PySem.W.Frag} {mg:Str→Option Value} {base:Heap} {C CS:Addr}
theorem hf_sf {n la da po ra fv ka kp x y z}:hf n la da po ra fv ka kp≠sf x y z:=fun e=>by
 have:=congrArg List.length e
 cases this
theorem ok_drop_directions (D:MethAt K C "drop_directions" "Holder.drop_directions" s_Holder_drop_directions) (T:Txt K C) (n_len:mg "len"=none):Mth P w K mg base C "drop_directions" ["self"] 50 (spH K C CS p0 fClear):=by
 refine mkM (k:=49) D sc_Holder_drop_directions (fun _ _ _ _ _ _ us hl=>match us,hl with | [_],_=>rfl) (fun vs H Q E h=>?_) (fun f cdv A outer s H vs Q E hr h=>?_)
 ·obtain ⟨a,El,S,rest,ns,rfl,rfl,_⟩:=h
  rfl
 ·obtain ⟨a,El,S,rest,ns,rfl,rfl,G,hE,hB,k⟩:=h
  obtain ⟨dx,la,da,po,ra,fv,ka,kp,drs,kv1,kv2,own,B⟩:=id hB
  have hi:=B.insH
  have nea:=(hides_some B.ins).2
  obtain ⟨hdl,ned⟩:=hides_some B.dir
  refine ⟨_,(pss_cons (ps_set (i:=1) sc_Holder_drop_directions.nd rfl (by first|exact .inl rfl|exact .inr rfl) (pe_callB call_len_seq (by rfl) n_len bt_len (pa_cons (pe_fld (pv 0) rfl) pa_nil)))
   (pss_cons (ps_fld (pv 0) (pe_lst pa_nil) rfl)
   (pss_cons (ps_fld (pv 0) pe_dnewK rfl)
   (pss_one (ps_ret (pe_lst (pa_cons (pv 1) pa_nil))))))),?_⟩
  refine ⟨_,rfl,a,C,dx,_,_,rfl,hi,T.cl,T.n3,rfl,da,_,rfl,.inl (SqL.of hdl),?_⟩
  rw [List.length_map,plen B.drs]
  refine ⟨Nat.zero_le _,fun da' hda=>?_⟩
  have s1:=same_upd (o:=.lst []) hda
  have hd1:upd H da' (.lst []) da'=some (.lst []):=upd_same
  generalize upd H da' (.lst [])=H1 at s1 hd1 ⊢
  have hi1:=s1 a _ hi
  refine ⟨_,rfl,a,C,dx,_,rfl,hi1,T.cl,T.n3,(by show 8 < 1000;decide),?_⟩
  rw [hf_dirs]
  have k2:∀ b o,H1 b=some o→b≠a→upd H1 a (.ins C dx (hf S.n la da' po ra fv ka kp)) b=some o:=fun b o e hb=>by rw [upd_ne hb];exact e
  have hi2:upd H1 a (.ins C dx (hf S.n la da' po ra fv ka kp)) a=some (.ins C dx (hf S.n la da' po ra fv ka kp)):=upd_same
  generalize upd H1 a (.ins C dx (hf S.n la da' po ra fv ka kp))=H2 at k2 hi2 ⊢
  intro ka' hka
  have q3:a≠ka':=ne_of_none hi2 hka
  have hi2':upd H2 ka' (.dK []) a=some (.ins C dx (hf S.n la da' po ra fv ka kp)):=by rw [upd_ne q3];exact hi2
  refine ⟨_,rfl,a,C,dx,_,rfl,hi2',T.cl,T.n7,(by show 8 < 1000;decide),?_⟩
  rw [hf_along]
  have k3:∀ b o,H2 b=some o→b≠a→upd (upd H2 ka' (.dK [])) a (.ins C dx (hf S.n la da' po ra fv ka' kp)) b=some o:=fun b o e hb=>by rw [upd_ne hb,upd_ne (ne_of_none e hka)];exact e
  have hi3:upd (upd H2 ka' (.dK [])) a (.ins C dx (hf S.n la da' po ra fv ka' kp)) a=some (.ins C dx (hf S.n la da' po ra fv ka' kp)):=upd_same
  have hk3:upd (upd H2 ka' (.dK [])) a (.ins C dx (hf S.n la da' po ra fv ka' kp)) ka'=some (.dK []):=by rw [upd_ne q3.symm,upd_same]
  generalize upd (upd H2 ka' (.dK [])) a (.ins C dx (hf S.n la da' po ra fv ka' kp))=H3 at k3 hi3 hk3 ⊢
  have k1:∀ b o,H b=some o→b≠a→H3 b=some o:=fun b o e hb=>k3 b o (k2 b o (s1 b o e) hb) hb
  have kpH:Keeps H H3:=fun b o l e=>k1 b o e (fun q=>by rw [q,hi] at e;cases e;cases l)
  have kt:KeepT H H3:=fun b o l e=>k1 b o e (fun q=>by rw [q,hi] at e;cases e;cases l)
  have kE:KeepE El H H3:=KeepE.ofKeeps hE kpH
  have hE3:=hE.keep kE
  have nda:da'≠a:=fun e=>by rw [e,hi] at hda;cases hda
  have hd3:H3 da'=some (.lst []):=k3 da' _ (k2 da' _ hd1 nda) nda
  have nde:=hE.free hda
  have nke:ka' ∉ El:=fun q=>by obtain ⟨zs,hz⟩:=hE3 ka' q;rw [hk3] at hz;cases hz
  have nkp:ka'≠kp:=fun e=>by
   have h1:=(hides_some B.kn2).1
   have h2:=k2 kp _ (s1 kp _ h1) (ne_of h1 hi (by intro q;cases q))
   rw [← e,hka] at h2
   cases h2
  have nod:=own_free B.cl hda
  have kh:∀ b o,hides El H b=some o→b≠a→hides El H3 b=some o:=fun b o e hb=>by
   obtain ⟨e1,e2⟩:=hides_some e
   rw [hides_ne e2]
   exact k1 b o e1 hb
  have kd:Keeps (cov own da (hides El H)) (cov own da' (hides El H3)):=fun b o lt e=>by
   obtain ⟨e1,e2,e3⟩:=cov_some e
   have nb:b≠da':=fun q=>by rw [q,(hides_ne nde),hda] at e1;cases e1
   rw [cov_in e2 nb]
   exact hides_keeps kpH b o lt e1
  have kk2:∀ b o,hides El H b=some o→(own b≠none∨isLT o=true∧(∀ xs,o≠.lst xs)∨∃ dx x y z,o=.ins CS dx (sf x y z))→hides El H3 b=some o:=fun b o e hc=>by
   rcases hc with hc | ⟨hc,_⟩ | ⟨_,_,_,_,rfl⟩
   ·obtain ⟨xs,hx⟩:=B.cl.1 b hc
    exact kh b o e (fun q=>by rw [q,B.ins] at hx;cases hx)
   ·exact hides_keeps kpH b o hc e
   ·exact kh b _ e (fun q=>by
     rw [q,B.ins] at e
     have:=HO.ins.inj (Option.some.inj e)
     exact hf_sf this.2.2)
  have cl3:CL own da' (hides El H3):=by
   refine ⟨fun b q=>?_,_,by rw [hides_ne nde];exact hd3⟩
   obtain ⟨xs,e⟩:=B.cl.1 b q
   exact ⟨xs,kk2 b _ e (.inl q)⟩
  refine ⟨_,rfl,(by show 1≤sizeLine;decide),fun p hp=>?_⟩
  have hB3:HolderAt K C CS (hides El H3) a { S with dirs:=[] }:=by
   refine ⟨dx,la,da',po,ra,fv,ka',kp,[],[],kv2,own,by rw [hides_ne nea];exact hi3,B.lns.keeps kd,by rw [hides_ne nde];exact hd3,.nil,B.pt.keeps kd,B.res.keeps kd,B.flt.keeps kd,by rw [hides_ne nke];exact hk3,kh kp _ B.kn2 (ne_of B.kn2 B.ins (by intro q;cases q)),knil,(B.ko2.keeps kd kk2).dirs rfl rfl rfl fun d' dr h2=>h2,List.nodup_nil,B.nd2,cl3,nkp,nod⟩
  have s4:=same_upd (o:=.lst [V.int (S.dirs.length:Int)]) hp
  exact k _ p (hE3.free hp) (kE.trans (KeepE.of s4)) (hB3.mono s4) (kt.trans (KeepT.of s4)) upd_same
theorem ok_take_code (D:MethAt K C "take_code" "Holder.take_code" s_Holder_take_code) (T:Txt K C) (c_OUT_OF_RANGE:Const mg "OUT_OF_RANGE" (.int (-1))) (c_NOT_OF_THE_FORM:Const mg "NOT_OF_THE_FORM" (.int (-2))) (c_TOO_MANY:Const mg "TOO_MANY" (.int (-7))) (c_NOT_THERE:Const mg "NOT_THERE" (.int (-3)))
  (c_MOST_INPUTS:Const mg "MOST_INPUTS" (.int 12)) (c_MOST_LINES:Const mg "MOST_LINES" (.int 80)) (n_len:mg "len"=none) (C_read_lines:Callee P w K mg base "read_lines" ["numbers"] 42 (spRead K)) (C_all_find_what_they_use:Callee P w K mg base "all_find_what_they_use" ["lines","inputs"] 42 (spAllFind K))
  (m_leave_point:Mth P w K mg base C "leave_point" ["self"] 42 (spLeave C)):Mth P w K mg base C "take_code" ["self","inputs","numbers"] 50 (spH K C CS pIL fCode):=by
 refine mkM (k:=49) D sc_Holder_take_code (fun _ _ _ _ _ _ us hl=>match us,hl with | [_,_,_],_=>rfl) (fun vs H Q E h=>?_) (fun f cdv A outer s H vs Q E hr h=>?_)
 ·obtain ⟨a,El,S,rest,ns,rfl,⟨l,rfl,_⟩,_⟩:=h
  rfl
 ·obtain ⟨a,El,S,rest,⟨n,ns⟩,rfl,⟨l,rfl,hS,hlE,hlen,hsz⟩,G,hE,hB,k⟩:=h
  obtain ⟨dx,la,da,po,ra,fv,ka,kp,drs,kv1,kv2,own,B⟩:=id hB
  have hi:=B.insH
  have nea:=(hides_some B.ins).2
  refine ⟨_,(pss_cons (ps_if (PW.pt (pw_or (pt_cmpR op_lt (pv 1) pe_int (nomark _)) (pw_or1 (pt_cmpR op_gt (pv 1) (pe_const c_MOST_INPUTS) (nomark _))))) (pss_one (ps_ret (pe_lst (pa_cons (pe_const c_OUT_OF_RANGE) pa_nil)))) pss_nil)
   (pss_cons (ps_set (i:=3) sc_Holder_take_code.nd rfl (by first|exact .inl rfl|exact .inr rfl) (pe_callC C_read_lines hr (pa_cons (pv 2) pa_nil)))
   (pss_cons (ps_if (pt_cmpR op_isN (pv 3) pe_non (nomark _)) (pss_one (ps_ret (pe_lst (pa_cons (pe_const c_NOT_OF_THE_FORM) pa_nil)))) pss_nil)
   (pss_cons (ps_if (pt_cmpR op_gt (pe_callB call_len_seq (by rfl) n_len bt_len (pa_cons (pv 3) pa_nil)) (pe_const c_MOST_LINES) (nomark _)) (pss_one (ps_ret (pe_lst (pa_cons (pe_const c_TOO_MANY) pa_nil)))) pss_nil)
   (pss_cons (ps_if (pt_not (pt_val (pe_callC C_all_find_what_they_use hr (pa_cons (pv 3) (pa_cons (pv 1) pa_nil))))) (pss_one (ps_ret (pe_lst (pa_cons (pe_const c_NOT_THERE) pa_nil)))) pss_nil)
   (pss_cons (ps_fld (pv 0) (pv 1) rfl)
   (pss_cons (ps_fld (pv 0) (pv 3) rfl)
   (pss_cons (ps_fld (pv 0) (pe_lst pa_nil) rfl)
   (pss_cons (ps_expr (pe_methC0 T.cl m_leave_point hr (pv 0)))
   (pss_one (ps_ret (pe_lst (pa_cons (pe_callB call_len_seq (by rfl) n_len bt_len (pa_cons (pv 3) pa_nil)) pa_nil))))))))))))),?_⟩
  unfold fCode at k
  dsimp only at k hS hlen
  refine ⟨_,rfl,_,_,rfl,rfl,_,rfl,?_⟩
  by_cases h0:n < 0
  ·rw [if_pos (.inl h0)] at k
   rw [decide_eq_true h0]
   refine iteT (iteT ?_)
   exact one_told hE (KeepE.refl _ _) (KeepT.refl H) hB rfl rfl k
  rw [decide_eq_false h0]
  refine iteF ⟨_,rfl,_,_,rfl,rfl,_,rfl,?_⟩
  by_cases h12:12 < n
  ·rw [if_pos (.inr h12)] at k
   rw [decide_eq_true h12]
   refine iteT ?_
   exact one_told hE (KeepE.refl _ _) (KeepT.refl H) hB rfl rfl k
  rw [decide_eq_false h12]
  rw [if_neg (by omega)] at k
  refine iteF ?_
  obtain ⟨m,rfl⟩:∃ m:Nat,n=(m:Int):=⟨n.toNat,by omega⟩
  rw [Int.toNat_natCast] at k
  refine ⟨_,rfl,l,ns,rfl,SqL.of hS,by omega,fun hq H1 s1=>?_,fun c hq H1 la' s1 hla hfr=>?_⟩
  ·rw [hq] at k
   refine ⟨_,rfl,rfl,_,rfl,?_⟩
   refine iteT ?_
   exact one_told hE (KeepE.of s1) (KeepT.of s1) (hB.mono s1) rfl rfl k
  ·rw [hq] at k
   dsimp only at k
   refine ⟨_,rfl,rfl,_,rfl,?_⟩
   refine iteF ?_
   obtain ⟨rs,hrs,hp⟩:=id hfr
   refine ⟨_,rfl,la',_,rfl,.inl (SqL.of hrs),_,_,rfl,rfl,_,rfl,?_⟩
   rw [List.length_map,plen hp]
   by_cases h80:80 < c.length
   ·rw [if_pos h80] at k
    rw [decide_eq_true (show (80:Int) < (c.length:Int) by omega)]
    refine iteT ?_
    exact one_told hE (KeepE.of s1) (KeepT.of s1) (hB.mono s1) rfl rfl k
   rw [if_neg h80] at k
   rw [decide_eq_false (show ¬ (80:Int) < (c.length:Int) by omega)]
   refine iteF ?_
   refine ⟨_,rfl,_,rfl,la',c,m,rfl,hfr.at,readL_ok _ _ _ hq,fun H2 s2=>⟨_,rfl,?_⟩⟩
   have s12:=s1.trans s2
   cases hfa:findsAll m 0 c with
   | false =>
    rw [hfa] at k
    refine iteT ?_
    exact one_told hE (KeepE.of s12) (KeepT.of s12) (hB.mono s12) rfl rfl k
   | true =>
    rw [hfa,if_pos rfl] at k
    refine iteF ?_
    have hi2:=s12 a _ hi
    have hla2:LnsNew K H2 la' c:=hfr.keeps (Keeps.of s2)
    have hlo2:=s2 la' _ hrs
    have nle:=hE.free hla
    have hE2:=hE.keep (KeepE.of s12)
    refine ⟨_,rfl,_,rfl,a,C,dx,_,rfl,hi2,T.cl,T.n1,(by show 8 < 1000;decide),?_⟩
    rw [hf_inputs]
    have kp3:Keeps H2 (upd H2 a (.ins C dx (hf m la da po ra fv ka kp))):=keeps_put fun u e=>by rw [hi2] at e;cases e;rfl
    have kt3:KeepT H2 (upd H2 a (.ins C dx (hf m la da po ra fv ka kp))):=keepT_put fun u e=>by rw [hi2] at e;cases e;rfl
    have hi3:upd H2 a (.ins C dx (hf m la da po ra fv ka kp)) a=some (.ins C dx (hf m la da po ra fv ka kp)):=upd_same
    generalize upd H2 a (.ins C dx (hf m la da po ra fv ka kp))=H3 at kp3 kt3 hi3 ⊢
    refine ⟨_,rfl,_,rfl,a,C,dx,_,rfl,hi3,T.cl,T.n2,(by show 8 < 1000;decide),?_⟩
    rw [hf_lines]
    have kp4:Keeps H3 (upd H3 a (.ins C dx (hf m la' da po ra fv ka kp))):=keeps_put fun u e=>by rw [hi3] at e;cases e;rfl
    have kt4:KeepT H3 (upd H3 a (.ins C dx (hf m la' da po ra fv ka kp))):=keepT_put fun u e=>by rw [hi3] at e;cases e;rfl
    have hi4:upd H3 a (.ins C dx (hf m la' da po ra fv ka kp)) a=some (.ins C dx (hf m la' da po ra fv ka kp)):=upd_same
    generalize upd H3 a (.ins C dx (hf m la' da po ra fv ka kp))=H4 at kp4 kt4 hi4 ⊢
    refine ⟨Nat.zero_le _,fun da' hda=>?_⟩
    have s5:=same_upd (o:=.lst []) hda
    have hd5:upd H4 da' (.lst []) da'=some (.lst []):=upd_same
    have kp24:Keeps H2 H4:=kp3.trans kp4
    have hE4:=hE2.keep (KeepE.ofKeeps hE2 kp24)
    have nde:=hE4.free hda
    have hlo4:=kp24 la' _ rfl hlo2
    have nld:la'≠da':=ne_of_none hlo4 hda
    have kt24:KeepT H2 H4:=kt3.trans kt4
    generalize upd H4 da' (.lst [])=H5 at s5 hd5 ⊢
    have hi5:=s5 a _ hi4
    refine ⟨_,rfl,a,C,dx,_,rfl,hi5,T.cl,T.n3,(by show 8 < 1000;decide),?_⟩
    rw [hf_dirs]
    have kp6:Keeps H5 (upd H5 a (.ins C dx (hf m la' da' po ra fv ka kp))):=keeps_put fun u e=>by rw [hi5] at e;cases e;rfl
    have kt6:KeepT H5 (upd H5 a (.ins C dx (hf m la' da' po ra fv ka kp))):=keepT_put fun u e=>by rw [hi5] at e;cases e;rfl
    have hi6:upd H5 a (.ins C dx (hf m la' da' po ra fv ka kp)) a=some (.ins C dx (hf m la' da' po ra fv ka kp)):=upd_same
    generalize upd H5 a (.ins C dx (hf m la' da' po ra fv ka kp))=H6 at kp6 kt6 hi6 ⊢
    refine ⟨_,rfl,a,dx,_,rfl,hi6,rfl,a,dx,_,rfl,hi6,(by show 8≤12;decide),rfl,fun H7 ra' ka' kp' h1 h2 h3 h4 h5 h6 h7=>?_⟩
    have k67:Keeps H6 H7:=fun b o lt e=>h7 b o e (fun q=>by rw [q,hi6] at e;cases e;cases lt)
    have t67:KeepT H6 H7:=fun b o lt e=>h7 b o e (fun q=>by rw [q,hi6] at e;cases e;cases lt)
    have kp47:Keeps H4 H7:=((Keeps.of s5).trans kp6).trans k67
    have kp27:Keeps H2 H7:=kp24.trans kp47
    have kpH7:Keeps H H7:=(Keeps.of s12).trans kp27
    have kt:KeepT H H7:=((KeepT.of s12).trans kt24).trans (((KeepT.of s5).trans kt6).trans t67)
    have kE:KeepE El H H7:=KeepE.ofKeeps hE kpH7
    have hE7:=hE.keep kE
    have hd7:H7 da'=some (.lst []):=(kp6.trans k67) da' _ rfl hd5
    have hdh:hides El H7 da'=some (.lst []):=by rw [hides_ne nde];exact hd7
    have hd6:=kp6 da' _ rfl hd5
    have hE6:=hE4.keep (KeepE.ofKeeps hE4 ((Keeps.of s5).trans kp6))
    have nre:=hE6.free h2
    have nrd:ra'≠da':=fun e=>by rw [e,hd6] at h2;cases h2
    have nka:ka' ∉ El:=fun q=>by obtain ⟨zs,hz⟩:=hE7 ka' q;rw [h5] at hz;cases hz
    have nkp:kp' ∉ El:=fun q=>by obtain ⟨zs,hz⟩:=hE7 kp' q;rw [h6] at hz;cases hz
    have cl7:CL (fun _=>none) da' (hides El H7):=⟨fun b q=>absurd rfl q,⟨_,hdh⟩⟩
    have hB7:HolderAt K C CS (hides El H7) a { n:=m,c:=c,dirs:=[],pt:=none }:=by
     refine ⟨dx,la',da',.non,ra',.non,ka',kp',[],[],[],fun _=>none,?_,?_,hdh,.nil,rfl,⟨[],?_,.nil⟩,rfl,?_,?_,knil,knil,List.nodup_nil,List.nodup_nil,cl7,h3,rfl⟩
     ·rw [hides_ne nea]
      exact h1
     ·exact LnsNew.cov (LnsNew.hides (hla2.keeps kp27) nle hE7) rfl nld cl7
     ·rw [cov_in rfl nrd,hides_ne nre];exact h4
     ·rw [hides_ne nka]
      exact h5
     ·rw [hides_ne nkp]
      exact h6
    obtain ⟨rs7,hr7,hp7⟩:=hla2.keeps kp27
    refine ⟨_,rfl,la',_,rfl,.inl (SqL.of hr7),(by show 1≤sizeLine;decide),fun p hp'=>?_⟩
    have s8:=same_upd (o:=.lst [V.int ((rs7.map V.ref).length:Int)]) hp'
    refine k _ p (hE7.free hp') (kE.trans (KeepE.of s8)) (hB7.mono s8) (kt.trans (KeepT.of s8)) ?_
    rw [upd_same,List.length_map,plen hp7]
    rfl
end
end Lc
end
section
namespace Lc
open PySem PySem.Spec PyProof.Rows L2
open VagraLine (Fault)
section
variable {P:Program} {w:World} {K:PySem.W.Frag} {mg:Str→Option Value} {base:Heap} {C CS:Addr}
theorem shape_b {p:Int} {nn kk:Nat} (h:PyVagrae.shape p=some (nn,kk)):0≤p∧p < 15∧nn≤4∧(kk=0∨kk=1):=by
 unfold PyVagrae.shape at h
 by_cases h0:p=0
 ·rw [if_pos h0] at h
  cases h
  omega
 rw [if_neg h0] at h
 by_cases h1:p=1
 ·rw [if_pos h1] at h
  cases h
  omega
 rw [if_neg h1] at h
 by_cases h2:p=2
 ·rw [if_pos h2] at h
  cases h
  omega
 rw [if_neg h2] at h
 by_cases h3:p=3
 ·rw [if_pos h3] at h
  cases h
  omega
 rw [if_neg h3] at h
 by_cases h4:p=4
 ·rw [if_pos h4] at h
  cases h
  omega
 rw [if_neg h4] at h
 by_cases h5:p=5
 ·rw [if_pos h5] at h
  cases h
  omega
 rw [if_neg h5] at h
 by_cases h6:p=6
 ·rw [if_pos h6] at h
  cases h
  omega
 rw [if_neg h6] at h
 by_cases h7:p=7
 ·rw [if_pos h7] at h
  cases h
  omega
 rw [if_neg h7] at h
 by_cases h8:p=8
 ·rw [if_pos h8] at h
  cases h
  omega
 rw [if_neg h8] at h
 by_cases h9:p=9
 ·rw [if_pos h9] at h
  cases h
  omega
 rw [if_neg h9] at h
 by_cases h10:p=10
 ·rw [if_pos h10] at h
  cases h
  omega
 rw [if_neg h10] at h
 by_cases h11:p=11
 ·rw [if_pos h11] at h
  cases h
  omega
 rw [if_neg h11] at h
 by_cases h12:p=12
 ·rw [if_pos h12] at h
  cases h
  omega
 rw [if_neg h12] at h
 by_cases h13:p=13
 ·rw [if_pos h13] at h
  cases h
  omega
 rw [if_neg h13] at h
 by_cases h14:p=14
 ·rw [if_pos h14] at h
  cases h
  omega
 rw [if_neg h14] at h
 cases h
def ShapesAt (K:PySem.W.Frag) (zs:Addr):Prop:=∀ (p:Int) (nn kk:Nat),PyVagrae.shape p=some (nn,kk)→∃ (xs:List V) (r:Addr),(∀ H,SqT K H zs xs)∧atI xs p=some (.ref r)∧∀ H,SqT K H r [.int nn,.int kk]
@[irreducible] def spCallAt (K:PySem.W.Frag):Sp:=fun vs H Q _=>∃ (ca:Addr) (l:List Int) (pl:Nat) (p:Int) (r:List Int) (nn kk:Nat),vs=[.ref ca,.int pl]∧SqL K H ca (l.map V.int)∧l.drop pl=p::r∧PyVagrae.shape p=some (nn,kk)∧nn≤r.length ∧
 (kk=0→∀ H' t g,Same H H'→H g=none→SqT K H' t [.ref g,.int (pl+1+nn:Nat)]→H' g=some (.lst ((r.take nn).map V.int))→Q (.ref t) H') ∧
 (kk=1→∃ (m:Nat) (rest:List Int),r.drop nn=(m:Int)::rest∧m≤rest.length∧∀ H' t g rl,Same H H'→H g=none→H rl=none→rl≠g→SqT K H' t [.ref g,.int (pl+1+nn+1+m:Nat)]→H' g=some (.lst ((r.take nn).map V.int++[.ref rl]))→H' rl=some (.lst ((rest.take m).map V.int))→Q (.ref t) H')
theorem ok_read_call {zs:Addr} (D:DefAt K mg "read_call" s_read_call) (c_SHAPES:Const mg "SHAPES" (.ref zs)) (hzs:ShapesAt K zs):Callee P w K mg base "read_call" ["calls","place"] 41 (spCallAt K):=by
 refine mkC (k:=40) D sc_read_call (fun _ _ _ _ _ _ us hl=>match us,hl with | [_,_],_=>rfl) (fun vs H Q E h=>?_) (fun f cdv A outer s H vs Q E hr h=>?_)
 ·unfold spCallAt at h
  obtain ⟨ca,l,pl,p,r,nn,kk,rfl,_⟩:=h
  rfl
 ·unfold spCallAt at h
  obtain ⟨ca,l,pl,p,r,nn,kk,rfl,hS,hd,hsh,hnn,k0,k1⟩:=h
  refine ⟨_,(pss_cons (ps_set (i:=2) sc_read_call.nd rfl (by first|exact .inl rfl|exact .inr rfl) (pe_ix ix_tup (pe_const c_SHAPES) (pe_ix ix_list (pv 0) (pv 1) (fun _ _=>rfl)) (fun _ _=>rfl)))
   (pss_cons (ps_set (i:=3) sc_read_call.nd rfl (by first|exact .inl rfl|exact .inr rfl) (pe_op op_add (pe_op op_add (pv 1) pe_int) (pe_ix ix_tup (pv 2) pe_int (fun _ _=>rfl))))
   (pss_cons (ps_set (i:=4) sc_read_call.nd rfl (by first|exact .inl rfl|exact .inr rfl) (pe_slice sl_list (pv 0) (po_some (pe_op op_add (pv 1) pe_int)) (po_some (pv 3))))
   (pss_cons (ps_if (pt_cmpR op_eq (pe_ix ix_tup (pv 2) pe_int (fun _ _=>rfl)) pe_int (nomark _)) (pss_cons (ps_set (i:=5) sc_read_call.nd rfl (by first|exact .inl rfl|exact .inr rfl) (pe_op op_add (pv 3) pe_int))
   (pss_cons (ps_set (i:=3) sc_read_call.nd rfl (by first|exact .inl rfl|exact .inr rfl) (pe_op op_add (pv 5) (pe_ix ix_list (pv 0) (pv 3) (fun _ _=>rfl))))
   (pss_one (ps_expr (pe_bm PySem.F.plainAttrs_list PySem.F.slot_list_append PySem.F.type_list_append mt_append (pv 4) (pa_cons (pe_slice sl_list (pv 0) (po_some (pv 5)) (po_some (pv 3))) pa_nil)))))) pss_nil)
   (pss_one (ps_ret (pe_tup (pa_cons (pv 4) (pa_cons (pv 3) pa_nil))))))))),?_⟩
  obtain ⟨xs,sr,hz1,hz2,hz3⟩:=hzs p nn kk hsh
  obtain ⟨hp0,hp15,hn4,hkk⟩:=shape_b hsh
  have hll:=congrArg List.length hd
  rw [List.length_drop,List.length_cons] at hll
  have hpl:l[pl]?=some p:=by
   have:=congrArg (fun z=>z[0]?) hd
   simpa using this
  have hr:l.drop (pl+1)=r:=by
   have:=congrArg (List.drop 1) hd
   rw [List.drop_drop] at this
   simpa using this
  refine ⟨_,rfl,_,rfl,ca,_,_,_,rfl,rfl,hS,atI_nat (j:=pl) (v:=V.int p) (by rw [List.getElem?_map,hpl];rfl),zs,_,_,_,rfl,rfl,hz1 H,hz2,?_⟩
  refine ⟨_,rfl,_,_,rfl,rfl,_,rfl,sr,_,_,_,rfl,rfl,hz3 H,at_0,_,_,rfl,rfl,?_⟩
  have eEnd:(pl:Int)+1+(nn:Int)=((pl+1+nn:Nat):Int):=by omega
  dsimp only
  rw [eEnd]
  refine ⟨_,rfl,_,rfl,_,_,rfl,rfl,_,rfl,_,rfl,_,rfl,ca,_,rfl,hS,fun g hg=>?_⟩
  have eP:(pl:Int)+1=((pl+1:Nat):Int):=by omega
  dsimp only
  rw [eP,cut_mid l (pl+1) (pl+1+nn) (by omega) (by omega),hr,show pl+1+nn - (pl+1)=nn by omega]
  have s1:=same_upd (o:=.lst ((r.take nn).map V.int)) hg
  have hg1:upd H g (.lst ((r.take nn).map V.int)) g=some (.lst ((r.take nn).map V.int)):=upd_same
  generalize upd H g (.lst ((r.take nn).map V.int))=H1 at s1 hg1 ⊢
  refine ⟨_,rfl,sr,_,_,_,rfl,rfl,hz3 H1,at_1,(by rfl),_,rfl,?_⟩
  rcases hkk with rfl | rfl
  ·refine iteF ⟨_,rfl,_,rfl,(by show 2≤sizeLine;decide),fun t ht=>?_⟩
   exact k0 rfl _ t g (s1.trans (same_upd ht)) hg (SqT.of upd_same) (same_upd ht g _ hg1)
  ·obtain ⟨m,rest,hrd,hm,k1⟩:=k1 rfl
   refine iteT ?_
   have hrl:=congrArg List.length hrd
   rw [List.length_drop,List.length_cons] at hrl
   have hm1:l[pl+1+nn]?=some (m:Int):=by
    have:=congrArg (fun z=>z[0]?) hrd
    rw [← hr] at this
    simpa [List.getElem?_drop,Nat.add_assoc] using this
   have hrest:l.drop (pl+1+nn+1)=rest:=by
    have:=congrArg (List.drop 1) hrd
    rw [← hr,List.drop_drop,List.drop_drop] at this
    simpa [Nat.add_assoc] using this
   have hS1:=s1.seq hS
   refine ⟨_,rfl,_,_,rfl,rfl,?_⟩
   refine ⟨_,rfl,_,rfl,_,rfl,ca,_,_,_,rfl,rfl,hS1,atI_nat (j:=pl+1+nn) (v:=V.int (m:Int)) (by rw [List.getElem?_map,hm1];rfl),_,_,rfl,rfl,?_⟩
   have e1:((pl+1+nn:Nat):Int)+1=((pl+1+nn+1:Nat):Int):=by omega
   have e2:((pl+1+nn+1:Nat):Int)+(m:Int)=((pl+1+nn+1+m:Nat):Int):=by omega
   dsimp only
   rw [e1,e2]
   refine ⟨_,rfl,.inl ⟨rfl,_,SqL.of hg1⟩,_,rfl,_,rfl,_,rfl,_,rfl,_,rfl,ca,_,rfl,hS1,fun rl hrl1=>?_⟩
   rw [cut_mid l (pl+1+nn+1) (pl+1+nn+1+m) (by omega) (by omega),hrest,show pl+1+nn+1+m - (pl+1+nn+1)=m by omega]
   have s2:=same_upd (o:=.lst ((rest.take m).map V.int)) hrl1
   have hl2:upd H1 rl (.lst ((rest.take m).map V.int)) rl=some (.lst ((rest.take m).map V.int)):=upd_same
   have nrg:rl≠g:=fun e=>by rw [e,hg1] at hrl1;cases hrl1
   generalize upd H1 rl (.lst ((rest.take m).map V.int))=H2 at s2 hl2 ⊢
   have hg2:=s2 g _ hg1
   refine ⟨g,_,_,rfl,rfl,hg2,(by rw [List.length_map,List.length_take,sizeLine_eq];omega),?_⟩
   have s3:Same H (upd H2 g (.lst ((r.take nn).map V.int++[.ref rl]))):=same_put hg (s1.trans s2)
   have hg3:upd H2 g (.lst ((r.take nn).map V.int++[.ref rl])) g=some (.lst ((r.take nn).map V.int++[.ref rl])):=upd_same
   have hl3:upd H2 g (.lst ((r.take nn).map V.int++[.ref rl])) rl=some (.lst ((rest.take m).map V.int)):=by rw [upd_ne nrg];exact hl2
   generalize upd H2 g (.lst ((r.take nn).map V.int++[.ref rl]))=H3 at s3 hg3 hl3 ⊢
   refine ⟨_,rfl,_,rfl,(by show 2≤sizeLine;decide),fun t ht=>?_⟩
   exact k1 _ t g rl (s3.trans (same_upd ht)) hg (s1.free hrl1) nrg (SqT.of upd_same) (same_upd ht g _ hg3) (same_upd ht rl _ hl3)
end
end Lc
end
section
namespace Lc
open PySem PySem.Spec PyProof.Rows L2
open VagraLine (Fault)
theorem at_3 {v u z y:V} {xs:List V}:atI (v::u::z::y::xs) 3=some y:=atI_nat (j:=3) rfl
def RowAt (H:Hp) (E:List Addr) (rl:Addr) (l:List Int):Prop:=H rl=some (.lst (l.map V.int))∧rl∈E∧l.length≤20000∧∀ z∈l,z.natAbs < 2 ^ 60
inductive Giv (H:Hp) (E:List Addr):Int→List V→Vagrae.Call→Prop
 | code (n:Int) (l:List Int) (rl:Addr) (h:RowAt H E rl l):Giv H E 0 [.int n,.ref rl] (.code n l)
 | point (l:List Int) (rl:Addr) (h:RowAt H E rl l):Giv H E 1 [.ref rl] (.point l)
 | dir (l:List Int) (rl:Addr) (h:RowAt H E rl l):Giv H E 2 [.ref rl] (.dir l)
 | clear:Giv H E 3 [] .clear
 | value (i:Int):Giv H E 4 [.int i] (.value i)
 | values:Giv H E 5 [] .values
 | change (i d:Int):Giv H E 6 [.int i,.int d] (.change i d)
 | changes (i:Int):Giv H E 7 [.int i] (.changes i)
 | gradient (i:Int):Giv H E 8 [.int i] (.gradient i)
 | table (l:List Int) (rl:Addr) (h:RowAt H E rl l):Giv H E 9 [.ref rl] (.table l)
 | move (i d n:Int) (h1:d.natAbs < 2 ^ 60) (h2:n.natAbs < 2 ^ 60):Giv H E 10 [.int i,.int d,.int n] (.move i d n)
 | quotient (i d n m:Int) (h1:n.natAbs < 2 ^ 60) (h2:m.natAbs < 2 ^ 60):Giv H E 11 [.int i,.int d,.int n,.int m] (.quotient i d n m)
 | series (i d n:Int) (h1:d.natAbs < 2 ^ 60) (h2:n.natAbs < 2 ^ 60):Giv H E 12 [.int i,.int d,.int n] (.series i d n)
 | hangs (i:Int):Giv H E 13 [.int i] (.hangs i)
 | cost:Giv H E 14 [] .cost
def spAns (K:PySem.W.Frag) (C CS:Addr):Sp:=fun vs H Q _=>∃ (a:Addr) (E:List Addr) (S:HS) (num:Int) (g:Addr) (gvs:List V) (kc:Vagrae.Call),vs=[.ref a,.int num,.ref g]∧H g=some (.lst gvs)∧Giv H E num gvs kc∧S.Good∧EL E H∧HolderAt K C CS (hides E H) a S ∧
 ∀ H' r,r ∉ E→KeepE E H H'→HolderAt K C CS (hides E H') a (fCall S kc).1→KeepT H H'→H' r=some (.lst ((fCall S kc).2.map V.int))→Q (.ref r) H'
structure Calls (P:Program) (w:World) (K:PySem.W.Frag) (mg:Str→Option Value) (base:Heap) (C CS:Addr):Prop where
 m_take_code:Mth P w K mg base C "take_code" ["self","inputs","numbers"] 50 (spH K C CS pIL fCode)
 m_take_point:Mth P w K mg base C "take_point" ["self","numbers"] 50 (spH K C CS pL fPoint)
 m_take_direction:Mth P w K mg base C "take_direction" ["self","numbers"] 50 (spH K C CS pL fDir)
 m_drop_directions:Mth P w K mg base C "drop_directions" ["self"] 50 (spH K C CS p0 fClear)
 m_tell_value:Mth P w K mg base C "tell_value" ["self","i"] 50 (spH K C CS pI fValue)
 m_tell_values:Mth P w K mg base C "tell_values" ["self"] 50 (spH K C CS p0 fValues)
 m_tell_change:Mth P w K mg base C "tell_change" ["self","i","d"] 50 (spH K C CS pII fChange)
 m_tell_changes:Mth P w K mg base C "tell_changes" ["self","d"] 50 (spH K C CS pI fChanges)
 m_tell_gradient:Mth P w K mg base C "tell_gradient" ["self","i"] 50 (spH K C CS pI fGradient)
 m_tell_table:Mth P w K mg base C "tell_table" ["self","places"] 50 (spH K C CS pL fTable)
 m_move:Mth P w K mg base C "move" ["self","d","n","m"] 50 (spH K C CS pIII fMove)
 m_tell_quotient:Mth P w K mg base C "tell_quotient" ["self","i","d","n","m"] 50 (spH K C CS pIIII fQuotient)
 m_tell_series:Mth P w K mg base C "tell_series" ["self","i","d","k"] 50 (spH K C CS pIII fSeries)
 m_tell_hangs:Mth P w K mg base C "tell_hangs" ["self","i"] 50 (spH K C CS pI fHangs)
 m_tell_cost:Mth P w K mg base C "tell_cost" ["self"] 50 (spH K C CS p0 fCost)
 c_CODE:Const mg "CODE" (.int 0)
 c_POINT:Const mg "POINT" (.int 1)
 c_DIRECTION:Const mg "DIRECTION" (.int 2)
 c_CLEAR:Const mg "CLEAR" (.int 3)
 c_VALUE:Const mg "VALUE" (.int 4)
 c_VALUES:Const mg "VALUES" (.int 5)
 c_CHANGE:Const mg "CHANGE" (.int 6)
 c_CHANGES:Const mg "CHANGES" (.int 7)
 c_GRADIENT:Const mg "GRADIENT" (.int 8)
 c_TABLE:Const mg "TABLE" (.int 9)
 c_MOVE:Const mg "MOVE" (.int 10)
 c_QUOTIENT_code:Const mg "QUOTIENT_code" (.int 11)
 c_SERIES:Const mg "SERIES" (.int 12)
 c_HANGS:Const mg "HANGS" (.int 13)
section
variable {P:Program} {w:World} {K:PySem.W.Frag} {mg:Str→Option Value} {base:Heap} {C CS:Addr}
theorem ok_answer (D:DefAt K mg "answer" s_answer) (T:Txt K C) (Cs:Calls P w K mg base C CS):Callee P w K mg base "answer" ["holder","number","given"] 51 (spAns K C CS):=by
 obtain ⟨m_take_code,m_take_point,m_take_direction,m_drop_directions,m_tell_value,m_tell_values,m_tell_change,m_tell_changes,m_tell_gradient,m_tell_table,m_move,m_tell_quotient,m_tell_series,m_tell_hangs,m_tell_cost,c_CODE,c_POINT,c_DIRECTION,c_CLEAR,c_VALUE,c_VALUES,c_CHANGE,c_CHANGES,c_GRADIENT,c_TABLE,c_MOVE,c_QUOTIENT_code,c_SERIES,c_HANGS⟩:=Cs
 refine mkC (k:=50) D sc_answer (fun _ _ _ _ _ _ us hl=>match us,hl with | [_,_,_],_=>rfl) (fun vs H Q E h=>?_) (fun f cdv A outer s H vs Q E hr h=>?_)
 ·obtain ⟨a,El,S,num,g,gvs,kc,rfl,_⟩:=h
  rfl
 ·obtain ⟨a,El,S,num,g,gvs,kc,rfl,hg,hG,G,hE,hB,k⟩:=h
  obtain ⟨dx,la,da,po,ra,fv,ka,kp,drs,kv1,kv2,own,B⟩:=id hB
  have hi:=B.insH
  refine ⟨_,(pss_cons (ps_if (pt_cmpR op_eq (pv 1) (pe_const c_CODE) (nomark _)) (pss_one (ps_ret (pe_methC T.cl m_take_code hr (pv 0) (pa_cons (pe_ix ix_list (pv 2) pe_int (fun _ _=>rfl)) (pa_cons (pe_ix ix_list (pv 2) pe_int (fun _ _=>rfl)) pa_nil))))) pss_nil)
   (pss_cons (ps_if (pt_cmpR op_eq (pv 1) (pe_const c_POINT) (nomark _)) (pss_one (ps_ret (pe_methC T.cl m_take_point hr (pv 0) (pa_cons (pe_ix ix_list (pv 2) pe_int (fun _ _=>rfl)) pa_nil)))) pss_nil)
   (pss_cons (ps_if (pt_cmpR op_eq (pv 1) (pe_const c_DIRECTION) (nomark _)) (pss_one (ps_ret (pe_methC T.cl m_take_direction hr (pv 0) (pa_cons (pe_ix ix_list (pv 2) pe_int (fun _ _=>rfl)) pa_nil)))) pss_nil)
   (pss_cons (ps_if (pt_cmpR op_eq (pv 1) (pe_const c_CLEAR) (nomark _)) (pss_one (ps_ret (pe_methC0 T.cl m_drop_directions hr (pv 0)))) pss_nil)
   (pss_cons (ps_if (pt_cmpR op_eq (pv 1) (pe_const c_VALUE) (nomark _)) (pss_one (ps_ret (pe_methC T.cl m_tell_value hr (pv 0) (pa_cons (pe_ix ix_list (pv 2) pe_int (fun _ _=>rfl)) pa_nil)))) pss_nil)
   (pss_cons (ps_if (pt_cmpR op_eq (pv 1) (pe_const c_VALUES) (nomark _)) (pss_one (ps_ret (pe_methC0 T.cl m_tell_values hr (pv 0)))) pss_nil)
   (pss_cons (ps_if (pt_cmpR op_eq (pv 1) (pe_const c_CHANGE) (nomark _)) (pss_one (ps_ret (pe_methC T.cl m_tell_change hr (pv 0) (pa_cons (pe_ix ix_list (pv 2) pe_int (fun _ _=>rfl)) (pa_cons (pe_ix ix_list (pv 2) pe_int (fun _ _=>rfl)) pa_nil))))) pss_nil)
   (pss_cons (ps_if (pt_cmpR op_eq (pv 1) (pe_const c_CHANGES) (nomark _)) (pss_one (ps_ret (pe_methC T.cl m_tell_changes hr (pv 0) (pa_cons (pe_ix ix_list (pv 2) pe_int (fun _ _=>rfl)) pa_nil)))) pss_nil)
   (pss_cons (ps_if (pt_cmpR op_eq (pv 1) (pe_const c_GRADIENT) (nomark _)) (pss_one (ps_ret (pe_methC T.cl m_tell_gradient hr (pv 0) (pa_cons (pe_ix ix_list (pv 2) pe_int (fun _ _=>rfl)) pa_nil)))) pss_nil)
   (pss_cons (ps_if (pt_cmpR op_eq (pv 1) (pe_const c_TABLE) (nomark _)) (pss_one (ps_ret (pe_methC T.cl m_tell_table hr (pv 0) (pa_cons (pe_ix ix_list (pv 2) pe_int (fun _ _=>rfl)) pa_nil)))) pss_nil)
   (pss_cons (ps_if (pt_cmpR op_eq (pv 1) (pe_const c_MOVE) (nomark _)) (pss_one (ps_ret (pe_methC T.cl m_move hr (pv 0) (pa_cons (pe_ix ix_list (pv 2) pe_int (fun _ _=>rfl)) (pa_cons (pe_ix ix_list (pv 2) pe_int (fun _ _=>rfl)) (pa_cons (pe_ix ix_list (pv 2) pe_int (fun _ _=>rfl)) pa_nil)))))) pss_nil)
   (pss_cons (ps_if (pt_cmpR op_eq (pv 1) (pe_const c_QUOTIENT_code) (nomark _)) (pss_one (ps_ret (pe_methC T.cl m_tell_quotient hr (pv 0) (pa_cons (pe_ix ix_list (pv 2) pe_int (fun _ _=>rfl)) (pa_cons (pe_ix ix_list (pv 2) pe_int (fun _ _=>rfl)) (pa_cons (pe_ix ix_list (pv 2) pe_int (fun _ _=>rfl)) (pa_cons (pe_ix ix_list (pv 2) pe_int (fun _ _=>rfl)) pa_nil))))))) pss_nil)
   (pss_cons (ps_if (pt_cmpR op_eq (pv 1) (pe_const c_SERIES) (nomark _)) (pss_one (ps_ret (pe_methC T.cl m_tell_series hr (pv 0) (pa_cons (pe_ix ix_list (pv 2) pe_int (fun _ _=>rfl)) (pa_cons (pe_ix ix_list (pv 2) pe_int (fun _ _=>rfl)) (pa_cons (pe_ix ix_list (pv 2) pe_int (fun _ _=>rfl)) pa_nil)))))) pss_nil)
   (pss_cons (ps_if (pt_cmpR op_eq (pv 1) (pe_const c_HANGS) (nomark _)) (pss_one (ps_ret (pe_methC T.cl m_tell_hangs hr (pv 0) (pa_cons (pe_ix ix_list (pv 2) pe_int (fun _ _=>rfl)) pa_nil)))) pss_nil)
   (pss_one (ps_ret (pe_methC0 T.cl m_tell_cost hr (pv 0)))))))))))))))))),?_⟩
  cases hG with
  | code n l rl h =>
   refine ⟨_,rfl,(by rfl),_,rfl,iteT ?_⟩
   exact ⟨_,rfl,a,dx,_,rfl,hi,rfl,_,rfl,g,_,_,_,rfl,rfl,SqL.of hg,at_0,_,rfl,g,_,_,_,rfl,rfl,SqL.of hg,at_1,a,El,S,_,(n,l),rfl,⟨rl,rfl,h⟩,G,hE,hB,k⟩
  | point l rl h =>
   refine ⟨_,rfl,(by rfl),_,rfl,iteF ?_⟩
   refine ⟨_,rfl,(by rfl),_,rfl,iteT ?_⟩
   exact ⟨_,rfl,a,dx,_,rfl,hi,rfl,_,rfl,g,_,_,_,rfl,rfl,SqL.of hg,at_0,a,El,S,_,l,rfl,⟨rl,rfl,h⟩,G,hE,hB,k⟩
  | dir l rl h =>
   iterate 2 refine ⟨_,rfl,(by rfl),_,rfl,iteF ?_⟩
   refine ⟨_,rfl,(by rfl),_,rfl,iteT ?_⟩
   exact ⟨_,rfl,a,dx,_,rfl,hi,rfl,_,rfl,g,_,_,_,rfl,rfl,SqL.of hg,at_0,a,El,S,_,l,rfl,⟨rl,rfl,h⟩,G,hE,hB,k⟩
  | clear  =>
   iterate 3 refine ⟨_,rfl,(by rfl),_,rfl,iteF ?_⟩
   refine ⟨_,rfl,(by rfl),_,rfl,iteT ?_⟩
   exact ⟨_,rfl,a,dx,_,rfl,hi,rfl,a,El,S,_,(),rfl,rfl,G,hE,hB,k⟩
  | value i =>
   iterate 4 refine ⟨_,rfl,(by rfl),_,rfl,iteF ?_⟩
   refine ⟨_,rfl,(by rfl),_,rfl,iteT ?_⟩
   exact ⟨_,rfl,a,dx,_,rfl,hi,rfl,_,rfl,g,_,_,_,rfl,rfl,SqL.of hg,at_0,a,El,S,_,i,rfl,rfl,G,hE,hB,k⟩
  | values  =>
   iterate 5 refine ⟨_,rfl,(by rfl),_,rfl,iteF ?_⟩
   refine ⟨_,rfl,(by rfl),_,rfl,iteT ?_⟩
   exact ⟨_,rfl,a,dx,_,rfl,hi,rfl,a,El,S,_,(),rfl,rfl,G,hE,hB,k⟩
  | change i d =>
   iterate 6 refine ⟨_,rfl,(by rfl),_,rfl,iteF ?_⟩
   refine ⟨_,rfl,(by rfl),_,rfl,iteT ?_⟩
   exact ⟨_,rfl,a,dx,_,rfl,hi,rfl,_,rfl,g,_,_,_,rfl,rfl,SqL.of hg,at_0,_,rfl,g,_,_,_,rfl,rfl,SqL.of hg,at_1,a,El,S,_,(i,d),rfl,rfl,G,hE,hB,k⟩
  | changes i =>
   iterate 7 refine ⟨_,rfl,(by rfl),_,rfl,iteF ?_⟩
   refine ⟨_,rfl,(by rfl),_,rfl,iteT ?_⟩
   exact ⟨_,rfl,a,dx,_,rfl,hi,rfl,_,rfl,g,_,_,_,rfl,rfl,SqL.of hg,at_0,a,El,S,_,i,rfl,rfl,G,hE,hB,k⟩
  | gradient i =>
   iterate 8 refine ⟨_,rfl,(by rfl),_,rfl,iteF ?_⟩
   refine ⟨_,rfl,(by rfl),_,rfl,iteT ?_⟩
   exact ⟨_,rfl,a,dx,_,rfl,hi,rfl,_,rfl,g,_,_,_,rfl,rfl,SqL.of hg,at_0,a,El,S,_,i,rfl,rfl,G,hE,hB,k⟩
  | table l rl h =>
   iterate 9 refine ⟨_,rfl,(by rfl),_,rfl,iteF ?_⟩
   refine ⟨_,rfl,(by rfl),_,rfl,iteT ?_⟩
   exact ⟨_,rfl,a,dx,_,rfl,hi,rfl,_,rfl,g,_,_,_,rfl,rfl,SqL.of hg,at_0,a,El,S,_,l,rfl,⟨rl,rfl,h⟩,G,hE,hB,k⟩
  | move i d n h1 h2 =>
   iterate 10 refine ⟨_,rfl,(by rfl),_,rfl,iteF ?_⟩
   refine ⟨_,rfl,(by rfl),_,rfl,iteT ?_⟩
   exact ⟨_,rfl,a,dx,_,rfl,hi,rfl,_,rfl,g,_,_,_,rfl,rfl,SqL.of hg,at_0,_,rfl,g,_,_,_,rfl,rfl,SqL.of hg,at_1,_,rfl,g,_,_,_,rfl,rfl,SqL.of hg,at_2,a,El,S,_,(i,d,n),rfl,⟨rfl,h1,h2⟩,G,hE,hB,k⟩
  | quotient i d n m h1 h2 =>
   iterate 11 refine ⟨_,rfl,(by rfl),_,rfl,iteF ?_⟩
   refine ⟨_,rfl,(by rfl),_,rfl,iteT ?_⟩
   exact ⟨_,rfl,a,dx,_,rfl,hi,rfl,_,rfl,g,_,_,_,rfl,rfl,SqL.of hg,at_0,_,rfl,g,_,_,_,rfl,rfl,SqL.of hg,at_1,_,rfl,g,_,_,_,rfl,rfl,SqL.of hg,at_2,_,rfl,g,_,_,_,rfl,rfl,SqL.of hg,at_3,a,El,S,_,(i,d,n,m),rfl,⟨rfl,h1,h2⟩,G,hE,hB,k⟩
  | series i d n h1 h2 =>
   iterate 12 refine ⟨_,rfl,(by rfl),_,rfl,iteF ?_⟩
   refine ⟨_,rfl,(by rfl),_,rfl,iteT ?_⟩
   exact ⟨_,rfl,a,dx,_,rfl,hi,rfl,_,rfl,g,_,_,_,rfl,rfl,SqL.of hg,at_0,_,rfl,g,_,_,_,rfl,rfl,SqL.of hg,at_1,_,rfl,g,_,_,_,rfl,rfl,SqL.of hg,at_2,a,El,S,_,(i,d,n),rfl,⟨rfl,h1,h2⟩,G,hE,hB,k⟩
  | hangs i =>
   iterate 13 refine ⟨_,rfl,(by rfl),_,rfl,iteF ?_⟩
   refine ⟨_,rfl,(by rfl),_,rfl,iteT ?_⟩
   exact ⟨_,rfl,a,dx,_,rfl,hi,rfl,_,rfl,g,_,_,_,rfl,rfl,SqL.of hg,at_0,a,El,S,_,i,rfl,rfl,G,hE,hB,k⟩
  | cost  =>
   iterate 14 refine ⟨_,rfl,(by rfl),_,rfl,iteF ?_⟩
   exact ⟨_,rfl,a,dx,_,rfl,hi,rfl,a,El,S,_,(),rfl,rfl,G,hE,hB,k⟩
end
end Lc
end
section
namespace Lc
open PySem PySem.Spec PyProof.Rows L2
open VagraLine (Fault)
theorem w60 {z:Int} (h:VagraeNeutral.whole60 z=true):z.natAbs < 2 ^ 60:=by
 unfold VagraeNeutral.whole60 at h
 obtain ⟨h1,h2⟩:=Bool.and_eq_true_iff.mp h
 have h1:=of_decide_eq_true h1
 have h2:=of_decide_eq_true h2
 have e:(10:Int) ^ 18=1000000000000000000:=by decide
 rw [e] at h1 h2
 show z.natAbs < 1152921504606846976
 omega
theorem small_all {l:List Int} {n:Nat} (h:(l.all (fun (z:Int)=>VagraeNeutral.whole60 z) && decide (l.length≤n))=true):smallL l:=fun z hz=>w60 (List.all_eq_true.mp (Bool.and_eq_true_iff.mp h).1 z hz)
theorem row_in {H:Hp} {E:List Addr} {rl:Addr} {l:List Int} {n:Nat} (h:(l.all (fun (z:Int)=>VagraeNeutral.whole60 z) && decide (l.length≤n))=true) (hn:n≤20000) (h1:H rl=some (.lst (l.map V.int))) (h2:rl∈E):RowAt H E rl l :=
 ⟨h1,h2,by have:=of_decide_eq_true (Bool.and_eq_true_iff.mp h).2;omega,small_all h⟩
theorem giv_all {c:List (List Int)} (h:VagraeNeutral.asked1 c=true):∃ kc,VagraeNeutral.callOf c=some kc∧SmallC kc∧(∀ p nums,c=[p::nums]→∀ H E,Giv H E p (nums.map V.int) kc) ∧
  ∀ p nums x,c=[p::nums,x]→∀ (H:Hp) (E:List Addr) (rl:Addr),H rl=some (.lst (x.map V.int))→rl∈E→Giv H E p (nums.map V.int++[.ref rl]) kc:=by
 rcases shp c with g | g
 rotate_left
 ·cases g.1.symm.trans h
 cases g
 ·refine ⟨_,rfl,trivial,fun p nums e H E=>?_,fun p nums x e H E rl h1 h2=>?_⟩
  ·cases e
  ·cases e
   exact .code _ _ _ (row_in (Bool.and_eq_true_iff.mp h).2 (by decide) h1 h2)
 ·refine ⟨_,rfl,small_all h,fun p nums e H E=>?_,fun p nums x e H E rl h1 h2=>?_⟩
  ·cases e
  ·cases e
   exact .point _ _ (row_in h (by decide) h1 h2)
 ·refine ⟨_,rfl,small_all h,fun p nums e H E=>?_,fun p nums x e H E rl h1 h2=>?_⟩
  ·cases e
  ·cases e
   exact .dir _ _ (row_in h (by decide) h1 h2)
 ·refine ⟨_,rfl,trivial,fun p nums e H E=>?_,fun p nums x e H E rl h1 h2=>?_⟩
  ·cases e
   exact .clear
  ·cases e
 ·refine ⟨_,rfl,trivial,fun p nums e H E=>?_,fun p nums x e H E rl h1 h2=>?_⟩
  ·cases e
   exact .value _
  ·cases e
 ·refine ⟨_,rfl,trivial,fun p nums e H E=>?_,fun p nums x e H E rl h1 h2=>?_⟩
  ·cases e
   exact .values
  ·cases e
 ·refine ⟨_,rfl,trivial,fun p nums e H E=>?_,fun p nums x e H E rl h1 h2=>?_⟩
  ·cases e
   exact .change _ _
  ·cases e
 ·refine ⟨_,rfl,trivial,fun p nums e H E=>?_,fun p nums x e H E rl h1 h2=>?_⟩
  ·cases e
   exact .changes _
  ·cases e
 ·refine ⟨_,rfl,trivial,fun p nums e H E=>?_,fun p nums x e H E rl h1 h2=>?_⟩
  ·cases e
   exact .gradient _
  ·cases e
 ·refine ⟨_,rfl,trivial,fun p nums e H E=>?_,fun p nums x e H E rl h1 h2=>?_⟩
  ·cases e
  ·cases e
   exact .table _ _ (row_in h (by decide) h1 h2)
 ·refine ⟨_,rfl,trivial,fun p nums e H E=>?_,fun p nums x e H E rl h1 h2=>?_⟩
  ·cases e
   exact .move _ _ _ (w60 (Bool.and_eq_true_iff.mp (Bool.and_eq_true_iff.mp h).2).1) (w60 (Bool.and_eq_true_iff.mp (Bool.and_eq_true_iff.mp h).2).2)
  ·cases e
 ·refine ⟨_,rfl,trivial,fun p nums e H E=>?_,fun p nums x e H E rl h1 h2=>?_⟩
  ·cases e
   exact .quotient _ _ _ _ (w60 (Bool.and_eq_true_iff.mp (Bool.and_eq_true_iff.mp (Bool.and_eq_true_iff.mp h).2).2).1) (w60 (Bool.and_eq_true_iff.mp (Bool.and_eq_true_iff.mp (Bool.and_eq_true_iff.mp h).2).2).2)
  ·cases e
 ·refine ⟨_,rfl,trivial,fun p nums e H E=>?_,fun p nums x e H E rl h1 h2=>?_⟩
  ·cases e
   exact .series _ _ _ (w60 (Bool.and_eq_true_iff.mp (Bool.and_eq_true_iff.mp h).2).1) (w60 (Bool.and_eq_true_iff.mp (Bool.and_eq_true_iff.mp h).2).2)
  ·cases e
 ·refine ⟨_,rfl,trivial,fun p nums e H E=>?_,fun p nums x e H E rl h1 h2=>?_⟩
  ·cases e
   exact .hangs _
  ·cases e
 ·refine ⟨_,rfl,trivial,fun p nums e H E=>?_,fun p nums x e H E rl h1 h2=>?_⟩
  ·cases e
   exact .cost
  ·cases e
theorem told_le {qs:List Rat} (h:qs.length≤200):(toldQ qs).length≤500:=by
 unfold toldQ
 split
 ·exact (by decide:1≤500)
 ·rw [List.length_cons,show (qs.flatMap fun q=>[q.num,(q.den:Int)]).length=2*qs.length from pairs_length qs]
  omega
theorem need_le {S:HS} {l:List Int} (h:l.length≤500):(fNeed S l).length≤500:=by
 unfold fNeed
 split
 ·exact (by decide:1≤500)
 ·exact h
theorem one_le (n:Int):[n].length≤500:=(by decide:1≤500)
theorem ran_le (S:HS) (ps:List Rat):(ranQ S ps).length≤500:=by
 unfold ranQ
 split
 ·exact (by decide:1≤500)
 ·exact (by decide:3≤500)
theorem runQ_le (inputs:List Rat):∀ (c:VagraLine.Code) (vs:List Rat),(runQ inputs vs c).1.length≤vs.length+c.length
 | [],vs=>Nat.le_refl _
 | l::r,vs=>by
  unfold runQ
  cases e:valueQ inputs vs l with
  | none=>exact Nat.le_add_right _ _
  | some a =>
   show (if 200 < wt a then (vs,some (⟨vs.length,2⟩:Fault)) else runQ inputs (vs++[a]) r).1.length≤_
   by_cases hw:200 < wt a
   ·rw [if_pos hw];exact Nat.le_add_right _ _
   ·rw [if_neg hw]
    have:=runQ_le inputs r (vs++[a])
    rw [List.length_append,List.length_cons,List.length_nil] at this
    rw [List.length_cons]
    omega
theorem res_le {S:HS} (G:S.Good):S.res.length≤80:=by
 unfold HS.res
 split
 ·exact Nat.zero_le _
 ·rename_i p _
  have:=runQ_le p S.code []
  rw [List.length_map,List.length_nil] at this
  have:=G.c80
  omega
theorem grad_len (S:HS) (i:Nat):(S.grad i).length=S.n:=by
 unfold HS.grad
 rw [List.length_map,List.length_range]
theorem ans_len {S:HS} (G:S.Good) (k:Vagrae.Call):(fCall S k).2.length≤500:=by
 have h12:=G.n12
 have h80:=G.c80
 cases k with
 | code n l =>
  show (fCode S (n,l)).2.length≤500
  unfold fCode
  split
  ·exact one_le _
  ·split
   ·exact one_le _
   ·split
    ·exact one_le _
    ·split
     ·exact one_le _
     ·exact one_le _
 | point l =>
  show (fPoint S l).2.length≤500
  unfold fPoint
  split
  ·exact one_le _
  ·exact ran_le _ _
 | dir l =>
  show (fDir S l).2.length≤500
  unfold fDir
  split
  ·exact one_le _
  ·split
   ·exact one_le _
   ·exact one_le _
 | clear=>exact one_le _
 | value i =>
  show (fValue S i).2.length≤500
  unfold fValue
  dsimp only
  split
  ·exact need_le (told_le (by show 1≤200;decide))
  ·exact one_le _
 | values=>exact need_le (told_le (by have:=res_le G;omega))
 | change i d =>
  show (fChange S (i,d)).2.length≤500
  unfold fChange
  dsimp only
  split
  ·split
   ·exact need_le (told_le (by show 1≤200;decide))
   ·exact one_le _
  ·exact one_le _
 | changes d =>
  show (fChanges S d).2.length≤500
  unfold fChanges
  dsimp only
  split
  ·exact need_le (told_le (by rw [HS.alongL];omega))
  ·exact one_le _
 | gradient i =>
  show (fGradient S i).2.length≤500
  unfold fGradient
  dsimp only
  split
  ·exact need_le (told_le (by rw [grad_len];omega))
  ·exact one_le _
 | table l =>
  show (fTable S l).2.length≤500
  unfold fTable
  dsimp only
  split
  ·rename_i h
   refine need_le (told_le ?_)
   rw [List.length_flatMap]
   have:l.map (fun i=>(S.grad i.toNat).length)=l.map fun _=>S.n:=List.map_congr_left fun i _=>grad_len S _
   rw [this,List.map_const',List.sum_replicate_nat]
   have:l.length*S.n≤12*12:=Nat.mul_le_mul h.2 h12
   omega
  ·exact one_le _
 | move d n m =>
  show (fMove S (d,n,m)).2.length≤500
  unfold fMove
  dsimp only
  split
  ·split
   ·exact one_le _
   ·split
    ·exact one_le _
    ·split
     ·exact one_le _
     ·exact ran_le _ _
  ·exact one_le _
 | quotient i d n m =>
  show (fQuotient S (i,d,n,m)).2.length≤500
  unfold fQuotient
  dsimp only
  split
  ·split
   ·split
    ·exact one_le _
    ·refine need_le ?_
     split
     ·exact one_le _
     ·split
      ·exact one_le _
      ·exact told_le (by show 2≤200;decide)
   ·exact one_le _
  ·exact one_le _
 | series i d k =>
  show (fSeries S (i,d,k)).2.length≤500
  unfold fSeries
  dsimp only
  split
  ·split
   ·split
    ·rename_i h
     refine need_le ?_
     split
     ·exact one_le _
     ·refine told_le ?_
      rw [ser_take (by omega),List.length_take]
      omega
    ·exact one_le _
   ·exact one_le _
  ·exact one_le _
 | hangs i =>
  show (fHangs S i).2.length≤500
  unfold fHangs
  dsimp only
  split
  ·rw [List.length_cons,List.length_map]
   have:(S.hangs i.toNat).length≤S.n:=by
    unfold HS.hangs
    refine Nat.le_trans (List.length_filter_le _ _) ?_
    rw [List.length_range]
    exact Nat.le_refl _
   omega
  ·exact one_le _
 | cost=>exact (by decide:3≤500)
end Lc
end
section
namespace Lc
open PySem PySem.Spec PyProof.Rows L2
open VagraLine (Fault)
theorem hides_all {E E0:List Addr} {H:Hp} (h:∀ e∈E,H e=none):hides (E++E0) H=hides E0 H:=by
 funext b
 by_cases q:b∈E0
 ·unfold hides
  rw [if_pos q,if_pos (List.mem_append_right _ q)]
 ·rw [hides_ne q]
  by_cases q2:b∈E
  ·unfold hides
   rw [if_pos (List.mem_append_left _ q2),h b q2]
  ·exact hides_ne fun z=>by
    rcases List.mem_append.mp z with z | z
    ·exact q2 z
    ·exact q z
theorem HolderAt.unhideAll {K:PySem.W.Frag} {C CS:Addr} {E E0:List Addr} {H:Hp} {a:Addr} {S:HS} (h:HolderAt K C CS (hides (E++E0) H) a S):HolderAt K C CS (hides E0 H) a S:=by
 obtain ⟨dx,la,da,po,ra,fv,ka,kp,drs,kv1,kv2,own,B⟩:=h
 refine ⟨dx,la,da,po,ra,fv,ka,kp,drs,kv1,kv2,own,B.mono0 fun b o e=>?_⟩
 obtain ⟨e1,e2⟩:=hides_some e
 rw [hides_ne (fun q=>e2 (List.mem_append_right _ q))]
 exact e1
theorem SqL.only {K:PySem.W.Frag} {H H':Hp} {a:Addr} {xs:List V} (ho:OnlyF H) (kt:KeepT H H') (h:SqL K H a xs):SqL K H' a xs:=by
 rcases h with (h | ⟨o,h⟩) | h
 ·rcases ho a with q | ⟨o,u,q⟩
  ·rw [h] at q;cases q
  ·rw [h] at q;cases q
 ·exact .inl (.inr ⟨o,kt _ _ rfl h⟩)
 ·exact .inr h
theorem call_use {K:PySem.W.Frag} {Q:VK} {H:Hp} {l:List Int} {pl:Nat} {p:Int} {r:List Int} {nn kk:Nat} {c:List (List Int)} {t:List Int} (hd:l.drop pl=p::r) (hnn:nn≤r.length)
  (c0:kk=0→c=[p::r.take nn]∧t=r.drop nn) (c1:kk=1→∃ (m:Nat) (rest:List Int),r.drop nn=(m:Int)::rest∧m≤rest.length∧c=[p::r.take nn,rest.take m]∧t=rest.drop m) (ha:VagraeNeutral.asked1 c=true)
  (go:∀ (H':Hp) (ta g:Addr) (E:List Addr) (gvs:List V) (kc:Vagrae.Call) (en:Nat),Same H H'→(∀ e∈E,H e=none)→EL E H'→VagraeNeutral.callOf c=some kc→SmallC kc→H' g=some (.lst gvs)→(∀ E0,Giv H' (E++E0) p gvs kc)→SqT K H' ta [.ref g,.int en]→l.drop en=t→pl < en→en≤l.length→Q (.ref ta) H') :
  (kk=0→∀ H' t g,Same H H'→H g=none→SqT K H' t [.ref g,.int (pl+1+nn:Nat)]→H' g=some (.lst ((r.take nn).map V.int))→Q (.ref t) H') ∧
  (kk=1→∃ (m:Nat) (rest:List Int),r.drop nn=(m:Int)::rest∧m≤rest.length∧∀ H' t g rl,Same H H'→H g=none→H rl=none→rl≠g→SqT K H' t [.ref g,.int (pl+1+nn+1+m:Nat)]→H' g=some (.lst ((r.take nn).map V.int++[.ref rl]))→H' rl=some (.lst ((rest.take m).map V.int))→Q (.ref t) H'):=by
 obtain ⟨kc,hkc,hsm,g0,g1⟩:=giv_all ha
 have hll:=congrArg List.length hd
 rw [List.length_drop,List.length_cons] at hll
 have hr:l.drop (pl+1)=r:=by
  have:=congrArg (List.drop 1) hd
  rw [List.drop_drop] at this
  simpa using this
 refine ⟨fun hk H' ta g s hg ht hg'=>?_,fun hk=>?_⟩
 ·obtain ⟨e1,e2⟩:=c0 hk
  refine go H' ta g [] _ kc _ s (fun e he=>nomatch he) (fun e he=>nomatch he) hkc hsm hg' (fun E0=>g0 _ _ e1 _ _) ht ?_ (by omega) (by omega)
  rw [e2,← hr,List.drop_drop]
 ·obtain ⟨m,rest,q1,q2,q3,q4⟩:=c1 hk
  have hrl:=congrArg List.length q1
  rw [List.length_drop,List.length_cons] at hrl
  have hrest:l.drop (pl+1+nn+1)=rest:=by
   have:=congrArg (List.drop 1) q1
   rw [← hr,List.drop_drop,List.drop_drop] at this
   simpa [Nat.add_assoc] using this
  refine ⟨m,rest,q1,q2,fun H' ta g rl s hg hrl0 _ ht hg' hrl'=>?_⟩
  refine go H' ta g [rl] _ kc _ s (fun e he=>?_) (fun e he=>?_) hkc hsm hg' (fun E0=>g1 _ _ _ q3 _ _ _ hrl' (List.mem_cons_self ..)) ht ?_ (by omega) (by omega)
  ·rw [List.mem_singleton.mp he];exact hrl0
  ·rw [List.mem_singleton.mp he];exact ⟨_,hrl'⟩
  ·rw [q4,← hrest,List.drop_drop]
theorem call_sp {K:PySem.W.Frag} {Q:VK} {H:Hp} {ca:Addr} {l:List Int} {pl:Nat} {p:Int} {r:List Int} {nn kk:Nat} {c:List (List Int)} {t:List Int} (hS:SqL K H ca (l.map V.int)) (hsh:PyVagrae.shape p=some (nn,kk)) (hd:l.drop pl=p::r) (hnn:nn≤r.length)
  (c0:kk=0→c=[p::r.take nn]∧t=r.drop nn) (c1:kk=1→∃ (m:Nat) (rest:List Int),r.drop nn=(m:Int)::rest∧m≤rest.length∧c=[p::r.take nn,rest.take m]∧t=rest.drop m) (ha:VagraeNeutral.asked1 c=true)
  (go:∀ (H':Hp) (ta g:Addr) (E:List Addr) (gvs:List V) (kc:Vagrae.Call) (en:Nat),Same H H'→(∀ e∈E,H e=none)→EL E H'→VagraeNeutral.callOf c=some kc→SmallC kc→H' g=some (.lst gvs)→(∀ E0,Giv H' (E++E0) p gvs kc)→SqT K H' ta [.ref g,.int en]→l.drop en=t→pl < en→en≤l.length→Q (.ref ta) H') (Ex:XK):spCallAt K ([.ref ca,.int pl]++[]) H Q Ex:=by
 unfold spCallAt
 exact ⟨ca,l,pl,p,r,nn,kk,rfl,hS,hd,hsh,hnn,call_use hd hnn c0 c1 ha go⟩
section
variable {P:Program} {w:World} {K:PySem.W.Frag} {mg:Str→Option Value} {base:Heap} {C CS:Addr}
def spTop (K:PySem.W.Frag):Sp:=fun vs H Q _=>∃ (ca:Addr) (l:List Int),vs=[.ref ca]∧OnlyF H∧SqL K H ca (l.map V.int)∧PyVagrae.answers_asked l=true∧∀ H' r,H' r=some (.lst ((PyVagrae.answers l).map V.int))→Q (.ref r) H'
theorem ok_answers {fa:Addr} {fd:FuncData} (F:Fun K "answers" "answers" s_answers fa fd) (T:Txt K C) (n_len:mg "len"=none) (M_Holder:Mkr P w K mg base C "Holder" ["self"] 43 (spInit K C CS)) (C_read_call:Callee P w K mg base "read_call" ["calls","place"] 41 (spCallAt K)) (C_answer:Callee P w K mg base "answer" ["holder","number","given"] 51 (spAns K C CS)) :
  FnOk P w K mg base CX0 52 fa fd ["calls"] (spTop K):=by
 refine F.ok (k:=51) sc_answers (fun vs H Q E h=>?_) (fun cdv A outer s H vs Q E hr h=>?_)
 ·obtain ⟨ca,l,rfl,_⟩:=h
  rfl
 ·obtain ⟨ca,l,rfl,ho,hS,hask,k⟩:=h
  refine ⟨_,(pss_cons (ps_set (i:=1) sc_answers.nd rfl (by first|exact .inl rfl|exact .inr rfl) (pe_makeC0 M_Holder hr))
   (pss_cons (ps_set (i:=2) sc_answers.nd rfl (by first|exact .inl rfl|exact .inr rfl) (pe_lst pa_nil))
   (pss_cons (ps_set (i:=3) sc_answers.nd rfl (by first|exact .inl rfl|exact .inr rfl) pe_int)
   (pss_cons (ps_while PassesOwn.never (pt_cmpR op_lt (pv 3) (pe_callB call_len_seq (by rfl) n_len bt_len (pa_cons (pv 0) pa_nil)) (nomark _)) (pss_cons (ps_set (i:=4) sc_answers.nd rfl (by first|exact .inl rfl|exact .inr rfl) (pe_callC C_read_call hr (pa_cons (pv 0) (pa_cons (pv 3) pa_nil))))
   (pss_cons (ps_set (i:=5) sc_answers.nd rfl (by first|exact .inl rfl|exact .inr rfl) (pe_callC C_answer hr (pa_cons (pv 1) (pa_cons (pe_ix ix_list (pv 0) (pv 3) (fun _ _=>rfl)) (pa_cons (pe_ix ix_tup (pv 4) pe_int (fun _ _=>rfl)) pa_nil)))))
   (pss_cons (ps_expr (pe_bm PySem.F.plainAttrs_list PySem.F.slot_list_append PySem.F.type_list_append mt_append (pv 2) (pa_cons (pe_callB call_len_seq (by rfl) n_len bt_len (pa_cons (pv 5) pa_nil)) pa_nil)))
   (pss_cons (ps_expr (pe_bm PySem.F.plainAttrs_list PySem.F.slot_list_extend PySem.F.type_list_extend mt_extend (pv 2) (pa_cons (pv 5) pa_nil)))
   (pss_one (ps_set (i:=3) sc_answers.nd rfl (by first|exact .inl rfl|exact .inr rfl) (pe_ix ix_tup (pv 4) pe_int (fun _ _=>rfl)))))))))
   (pss_one (ps_ret (pv 2))))))),?_⟩
  obtain ⟨cs,hcs,hall,h400⟩:∃ cs,PyFlat.calls PyVagrae.shape l.length l=some cs∧cs.all VagraeNeutral.asked1=true∧cs.length≤400:=by
   unfold PyVagrae.answers_asked at hask
   rw [calls_eq] at hask
   cases e:PyFlat.calls PyVagrae.shape l.length l with
   | none=>rw [e] at hask;cases hask
   | some cs =>
    rw [e] at hask
    have h2:=(Bool.and_eq_true_iff.mp hask).2
    unfold VagraeNeutral.asked at h2
    obtain ⟨h3,h4⟩:=Bool.and_eq_true_iff.mp h2
    exact ⟨cs,rfl,h3,of_decide_eq_true (Bool.and_eq_true_iff.mp h4).2⟩
  have hans:PyVagrae.answers l=PyFlat.told (PyFlat.played VagraeNeutral.step emptyS.spec cs):=by
   unfold PyVagrae.answers
   rw [calls_eq,hcs]
   rfl
  intro a dx na ndx nex
  have sx1:Same H (upd (upd H dx (.own a)) a (.ins C dx [])):=fun b o eb=>by rw [upd_ne (ne_of_none eb na),upd_ne (ne_of_none eb ndx)];exact eb
  have ha1:upd (upd H dx (.own a)) a (.ins C dx []) a=some (.ins C dx []):=upd_same
  generalize upd (upd H dx (.own a)) a (.ins C dx [])=H1 at sx1 ha1 ⊢
  refine ⟨a,dx,rfl,ha1,fun H2 hB2 k2=>?_⟩
  have kt2:KeepT H H2:=fun b o lt e=>k2 b o (sx1 b o e) (fun q=>by rw [q,na] at e;cases e)
  refine ⟨rfl,Nat.zero_le _,fun ev hev=>?_⟩
  have s3:=same_upd (o:=.lst []) hev
  have he3:upd H2 ev (.lst []) ev=some (.lst []):=upd_same
  have hB3:HolderAt K C CS (hides [ev] (upd H2 ev (.lst []))) a emptyS:=by
   rw [hides_upd (List.mem_cons_self ..)]
   refine HolderAt.hideMore ?_ hev
   rw [show hides [] H2=H2 from funext fun b=>hides_ne (List.not_mem_nil)]
   exact hB2
  generalize upd H2 ev (.lst [])=H3 at s3 he3 hB3 ⊢
  refine ⟨fun m σ H4=>∃ (pl:Nat) (S:HS) (acc:List Int) (fu:Nat) (cs:List (List (List Int))) (u v:Option V),m=l.length - pl∧σ=[some (.ref ca),some (.ref a),some (.ref ev),some (.int pl),u,v]∧pl≤l.length∧KeepT H H4∧S.Good∧HolderAt K C CS (hides [ev] H4) a S ∧
   H4 ev=some (.lst (acc.map V.int))∧PyFlat.calls PyVagrae.shape fu (l.drop pl)=some cs∧cs.all VagraeNeutral.asked1=true∧acc.length+600*cs.length≤240000∧PyVagrae.answers l=acc++PyFlat.told (PyFlat.played VagraeNeutral.step S.spec cs),
   ⟨_,0,emptyS,[],_,cs,none,none,rfl,rfl,Nat.zero_le _,kt2.trans (KeepT.of s3),good_empty,hB3,he3,hcs,hall,by rw [List.length_nil];omega,hans⟩,?_⟩
  rintro m σ H4 ⟨pl,S,acc,fu,cs,u,v,rfl,rfl,hpl,kt4,G,hB4,he4,hcs,hall,hlen,hans⟩
  have hS4:=SqL.only ho kt4 hS
  refine ⟨_,rfl,_,rfl,ca,_,rfl,.inl hS4,_,_,rfl,rfl,_,rfl,?_⟩
  rw [List.length_map]
  by_cases hlt:pl < l.length
  ·rw [decide_eq_true (show (pl:Int) < (l.length:Int) by omega)]
   refine iteT ⟨fun σ' H'=>∃ m',m' < l.length - pl∧∃ (pl:Nat) (S:HS) (acc:List Int) (fu:Nat) (cs:List (List (List Int))) (u v:Option V),m'=l.length - pl∧σ'=[some (.ref ca),some (.ref a),some (.ref ev),some (.int pl),u,v]∧pl≤l.length∧KeepT H H'∧S.Good∧HolderAt K C CS (hides [ev] H') a S ∧
    H' ev=some (.lst (acc.map V.int))∧PyFlat.calls PyVagrae.shape fu (l.drop pl)=some cs∧cs.all VagraeNeutral.asked1=true∧acc.length+600*cs.length≤240000∧PyVagrae.answers l=acc++PyFlat.told (PyFlat.played VagraeNeutral.step S.spec cs),fun σ' H' h=>h,?_⟩
   obtain ⟨p,hp⟩:∃ p,l[pl]?=some p:=⟨_,List.getElem?_eq_getElem hlt⟩
   have hd:l.drop pl=p::l.drop (pl+1):=by
    rw [List.drop_eq_getElem_cons hlt]
    congr 1
    exact Option.some.inj ((List.getElem?_eq_getElem hlt).symm.trans hp)
   rw [hd] at hcs
   obtain ⟨nn,kk,fg,c,t,cs',hsh,hnn,rfl,rfl,hcs',c0,c1⟩:=next_call hcs
   rw [List.all_cons] at hall
   obtain ⟨hac,hall'⟩:=Bool.and_eq_true_iff.mp hall
   refine ⟨_,rfl,_,rfl,?_⟩
   show spCallAt K ([.ref ca,.int (pl:Int)]++[]) H4 _ E0
   refine call_sp hS4 hsh hd hnn c0 c1 hac (fun H5 ta g E gvs kc en s5 hf hEL hkc hsm hg hG ht hden hen1 hen2=>?_) E0
   have hS5:=s5.seq hS4
   have hE5:EL (E++[ev]) H5:=fun e he=>by
    rcases List.mem_append.mp he with he | he
    ·exact hEL e he
    ·rw [List.mem_singleton.mp he];exact ⟨_,s5 ev _ he4⟩
   have hB5:HolderAt K C CS (hides (E++[ev]) H5) a S:=by
    refine HolderAt.mono (H:=H4) ?_ s5
    rw [hides_all hf]
    exact hB4
   refine ⟨_,rfl,?_⟩
   refine ⟨_,rfl,_,rfl,ca,_,_,_,rfl,rfl,hS5,atI_nat (j:=pl) (v:=V.int p) (by rw [List.getElem?_map,hp];rfl),?_⟩
   refine ⟨_,rfl,ta,_,_,_,rfl,rfl,ht,at_0,a,E++[ev],S,p,g,gvs,kc,rfl,hg,hG _,G,hE5,hB5,fun H6 r hr kE6 hB6 kT6 hr6=>?_⟩
   have he6:=kE6 ev (List.mem_append_right _ (List.mem_singleton.mpr rfl)) _ (s5 ev _ he4)
   have nrev:r≠ev:=fun q=>hr (by rw [q];exact List.mem_append_right _ (List.mem_singleton.mpr rfl))
   have hB6':=hB6.unhideAll
   have hal:=ans_len G kc
   have hcl:(c::cs').length=cs'.length+1:=rfl
   rw [hcl] at hlen
   refine ⟨_,rfl,.inl ⟨rfl,_,SqL.of he6⟩,_,rfl,r,_,rfl,.inl (SqL.of hr6),ev,_,_,rfl,rfl,he6,(by rw [List.length_map,sizeLine_eq];omega),?_⟩
   rw [List.length_map]
   have hm7:acc.map V.int++[V.int (((fCall S kc).2.length:Nat):Int)]=(acc++[(((fCall S kc).2.length:Nat):Int)]).map V.int:=by rw [List.map_append];rfl
   rw [hm7]
   have he7:upd H6 ev (.lst ((acc++[(((fCall S kc).2.length:Nat):Int)]).map V.int)) ev=some (.lst ((acc++[(((fCall S kc).2.length:Nat):Int)]).map V.int)):=upd_same
   have hr7:upd H6 ev (.lst ((acc++[(((fCall S kc).2.length:Nat):Int)]).map V.int)) r=some (.lst ((fCall S kc).2.map V.int)):=by rw [upd_ne nrev];exact hr6
   have hB7:HolderAt K C CS (hides [ev] (upd H6 ev (.lst ((acc++[(((fCall S kc).2.length:Nat):Int)]).map V.int)))) a (fCall S kc).1:=by rw [hides_upd (List.mem_cons_self ..)];exact hB6'
   have kt7:KeepT H6 (upd H6 ev (.lst ((acc++[(((fCall S kc).2.length:Nat):Int)]).map V.int))):=keepT_put fun u e=>by rw [he6] at e;cases e;rfl
   generalize upd H6 ev (.lst ((acc++[(((fCall S kc).2.length:Nat):Int)]).map V.int))=H7 at he7 hr7 hB7 kt7 ⊢
   refine ⟨_,rfl,.inl ⟨rfl,_,SqL.of he7⟩,_,rfl,ev,r,_,_,rfl,rfl,he7,hr7,(by rw [List.length_map,List.length_map,List.length_append,List.length_cons,List.length_nil,sizeLine_eq];omega),?_⟩
   have hm8:(acc++[(((fCall S kc).2.length:Nat):Int)]).map V.int++(fCall S kc).2.map V.int=(acc++[(((fCall S kc).2.length:Nat):Int)]++(fCall S kc).2).map V.int:=(List.map_append ..).symm
   rw [hm8]
   have he8:upd H7 ev (.lst ((acc++[(((fCall S kc).2.length:Nat):Int)]++(fCall S kc).2).map V.int)) ev=some (.lst ((acc++[(((fCall S kc).2.length:Nat):Int)]++(fCall S kc).2).map V.int)):=upd_same
   have hB8:HolderAt K C CS (hides [ev] (upd H7 ev (.lst ((acc++[(((fCall S kc).2.length:Nat):Int)]++(fCall S kc).2).map V.int)))) a (fCall S kc).1:=by rw [hides_upd (List.mem_cons_self ..)];exact hB7
   have kt8:KeepT H7 (upd H7 ev (.lst ((acc++[(((fCall S kc).2.length:Nat):Int)]++(fCall S kc).2).map V.int))):=keepT_put fun u e=>by rw [he7] at e;cases e;rfl
   generalize upd H7 ev (.lst ((acc++[(((fCall S kc).2.length:Nat):Int)]++(fCall S kc).2).map V.int))=H8 at he8 hB8 kt8 ⊢
   have kt58:KeepT H5 H8:=(kT6.trans kt7).trans kt8
   refine ⟨_,rfl,ta,_,_,_,rfl,rfl,kt58.seqT ht,at_1,?_⟩
   refine ⟨_,?_,en,(fCall S kc).1,_,fg,cs',_,_,rfl,rfl,hen2,(kt4.trans (KeepT.of s5)).trans kt58,good_all G kc hsm,hB8,he8,by rw [hden];exact hcs',hall',?_,?_⟩
   ·omega
   ·rw [List.length_append,List.length_append,List.length_cons,List.length_nil];omega
   ·rw [hans,played_step G hkc]
    show acc++((((fCall S kc).2.length:Nat):Int)::(fCall S kc).2++PyFlat.told _)=_
    simp [List.append_assoc,PyFlat.told]
  ·rw [decide_eq_false (show ¬ (pl:Int) < (l.length:Int) by omega)]
   refine iteF ⟨_,rfl,?_⟩
   have e0:l.drop pl=[]:=List.drop_eq_nil_of_le (by omega)
   rw [e0] at hcs
   have ec:cs=[]:=by
    cases fu <;> exact (Option.some.inj hcs).symm
   subst ec
   have e1:PyVagrae.answers l=acc:=by
    rw [hans]
    show acc++[]=acc
    rw [List.append_nil]
   refine k H4 ev ?_
   rw [e1]
   exact he4
end
end Lc
end
section
namespace Lc
open PySem PySem.Spec PyProof.Rows L2
open VagraLine (Fault)
structure Text (K:PySem.W.Frag) (mg:Str→Option Value) (C CS z z1 zc nb zs:Addr):Prop where
 D_common_divisor:DefAt K mg "common_divisor" s_common_divisor
 n_abs:mg "abs"=none
 D_in_lowest_terms:DefAt K mg "in_lowest_terms" s_in_lowest_terms
 D_opposite:DefAt K mg "opposite" s_opposite
 D_total:DefAt K mg "total" s_total
 D_difference:DefAt K mg "difference" s_difference
 D_product:DefAt K mg "product" s_product
 D_inverse:DefAt K mg "inverse" s_inverse
 D_quotient:DefAt K mg "quotient" s_quotient
 D_weight:DefAt K mg "weight" s_weight
 D_has_form:DefAt K mg "has_form" s_has_form
 c_CONSTANT:Const mg "CONSTANT" (.int 1)
 n_min:mg "min"=none
 D_finds_what_it_uses:DefAt K mg "finds_what_it_uses" s_finds_what_it_uses
 c_INPUT:Const mg "INPUT" (.int 0)
 n_max:mg "max"=none
 D_all_find_what_they_use:DefAt K mg "all_find_what_they_use" s_all_find_what_they_use
 n_enumerate:mg "enumerate"=none
 D_read_lines:DefAt K mg "read_lines" s_read_lines
 c_OPPOSITE:Const mg "OPPOSITE" (.int 6)
 c_NUMBERS_BEHIND_KIND:Const mg "NUMBERS_BEHIND_KIND" (.ref nb)
 hnb:∀ H,SqT K H nb [.int 1,.int 2,.int 2,.int 2,.int 2,.int 2,.int 1]
 n_len:mg "len"=none
 n_tuple:mg "tuple"=none
 D_read_fractions:DefAt K mg "read_fractions" s_read_fractions
 n_range:mg "range"=none
 D_line_value:DefAt K mg "line_value" s_line_value
 D_run_lines:DefAt K mg "run_lines" s_run_lines
 c_ZERO:Const mg "ZERO" (.ref z)
 hz:∀ H,SqT K H z [.int 0,.int 1]
 c_DIVISOR_IS_ZERO:Const mg "DIVISOR_IS_ZERO" (.int 1)
 c_VALUE_TOO_HEAVY:Const mg "VALUE_TOO_HEAVY" (.int 2)
 c_MOST_WEIGHT_run:Const mg "MOST_WEIGHT_run" (.int 200)
 D_sum_by_steps:DefAt K mg "sum_by_steps" s_sum_by_steps
 D_sum_at_once:DefAt K mg "sum_at_once" s_sum_at_once
 D_sum_of_products:DefAt K mg "sum_of_products" s_sum_of_products
 D_moved:DefAt K mg "moved" s_moved
 n_zip:mg "zip"=none
 D_is_operation:DefAt K mg "is_operation" s_is_operation
 D_lines_behind:DefAt K mg "lines_behind" s_lines_behind
 D_inputs_behind:DefAt K mg "inputs_behind" s_inputs_behind
 n_sorted:mg "sorted"=none
 n_set:mg "set"=none
 D_how_many_operations:DefAt K mg "how_many_operations" s_how_many_operations
 D_cost_of_direction:DefAt K mg "cost_of_direction" s_cost_of_direction
 n_sum:mg "sum"=none
 c_COSTS:Const mg "COSTS" (.ref zc)
 hzc:∀ H,SqT K H zc (costsL.map V.int)
 D_product_coefficient:DefAt K mg "product_coefficient" s_product_coefficient
 D_quotient_coefficient:DefAt K mg "quotient_coefficient" s_quotient_coefficient
 c_ONE:Const mg "ONE" (.ref z1)
 hz1:∀ H,SqT K H z1 [.int 1,.int 1]
 D_next_coefficient:DefAt K mg "next_coefficient" s_next_coefficient
 D_Series_make:MethAt K CS "make" "Series.make" s_Series_make
 D_Series_change_of:MethAt K CS "change_of" "Series.change_of" s_Series_change_of
 D_Series_first_coefficients:MethAt K CS "first_coefficients" "Series.first_coefficients" s_Series_first_coefficients
 D_Series___init__:MethAt K CS "__init__" "Series.__init__" s_Series___init__
 D_has_heavy:DefAt K mg "has_heavy" s_has_heavy
 c_MOST_WEIGHT_holder:Const mg "MOST_WEIGHT_holder" (.int 4000)
 D_told:DefAt K mg "told" s_told
 c_TOO_HEAVY:Const mg "TOO_HEAVY" (.int (-6))
 D_Holder_forget_series:MethAt K C "forget_series" "Holder.forget_series" s_Holder_forget_series
 D_Holder_leave_point:MethAt K C "leave_point" "Holder.leave_point" s_Holder_leave_point
 D_Holder___init__:MethAt K C "__init__" "Holder.__init__" s_Holder___init__
 D_Holder_has_line:MethAt K C "has_line" "Holder.has_line" s_Holder_has_line
 D_Holder_has_direction:MethAt K C "has_direction" "Holder.has_direction" s_Holder_has_direction
 D_Holder_run_refusal:MethAt K C "run_refusal" "Holder.run_refusal" s_Holder_run_refusal
 c_NO_POINT:Const mg "NO_POINT" (.int (-4))
 c_FAULT:Const mg "FAULT" (.int (-5))
 D_Holder_tell_fault:MethAt K C "tell_fault" "Holder.tell_fault" s_Holder_tell_fault
 D_Holder_stand_at:MethAt K C "stand_at" "Holder.stand_at" s_Holder_stand_at
 D_Holder_along:MethAt K C "along" "Holder.along" s_Holder_along
 D_Holder_along_input:MethAt K C "along_input" "Holder.along_input" s_Holder_along_input
 D_Holder_partials:MethAt K C "partials" "Holder.partials" s_Holder_partials
 D_Holder_tell_value:MethAt K C "tell_value" "Holder.tell_value" s_Holder_tell_value
 D_Holder_tell_values:MethAt K C "tell_values" "Holder.tell_values" s_Holder_tell_values
 D_Holder_tell_change:MethAt K C "tell_change" "Holder.tell_change" s_Holder_tell_change
 D_Holder_tell_gradient:MethAt K C "tell_gradient" "Holder.tell_gradient" s_Holder_tell_gradient
 D_Holder_tell_changes:MethAt K C "tell_changes" "Holder.tell_changes" s_Holder_tell_changes
 D_Holder_tell_table:MethAt K C "tell_table" "Holder.tell_table" s_Holder_tell_table
 n_all:mg "all"=none
 c_MOST_LINES_OF_TABLE:Const mg "MOST_LINES_OF_TABLE" (.int 12)
 c_NOT_OF_THE_FORM:Const mg "NOT_OF_THE_FORM" (.int (-2))
 D_Holder_tell_series:MethAt K C "tell_series" "Holder.tell_series" s_Holder_tell_series
 c_MOST_COEFFICIENTS:Const mg "MOST_COEFFICIENTS" (.int 8)
 D_Holder_tell_hangs:MethAt K C "tell_hangs" "Holder.tell_hangs" s_Holder_tell_hangs
 D_Holder_tell_cost:MethAt K C "tell_cost" "Holder.tell_cost" s_Holder_tell_cost
 D_Holder_tell_quotient:MethAt K C "tell_quotient" "Holder.tell_quotient" s_Holder_tell_quotient
 D_Holder_move:MethAt K C "move" "Holder.move" s_Holder_move
 D_Holder_take_point:MethAt K C "take_point" "Holder.take_point" s_Holder_take_point
 D_Holder_take_direction:MethAt K C "take_direction" "Holder.take_direction" s_Holder_take_direction
 c_TOO_MANY:Const mg "TOO_MANY" (.int (-7))
 c_MOST_DIRECTIONS:Const mg "MOST_DIRECTIONS" (.int 6)
 D_Holder_drop_directions:MethAt K C "drop_directions" "Holder.drop_directions" s_Holder_drop_directions
 D_Holder_take_code:MethAt K C "take_code" "Holder.take_code" s_Holder_take_code
 c_OUT_OF_RANGE:Const mg "OUT_OF_RANGE" (.int (-1))
 c_NOT_THERE:Const mg "NOT_THERE" (.int (-3))
 c_MOST_INPUTS:Const mg "MOST_INPUTS" (.int 12)
 c_MOST_LINES:Const mg "MOST_LINES" (.int 80)
 D_read_call:DefAt K mg "read_call" s_read_call
 c_SHAPES:Const mg "SHAPES" (.ref zs)
 hzs:ShapesAt K zs
 D_answer:DefAt K mg "answer" s_answer
 c_CODE:Const mg "CODE" (.int 0)
 c_POINT:Const mg "POINT" (.int 1)
 c_DIRECTION:Const mg "DIRECTION" (.int 2)
 c_CLEAR:Const mg "CLEAR" (.int 3)
 c_VALUE:Const mg "VALUE" (.int 4)
 c_VALUES:Const mg "VALUES" (.int 5)
 c_CHANGE:Const mg "CHANGE" (.int 6)
 c_CHANGES:Const mg "CHANGES" (.int 7)
 c_GRADIENT:Const mg "GRADIENT" (.int 8)
 c_TABLE:Const mg "TABLE" (.int 9)
 c_MOVE:Const mg "MOVE" (.int 10)
 c_QUOTIENT_code:Const mg "QUOTIENT_code" (.int 11)
 c_SERIES:Const mg "SERIES" (.int 12)
 c_HANGS:Const mg "HANGS" (.int 13)
 c_SUM:Const mg "SUM" (.int 2)
 c_DIFFERENCE:Const mg "DIFFERENCE" (.int 3)
 c_PRODUCT:Const mg "PRODUCT" (.int 4)
 c_QUOTIENT_lines:Const mg "QUOTIENT_lines" (.int 5)
 T:Txt K C
 TS:TxtS K CS
 mkH:PySem.W.makesIn K C=true
 kpH:PySem.W.keepIn K (.ref C)=true
 mgH:mg "Holder"=some (.ref C)
 mkS:PySem.W.makesIn K CS=true
 kpS:PySem.W.keepIn K (.ref CS)=true
 mgS:mg "Series"=some (.ref CS)
theorem mkr_of {P:Program} {w:World} {K:PySem.W.Frag} {mg:Str→Option Value} {base:Heap} {C:Addr} {x:Str} {ps:List Str} {k:Nat} {sp:Sp} (M:Mth P w K mg base C "__init__" ps k sp) (h1:PySem.W.makesIn K C=true) (h2:PySem.W.keepIn K (.ref C)=true) (h3:mg x=some (.ref C)):Mkr P w K mg base C x ps k sp:=by
 obtain ⟨f,fd,hm,hb,F⟩:=M.ex
 exact ⟨f,fd,⟨h1,hm.at_,hm.fn,h2⟩,h3,hb,F⟩
theorem top_ok {P:Program} {w:World} {K:PySem.W.Frag} {mg:Str→Option Value} {C CS z z1 zc nb zs fa:Addr} {fd:FuncData} (X:Text K mg C CS z z1 zc nb zs) (hP:P.given.tree=none) (F:Fun K "answers" "answers" s_answers fa fd) (base:Heap):FnOk P w K mg base CX0 52 fa fd ["calls"] (spTop K):=by
 obtain ⟨D_common_divisor,n_abs,D_in_lowest_terms,D_opposite,D_total,D_difference,D_product,D_inverse,D_quotient,D_weight,D_has_form,c_CONSTANT,n_min,D_finds_what_it_uses,c_INPUT,n_max,D_all_find_what_they_use,n_enumerate,D_read_lines,c_OPPOSITE,c_NUMBERS_BEHIND_KIND,hnb,n_len,n_tuple,D_read_fractions,n_range,D_line_value,D_run_lines,c_ZERO,hz,c_DIVISOR_IS_ZERO,c_VALUE_TOO_HEAVY,c_MOST_WEIGHT_run,D_sum_by_steps,D_sum_at_once,D_sum_of_products,D_moved,n_zip,D_is_operation,D_lines_behind,D_inputs_behind,n_sorted,n_set,D_how_many_operations,D_cost_of_direction,n_sum,c_COSTS,hzc,D_product_coefficient,D_quotient_coefficient,c_ONE,hz1,D_next_coefficient,D_Series_make,D_Series_change_of,D_Series_first_coefficients,D_Series___init__,D_has_heavy,c_MOST_WEIGHT_holder,D_told,c_TOO_HEAVY,D_Holder_forget_series,D_Holder_leave_point,D_Holder___init__,D_Holder_has_line,D_Holder_has_direction,D_Holder_run_refusal,c_NO_POINT,c_FAULT,D_Holder_tell_fault,D_Holder_stand_at,D_Holder_along,D_Holder_along_input,D_Holder_partials,D_Holder_tell_value,D_Holder_tell_values,D_Holder_tell_change,D_Holder_tell_gradient,D_Holder_tell_changes,D_Holder_tell_table,n_all,c_MOST_LINES_OF_TABLE,c_NOT_OF_THE_FORM,D_Holder_tell_series,c_MOST_COEFFICIENTS,D_Holder_tell_hangs,D_Holder_tell_cost,D_Holder_tell_quotient,D_Holder_move,D_Holder_take_point,D_Holder_take_direction,c_TOO_MANY,c_MOST_DIRECTIONS,D_Holder_drop_directions,D_Holder_take_code,c_OUT_OF_RANGE,c_NOT_THERE,c_MOST_INPUTS,c_MOST_LINES,D_read_call,c_SHAPES,hzs,D_answer,c_CODE,c_POINT,c_DIRECTION,c_CLEAR,c_VALUE,c_VALUES,c_CHANGE,c_CHANGES,c_GRADIENT,c_TABLE,c_MOVE,c_QUOTIENT_code,c_SERIES,c_HANGS,c_SUM,c_DIFFERENCE,c_PRODUCT,c_QUOTIENT_lines,T,TS,mkH,kpH,mgH,mkS,kpS,mgS⟩:=X
 have N:Kinds mg:=⟨c_INPUT,c_CONSTANT,c_SUM,c_DIFFERENCE,c_PRODUCT,c_QUOTIENT_lines,c_OPPOSITE⟩
 have C_common_divisor:Callee P w K mg base "common_divisor" ["a","b"] 41 spGcd:=by apply ok_common_divisor <;> assumption
 have C_in_lowest_terms:Callee P w K mg base "in_lowest_terms" ["upper","lower"] 42 (spLow K):=by apply ok_in_lowest_terms <;> assumption
 have C_opposite:Callee P w K mg base "opposite" ["x"] 41 (spOpp K):=by apply ok_opposite <;> assumption
 have C_total:Callee P w K mg base "total" ["x","y"] 42 (sp2 K (·+·)):=by apply ok_total <;> assumption
 have C_difference:Callee P w K mg base "difference" ["x","y"] 43 (sp2 K (· - ·)):=by apply ok_difference <;> assumption
 have C_product:Callee P w K mg base "product" ["x","y"] 42 (sp2 K (·*·)):=by apply ok_product <;> assumption
 have C_inverse:Callee P w K mg base "inverse" ["x"] 41 (spInv K):=by apply ok_inverse <;> assumption
 have C_quotient:Callee P w K mg base "quotient" ["x","y"] 43 (spDiv K):=by apply ok_quotient <;> assumption
 have C_weight:Callee P w K mg base "weight" ["x"] 41 (spWeight K):=by apply ok_weight <;> assumption
 have C_has_form:Callee P w K mg base "has_form" ["line"] 41 (spForm K):=by apply ok_has_form <;> assumption
 have C_finds_what_it_uses:Callee P w K mg base "finds_what_it_uses" ["line","place","inputs"] 41 (spFinds K):=by apply ok_finds <;> assumption
 have C_all_find_what_they_use:Callee P w K mg base "all_find_what_they_use" ["lines","inputs"] 42 (spAllFind K):=by apply ok_all_find <;> assumption
 have C_read_lines:Callee P w K mg base "read_lines" ["numbers"] 42 (spRead K):=by apply ok_read_lines <;> assumption
 have C_read_fractions:Callee P w K mg base "read_fractions" ["numbers","how_many"] 43 (spReadF K):=by apply ok_read_fractions <;> assumption
 have R:Ratios P w K mg base:=⟨C_in_lowest_terms,C_opposite,C_total,C_difference,C_product,C_quotient,C_weight⟩
 have C_line_value:Callee P w K mg base "line_value" ["line","point","found"] 44 (spVal K):=by apply ok_line_value <;> assumption
 have C_run_lines:Callee P w K mg base "run_lines" ["lines","point"] 45 (spRun K):=by apply ok_run_lines <;> assumption
 have C_sum_by_steps:Callee P w K mg base "sum_by_steps" ["pairs"] 43 (spSum K):=by apply ok_sum_by_steps <;> assumption
 have C_sum_at_once:Callee P w K mg base "sum_at_once" ["pairs"] 43 (spSum K):=by apply ok_sum_at_once <;> assumption
 have C_sum_of_products:Callee P w K mg base "sum_of_products" ["pairs"] 44 (spSum K):=by apply ok_sum_of_products <;> assumption
 have C_moved:Callee P w K mg base "moved" ["point","direction","step"] 43 (spMoved K):=by apply ok_moved <;> assumption
 have C_is_operation:Callee P w K mg base "is_operation" ["line"] 41 (spIsOp K):=by apply ok_is_operation <;> assumption
 have C_lines_behind:Callee P w K mg base "lines_behind" ["lines","i"] 42 (spBehind K):=by apply ok_lines_behind <;> assumption
 have C_inputs_behind:Callee P w K mg base "inputs_behind" ["lines","i"] 43 (spInputs K):=by apply ok_inputs_behind <;> assumption
 have C_how_many_operations:Callee P w K mg base "how_many_operations" ["lines"] 42 (spCount K VagraLine.ops):=by apply ok_how_many <;> assumption
 have C_cost_of_direction:Callee P w K mg base "cost_of_direction" ["lines"] 42 (spCount K Vagrae.cost):=by apply ok_cost <;> assumption
 have C_product_coefficient:Callee P w K mg base "product_coefficient" ["first","second","r"] 45 (spPC K):=by apply ok_product_coefficient <;> assumption
 have C_quotient_coefficient:Callee P w K mg base "quotient_coefficient" ["own","first","second"] 45 (spQC K):=by apply ok_quotient_coefficient <;> assumption
 have C_next_coefficient:Callee P w K mg base "next_coefficient" ["line","own","made","direction"] 46 (spNext K):=by apply ok_next_coefficient <;> assumption
 have m_make:Mth P w K mg base CS "make" ["self","i","how_many"] 47 (spMake K CS):=by apply ok_make <;> assumption
 have m_change_of:Mth P w K mg base CS "change_of" ["self","i"] 48 (spChg K CS):=by apply ok_change_of <;> assumption
 have m_first_coefficients:Mth P w K mg base CS "first_coefficients" ["self","i","how_many"] 48 (spFirst K CS):=by apply ok_first_coefficients <;> assumption
 have m_sinit:Mth P w K mg base CS "__init__" ["self","lines","results","direction"] 41 (spSInit K CS):=by apply ok_series_init <;> assumption
 have C_has_heavy:Callee P w K mg base "has_heavy" ["fractions"] 42 (spHeavy K):=by apply ok_has_heavy <;> assumption
 have C_told:Callee P w K mg base "told" ["fractions"] 43 (spTold K):=by apply ok_told <;> assumption
 have m_forget_series:Mth P w K mg base C "forget_series" ["self"] 41 (spForget C):=by apply ok_forget_series <;> assumption
 have m_leave_point:Mth P w K mg base C "leave_point" ["self"] 42 (spLeave C):=by apply ok_leave_point <;> assumption
 have m_hinit:Mth P w K mg base C "__init__" ["self"] 43 (spInit K C CS):=by apply ok_init <;> assumption
 have m_has_line:Mth P w K mg base C "has_line" ["self","i"] 41 (spLook K C CS fun S i=>.bl (hasLine S i)):=by apply ok_has_line <;> assumption
 have m_has_direction:Mth P w K mg base C "has_direction" ["self","d"] 41 (spLook K C CS fun S i=>.bl (hasDir S i)):=by apply ok_has_direction <;> assumption
 have m_run_refusal:Mth P w K mg base C "run_refusal" ["self"] 41 (spNeed K C CS):=by apply ok_run_refusal <;> assumption
 have m_tell_fault:Mth P w K mg base C "tell_fault" ["self"] 41 (spFault K C CS):=by apply ok_tell_fault <;> assumption
 have m_stand_at:Mth P w K mg base C "stand_at" ["self","point"] 46 (spStand K C CS):=by apply ok_stand_at <;> assumption
 have M_Holder:Mkr P w K mg base C "Holder" ["self"] 43 (spInit K C CS):=mkr_of m_hinit mkH kpH mgH
 have M_Series:Mkr P w K mg base CS "Series" ["self","lines","results","direction"] 41 (spSInit K CS):=mkr_of m_sinit mkS kpS mgS
 have m_along:Mth P w K mg base C "along" ["self","d"] 43 (spSer K C CS false):=by apply ok_along <;> assumption
 have m_along_input:Mth P w K mg base C "along_input" ["self","k"] 43 (spSer K C CS true):=by apply ok_along_input <;> assumption
 have m_partials:Mth P w K mg base C "partials" ["self","i"] 49 (spPart K C CS):=by apply ok_partials <;> assumption
 have Lk:Looks P w K mg base C CS:=⟨m_has_line,m_has_direction,m_run_refusal,C_told,c_OUT_OF_RANGE⟩
 have m_tell_value:Mth P w K mg base C "tell_value" ["self","i"] 50 (spH K C CS pI fValue):=by apply ok_tell_value <;> assumption
 have m_tell_values:Mth P w K mg base C "tell_values" ["self"] 50 (spH K C CS p0 fValues):=by apply ok_tell_values <;> assumption
 have m_tell_change:Mth P w K mg base C "tell_change" ["self","i","d"] 50 (spH K C CS pII fChange):=by apply ok_tell_change <;> assumption
 have m_tell_gradient:Mth P w K mg base C "tell_gradient" ["self","i"] 50 (spH K C CS pI fGradient):=by apply ok_tell_gradient <;> assumption
 have m_tell_changes:Mth P w K mg base C "tell_changes" ["self","d"] 50 (spH K C CS pI fChanges):=by apply ok_tell_changes <;> assumption
 have m_tell_table:Mth P w K mg base C "tell_table" ["self","places"] 50 (spH K C CS pL fTable):=by apply ok_tell_table <;> assumption
 have m_tell_series:Mth P w K mg base C "tell_series" ["self","i","d","k"] 50 (spH K C CS pIII fSeries):=by apply ok_tell_series <;> assumption
 have m_tell_hangs:Mth P w K mg base C "tell_hangs" ["self","i"] 50 (spH K C CS pI fHangs):=by apply ok_tell_hangs <;> assumption
 have m_tell_cost:Mth P w K mg base C "tell_cost" ["self"] 50 (spH K C CS p0 fCost):=by apply ok_tell_cost <;> assumption
 have m_tell_quotient:Mth P w K mg base C "tell_quotient" ["self","i","d","n","m"] 50 (spH K C CS pIIII fQuotient):=by apply ok_tell_quotient <;> assumption
 have m_move:Mth P w K mg base C "move" ["self","d","n","m"] 50 (spH K C CS pIII fMove):=by apply ok_move <;> assumption
 have m_take_point:Mth P w K mg base C "take_point" ["self","numbers"] 50 (spH K C CS pL fPoint):=by apply ok_take_point <;> assumption
 have m_take_direction:Mth P w K mg base C "take_direction" ["self","numbers"] 50 (spH K C CS pL fDir):=by apply ok_take_direction <;> assumption
 have m_drop_directions:Mth P w K mg base C "drop_directions" ["self"] 50 (spH K C CS p0 fClear):=by apply ok_drop_directions <;> assumption
 have m_take_code:Mth P w K mg base C "take_code" ["self","inputs","numbers"] 50 (spH K C CS pIL fCode):=by apply ok_take_code <;> assumption
 have C_read_call:Callee P w K mg base "read_call" ["calls","place"] 41 (spCallAt K):=by apply ok_read_call <;> assumption
 have Cs:Calls P w K mg base C CS:=⟨m_take_code,m_take_point,m_take_direction,m_drop_directions,m_tell_value,m_tell_values,m_tell_change,m_tell_changes,m_tell_gradient,m_tell_table,m_move,m_tell_quotient,m_tell_series,m_tell_hangs,m_tell_cost,c_CODE,c_POINT,c_DIRECTION,c_CLEAR,c_VALUE,c_VALUES,c_CHANGE,c_CHANGES,c_GRADIENT,c_TABLE,c_MOVE,c_QUOTIENT_code,c_SERIES,c_HANGS⟩
 have C_answer:Callee P w K mg base "answer" ["holder","number","given"] 51 (spAns K C CS):=by apply ok_answer <;> assumption
 exact ok_answers F T n_len M_Holder C_read_call C_answer
end Lc
end
section
namespace PySem.W.Fast
theorem tw7257740591059920105:True:=trivial
theorem tw16082444033784154376:True:=trivial
theorem tw13437823871717923801:True:=trivial
theorem tw11303719051095684263:True:=trivial
theorem tw17390137872105409475:True:=trivial
theorem tw10182860608510446058:True:=trivial
theorem tw7212115788036449216:True:=trivial
theorem tw10231747423029166760:True:=trivial
theorem tw4866167052213896562:True:=trivial
theorem tw10389875012611317389:True:=trivial
theorem tw8601618055063321807:True:=trivial
theorem tw11822563674891213095:True:=trivial
theorem tw15625312380527103790:True:=trivial
theorem tw11007319522138261113:True:=trivial
theorem tw3862126522575100707:True:=trivial
theorem tw14714788562506232101:True:=trivial
theorem tw9042881175051500772:True:=trivial
theorem tw2633292355581041245:True:=trivial
theorem tw2973119940310723831:True:=trivial
theorem tw1073053466975022670:True:=trivial
theorem tw17822390818723934437:True:=trivial
theorem tw13536509476987692081:True:=trivial
theorem tw4160590983750015315:True:=trivial
theorem tw7391130583404512553:True:=trivial
theorem tw7385317497462848886:True:=trivial
theorem tw4499170169805285:True:=trivial
theorem tw3811429918762869523:True:=trivial
theorem tw8057139901301247220:True:=trivial
theorem tw14600468347399965327:True:=trivial
theorem tw16556524491261227150:True:=trivial
theorem tw3829178010493638492:True:=trivial
theorem tw16232660657316738896:True:=trivial
theorem tw2398859432605218384:True:=trivial
theorem tw6595545430064590325:True:=trivial
theorem tw15740515438732730244:True:=trivial
theorem tw16985225085385158366:True:=trivial
theorem tw7657981566147702667:True:=trivial
theorem tw11165486511299322763:True:=trivial
theorem tw18033371834070662140:True:=trivial
theorem tw11395966590931725299:True:=trivial
theorem tw9219498916344765464:True:=trivial
theorem tw14738191200159367818:True:=trivial
theorem tw16457782664388962608:True:=trivial
theorem tw14219895142511243933:True:=trivial
theorem tw2023102920192134462:True:=trivial
theorem tw4405687254496637404:True:=trivial
theorem tw108714738623980060:True:=trivial
theorem tw17408322263007289778:True:=trivial
theorem tw5704686700651921190:True:=trivial
theorem tw15902637349003725772:True:=trivial
theorem tw16954815948622631329:True:=trivial
theorem tw15903517917304895097:True:=trivial
theorem tw7897441034385018712:True:=trivial
theorem tw10466772004209924807:True:=trivial
theorem tw14198697984045322322:True:=trivial
theorem tw8022837850094374616:True:=trivial
theorem tw837727742527533873:True:=trivial
theorem tw10198676788896398690:True:=trivial
theorem tw16760201809922862015:True:=trivial
theorem tw6295639151725532856:True:=trivial
theorem tw5342843568676643699:True:=trivial
theorem tw2557971256201638196:True:=trivial
theorem tw2573163721104384958:True:=trivial
theorem tw15515293446465242985:True:=trivial
theorem tw12301266446035689110:True:=trivial
theorem tw3874741368131786974:True:=trivial
theorem tw14483277848602356563:True:=trivial
theorem tw15667886493332317250:True:=trivial
theorem tw11698923431166665501:True:=trivial
theorem tw14717672988957404263:True:=trivial
theorem tw2283579014454135571:True:=trivial
theorem tw11815020344762937462:True:=trivial
theorem tw15457403057666263816:True:=trivial
theorem tw7200106408607448203:True:=trivial
theorem tw2360516944318202057:True:=trivial
theorem tw12475620333949996594:True:=trivial
theorem tw11151214690423498725:True:=trivial
theorem tw2800860086657716643:True:=trivial
theorem tw7679486326892195412:True:=trivial
theorem tw11106103501915650209:True:=trivial
theorem tw16993485787963322065:True:=trivial
theorem tw15159151997409340603:True:=trivial
theorem tw5490319877235936982:True:=trivial
theorem tw15314222019947201630:True:=trivial
theorem tw14616132637386111276:True:=trivial
theorem tw16140530090119106650:True:=trivial
theorem tw16657934757437145723:True:=trivial
theorem tw18405998313577761519:True:=trivial
theorem tw18340604803759198729:True:=trivial
theorem tw7878116942493180127:True:=trivial
theorem tw9918421706687519492:True:=trivial
theorem tw11932894205680305243:True:=trivial
theorem tw9004871413302351181:True:=trivial
theorem tw2257940652641048905:True:=trivial
theorem tw12609061721585894671:True:=trivial
theorem tw17068223301600916647:True:=trivial
theorem tw12680270266760223773:True:=trivial
theorem tw18382863004929911491:True:=trivial
theorem tw13372474072038496922:True:=trivial
theorem tw3658219985362178306:True:=trivial
theorem tw8351365572515631464:True:=trivial
theorem tw1520548804004067820:True:=trivial
theorem tw9705864379253355032:True:=trivial
theorem tw94169563406480330:True:=trivial
theorem tw16867257773063479175:True:=trivial
theorem tw16765469105745566457:True:=trivial
theorem tw11291992764025267459:True:=trivial
theorem tw17161994575072300935:True:=trivial
theorem tw5288885633691327791:True:=trivial
theorem tw9013097742883017570:True:=trivial
theorem tw8240780783777877247:True:=trivial
theorem tw9698542973371981658:True:=trivial
theorem tw14435724693760811790:True:=trivial
theorem tw6427701379377312771:True:=trivial
theorem tw16029461705700529517:True:=trivial
theorem tw9366234431523189547:True:=trivial
theorem tw8683835059243746086:True:=trivial
theorem tw13056468337276521328:True:=trivial
theorem tw11899922715916247603:True:=trivial
theorem tw899713871712907202:True:=trivial
theorem tw10349588486961500646:True:=trivial
theorem tw5364159692191461851:True:=trivial
theorem tw4291859444538502972:True:=trivial
theorem tw7032991502243676686:True:=trivial
theorem tw17201802004662150197:True:=trivial
theorem tw17648069861847478751:True:=trivial
theorem tw17843302049348136964:True:=trivial
theorem tw10460165663039501562:True:=trivial
theorem tw12886346055369508713:True:=trivial
theorem tw8105490361091975935:True:=trivial
theorem tw12827549625522288965:True:=trivial
theorem tw1613091917206815748:True:=trivial
theorem tw1721968546560523493:True:=trivial
theorem tw8240213484012646101:True:=trivial
theorem tw11239652750728195596:True:=trivial
theorem tw9396682072169598759:True:=trivial
theorem tw1551060438435813472:True:=trivial
theorem tw1988559627305592617:True:=trivial
theorem tw12294541686110051090:True:=trivial
theorem tw2820204407847288105:True:=trivial
theorem tw5575707027502594588:True:=trivial
end PySem.W.Fast
namespace Lc
open PySem PySem.Spec PyProof.Rows L2
section
variable {P:Program} {w:World} {K:PySem.W.Frag} {h:Heap} {mg:Str→Option Value} {f C:Addr} {x m qual:Str} {st:Stmt} {oc:Value} {od an:Option Addr} {osl:Array (Option Value)} {kV doc pm cdv ct:Value}
theorem def_mk (X:K.In h) (G:h.Ns mainGlobals mg) (a:PySem.W.nsIn K mainGlobals x=some (some (.ref f))) (l:K.lookup f=some ⟨oc,od,.func (PySem.W.fnOf x x (defArgs st) (defBody st) (defScope st) .none kV doc pm an cdv ct),osl⟩)
  (c:PySem.W.codeIn K cdv x=true) (k:PySem.W.keepIn K (.ref f)=true):DefAt K mg x st:=⟨f,_,PySem.W.mg_of X G a,fun_mk l c k⟩
theorem meth_mk (a:PySem.W.findIn K (.ref C) m=some (some (.ref f))) (i:PySem.W.isFn K (.ref f)=true) (l:K.lookup f=some ⟨oc,od,.func (PySem.W.fnOf m qual (defArgs st) (defBody st) (defScope st) .none kV doc pm an cdv ct),osl⟩)
  (c:PySem.W.codeIn K cdv qual=true) (k:PySem.W.keepIn K (.ref f)=true):MethAt K C m qual st:=⟨f,_,⟨a,i,k⟩,fun_mk l c k⟩
theorem int_mk {i:Int} {t:Tok} (X:K.In h) (G:h.Ns mainGlobals mg) (a:PySem.W.nsIn K mainGlobals x=some (some (.int i t))):Const mg x (.int i):=⟨_,PySem.W.mg_of X G a,t,rfl⟩
theorem ref_mk {z:Addr} (X:K.In h) (G:h.Ns mainGlobals mg) (a:PySem.W.nsIn K mainGlobals x=some (some (.ref z))):Const mg x (.ref z):=⟨_,PySem.W.mg_of X G a,rfl⟩
theorem tup_mk {z:Addr} {its:Array Value} {n:Nat} {xs:List V} {d:Option Addr} (l:K.lookup z=some ⟨.type "tuple",d,.seq its n,osl⟩) (hz:its.size≤100) (hv:Vals xs its.toList):∀ H,SqT K H z xs:=fun H =>
 .inr ⟨_,its,n,l,rfl,rfl,(by rw [sizeLine_eq];omega),hv⟩
theorem shapes_mk {zs r0 r1 r2 r3 r4 r5 r6 r7 r8 r9 r10 r11 r12 r13 r14:Addr} (hs:∀ H,SqT K H zs [.ref r0,.ref r1,.ref r2,.ref r3,.ref r4,.ref r5,.ref r6,.ref r7,.ref r8,.ref r9,.ref r10,.ref r11,.ref r12,.ref r13,.ref r14])
  (h0:∀ H,SqT K H r0 [.int 1,.int 1])
  (h1:∀ H,SqT K H r1 [.int 0,.int 1])
  (h2:∀ H,SqT K H r2 [.int 0,.int 1])
  (h3:∀ H,SqT K H r3 [.int 0,.int 0])
  (h4:∀ H,SqT K H r4 [.int 1,.int 0])
  (h5:∀ H,SqT K H r5 [.int 0,.int 0])
  (h6:∀ H,SqT K H r6 [.int 2,.int 0])
  (h7:∀ H,SqT K H r7 [.int 1,.int 0])
  (h8:∀ H,SqT K H r8 [.int 1,.int 0])
  (h9:∀ H,SqT K H r9 [.int 0,.int 1])
  (h10:∀ H,SqT K H r10 [.int 3,.int 0])
  (h11:∀ H,SqT K H r11 [.int 4,.int 0])
  (h12:∀ H,SqT K H r12 [.int 3,.int 0])
  (h13:∀ H,SqT K H r13 [.int 1,.int 0])
  (h14:∀ H,SqT K H r14 [.int 0,.int 0])
  : ShapesAt K zs:=fun p nn kk h=>by
 unfold PyVagrae.shape at h
 by_cases e0:p=0
 ·rw [if_pos e0] at h
  cases h
  exact ⟨_,r0,hs,by rw [e0];exact atI_nat (j:=0) rfl,h0⟩
 rw [if_neg e0] at h
 by_cases e1:p=1
 ·rw [if_pos e1] at h
  cases h
  exact ⟨_,r1,hs,by rw [e1];exact atI_nat (j:=1) rfl,h1⟩
 rw [if_neg e1] at h
 by_cases e2:p=2
 ·rw [if_pos e2] at h
  cases h
  exact ⟨_,r2,hs,by rw [e2];exact atI_nat (j:=2) rfl,h2⟩
 rw [if_neg e2] at h
 by_cases e3:p=3
 ·rw [if_pos e3] at h
  cases h
  exact ⟨_,r3,hs,by rw [e3];exact atI_nat (j:=3) rfl,h3⟩
 rw [if_neg e3] at h
 by_cases e4:p=4
 ·rw [if_pos e4] at h
  cases h
  exact ⟨_,r4,hs,by rw [e4];exact atI_nat (j:=4) rfl,h4⟩
 rw [if_neg e4] at h
 by_cases e5:p=5
 ·rw [if_pos e5] at h
  cases h
  exact ⟨_,r5,hs,by rw [e5];exact atI_nat (j:=5) rfl,h5⟩
 rw [if_neg e5] at h
 by_cases e6:p=6
 ·rw [if_pos e6] at h
  cases h
  exact ⟨_,r6,hs,by rw [e6];exact atI_nat (j:=6) rfl,h6⟩
 rw [if_neg e6] at h
 by_cases e7:p=7
 ·rw [if_pos e7] at h
  cases h
  exact ⟨_,r7,hs,by rw [e7];exact atI_nat (j:=7) rfl,h7⟩
 rw [if_neg e7] at h
 by_cases e8:p=8
 ·rw [if_pos e8] at h
  cases h
  exact ⟨_,r8,hs,by rw [e8];exact atI_nat (j:=8) rfl,h8⟩
 rw [if_neg e8] at h
 by_cases e9:p=9
 ·rw [if_pos e9] at h
  cases h
  exact ⟨_,r9,hs,by rw [e9];exact atI_nat (j:=9) rfl,h9⟩
 rw [if_neg e9] at h
 by_cases e10:p=10
 ·rw [if_pos e10] at h
  cases h
  exact ⟨_,r10,hs,by rw [e10];exact atI_nat (j:=10) rfl,h10⟩
 rw [if_neg e10] at h
 by_cases e11:p=11
 ·rw [if_pos e11] at h
  cases h
  exact ⟨_,r11,hs,by rw [e11];exact atI_nat (j:=11) rfl,h11⟩
 rw [if_neg e11] at h
 by_cases e12:p=12
 ·rw [if_pos e12] at h
  cases h
  exact ⟨_,r12,hs,by rw [e12];exact atI_nat (j:=12) rfl,h12⟩
 rw [if_neg e12] at h
 by_cases e13:p=13
 ·rw [if_pos e13] at h
  cases h
  exact ⟨_,r13,hs,by rw [e13];exact atI_nat (j:=13) rfl,h13⟩
 rw [if_neg e13] at h
 by_cases e14:p=14
 ·rw [if_pos e14] at h
  cases h
  exact ⟨_,r14,hs,by rw [e14];exact atI_nat (j:=14) rfl,h14⟩
 rw [if_neg e14] at h
 cases h
theorem txt_mk (pg:PySem.W.plainGet K C Str.empty=true) (hd:PySem.W.hasDictIn K C=true) (po:PySem.W.plainOver K C=true) (sa:PySem.W.findIn K (.ref C) "__setattr__"=some (some (.builtin "object.__setattr__"))) (n1:PySem.W.findIn K (.ref C) "inputs"=some none) (n2:PySem.W.findIn K (.ref C) "lines"=some none) (n3:PySem.W.findIn K (.ref C) "directions"=some none) (n4:PySem.W.findIn K (.ref C) "point"=some none) (n5:PySem.W.findIn K (.ref C) "results"=some none) (n6:PySem.W.findIn K (.ref C) "fault"=some none) (n7:PySem.W.findIn K (.ref C) "known_along"=some none) (n8:PySem.W.findIn K (.ref C) "known_partial"=some none):Txt K C:=⟨⟨pg,hd,po,sa⟩,n1,n2,n3,n4,n5,n6,n7,n8⟩
theorem txtS_mk (pg:PySem.W.plainGet K C Str.empty=true) (hd:PySem.W.hasDictIn K C=true) (po:PySem.W.plainOver K C=true) (sa:PySem.W.findIn K (.ref C) "__setattr__"=some (some (.builtin "object.__setattr__"))) (n1:PySem.W.findIn K (.ref C) "lines"=some none) (n2:PySem.W.findIn K (.ref C) "direction"=some none) (n3:PySem.W.findIn K (.ref C) "made"=some none):TxtS K C:=⟨⟨pg,hd,po,sa⟩,n1,n2,n3⟩
theorem binds_to {fa:Addr} {fd:FuncData} (F:Fun K "answers" "answers" s_answers fa fd):∀ (s:Shared) (us:List Value),us.length=(["calls"]:List Str).length→BindsTo s fd ⟨us,[]⟩ ((["calls"]:List Str).zip us):=by
 obtain ⟨oc,od,kV,doc,pm,an,cdv,ct,osl,rfl,lk,hcd⟩:=F.ex
 exact fun s us hu=>match us,hu with | [_],_=>.of_eq rfl
theorem all_mk {C CS z z1 zc nb zs fa:Addr} (X:K.In h) (G:h.Ns mainGlobals mg) (hfa:mg "answers"=some (.ref fa)) (hP:P.given.tree=none) (aC:PySem.W.nsIn K mainGlobals "Holder"=some (some (.ref C))) (aS:PySem.W.nsIn K mainGlobals "Series"=some (some (.ref CS))) (aZ:PySem.W.nsIn K mainGlobals "ZERO"=some (some (.ref z))) (aO:PySem.W.nsIn K mainGlobals "ONE"=some (some (.ref z1))) (aK:PySem.W.nsIn K mainGlobals "COSTS"=some (some (.ref zc))) (aN:PySem.W.nsIn K mainGlobals "NUMBERS_BEHIND_KIND"=some (some (.ref nb))) (aH:PySem.W.nsIn K mainGlobals "SHAPES"=some (some (.ref zs)))
  (D:DefAt K mg "answers" s_answers) (T:Text K mg C CS z z1 zc nb zs):∃ fd:FuncData,(∀ (s:Shared) (us:List Value),us.length=(["calls"]:List Str).length→BindsTo s fd ⟨us,[]⟩ ((["calls"]:List Str).zip us))∧∀ base:Heap,K.In base→base.Ns mainGlobals mg→FnOk P w K mg base CX0 52 fa fd ["calls"] (spTop K):=by
 obtain ⟨f,fd,hm,F⟩:=D.ex
 have e:=hfa.symm.trans hm
 cases e
 exact ⟨fd,binds_to F,fun base _ _=>top_ok T hP F base⟩
end
end Lc
open PySem PySem.W PyProof.Rows
set_option maxRecDepth 100000 in
set_option maxHeartbeats 0 in
theorem PySem.Challenge.cw_linechanges_s01_answers_holds : PySem.Challenge.rw_linechanges_s01_answers.Holds := by
 w_on;k_headS;(case hw=>exact ⟨[.list [.int 3]],by decide +kernel,by decide +kernel⟩)
 k_fillS
 refine L2.walk_specK (r:=PySem.Challenge.rw_linechanges_s01_answers) (k:=52) (CX:=L2.CX0) (ps:=["calls"]) (sp:=Lc.spTop) (by decide +kernel) (by decide +kernel) rfl rfl ⟨rfl,by decide,by decide⟩ (fun w h Y=>PySem.W.kIn_of Y) ?F ?S (fun _ _ _ _ z=>z)
 case S =>
  intro K H xs a hO hwi hask hx
  cases hx with
  | cons h1 h2 =>
   cases h2
   cases h1 with
   | lst hs ha =>
    have e:=L2.ints_dw a.1 _ ha
    subst e
    exact ⟨_,a.1,rfl,hO,hs,hask,fun H' p hp=>.lst (L2.SqL.of hp) (L2.dw_ints _)⟩
 case F =>
  intro w mg fa h Y KX G hmg
  refine' Lc.all_mk KX G hmg ?hP ?aC ?aS ?aZ ?aO ?aK ?aN ?aH ?D ?T
  (case hP=>rfl)
  (case aC=>k_is);(case aS=>k_is);(case aZ=>k_is);(case aO=>k_is);(case aK=>k_is);(case aN=>k_is);(case aH=>k_is)
  (case D=>(refine' Lc.def_mk KX G ?a ?l ?c ?k;(case a=>k_is);(case l=>k_is);(case c=>k_is);(case k=>k_is)))
  case T =>
   refine' ⟨?_,?_,?_,?_,?_,?_,?_,?_,?_,?_,?_,?_,?_,?_,?_,?_,?_,?_,?_,?_,?_,?_,?_,?_,?_,?_,?_,?_,?_,?_,?_,?_,?_,?_,?_,?_,?_,?_,?_,?_,?_,?_,?_,?_,?_,?_,?_,?_,?_,?_,?_,?_,?_,?_,?_,?_,?_,?_,?_,?_,?_,?_,?_,?_,?_,?_,?_,?_,?_,?_,?_,?_,?_,?_,?_,?_,?_,?_,?_,?_,?_,?_,?_,?_,?_,?_,?_,?_,?_,?_,?_,?_,?_,?_,?_,?_,?_,?_,?_,?_,?_,?_,?_,?_,?_,?_,?_,?_,?_,?_,?_,?_,?_,?_,?_,?_,?_,?_,?_,?_,?_,?_,?_,?_,?_,?_,?_,?_,?_⟩
   iterate 2 all_goals try first
    | k_is
    | (refine' Lc.def_mk KX G ?a ?l ?c ?k;(case a=>k_is);(case l=>k_is);(case c=>k_is);(case k=>k_is))
    | (refine' Lc.meth_mk ?a ?i ?l ?c ?k;(case a=>k_is);(case i=>k_is);(case l=>k_is);(case c=>k_is);(case k=>k_is))
    | (refine' Lc.int_mk KX G ?a;(case a=>k_is))
    | (refine' PySem.W.mg_none_of KX G ?a;(case a=>k_is))
    | (refine' Lc.ref_mk KX G ?a;(case a=>k_is))
    | (refine' PySem.W.mg_of KX G ?a;(case a=>k_is))
    | (refine' Lc.tup_mk ?l ?z ?v;(case l=>k_is);(case z=>decide);(case v=>repeat first | exact .nil | refine .cons rfl ?_ | refine .cons ⟨_,rfl⟩ ?_))
    | (refine' Lc.txt_mk ?pg ?hd ?po ?sa ?n1 ?n2 ?n3 ?n4 ?n5 ?n6 ?n7 ?n8;(case pg=>k_is);(case hd=>k_is);(case po=>k_is);(case sa=>k_is);(case n1=>k_is);(case n2=>k_is);(case n3=>k_is);(case n4=>k_is);(case n5=>k_is);(case n6=>k_is);(case n7=>k_is);(case n8=>k_is))
    | (refine' Lc.txtS_mk ?pg ?hd ?po ?sa ?n1 ?n2 ?n3;(case pg=>k_is);(case hd=>k_is);(case po=>k_is);(case sa=>k_is);(case n1=>k_is);(case n2=>k_is);(case n3=>k_is))
    | refine' Lc.shapes_mk ?_ ?_ ?_ ?_ ?_ ?_ ?_ ?_ ?_ ?_ ?_ ?_ ?_ ?_ ?_ ?_
end

