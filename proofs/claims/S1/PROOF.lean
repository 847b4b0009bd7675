import PyProof.Rows.All
import PyVbbhal
import Wide.All
import OpenK.AllK
import Wide.FinOn
import PyProof.EqAt
import PyProof.EqKinds
import PyProof.TupleCall
import KE.BitLaws
import Open.SpecLaws
import KE.OsHead
import KE.OsGo
import PySem.Challenge.RW_monthsclosed_s01_answers
import KE.KNestM
import KE.KLam
import KE.KDictSum
import KE.KSortTupG
import KE.KSortKeyAny
import KE.KTupSum
import PyFlatLaws
set_option compiler.extract_closed false
set_option Elab.async false
set_option linter.all false
set_option maxRecDepth 100000
set_option maxHeartbeats 2000000
theorem kW9:PySem.Challenge.rw_monthsclosed_s01_answers.wellSaid=true:=by decide +kernel
def Dq(a:Prop):Prop:=a
theorem dq{a:Prop}(b:Dq a):a:=b
theorem dI{a:Prop}(b:a):Dq a=True:=eq_true b
local macro_rules | `(tactic| f_assign $t) => `(tactic| (refine @dq _ ?_; simp (disch := k_dflt $t) only [dI]))
abbrev Ji:=@PyProof.Rows.slot_tuple_getitem
abbrev Jj:=@PySem.F.slot_dict_valueiterator_next
abbrev Jk:=@PySem.wpAny_typeNameOfWhole_itemiter
abbrev Jl:=@PySem.F.slot_dict_itemiterator_next
abbrev Jm:=@PySem.wpAny_typeNameOfWhole_keyiter
abbrev Jn:=@PySem.wpAny_typeNameOfWhole_valiter
abbrev Jo:=@PySem.F.slot_dict_keyiterator_iter
abbrev Jp:=@PySem.F.slot_dict_keyiterator_next
abbrev Jq:=@PyProof.Rows.callWith_type1
abbrev Jr:=@Array.getElem?_eq_some_iff
abbrev Js:=@PySem.F.slot_tuple_iterator_next
abbrev Jt:=@List.getD_eq_getElem?_getD
abbrev Ju:=@List.perm_append_singleton
abbrev Jv:=@Array.getElem?_eq_getElem
abbrev Jw:=@Classical.byContradiction
abbrev Jx:=@List.getElem?_eq_some_iff
abbrev Jy:=@List.mem_of_find?_eq_some
abbrev Jz:=@PySem.wpAny_typeNameOf_itemiter
abbrev JA:=@List.getElem?_eq_getElem
abbrev JB:=@PySem.F.slot_list_append
abbrev JC:=@PySem.F.type_list_append
abbrev JD:=@PySem.wpAny_typeNameOf_keyiter
abbrev JE:=@PySem.wpAny_typeNameOf_valiter
abbrev JF:=@Int.eq_ofNat_of_zero_le
abbrev JG:=@List.length_eq_zero_iff
abbrev JH:=@PySem.F.plainAttrs_list
abbrev JJ:=@PySem.wpAny_callSpecial?_slot
abbrev JK:=@PySem.Heap.get?_push_of_some
abbrev JL:=@PySem.Heap.get?_update_other
abbrev JM:=@List.filter_eq_nil_iff
abbrev JN:=@List.find?_cons_of_neg
abbrev JO:=@List.find?_cons_of_pos
abbrev JP:=@List.take_of_length_le
abbrev JQ:=@Option.map_eq_some_iff
abbrev JR:=@PySem.F.entry_dict_get
abbrev JS:=@PySem.wpAny_isOneOf_itemiter
abbrev JT:=@PySem.Heap.get?_update_self
abbrev JU:=@List.getElem?_eq_none
abbrev JV:=@List.length_filter_le
abbrev JW:=@List.mem_append_right
abbrev JX:=@List.mem_iff_getElem?
abbrev JY:=@PySem.F.slot_dict_get
abbrev JZ:=@PySem.wpAny_isOneOf_valiter
abbrev J0:=@List.mem_cons_of_mem
abbrev J_:=@List.mem_of_getElem?
abbrev Ka:=@Array.length_toList
abbrev Kb:=@PySem.Heap.SameBut.update
abbrev Kc:=@PySem.Heap.get?_push_size
abbrev Kd:=@List.filterMap_cons
abbrev Ke:=@List.filter_eq_self
abbrev Kf:=@List.filter_sublist
abbrev Kg:=@List.getElem?_range
abbrev Kh:=@List.map_congr_left
abbrev Ki:=@PySem.mem_of_lookup
abbrev Kj:=@beq_eq_false_iff_ne
abbrev Kl:=@Bool.false_ne_true
abbrev Kn:=@List.Sublist.nodup
abbrev Ko:=@List.filter_append
abbrev Kq:=@List.find?_eq_none
abbrev Kr:=@List.length_append
abbrev Ks:=@List.mem_cons_self
abbrev Kt:=@List.mem_singleton
abbrev Ku:=@List.pairwise_cons
abbrev Kv:=@Nat.lt_of_le_of_lt
abbrev Kw:=@Nat.lt_of_lt_of_le
abbrev Kx:=@PySem.Obj.data_mapFields
abbrev Ky:=@PySem.tupleKind_room_in1
abbrev Kz:=@PySem.wpAny_Call_Name_kw
abbrev KA:=@PySem.wpAny_pyIter_tuple
abbrev KC:=@PySem.wpAny_setField_rec
abbrev KD:=@Bool.eq_false_iff
abbrev KG:=@Int.toNat_natCast
abbrev KH:=@List.append_assoc
abbrev KI:=@List.filter_congr
abbrev KJ:=@List.flatMap_cons
abbrev KL:=@List.getElem?_map
abbrev KN:=@List.nodup_append
abbrev KO:=@List.pairwise_map
abbrev KP:=@List.size_toArray
abbrev KQ:=@Nat.le_of_succ_le
abbrev KR:=@Nat.lt_succ_of_lt
abbrev KS:=@decide_eq_true_eq
abbrev KU:=@of_decide_eq_true
abbrev KW:=@PySem.wpAny_Call_method
abbrev KY:=@PySem.wpAny_dictEntries
abbrev KZ:=@PySem.wpAny_newObj_type
abbrev K0:=@PySem.wpAny_pyIter_slot
abbrev K2:=@PySem.wpAny_truthy_bool
abbrev K3:=@Bool.and_eq_true
abbrev K6:=@PySem.F.plain_max_loop
abbrev K7:=@List.all_eq_true
abbrev K8:=@List.filter_cons
abbrev K9:=@List.length_cons
abbrev K_:=@List.length_take
abbrev La:=@List.lookup_cons
abbrev Lb:=@List.take_length
abbrev Ld:=@Nat.le_add_right
abbrev Le:=@Nat.lt_succ_self
abbrev Lf:=@decide_eq_decide
abbrev Lg:=@PySem.wpAny_call_entry
abbrev Lh:=@Int.natCast_add
abbrev Li:=@List.Perm.of_eq
abbrev Lj:=@List.append_nil
abbrev Ll:=@List.find?_cons
abbrev Lm:=@List.find?_some
abbrev Ln:=@List.length_map
abbrev Lo:=@List.length_nil
abbrev Lp:=@List.map_append
abbrev Lq:=@List.mem_append
abbrev Lr:=@List.mem_filter
abbrev Ls:=@List.nodup_cons
abbrev Lu:=@List.sum_append
abbrev Lv:=@Option.some.inj
abbrev Lw:=@PySem.PassesOwn.never
abbrev Lx:=@decide_eq_false
abbrev Ly:=@PySem.wpAny_dictEpoch
abbrev Lz:=@PySem.wpAny_passesOwn
abbrev LA:=@PySem.Heap.size_push
abbrev LB:=@List.drop_drop
abbrev LC:=@List.mem_range
abbrev LD:=@List.take_zero
abbrev LF:=@decide_eq_true
abbrev LG:=@PySem.wpAny_fieldsOf
abbrev LH:=@PySem.wpAny_seqItems
abbrev LI:=@PySem.wpAny_setField
abbrev LJ:=@List.any_cons
abbrev LK:=@List.cons.inj
abbrev LM:=@List.map_cons
abbrev LN:=@List.mem_cons
abbrev LO:=@List.sum_cons
abbrev LP:=@Nat.lt_irrefl
abbrev LQ:=@PySem.Paired.length
abbrev LR:=@PySem.wpAny_attempt
abbrev LS:=@PySem.wpAny_holding
abbrev LU:=@PySem.Heap.lt_size
abbrev LV:=@List.map_map
abbrev LW:=@List.map_nil
abbrev LX:=@List.mem_map
abbrev LY:=@Nat.le_trans
abbrev LZ:=@Nat.ne_of_gt
abbrev L3:=@Nat.ne_of_lt
abbrev L4:=@List.map_id
abbrev L5:=@Nat.add_mul
abbrev L6:=@Nat.le_refl
abbrev L7:=@Nat.zero_le
abbrev L8:=@PySem.wpAny_field
abbrev L9:=@PySem.wpAny_letGo
abbrev L_:=@beq_iff_eq
abbrev Ma:=@PySem.wpAny_bind
abbrev Mb:=@PySem.wpAny_mono
abbrev Md:=@PySem.wpAny_pure
abbrev Me:=@congrArg
abbrev Mg:=@Ne.symm
abbrev Mi:=@if_neg
abbrev Mj:=@if_pos
namespace Dt
open Vbbhal
def iY(y:Int):Bool:=if y%100=0 then decide (y%400=0)else decide (y%4=0)
def Ei:List Int:=[31,28,31,30,31,30,31,31,30,31,30,31]
def B2(y a:Int):Int:=if a=2∧iY y=true then 29 else Ei.getD (a-1).toNat 0
def Ej(y:Int):Int:=y/4-y/100+y/400
def pB(y:Int):Int:=365*(y-1900)+(Ej (y-1)-Ej (1900-1))
theorem zq(y:Nat):iY (y:Int)=leap y:=by f_assign(
 have d:((y:Int)%100=0)↔(y%100=0):=by lia
 have e:((y:Int)%400=0)↔(y%400=0):=by lia
 have f:((y:Int)%4=0)↔(y%4=0):=by lia
 unfold iY leap;by_cases c:y%100=0
 ·rw[Mj (d.mpr c)];by_cases a:y%400=0
  ·have g:y%4=0:=by lia
   simp[e.mpr a,a,g]
  ·have:¬((y:Int)%400=0):=λb=>a (e.mp b);simp[this,c,a]
 ·rw[Mi (λb=>c (d.mp b))];by_cases a:y%4=0;·simp[f.mpr a,c,a]
  ·have:¬((y:Int)%4=0):=λb=>a (f.mp b);simp[this,a])
theorem qP(k:Nat):monthLength k=if k%12=1 then(if leap (1900+k/12)=true then 29 else 28)else if k%12=3∨k%12=5∨k%12=8∨k%12=10 then 30 else 31:=by unfold monthLength;have a:=Nat.mod_lt k (show 0<12 by decide);simp only[show(k%12+1=2)=(k%12=1)by simp,show(k%12+1=4)=(k%12=3)by simp,show(k%12+1=6)=(k%12=5)by simp,show(k%12+1=9)=(k%12=8)by simp,show(k%12+1=11)=(k%12=10)by simp]
theorem ya(k:Nat):B2 (((1900+k/12:Nat)):Int) (((k%12+1:Nat)):Int)=(monthLength k:Int):=by
 rw[qP];unfold B2;rw[zq];have c:=Nat.mod_lt k (show 0<12 by decide);generalize k%12=a at c;generalize leap (1900+k/12)=b;have:a=0∨a=1∨a=2∨a=3∨a=4∨a=5∨a=6∨a=7∨a=8∨a=9∨a=10∨a=11:=by lia
 rcases this with rfl|rfl|rfl|rfl|rfl|rfl|rfl|rfl|rfl|rfl|rfl|rfl<;>cases b<;>rfl
theorem Gg(k:Nat):28≤monthLength k∧monthLength k≤31:=by
 rw[qP];repeat' split
 all_goals lia
theorem ju(b a:Nat)(c:a<12):monthLength (12*b+a)=if a=1 then(if leap (1900+b)=true then 29 else 28)else if a=3∨a=5∨a=8∨a=10 then 30 else 31:=by rw[qP,show(12*b+a)%12=a by lia,show(12*b+a)/12=b by lia]
theorem zr(a:Nat):daysBefore (12*(a+1))=daysBefore (12*a)+(if leap (1900+a)=true then 366 else 365):=by show daysBefore (12*a+12)=_;simp only[daysBefore];have b:monthLength (12*a)=31:=ju a 0 (by decide);rw[b,ju a 1 (by decide),ju a 2 (by decide),ju a 3 (by decide),ju a 4 (by decide),ju a 5 (by decide),ju a 6 (by decide),ju a 7 (by decide),ju a 8 (by decide),ju a 9 (by decide),ju a 10 (by decide),ju a 11 (by decide)];by_cases c:leap (1900+a)=true<;>simp[c]
theorem B3(y:Int):pB (y+1)=pB y+(if iY y=true then 366 else 365):=by
 unfold pB Ej iY;have:y+1-1=y:=by lia
 rw[this];by_cases b:y%100=0
 ·rw[Mj b];by_cases a:y%400=0;·rw[Mj (LF a)];lia
  ·rw[Mi (by simp[a])];lia
 ·rw[Mi b];by_cases a:y%4=0;·rw[Mj (LF a)];lia
  ·rw[Mi (by simp[a])];lia
theorem qQ:∀a:Nat,pB (((1900+a:Nat)):Int)=(daysBefore (12*a):Int)|0=>by decide|a+1=>by rw[zr,show(((1900+(a+1):Nat)):Int)=((1900+a:Nat):Int)+1 by lia,B3,qQ a,zq];by_cases b:leap (1900+a)=true<;>simp[b]
theorem gX(k:Nat):daysBefore (k+1)=daysBefore k+monthLength k:=rfl
theorem mK:∀(k a:Nat),daysBefore k+28*a≤daysBefore (k+a)|k,0=>by simp|k,a+1=>by have:=mK k a;have b:=(Gg (k+a)).1;rw[show k+(a+1)=(k+a)+1 by lia,gX];lia
theorem zt:daysBefore 12000=365243:=by
 have a:=qQ 1000;have b:pB (((1900+1000:Nat)):Int)=365243:=by decide
 rw[b]at a;have:(12*1000:Nat)=12000:=by decide
 rw[this]at a;lia
theorem Fv:∀(c a b k:Nat),a≤k→k<a+c→daysBefore k<daysBefore a+b→daysBefore a+b≤daysBefore (k+1)→monthPlace c a b=(k,daysBefore a+b-daysBefore k)
 |0,a,b,k,d,e,_,_=>by lia|c+1,a,b,k,d,e,j,f=>by
  unfold monthPlace;by_cases g:k=a;·subst g;rw[gX]at f;rw[Mj (by lia)];congr 1;lia
  ·have h:=mK (a+1) (k-(a+1));rw[show a+1+(k-(a+1))=k by lia,gX]at h;rw[Mi (by lia)];have i:=Fv c (a+1) (b-monthLength a) k (by lia) (by lia) (by rw[gX];lia) (by rw[gX];lia);rw[i,gX];congr 1;lia
theorem Fw{a k:Nat}(c:k<12000)(d:daysBefore k<a)(e:a≤daysBefore (k+1)):monthPlace MONTHS 0 a=(k,a-daysBefore k):=by have b:=Fv MONTHS 0 a k (L7 _) (by show k<0+12000;lia) (by show daysBefore k<0+a;lia) (by show 0+a≤_;lia);rw[b];show(k,0+a-daysBefore k)=_;rw[Nat.zero_add]
theorem Fx{a k:Nat}(b:k<12000)(c:daysBefore k<a)(d:a≤daysBefore (k+1)):monthOf a=k:=by unfold monthOf;rw[Fw b c d]
theorem B4{b:Nat}(c:1≤b):daysBefore (12*((b-1)/366))<b:=by
 have:∀a:Nat,daysBefore (12*a)≤366*a:=by intro a;induction a with|zero=>decide|succ a d=>rw[zr];split<;>lia
 have:=this ((b-1)/366);lia
theorem Ek{b a:Nat}(d:b≤365243)(e:daysBefore (12*(a+1))<b):a+1<1000:=by
 by_cases c:a+1<1000;·exact c
 ·have:=mK (12*1000) (12*(a+1)-12*1000);rw[show 12*1000+(12*(a+1)-12*1000)=12*(a+1)by lia]at this;have f:daysBefore (12*1000)=365243:=zt;lia
theorem yb{c a b:Nat}(e:c≤daysBefore (12*(a+1)))(f:daysBefore (12*a+(b+1))<c):b+1<12:=by
 by_cases d:b+1<12;·exact d
 ·have:=mK (12*(a+1)) (12*a+(b+1)-12*(a+1));rw[show 12*(a+1)+(12*a+(b+1)-12*(a+1))=12*a+(b+1)by omega]at this;omega
end Dt
namespace Tr
open Vbbhal
inductive be(s:State):Bytes→List Bytes→Prop|top{c:Bytes}{a:Account}:accountAt s c=some a→a.parent=none→be s c [c]|up{c q:Bytes}{a:Account}{p:List Bytes}:accountAt s c=some a→a.parent=some q→be s q p→be s c (c::p)
structure WF(s:State):Prop where
 nd:(s.accounts.map (·.code)).Nodup
 ch:∀a∈s.accounts,∃p,be s a.code p∧p.length≤8
theorem bb{c:State}{d:Bytes}{a:Account}(b:accountAt c d=some a):a.code=d∧a∈c.accounts:=by unfold accountAt at b;have e:=Lm b;have f:=Jy b;exact⟨eq_of_beq e,f⟩
theorem mL:∀{b:List Account}{a:Account},(b.map (·.code)).Nodup→a∈b→b.find? (λx=>x.code==a.code)=some a
 |[],a,_,d=>by simp at d|e::b,a,f,d=>by
  have g:(e.code::b.map (·.code)).Nodup:=f;obtain⟨h,i⟩:=Ls.mp g;rcases LN.mp d with c|c;·subst c;rw[JO (by simp)]
  ·have:e.code≠a.code:=λj=>h (by rw[j];exact LX.mpr ⟨a,c,rfl⟩);rw[JN (by simp[this])];exact mL i c
theorem WF.at_{b:State}(W:WF b){a:Account}(c:a∈b.accounts):accountAt b a.code=some a:=mL W.nd c
theorem be.det{f:State}{g:Bytes}{h:List Bytes}(i:be f g h):be f g q→h=q:=by induction i generalizing q with
 |top c d=>intro e;cases e with|top _ _=>rfl|up a b _=>rw[c]at a;cases a;rw[d]at b;cases b
 |up c d _ j=>intro e;cases e with|top a b=>rw[c]at a;cases a;rw[d]at b;cases b|up a b l=>rw[c]at a;cases a;rw[d]at b;cases b;rw[j l]
theorem be.path{f:State}{g:Bytes}{c:List Bytes}(h:be f g c):∀a,c.length≤a→Vbbhal.path f a g=c:=by induction h with
 |top d e=>intro a b;cases a with|zero=>simp at b|succ a=>simp only[Vbbhal.path,d,e]
 |up d e _ i=>intro a b;cases a with|zero=>simp at b|succ a=>have:=i a (by simpa using b);simp only[Vbbhal.path,d,e,this]
theorem WF.chain{b:State}(W:WF b){c:Bytes}(f:accountAt b c=some a):be b c (pathOf b c)∧(pathOf b c).length≤8:=by obtain⟨g,h⟩:=bb f;obtain⟨i,d,e⟩:=W.ch a h;rw[g]at d;have:pathOf b c=i:=d.path 8 e;rw[this];exact⟨d,e⟩
theorem gI{a:State}{b:Bytes}(c:accountAt a b=none):pathOf a b=[]:=by show Vbbhal.path a 8 b=[];simp only[Vbbhal.path,c]
theorem be.ne{c:State}{a:Bytes}{b:List Bytes}(d:be c a b):∃t,b=a::t:=by cases d with|top _ _=>exact⟨[],rfl⟩|up _ _ _=>exact⟨_,rfl⟩
theorem be.acc{d:State}{g x:Bytes}{f:List Bytes}(h:be d g f):x∈f→∃a,accountAt d x=some a:=by induction h with|top c _=>intro b;simp at b;subst b;exact⟨_,c⟩|up c _ _ i=>
 intro b;rcases LN.mp b with e|e;·subst e;exact⟨_,c⟩
 ·exact i e
theorem be.sub{i:State}{d x:Bytes}{b:List Bytes}(j:be i d b):x∈b→∃f,be i x f∧f.length≤b.length:=by induction j with|@top d a g h=>intro c;simp at c;subst c;exact⟨[x],.top g h,L6 _⟩|@up d f a b g h l m=>
 intro c;rcases LN.mp c with e|e;·subst e;exact⟨_,.up g h l,L6 _⟩
 ·obtain⟨n,o,p⟩:=m e;exact⟨n,o,LY p (by simp)⟩
theorem be.nodup{f:State}{c:Bytes}{b:List Bytes}(g:be f c b):b.Nodup:=by induction g with|top _ _=>simp|@up c n a b h i d j=>refine Ls.mpr ⟨λl=>?_,j⟩;obtain⟨o,m,e⟩:=d.sub l;have:=m.det (be.up h i d);rw[this]at e;simp at e;lia
theorem be.next{g:State}{d:Bytes}{c:List Bytes}(h:be g d c):∀{k:Nat},c[k]?=some x→c[k+1]?=(accountAt g x).bind (·.parent):=by induction h with
 |@top d a e f=>intro k b;cases k with|zero=>simp at b;subst b;simp[e,f]|succ k=>simp at b
 |@up d n a c e f i j=>intro k b;cases k with|zero=>simp at b;subst b;obtain⟨t,l⟩:=i.ne;simp[e,f,l]|succ k=>
  have m:c[k]?=some x:=by simpa using b
  have:=j m;simpa using this
theorem cM{e:State}{f x:Bytes}:x∈children e f↔∃a∈e.accounts,a.parent=some f∧a.code=x:=by
 unfold children;simp only[List.mem_map,List.mem_filter,beq_iff_eq];constructor;·rintro⟨a,⟨b,c⟩,d⟩;exact⟨a,b,c,d⟩
 ·rintro⟨a,b,c,d⟩;exact⟨a,⟨b,c⟩,d⟩
theorem WF.next{d:State}(W:WF d){f:Bytes}{b:List Bytes}{k:Nat}(e:be d x b):b[k+1]?=some f↔∃y∈children d f,b[k]?=some y:=by f_assign(
 constructor;·intro g;obtain⟨p,_⟩:=Jx.mp g;have c:b[k]?=some b[k]:=JA (by omega);obtain⟨a,h⟩:=e.acc (J_ c);have:=e.next c;rw[g,h]at this;obtain⟨i,j⟩:=bb h;exact⟨b[k],cM.mpr ⟨a,j,by simpa using this.symm,i⟩,c⟩
 ·rintro⟨y,l,c⟩;obtain⟨a,m,n,o⟩:=cM.mp l;have:=e.next c;rw[this,←o,W.at_ m];exact n)
theorem max_lt:∀(b:List Nat)(a k:Nat),k<b.foldl max a↔k<a∨∃c∈b,k<c
 |[],a,k=>by simp|x::b,a,k=>by
  rw[List.foldl_cons,max_lt b];constructor
  ·rintro(c|⟨y,d,f⟩)
   ·by_cases g:k<a;·exact .inl g
    ·exact .inr ⟨x,by simp,by lia⟩
   ·exact .inr ⟨y,by simp[d],f⟩
  ·rintro(c|⟨y,d,f⟩);·exact .inl (by lia)
   ·rcases LN.mp d with e|e;·subst e;exact .inl (by lia)
    ·exact .inr ⟨y,e,f⟩
theorem max_le:∀(b:List Nat)(c a:Nat),c≤a→(∀d∈b,d≤a)→b.foldl max c≤a|[],c,a,d,_=>d|x::b,c,a,d,e=>by rw[List.foldl_cons];exact max_le b _ a (by have:=e x (by simp);lia) λy f=>e y (by simp[f])
theorem tW(b:State):∀(a:Nat)(c:Bytes),height b a c≤a
 |0,c=>by simp[height]|a+1,c=>by
  simp only[height];have:=max_le ((children b c).map (height b a)) 0 a (L7 _) λf d=>by obtain⟨y,_,e⟩:=LX.mp d;rw[←e];exact tW b a y
  lia
theorem WF.height{b:State}(W:WF b):∀(e k:Nat)(c:Bytes),k<e→(∃a,accountAt b c=some a)→(k<height b e c↔∃x a,accountAt b x=some a∧(pathOf b x)[k]?=some c)|0,k,c,q,_=>by lia|e+1,k,c,q,⟨a,p⟩=>by f_assign(simp only[Vbbhal.height];cases k with|zero=>refine⟨λ_=>⟨c,a,p,?_⟩,λ_=>by lia⟩;obtain⟨t,r⟩:=(W.chain p).1.ne;rw[r];rfl|succ k=>
 have s:k+1<1+((children b c).map (Vbbhal.height b e)).foldl max 0↔∃y∈children b c,k<Vbbhal.height b e y:=by
  have:=max_lt ((children b c).map (Vbbhal.height b e)) 0 k;constructor
  ·intro u;rcases this.mp (by lia)with u|⟨z,d,f⟩;·lia
   ·obtain⟨y,g,j⟩:=LX.mp d;exact⟨y,g,by rw[j];exact f⟩
  ·rintro⟨y,d,f⟩;have:=this.mpr (.inr ⟨_,LX.mpr ⟨y,d,rfl⟩,f⟩);lia
 rw[s];constructor
 ·rintro⟨y,d,f⟩;obtain⟨h,g,j,l⟩:=cM.mp d;have m:accountAt b y=some h:=by rw[←l];exact W.at_ g
  obtain⟨x,n,i,o⟩:=(WF.height W e k y (by lia) ⟨h,m⟩).mp f;exact⟨x,n,i,(W.next (W.chain i).1).mpr ⟨y,d,o⟩⟩
 ·rintro⟨x,n,i,o⟩;obtain⟨y,d,f⟩:=(W.next (W.chain i).1).mp o;obtain⟨h,g,j,l⟩:=cM.mp d;have m:accountAt b y=some h:=by rw[←l];exact W.at_ g
  exact⟨y,d,(WF.height W e k y (by lia) ⟨h,m⟩).mpr ⟨x,n,i,f⟩⟩)
theorem WF.B0{c:State}(W:WF c){b:Bytes}(f:accountAt c b=some a){d:Nat}(o:1≤d)(l:∀x e k,accountAt c x=some e→(pathOf c x)[k]?=some b→k+1≤d)(m:d=1∨∃x e k,accountAt c x=some e∧(pathOf c x)[k]?=some b∧d=k+1):Vbbhal.height c 8 b=d:=by f_assign(
 have p:=tW c 8 b;rcases Nat.lt_trichotomy (Vbbhal.height c 8 b) d with h|h|h
 ·rcases m with j|⟨x,e,k,g,i,j⟩;·have:0<Vbbhal.height c 8 b:=(WF.height W 8 0 b (by decide) ⟨a,f⟩).mpr (by obtain⟨t,j⟩:=(W.chain f).1.ne;exact⟨b,a,f,by rw[j];rfl⟩);lia
  ·have n:k<8:=by have:=(W.chain g).2;obtain⟨q,_⟩:=Jx.mp i;lia
   have:=(WF.height W 8 k b n ⟨a,f⟩).mpr ⟨x,e,g,i⟩;lia
 ·exact h
 ·obtain⟨x,e,g,i⟩:=(WF.height W 8 d b (by lia) ⟨a,f⟩).mp h;have:=l x e d g i;lia)
theorem dY{c:Type}:∀(a:List c)(b:c→Int),(∀x∈a,b x=0)→(a.map b).sum=0|[],_,_=>rfl|x::a,b,d=>by rw[LM,LO,d x (by simp),dY a b λy e=>d y (by simp[e])];rfl
theorem sum_add{d:Type}:∀(a:List d)(b c:d→Int),(a.map λx=>b x+c x).sum=(a.map b).sum+(a.map c).sum|[],_,_=>rfl|x::a,b,c=>by simp only[List.map_cons,List.sum_cons,sum_add a b c];lia
theorem mM{d e:Type}(c:d→e→Int):∀(b:List d)(a:List e),(b.map λx=>(a.map λy=>c x y).sum).sum=(a.map λy=>(b.map λx=>c x y).sum).sum|[],a=>by have:=dY a (λ_=>(0:Int)) λ_ _=>rfl;simpa using this.symm|x::b,a=>by simp only[List.map_cons,List.sum_cons];rw[mM c b a,←sum_add]
theorem kN{c:Type}[DecidableEq c]:∀(a:List c)(y:c)(b:Int),a.Nodup→y∈a→(a.map λx=>if x=y then b else 0).sum=b
 |[],y,b,_,d=>by simp at d|x::a,y,b,g,d=>by
  obtain⟨h,i⟩:=Ls.mp g;rw[LM,LO];by_cases e:x=y;·subst e;rw[Mj rfl,dY a _ λl j=>Mi λf=>h (by rw[←f];exact j)];lia
  ·rw[Mi e,kN a y b i ((LN.mp d).resolve_left λf=>e f.symm)];lia
theorem dC{d:Type}:∀(a:List d)(b c:d→Int),(∀x∈a,b x=c x)→(a.map b).sum=(a.map c).sum|[],_,_,_=>rfl|x::a,b,c,e=>by rw[LM,LM,LO,LO,e x (by simp),dC a b c λy f=>e y (by simp[f])]
theorem iE{a:List Account}{b:Account→Bool}(c:(a.map (·.code)).Nodup):((a.filter b).map (·.code)).Nodup:=Kn (List.Sublist.map _ (Kf)) c
theorem cF{d:Type}{e:List d}{b:Nat}{x:d}:x∈e.take b↔∃k,k<b∧e[k]?=some x:=by
 constructor
 ·intro f;obtain⟨k,a⟩:=JX.mp f;rw[List.getElem?_take]at a;by_cases c:k<b;·rw[Mj c]at a;exact⟨k,c,a⟩
  ·rw[Mi c]at a;cases a
 ·rintro⟨k,g,h⟩;exact JX.mpr ⟨k,by rw[List.getElem?_take,Mj g];exact h⟩
theorem jv{c:Type}{b:List c}(d:b.Nodup){i j:Nat}{x:c}(a:b[i]?=some x)(e:b[j]?=some x):i=j:=by obtain⟨h,f⟩:=Jx.mp a;obtain⟨l,g⟩:=Jx.mp e;exact(List.getElem_inj d).mp (f.trans g.symm)
theorem WF.ind{g:State}(W:WF g){d:List Bytes}(e:be g x d)(m:Nat)(a:Bytes)(h:Int):(if a∈d.take (m+1)then h else 0)=(if x=a then h else 0)+((children g a).map λy=>if y∈d.take m then h else 0).sum:=by f_assign(
 have n:d[0]?=some x:=by obtain⟨t,b⟩:=e.ne;rw[b];rfl
 have p:=e.nodup;by_cases i:a∈d.take (m+1)
 ·rw[Mj i];obtain⟨k,A,b⟩:=cF.mp i;cases k with|zero=>
  have q:x=a:=by rw[n]at b;exact Lv b
  rw[Mj q,dY _ _ λy j=>Mi λl=>?_];·lia
  ·obtain⟨o,_,f⟩:=cF.mp l;have:=jv p b ((W.next e).mpr ⟨y,j,f⟩);lia|succ k=>
  have q:x≠a:=λc=>by rw[c]at n;have:=jv p b n;lia
  obtain⟨s,u,r⟩:=(W.next e).mp b;have v:∀y∈children g a,(if y∈d.take m then h else 0)=if y=s then h else 0:=λy j=>by
   by_cases c:y=s;·subst c;rw[Mj rfl,Mj (cF.mpr ⟨k,by lia,r⟩)]
   ·rw[Mi c,Mi λl=>?_];obtain⟨o,_,f⟩:=cF.mp l;have:=jv p b ((W.next e).mpr ⟨y,j,f⟩);have:o=k:=by lia
    subst this;rw[f]at r;exact c (Lv r)
  have z:(children g a).Nodup:=iE W.nd;rw[Mi q,dC _ _ _ v,kN _ _ _ z u];lia
 ·rw[Mi i,Mi λc=>i (cF.mpr ⟨0,by lia,by rw[n,c]⟩),dY _ _ λy j=>Mi λl=>?_];·rfl
  ·obtain⟨o,B,f⟩:=cF.mp l;exact i (cF.mpr ⟨o+1,by lia,(W.next e).mpr ⟨y,j,f⟩⟩))
theorem WF.below{b:State}(W:WF b)(d:Bytes→Int):∀(e:Nat)(c:Bytes),(∃a,accountAt b c=some a)→Vbbhal.below b d e c=(b.accounts.map λa=>if c∈(pathOf b a.code).take e then d a.code else 0).sum|0,c,_=>by simp only[Vbbhal.below];rw[dY _ _ λa _=>Mi (by simp)]|e+1,c,⟨g,h⟩=>by f_assign(
 simp only[Vbbhal.below];have i:(children b c).map (Vbbhal.below b d e)=(children b c).map λy=>(b.accounts.map λa=>if y∈(pathOf b a.code).take e then d a.code else 0).sum:=by apply Kh;intro y hy;obtain⟨a,j,_,l⟩:=cM.mp hy;exact WF.below W d e y ⟨a,by rw[←l];exact W.at_ j⟩
 rw[i,←mM (λ(a:Account)y=>if y∈(pathOf b a.code).take e then d a.code else 0)];have m:∀a∈b.accounts,(if c∈(pathOf b a.code).take (e+1)then d a.code else 0)=(if a.code=c then d a.code else 0)+((children b c).map λy=>if y∈(pathOf b a.code).take e then d a.code else 0).sum:=λa n=>W.ind (W.chain (W.at_ n)).1 e c (d a.code);rw[dC _ _ _ m,sum_add];congr 1;obtain⟨o,p⟩:=bb h;have q:(b.accounts.map λa=>if a.code=c then d a.code else 0)=(b.accounts.map (·.code)).map λx=>if x=c then d c else 0:=by
  rw[LV];apply Kh;intro a _;show _=if a.code=c then d c else 0;by_cases f:a.code=c;·rw[Mj f,Mj f,f]
  ·rw[Mi f,Mi f]
 rw[q,kN _ _ _ W.nd (LX.mpr ⟨g,p,o⟩)])
theorem WF.zo{b:State}(W:WF b)(d:Bytes→Int){c:Bytes}{a:Account}(e:accountAt b c=some a):Vbbhal.below b d DEEP c=(b.accounts.map λa=>if c∈pathOf b a.code then d a.code else 0).sum:=by rw[show DEEP=8 from rfl,W.below d 8 c ⟨a,e⟩];apply dC;intro g f;rw[JP (W.chain (W.at_ f)).2]
end Tr
set_option linter.unusedVariables false
namespace Sm
open Vbbhal Tr
theorem qR(a:Bytes):before a []=false:=by cases a<;>rfl
theorem qz(a b:UInt8)(c d:Bytes):before (a::c) (b::d)=if a=b then before c d else decide (a.toNat<b.toNat):=rfl
theorem Ho{a b:UInt8}(c:a.toNat=b.toNat):a=b:=UInt8.toNat_inj.mp c
theorem gJ:∀a:Bytes,before a a=false|[]=>rfl|x::b=>by rw[qz,Mj rfl];exact gJ b
theorem jJ:∀{a g h:Bytes},before a g=true→before g h=true→before a h=true|[],[],_,b,_=>by cases b|[],_::_,[],_,b=>by rw[qR]at b;cases b|[],_::_,_::_,_,_=>rfl|_::_,[],_,b,_=>by rw[qR]at b;cases b|_::_,_::_,[],_,b=>by rw[qR]at b;cases b|x::l,y::m,e::n,b,c=>by f_assign(
 rw[qz]at b c⊢;by_cases f:x=y
 ·subst f;rw[Mj rfl]at b;by_cases d:x=e;·subst d;rw[Mj rfl]at c⊢;exact jJ b c
  ·rw[Mi d]at c⊢;exact c
 ·rw[Mi f]at b;by_cases d:y=e;·subst d;rw[Mi f];exact b
  ·rw[Mi d]at c;have o:=KU b;have p:=KU c;have i:x≠e:=λj=>by subst j;omega
   rw[Mi i];exact LF (by omega))
theorem B5:∀{a e:Bytes},before a e=false→before e a=false→a=e
 |[],[],_,_=>rfl|[],_::_,b,_=>by cases b|_::_,[],_,b=>by cases b|x::g,y::h,b,c=>by
  rw[qz]at b c;by_cases d:x=y;·subst d;rw[Mj rfl]at b c;rw[B5 b c]
  ·rw[Mi d]at b;rw[Mi λf=>d f.symm]at c;have i:=of_decide_eq_false b;have j:=of_decide_eq_false c;exact absurd (Ho (by lia)) d
def Srt(b:List Account):Prop:=b.Pairwise λa c=>before a.code c.code=true
theorem Srt.nd{b:List Account}(d:Srt b):(b.map (·.code)).Nodup:=by unfold List.Nodup;rw[KO];exact d.imp λ{a f}c e=>by rw[e,gJ]at c;cases c
theorem dc{x a:Account}:∀{e:List Account},Srt e→(a∈putAccount x e↔a=x∨(a∈e∧a.code≠x.code))|[],_=>by simp[putAccount]|y::e,h=>by f_assign(
 obtain⟨g,i⟩:=Ku.mp h;unfold putAccount;by_cases d:y.code=x.code
 ·rw[Mj d];simp only[List.mem_cons];constructor
  ·rintro(b|b);·exact .inl b
   ·exact .inr ⟨.inr b,λc=>by have:=g a b;rw[d,←c,gJ]at this;cases this⟩
  ·rintro(b|⟨b|b,c⟩);·exact .inl b
   ·subst b;exact absurd d c
   ·exact .inr b
 ·rw[Mi d];by_cases f:before x.code y.code=true
  ·rw[Mj f];simp only[List.mem_cons];constructor
   ·rintro(b|b|b);·exact .inl b
    ·exact .inr ⟨.inl b,by rw[b];exact d⟩
    ·exact .inr ⟨.inr b,λc=>by have:=jJ f (g a b);rw[c,gJ]at this;cases this⟩
   ·rintro(b|⟨b|b,c⟩);·exact .inl b
    ·exact .inr (.inl b)
    ·exact .inr (.inr b)
  ·rw[Mi f];simp only[List.mem_cons,dc i];constructor
   ·rintro(b|b|⟨b,c⟩);·exact .inr ⟨.inl b,by rw[b];exact d⟩
    ·exact .inl b
    ·exact .inr ⟨.inr b,c⟩
   ·rintro(b|⟨b|b,c⟩);·exact .inr (.inl b)
    ·exact .inl b
    ·exact .inr (.inr ⟨b,c⟩))
theorem kO:∀{f:List Account},Srt f→Srt (putAccount x f)|[],_=>by simp[putAccount,Srt]|y::f,h=>by f_assign(
 obtain⟨h1,g⟩:=Ku.mp h;unfold putAccount;by_cases e:y.code=x.code;·rw[Mj e];exact Ku.mpr ⟨λa c=>by have:=h1 a c;rw[e]at this;exact this,g⟩
 ·rw[Mi e];by_cases d:before x.code y.code=true
  ·rw[Mj d];refine Ku.mpr ⟨λa c=>?_,h⟩;rcases LN.mp c with b|b;·rw[b];exact d
   ·exact jJ d (h1 a b)
  ·rw[Mi d];refine Ku.mpr ⟨λa c=>?_,kO g⟩;rcases(dc g).mp c with b|⟨b,_⟩;·rw[b];cases z:before y.code x.code with|true=>rfl|false=>exact absurd (B5 z (by simpa using d)) e
   ·exact h1 a b)
theorem B6{x:Account}{b:Bytes}{e:List Account}(f:Srt e):(putAccount x e).find? (λa=>a.code==b)=if x.code=b then some x else e.find? (λa=>a.code==b):=by f_assign(
 have g:=kO (x:=x) f;by_cases c:x.code=b;·rw[Mj c,←c];exact mL g.nd ((dc f).mpr (.inl rfl))
 ·rw[Mi c];cases q:e.find? (λa=>a.code==b)with|some a=>have i:=Lm q;have h:a.code=b:=eq_of_beq i;have j:=Jy q;rw[←h];exact mL g.nd ((dc f).mpr (.inr ⟨j,by rw[h];exactλd=>c d.symm⟩))|none=>
  rw[Kq]at q⊢;intro a ha;rcases(dc f).mp ha with d|⟨d,_⟩;·rw[d];simp[c]
  ·exact q a d)
theorem jK{x:Account}:∀{b:List Account},(∀a∈b,a.code≠x.code)→(putAccount x b).length=b.length+1
 |[],_=>rfl|y::b,c=>by
  unfold putAccount;rw[Mi (c y (by simp))];by_cases d:before x.code y.code=true;·rw[Mj d];rfl
  ·rw[Mi d,K9,jK λa e=>c a (by simp[e]),K9]
theorem pC{x:Account}:∀{b:List Account},Srt b→(∃a∈b,a.code=x.code)→(putAccount x b).length=b.length|[],_,c=>by obtain⟨a,c,_⟩:=c;simp at c|y::b,g,c=>by f_assign(
 obtain⟨h,i⟩:=Ku.mp g;unfold putAccount;by_cases d:y.code=x.code;·rw[Mj d];rfl
 ·obtain⟨a,j,e⟩:=c;have f:a∈b:=(LN.mp j).resolve_left λl=>d (by rw[←l];exact e);have:¬before x.code y.code=true:=λm=>by have:=jJ (h a f) (by rw[e];exact m);rw[gJ]at this;cases this
  rw[Mi d,Mi this,K9,pC i ⟨a,f,e⟩,K9])
theorem jL{b:State}{a:Account}(d:Srt b.accounts)(c:Bytes):accountAt (setAccount b a) c=if a.code=c then some a else accountAt b c:=B6 d
theorem Gh{s:State}(b:Srt s.accounts){a:Account}:a∈s.accounts↔accountAt s a.code=some a:=⟨λc=>mL b.nd c,λd=>(bb d).2⟩
theorem uR{b:State}{c:Bytes}(d:accountAt b c=none):∀a∈b.accounts,a.code≠c:=λa e f=>by unfold accountAt at d;have:=Kq.mp d a e;simp[f]at this
theorem be.mono{i:State}{b:Bytes}{c:List Bytes}(j:be i b c):(∀x∈c,∀a,accountAt i x=some a→∃d,accountAt s' x=some d∧d.parent=a.parent)→be s' b c:=by induction j with|@top b a e f=>intro k;obtain⟨d,g,h⟩:=k b (by simp) a e;exact .top g (by rw[h];exact f)|@up b n a c e f o l=>intro k;obtain⟨d,g,h⟩:=k b (by simp) a e;exact .up g (by rw[h];exact f) (l λx m=>k x (by simp[m]))
structure Tree(s:State):Prop where
 srt:Srt s.accounts
 ch:∀a∈s.accounts,∃p,be s a.code p∧p.length≤8
theorem Tree.wf{a:State}(b:Tree a):WF a:=⟨b.srt.nd,b.ch⟩
theorem Tree.same{s:State}{a h:Account}(f:Tree s)(i:accountAt s a.code=some h)(p:a.parent=h.parent):Tree (setAccount s a)∧∀g,pathOf (setAccount s a) g=pathOf s g:=by f_assign(
 have k:∀x b,accountAt s x=some b→∃e,accountAt (setAccount s a) x=some e∧e.parent=b.parent:=λx b c=>by
  rw[jL f.srt];by_cases d:a.code=x;·rw[Mj d];rw[d,c]at i;cases i;exact⟨a,rfl,p⟩
  ·rw[Mi d];exact⟨b,c,rfl⟩
 have o:∀x e,accountAt (setAccount s a) x=some e→∃b,accountAt s x=some b:=λx e c=>by
  rw[jL f.srt]at c;by_cases d:a.code=x;·rw[←d];exact⟨h,i⟩
  ·rw[Mi d]at c;exact⟨e,c⟩
 have q:Tree (setAccount s a):=by refine⟨kO f.srt,λb c=>?_⟩;obtain⟨u,r⟩:=o b.code b ((Gh (s:=setAccount s a) (kO f.srt)).mp c);obtain⟨j,l⟩:=f.wf.chain r;exact⟨_,be.mono j λx _ m n=>k x m n,l⟩
 refine⟨q,λg=>?_⟩;cases d:accountAt s g with
 |none=>rw[gI d];cases q':accountAt (setAccount s a) g with|none=>exact gI q'|some e=>obtain⟨b,c⟩:=o g e q';rw[d]at c;cases c
 |some b=>obtain⟨j,l⟩:=f.wf.chain d;exact(be.mono j λx _ m n=>k x m n).path 8 l)
theorem Tree.add{b:State}{a:Account}(d:Tree b)(j:accountAt b a.code=none)(e:a.parent=none∨∃q l,a.parent=some q∧accountAt b q=some l∧(pathOf b q).length<8):Tree (setAccount b a):=by f_assign(
 have k:∀x c,accountAt b x=some c→accountAt (setAccount b a) x=some c:=λx c g=>by rw[jL d.srt,Mi λq=>by rw[q,g]at j;cases j];exact g
 refine⟨kO d.srt,λc g=>?_⟩;rcases(dc d.srt).mp g with q|⟨q,_⟩
 ·subst q;have m:accountAt (setAccount b c) c.code=some c:=by rw[jL d.srt,Mj rfl]
  rcases e with e|⟨q,l,e,o,p⟩;·exact⟨[c.code],.top m e,by simp⟩
  ·obtain⟨h,n⟩:=d.wf.chain o;refine⟨c.code::pathOf b q,.up m e (be.mono h λx _ f i=>⟨f,k x f i,rfl⟩),?_⟩;rw[K9];lia
 ·obtain⟨h,n⟩:=d.wf.chain (d.wf.at_ q);exact⟨_,be.mono h λx _ f i=>⟨f,k x f i,rfl⟩,n⟩)
theorem be.IS{f:State}{g:Bytes}{c:List Bytes}(l:be f x c):∀{k:Nat},c[k]?=some g→(∀d y,d<k→c[d]?=some y→∀a,accountAt f y=some a→accountAt s' y=some a)→be s' g r→be s' x (c.take k++r):=by f_assign(induction l with
 |@top x a h i=>intro k b _ e;cases k with|zero=>simp at b;subst b;simpa using e|succ k=>simp at b
 |@up x q a c h i s m=>intro k b j e;cases k with|zero=>simp at b;subst b;simpa using e|succ k=>have n:=m (k:=k) (by simpa using b) (λd y u o=>j (d+1) y (by lia) (by simpa using o)) e;have p:=j 0 x (by lia) (by simp) a h;show be s' x (x::(c.take k++r));exact .up p i n)
theorem Tree.move{d:State}{a:Account}(f:Tree d)(C:accountAt d a.code=some b)(h:(a.parent=none∧∀x c k,accountAt d x=some c→(pathOf d x)[k]?=some a.code→k+1≤8)∨∃e c,a.parent=some e∧accountAt d e=some c∧¬a.code∈pathOf d e∧∀x c k,accountAt d x=some c→(pathOf d x)[k]?=some a.code→(pathOf d e).length+(k+1)≤8):Tree (setAccount d a):=by f_assign(
 have s:accountAt (setAccount d a) a.code=some a:=by rw[jL f.srt,Mj rfl]
 have k:∀x c,x≠a.code→accountAt d x=some c→accountAt (setAccount d a) x=some c:=λx c i n=>by rw[jL f.srt,Mi λe=>i e.symm];exact n
 obtain⟨m,D,E⟩:∃m,be (setAccount d a) a.code m∧∀x c k,accountAt d x=some c→(pathOf d x)[k]?=some a.code→k+m.length≤8:=by
  rcases h with⟨h,o⟩|⟨e,c,h,F,G,o⟩;·exact⟨[a.code],.top s h,λx c k p q=>o x c k p q⟩
  ·obtain⟨j,u⟩:=f.wf.chain F;refine⟨a.code::pathOf d e,.up s h (be.mono j λx i g l=>⟨g,k x g (λw=>G (by rw[←w];exact i)) l,rfl⟩),λx c k p q=>?_⟩;have:=o x c k p q;rw[K9];omega
 refine⟨kO f.srt,λc n=>?_⟩;have H:∃v,accountAt d c.code=some v:=by
  rcases(dc f.srt).mp n with e|⟨e,_⟩;·rw[e];exact⟨b,C⟩
  ·exact⟨c,f.wf.at_ e⟩
 obtain⟨v,z⟩:=H;obtain⟨j,u⟩:=f.wf.chain z;by_cases A:a.code∈pathOf d c.code
 ·obtain⟨I,r⟩:=JX.mp A;refine⟨(pathOf d c.code).take I++m,be.IS j r (λJ y L B g l=>k y g (λw=>?_) l) D,?_⟩;·rw[w]at B;have:=jv j.nodup r B;omega
  ·have:=E _ _ _ z r;rw[Kr,K_];omega
 ·exact⟨_,be.mono j λx i g l=>⟨g,k x g (λw=>A (by rw[←w];exact i)) l,rfl⟩,u⟩)
end Sm
set_option linter.unusedVariables false
namespace Rm
open Vbbhal
theorem gk{b:Type}{since:b→Nat}{day:Nat}:∀{l:List b},latest since day l=none↔∀x∈l,day<since x|[]=>by simp[latest]|x::l=>by f_assign(
 have c:=gk (since:=since) (day:=day) (l:=l);unfold latest
 cases q:latest since day l with|some y=>
  have:¬(∀e∈l,day<since e):=λa=>by rw[c.mpr a]at q;cases q
  simp only[List.mem_cons,forall_eq_or_imp];constructor;·intro a;split at a<;>cases a
  ·rintro⟨_,a⟩;exact absurd a this|none=>
  simp only[List.mem_cons,forall_eq_or_imp];have f:=c.mp q;by_cases d:since x≤day
  ·simp only[if_pos d];constructor;·intro a;cases a
   ·rintro⟨a,_⟩;lia
  ·simp only[if_neg d];exact⟨λ_=>⟨by lia,f⟩,λ_=>trivial⟩)
theorem jM{j:Type}{c:j→Nat}{e:Nat}:∀{f:List j}{x:j},latest c e f=some x→x∈f∧c x≤e∧∀y∈f,c y≤e→c y≤c x|[],x,a=>by simp[latest]at a|l::f,x,a=>by f_assign(unfold latest at a;cases h:latest c e f with
 |some y=>
  rw[h]at a;obtain⟨n,o,m⟩:=jM h;by_cases d:c l≤e∧c y<c l
  ·simp only[if_pos d]at a;cases a;refine⟨by simp,d.1,λw g i=>?_⟩;rcases LN.mp g with b|b;·rw[b];exact L6 _
   ·have:=m w b i;lia
  ·simp only[if_neg d]at a;cases a;refine⟨by simp[n],o,λw g i=>?_⟩;rcases LN.mp g with b|b;·subst b;lia
   ·exact m w b i|none=>
  rw[h]at a;have p:=gk.mp h;by_cases d:c l≤e
  ·simp only[if_pos d]at a;cases a;refine⟨by simp,d,λw g i=>?_⟩;rcases LN.mp g with b|b;·rw[b];exact L6 _
   ·have:=p w b;lia
  ·simp only[if_neg d]at a;cases a)
theorem tX{d:Type}{a:d→Nat}{c:Nat}{b:List d}{x:d}(e:x∈b)(g:a x≤c)(h:∀y∈b,a y≤c→a y≤a x)(i:∀y∈b,a y=a x→y=x):latest a c b=some x:=by cases q:latest a c b with|none=>have:=gk.mp q x e;lia|some y=>obtain⟨f,j,l⟩:=jM q;have:=h y f j;have:=l x e g;rw[i y f (by lia)]
end Rm
set_option linter.unusedVariables false
namespace Gm
open Vbbhal Tr Sm
def pT(a:Rate):Nat×Nat×Nat×Nat:=(a.kind,a.shift,a.cls,a.since)
def B7(a:Invoice):Nat×Bytes:=(a.month,a.code)
structure Good(s:State):Prop where
 tree:Tree s
 codes:∀a∈s.accounts,isCode a.code=true
 alen:s.accounts.length≤s.capA
 capA:s.capA≤200
 capE:s.capE≤500
 today:1≤s.today∧s.today≤365243
 closed:s.closed≤monthOf s.today
 last:s.last≤s.today
 rk:(s.rates.map pT).Nodup
 rlen:s.rates.length≤100
 rb:∀r∈s.rates,1≤r.since∧r.since≤365243∧r.value≤1000000000000
 pk:(s.primes.map (·.since)).Nodup
 plen:s.primes.length≤20
 pb:∀p∈s.primes,1≤p.since∧p.since≤365243∧p.from_≤p.to∧p.to≤1440
 tk:s.tiers.Pairwise λa b=>a.1<b.1
 tlen:s.tiers.length≤5
 tb:∀t∈s.tiers,t.1≤1000000000000000∧t.2≤1000
 ek:∀i e,s.entries[i]?=some e→e.num=i+1
 elen:s.entries.length≤s.capE
 ec:∀e∈s.entries,∃a,accountAt s e.code=some a
 eo:∀e∈s.entries,e.kind=.overhead→0<e.amount∧e.amount≤1000000000000000
 ea:∀e∈s.entries,e.amount.natAbs≤10000000000000000000
 ew:∀e∈s.entries,(kindRow e.kind).length≤8
 ik:(s.invoices.map B7).Nodup
 ib:∀i∈s.invoices,i.month<s.closed
theorem aX{a lo b:Int}:inside a lo b=true↔lo≤a∧a≤b:=by unfold inside;simp
theorem gY{a:Int}:isDay a=true↔1≤a∧a≤365243:=aX
theorem tof{a:Bool}(b:¬a=false):a=true:=by cases a<;>simp_all
theorem qS{d:Nat}(i:1≤d)(j:d≤365243):∃k,k<12000∧daysBefore k<d∧d≤daysBefore (k+1)∧monthOf d=k:=by f_assign(
 have l:=Dt.zt;have:∀a,a≤12000→d≤daysBefore a→∃k,k<a∧daysBefore k<d∧d≤daysBefore (k+1):=by intro a;induction a with|zero=>intro _ c;simp[daysBefore]at c;lia|succ a g=>
  intro m c;by_cases h:d≤daysBefore a;·obtain⟨k,e,b⟩:=g (by lia) h;exact⟨k,by lia,b⟩
  ·exact⟨a,by lia,by lia,c⟩
 obtain⟨k,e,b,f⟩:=this 12000 (L6 _) (by lia);exact⟨k,e,b,f,Dt.Fx e b f⟩)
theorem Hq{a k:Nat}(b:a≤k):daysBefore a≤daysBefore k:=by have:=Dt.mK a (k-a);rw[show a+(k-a)=k by lia]at this;lia
theorem yc{d a:Nat}(c:1≤d)(i:d≤a)(e:a≤365243):monthOf d≤monthOf a:=by
 obtain⟨b,_,j,l,f⟩:=qS c (by lia);obtain⟨k,_,m,n,g⟩:=qS (d:=a) (by lia) e;rw[f,g];by_cases h:b≤k;·exact h
 ·have:=Hq (show k+1≤b by lia);lia
theorem B8{a:Nat}(b:1≤a)(c:a≤365243):monthOf a<12000:=by obtain⟨k,d,_,_,e⟩:=qS b c;lia
theorem v_{c a d:Nat}(e:1≤c)(f:c≤365243)(g:a≤200)(h:d≤500):Good (newHouse c a d)where
 tree:=⟨List.Pairwise.nil,λa b=>by cases b⟩;codes:=λa b=>by cases b
 alen:=L7 _;capA:=g;capE:=h;today:=⟨e,f⟩;closed:=L6 _;last:=L7 _;rk:=List.nodup_nil;rlen:=L7 _;rb:=λa b=>by cases b
 pk:=List.nodup_nil;plen:=L7 _;pb:=λa b=>by cases b
 tk:=List.Pairwise.nil;tlen:=L7 _;tb:=λa b=>by cases b
 ek:=λi d b=>by cases b
 elen:=L7 _;ec:=λa b=>by cases b
 eo:=λa b=>by cases b
 ea:=λa b=>by cases b
 ew:=λa b=>by cases b
 ik:=List.nodup_nil;ib:=λa b=>by cases b
theorem yd:Good start:=v_ (by decide) (by decide) (by decide) (by decide)
theorem Tree.dB{b c:State}(f:Tree b)(d:c.accounts=b.accounts):Tree c:=by
 have g:∀e,accountAt c e=accountAt b e:=λe=>by unfold accountAt;rw[d]
 refine⟨by rw[d];exact f.srt,λa h=>?_⟩;obtain⟨i,j,l⟩:=f.ch a (by rw[←d];exact h);exact⟨i,Sm.be.mono j λx _ m n=>⟨m,by rw[g];exact n,rfl⟩,l⟩
theorem B9{b:State}(a:Good b){c:Nat}(d:b.today≤c)(e:c≤365243):Good {b with today:=c}:={a with
 tree:=Tree.dB a.tree rfl
 today:=⟨LY a.today.1 d,e⟩
 closed:=LY a.closed (yc a.today.1 d e)
 last:=LY a.last d}
def cG(b a c:Nat)(d:List Prime):List Prime:=(d.filter λe=>e.since !=b)++[⟨b,a,c⟩]
theorem ye{b:State}(e:Good b){c a d:Nat}(h:1≤c)(i:c≤365243)(j:a≤d)(l:d≤1440)(m:¬20<(cG c a d b.primes).length):Good {b with primes:=cG c a d b.primes}:={e with
 tree:=Tree.dB e.tree rfl
 pk:=by f_assign(show((cG c a d b.primes).map (·.since)).Nodup;unfold cG;rw[Lp,KN];refine⟨Kn (List.Sublist.map _ Kf) e.pk,by simp,?_⟩;intro x hx y hy;simp only[List.map_cons,List.map_nil,List.mem_singleton]at hy;subst hy;obtain⟨g,f,n⟩:=LX.mp hx;have:=(Lr.mp f).2;rw[←n];simpa using this)
 plen:=Nat.le_of_not_lt m
 pb:=λg f=>by
  rcases Lq.mp f with q|q;·exact e.pb g (Lr.mp q).1
  ·simp only[List.mem_singleton]at q;subst q;exact⟨h,i,j,l⟩}
theorem A2{b:State}(c:Good b){x:Rate}(f:1≤x.since)(g:x.since≤365243)(h:x.value≤1000000000000)(i:¬100<(putRate x b.rates).length):Good {b with rates:=putRate x b.rates}:={c with
 tree:=Tree.dB c.tree rfl
 rk:=by f_assign(show((putRate x b.rates).map pT).Nodup;unfold putRate;rw[Lp,KN];refine⟨Kn (List.Sublist.map _ Kf) c.rk,by simp,?_⟩;intro y hy z hz;simp only[List.map_cons,List.map_nil,List.mem_singleton]at hz;subst hz;obtain⟨e,d,j⟩:=LX.mp hy;have:=(Lr.mp d).2;intro a;rw[←j]at a;unfold pT at a;simp only[Prod.mk.injEq]at a;simp[a.1,a.2.1,a.2.2.1,a.2.2.2]at this)
 rlen:=Nat.le_of_not_lt i
 rb:=λe d=>by
  rcases Lq.mp d with a|a;·exact c.rb e (Lr.mp a).1
  ·simp only[List.mem_singleton]at a;subst a;exact⟨f,g,h⟩}
theorem qT{x y:Nat×Nat}:∀{b:List (Nat×Nat)},y∈putTier x b→y=x∨y∈b
 |[],a=>by simp[putTier]at a;exact .inl a|c::b,a=>by
  unfold putTier at a;split at a
  ·rcases LN.mp a with q|q;·exact .inl q
   ·exact .inr (by simp[q])
  ·split at a
   ·rcases LN.mp a with q|q;·exact .inl q
    ·exact .inr q
   ·rcases LN.mp a with q|q;·exact .inr (by simp[q])
    ·rcases qT q with q|q;·exact .inl q
     ·exact .inr (by simp[q])
theorem wa{x:Nat×Nat}:∀{d:List (Nat×Nat)},(d.Pairwise λa e=>a.1<e.1)→((putTier x d).Pairwise λa e=>a.1<e.1)|[],_=>by simp[putTier]|h::d,i=>by f_assign(
 obtain⟨f,j⟩:=Ku.mp i;unfold putTier;by_cases l:h.1=x.1;·rw[Mj l];exact Ku.mpr ⟨λa c=>by have:=f a c;lia,j⟩
 ·rw[Mi l];by_cases g:x.1<h.1
  ·rw[Mj g];refine Ku.mpr ⟨λa c=>?_,i⟩;rcases LN.mp c with b|b;·rw[b];exact g
   ·have:=f a b;lia
  ·rw[Mi g];refine Ku.mpr ⟨λa c=>?_,wa j⟩;rcases qT c with b|b;·rw[b];lia
   ·exact f a b)
theorem A3{a:State}(b:Good a){x:Nat×Nat}(c:x.1≤1000000000000000)(d:x.2≤1000)(e:¬5<(putTier x a.tiers).length):Good {a with tiers:=putTier x a.tiers}:={b with
 tree:=Tree.dB b.tree rfl
 tk:=wa b.tk
 tlen:=Nat.le_of_not_lt e
 tb:=λt f=>by
  rcases qT f with q|q;·rw[q];exact⟨c,d⟩
  ·exact b.tb t q}
theorem mN{d:State}(c:Good d){a:Account}(f:accountAt d a.code=some b)(i:Tree (setAccount d a)):Good (setAccount d a):={c with
 tree:=i
 codes:=λg h=>by
  rcases(dc c.tree.srt).mp h with e|⟨e,_⟩;·rw[e];have:=c.codes b (bb f).2;rw[(bb f).1]at this;exact this
  ·exact c.codes g e
 alen:=by show(putAccount a d.accounts).length≤d.capA;rw[pC c.tree.srt ⟨b,(bb f).2,(bb f).1⟩];exact c.alen
 ec:=λg h=>by
  obtain⟨j,l⟩:=c.ec g h;rw[jL c.tree.srt];by_cases e:a.code=g.code;·rw[Mj e];exact⟨a,rfl⟩
  ·rw[Mi e];exact⟨j,l⟩}
theorem good_add{b:State}(d:Good b){a:Account}(h:accountAt b a.code=none)(f:isCode a.code=true)(l:b.accounts.length<b.capA)(i:Tree (setAccount b a)):Good (setAccount b a):={d with
 tree:=i
 codes:=λe g=>by
  rcases(dc d.tree.srt).mp g with c|⟨c,_⟩;·rw[c];exact f
  ·exact d.codes e c
 alen:=by show(putAccount a b.accounts).length≤b.capA;rw[jK (uR h)];lia
 ec:=λe g=>by
  obtain⟨j,f⟩:=d.ec e g;rw[jL d.tree.srt];by_cases c:a.code=e.code;·rw[Mj c];exact⟨a,rfl⟩
  ·rw[Mi c];exact⟨j,f⟩}
theorem mf{d:State}(f:Good d){h:Bytes}{m:Nat}{x:Int}{k:Kind}(q:d.entries.length<d.capE)(j:∃a,accountAt d h=some a)(l:k=.overhead→0<x∧x≤1000000000000000)(n:x.natAbs≤10000000000000000000)(o:(kindRow k).length≤8):Good (addEntry d h m x k):={f with
 tree:=Tree.dB f.tree rfl
 ek:=λg e c=>by f_assign(
  have c:(d.entries++[⟨nextNum d,h,m,x,k⟩])[g]?=some e:=c;rw[List.getElem?_append]at c;split at c;·exact f.ek g e c
  · rename_i b;have:g-d.entries.length=0:=by
      by_cases p:g-d.entries.length=0;·exact p
      ·rw[JU (by simp;lia)]at c;cases c
    rw[this]at c;cases c;show d.entries.length+1=g+1;lia)
 elen:=by show(d.entries++[_]).length≤d.capE;simp;lia
 ec:=λe c=>by
  rcases Lq.mp c with b|b;·exact f.ec e b
  ·simp only[List.mem_singleton]at b;subst b;exact j
 eo:=λe c i=>by
  rcases Lq.mp c with b|b;·exact f.eo e b i
  ·simp only[List.mem_singleton]at b;subst b;exact l i
 ea:=λe c=>by
  rcases Lq.mp c with b|b;·exact f.ea e b
  ·simp only[List.mem_singleton]at b;subst b;exact n
 ew:=λe c=>by
  rcases Lq.mp c with b|b;·exact f.ew e b
  ·simp only[List.mem_singleton]at b;subst b;exact o}
theorem gM{b:State}(h:Good b)(k c f d:Nat):rateAt b k c f d≤1000000000000:=by have one:∀g a,rateFor b k c g d=some a→a.value≤1000000000000:=λg a i=>(h.rb a (Lr.mp (Rm.jM i).1).1).2.2;unfold rateAt;cases e:rateFor b k c f d with|some a=>exact one _ _ e|none=>cases e2:rateFor b k c 0 d with|some a=>exact one _ _ e2|none=>exact L7 _
theorem lT{b:State}(d:Good b)(c:Nat):∀a t,minutesCost b c a t≤a*1000000000000|0,_=>L7 _|a+1,t=>by have e:=lT d c a (t+1);have f:=gM d 1 (shiftAt b t) c (dayOfMinute t);unfold minutesCost;rw[L5];lia
theorem wb{b:State}(d:Good b){a:Work}(f:∀c∈a.units,c≤1000000000):unitsCost b a≤4000000000000000000000:=by f_assign(
 have one:∀k,a.units.getD k 0*rateAt b (k+2) 0 a.cls (lastDay a)≤1000000000*1000000000000:=λk=>by refine Nat.mul_le_mul ?_ (gM d _ _ _ _);rw[Jt];cases e:a.units[k]? with|none=>exact L7 _|some c=>exact f c (J_ e)
 unfold unitsCost;have g:=one 0;have h:=one 1;have i:=one 2;have j:=one 3;show([0,1,2,3].map _).sum≤_;simp only[List.map_cons,List.map_nil,List.sum_cons,List.sum_nil];lia)
theorem wc{b:State}(c:Good b){a:Work}(d:a.minutes≤10080)(e:∀f∈a.units,f≤1000000000):price b a≤10000000000000000000:=by have g:=lT c a.cls a.minutes a.first;have h:=wb c e;have i:a.minutes*1000000000000≤10080*1000000000000:=Nat.mul_le_mul d (L6 _);unfold price rounded exactCost;split<;>lia
theorem A4{a:State}(b:Good a){c:Nat}(d:c≤a.today):Good {a with last:=c}:={b with tree:=Tree.dB b.tree rfl,last:=d}
theorem yf{b:State}(e:Good b)(i:b.closed<monthOf b.today):Good {b with closed:=b.closed+1,invoices:=b.invoices++invoicesOf b b.closed}:={e with
 tree:=Tree.dB e.tree rfl
 closed:=i
 ik:=by f_assign(
  have j:∀d∈invoicesOf b b.closed,d.month=b.closed:=λd f=>by obtain⟨a,_,c⟩:=LX.mp (Lr.mp f).1;rw[←c]
  show((b.invoices++invoicesOf b b.closed).map B7).Nodup;rw[Lp,KN];refine⟨e.ik,?_,?_⟩
  ·have h:((b.accounts.map λa=>(⟨b.closed,a.code,own b b.closed a.code,discountOf b (own b b.closed a.code),shareOf (shares b b.closed) a.code⟩:Invoice)).map B7).Nodup:=by rw[LV];unfold List.Nodup;rw[KO];have:=e.tree.srt.nd;unfold List.Nodup at this;rw[KO]at this;exact this.imp λ{a o}g c=>g (Prod.mk.inj c).2
   exact Kn (List.Sublist.map _ Kf) h
  ·intro x hx y hy c;obtain⟨d,f,h⟩:=LX.mp hx;obtain⟨l,m,n⟩:=LX.mp hy;have p:=e.ib d f;have q:=j l m;rw[←h,←n]at c;have:=(Prod.mk.inj c).1;lia)
 ib:=λd f=>by
  rcases Lq.mp f with g|g;·have:=e.ib d g;show d.month<b.closed+1;lia
  ·obtain⟨a,_,c⟩:=LX.mp (Lr.mp g).1;rw[←c];show b.closed<b.closed+1;lia}
end Gm
set_option linter.unusedVariables false
namespace Gm
open Vbbhal Tr Sm
theorem fX{b:State}(c:Good b){d:Bytes}{f:Account→State×Ans}(g:∀a,accountAt b d=some a→Good (f a).1):Good (onAccount b d f).1:=by
 unfold onAccount;split;·exact c
 ·split;·exact c
  ·rename_i a e;exact g a e
theorem El{a:State}{w:Work}(b:Good a)(c:¬a.today<lastDay w):max a.last (lastDay w)≤a.today:=by have:=b.last;lia
theorem yg{a:State}(f:Tree a){c:Bytes}(i:accountAt a c=some b){d:Nat}(j:¬DEEP<d+height a DEEP c):∀x e k,accountAt a x=some e→(pathOf a x)[k]?=some c→d+(k+1)≤8:=λx e k g h=>by
 have m:=(f.wf.chain g).2;have l:k<8:=by obtain⟨n,_⟩:=Jx.mp h;lia
 have o:=(WF.height f.wf 8 k c l ⟨b,i⟩).mpr ⟨x,e,g,h⟩;have p:¬8<d+height a 8 c:=j;lia
theorem uS{c:State}(d:Good c)(f b:Bytes):Good (doAccount c f b).1:=by f_assign(
 unfold doAccount;split;·exact d
 ·rename_i l;split;·exact d
  ·rename_i i;split;·exact d
   ·rename_i m;split;·exact d
    ·rename_i n;split;·exact d
     ·rename_i s;have j:accountAt c f=none:=by cases e:accountAt c f with|none=>rfl|some a=>rw[e]at i;simp at i
      have o:isCode f=true:=tof λe=>l (.inl e);refine good_add d (a:={code:=f,parent:=if b=[]then none else some b}) j o (by lia) (Sm.Tree.add d.tree j ?_);by_cases h:b=[];·exact .inl (by simp[h])
      ·right;have p:∃g,accountAt c b=some g:=by cases e:accountAt c b with|none=>exact absurd ⟨h,by rw[e];rfl⟩ m|some g=>exact⟨g,rfl⟩
       obtain⟨g,q⟩:=p;have r:¬DEEP≤(pathOf c b).length:=λe=>n ⟨h,e⟩;have u:¬8≤(pathOf c b).length:=r;exact⟨b,g,by simp[h],q,by lia⟩)
theorem A5{d:State}(b:Good d)(o c:Bytes):Good (doMove d o c).1:=by f_assign(
 unfold doMove;split;·exact b
 ·split;·exact b
  ·rename_i a ha;split;·exact b
   ·rename_i p;split;·exact b
    ·rename_i q;split;·exact b
     ·rename_i r;obtain⟨f,v⟩:=bb ha;have m:accountAt d ({a with parent:=if c=[]then none else some c}:Account).code=some a:=by show accountAt d a.code=some a;rw[f];exact ha
      have n:=yg b.tree ha r;refine mN b m (Sm.Tree.move b.tree m ?_);by_cases g:c=[];·left;refine⟨by simp[g],λx h k i j=>?_⟩;have:=n x h k i (by rw[←f];exact j);lia
      ·right;have s:∃e,accountAt d c=some e:=by cases l:accountAt d c with|none=>exact absurd ⟨g,by rw[l];rfl⟩ p|some e=>exact⟨e,rfl⟩
       obtain⟨e,u⟩:=s;refine⟨c,e,by simp[g],u,?_,λx h k i j=>n x h k i (by rw[←f];exact j)⟩;show¬a.code∈pathOf d c;rw[f];intro l;exact q (by simpa using l))
theorem A6{e:State}(b:Good e)(c:Call):Good (step e c).1:=by f_assign(
 cases c with|begin g a s=>
  show Good (if _ then _ else _:State×Ans).1;split;·exact b
  ·rename_i f;have B:=gY.mp (tof λd=>f (.inl d));have i:=aX.mp (tof λd=>f (.inr (.inl d)));have C:=aX.mp (tof λd=>f (.inr (.inr d)));exact v_ (by lia) (by lia) (by lia) (by lia)|day h=>
  show Good (if _ then _ else _:State×Ans).1;split;·exact b
  ·rename_i f;have S:=aX.mp (tof f);have q:(LASTDAY:Int)=365243:=rfl;exact B9 b (by lia) (by lia)|date g=>show Good (if _ then _ else _:State×Ans).1;split<;>exact b|dayof y m g=>
  show Good (if _ then _ else _:State×Ans).1;split;·exact b
  ·show Good (if _ then _ else _:State×Ans).1;split<;>exact b|prime g a v=>
  show Good (if _ then _ else _:State×Ans).1;split;·exact b
  ·rename_i f;split;·exact b
   ·show Good (if _ then _ else _:State×Ans).1;split;·exact b
    ·rename_i q;have B:=gY.mp (tof λd=>f (.inl d));have i:=aX.mp (tof λd=>f (.inr (.inl d)));have D:=aX.mp (tof λd=>f (.inr (.inr d)));exact ye b (by lia) (by lia) (by lia) (by lia) q|rate k n c g E=>
  show Good (if(inside k 1 5=false∨(if k=1 then inside n 1 3 else inside n 0 0)=false∨inside c 0 36=false∨isDay g=false∨inside E 0 1000000000000=false)then _ else _:State×Ans).1;generalize(if k=1 then inside n 1 3 else inside n 0 0)=v;split;·exact b
  ·rename_i f;split;·exact b
   ·show Good (if _ then _ else _:State×Ans).1;split;·exact b
    ·rename_i q;have B:=gY.mp (tof λd=>f (.inr (.inr (.inr (.inl d)))));have T:=aX.mp (tof λd=>f (.inr (.inr (.inr (.inr d)))));exact A2 b (by show 1≤g.toNat;lia) (by show g.toNat≤_;lia) (by show E.toNat≤_;lia) q|rateof k n c g=>show Good (if(inside k 1 5=false∨(if k=1 then inside n 1 3 else inside n 0 0)=false∨inside c 0 36=false∨isDay g=false)then _ else _:State×Ans).1;generalize(if k=1 then inside n 1 3 else inside n 0 0)=v;split<;>exact b|tier t I=>
  show Good (if _ then _ else _:State×Ans).1;split;·exact b
  ·rename_i f;show Good (if _ then _ else _:State×Ans).1;split;·exact b
   ·rename_i q;have U:=aX.mp (tof λd=>f (.inl d));have X:=aX.mp (tof λd=>f (.inr d));exact A3 b (by show t.toNat≤_;lia) (by show I.toNat≤_;lia) q|account c A=>exact uS b c A|move c A=>exact A5 b c A|shut c=>
  refine fX b λa i=>?_;obtain⟨u,F⟩:=bb i;show Good (if _ then _ else _:State×Ans).1;split;·exact b
  ·have j:accountAt e ({a with shut:=true}:Account).code=some a:=by show accountAt e a.code=some a;rw[u];exact i
   exact mN b j (Sm.Tree.same b.tree j rfl).1|reopen c=>
  refine fX b λa i=>?_;obtain⟨u,F⟩:=bb i;show Good (if _ then _ else _:State×Ans).1;split;·exact b
  ·have j:accountAt e ({a with shut:=false}:Account).code=some a:=by show accountAt e a.code=some a;rw[u];exact i
   exact mN b j (Sm.Tree.same b.tree j rfl).1|budget h c=>
  show Good (if _ then _ else _:State×Ans).1;split;·exact b
  ·refine fX b λa i=>?_;obtain⟨u,F⟩:=bb i;have j:accountAt e ({a with budget:=if h<0 then none else some h.toNat}:Account).code=some a:=by show accountAt e a.code=some a;rw[u];exact i
   exact mN b j (Sm.Tree.same b.tree j rfl).1|admit_ s c=>
  show Good (doAdmit e s c).1;unfold doAdmit;split;·exact b
  ·refine fX b λa i=>?_;split;·exact b
   ·split;·exact b
    ·split<;>exact b|price p g m h l=>
  show Good (doPrice e p g m h l).1;unfold doPrice;split;·exact b
  ·split;·exact b
   ·split<;>exact b|charge p g m h c l=>
  show Good (doCharge e p g m h c l).1;unfold doCharge;split;·exact b
  ·rename_i o;split;·exact b
   ·rename_i J;split;·exact b
    · rename_i r;have L:l.length=4:=by
        by_cases z:l.length=4;·exact z
        ·exact absurd (.inr z) J
      have Y:price e (workOf p g m h l)≤10000000000000000000:=by
       have o:=tof o;unfold isWork at o;simp only[Bool.and_eq_true]at o;have o:=aX.mp o.2.2.2;have r:=K7.mp (tof r);refine wc b ?_ λx j=>?_;·show h.toNat≤10080;lia
       ·obtain⟨y,M,rfl⟩:=LX.mp j;have:=aX.mp (r y M);lia
      show Good (if _ then _ else _:State×Ans).1;split;·exact b
      ·rename_i N;split;·exact b
       ·rename_i G;split;·exact b
        ·rename_i H;have O:∃a,accountAt e c=some a:=by cases d:accountAt e c with|none=>rw[d]at G;simp at G|some a=>exact⟨a,rfl⟩
         have Q:=mf (m:=max e.closed (monthOf (lastDay (workOf p g m h l)))) (x:=(price e (workOf p g m h l):Int)) (k:=.charge (workOf p g m h l)) b (by lia) O (nofun) (by lia) (by show([_,_,_,_]++((l.map Int.toNat).map Int.ofNat)).length≤8;simp[L]);exact A4 Q (El b N)|credit h a=>
  show Good (doCredit e h a).1;unfold doCredit;split;·exact b
  ·rename_i o;split;·exact b
   ·rename_i s C;split
    ·split;·exact b
     ·split;·exact b
      · rename_i H;have R:s∈e.entries:=Jy C;have r:isAmount a 1=true:=by
          cases z:isAmount a 1;·exact absurd (.inr z) o
          ·rfl
        have r:=aX.mp r;exact mf b (by lia) (b.ec s R) (nofun) (by lia) (by show 1≤8;lia)
    · exact b|overhead a c=>
  show Good (if _ then _ else _:State×Ans).1;split;·exact b
  ·rename_i f;refine fX b λv D=>?_;show Good (if _ then _ else _:State×Ans).1;split;·exact b
   ·rename_i H;have i:=aX.mp (tof f);exact mf b (by lia) ⟨v,D⟩ (λ_=>by lia) (by lia) (by show 0≤8;lia)|month=>
  show Good (doMonth e).1;unfold doMonth;split;·exact b
  ·rename_i f;exact yf b (by lia)|spent m c=>
  show Good (if _ then _ else _:State×Ans).1;split;·exact b
  ·exact fX b λ_ _=>b|invoice m c=>
  show Good (if _ then _ else _:State×Ans).1;split;·exact b
  ·refine fX b λ_ _=>?_;show Good (if _ then _ else _:State×Ans).1;split;·exact b
   ·split<;>exact b|total m=>show Good (if _ then _ else _:State×Ans).1;split<;>exact b|entry h=>
  show Good (if _ then _ else _:State×Ans).1;split;·exact b
  ·split<;>exact b|statement m Z k c=>
  show Good (if _ then _ else _:State×Ans).1;split;·exact b
  ·exact fX b λ_ _=>b|children c=>
  show Good (if _ then _ else _:State×Ans).1;split;·exact b
  ·exact fX b λ_ _=>b|path c=>exact fX b λ_ _=>b|split a w=>
  show Good (if _ then _ else _:State×Ans).1;split;·exact b
  ·split;·exact b
   ·split;·exact b
    ·split<;>exact b|when_=>exact b)
end Gm
set_option linter.unusedVariables false
namespace Em
open Vbbhal Tr Sm Gm
theorem sum_filter{d:Type}(a:d→Bool)(e:d→Int):∀b:List d,((b.filter a).map e).sum=(b.map λx=>if a x=true then e x else 0).sum
 |[]=>rfl|x::b=>by
  rw[K8,LM,LO,←sum_filter a e b];by_cases c:a x=true;·rw[Mj c,Mj c,LM,LO]
  ·rw[Mi c,Mi c];lia
theorem B_{d:State}(j:Good d){i:Nat}{h:Bytes}(o:accountAt d h=some a):spent d i h=((d.entries.filter λb=>(b.month==i&&!isOverhead b)&&decide (h∈pathOf d b.code)).map λb=>b.amount).sum:=by f_assign(
 unfold spent;rw[j.tree.wf.zo _ o,sum_filter];have l:∀e∈d.accounts,(if h∈pathOf d e.code then own d i e.code else 0)=(d.entries.map λb=>if(h∈pathOf d e.code∧(b.month==i&&!isOverhead b)=true)∧e.code=b.code then b.amount else 0).sum:=λe m=>by
  by_cases f:h∈pathOf d e.code;·rw[Mj f];unfold own;rw[sum_filter];apply dC;intro b _;by_cases l:b.month=i<;>by_cases n:b.code=e.code<;>cases e3:isOverhead b<;>simp[f,l,n,e3];all_goals(intro c;exact absurd c.symm n)
  ·rw[Mi f,dY _ _ λb _=>Mi λc=>f c.1.1]
 rw[dC _ _ _ l,mM (λ(e:Account)(b:Entry)=>if(h∈pathOf d e.code∧(b.month==i&&!isOverhead b)=true)∧e.code=b.code then b.amount else 0)];apply dC;intro b p;obtain⟨e,m⟩:=j.ec b p;obtain⟨eb,q⟩:=bb m;by_cases f:(b.month==i&&!isOverhead b)=true∧h∈pathOf d b.code
 · have:(λg:Account=>if(h∈pathOf d g.code∧(b.month==i&&!isOverhead b)=true)∧g.code=b.code then b.amount else 0)=(λg=>(λx=>if x=b.code then b.amount else 0) g.code):=by
     funext g;by_cases c:g.code=b.code;·rw[Mj ⟨⟨by rw[c];exact f.2,f.1⟩,c⟩];show b.amount=if g.code=b.code then b.amount else 0;rw[Mj c]
     ·rw[Mi λy=>c y.2];show 0=if g.code=b.code then b.amount else 0;rw[Mi c]
   rw[this,show(d.accounts.map λg=>(λx=>if x=b.code then b.amount else 0) g.code)=(d.accounts.map (·.code)).map λx=>if x=b.code then b.amount else 0 by rw[LV];rfl,kN _ _ _ j.tree.srt.nd (LX.mpr ⟨e,q,eb⟩)];simp[f.1,f.2]
 ·rw[dY _ _ λg r=>Mi λc=>f ⟨c.1.2,by rw[←c.2];exact c.1.1⟩];rw[Mi];intro c;rw[K3]at c;exact f ⟨c.1,KU c.2⟩)
end Em
namespace Mm
open Vbbhal
abbrev Mp:=List (Bytes×Int)
def lk?(a:Mp)(b:Bytes):Option Int:=(a.find? λx=>decide (x.1=b)).map (·.2)
def lk(a:Mp)(b:Bytes):Int:=(lk? a b).getD 0
def put(a:Mp)(b:Bytes)(c:Int):Mp:=if(a.any λx=>decide (x.1=b))=true then a.map (λx=>if x.1=b then(x.1,c)else x)else a++[(b,c)]
def acc(b:Mp)(c:Bytes)(a:Int):Mp:=put b c (lk b c+a)
def sums(a:Mp):Mp:=a.foldl (λb x=>acc b x.1 x.2) []
theorem fO(a:Mp)(x:Bytes×Int):sums (a++[x])=acc (sums a) x.1 x.2:=by unfold sums;rw[List.foldl_append];rfl
theorem bJ{x:Bytes×Int}{b:Mp}{a:Bytes}(c:x.1=a):lk? (x::b) a=some x.2:=by unfold lk?;rw[Ll,LF c];rfl
theorem bK{x:Bytes×Int}{b:Mp}{a:Bytes}(c:¬x.1=a):lk? (x::b) a=lk? b a:=by unfold lk?;rw[Ll,Lx c]
theorem gZ(c:Mp)(d:Bytes):(c.any λx=>decide (x.1=d))=true↔d∈c.map (·.1):=by
 rw[List.any_eq_true,LX];constructor;·rintro⟨x,a,b⟩;exact⟨x,a,KU b⟩
 ·rintro⟨x,a,b⟩;exact⟨x,a,LF b⟩
theorem wd{a:Mp}{b:Bytes}(c:¬b∈a.map (·.1)):lk? a b=none:=by
 unfold lk?;rw[Kq.mpr];·rfl
 ·intro x hx e;exact c (LX.mpr ⟨x,hx,KU e⟩)
theorem Ca{b:Mp}{d:Bytes}{a:Int}(nd:(b.map (·.1)).Nodup)(e:(d,a)∈b):lk? b d=some a:=by induction b with|nil=>cases e|cons x b f=>
 rw[LM,Ls]at nd;rcases LN.mp e with c|c;·subst c;exact bJ rfl
 ·have:¬x.1=d:=λg=>nd.1 (by rw[g];exact LX.mpr ⟨_,c,rfl⟩);rw[bK this];exact f nd.2 c
theorem En(c:Mp)(a x:Bytes)(d:Int):lk? (c.map λy=>if y.1=a then(y.1,d)else y) x=(lk? c x).map λg=>if x=a then d else g:=by induction c with|nil=>rfl|cons y c h=>
 rw[LM];by_cases b:y.1=x
 ·have e:(if y.1=a then(y.1,d)else y).1=x:=by split<;>exact b
  rw[bJ e,bJ b];subst b;by_cases f:y.1=a;·simp[f]
  ·simp[f]
 ·have e:¬(if y.1=a then(y.1,d)else y).1=x:=by split<;>exact b
  rw[bK e,bK b,h]
theorem Eo(b:Mp)(c x:Bytes)(f:Int)(d:¬c∈b.map (·.1)):lk? (b++[(c,f)]) x=if x=c then some f else lk? b x:=by
 induction b with|nil=>
  by_cases a:c=x;·rw[Mj a.symm];exact bJ a
  ·rw[Mi (λe=>a e.symm)];exact bK a|cons y b g=>
  rw[LM,LN,not_or]at d;rw[List.cons_append];by_cases a:y.1=x;·rw[bJ a,bJ a,Mi (λe=>d.1 (by rw[←e,a]))]
  ·rw[bK a,bK a,g d.2]
theorem yh{a:Mp}{b:Bytes}:(lk? a b).isSome=true↔b∈a.map (·.1):=by rw[←gZ];unfold lk?;rw[Option.isSome_map,List.find?_isSome,List.any_eq_true]
theorem zu(a:Mp)(b x:Bytes)(e:Int):lk? (put a b e) x=if x=b then some e else lk? a x:=by
 unfold put;by_cases c:(a.any λx=>decide (x.1=b))=true
 ·rw[Mj c,En];by_cases f:x=b;·subst f;have:=yh.mpr ((gZ _ _).mp c);cases d:lk? a x with|none=>rw[d]at this;cases this|some g=>simp
  ·simp[f]
 ·rw[Mi c,Eo _ _ _ _ (λd=>c ((gZ _ _).mpr d))]
theorem Cb(c:Mp)(b x:Bytes)(d:Int):lk (put c b d) x=if x=b then d else lk c x:=by
 unfold lk;rw[zu];by_cases a:x=b;·rw[Mj a,Mj a];rfl
 ·rw[Mi a,Mi a]
theorem qU(a:Mp)(b:Bytes)(d:Int):(put a b d).map (·.1)=if b∈a.map (·.1)then a.map (·.1)else a.map (·.1)++[b]:=by
 unfold put;by_cases c:(a.any λx=>decide (x.1=b))=true;·rw[Mj c,Mj ((gZ _ _).mp c),LV];apply Kh;intro x _;show(if x.1=b then(x.1,d)else x).1=x.1;split<;>rfl
 ·rw[Mi c,Mi (λe=>c ((gZ _ _).mpr e)),Lp];rfl
theorem Gi{b:Mp}(d:Bytes)(f:Int)(nd:(b.map (·.1)).Nodup):((put b d f).map (·.1)).Nodup:=by
 rw[qU];by_cases c:d∈b.map (·.1);·rw[Mj c];exact nd
 ·rw[Mi c,KN];exact⟨nd,by simp,λa g i e h=>c (by rw[Kt]at e;rw[←e,←h];exact g)⟩
theorem Ep(a:Mp)(b x:Bytes)(d:Int):x∈(put a b d).map (·.1)↔x=b∨x∈a.map (·.1):=by
 rw[qU];by_cases c:b∈a.map (·.1);·rw[Mj c];exact⟨.inr,λe=>e.elim (λf=>by rw[f];exact c) id⟩
 ·rw[Mi c,Lq,Kt];exact Or.comm
theorem qB(a:Mp)(b:Bytes)(c:Int):(put a b c).length≤a.length+1:=by have:=Me List.length (qU a b c);rw[Ln]at this;rw[this];split<;>simp
theorem Er{a:Mp}(e:Bytes→Bool)(b:Bytes)(h:Int)(nd:(a.map (·.1)).Nodup):((put a b h).map λx=>if e x.1=true then x.2 else 0).sum=(a.map λx=>if e x.1=true then x.2 else 0).sum+if e b=true then h-lk a b else 0:=by f_assign(
 unfold put;by_cases f:(a.any λx=>decide (x.1=b))=true
 · rw[Mj f];have f:=(gZ _ _).mp f;have l:∀a:Mp,(a.map (·.1)).Nodup→((a.map (λx=>if x.1=b then(x.1,h)else x)).map λx=>if e x.1=true then x.2 else 0).sum=(a.map λx=>if e x.1=true then x.2 else 0).sum+if b∈a.map (·.1)then(if e b=true then h-lk a b else 0)else 0:=by intro a;induction a with|nil=>intro _;simp|cons y a m=>
       intro nd;rw[LM,Ls]at nd;rw[LM,LM,LM,LO,LO,m nd.2];by_cases d:y.1=b
       ·have j:¬b∈a.map (·.1):=by rw[←d];exact nd.1
        have i:b∈(y::a).map (·.1):=LX.mpr ⟨y,Ks ..,d⟩;rw[Mj d,Mi j,Mj i];have:lk (y::a) b=y.2:=by unfold lk;rw[bJ d];rfl
        rw[this];simp only[d];by_cases c:e b=true;·simp only[if_pos c];lia
        ·simp only[if_neg c];lia
       ·have i:b∈(y::a).map (·.1)↔b∈a.map (·.1):=by rw[LM,LN];exact⟨λg=>g.resolve_left (λc=>d c.symm),.inr⟩
        have:lk (y::a) b=lk a b:=by unfold lk;rw[bK d]
        rw[Mi d,this];by_cases c:b∈a.map (·.1);·rw[Mj c,Mj (i.mpr c)];lia
        ·rw[Mi c,Mi (λg=>c (i.mp g))];lia
   rw[l a nd];rw[Mj f]
 ·have j:¬b∈a.map (·.1):=λg=>f ((gZ _ _).mpr g);have:lk a b=0:=by unfold lk;rw[wd j];rfl
  rw[Mi f,Lp,Lu,this];simp)
theorem Cc(d:Mp)(c x:Bytes)(a:Int):lk (acc d c a) x=lk d x+if x=c then a else 0:=by
 unfold acc;rw[Cb];by_cases b:x=c;·rw[Mj b,Mj b,b]
 ·rw[Mi b,Mi b];lia
theorem jN{d:Type}{P:List d→Prop}(e:P [])(f:∀a x,P a→P (a++[x]))(a:List d):P a:=by
 have:∀c(a:List d),a.length=c→P a:=by intro c;induction c with|zero=>intro a b;rw[JG.mp b];exact e|succ c g=>
  intro a b;have h:a≠[]:=λi=>by rw[i]at b;cases b
  rw[←List.dropLast_concat_getLast h];exact f _ _ (g _ (by rw[List.length_dropLast,b];rfl))
 exact this _ a rfl
theorem zw(a:Mp):((sums a).map (·.1)).Nodup:=by refine jN (P:=λa=>((sums a).map (·.1)).Nodup) (by simp[sums]) (λa x b=>?_) a;rw[fO];exact Gi _ _ b
theorem qV(a:Mp):(sums a).length≤a.length:=by refine jN (P:=λa=>(sums a).length≤a.length) (by simp[sums]) (λa x b=>?_) a;rw[fO,Kr];have:=qB (sums a) x.1 (lk (sums a) x.1+x.2);unfold acc;simp only[List.length_cons,List.length_nil];lia
theorem uT(a:Mp)(b:Bytes):lk (sums a) b=(a.map λx=>if x.1=b then x.2 else 0).sum:=by
 refine jN (P:=λa=>lk (sums a) b=(a.map λx=>if x.1=b then x.2 else 0).sum) (by simp[sums,lk,lk?]) (λa x d=>?_) a;rw[fO,Cc,d,Lp,Lu];simp only[List.map_cons,List.map_nil,List.sum_cons,List.sum_nil,Int.add_zero];by_cases c:x.1=b;·rw[Mj c,Mj c.symm]
 ·rw[Mi c,Mi (λe=>c e.symm)]
theorem Cd(a:Mp)(b:Bytes):b∈(sums a).map (·.1)↔b∈a.map (·.1):=by refine jN (P:=λa=>b∈(sums a).map (·.1)↔b∈a.map (·.1)) (by simp[sums]) (λa x c=>?_) a;rw[fO,Lp,Lq];unfold acc;rw[Ep,c];simp only[List.map_cons,List.map_nil,List.mem_singleton];exact Or.comm
theorem we(b:Bytes→Bool)(a:Mp):((sums a).map λx=>if b x.1=true then x.2 else 0).sum=(a.map λx=>if b x.1=true then x.2 else 0).sum:=by f_assign(
 refine jN (P:=λa=>((sums a).map λx=>if b x.1=true then x.2 else 0).sum=(a.map λx=>if b x.1=true then x.2 else 0).sum) (by simp[sums]) (λa x d=>?_) a;rw[fO,Lp,Lu];unfold acc;rw[Er b _ _ (zw a),d];simp only[List.map_cons,List.map_nil,List.sum_cons,List.sum_nil,Int.add_zero];congr 1;by_cases c:b x.1=true;·rw[Mj c,Mj c];lia
 ·rw[Mi c,Mi c])
theorem wg(a:Mp):((sums a).map (·.2)).sum=(a.map (·.2)).sum:=by have:=we (λ_=>true) a;simpa using this
end Mm
namespace Cm
open Vbbhal
theorem pE(b:State)(c:Nat):∀(a d t:Nat),minutesCost b c (a+d) t=minutesCost b c a t+minutesCost b c d (t+a)|0,d,t=>by rw[Nat.zero_add,Nat.add_zero];show _=0+_;lia|a+1,d,t=>by have:=pE b c a d (t+1);rw[show a+1+d=(a+d)+1 by lia];show rateAt b 1 (shiftAt b t) c (dayOfMinute t)+minutesCost b c (a+d) (t+1)=rateAt b 1 (shiftAt b t) c (dayOfMinute t)+minutesCost b c a (t+1)+_;rw[this,show t+1+a=t+(a+1)by lia];lia
theorem within(c:State)(e b:Nat)(r:1≤b):∀(d a:Nat),a+d≤1440→minutesCost c e d ((b-1)*1440+a)=if 6≤weekday b then d*rateAt c 1 3 e b else(min (a+d) (primeAt c b).2-max a (primeAt c b).1)*rateAt c 1 1 e b+(d-(min (a+d) (primeAt c b).2-max a (primeAt c b).1))*rateAt c 1 2 e b
 |0,a,s=>by
  show 0=_;split;·omega
  ·rw[show min (a+0) (primeAt c b).2-max a (primeAt c b).1=0 by omega];omega|d+1,a,s=>by f_assign(
  have l:=within c e b r d (a+1) (by omega);have i:dayOfMinute ((b-1)*1440+a)=b:=by unfold dayOfMinute;omega
  have m:((b-1)*1440+a)%1440=a:=by omega
  show rateAt c 1 (shiftAt c ((b-1)*1440+a)) e (dayOfMinute ((b-1)*1440+a))+minutesCost c e d ((b-1)*1440+a+1)=_;rw[show(b-1)*1440+a+1=(b-1)*1440+(a+1)by omega,l,i];have n:shiftAt c ((b-1)*1440+a)=if 6≤weekday b then 3 else if(primeAt c b).1≤a∧a<(primeAt c b).2 then 1 else 2:=by unfold shiftAt;simp only[i,m]
  rw[n,show a+1+d=a+(d+1)by omega];by_cases w:6≤weekday b;·rw[Mj w,Mj w,Mj w,L5];omega
  ·rw[Mi w,Mi w,Mi w];generalize(primeAt c b).1=f;generalize(primeAt c b).2=t;have o:min (a+(d+1)) t≤a+(d+1):=Nat.min_le_left _ _;clear l n i m;by_cases g:f≤a∧a<t;·rw[Mj g,Nat.max_eq_left g.1,Nat.max_eq_left (Nat.le_succ_of_le g.1)];have u:a<min (a+(d+1)) t:=Nat.lt_min.mpr ⟨by lia,g.2⟩;generalize min (a+(d+1)) t=x at o u;obtain⟨y,rfl⟩:∃y,x=a+1+y:=⟨x-(a+1),by lia⟩;rw[show a+1+y-a=y+1 by lia,show a+1+y-(a+1)=y by lia,Nat.add_sub_add_right,Nat.succ_mul];ac_rfl
   · have v:min (a+(d+1)) t-max a f=min (a+(d+1)) t-max (a+1) f:=by
       by_cases h:f≤a;·have j:t≤a:=Nat.le_of_not_lt λz=>g ⟨h,z⟩;rw[Nat.min_eq_right (LY j (Ld ..)),Nat.max_eq_left h,Nat.max_eq_left (Nat.le_succ_of_le h),Nat.sub_eq_zero_of_le j,Nat.sub_eq_zero_of_le (Nat.le_succ_of_le j)]
       ·rw[Nat.max_eq_right (Nat.le_of_not_le h),Nat.max_eq_right (Nat.lt_of_not_le h)]
     have A:a+1≤max (a+1) f:=Nat.le_max_left _ _;rw[Mi g,v];generalize max (a+1) f=p at A;generalize min (a+(d+1)) t=x at o;have q:x-p≤d:=by lia
     generalize x-p=y at q;rw[Nat.succ_sub q,Nat.succ_mul];ac_rfl)
theorem wj(x:Nat):∀(d:List (Nat×Nat))(t:Nat×Nat),((d++[t]).Pairwise λa g=>a.1<g.1)→offFrom x (d++[t])=offFrom (min x t.1) d+t.2*(x-t.1)
 |[],t,_=>by show t.2*(x-t.1)=0+_;lia|[b],t,e=>by have j:b.1<t.1:=(Ku.mp e).1 t (by simp);show b.2*(min x t.1-b.1)+t.2*(x-t.1)=b.2*(min x t.1-b.1)+_;rfl|b::c::d,t,e=>by
  obtain⟨l,f⟩:=Ku.mp e;have h:=wj x (c::d) t f;have m:c.1<t.1:=by obtain⟨i,_⟩:=Ku.mp f;exact i t (by simp)
  show b.2*(min x c.1-b.1)+offFrom x (c::d++[t])=b.2*(min (min x t.1) c.1-b.1)+offFrom (min x t.1) (c::d)+t.2*(x-t.1);rw[h,show min (min x t.1) c.1=min x c.1 by lia];lia
end Cm
namespace Hm
open Vbbhal Tr Mm
variable {s : State} {m : Nat}
def A7(s:State)(m:Nat):List Bytes→Nat|[]=>0|[a]=>overheadOf s m a|a::b::t=>shareOf ((children s b).zip (split (A7 s m (b::t)) (weightsOf s m (children s b)))) a+overheadOf s m a
def arr(s:State)(m:Nat)(a:Bytes):Nat:=A7 s m (pathOf s a)
def parts(s:State)(m:Nat)(a:Bytes):List (Bytes×Nat):=(children s a).zip (split (arr s m a) (weightsOf s m (children s a)))
theorem qW(W:WF s){b:Bytes}{a:Account}(c:accountAt s b=some a)(d:a.parent=none):pathOf s b=[b]:=be.path (be.top c d) 8 (by simp)
theorem qC(W:WF s){d:Bytes}{a:Account}(e:accountAt s d=some a)(g:a.parent=some q):pathOf s d=d::pathOf s q∧∃l,accountAt s q=some l:=by obtain⟨h,i⟩:=W.chain e;generalize pathOf s d=p at h i;cases h with|top b c=>rw[e]at b;cases b;rw[g]at c;cases c|up b c f=>
 rw[e]at b;cases b;rw[g]at c;cases c;refine⟨?_,?_⟩
 ·rename_i j;have n:j.length≤8:=by simp at i;lia
  have:pathOf s q=j:=f.path 8 n;rw[this]
 ·obtain⟨t,o⟩:=f.ne;exact f.acc (by rw[o];simp)
theorem uU(W:WF s){b:Bytes}{a:Account}(c:accountAt s b=some a)(d:a.parent=none):arr s m b=overheadOf s m b:=by unfold arr;rw[qW W c d];rfl
theorem Ce(W:WF s){b:Bytes}{a:Account}(c:accountAt s b=some a)(d:a.parent=some q):arr s m b=shareOf (parts s m q) b+overheadOf s m b:=by obtain⟨e,h,f⟩:=qC W c d;unfold parts arr;rw[e];obtain⟨t,g⟩:=(W.chain f).1.ne;rw[g];rfl
theorem Cf(W:WF s)(a:Bytes):(children s a).Nodup:=iE W.nd
theorem eU(W:WF s){b x:Bytes}(c:x∈children s b):∃a,accountAt s x=some a∧a.parent=some b:=by obtain⟨a,d,e,f⟩:=cM.mp c;exact⟨a,by rw[←f];exact W.at_ d,e⟩
theorem A8{a:List (Bytes×Nat)}(nd:(a.map (·.1)).Nodup){x:Bytes×Nat}(c:x∈a):shareOf a x.1=x.2:=by induction a with|nil=>cases c|cons y a d=>
 rw[LM,Ls]at nd;unfold shareOf;rcases LN.mp c with b|b;·subst b;rw[JO (by simp)]
 ·have:¬y.1=x.1:=λe=>nd.1 (by rw[e];exact LX.mpr ⟨x,b,rfl⟩);rw[JN (by simp[this])];exact d nd.2 b
theorem iZ{a:List (Bytes×Nat)}{b:Bytes}(c:¬b∈a.map (·.1)):shareOf a b=0:=by unfold shareOf;rw[Kq.mpr];intro x hx q;exact c (LX.mpr ⟨x,hx,eq_of_beq q⟩)
theorem Gj(a:Nat)(b:List Nat):(split a b).length=b.length:=by unfold split;simp
theorem Es(a:List Bytes):(weightsOf s m a).length=a.length:=by unfold weightsOf;simp only;split<;>simp
theorem eN(a:Bytes):(parts s m a).map (·.1)=children s a:=by unfold parts;rw[List.map_fst_zip];rw[Gj,Es];exact L6 _
theorem wm(W:WF s)(a:Bytes):((parts s m a).map (·.1)).Nodup:=by rw[eN];exact Cf W a
theorem wo(W:WF s){b:Bytes}{x:Bytes×Nat}(c:x∈parts s m b):x.2+overheadOf s m x.1=arr s m x.1:=by
 have d:x.1∈children s b:=by rw[←eN (m:=m)];exact LX.mpr ⟨x,c,rfl⟩
 obtain⟨a,e,f⟩:=eU W d;rw[Ce W e f,A8 (wm W b) c]
theorem A9{b:Nat}{a:Bytes}(c:children s a≠[]):handDown s m (b+1) a (arr s m a)=(parts s m a).flatMap λx=>handDown s m b x.1 (x.2+overheadOf s m x.1):=by simp only[handDown];rfl
theorem A_{c:Nat}{b:Bytes}{a:Nat}(d:children s b=[]):handDown s m (c+1) b a=[(b,a)]:=by simp only[handDown,d]
theorem hand(W:WF s):∀(i:Nat)(b:Bytes),(∃a,accountAt s b=some a)→(pathOf s b).length+i=9→∀x g,(x,g)∈handDown s m i b (arr s m b)↔((∃a,accountAt s x=some a)∧children s x=[]∧b∈pathOf s x∧g=arr s m x)|0,b,⟨a,r⟩,F,x,g=>by have:=(W.chain r).2;lia|i+1,b,⟨a,r⟩,F,x,g=>by f_assign(
 obtain⟨G,L⟩:=W.chain r;by_cases j:children s b=[]
 ·rw[A_ j];constructor;·intro z;have z:=Kt.mp z;cases z;obtain⟨t,c⟩:=G.ne;exact⟨⟨a,r⟩,j,by rw[c];simp,rfl⟩
  ·rintro⟨⟨u,e⟩,h,l,n⟩;obtain⟨o,_⟩:=W.chain e;obtain⟨k,d⟩:=JX.mp l
   cases k with|zero=>
    obtain⟨t,c⟩:=o.ne;rw[c]at d;have:x=b:=by simpa using d
    subst this;rw[n];simp|succ k=>obtain⟨y,p,_⟩:=(W.next o).mp d;rw[j]at p;cases p
 ·rw[A9 j,List.mem_flatMap];constructor
  ·rintro⟨f,q,B⟩;have C:f.1∈children s b:=by rw[←eN (m:=m)];exact LX.mpr ⟨f,q,rfl⟩
   obtain⟨u,e,A⟩:=eU W C;rw[wo W q]at B;obtain⟨c,_⟩:=qC W e A;have:=(hand W i f.1 ⟨u,e⟩ (by rw[c,K9];lia) x g).mp B;obtain⟨h,l,n,H⟩:=this;refine⟨h,l,?_,H⟩;obtain⟨D,v⟩:=h;obtain⟨k,d⟩:=JX.mp n;exact J_ ((W.next (W.chain v).1).mpr ⟨f.1,C,d⟩)
  ·rintro⟨⟨u,e⟩,h,l,n⟩;obtain⟨o,_⟩:=W.chain e;obtain⟨k,d⟩:=JX.mp l
   cases k with|zero=>
    obtain⟨t,c⟩:=o.ne;rw[c]at d;have:x=b:=by simpa using d
    subst this;exact absurd h j|succ k=>obtain⟨y,p,I⟩:=(W.next o).mp d;have E:=p;rw[←eN (m:=m)]at E;obtain⟨f,q,J⟩:=LX.mp E;subst J;obtain⟨D,v,A⟩:=eU W p;obtain⟨c,_⟩:=qC W v A;refine⟨f,q,?_⟩;rw[wo W q];exact(hand W i f.1 ⟨D,v⟩ (by rw[c,K9];lia) x g).mpr ⟨⟨u,e⟩,h,J_ I,n⟩)
theorem Ba{b:Bytes}{c:List Bytes}(f:be s b c):∃t a,accountAt s t=some a∧a.parent=none∧t∈c:=by induction f with|@top b a d e=>exact⟨b,a,d,e,by simp⟩|up d e l g=>obtain⟨t,a,h,i,j⟩:=g;exact⟨t,a,h,i,J0 _ j⟩
theorem mh(W:WF s)(x:Bytes)(b:Nat):(x,b)∈shares s m↔((∃a,accountAt s x=some a)∧children s x=[]∧b=arr s m x):=by f_assign(
 unfold shares;rw[List.mem_flatMap];constructor
 ·rintro⟨a,j,g⟩;obtain⟨l,n⟩:=Lr.mp j;have h:a.parent=none:=by simpa using n
  have d:=W.at_ l;rw[←uU W d h]at g;obtain⟨o,e,_,p⟩:=(hand W 8 a.code ⟨a,d⟩ (by rw[qW W d h];rfl) x b).mp g;exact⟨o,e,p⟩
 ·rintro⟨⟨q,i⟩,e,r⟩;obtain⟨t,a,c,f,u⟩:=Ba (W.chain i).1;obtain⟨v,y⟩:=bb c;refine⟨a,Lr.mpr ⟨y,by rw[f];rfl⟩,?_⟩;rw[v,←uU W c f];exact(hand W 8 t ⟨a,c⟩ (by rw[qW W c f];rfl) x b).mpr ⟨⟨q,i⟩,e,u,r⟩)
theorem Cg(W:WF s){b:Bytes}(g:accountAt s b=some a):shareOf (shares s m) b=if children s b=[]then arr s m b else 0:=by f_assign(
 by_cases c:children s b=[];·rw[Mj c];unfold shareOf;have h:(b,arr s m b)∈shares s m:=(mh W b _).mpr ⟨⟨a,g⟩,c,rfl⟩;cases e:(shares s m).find? λx=>x.1==b with|none=>have:=Kq.mp e _ h;simp at this|some y=>have d:=Lm e;have f:=Jy e;have i:y.1=b:=eq_of_beq d;obtain⟨l,n⟩:=y;cases i;exact((mh W _ _).mp f).2.2
 ·rw[Mi c,iZ];intro j;obtain⟨⟨x,o⟩,d,f⟩:=LX.mp j;cases f;exact c ((mh W _ _).mp d).2.1)
def up(s:State)(x:Bytes):Option Bytes:=(accountAt s x).bind (·.parent)
def i4(s:State)(m:Nat)(a:List Bytes)(x:Bytes):Nat:=match up s x with|some b=>if b∈a then arr s m x else overheadOf s m x|none=>overheadOf s m x
theorem Ci(x:Bytes):i4 s m [] x=overheadOf s m x:=by unfold i4;split<;>simp
theorem Cj(W:WF s){c:List Bytes}{a:Account}(d:accountAt s x=some a)(f:∀b,a.parent=some b→b∈c):i4 s m c x=arr s m x:=by unfold i4 up;rw[d];simp only[Option.bind_some];cases e:a.parent with|none=>simp only;rw[uU W d e]|some b=>simp only;rw[Mj (f b e)]
theorem wq(W:WF s){c:Bytes}:up s x=some c↔x∈children s c:=by
 unfold up;constructor;·intro b;cases e:accountAt s x with|none=>rw[e]at b;cases b|some a=>rw[e]at b;obtain⟨d,f⟩:=bb e;exact cM.mpr ⟨a,f,by simpa using b,d⟩
 ·intro b;obtain⟨a,g,h⟩:=eU W b;rw[g];exact h
theorem Bb(W:WF s){d:List Bytes}{b:Bytes}(f:¬b∈d)(x:Bytes):i4 s m (d++[b]) x=i4 s m d x+shareOf (parts s m b) x:=by
 by_cases c:x∈children s b;·obtain⟨a,g,h⟩:=eU W c;unfold i4;rw[(wq W).mpr c];simp only;rw[Mj (by simp),Mi f,Ce W g h];lia
 ·rw[iZ (by rw[eN];exact c),Nat.add_zero];unfold i4;cases e:up s x with|none=>rfl|some i=>simp only;have:i≠b:=λj=>c ((wq W).mp (by rw[e,j]));simp[this]
theorem zx:∀(a:List (Bytes×Nat))(b:Mp)(x:Bytes),(a.map (·.1)).Nodup→lk (a.foldl (λb y=>acc b y.1 (y.2:Int)) b) x=lk b x+(shareOf a x:Int)|[],b,x,_=>by simp[shareOf]|y::a,b,x,nd=>by f_assign(
 rw[LM,Ls]at nd;rw[List.foldl_cons,zx a _ x nd.2,Cc];by_cases c:x=y.1
 ·subst c;rw[Mj rfl,iZ nd.1];have:shareOf (y::a) y.1=y.2:=by unfold shareOf;rw[JO (by simp)]
  rw[this];simp
 ·rw[Mi c];have:shareOf (y::a) x=shareOf a x:=by unfold shareOf;rw[JN (by simp;exactλd=>c d.symm)]
  rw[this];simp)
theorem wt(W:WF s){b:List Bytes}(l:b.Pairwise λx y=>(pathOf s x).length≤(pathOf s y).length){g:Bytes}{a:Account}(n:accountAt s g=some a){k:Nat}(i:b[k]?=some g)(o:∀x d,accountAt s x=some d→x∈b){e:Bytes}(p:a.parent=some e):e∈b.take k:=by f_assign(
 obtain⟨j,d,q⟩:=qC W n p;obtain⟨f,c⟩:=JX.mp (o e d q);refine cF.mpr ⟨f,?_,c⟩;apply Jw;intro B;have r:k≤f:=by lia
 rcases Nat.eq_or_lt_of_le r with h|h;·subst h;rw[i]at c;cases c;have:=Me List.length j;simp at this
 ·obtain⟨u,v⟩:=Jx.mp i;obtain⟨z,A⟩:=Jx.mp c;have:=List.pairwise_iff_getElem.mp l k f u z h;rw[v,A,j,K9]at this;lia)
theorem yi{d:Type}(b:d→Nat)(c:Nat):∀a:List d,(∀x∈a,b x≤c)→(a.map b).sum≤a.length*c|[],_=>by simp|x::a,e=>by have g:=yi b c a λy f=>e y (J0 _ f);have h:=e x (Ks ..);rw[LM,LO,K9,L5,Nat.one_mul];lia
theorem uV{d:Type}(b:d→Int)(c:Nat):∀a:List d,(∀x∈a,b x≤(c:Int))→(a.map b).sum≤((a.length*c:Nat):Int)|[],_=>by simp|x::a,e=>by have g:=uV b c a λy f=>e y (J0 _ f);have h:=e x (Ks ..);rw[LM,LO,K9,L5,Nat.one_mul];omega
theorem zy(b:Gm.Good s)(c:Bytes):overheadOf s m c≤500000000000000000:=by
 f_assign(unfold overheadOf;have h:=yi (λa:Vbbhal.Entry=>a.amount.toNat) 1000000000000000 (s.entries.filter λa=>a.month==m&&(a.code==c&&isOverhead a)) (λa e=>by
  obtain⟨f,d⟩:=Lr.mp e;simp only[Bool.and_eq_true]at d;have g:a.kind=.overhead:=by have:=d.2.2;unfold isOverhead at this;exact eq_of_beq this
  have:=b.eo a f g;show a.amount.toNat≤_;lia);have i:=JV (λa:Vbbhal.Entry=>a.month==m&&(a.code==c&&isOverhead a)) s.entries;have j:=b.elen;have l:=b.capE;lia)
theorem Gk(b:Gm.Good s)(c:Bytes):own s m c≤5000000000000000000000:=by unfold own;have e:=uV (λa:Vbbhal.Entry=>a.amount) 10000000000000000000 (s.entries.filter λa=>a.month==m&&(a.code==c&&!isOverhead a)) (λa d=>by have:=b.ea a (Lr.mp d).1;show a.amount≤_;omega);have f:=JV (λa:Vbbhal.Entry=>a.month==m&&(a.code==c&&!isOverhead a)) s.entries;have g:=b.elen;have h:=b.capE;omega
theorem Gn(b:Gm.Good s)(a:Bytes):net s m a≤5000000000000000000000:=by have:=Gk (m:=m) b a;unfold net;lia
theorem Ck(c:Gm.Good s){d:Bytes}(e:accountAt s d=some a):below s (net s m) DEEP d≤1000000000000000000000000:=by rw[c.tree.wf.zo _ e];have f:=uV (λb:Account=>if d∈pathOf s b.code then net s m b.code else 0) 5000000000000000000000 s.accounts (λb _=>by have:=Gn (m:=m) c b.code;show(if d∈pathOf s b.code then net s m b.code else 0)≤_;split<;>omega);have g:=c.alen;have h:=c.capA;omega
theorem qX(a:Bytes):(children s a).length≤s.accounts.length:=by unfold children;rw[Ln];exact JV ..
theorem yj(c:Gm.Good s)(d:Bytes):∀w∈weightsOf s m (children s d),w≤1000000000000000000000000:=by
 intro w b;unfold weightsOf at b;simp only at b;split at b;·obtain⟨_,_,rfl⟩:=LX.mp b;lia
 ·obtain⟨x,e,rfl⟩:=LX.mp b;obtain⟨a,f,_⟩:=eU c.tree.wf e;have:=Ck (m:=m) c f;lia
theorem wu(b:Gm.Good s)(a:Bytes):(weightsOf s m (children s a)).sum≤200000000000000000000000000:=by have c:=yi (λw=>w) 1000000000000000000000000 (weightsOf s m (children s a)) (yj b a);rw[List.map_id',Es]at c;have d:=qX (s:=s) a;have e:=b.alen;have f:=b.capA;lia
theorem qD:∀{a:List Nat}{w:Nat},w∈a→w≤a.sum
 |x::a,w,b=>by
  rw[LO];rcases LN.mp b with z|z;·lia
  ·have:=qD z;lia
theorem wx(a:Bytes)(d:children s a≠[]):0<(weightsOf s m (children s a)).sum:=by f_assign(
 obtain⟨x,b,c⟩:∃x b,children s a=x::b:=by cases c:children s a with|nil=>exact absurd c d|cons x b=>exact⟨x,b,rfl⟩
 unfold weightsOf;simp only;split
 ·have:1∈((children s a).map λa=>(below s (net s m) DEEP a).toNat).map λ_=>1:=by rw[c];simp
  have:=qD this;lia
 ·rename_i e;apply Jw;intro y;apply e;rw[K7];intro w f;have:=qD f;have:w=0:=by lia
  rw[this];rfl)
theorem split_le(a:Nat)(b:List Nat):∀x∈split a b,x≤a+1:=by f_assign(
 intro x hx;unfold split at hx;simp only at hx;obtain⟨d,c,rfl⟩:=LX.mp hx;have c:=LC.mp c;have e:b.getD d 0≤b.sum:=by rw[Jt,JA c];exact qD (List.getElem_mem c)
 have f:a*b.getD d 0/b.sum≤a:=by
  rcases Nat.eq_zero_or_pos b.sum with z|z;·rw[z,Nat.div_zero];lia
  ·exact Nat.div_le_of_le_mul (by rw[Nat.mul_comm];exact Nat.mul_le_mul_right a e)
 split<;>lia)
theorem Cn{l:List (Bytes×Nat)}{M:Nat}(a:∀x∈l,x.2≤M)(b:Bytes):shareOf l b≤M:=by
 unfold shareOf;split;·rename_i x e;exact a x (Jy e)
 ·lia
theorem zz(c:Gm.Good s):∀a:List Bytes,A7 s m a≤a.length*500000000000000001|[]=>by simp[A7]|[b]=>by have:=zy (m:=m) c b;show overheadOf s m b≤1*_;lia|b::a::t=>by have e:=zz c (a::t);have f:=zy (m:=m) c b;have g:=Cn (l:=(children s a).zip (split (A7 s m (a::t)) (weightsOf s m (children s a)))) (M:=A7 s m (a::t)+1) (λx d=>split_le _ _ _ (List.of_mem_zip d).2) b;show shareOf _ b+overheadOf s m b≤_;rw[K9,L5,Nat.one_mul];lia
theorem Gp(c:Gm.Good s){b:Bytes}(d:accountAt s b=some a):arr s m b<2^64:=by have e:=zz (m:=m) c (pathOf s b);have f:=(c.tree.wf.chain d).2;unfold arr;refine Kv e (Kv (Nat.mul_le_mul_right _ f) (by decide))
end Hm
namespace Im
open Vbbhal Tr Mm
variable {s : State} {m : Nat}
theorem wy:∀a:List (Nat×Nat),offFrom 0 a=0|[]=>rfl|[t]=>by simp[offFrom]|t::b::a=>by have:=wy (b::a);simp only[offFrom]at this⊢;rw[this];simp
theorem oo(s:State):discountOf s 0=0:=by unfold discountOf;rw[show(0:Int).toNat=0 from rfl,wy];rfl
theorem zF{a:Mp}{b:Bytes}{c:Int}(d:¬b∈a.map (·.1)):put a b c=a++[(b,c)]:=by unfold put;rw[Mi];intro e;exact d ((gZ a b).mp e)
def vals(a:Int→Int)(b:Mp):Mp:=b.map λx=>(x.1,a x.2)
theorem kQ(b:Int→Int)(a:Mp):(vals b a).map (·.1)=a.map (·.1):=by unfold vals;rw[LV];rfl
theorem wz(a:Int→Int):∀(c:Mp)(b:Bytes),lk? (vals a c) b=(lk? c b).map a
 |[],b=>rfl|x::c,b=>by
  show lk? ((x.1,a x.2)::vals a c) b=_;by_cases d:x.1=b;·rw[bJ d,bJ (x:=(x.1,a x.2)) d];rfl
  ·rw[bK d,bK (x:=(x.1,a x.2)) d,wz a c b]
theorem zG(a:Int→Int)(hf:a 0=0)(b:Mp)(c:Bytes):lk (vals a b) c=a (lk b c):=by unfold lk;rw[wz];cases lk? b c with|none=>exact hf.symm|some d=>rfl
theorem Fy:∀{c:Mp}(a:Bytes),(c.map (·.1)).Nodup→lk c a=(c.map λx=>if x.1=a then x.2 else 0).sum
 |[],a,_=>rfl|x::c,a,nd=>by
  rw[LM,Ls]at nd;rw[LM,LO,←Fy a nd.2];unfold lk;by_cases b:x.1=a;·rw[bJ b,Mj b,wd (by rw[←b];exact nd.1)];simp
  ·rw[bK b,Mi b];simp
theorem Co{d:Mp}(nd:(d.map (·.1)).Nodup){C:List Bytes}(e:C.Nodup)(f:∀x∈d,x.1∈C)(b:Bytes→Bool):(d.map λx=>if b x.1=true then x.2 else 0).sum=(C.map λa=>if b a=true then lk d a else 0).sum:=by f_assign(
 have g:(C.map λa=>if b a=true then lk d a else 0)=C.map λa=>(d.map λx=>if b a=true then(if x.1=a then x.2 else 0)else 0).sum:=by
  apply Kh;intro a _;by_cases c:b a=true;·rw[Mj c,Fy a nd];congr 1;apply Kh;intro x _;rw[Mj c]
  ·rw[Mi c,dY _ _ λx _=>Mi c]
 rw[g,mM (λ(a:Bytes)(x:Bytes×Int)=>if b a=true then(if x.1=a then x.2 else 0)else 0) C d];congr 1;apply Kh;intro x hx;have h:(C.map λa=>if b a=true then(if x.1=a then x.2 else 0)else 0)=C.map λa=>if a=x.1 then(if b x.1=true then x.2 else 0)else 0:=by
  apply Kh;intro a _;by_cases c:a=x.1;·subst c;rw[Mj rfl,Mj rfl]
  ·have i:¬x.1=a:=λj=>c j.symm;simp[c,i]
 rw[h,kN _ _ _ e (f x hx)])
theorem yk(f:Gm.Good s){c:Mp}(nd:(c.map (·.1)).Nodup)(g:∀x∈c,∃a,accountAt s x.1=some a)(h:∀b,lk c b=net s m b){b:Bytes}{a:Account}(i:accountAt s b=some a):(c.map λx=>if decide (b∈pathOf s x.1)=true then x.2 else 0).sum=below s (net s m) DEEP b:=by f_assign(
 rw[f.tree.wf.zo _ i,Co nd (C:=s.accounts.map (·.code)) f.tree.wf.nd (λx j=>by obtain⟨d,l⟩:=g x j;obtain⟨n,o⟩:=bb l;exact LX.mpr ⟨d,o,n⟩) (λx=>decide (b∈pathOf s x)),LV];congr 1;apply Kh;intro d _;show(if decide (b∈pathOf s d.code)=true then lk c d.code else 0)=_;rw[h];by_cases e:b∈pathOf s d.code;·rw[Mj e,Mj (LF e)]
 ·rw[Mi e,Mi (by simp[e])])
def iF(s:State)(m:Nat)(a:Account):Bool:=own s m a.code !=0||shareOf (shares s m) a.code !=0
def yl(s:State)(m:Nat)(a:Account):Invoice:=⟨m,a.code,own s m a.code,discountOf s (own s m a.code),shareOf (shares s m) a.code⟩
theorem qE(s:State)(m:Nat):invoicesOf s m=(s.accounts.filter (iF s m)).map (yl s m):=by f_assign(
 unfold invoicesOf;show List.filter _ (List.map _ _)=_;rw[List.filter_map];have:(List.filter ((λb:Invoice=>b.own !=0||(b.discount !=0||b.share !=0))∘λa:Account=>({month:=m,code:=a.code,own:=own s m a.code,discount:=discountOf s (own s m a.code),share:=shareOf (shares s m) a.code}:Invoice)) s.accounts)=s.accounts.filter (iF s m):=by
  apply KI;intro a _;show(own s m a.code !=0||(discountOf s (own s m a.code)!=0||shareOf (shares s m) a.code !=0))=iF s m a;unfold iF;by_cases c:own s m a.code=0;·rw[c,oo];rfl
  ·rw[show(own s m a.code !=0)=true from bne_iff_ne.mpr c];rfl
 rw[this];rfl)
end Im
namespace Qm
open Vbbhal Tr
def rl(a:Ans):Nat:=(a.rows.flatMap λb=>(b.length:Int)::b).length
theorem zH(b:List (List Int))(c:Nat)(d:∀a∈b,a.length≤c):(b.flatMap λa=>(a.length:Int)::a).length≤b.length*(c+1):=by induction b with|nil=>simp|cons a b e=>have g:=e λx f=>d x (J0 _ f);have h:=d a (Ks ..);rw[KJ,Kr,K9,K9,L5,Nat.one_mul];lia
theorem bD(a:State)(b:Nat):rl (no a b).2≤3900:=by simp[rl,no]
theorem gO(a:State)(b:Nat):rl (yes a b).2≤3900:=by simp[rl,yes]
theorem jw(b:State)(c:Nat)(a:List Int)(d:a.length≤300):rl (yes b c [a]).2≤3900:=by simp[rl,yes];lia
theorem lU{b:State}{c:Bytes}{d:Account→State×Ans}(f:∀a,accountAt b c=some a→rl (d a).2≤3900):rl (onAccount b c d).2≤3900:=by
 unfold onAccount;split;·exact bD _ _
 ·split;·exact bD _ _
  ·rename_i a e;exact f a e
theorem zI{b:Bytes}(a:isCode b=true):b.length≤8:=by unfold isCode at a;rw[K3,KS]at a;exact a.1.2
theorem qY{d:State}(e:Nat)(a:List Bytes)(i:a.length≤200)(f:∀b∈a,isCode b=true):rl (yes d e (a.map Vbbhal.ints)).2≤3900:=by have:=zH (a.map Vbbhal.ints) 8 (λc g=>by obtain⟨b,h,rfl⟩:=LX.mp g;unfold Vbbhal.ints;rw[Ln];exact zI (f b h));rw[Ln]at this;show(List.flatMap (λc=>(c.length:Int)::c) (a.map Vbbhal.ints)).length≤3900;lia
theorem qZ{b:State}(d:Gm.Good b){c:Bytes}(e:accountAt b c=some a):isCode c=true:=by obtain⟨f,g⟩:=bb e;rw[←f];exact d.codes a g
theorem alen{a:State}(b:Gm.Good a):a.accounts.length≤200:=LY b.alen b.capA
theorem Et{e:State}(d:Gm.Good e):∀b:Call,rl (step e b).2≤3900
 |.begin f a c=>by simp only[step];repeat'(first|split|exact bD _ _|exact gO _ _)|.day h=>by simp only[step];repeat'(first|split|exact bD _ _|exact gO _ _)|.date f=>by
  simp only[step];split;·exact bD _ _
  ·exact jw _ _ _ (by simp)|.dayof y g f=>by simp only[step];repeat'(first|split|exact bD _ _|exact gO _ _)|.prime f a j=>by simp only[step];repeat'(first|split|exact bD _ _|exact gO _ _)|.rate k A b f I=>by simp only[step];repeat'(first|split|exact bD _ _|exact gO _ _)|.rateof k A b f=>by simp only[step];repeat'(first|split|exact bD _ _|exact gO _ _)|.tier t J=>by simp only[step];repeat'(first|split|exact bD _ _|exact gO _ _)|.account b n=>by show rl (doAccount e b n).2≤3900;unfold doAccount;repeat'(first|split|exact bD _ _|exact gO _ _)|.move b n=>by show rl (doMove e b n).2≤3900;unfold doMove;repeat'(first|split|exact bD _ _|exact gO _ _)|.shut b=>lU λa _=>by
  show rl (if a.shut=true then _ else _:State×Ans).2≤3900;split;·exact bD _ _
  ·exact gO _ _|.reopen b=>lU λa _=>by
  show rl (if a.shut=false then _ else _:State×Ans).2≤3900;split;·exact bD _ _
  ·exact gO _ _|.budget h b=>by
  simp only[step];split;·exact bD _ _
  ·exact lU λa _=>gO _ _|.admit_ c b=>by
  show rl (doAdmit e c b).2≤3900;unfold doAdmit;split;·exact bD _ _
  ·refine lU λa _=>?_;repeat'(first|split|exact bD _ _|exact gO _ _|exact jw _ _ _ (by simp))|.price o f g h p=>by show rl (doPrice e o f g h p).2≤3900;unfold doPrice;repeat'(first|split|exact bD _ _|exact jw _ _ _ (by simp))|.charge o f g h b p=>by
  show rl (doCharge e o f g h b p).2≤3900;unfold doCharge;try simp only
  repeat'(first|split|exact bD _ _|exact jw _ _ _ (by simp))|.credit h a=>by show rl (doCredit e h a).2≤3900;unfold doCredit;repeat'(first|split|exact bD _ _|exact jw _ _ _ (by simp))|.overhead a b=>by
  simp only[step];split;·exact bD _ _
  ·refine lU λj _=>?_;split;·exact bD _ _
   ·exact gO _ _|.month=>by
  show rl (doMonth e).2≤3900;unfold doMonth;split;·exact bD _ _
  ·exact jw _ _ _ (by simp)|.spent g b=>by
  simp only[step];split;·exact bD _ _
  ·exact lU λj _=>jw _ _ _ (by simp)|.invoice g b=>by
  simp only[step];split;·exact bD _ _
  ·refine lU λj _=>?_;split;·exact bD _ _
   ·split;·exact gO _ _
    ·exact jw _ _ _ (by simp)|.total g=>by
  simp only[step];split;·exact bD _ _
  ·exact jw _ _ _ (by simp)|.entry h=>by f_assign(
  simp only[step];split;·exact bD _ _
  ·split;·exact bD _ _
   ·rename_i c B;have r:=Jy B;have C:=d.ew c r;obtain⟨a,i⟩:=d.ec c r;have D:=zI (qZ d i);have:=zH [Vbbhal.ints c.code,[(c.month:Int),c.amount],kindRow c.kind] 8 (λq s=>by
    simp only[List.mem_cons,List.not_mem_nil,or_false]at s;rcases s with rfl|rfl|rfl;·unfold Vbbhal.ints;rw[Ln];exact D
    ·simp
    ·exact C);show(List.flatMap (λq=>(q.length:Int)::q) [Vbbhal.ints c.code,[(c.month:Int),c.amount],kindRow c.kind]).length≤3900;refine LY this (by simp))|.statement g E k b=>by f_assign(
  simp only[step];split;·exact bD _ _
  · rename_i l;refine lU λj _=>?_;refine jw _ _ _ ?_;have u:inside k 1 100=true:=by
      cases v:inside k 1 100;·exact absurd (.inr (.inr v)) l
      ·rfl
    have u:=Gm.aX.mp u;have hf:∀m:List Entry,(m.flatMap λc=>[(c.num:Int),c.amount]).length=2*m.length:=λm=>by induction m with|nil=>rfl|cons a m F=>rw[KJ,Kr,F];simp only[List.length_cons,List.length_nil];lia
    rw[hf];have:=List.length_take_le k.toNat (e.entries.filter λc=>c.month==g.toNat&&(c.code==b&&decide (E≤(c.num:Int))));lia)|.children b=>by f_assign(
  simp only[step];split
  ·refine qY _ _ ?_ λb l=>?_;·rw[Ln];exact LY (JV ..) (alen d)
   ·obtain⟨a,i,rfl⟩:=LX.mp l;exact d.codes a (Lr.mp i).1
  ·refine lU λj _=>qY _ _ ?_ λb l=>?_;·exact LY (Hm.qX b) (alen d)
   ·obtain⟨a,i,_⟩:=Hm.eU d.tree.wf l;exact qZ d i)|.path b=>lU λj z=>qY _ _ (LY (d.tree.wf.chain z).2 (by decide)) λx G=>by obtain⟨a,i⟩:=(d.tree.wf.chain z).1.acc G;exact qZ d i|.split a w=>by
  simp only[step];split;·exact bD _ _
  ·split;·exact bD _ _
   ·rename_i H;split;·exact bD _ _
    ·split;·exact bD _ _
     ·refine jw _ _ _ ?_;rw[Ln,Hm.Gj,Ln];apply Jw;intro v;exact H (.inr (by lia))|.when_=>by simp only[step];exact jw _ _ _ (by simp)
end Qm
namespace L2
open PySem PySem.Spec PyProof.Rows
abbrev Key:=Sum Int Str
def mO:Key→Value→Bool|.inl k,a=>Value.isInt k a|.inr x,a=>Value.isStrOf x a
def IW(w:World):Key→Int|.inl k=>hashInt k|.inr x=>hashStr w x
theorem bM:∀{k:Key}{v:Value},mO k v=true→(∃a t,k=Sum.inl a∧v=Value.int a t)∨(∃x t,k=Sum.inr x∧v=Value.str x t)|.inl a,v,b=>by obtain⟨t,c⟩:=Value.isInt_shape (k:=a) (v:=v) b;exact .inl ⟨a,t,rfl,c⟩|.inr x,v,b=>by obtain⟨t,c⟩:=Value.isStrOf_shape (x:=x) (v:=v) b;exact .inr ⟨x,t,rfl,c⟩
theorem oq(a:Int)(t:Tok):mO (.inl a) (.int a t)=true:=by simp[mO,Value.isInt]
theorem Bc(x:Str)(t:Tok):mO (.inr x) (.str x t)=true:=by simp[mO,Value.isStrOf]
theorem Gq(a b:Int):decide ((Sum.inl a:Key)=Sum.inl b)=(a==b):=by
 by_cases c:a=b;·subst c;simp
 ·have d:¬(Sum.inl a:Key)=Sum.inl b:=λe=>c (Sum.inl.inj e);rw[Lx d];exact(Kj.mpr c).symm
theorem Gr(a b:Str):decide ((Sum.inr a:Key)=Sum.inr b)=decide (a=b):=by
 by_cases c:a=b;·subst c;simp
 ·have d:¬(Sum.inr a:Key)=Sum.inr b:=λe=>c (Sum.inr.inj e);rw[Lx d,Lx c]
theorem Gs(a:Int)(b:Str):decide ((Sum.inl a:Key)=Sum.inr b)=false:=Lx (λc=>nomatch c)
theorem Gu(a:Str)(b:Int):decide ((Sum.inr a:Key)=Sum.inl b)=false:=Lx (λc=>nomatch c)
def bz(l:Program)(w:World):PySem.KeyKind l w Key where
 is:=mO;hash:=IW w;inj:=λh a o m j=>by
  rcases bM m with⟨i,t,rfl,rfl⟩|⟨x,t,rfl,rfl⟩
  ·rcases bM j with⟨f,c,rfl,d⟩|⟨y,c,rfl,d⟩;·injection d with e _;rw[e]
   ·exact nomatch d
  ·rcases bM j with⟨f,c,rfl,d⟩|⟨y,c,rfl,d⟩;·exact nomatch d
   ·injection d with e _;rw[e]
 byValue:=λk h b=>by rcases bM b with⟨i,t,rfl,rfl⟩|⟨x,t,rfl,rfl⟩<;>rfl
 pyHash:=λg b=>by
  rcases bM g with⟨i,t,rfl,rfl⟩|⟨x,t,rfl,rfl⟩;·exact wpAny_pyHash_int b
  ·exact wpAny_pyHash_str b
 eqBool:=λn g b=>by
  rcases bM n with⟨i,t,rfl,rfl⟩|⟨x,t,rfl,rfl⟩
  ·rcases bM g with⟨f,c,rfl,rfl⟩|⟨y,c,rfl,rfl⟩;·rw[Gq]at b;exact wpAny_eqBool_int b
   ·rw[Gs]at b;exact SeqAt.EqAt.int_str i t y c _ _ _ _ b
  ·rcases bM g with⟨f,c,rfl,rfl⟩|⟨y,c,rfl,rfl⟩;·rw[Gu]at b;exact SeqAt.EqAt.str_int x t f c _ _ _ _ b
   ·rw[Gr]at b;exact wpAny_eqBool_str b
 «strs»:=λk x t h b=>by
  rcases bM b with⟨i,c,rfl,d⟩|⟨y,c,rfl,d⟩;·exact nomatch d
  ·injection d with e _;subst e;cases h<;>rfl
theorem wA(b:Program)(w:World)(a:Int)(t:Tok):(bz b w).is (.inl a) (.int a t)=true:=oq a t
theorem wB(a:Program)(w:World)(x:Str)(t:Tok):(bz a w).is (.inr x) (.str x t)=true:=Bc x t
inductive V where|non|bl(b:Bool)|int(i:Int)|str(x:Str)|byt(b:Array UInt8)|flt(b:UInt64)|ref(a:Addr)|ty(n:String)deriving DecidableEq
def RelV:V→Value→Prop|.non,b=>b=Value.none|.bl c,b=>b=Value.bool c|.int d,b=>∃t,b=Value.int d t|.str x,b=>∃t,b=Value.str x t|.byt c,b=>∃t,b=Value.bytes c t|.flt c,b=>∃t,b=Value.float c t|.ref a,b=>b=Value.ref a|.ty e,b=>b=Value.type e
abbrev aZ:List V→List Value→Prop:=Paired RelV
theorem aZ.length{a:List V}{b:List Value}(c:aZ a b):a.length=b.length:=LQ c
theorem aZ.get:∀{c:List V}{d:List Value}{i:Nat}{x:V},aZ c d→c[i]?=some x→∃b,d[i]?=some b∧RelV x b|_,_,_,_,.nil,a=>by simp at a|_,_,0,_,.cons e _,a=>by simp at a;subst a;exact⟨_,rfl,e⟩|_,_,i+1,x,.cons _ t,a=>by obtain⟨b,f,g⟩:=aZ.get (i:=i) (x:=x) t (by simpa using a);exact⟨b,by simpa using f,g⟩
theorem aZ.set(b:RelV x u):∀{c:List V}{d:List Value}(a:Nat),aZ c d→aZ (c.set a x) (d.set a u)|_,_,_,.nil=>.nil|_,_,0,.cons _ t=>.cons b t|_,_,a+1,.cons e t=>.cons e (aZ.set b a t)
theorem aZ.append:∀{b c:List V}{d e:List Value},aZ b d→aZ c e→aZ (b++c) (d++e)|_,_,_,_,.nil,a=>a|_,_,_,_,.cons f t,a=>.cons f (aZ.append t a)
theorem aZ.take:∀{b:List V}{c:List Value}(a:Nat),aZ b c→aZ (b.take a) (c.take a)|_,_,0,_=>.nil|_,_,_+1,.nil=>.nil|_,_,a+1,.cons d t=>.cons d (aZ.take a t)
theorem aZ.drop:∀{b:List V}{c:List Value}(a:Nat),aZ b c→aZ (b.drop a) (c.drop a)|_,_,0,d=>d|_,_,_+1,.nil=>.nil|_,_,a+1,.cons _ t=>aZ.drop a t
def i5:Option V→Option Value→Prop|some v,some a=>RelV v a|none,none=>True|_,_=>False
def KV{a:Type}:List (a×V)→List (a×Value)→Prop:=Paired λ(b:a×V)(c:a×Value)=>b.1=c.1∧RelV b.2 c.2
def kV:Key→V|.inl a=>.int a|.inr x=>.str x
inductive HO where|lst(xs:List V)|tup(xs:List V)|dK(kvs:List (Key×V))|dT(kvs:List (List Key×V))|set(S:Int→Bool)(n:Nat)|ins(C dx:Addr)(fs:List (Str×V))|own(x:Addr)|xd(fs:List (Str×V))|met(f x:Addr)|rng(lo hi:Int)|frz(o:Obj)(u:HO)|tbl(ps:Array Value)|ext(φ:Heap→Prop)
abbrev Hp:=Addr→Option HO
def upd(c:Hp)(a:Addr)(d:HO):Hp:=λb=>if b=a then some d else c b
theorem aj:upd H a o a=some o:=by unfold upd;rw[Mj rfl]
theorem ak{a b:Addr}(c:b≠a):upd H a o b=H b:=by unfold upd;rw[Mi c]
theorem kU:upd (upd H a o) a u=upd H a u:=by funext b;unfold upd;split<;>rfl
theorem fJ{c:Hp}(e:c a=some o)(d:c b=some u)(f:o≠u):a≠b:=by intro g;subst g;rw[e]at d;exact f (Lv d)
theorem ay{c:Hp}(e:c a=some o)(d:c b=none):a≠b:=by intro f;subst f;rw[e]at d;cases d
section
variable (P : Program) (w : World)
def bU(j:Hp)(b:Heap)(a:Addr):HO→Prop|.lst d=>d.length≤sizeLine∧∃(g:List Value)(l:Nat),aZ d g∧b.get? a=some {cls:=.type "list",data:=.seq g.toArray l}|.tup d=>d.length≤sizeLine∧∃g:List Value,aZ d g∧IsTup b a g.toArray|.dK h=>h.length≤sizeLine∧(a==sysModules)=false∧∃q,KV h q∧b.DictOf (bz P w) a q|.dT h=>h.length≤sizeLine∧(a==sysModules)=false∧∃d:List (List Key×Addr×Value),Paired (λ(m:List Key×V)(n:List Key×Addr×Value)=>m.1=n.1∧j n.2.1=some (.tup (m.1.map kV))∧RelV m.2 n.2.2) h d∧∃c r v,b.get? a=some c∧c.ExactDict∧c.data=.dict r v∧r.toList=d.map (entryOfKey (tupleKind (bz P w)))∧(d.map (·.1)).Nodup|.set y l=>b.SetOf (intKind P w) a y l|.ins z i fs=>j i=some (.own a)∧fs.length≤1000∧i≠a∧b.get? a=some (PySem.W.instObj z i)∧∃f,b.Ns1 i f∧(∀e,i5 (fs.lookup e) (f e))∧PySem.Within f (fs.map (·.1))|.own _=>∃c,b.get? a=some c|.xd fs=>∃f,b.Ns1 a f∧∀e,i5 (fs.lookup e) (f e)|.rng lo A=>∃t o B,b.get? a=some {cls:=.type "range",data:=.fields #[.int lo t,.int A o,.int 1 B]}|.frz c o=>b.get? a=some c∧bU j b a o|.tbl C=>b.get? a=some {cls:=.none,data:=.fields C}|.met e x=>b.get? a=some (PySem.W.methodObj (.ref e) (.ref x))|.ext p=>p b∧(∃c,b.get? a=some c)∧∀s u:Heap,p s→(∀c,s.get? a=some c→u.get? a=some c)→p u
def HOk(b:Hp)(d:Heap):Prop:=∀a c,b a=some c→bU P w b d a c
end
section
variable {P : Program} {w : World} {H H' : Hp} {h h' : Heap} {a : Addr} {o : HO}
theorem bU.lt(x:bU P w H h a o):a<h.objs.size:=by f_assign(cases o with|lst c=>obtain⟨_,_,_,_,b⟩:=x;exact LU b|tup c=>obtain⟨_,_,_,d⟩:=x;exact d.lt|dK e=>obtain⟨_,_,_,_,o,_,_,b,_⟩:=x;exact LU b|dT e=>obtain⟨_,_,_,_,o,_,_,b,_⟩:=x;exact LU b|set f g=>obtain⟨o,_,_,_,b,_⟩:=x;exact LU b|ins i j fs=>obtain⟨_,_,_,b,_⟩:=x;exact LU b|own y=>obtain⟨_,b⟩:=x;exact LU b|xd fs=>obtain⟨_,⟨_,_,_,b,_⟩,_⟩:=x;exact LU b|rng lo l=>obtain⟨_,_,_,b⟩:=x;exact LU b|frz m n=>obtain⟨b,_⟩:=x;exact LU b|tbl p=>exact LU (show h.get? a=some _ from x)|met q y=>exact LU (show h.get? a=some _ from x)|ext r=>obtain⟨_,⟨_,b⟩,_⟩:=x;exact LU b)
theorem Paired.mapP{b c:Type}{d e:b→c→Prop}:∀{f:List b}{g:List c},Paired d f g→(∀a i,d a i→e a i)→Paired e f g|_,_,.nil,_=>.nil|_,_,.cons l t,j=>.cons (j _ _ l) (Paired.mapP t j)
theorem bU.stay(x:bU P w H h a o)(k:∀f m,(f=a∨H f=some (.own a))→h.get? f=some m→h'.get? f=some m)(B:∀f,H f=some (.own a)→H' f=some (.own a))(C:∀f l,H f=some (.tup l)→H' f=some (.tup l)):bU P w H' h' a o:=by f_assign(induction o with|lst l=>obtain⟨c,p,s,d,b⟩:=x;exact⟨c,p,s,d,k _ _ (.inl rfl) b⟩|tup l=>obtain⟨c,p,d,g,b,e⟩:=x;exact⟨c,p,d,g,k _ _ (.inl rfl) b,e⟩|dK D=>obtain⟨c,y,E,d,g,i,j,b,e⟩:=x;exact⟨c,y,E,d,g,i,j,k _ _ (.inl rfl) b,e⟩|dT D=>obtain⟨c,y,l,d,g,i,j,b,e⟩:=x;exact⟨c,y,l,Paired.mapP d λu n c=>⟨c.1,C _ _ c.2.1,c.2.2⟩,g,i,j,k _ _ (.inl rfl) b,e⟩|set J s=>obtain⟨g,i,j,t,b,e⟩:=x;exact⟨g,i,j,t,k _ _ (.inl rfl) b,e⟩|ins L M fs=>obtain⟨v,c,ne,b,q,⟨r,i,j,F,e⟩,d⟩:=x;exact⟨B _ v,c,ne,k _ _ (.inl rfl) b,q,⟨r,i,j,k _ _ (.inr v) F,e⟩,d⟩|own y=>obtain⟨g,b⟩:=x;exact⟨g,k _ _ (.inl rfl) b⟩|xd fs=>obtain⟨q,⟨r,i,j,b,e⟩,d⟩:=x;exact⟨q,⟨r,i,j,k _ _ (.inl rfl) b,e⟩,d⟩|rng lo N=>obtain⟨t,m,G,b⟩:=x;exact⟨t,m,G,k _ _ (.inl rfl) b⟩|frz g m I=>obtain⟨b,n⟩:=x;exact⟨k _ _ (.inl rfl) b,I n⟩|tbl z=>have b:h.get? a=some {cls:=.none,data:=.fields z}:=x;show h'.get? a=some {cls:=.none,data:=.fields z};exact k a _ (.inl rfl) b|met A y=>have b:h.get? a=some (PySem.W.methodObj (.ref A) (.ref y)):=x;show h'.get? a=some (PySem.W.methodObj (.ref A) (.ref y));exact k a _ (.inl rfl) b|ext O=>obtain⟨u,⟨o,b⟩,st⟩:=x;exact⟨st _ _ u λo n=>k _ _ (.inl rfl) n,⟨o,k _ _ (.inl rfl) b⟩,st⟩)
theorem HOk.lt(x:HOk P w H h)(b:H a=some o):a<h.objs.size:=(x a o b).lt
theorem HOk.fresh(x:HOk P w H h)(b:h.objs.size≤a):H a=none:=by cases q:H a with|none=>rfl|some c=>exact absurd (Kw (x.lt q) b) (LP _)
theorem HOk.kept(x:HOk P w H h)(k:∀c d,h.get? c=some d→h'.get? c=some d):HOk P w H h':=λa o e=>(x a o e).stay (λc d _ b=>k c d b) (λ_ b=>b) λ_ _ b=>b
theorem HOk.laid(x:HOk P w H h)(k:∀c d,h.get? c=some d→h'.get? c=some d)(j:h.objs.size≤a)(new:bU P w (upd H a o) h' a o):HOk P w (upd H a o) h':=λc d e=>by
 have g:=x.fresh j;by_cases i:c=a;·subst i;rw[aj]at e;cases e;exact new
 ·rw[ak i]at e;exact(x c d e).stay (λf l _ b=>k f l b) (λf b=>by rw[ak (ay b g)];exact b) λf m b=>by rw[ak (ay b g)];exact b
end
def Rd(b:Hp)(a:Addr)(c:HO):Prop:=b a=some c∨∃d,b a=some (.frz d c)
theorem Rd.ok{P:Program}{w:World}(b:Rd H a u)(x:HOk P w H h):bU P w H h a u:=by
 rcases b with b|⟨o,b⟩;·exact x a u b
 ·obtain⟨_,c⟩:=x a _ b;exact c
def Mut:Option HO→Prop|some (.lst _)=>True|some (.dK _)=>True|some (.dT _)=>True|some (.set _ _)=>True|some (.ins _ _ _)=>True|some (.ext _)=>True|_=>False
section
variable {P : Program} {w : World} {H : Hp} {h h' : Heap} {x e : Addr} {o' : HO}
theorem HOk.write(ok:HOk P w H h)(i:Mut (H x))(p:e=x∨H e=some (.own x))(k:∀d f,d≠e→h.get? d=some f→h'.get? d=some f)(s:∃f,h'.get? e=some f)(new:bU P w (upd H x o') h' x o'):HOk P w (upd H x o') h':=λd f g=>by f_assign(
 have q:∀a y,H a=some (.own y)→a≠x:=λa y c b=>by subst b;rw[c]at i;exact i
 have u:∀a j,H a=some (.tup j)→a≠x:=λa j c b=>by subst b;rw[c]at i;exact i
 by_cases l:d=x;·subst l;rw[aj]at g;cases g;exact new
 ·rw[ak l]at g;by_cases m:d=e
  · have r:H d=some (.own x):=by
      rcases p with b|b;·exact absurd (m.trans b) l
      ·rw[m];exact b
    rw[g]at r;cases r;obtain⟨o,v⟩:=s;exact⟨o,by rw[m];exact v⟩
  ·refine(ok d f g).stay (λa o n c=>k a o ?_ c) (λa c=>by rw[ak (q a d c)];exact c) λa j c=>by rw[ak (u a j c)];exact c
   rcases n with rfl|n;·exact m
   ·rintro rfl;rcases p with b|b;·exact q a d n b
    ·rw[n]at b;cases b;exact l rfl)
end
structure Un(fs ex:List Addr)(H H':Hp)(h h':Heap):Prop where
 keep:∀b o,h.get? b=some o→H b=none→b∉fs→b∉ex→h'.get? b=some o
 slot:∀b o,h.get? b=some o→H b=none→b∈fs→b∉ex→∃sl,h'.get? b=some {o with slots:=sl}free:∀b o,h.get? b=some o→H b=none→b∉ex→H' b=none
 there:∀b o,h.get? b=some o→b∉ex→∃o',h'.get? b=some o'
 tups:∀b xs,H b=some (.tup xs)→H' b=some (.tup xs)frzs:∀b o u,H b=some (.frz o u)→H' b=some (.frz o u)tbls:∀b ps,H b=some (.tbl ps)→∃more,H' b=some (.tbl (ps++more))
section
variable {fs fs' ex ex' : List Addr} {H H1 H2 : Hp} {h h1 h2 h' : Heap} {a x e : Addr} {o : HO}
theorem Un.any(d:Un fs ex H H1 h h1){b:Addr}{c:Obj}(f:h.get? b=some c)(g:H b=none)(i:b∉ex):∃l,h1.get? b=some {c with slots:=l}:=by
 by_cases j:b∈fs;·exact d.slot b c f g j i
 ·exact⟨c.slots,d.keep b c f g j i⟩
theorem Un.kept(k:∀c f,h.get? c=some f→h'.get? c=some f):Un fs ex H H h h':=⟨λc d b _ _ _=>k c d b,λc d b _ _ _=>⟨d.slots,k c d b⟩,λ_ _ _ g _=>g,λc d b _=>⟨d,k c d b⟩,λ_ _ b=>b,λ_ _ _ b=>b,λ_ i b=>⟨#[],by rw[b];simp⟩⟩
theorem Un.refl:Un fs ex H H h h:=Un.kept λ_ _ b=>b
theorem Un.laid(k:∀c d,h.get? c=some d→h'.get? c=some d)(g:h.objs.size≤a)(f:H a=none):Un fs ex H (upd H a o) h h' where
 keep:=λc d b _ _ _=>k c d b;slot:=λc d b _ _ _=>⟨d.slots,k c d b⟩;free:=λc d b i _=>by rw[ak (L3 (Kw (LU b) g))];exact i
 there:=λc d b _=>⟨d,k c d b⟩;tups:=λc j b=>by rw[ak (ay b f)];exact b
 frzs:=λc d j b=>by rw[ak (ay b f)];exact b
 tbls:=λc l b=>⟨#[],by rw[ak (ay b f),b];simp⟩
theorem Un.write(i:Mut (H x))(q:e=x∨H e=some (.own x))(k:∀b c,b≠e→h.get? b=some c→h'.get? b=some c)(r:∃c,h'.get? e=some c):Un fs ex H (upd H x o) h h':=by f_assign(
 have m:∀b,H b=none→b≠x:=λb f g=>by subst g;rw[f]at i;exact i
 have n:∀b,H b=none→b≠e:=λb f g=>by
  subst g;rcases q with j|j;·exact m b f j
  ·rw[f]at j;cases j
 have l:∀b c,H b=some c→¬Mut (some c)→b≠x:=λb c d s g=>by subst g;rw[d]at i;exact s i
 refine⟨λb c d f _ _=>k b c (n b f) d,λb c d f _ _=>⟨c.slots,k b c (n b f) d⟩,λb c d f _=>by rw[ak (m b f)];exact f,λb c d _=>?_,λb u d=>by rw[ak (l b _ d λg=>g)];exact d,λb c u d=>by rw[ak (l b _ d λg=>g)];exact d,λb v d=>⟨#[],by rw[ak (l b _ d λg=>g),d];simp⟩⟩;by_cases p:b=e;·subst p;exact r
 ·exact⟨c,k b c p d⟩)
end
def trk(b:Heap)(c:Hp):List Addr:=(List.range b.objs.size).filter λa=>(c a).isSome
def tw(a:Heap)(b:Hp):Heap:=PySem.W.hideAll a (trk a b)
theorem Bd(a:Heap)(b:Hp):(tw a b).objs.size=a.objs.size:=PySem.W.hideAll_size _ _
theorem Cp{c:Heap}{b:Hp}{a:Addr}(e:c.get? a=some o)(f:b a=none):(tw c b).get? a=some o:=PySem.W.hideAll_get _ e λg=>by have d:(b a).isSome=true:=(Lr.mp g).2;rw[f]at d;simp at d
theorem Eu{a:Heap}{b:Addr}(c:(tw a H).get? b=some o):a.get? b=some o∧H b=none:=by have d:a.get? b=some o:=PySem.W.of_hideAll (trk a H) c;refine⟨d,?_⟩;cases q:H b with|none=>rfl|some x=>have e:b∈trk a H:=Lr.mpr ⟨LC.mpr (LU d),by simp[q]⟩;have f:(tw a H).get? b=none:=PySem.W.hideAll_none (trk a H) e;rw[f]at c;cases c
structure Mod(K:PySem.W.Frag)(mg:Str→Option Value)(base:Heap):Prop where
 kin:K.In base
 glob:base.Ns mainGlobals mg
 blt:∃mb,base.Ns builtinsNs mb∧∀x:Str,x≠"__name__"→mb x=bootBuiltins x
 nolimit:base.NoLimit
set_option genInjectivity false in
structure Cx where
 prog:Program
 w:World
 K:PySem.W.Frag
 mg:Str→Option Value
 base:Heap
 A:Around
 N:List Str
 s_0:Shared
 H_0:Hp
 env:Env
 outer:List Env
 stack:List Env
 ex:List Addr
 fn:Str→Bool
 calm:Bool
 pn:List (Addr×Obj)xe:Value→Shared→Prop
def frs(a:List Env):List Addr:=a.filterMap (·.frame)
abbrev Cx.fs(X:Cx):List Addr:=frs X.outer
def Vis(a:Scope)(x:Str):Prop:=a.names.lookup x=some .local∨a.names.lookup x=some .cell∨a.names.lookup x=some .free
def Loc(a:Scope)(x:Str):Prop:=a.names.lookup x=some .local∨a.names.lookup x=some .cell
def Look(a:Env)(d:Heap)(e:Str→Option Value)(x:Str)(b:Value):Prop:=(a.kindOf x=some .local∧e x=some b)∨((a.kindOf x=some .cell∨a.kindOf x=some .free)∧∃c,a.cells.lookup x=some c∧d.IsCell c (some b))
structure Cx.Ok(X:Cx):Prop where
 mod:Mod X.K X.mg X.base
 kind:X.env.scope.kind=.function
 glob:X.env.globals=mainGlobals
 blt:X.env.builtins=builtinsNs
 above:X.s_0.heap.objs.size≤X.env.locals
 inj:∀x y c,X.env.cells.lookup x=some c→X.env.cells.lookup y=some c→x=y
 has:∀x,(X.env.kindOf x=some .cell∨X.env.kindOf x=some .free)→∃c,X.env.cells.lookup x=some c
 cab:∀x c,X.fn x=true→X.env.cells.lookup x=some c→X.s_0.heap.objs.size≤c
 hd:X.calm=true→X.A.handled=none
 frames:X.A.frames=some X.stack
 stk:X.stack=X.outer∨(X.stack=X.env::X.outer∧X.env.frame=some X.env.locals)exf:∀b∈X.ex,b≠X.env.locals∧∀x c,X.env.cells.lookup x=some c→c≠b
 bs:∀b o,X.base.get? b=some o→X.s_0.heap.get? b=some o∧X.H_0 b=none
 bsz:X.base.objs.size≤X.s_0.heap.objs.size
 noex:∀b o,X.base.get? b=some o→b∉X.ex
 exfs:∀b∈X.ex,b∉X.fs
 funs:X.s_0.heap.FunFrames X.base X.outer
 frf:∀b∈X.fs,X.H_0 b=none
structure Inv(X:Cx)(pins:List (Addr×Obj))(σ:List (Option V))(H:Hp)(s:Shared):Prop where
 ok:X.Ok
 os:s.os=X.s_0.os
 bare:AllBare s.gens
 base:Un X.fs X.ex X.H_0 H X.s_0.heap s.heap
 loc:∃m,s.heap.Ns X.env.locals m∧∀(i:Nat)(x:Str)(v:V),X.N[i]?=some x→σ[i]?=some (some v)→Vis X.env.scope x→∃u,RelV v u∧Look X.env s.heap m x u
 cell:∀x c,X.env.cells.lookup x=some c→∃v,s.heap.IsCell c v
 free:H X.env.locals=none
 freeC:∀x c,X.env.cells.lookup x=some c→H c=none
 pin:∀p∈X.pn++pins,s.heap.get? p.1=some p.2∧H p.1=none∧p.1≠X.env.locals∧p.1∉X.fs∧∀v,p.2.data≠.cell v
 hok:HOk X.prog X.w H s.heap
 len:σ.length=X.N.length
section
variable {X : Cx} {pins : List (Addr × Obj)} {σ : List (Option V)} {H H' : Hp} {s : Shared} {h' : Heap}
theorem Cx.Ok.nofr(ok:X.Ok){a:Addr}(b:X.base.get? a=some o):a∉X.fs:=λc=>by have:=(ok.funs.mem c).1;rw[b]at this;cases this
theorem Inv.bs(c:Inv X pins σ H s):∀a b,X.base.get? a=some b→s.heap.get? a=some b∧H a=none:=λa b d=>⟨c.base.keep a b (c.ok.bs a b d).1 (c.ok.bs a b d).2 (c.ok.nofr d) (c.ok.noex a b d),c.base.free a b (c.ok.bs a b d).1 (c.ok.bs a b d).2 (c.ok.noex a b d)⟩
theorem Inv.bk(c:Inv X pins σ H s):∀a b,X.base.get? a=some b→s.heap.get? a=some b:=λa b d=>(c.bs a b d).1
theorem Inv.mod(a:Inv X pins σ H s):Mod X.K X.mg X.base:=a.ok.mod
theorem Inv.kIn(a:Inv X pins σ H s):X.K.In s.heap:=a.ok.mod.kin.keeps a.bk
theorem Inv.lt(a:Inv X pins σ H s):X.env.locals<s.heap.objs.size:=let⟨_,hn,_⟩:=a.loc;hn.lt
theorem Inv.sz(a:Inv X pins σ H s):X.s_0.heap.objs.size≤s.heap.objs.size:=LY a.ok.above (Nat.le_of_lt a.lt)
theorem Inv.nofs(b:Inv X pins σ H s){a:Addr}(c:s.heap.objs.size≤a):a∉X.fs:=λd=>by obtain⟨_,f,e,_⟩:=b.ok.funs.mem d;exact absurd (Kw (LU e) (LY b.sz c)) (LP _)
theorem Inv.cne(b:Inv X pins σ H s):∀x a,X.env.cells.lookup x=some a→a≠X.env.locals:=λx a e f=>by obtain⟨i,j,c,d⟩:=b.cell x a e;obtain⟨l,⟨m,n,o,g,h,_⟩,_⟩:=b.loc;rw[f,g]at c;cases c;rw[h]at d;cases d
theorem Inv.funs(c:Inv X pins σ H s):s.heap.FunFrames X.base X.outer:=by f_assign(
 have all:∀(b:List Env),(∀d∈frs b,d∈X.fs)→X.s_0.heap.FunFrames X.base b→s.heap.FunFrames X.base b:=by intro b;induction b with|nil=>intro _ _;trivial|cons u v h=>intro g i;obtain⟨j,⟨a,l,hf,m,n,o⟩,p⟩:=i;have e:a∈X.fs:=g a (by unfold frs;rw[Kd,hf];exact Ks);obtain⟨x,q⟩:=c.base.slot a l n (c.ok.frf a e) e λr=>c.ok.exfs a r e;exact⟨j,⟨a,_,hf,m,q,o⟩,h (λd f=>g d (by unfold frs;rw[Kd,hf];exact J0 _ f)) p⟩
 exact all X.outer (λ_ f=>f) c.ok.funs)
theorem Inv.stack(a:Inv X pins σ H s):s.heap.FunFrames X.base X.stack:=by
 rcases a.ok.stk with e|⟨e,hf⟩;·rw[e];exact a.funs
 ·rw[e];obtain⟨c,b,_⟩:=a.loc;refine .cons (by rw[a.ok.kind];decide) hf b ?_ a.funs;exact Heap.get?_none_of_le (LY a.ok.bsz a.ok.above)
theorem Inv.zp(c:Inv X pins σ H s):∀b∈frs X.stack,b∈X.env.locals::X.fs:=λb a=>by
 rcases c.ok.stk with e|⟨e,hf⟩;·rw[e]at a;exact J0 _ a
 ·rw[e]at a;unfold frs at a;rw[Kd,hf]at a;exact a
theorem Inv.AX(a:Inv X pins σ H s):∀b∈frs X.stack,H b=none:=λb c=>by
 rcases LN.mp (a.zp b c)with d|c;·rw[d];exact a.free
 ·obtain⟨_,e,f,_⟩:=a.ok.funs.mem c;exact a.base.free b e f (a.ok.frf b c) λg=>a.ok.exfs b g c
theorem Inv.step{g':Array GenState}{t':Nat}{d':Drawn}{ch:List Addr}(e:Inv X pins σ H s)(q:∀a∈ch,(a∈X.ex∨X.s_0.heap.objs.size≤a)∧a≠X.env.locals∧(∀x d,X.env.cells.lookup x=some d→d≠a)∧∀h∈X.pn++pins,h.1≠a)(keep:∀a b,a≠X.env.locals→a∉X.fs→a∉ch→s.heap.get? a=some b→H a=none→h'.get? a=some b)(E:∀a b,a≠X.env.locals→a∈X.fs→a∉ch→s.heap.get? a=some b→H a=none→∃B,h'.get? a=some {b with slots:=B})(free:∀a b,a∉ch→s.heap.get? a=some b→H a=none→H' a=none)(L:∀a b,a∉ch→s.heap.get? a=some b→∃r,h'.get? a=some r)(M:∀a m,H a=some (.tup m)→H' a=some (.tup m))(N:∀a b y,H a=some (.frz b y)→H' a=some (.frz b y))(O:∀a z,H a=some (.tbl z)→∃Q,H' a=some (.tbl (z++Q)))(R:∀o,s.heap.Ns X.env.locals o→h'.Ns X.env.locals o)(S:HOk X.prog X.w H' h')(T:AllBare g'):Inv X pins σ H' {s with heap:=h',gens:=g',drawn:=d',toks:=t'}:=by f_assign(
 have F:∀a b,X.s_0.heap.get? a=some b→a≠X.env.locals:=λa b c=>L3 (Kw (LU c) e.ok.above);have A:∀a b,X.s_0.heap.get? a=some b→a∉X.ex→a∉ch:=λa b c f n=>by
  rcases(q a n).1 with g|g;·exact f g
  ·exact absurd (Kw (LU c) g) (LP _)
 have G:∀x d,X.env.cells.lookup x=some d→∀j,s.heap.IsCell d j→h'.IsCell d j:=λx d c j⟨b,p,C⟩=>by
  have u:d∉ch:=λg=>(q d g).2.2.1 x d c rfl;by_cases I:d∈X.fs;·obtain⟨B,U⟩:=E d b (e.cne x d c) I u p (e.freeC x d c);exact⟨_,U,C⟩
  ·exact⟨b,keep d b (e.cne x d c) I u p (e.freeC x d c),C⟩
 refine⟨e.ok,e.os,T,⟨λa b c i n f=>?_,λa b c i n f=>?_,λa b c i f=>?_,λa b c f=>?_,λa m c=>M a m (e.base.tups a m c),λa b m c=>N a b m (e.base.frzs a b m c),λa z c=>?_⟩,?_,λx d c=>?_,?_,λx d c=>?_,λh J=>?_,S,e.len⟩;·exact keep a b (F a b c) n (A a b c f) (e.base.keep a b c i n f) (e.base.free a b c i f)
 ·obtain⟨B,l⟩:=e.base.slot a b c i n f;obtain⟨Y,v⟩:=E a _ (F a b c) n (A a b c f) l (e.base.free a b c i f);exact⟨Y,v⟩
 ·obtain⟨r,l⟩:=e.base.there a b c f;exact free a r (A a b c f) l (e.base.free a b c i f)
 ·obtain⟨r,l⟩:=e.base.there a b c f;exact L a r (A a b c f) l
 ·obtain⟨Z,l⟩:=e.base.tbls a z c;obtain⟨ac,v⟩:=O a _ l;exact⟨Z++ac,by rw[v,Array.append_assoc]⟩
 ·obtain⟨o,ah,al⟩:=e.loc;refine⟨o,R o ah,λam x j l v an=>?_⟩;obtain⟨y,ap,D⟩:=al am x j l v an;refine⟨y,ap,?_⟩;rcases D with D|⟨k,d,c,g⟩;·exact .inl D
  ·exact .inr ⟨k,d,c,G x d c _ g⟩
 ·obtain⟨j,g⟩:=e.cell x d c;exact⟨j,G x d c j g⟩
 ·obtain⟨o,⟨b,_,_,p,_⟩,_⟩:=e.loc;exact free _ b (λg=>(q _ g).2.1 rfl) p e.free
 ·obtain⟨j,b,p,C⟩:=e.cell x d c;exact free d b (λg=>(q d g).2.2.1 x d c rfl) p (e.freeC x d c)
 ·obtain⟨c,i,ne,nf,ar⟩:=e.pin h J;have u:h.1∉ch:=λg=>(q h.1 g).2.2.2 h J rfl;exact⟨keep h.1 h.2 ne nf u c i,free h.1 h.2 u c i,ne,nf,ar⟩)
theorem Inv.un{t':Nat}(f:Inv X pins σ H s)(a:Un X.fs [] H H' s.heap h')(j:HOk X.prog X.w H' h'):Inv X pins σ H' {s with heap:=h',toks:=t'}:=by f_assign(obtain⟨r,⟨b,u,v,h,x⟩,_⟩:=id f.loc;obtain⟨y,l⟩:=a.any h f.free (by simp);exact f.step (g':=s.gens) (d':=s.drawn) (ch:=[]) (λ_ m=>nomatch m) (λc b _ g _ d e=>a.keep c b d e g (by simp)) (λc b _ g _ d e=>a.slot c b d e g (by simp)) (λc b _ d e=>a.free c b d e (by simp)) (λc b _ d=>a.there c b d (by simp)) a.tups a.frzs a.tbls (λz n=>by obtain⟨A,o,p,i,q⟩:=n;rw[h]at i;cases i;exact⟨_,o,p,l,q⟩) j f.bare)
theorem Inv.call{g':Array GenState}{t':Nat}{d':Drawn}{ch:List Addr}(g:Inv X pins σ H s)(b:Un (frs X.stack) ch H H' s.heap h')(o:HOk X.prog X.w H' h')(p:AllBare g')(j:∀a∈ch,(a∈X.ex∨X.s_0.heap.objs.size≤a)∧a≠X.env.locals∧(∀x l,X.env.cells.lookup x=some l→l≠a)∧∀q∈X.pn++pins,q.1≠a):Inv X pins σ H' {s with heap:=h',gens:=g',drawn:=d',toks:=t'}:=by f_assign(obtain⟨A,⟨c,B,C,m,D⟩,_⟩:=id g.loc;obtain⟨E,h⟩:=b.any m g.free λi=>(j _ i).2.1 rfl;exact g.step (ch:=ch) j (λa c h r d e f=>b.keep a c e f (λi=>(LN.mp (g.zp a i)).elim h r) d) (λa c _ _ d e f=>b.any e f d) (λa c d e f=>b.free a c e f d) (λa c d e=>b.there a c e d) b.tups b.frzs b.tbls (λF u=>by obtain⟨G,v,y,n,z⟩:=u;rw[m]at n;cases n;exact⟨_,v,y,h,z⟩) o p)
theorem Inv.turned{t':Nat}{e:Addr}(j:Inv X pins σ H s)(k:∀a c,a≠e→s.heap.get? a=some c→h'.get? a=some c)(n:H e=none)(l:e≠X.env.locals)(o:e∈X.ex∨X.s_0.heap.objs.size≤e)(p:∀x g,X.env.cells.lookup x=some g→g≠e)(q:∀r∈X.pn++pins,r.1≠e):Inv X pins σ H {s with heap:=h',toks:=t'}:=by f_assign(
 have m:∀a h,H a=some h→a≠e:=λa h b d=>by rw[d,n]at b;cases b
 refine j.step (g':=s.gens) (d':=s.drawn) (ch:=[e]) (λa u=>?_) (λa c _ _ f b _=>k a c (λd=>f (by simp[d])) b) (λa c _ _ f b _=>⟨c.slots,k a c (λd=>f (by simp[d])) b⟩) (λ_ _ _ _ v=>v) (λa c f b=>⟨c,k a c (λd=>f (by simp[d])) b⟩) (λ_ _ b=>b) (λ_ _ _ b=>b) (λa E b=>⟨#[],by rw[b];simp⟩) (λF y=>?_) (λa h b=>?_) j.bare
 ·have b:a=e:=by simpa using u
  subst b;exact⟨o,l,p,q⟩
 ·obtain⟨c,z,A,B,C⟩:=y;exact⟨c,z,A,k _ c (Mg l) B,C⟩
 ·refine(j.hok a h b).stay (λg D f i=>k g D ?_ i) (λ_ i=>i) λ_ _ i=>i;rcases f with d|d;·rw[d];exact m a h b
  ·exact m g _ d)
theorem Inv.tok(a:Inv X pins σ H s)(t:Nat):Inv X pins σ H {s with toks:=t}:=a.un (h':=s.heap) (t':=t) Un.refl a.hok
theorem Inv.kept{t':Nat}(a:Inv X pins σ H s)(k:∀b c,s.heap.get? b=some c→h'.get? b=some c):Inv X pins σ H {s with heap:=h',toks:=t'}:=a.un (Un.kept k) (a.hok.kept k)
theorem Inv.laid{a:Addr}{t':Nat}(b:Inv X pins σ H s)(k:∀d e,s.heap.get? d=some e→h'.get? d=some e)(c:s.heap.objs.size≤a)(new:bU X.prog X.w (upd H a o) h' a o):Inv X pins σ (upd H a o) {s with heap:=h',toks:=t'}:=b.un (Un.laid k c (b.hok.fresh c)) (b.hok.laid k c new)
theorem Inv.write{e:Addr}{t':Nat}(c:Inv X pins σ H s)(d:Mut (H x))(f:e=x∨H e=some (.own x))(k:∀b a,b≠e→s.heap.get? b=some a→h'.get? b=some a)(g:∃a,h'.get? e=some a)(new:bU X.prog X.w (upd H x o) h' x o):Inv X pins σ (upd H x o) {s with heap:=h',toks:=t'}:=c.un (Un.write d f k g) (c.hok.write d f k g new)
theorem Inv.weak{d:List (Option V)}(a:Inv X pins σ H s)(e:d.length=σ.length)(w:∀(b:Nat)c,d[b]?=some (some c)→σ[b]?=some (some c)):Inv X pins d H s:=⟨a.ok,a.os,a.bare,a.base,let⟨m,hn,hl'⟩:=a.loc;⟨m,hn,λb x c f g h=>hl' b x c f (w b c g) h⟩,a.cell,a.free,a.freeC,a.pin,a.hok,e.trans a.len⟩
theorem Inv.oj{c:List (Addr×Obj)}(a:Inv X pins σ H s)(d:∀b∈c,s.heap.get? b.1=some b.2∧H b.1=none∧b.1≠X.env.locals∧b.1∉X.fs∧∀e,b.2.data≠.cell e):Inv X c σ H s:=⟨a.ok,a.os,a.bare,a.base,a.loc,a.cell,a.free,a.freeC,λb f=>(Lq.mp f).elim (λg=>a.pin b (List.mem_append_left _ g)) (d b),a.hok,a.len⟩
theorem q0{b:List Str}(e:b.Nodup){c d:Nat}(a:b[c]?=some x)(f:b[d]?=some x):c=d:=by obtain⟨i,g⟩:=Jx.mp a;obtain⟨j,h⟩:=Jx.mp f;exact(List.getElem_inj e).mp (g.trans h.symm)
theorem tY{aE:Around}{A:Nat}{Y:Unit→Shared→Prop}(b:Inv X pins σ H s)(Z:X.N.Nodup)(B:X.N[A]?=some x)(i:Loc X.env.scope x)(ac:RelV v u)(ah:∀I,Inv X pins (σ.set A (some v)) H I→(∃a,Heap.SameBut a s.heap I.heap∧(a=X.env.locals∨X.env.cells.lookup x=some a))→Y () I)(hf:X.fn x=true∨X.env.scope.names.lookup x=some .local:=by first|exact .inl rfl|exact .inr rfl|assumption):wpAny M aE (storeName X.env x u) Y E s:=by f_assign(
 obtain⟨aI,J,al⟩:=id b.loc;have aK:(X.env.scope.kind==.class||(X.env.scope.kind==.module&&X.env.locals !=X.env.globals))=false:=by rw[b.ok.kind];rfl
 have am:A<σ.length:=by rw[b.len];exact(Jx.mp B).1
 have cne:=b.cne;have an:∀{a:Addr}{h':Heap},(∃j,s.heap.get? a=some j∧H a=none)→Heap.SameBut a s.heap h'→HOk X.prog X.w H h':=λ{a h'}aM d e aN c=>by
  obtain⟨_,_,ap⟩:=aM;refine(b.hok e aN c).stay (λf D h l=>(d.2 f ?_).trans l) (λ_ l=>l) λ_ _ l=>l;rintro rfl;rcases h with rfl|h;·rw[ap]at c;cases c
  ·rw[ap]at h;cases h
 rcases i with p|p
 ·refine wpAny_storeName_local p J (λh' aP d=>?_) aK;obtain⟨aR,_,_,aT,_⟩:=id J;refine ah _ ⟨b.ok,b.os,b.bare,⟨λe j c m q i=>?_,λe j c m q i=>?_,b.base.free,λe j c i=>?_,b.base.tups,b.base.frzs,b.base.tbls⟩,⟨_,aP,λC y L g o N=>?_⟩,λy f c=>?_,b.free,b.freeC,λz O=>?_,an ⟨aR,aT,b.free⟩ d,by simpa using b.len⟩ ⟨_,d,.inl rfl⟩;·exact(d.2 e (L3 (Kw (LU c) b.ok.above))).trans (b.base.keep e j c m q i)
  ·obtain⟨Q,g⟩:=b.base.slot e j c m q i;exact⟨Q,(d.2 e (L3 (Kw (LU c) b.ok.above))).trans g⟩
  ·obtain⟨R,g⟩:=b.base.there e j c i;exact⟨R,(d.2 e (L3 (Kw (LU c) b.ok.above))).trans g⟩
  ·by_cases r:C=A;·subst r;rw[B]at g;cases g;rw[List.getElem?_set_self am]at o;cases o;exact⟨u,ac,.inl ⟨p,by simp⟩⟩
   ·rw[List.getElem?_set_ne (Mg r)]at o;obtain⟨S,T,l⟩:=al C y L g o N;refine⟨S,T,?_⟩;rcases l with⟨k,c⟩|⟨k,f,c,n⟩;·refine .inl ⟨k,?_⟩;have:y≠x:=λc=>r (q0 Z g (c▸B));simp[this,c]
    ·exact .inr ⟨k,f,c,n.sameBut d (cne y f c)⟩
  ·obtain⟨D,n⟩:=b.cell y f c;exact⟨D,n.sameBut d (cne y f c)⟩
  ·obtain⟨c,m,ne,nf,F⟩:=b.pin z O;exact⟨(d.2 z.1 ne).trans c,m,ne,nf,F⟩
 · have U:X.fn x=true:=by
     rcases hf with n|n;·exact n
     ·rw[n]at p;cases p
   obtain⟨f,h⟩:=b.ok.has x (.inl p);obtain⟨D,n⟩:=b.cell x f h;refine wpAny_storeName_cell b.ok.kind p h n (λh' ar d=>?_);obtain⟨av,ax,aU⟩:=id n;refine ah {s with heap:=h'} ⟨b.ok,b.os,b.bare,⟨λe j c m q i=>?_,λe j c m q i=>?_,b.base.free,λe j c i=>?_,b.base.tups,b.base.frzs,b.base.tbls⟩,⟨aI,J.sameBut d (Mg (cne x f h)),λC y L g o N=>?_⟩,λy G c=>?_,b.free,b.freeC,λz O=>?_,an ⟨av,ax,b.freeC x f h⟩ d,by simpa using b.len⟩ ⟨f,d,.inr h⟩;·exact(d.2 e (L3 (Kw (LU c) (b.ok.cab x f U h)))).trans (b.base.keep e j c m q i)
   ·obtain⟨Q,g⟩:=b.base.slot e j c m q i;exact⟨Q,(d.2 e (L3 (Kw (LU c) (b.ok.cab x f U h)))).trans g⟩
   ·obtain⟨R,g⟩:=b.base.there e j c i;exact⟨R,(d.2 e (L3 (Kw (LU c) (b.ok.cab x f U h)))).trans g⟩
   ·by_cases r:C=A;·subst r;rw[B]at g;cases g;rw[List.getElem?_set_self am]at o;cases o;exact⟨u,ac,.inr ⟨.inl p,f,h,ar⟩⟩
    ·rw[List.getElem?_set_ne (Mg r)]at o;obtain⟨S,T,l⟩:=al C y L g o N;refine⟨S,T,?_⟩;rcases l with l|⟨k,G,c,z'⟩;·exact .inl l
     ·refine .inr ⟨k,G,c,z'.sameBut d ?_⟩;rintro rfl;exact r (q0 Z g (b.ok.inj _ _ _ c h▸B))
   ·by_cases aA:G=f;·subst aA;exact⟨_,ar⟩
    ·obtain⟨a0,a1⟩:=b.cell y G c;exact⟨a0,a1.sameBut d aA⟩
   ·obtain⟨c,m,ne,nf,F⟩:=b.pin z O;refine⟨(d.2 z.1 ?_).trans c,m,ne,nf,F⟩;intro l;rw[l,ax]at c;have a2:av=z.2:=Lv c;exact F D (by rw[←a2];exact aU))
theorem q_{d:Around}{b:Nat}{c:Unit→Shared→Prop}(e:Inv X pins σ H s)(f:X.N.Nodup)(g:X.N[b]?=some x)(h:Loc X.env.scope x)(i:RelV v j)(l:∀a,Inv X pins (σ.set b (some v)) H a→c () a)(hf:X.fn x=true∨X.env.scope.names.lookup x=some .local:=by first|exact .inl rfl|exact .inr rfl|assumption):wpAny n d (storeName X.env x j) c o s:=tY e f g h i (λa m _=>l a m) hf
theorem Inv.IT{a:Shared}{ch:List Addr}(d:Inv X pins σ H s)(e:a.os=s.os)(f:Un (frs X.stack) ch H H' s.heap a.heap)(g:HOk X.prog X.w H' a.heap)(h:AllBare a.gens)(i:∀b∈ch,(b∈X.ex∨X.s_0.heap.objs.size≤b)∧b≠X.env.locals∧(∀x c,X.env.cells.lookup x=some c→c≠b)∧∀j∈X.pn++pins,j.1≠b):Inv X pins σ H' a:=by obtain⟨h',g',d',t',l⟩:=a;have m:l=s.os:=e;subst m;exact d.call (g':=g') (t':=t') (d':=d') f g h i
end
abbrev XK:=Value→Option Addr→Hp→Prop
abbrev St:=List (Option V)
abbrev VK:=V→Hp→Prop
abbrev TE:=St→Hp→VK→Prop
abbrev TT:=St→Hp→(Bool→Hp→Prop)→Prop
abbrev TA:=St→Hp→(List V→Hp→Prop)→Prop
structure Ends where
 nx:St→Hp→Prop
 rt:VK
 bk:St→Hp→Prop:=λ_ _=>False
 ct:St→Hp→Prop:=λ_ _=>False
abbrev TS:=Ends→St→Hp→Prop
def EP(c:Cx)(d:List (Addr×Obj))(e:St)(f:VK)(g:Value)(h:Shared):Prop:=∃a b,Inv c d e b h∧RelV a g∧f a b
def TP(b:Cx)(c:List (Addr×Obj))(d:St)(e:Bool→Hp→Prop)(f:Bool)(g:Shared):Prop:=∃a,Inv b c d a g∧e f a
def AP(c:Cx)(d:List (Addr×Obj))(e:St)(f:List V→Hp→Prop)(g:List Value)(h:Shared):Prop:=∃a b,Inv c d e b h∧aZ a g∧f a b
def SP(c:Cx)(d:List (Addr×Obj))(e:Ends)(h:Flow)(f:Shared):Prop:=match h with|.next=>∃b a,Inv c d b a f∧e.nx b a|.brk=>∃b a,Inv c d b a f∧e.bk b a|.cont=>∃b a,Inv c d b a f∧e.ct b a|.ret i=>∃g b a,Inv c d b a f∧RelV g i∧e.rt g a
def PE(a:Cx)(g:Expr)(t:TE):Prop:=∀(c:List (Addr×Obj))(d:Shared)(b:St)(e:Hp)(f:VK),Inv a c b e d→t b e f→wpAny (model a.prog a.w) a.A (eval g a.env) (EP a c b f) a.xe d
def PT(a:Cx)(c:Expr)(t:TT):Prop:=∀(d:List (Addr×Obj))(e:Shared)(b:St)(f:Hp)(g:Bool→Hp→Prop),Inv a d b f e→t b f g→wpAny (model a.prog a.w) a.A (isTrue c a.env (eval c a.env)) (TP a d b g) a.xe e
def PW(a:Cx)(g:Expr)(t:TT):Prop:=∀(h:Sem Value)(c:List (Addr×Obj))(d:Shared)(b:St)(e:Hp)(f:Bool→Hp→Prop),Inv a c b e d→t b e f→wpAny (model a.prog a.w) a.A (isTrue g a.env h) (TP a c b f) a.xe d
theorem PW.pt{t:TT}(a:PW X e t):PT X e t:=a _
def PA(a:Cx)(g:List Expr)(t:TA):Prop:=∀(h:Pos)(c:List (Addr×Obj))(d:Shared)(b:St)(e:Hp)(f:List V→Hp→Prop),Inv a c b e d→t b e f→wpAny (model a.prog a.w) a.A (spliced (backTo h (starEach g a.env))) (AP a c b f) a.xe d
def PS(a:Cx)(st:Stmt)(t:TS):Prop:=∀(b:List (Addr×Obj))(c:Shared)(d:St)(e:Hp)(f:Ends),Inv a b d e c→t f d e→wpAny (model a.prog a.w) a.A (exec st a.env) (SP a b f) a.xe c
def PSs(a:Cx)(st:List Stmt)(t:TS):Prop:=∀(b:List (Addr×Obj))(c:Shared)(d:St)(e:Hp)(f:Ends),Inv a b d e c→t f d e→wpAny (model a.prog a.w) a.A (execs st a.env) (SP a b f) a.xe c
theorem thn{c:Type}{t:Sem c}{d e:c→Shared→Prop}{f:Around}{b:Shared}(g:wpAny M f t d E b)(h:∀a b,d a b→e a b):wpAny M f t e E b:=Mb g h λ_ _ x=>x
theorem bu{d:Type}{t:Sem d}{e f:Type}{a g:d→Shared→e→f→Prop}{h:d→Shared→e→f→Prop}{i:d→Shared→Prop}{j:Around}{l:Shared}(m:wpAny M j t (λb c=>∃x y,a b c x y∧g b c x y∧h b c x y) E l)(n:∀b c x y,a b c x y→g b c x y→h b c x y→i b c):wpAny M j t i E l:=thn m λb c⟨x,y,o,p,q⟩=>n b c x y o p q
section
variable {X : Cx}
def Be(b:Nat):TE:=λc d e=>∃a,c[b]?=some (some a)∧e a d
def tC(a:V):TE:=λ_ b c=>c a b
theorem ym{i:Nat}{g:Pos}(h:X.N[i]?=some x)(j:Vis X.env.scope x)(b:(x==("__debug__":Str))=false:=by decide)(l:(x==("__classdict__":Str))=false:=by decide):PE X (.Name x g) (Be i):=by f_assign(
 intro m n o p q a d;obtain⟨f,r,d⟩:=d;obtain⟨A,s,u⟩:=a.loc;obtain⟨v,y,z⟩:=u i x f h r j;have e:EP X m o q v n:=⟨f,p,a,y,d⟩;rcases z with⟨hk,hm⟩|⟨hk,c,hc,hcell⟩;·exact wpAny_Name (wpAny_loadName_local a.ok.kind hk s hm e) b
 ·rcases hk with hk|hk;·exact wpAny_Name (wpAny_loadName_cell a.ok.kind hk hc hcell e) b
  ·exact wpAny_Name (wpAny_loadName_free a.ok.kind hk hc hcell e l) b)
theorem ao{i j pos}:PE X (.Constant (.int i) j pos) (tC (.int i)):=λ_ _ _ a _ b c=>wpAny_Constant_int ⟨.int i,a,b.tok _,⟨_,rfl⟩,c⟩
theorem rf{b j pos}:PE X (.Constant (.bool b) j pos) (tC (.bl b)):=λ_ _ _ a _ c d=>Constant_bool ⟨.bl b,a,c,rfl,d⟩
theorem uW{j pos}:PE X (.Constant .none j pos) (tC .non):=λ_ _ _ a _ b c=>Constant_none ⟨.non,a,b,rfl,c⟩
theorem uX{x j pos}:PE X (.Constant (.str x) j pos) (tC (.str x)):=λ_ _ _ a _ b c=>Calls.Constant_str ⟨.str x,a,b.tok _,⟨_,rfl⟩,c⟩
def Gl(X:Cx)(x:Str):Prop:=X.env.kindOf x=some .globalImplicit
theorem qF{b:Shared}{d:Pos}{c:Value→Shared→Prop}(a:Inv X pins σ H b)(e:Gl X x)(f:X.mg x=some u)(g:c u b)(h:(x==("__debug__":Str))=false:=by decide):wpAny (model X.prog X.w) X.A (eval (.Name x d) X.env) c E b:=Calls.Name_function_global a.ok.kind e (Calls.loadGlobal_global (by rw[a.ok.glob];exact a.mod.glob.keeps a.bk) f g) h
theorem iy{b:Shared}{d:Pos}{c:Value→Shared→Prop}(a:Inv X pins σ H b)(e:Gl X x)(f:X.mg x=none)(g:bootBuiltins x=some u)(h:c u b)(i:x≠"__name__":=by decide)(j:(x==("__debug__":Str))=false:=by decide):wpAny (model X.prog X.w) X.A (eval (.Name x d) X.env) c E b:=by obtain⟨n,l,m⟩:=a.mod.blt;exact Calls.Name_function_global a.ok.kind e (Calls.loadGlobal_builtin (by rw[a.ok.glob];exact a.mod.glob.keeps a.bk) f (by rw[a.ok.blt];exact l.keeps a.bk) ((m x i).trans g) h) j
theorem Ew{b:Pos}(c:Gl X x)(d:X.mg x=some u)(e:RelV v u)(f:(x==("__debug__":Str))=false:=by decide):PE X (.Name x b) (tC v):=λ_ _ _ g _ a h=>qF a c d ⟨v,g,a,e,h⟩ f
variable {a b : Expr} {ta tb : TE} {pos : Pos}
def PC(X:Cx)(h:CmpOp)(a b:Expr)(t:TE):Prop:=∀(d:List (Addr×Obj))(e:Shared)(c:St)(f:Hp)(g:VK),Inv X d c f e→t c f g→wpAny (model X.prog X.w) X.A (eval a X.env) (λi j=>wpAny (model X.prog X.w) X.A (eval b X.env) (λl m=>wpAny (model X.prog X.w) X.A (compareOp h i l) (EP X d c g) X.xe m) X.xe j) X.xe e
def tB(t:TE):TT:=λd e f=>t d e λx g=>∃c,x=.bl c∧f c g
theorem Cq{c:CmpOp}{t:TE}(d:PC X c a b t)(e:behindInMarks c b=false:=by first|exact nobehind _ (by decide) (by decide)|rfl):PE X (.Compare a [c] [b] pos) t:=λf g h i j l m=>wpAny_Compare1 (d f g h i j l m) e
theorem rg{c:CmpOp}{t:TE}(h:PC X c a b t)(d:behindInMarks c b=false:=by first|exact nobehind _ (by decide) (by decide)|rfl):PT X (.Compare a [c] [b] pos) (tB t):=by intro e f g i u j l;refine wpAny_isTrue_Compare1 (thn (h e f g i _ j l) λv y d=>thn d λz A m=>thn m λB C n=>?_) d;obtain⟨x,o,p,q,r⟩:=n;obtain⟨D,rfl,s⟩:=r;cases q;exact K2 ⟨o,p,s⟩
theorem pt_val{c:Expr}{t:TE}(f:PE X c t)(g:∀e,isTrue c X.env e=(do let d←e;standAt c.pos;holding [d] (truthy d)):=by intro _;rfl):PT X c (tB t):=by intro h i j l u m n;refine isTrue_plain (bu (f h i j l _ m n) λd v x o p q r=>?_) (g _);obtain⟨y,rfl,s⟩:=r;cases q;exact K2 ⟨o,p,s⟩
variable {tA tB' : TT} {rest : List Expr}
def Gv(t f:TT):TT:=λc g d=>t c g λh e=>if h=true then f c e d else d false e
def tOr(t f:TT):TT:=λc g d=>t c g λh e=>if h=true then d true e else f c e d
def Hr(t:TT):TT:=λc d e=>t c d λf g=>e (!f) g
theorem bZ(d:PT X a tA):PW X (.BoolOp .And [a] pos) tA:=by intro n e f g h i j l;refine isTrue_and (thn (d e f g h i j l) λm o c=>?_);cases m with|true=>exact isTrue_and_nil c|false=>exact c
theorem Cr(d:PT X a tA):PW X (.BoolOp .Or [a] pos) tA:=by intro n e f g h i j l;refine isTrue_or (thn (d e f g h i j l) λm o c=>?_);cases m with|false=>exact isTrue_or_nil c|true=>exact c
theorem cq(h:PT X a tA)(i:PW X (.BoolOp .And (b::rest) pos) tB'):PW X (.BoolOp .And (a::b::rest) pos) (Gv tA tB'):=by intro j c l d m n o p;refine isTrue_and (thn (h c l d m _ o p) λq r s=>?_);obtain⟨e,f,g⟩:=s;cases q with|true=>exact i j c r d e n f g|false=>exact⟨e,f,g⟩
theorem Fz(h:PT X a tA)(i:PW X (.BoolOp .Or (b::rest) pos) tB'):PW X (.BoolOp .Or (a::b::rest) pos) (tOr tA tB'):=by intro j c l d m n o p;refine isTrue_or (thn (h c l d m _ o p) λq r s=>?_);obtain⟨e,f,g⟩:=s;cases q with|true=>exact⟨e,f,g⟩|false=>exact i j c r d e n f g
theorem ba(c:PT X a tA):PT X (.UnaryOp .Not a pos) (Hr tA):=by intro d e f g h i j;exact isTrue_not (c d e f g (λl m=>h (!l) m) i j)
def FC(ta tb:TE):TE:=λc g d=>ta c g λx e=>∃f,x=.bl f∧if f=true then tb c e d else d (.bl false) e
def Hs(ta tb:TE):TE:=λc g d=>ta c g λx e=>∃f,x=.bl f∧if f=true then d (.bl true) e else tb c e d
def Ht(ta:TE):TE:=λd e f=>ta d e λx g=>∃c,x=.bl c∧f (.bl (!c)) g
theorem jO{op}{t:TE}(c:PE X a t):PE X (.BoolOp op [a] pos) t:=λd e f g h i j=>BoolOp_one (c d e f g h i j)
theorem uY(h:PE X a ta)(i:PE X (.BoolOp .And (b::rest) pos) tb):PE X (.BoolOp .And (a::b::rest) pos) (FC ta tb):=by intro d j e l m n o;refine BoolOp_and (bu (h d j e l _ n o) λs p x f g q c=>?_);obtain⟨r,rfl,c⟩:=c;cases q;refine K2 ?_;cases r with|true=>exact i d p e f m g c|false=>exact⟨.bl false,f,g,rfl,c⟩
theorem zJ(h:PE X a ta)(i:PE X (.BoolOp .Or (b::rest) pos) tb):PE X (.BoolOp .Or (a::b::rest) pos) (Hs ta tb):=by intro d j e l m n o;refine BoolOp_or (bu (h d j e l _ n o) λs p x f g q c=>?_);obtain⟨r,rfl,c⟩:=c;cases q;refine K2 ?_;cases r with|false=>exact i d p e f m g c|true=>exact⟨.bl true,f,g,rfl,c⟩
def tIf(t:TT)(ta tb:TE):TE:=λc f d=>t c f λg e=>if g=true then ta c e d else tb c e d
theorem Cs{e:Expr}(l:PT X e tA)(m:PE X a ta)(n:PE X b tb):PE X (.IfExp e a b pos) (tIf tA ta tb):=by intro c o d p f q r;refine wpAny_IfExp (thn (l c o d p _ q r) λs g u=>?_);obtain⟨h,i,j⟩:=u;cases s with|true=>exact m c g d h f i j|false=>exact n c g d h f i j
end
def SqL(K:PySem.W.Frag)(e:Hp)(a:Addr)(d:List V):Prop:=Rd e a (.lst d)∨∃(b:Obj)(c:Array Value)(f:Nat),K.lookup a=some b∧b.cls=.type "list"∧b.dict=none∧b.data=.seq c f∧c.size≤sizeLine∧aZ d c.toList
def SqT(K:PySem.W.Frag)(e:Hp)(a:Addr)(d:List V):Prop:=Rd e a (.tup d)∨∃(b:Obj)(c:Array Value)(f:Nat),K.lookup a=some b∧b.cls=.type "tuple"∧b.data=.seq c f∧c.size≤sizeLine∧aZ d c.toList
def IX:Value→Option V|.none=>some .non|.bool b=>some (.bl b)|.int c _=>some (.int c)|.str x _=>some (.str x)|.bytes b _=>some (.byt b)|.float b _=>some (.flt b)|.ref a=>some (.ref a)|.type d=>some (.ty d)|_=>none
theorem RelV.abs(a:RelV x u):IX u=some x:=by cases x with|non=>cases a;rfl|bl _=>cases a;rfl|int _=>obtain⟨t,rfl⟩:=a;rfl|str _=>obtain⟨t,rfl⟩:=a;rfl|byt _=>obtain⟨t,rfl⟩:=a;rfl|flt _=>obtain⟨t,rfl⟩:=a;rfl|ref _=>cases a;rfl|ty _=>cases a;rfl
theorem RelV.inj(a:RelV x u)(b:RelV y u):x=y:=Lv (a.abs.symm.trans b.abs)
theorem aZ.inj:∀{c b:List V}{d:List Value},aZ c d→aZ b d→c=b:=by intro c b d a;induction a generalizing b with|nil=>intro a;cases a;rfl|cons e t f=>intro a;cases a with|cons g h=>rw[e.inj g,f h]
section
variable {X : Cx} {pins : List (Addr × Obj)} {σ : St} {H : Hp} {s : Shared} {a : Addr} {xs ys : List V}
theorem SqL.of{K:PySem.W.Frag}(b:H a=some (.lst xs)):SqL K H a xs:=.inl (.inl b)
theorem SqT.of{K:PySem.W.Frag}(b:H a=some (.tup xs)):SqT K H a xs:=.inl (.inl b)
theorem Inv.list(g:Inv X pins σ H s)(d:SqL X.K H a xs):∃b:List Value,aZ xs b∧PlainL s.heap a b.toArray∧xs.length≤sizeLine:=by
 rcases d with d|⟨o,b,e,hk,hc,hd,hs,hz,c⟩;·obtain⟨h,b,e,c,f⟩:=d.ok g.hok;exact⟨b,c,⟨_,e,f,rfl,rfl,rfl⟩,h⟩
 ·refine⟨b.toList,c,⟨o,e,g.kIn a o hk,hc,hd,by simpa using hs⟩,?_⟩;have f:=c.length;simp only[Array.length_toList]at f;lia
theorem Inv.tuple(e:Inv X pins σ H s)(d:SqT X.K H a xs):∃b:List Value,aZ xs b∧IsTup s.heap a b.toArray∧xs.length≤sizeLine:=by
 rcases d with d|⟨o,b,n,hk,hc,hs,hz,c⟩;·obtain⟨f,b,c,g⟩:=d.ok e.hok;exact⟨b,c,g,f⟩
 ·refine⟨b.toList,c,⟨o,e.kIn a o hk,hc,n,by simpa using hs⟩,?_⟩;have h:=c.length;simp only[Array.length_toList]at h;lia
theorem Inv.om(b:Inv X pins σ H s)(e:SqL X.K H a xs)(f:SqL X.K H a ys):xs=ys:=by
 obtain⟨g,h,⟨n,o,i,_,_,j⟩,_⟩:=b.list e;obtain⟨l,m,⟨p,q,c,_,_,d⟩,_⟩:=b.list f;rw[i]at c;cases c;rw[j]at d;injection d with d1 _;have:g=l:=by simpa using Me Array.toList d1
 subst this;exact h.inj m
theorem Inv.pA(b:Inv X pins σ H s)(e:SqT X.K H a xs)(f:SqT X.K H a ys):xs=ys:=by
 obtain⟨g,h,⟨n,i,_,o,j⟩,_⟩:=b.tuple e;obtain⟨l,m,⟨p,c,_,q,d⟩,_⟩:=b.tuple f;rw[i]at c;cases c;rw[j]at d;injection d with d1 _;have:g=l:=by simpa using Me Array.toList d1
 subst this;exact h.inj m
end
abbrev Cx.wish(X:Cx)(E:Value→Shared→Prop):Cx:={X with xe:=E}
abbrev Cx.nox(X:Cx):Cx:=X.wish λ_ _=>False
theorem Cx.Ok.wish{a:Cx}(ok:a.Ok)(b:Value→Shared→Prop):(a.wish b).Ok:=⟨ok.mod,ok.kind,ok.glob,ok.blt,ok.above,ok.inj,ok.has,ok.cab,ok.hd,ok.frames,ok.stk,ok.exf,ok.bs,ok.bsz,ok.noex,ok.exfs,ok.funs,ok.frf⟩
theorem Cx.Ok.kL{a:Cx}(ok:(a.wish E).Ok):a.Ok:=⟨ok.mod,ok.kind,ok.glob,ok.blt,ok.above,ok.inj,ok.has,ok.cab,ok.hd,ok.frames,ok.stk,ok.exf,ok.bs,ok.bsz,ok.noex,ok.exfs,ok.funs,ok.frf⟩
section
variable {X : Cx} {pins : List (Addr × Obj)} {σ : St} {H : Hp} {s : Shared} {E : Value → Shared → Prop}
theorem Inv.wish(a:Inv X pins σ H s)(E:Value→Shared→Prop):Inv (X.wish E) pins σ H s:=⟨a.ok.wish E,a.os,a.bare,a.base,a.loc,a.cell,a.free,a.freeC,a.pin,a.hok,a.len⟩
theorem Inv.kL(a:Inv (X.wish E) pins σ H s):Inv X pins σ H s:=⟨a.ok.kL,a.os,a.bare,a.base,a.loc,a.cell,a.free,a.freeC,a.pin,a.hok,a.len⟩
theorem SP.kL{f:Flow}(e:SP (X.wish E) pins D f s'):SP X pins D f s':=by cases f with|next=>obtain⟨a,b,c,d⟩:=e;exact⟨a,b,c.kL,d⟩|brk=>obtain⟨a,b,c,d⟩:=e;exact⟨a,b,c.kL,d⟩|cont=>obtain⟨a,b,c,d⟩:=e;exact⟨a,b,c.kL,d⟩|ret i=>obtain⟨g,a,b,c,h,d⟩:=e;exact⟨g,a,b,c.kL,h,d⟩
theorem PSs.nox{st:List Stmt}{t:TS}(a:PSs X.nox st t):PSs X st t:=λpins s σ H b c d=>Mb (a pins s σ H b (c.wish _) d) (λ_ _ e=>e.kL) λ_ _ f=>False.elim f
end
section
variable {X : Cx} {st : Stmt} {rest : List Stmt} {t u : TS} {e : Expr} {te : TE} {pos : Pos}
def FG:TS:=λa b c=>a.nx b c
def Ex(t u:TS):TS:=λa b c=>t {a with nx:=u a} b c
theorem aw:PSs X [] FG:=λ_ _ a b _ c d=>wpAny_execs_nil ⟨a,b,c,d⟩
theorem ae(d:PS X st t)(f:PSs X rest u):PSs X (st::rest) (Ex t u):=by intro c g h i b j l;refine wpAny_execs_cons (thn (d c g h i {b with nx:=u b} j l) λm n a=>?_);cases m with|next=>obtain⟨o,p,q,a⟩:=a;exact f c n o p b q a|ret r=>exact a|brk=>exact a|cont=>exact a
theorem ai(b:PS X st t):PSs X [st] t:=by intro c d f g h i j;refine wpAny_execs_cons (thn (b c d f g h i j) λl m a=>?_);cases l with|next=>exact wpAny_execs_nil a|ret n=>exact a|brk=>exact a|cont=>exact a
def Hv:TS:=λa b c=>a.ct b c
theorem wC:PS X (.Continue pos) Hv:=λ_ _ a b _ c d=>wpAny_Continue ⟨a,b,c,d⟩
theorem Inv.quiet{a:Shared}(b:Inv X pins σ H a):interactive X.env=false:=by simp[interactive,b.ok.kind]
def FH(te:TE):TS:=λb a c=>te a c λ_ d=>b.nx a d
theorem de(c:PE X e te)(d:swapsWith e none pos.line X.env=pure false:=by rfl):PS X (.Expr e pos) (FH te):=by intro f g a h n b i;exact wpAny_Expr_any (bu (c f g a h _ b i) λo p x j l q m=>⟨a,j,l,m⟩) b.quiet d
def Hw(te:TE):TS:=λa b c=>te b c a.rt
theorem aq(b:PE X e te):PS X (.Return (some e) pos) (Hw te):=by intro c d a f n g h;exact wpAny_Return_some (bu (b c d a f _ g h) λo p x i j l m=>⟨x,a,i,j,l,m⟩)
def Hx:TS:=λa _ b=>a.rt .non b
def Hy(d:TT)(t u:TS):TS:=λb a f=>d a f λg c=>if g=true then t b a c else u b a c
theorem aG{f:Expr}(m:PT X f tc)(n:PSs X a t)(o:PSs X b u):PS X (.If f a b pos) (Hy tc t u):=by intro c p d q g r s;refine wpAny_If (thn (m c p d q _ r s) λv h x=>?_);obtain⟨i,j,l⟩:=x;cases v with|true=>exact n c h d i g j l|false=>exact o c h d i g j l
end
abbrev TG:=V→St→Hp→(St→Hp→Prop)→Prop
abbrev TGs:=List V→St→Hp→(St→Hp→Prop)→Prop
def PG(a:Cx)(l:Expr)(t:TG):Prop:=∀(b:List (Addr×Obj))(c:Shared)(d:St)(e:Hp)(f:V)(g:Value)(h:St→Hp→Prop),Inv a b d e c→RelV f g→t f d e h→wpAny (model a.prog a.w) a.A (assign l a.env g) (λ_ m=>∃i j,Inv a b i j m∧h i j) a.xe c
def PGs(a:Cx)(l:List Expr)(t:TGs):Prop:=∀(b:List (Addr×Obj))(c:Shared)(d:St)(e:Hp)(f:List V)(g:List Value)(h:St→Hp→Prop),Inv a b d e c→aZ f g→t f d e h→wpAny (model a.prog a.w) a.A (assignInOrder ((assignEach l a.env).map (·.2)) g) (λ_ m=>∃i j,Inv a b i j m∧h i j) a.xe c
abbrev Hz:=V→V→V→Hp→(Hp→Prop)→Prop
def HB(a:Cx)(t:Hz):Prop:=∀(b:List (Addr×Obj))(c:Shared)(d:St)(e:Hp)(f g h:V)(i j l:Value)(m:Hp→Prop),Inv a b d e c→RelV f i→RelV g j→RelV h l→t f g h e m→wpAny (model a.prog a.w) a.A (setItem i j l) (λ_ o=>∃n,Inv a b d n o∧m n) a.xe c
abbrev TIp:=V→V→Hp→VK→Prop
def PIp(a:Cx)(i:Operator)(t:TIp):Prop:=∀(b:List (Addr×Obj))(c:Shared)(d:St)(e:Hp)(x y:V)(f g:Value)(h:VK),Inv a b d e c→RelV x f→RelV y g→t x y e h→wpAny (model a.prog a.w) a.A (inplaceOp i f g) (EP a b d h) a.xe c
section
variable {X : Cx} {pos : Pos}
def jP(a:Nat):TG:=λb c d e=>e (c.set a (some b)) d
theorem uZ{i:Nat}(a:X.N.Nodup)(b:X.N[i]?=some x)(c:Loc X.env.scope x)(hf:X.fn x=true∨X.env.scope.names.lookup x=some .local:=by first|exact .inl rfl|exact .inr rfl|assumption):PG X (.Name x pos) (jP i):=by intro j l m d n o p e f g;exact wpAny_assign_Name (q_ e a b c f (λq h=>⟨_,d,h,g⟩) hf)
def wD:TGs:=λa b c d=>a=[]∧d b c
def mP(t:TG)(c:TGs):TGs:=λd e f g=>∃a b,d=a::b∧t a e f λh i=>c b h i g
theorem kW:PGs X [] wD:=by intro g h b c i j l d e a;obtain⟨f,a⟩:=a;subst f;cases e;exact assignInOrder_nil ⟨b,c,d,a⟩
theorem cU{a:Expr}{b:List Expr}{t:TG}{e:TGs}(g:PG X a t)(h:PGs X b e)(i:(assignEach (a::b) X.env).map (·.2)=assign a X.env::(assignEach b X.env).map (·.2):=by rfl):PGs X (a::b) (mP t e):=by intro f j l m z A n o c d;obtain⟨B,C,p,d⟩:=d;subst p;cases c with|cons c q=>rw[i];refine assignInOrder_cons (thn (g f j l m _ _ _ o c d) λ_ r s=>?_);obtain⟨u,v,x,y⟩:=s;exact h f r u v _ _ n x q y
def HC(K:PySem.W.Frag)(d:Nat)(t:TGs):TG:=λe f c g=>∃a b,e=.ref a∧SqT K c a b∧b.length=d∧t b f c g
theorem ot{b:List Expr}{k:Nat}{t:TGs}{e:Nat}(l:X.calm=true)(m:PGs X b t)(n:(assignEach b X.env).length=e:=by rfl)(o:(assignEach b X.env).findIdx? (·.1)=none:=by rfl):PG X (.Tuple b k pos) (HC X.K e t):=by intro f g h i D E p c q d;obtain⟨a,r,s,u,v,d⟩:=d;subst s;cases q;obtain⟨F,rv,x,G⟩:=c.tuple u;refine assign_Tuple_tuple (c.ok.hd l) x (by simp[n,←v,rv.length]) o λy z=>?_;have A:Inv X f h i {g with heap:=y}:=c.kept (t':=g.toks) λB C j=>z B C (L3 (LU j)) j;exact m f _ h i r _ p A (by simpa using rv) d
def Ey(b:TE)(c:TG):TS:=λd a e=>b a e λx f=>c x a f d.nx
theorem yn{i:Nat}(b:X.N.Nodup)(c:X.N[i]?=some x)(d:Loc X.env.scope x)(he:PE X a e)(f:swapsWith a (some (.Name x g)) pos.line X.env=pure false:=by rfl)(hf:X.fn x=true∨X.env.scope.names.lookup x=some .local:=by first|exact .inl rfl|exact .inr rfl|assumption):PS X (.Assign [.Name x g] a pos) (Ey e (jP i)):=by intro h j l m v n o;refine wpAny_Assign_Name (bu (he h j l m _ n o) λz A y p q r s=>?_) f;exact q_ q b c d r (λB u=>⟨_,p,u,s⟩) hf
def HD(b:Nat)(c:TE)(d:TIp):TS:=λe a f=>∃x,a[b]?=some (some x)∧c a f λy g=>d x y g λh i=>e.nx (a.set b (some h)) i
theorem iz{i:Nat}{b:Operator}{h:TIp}(q:X.N.Nodup)(j:X.N[i]?=some x)(d:Loc X.env.scope x)(r:PE X l te)(s:PIp X b h)(hf:X.fn x=true∨X.env.scope.names.lookup x=some .local:=by first|exact .inl rfl|exact .inr rfl|assumption):PS X (.AugAssign (.Name x pos') b l pos) (HD i te h):=by f_assign(
 intro e m n u v a f;obtain⟨o,z,f⟩:=f;obtain⟨S,A,B⟩:=a.loc;have C:Vis X.env.scope x:=by rcases d with k|k;exact .inl k;exact .inr (.inl k)
 obtain⟨p,g,D⟩:=B i x o j z C;refine wpAny_AugAssign_Name ?_;have go:wpAny (model X.prog X.w) X.A (eval l X.env) (λw E=>wpAny (model X.prog X.w) X.A (inplaceOp b p w) (λg F=>wpAny (model X.prog X.w) X.A (storeName X.env x g) (λ_=>SP X e v .next) X.xe F) X.xe E) X.xe m:=by refine bu (r e m n u _ a f) λw G y H I J L=>?_;refine bu (s e G n H o y p w _ I g J L) λT U Y M N O Q=>?_;exact q_ N q j d O (λZ R=>⟨_,M,R,Q⟩) hf
 rcases D with⟨hk,hm⟩|⟨hk,c,hc,hcell⟩;·exact wpAny_loadName_local a.ok.kind hk A hm go
 ·rcases hk with hk|hk;·exact wpAny_loadName_cell a.ok.kind hk hc hcell go
  ·rcases d with k|k;·have:X.env.scope.names.lookup x=some .free:=hk;rw[k]at this;cases this
   ·have:X.env.scope.names.lookup x=some .free:=hk;rw[k]at this;cases this)
def FI(to d e:TE)(f:V→V→Hp→VK→Prop)(g:TIp)(h:Hz):TS:=λi a j=>to a j λb l=>d a l λc m=>f b c m λx n=>e a n λy o=>g x y o λp q=>h b c p q λr=>i.nx a r
def HE(X:Cx)(t:V→V→Hp→VK→Prop):Prop:=∀(a:List (Addr×Obj))(b:Shared)(c:St)(d:Hp)(e f:V)(g h:Value)(i:VK),Inv X a c d b→RelV e g→RelV f h→t e f d i→wpAny (model X.prog X.w) X.A (getItem g h) (EP X a c i) X.xe b
theorem Ez{to f:TE}{g:V→V→Hp→VK→Prop}{h:Operator}(p:PE X o to)(q:PE X i f)(r:HE X g)(s:PE X e te)(u:PIp X h tip)(v:HB X tset)(x:∀a b new,augStore i a b new=(do holding [new,a,b] (setItem a b new);release [new,a,b] [];pure .next):=by intros;rfl):PS X (.AugAssign (.Subscript o i tpos) h e pos) (FI to f te g tip tset):=by f_assign(intro d y c z aI A B;refine wpAny_AugAssign_SubscriptAny (bu (p d y c z _ A B) λa C j D E l F=>?_) x;refine bu (q d C c D _ E F) λb G m H I n J=>?_;refine bu (r d G c H j m a b _ I l n J) λold L M N O Q R=>?_;refine bu (s d L c N _ O R) λS T U Y Z ac ah=>?_;refine bu (u d T c Y M U old S _ Z Q ac ah) λnew al am an ap ar av=>?_;exact thn (v d al c an j m am a b new _ ap l n ar av) λ_ aK⟨ax,aA,aE⟩=>⟨c,ax,aA,aE⟩)
def ipI(c:Int→Int→Int):TIp:=λx y d e=>∃a b,x=.int a∧y=.int b∧e (.int (c a b)) d
theorem i6:PIp X .Add (ipI λa b=>a+b):=by intro g i j c x y v u Q I r1 r2 h;obtain⟨a,b,d,e,f⟩:=h;subst d;subst e;obtain⟨t,rfl⟩:=r1;obtain⟨l,rfl⟩:=r2;exact iadd_int ⟨.int _,c,I.tok _,⟨_,rfl⟩,f⟩
theorem Ct:PIp X .Sub (ipI λa b=>a-b):=by intro g i j c x y v u Q I r1 r2 h;obtain⟨a,b,d,e,f⟩:=h;subst d;subst e;obtain⟨t,rfl⟩:=r1;obtain⟨l,rfl⟩:=r2;exact isub_int ⟨.int _,c,I.tok _,⟨_,rfl⟩,f⟩
end
section
variable {X : Cx} {pos : Pos}
def Gw(j:TT)(l:TS):TS:=λd a b=>∃W:Nat→St→Hp→Prop,(∃c,W c a b)∧∀c a b,W c a b→j a b λm f=>if m=true then∃e:St→Hp→Prop,(∀g h,e g h→∃i,i<c∧W i g h)∧l {d with nx:=e,ct:=e,bk:=d.nx} a f else d.nx a f
theorem jQ{n:Expr}{o:TS}(p:PassesOwn (model X.prog X.w) X.A X.env X.xe)(y:PT X n tc)(z:PSs X body o):PS X (.While n body [] pos) (Gw tc o):=by f_assign(intro f R A B S C D;obtain⟨W,⟨E,F⟩,G⟩:=D;refine wpAny_While (codeAny_whileLoop (λg H=>∃q r,Inv X f q r H∧W g q r) ?_ E ⟨A,B,C,F⟩);rintro g I⟨c,s,J,L⟩;refine Lz p (thn (y f I c s _ J (G g c s L)) λM N O=>?_);obtain⟨u,v,d⟩:=O;cases M with
 |true=>obtain⟨T,x,d⟩:=d;rw[Mj rfl];refine Lz p (thn (z f N c u _ v d) λQ U e=>?_);cases Q with|next=>obtain⟨a,b,h,i⟩:=e;obtain⟨j,l,m⟩:=x a b i;exact⟨j,l,a,b,h,m⟩|cont=>obtain⟨a,b,h,i⟩:=e;obtain⟨j,l,m⟩:=x a b i;exact⟨j,l,a,b,h,m⟩|brk=>exact e|ret Y=>exact e
 |false=>rw[Mi Kl];exact wpAny_execs_nil ⟨c,u,v,d⟩)
end
structure It where
 go:Nat→Hp→Prop
 yld:Nat→Hp→V→Hp→Prop
 stop:Nat→Hp→Prop
def pU(b:Cx)(d:List (Addr×Obj))(e:Hp)(a:Addr):Prop:=e a=none∧a≠b.env.locals∧a∉b.fs∧(a∈b.ex∨b.s_0.heap.objs.size≤a)∧(∀x c,b.env.cells.lookup x=some c→c≠a)∧∀f∈b.pn++d,f.1≠a
theorem Inv.fpOk{e:Hp}{f:Shared}{c:Addr}(a:Inv X pins σ H f)(b:f.heap.objs.size≤c)(g:e c=none):pU X pins e c:=by
 refine⟨g,LZ (Kw a.lt b),a.nofs b,.inr (LY a.sz b),λx h i d=>?_,λj l d=>?_⟩;·obtain⟨n,m⟩:=a.cell x h i;exact absurd (Kw m.lt (by rw[d];exact b)) (LP _)
 ·exact absurd (Kw (LU (a.pin j l).1) (by rw[d];exact b)) (LP _)
structure Turn(P:Program)(w:World)(K:PySem.W.Frag)(tg:Expr)(J:It)(fp:List Addr)(it:Addr)(tn:Nat→Heap→Prop):Prop where
 mem:it∈fp
 obj:∀i h,tn i h→∀b∈fp,∃o,h.get? b=some o∧∀v,o.data≠.cell v
 keep:∀i h h',tn i h→(∀b∈fp,∀o,h.get? b=some o→h'.get? b=some o)→tn i h'
 item:∀(X:Cx),X.prog=P→X.w=w→X.K=K→X.calm=true→∀(i:Nat)(pins:List (Addr×Obj))(s:Shared)(σ:St)(H:Hp)(E:Value→Shared→Prop),Inv X pins σ H s→(∀b∈fp,pU X pins H b)→tn i s.heap→J.go i H→wpAny (model P w) X.A (pyNext (.ref it)) (λr s1=>∃u,r=some u∧wpAny (model P w) X.A (letOwnedTupleGo tg (.ref it) u) (λ_ s2=>∃x H',Inv X pins σ H' s2∧RelV x u∧J.yld i H x H'∧tn (i+1) s2.heap∧∀b∈fp,H' b=none) E s1) E s
 done:∀(X:Cx),X.prog=P→X.w=w→X.K=K→X.calm=true→∀(i:Nat)(pins:List (Addr×Obj))(s:Shared)(σ:St)(H:Hp)(E:Value→Shared→Prop),Inv X pins σ H s→(∀b∈fp,pU X pins H b)→tn i s.heap→J.stop i H→wpAny (model P w) X.A (pyNext (.ref it)) (λr s1=>r=none∧Inv X pins σ H s1) E s
 self:∀(A:Around)(i:Nat)(s:Shared)(Q:Value→Shared→Prop)(E:Value→Shared→Prop),tn i s.heap→Q (.ref it) s→wpAny (model P w) A (pyIter (.ref it)) Q E s
abbrev TI:=St→Hp→(It→Hp→Prop)→Prop
def PIE(a:Cx)(c:List (Addr×Obj))(i:St)(j:Expr)(l:It→Hp→Prop)(m:Value)(d:Shared):Prop:=∃(e:Addr)(f:List Addr)(g:Nat→Heap→Prop)(h:It)(b:Hp),m=.ref e∧Inv a c i b d∧Turn a.prog a.w a.K j h f e g∧g 0 d.heap∧(∀n∈f,pU a c b n)∧l h b
def PI(a:Cx)(g h:Expr)(wi:TI):Prop:=∀(c:List (Addr×Obj))(d:Shared)(b:St)(e:Hp)(f:It→Hp→Prop),Inv a c b e d→wi b e f→wpAny (model a.prog a.w) a.A (eval h a.env) (λi j=>wpAny (model a.prog a.w) a.A (pyIter i) (PIE a c b g f) a.xe j) a.xe d
theorem tZ{d:Around}{s:Shared}{e:Addr}{a:Obj}{n:String}{f:Array Value}{b:Unit→Shared→Prop}(h:s.heap.get? e=some a)(i:a.cls=.type n)(j:a.data=.fields f)(l:["enumerate","zip","dict_itemiterator","dict_reverseitemiterator","odict_iterator","itertools.zip_longest","itertools.pairwise"].contains n=false)(c:b () s):wpAny M d (letOwnedTupleGo tg (.ref e) u) b E s:=by f_assign(unfold letOwnedTupleGo;cases tg<;>first|exact Md c|(cases u<;>first|exact Md c|(refine Ma (wpAny_load h ?_);rw[i,j];show wpAny M d (if(["enumerate","zip","dict_itemiterator","dict_reverseitemiterator","odict_iterator","itertools.zip_longest","itertools.pairwise"].contains n&&f[0]?==some (rawInt _))=true then _ else _) b E s;rw[Mi (by intro g;rw[l,Bool.false_and]at g;cases g)];exact Md c)))
def Itl(K:PySem.W.Frag)(a:Addr):It:=⟨λd c=>∃b x,SqL K c a b∧b[d]?=some x,λd c x e=>e=c∧∀b,SqL K c a b→b[d]?=some x,λd c=>∃b,SqL K c a b∧b.length≤d⟩
def Itt(K:PySem.W.Frag)(a:Addr):It:=⟨λd c=>∃b x,SqT K c a b∧b[d]?=some x,λd c x e=>e=c∧∀b,SqT K c a b→b[d]?=some x,λd c=>∃b,SqT K c a b∧b.length≤d⟩
def Itr(lo:Int)(b:Nat):It:=⟨λa _=>a<b,λa c x d=>d=c∧x=.int (lo+a),λa _=>b≤a⟩
theorem Bf{P:Program}{w:World}{K:PySem.W.Frag}(a c:Addr):Turn P w K tg (Itl K a) [c] c (λh i=>i.IsListIter c a h)where
 mem:=by simp
 obj:=λh i st d e=>by
  have b:d=c:=by simpa using e
  subst b;obtain⟨f,b,C,m⟩:=st;exact⟨f,b,λY D=>by rw[m]at D;cases D⟩
 keep:=λh i j st k=>st.at λf b=>k c (by simp) f b;item:=by f_assign(intro E n o p F h G s H q L g hf st hg;subst n o p;obtain⟨M,x,l,r⟩:=hg;obtain⟨N,rv,u,O⟩:=g.list l;obtain⟨I,Q,R⟩:=rv.get r;obtain⟨v,y,S,z,A,B⟩:=hf c (by simp);refine wpAny_pyNext_list_item st u.isList (x:=I) (by simpa using Q) λj J T=>?_;have U:Inv E G H q {s with heap:=j}:=g.turned (t':=s.toks) (λd f e b=>(T.2 d e).trans b) v y z A B;obtain⟨f,b,C,m⟩:=id J;exact⟨I,rfl,tZ (s:={s with heap:=j}) b C m (by decide) ⟨x,q,U,R,⟨rfl,λZ X=>by rw[g.om X l];exact r⟩,J,λd e=>(hf d e).1⟩⟩)
 done:=by intro E n o p F h G s H q L g hf st hg;subst n o p;obtain⟨M,l,r⟩:=hg;obtain⟨N,rv,u,O⟩:=g.list l;obtain⟨v,y,S,z,A,B⟩:=hf c (by simp);have ac:=rv.length;exact wpAny_pyNext_list_end (g.ok.hd F) st u.isList (by simp;lia) λj eb=>⟨rfl,g.turned (t':=s.toks) (λd f e b=>eb d f e b) v y z A B⟩
 self:=λ_ _ _ _ _ st i=>wpAny_pyIter_listiter st i
theorem yo{P:Program}{w:World}{K:PySem.W.Frag}(a c:Addr):Turn P w K tg (Itt K a) [c] c (λh i=>i.IsTupleIter c a h)where
 mem:=by simp
 obj:=λh i st d e=>by
  have b:d=c:=by simpa using e
  subst b;obtain⟨f,b,D,m⟩:=st;exact⟨f,b,λY E=>by rw[m]at E;cases E⟩
 keep:=λh i j st k=>st.at λf b=>k c (by simp) f b;item:=by f_assign(intro F n o p G h H s I q M g hf st hg;subst n o p;obtain⟨N,x,l,r⟩:=hg;obtain⟨u,rv,v,O⟩:=g.tuple l;obtain⟨J,Q,R⟩:=rv.get r;obtain⟨y,z,S,A,B,C⟩:=hf c (by simp);refine wpAny_pyNext_tuple_item st (show s.heap.IsTuple a u.toArray from v) (x:=J) (by simpa using Q) λj L T=>?_;have U:Inv F H I q {s with heap:=j}:=g.turned (t':=s.toks) (λd f e b=>(T.2 d e).trans b) y z A B C;obtain⟨f,b,D,m⟩:=id L;exact⟨J,rfl,tZ (s:={s with heap:=j}) b D m (by decide) ⟨x,q,U,R,⟨rfl,λZ X=>by rw[g.pA X l];exact r⟩,L,λd e=>(hf d e).1⟩⟩)
 done:=by intro F n o p G h H s I q M g hf st hg;subst n o p;obtain⟨N,l,r⟩:=hg;obtain⟨u,rv,v,O⟩:=g.tuple l;obtain⟨y,z,S,A,B,C⟩:=hf c (by simp);have ac:=rv.length;exact wpAny_pyNext_tuple_end (g.ok.hd G) st (show s.heap.IsTuple a u.toArray from v) (by simp;lia) λj eb=>⟨rfl,g.turned (t':=s.toks) (λd f e b=>eb d f e b) y z A B C⟩
 self:=λ_ _ _ _ _ st i=>wpAny_pyIter_tupleiter st i
theorem yp{P:Program}{w:World}{K:PySem.W.Frag}(b:Addr)(lo:Int)(n:Nat):Turn P w K tg (Itr lo n) [b] b (λa e=>IsRangeIter e b (lo+(a:Nat)*1) ((n:Int)-(a:Nat)) 1)where
 mem:=by simp
 obj:=λa e st c d=>by
  have f:c=b:=by simpa using d
  subst f;exact⟨_,st,λz E=>by have F:Data.fields _=Data.cell z:=E;cases F⟩
 keep:=λa e h st k=>k b (by simp) _ st;item:=by f_assign(intro i j l m o a A s B p G g hf st hg;subst j l m;obtain⟨q,r,H,u,v,x⟩:=hf b (by simp);have W:=Walks.range (prog:=i.prog) (w:=i.w) (g.ok.hd o) b lo 1 n;refine W.item a s _ _ hg st λz h C I D J=>?_;obtain⟨t,rfl⟩:=I;have L:Inv i A B p {s with heap:=h,toks:=C}:=g.turned (λc y d f=>J c y (by simpa using d) f) q r u v x;refine⟨_,rfl,tZ (s:={s with heap:=h,toks:=C}) (n:="range_iterator") D rfl rfl (by decide) ⟨.int (lo+a),p,L,⟨t,?_⟩,⟨rfl,rfl⟩,D,λc d=>(hf c d).1⟩⟩;rw[Int.mul_one])
 done:=by intro i j l m o a A s B p G g hf st hg;subst j l m;obtain⟨q,r,H,u,v,x⟩:=hf b (by simp);exact wpAny_pyNext_range_end (g.ok.hd o) st (by have:n≤a:=hg;lia) λh eb=>⟨rfl,g.turned (t':=s.toks) (λc y d f=>eb c y d f) q r u v x⟩
 self:=λ_ _ _ _ _ st e=>wpAny_pyIter_rangeiter st e
section
variable {X : Cx} {tg : Expr}
def FJ(K:PySem.W.Frag)(c:TE):TI:=λd e f=>c d e λx b=>∃a,x=.ref a∧(∃g,SqL K b a g)∧f (Itl K a) b
def HG(K:PySem.W.Frag)(c:TE):TI:=λd e f=>c d e λx b=>∃a,x=.ref a∧(∃g,SqT K b a g)∧f (Itt K a) b
theorem bE{e:Expr}{f:TE}(h:PE X e f):PI X tg e (FJ X.K f):=by f_assign(
 intro i j l m z n o;refine bu (h i j l m _ n o) λA c x p d q r=>?_;obtain⟨a,b,⟨B,s⟩,u⟩:=r;subst b;cases q;obtain⟨C,rv,v,D⟩:=d.list s;refine wpAny_pyIter_list v.isList ?_;refine⟨c.heap.objs.size,[c.heap.objs.size],_,_,p,rfl,d.kept (t':=c.toks) λg E b=>JK _ b,Bf a _,⟨_,Kc _ rfl,rfl,rfl⟩,λg y=>?_,u⟩;have b:g=c.heap.objs.size:=by simpa using y
 subst b;exact d.fpOk (L6 _) (d.hok.fresh (L6 _)))
theorem rh{e:Expr}{f:TE}(h:PE X e f):PI X tg e (HG X.K f):=by f_assign(
 intro i j l m A n o;refine bu (h i j l m _ n o) λB b x p d q r=>?_;obtain⟨a,c,⟨C,s⟩,u⟩:=r;subst c;cases q;obtain⟨v,rv,y,D⟩:=d.tuple s;refine KA (show b.heap.IsTuple a v.toArray from y) ?_;refine⟨b.heap.objs.size,[b.heap.objs.size],_,_,p,rfl,d.kept (t':=b.toks) λg E c=>JK _ c,yo a _,⟨_,Kc _ rfl,rfl,rfl⟩,λg z=>?_,u⟩;have c:g=b.heap.objs.size:=by simpa using z
 subst c;exact d.fpOk (L6 _) (d.hok.fresh (L6 _)))
theorem wF{b:Shared}{i:It→Hp→Prop}{lo a:Int}{t c d:Tok}{f:Nat}(j:Inv X pins σ H b)(l:-(2^62)≤lo)(m:lo<2^62)(n:-(2^62)≤a)(o:a<2^62)(p:i (Itr lo (a-lo).toNat) H):wpAny (model X.prog X.w) X.A (pyIter (.ref b.heap.objs.size)) (PIE X pins σ tg i) E {b with heap:=b.heap.push {cls:=.type "range",data:=.fields #[.int lo t,.int a c,.int 1 d]},toks:=f}:=by f_assign(
 refine wpAny_pyIter_range (IsRange.new ..) (small_one l m n o) ?_;have g:Inv X pins σ H {b with heap:=b.heap.push {cls:=.type "range",data:=.fields #[.int lo t,.int a c,.int 1 d]},toks:=f}:=j.kept λh q e=>JK _ e;refine⟨(b.heap.push {cls:=.type "range",data:=.fields #[.int lo t,.int a c,.int 1 d]}).objs.size,[(b.heap.push {cls:=.type "range",data:=.fields #[.int lo t,.int a c,.int 1 d]}).objs.size],_,_,H,rfl,g.kept (t':=f) λh q e=>JK _ e,yp _ lo (a-lo).toNat,?_,λh r=>?_,p⟩
 ·have s:lo+((0:Nat):Int)*1=lo:=by simp
  have u:(((a-lo).toNat:Nat):Int)-((0:Nat):Int)=Builtin.Range.rangeSize lo a 1:=by rw[rangeSize_one];split<;>lia
  show IsRangeIter _ _ (lo+((0:Nat):Int)*1) ((((a-lo).toNat:Nat):Int)-((0:Nat):Int)) 1;rw[s,u];exact Kc _ rfl
 ·have e:h=(b.heap.push {cls:=.type "range",data:=.fields #[.int lo t,.int a c,.int 1 d]}).objs.size:=by simpa using r
  subst e;exact g.fpOk (L6 _) (g.hok.fresh (L6 _)))
def FK(b:TA):TI:=λc d e=>b c d λf g=>∃a:Int,f=[.int a]∧-(2^62)≤a∧a<2^62∧e (Itr 0 a.toNat) g
def FL(c:TA):TI:=λd e f=>c d e λg h=>∃a b:Int,g=[.int a,.int b]∧(-(2^62)≤a∧a<2^62∧-(2^62)≤b∧b<2^62)∧f (Itr a (b-a).toNat) h
theorem Bg{a:Expr}{e c:Pos}(f:Gl X "range")(g:X.mg "range"=none)(h:PA X [a] ta)(i:starEach [a] X.env=[(false,eval a X.env)]:=by rfl):PI X tg (.Call (.Name "range" e) [a] [] c) (FK ta):=by intro j l m n y d o;refine Call_ (iy d f g boot_range (Jq (bu (h c j l m n _ d o) λz A B C p q b=>?_) i rfl));obtain⟨D,r,b,s,u⟩:=b;subst r;cases q with|cons v x=>cases x;obtain⟨t,rfl⟩:=v;exact call_range_1 (wF p (by lia) (by lia) b s (by simpa using u))
theorem Bh{a b:Expr}{h e:Pos}(i:Gl X "range")(j:X.mg "range"=none)(l:PA X [a,b] ta)(m:starEach [a,b] X.env=[(false,eval a X.env),(false,eval b X.env)]:=by rfl)(f:starEach [b] X.env=[(false,eval b X.env)]:=by rfl):PI X tg (.Call (.Name "range" h) [a,b] [] e) (FL ta):=by f_assign(intro n o p q D g r;refine Call_ (iy g i j boot_range (Jq (bu (l e n o p q _ g r) λE F G H s u c=>?_) (by rw[m,f]) (by rw[f];rfl)));obtain⟨I,J,v,⟨c,x,y,z⟩,A⟩:=c;subst v;cases u with|cons B d=>cases d with|cons C d=>cases d;obtain⟨t,rfl⟩:=B;obtain⟨L,rfl⟩:=C;exact call_range_2 (wF s c x y z A))
def HH(wi:TI)(l:TG)(m:TS):TS:=λf b a=>wi b a λg n=>∃W:Nat→Nat→St→Hp→Prop,(∃e,W 0 e b n)∧∀c e b a,W c e b a→(g.stop c a∧f.nx b a)∨(g.go c a∧∃h:St→Hp→Prop,(∀i d,h i d→∃j,j<e∧W (c+1) j i d)∧∀x d,g.yld c a x d→l x b d λo p=>m {f with nx:=h,ct:=h,bk:=f.nx} o p)
def rj(b:List Addr)(c:Heap):List (Addr×Obj):=b.filterMap λa=>(c.get? a).map λd=>(a,d)
theorem mi{b:List Addr}{c:Heap}{a:Addr}(d:a∈b)(e:c.get? a=some o):(a,o)∈rj b c:=List.mem_filterMap.mpr ⟨a,d,by rw[e];rfl⟩
theorem Bi{c:Heap}{a:Addr×Obj}(e:a∈rj fp c):a.1∈fp∧c.get? a.1=some a.2:=by obtain⟨d,f,b⟩:=List.mem_filterMap.mp e;cases q:c.get? d with|none=>rw[q]at b;cases b|some g=>rw[q]at b;have h:(d,g)=a:=Lv b;subst h;exact⟨f,q⟩
theorem Inv.pinned{a:Shared}{b:List Addr}(g:Inv X pins σ H a)(hf:∀c∈b,pU X pins H c)(l:∀c∈b,∃d,a.heap.get? c=some d∧∀m,d.data≠.cell m):Inv X (pins++rj b a.heap) σ H a:=g.oj λe n=>(Lq.mp n).elim (λf=>g.pin e (JW _ f)) λf=>by obtain⟨h,i⟩:=Bi f;obtain⟨o,p,q,_⟩:=hf e.1 h;obtain⟨d,j,r⟩:=l e.1 h;rw[i]at j;cases j;exact⟨i,o,p,q,r⟩
theorem Inv.iU{pins c:List (Addr×Obj)}{a:Shared}(b:Inv X (pins++c) σ H a):Inv X pins σ H a:=b.oj λd e=>b.pin d (JW _ (List.mem_append_left _ e))
theorem bW{wi:TI}{C:TS}{R:Pos}(m:PassesOwn (model X.prog X.w) X.A X.env X.xe)(D:X.calm=true)(S:PI X tg iter wi)(T:PG X tg g)(b:PSs X body C)(U:∀x,foldedSetIterable iter X.env x=pure x:=by intro _;rfl):PS X (.For tg iter body [] R) (HH wi g C):=by f_assign(
 intro j Y E Z bP ac ah;refine wpAny_For (thn (S j Y E Z _ ac ah) λal bT am=>thn am λb1 b2 an=>?_) U;obtain⟨b3,n,F,b4,ap,o,ar,p,av,G,W,⟨ax,aA⟩,aE⟩:=an;subst o;have stat:∀{f:Hp},(∀a∈n,f a=none)→∀a∈n,pU X j f a:=λaI a b=>⟨aI a b,(G a b).2⟩;refine codeAny_forLoop_any (λu H=>∃h q f,Inv X j q f H∧F h H.heap∧(∀a∈n,f a=none)∧W h u q f) ?_ ax ⟨0,E,ap,ar,av,λa b=>(G a b).1,aA⟩;rintro u I⟨h,r,v,J,L,M,aK⟩;rcases aE h u r v aK with⟨stop,qn⟩|⟨go,aM,aN,step⟩;·refine Lz m (thn (p.done X rfl rfl rfl D h j I r v X.xe J (stat M) L stop) λaP aR l=>?_);obtain⟨y,aT⟩:=l;subst y;exact wpAny_execs_nil ⟨r,v,aT,qn⟩
 ·refine Lz m (thn (p.item X rfl rfl rfl D h j I r v X.xe J (stat M) L go) λaP aR l=>?_);obtain⟨aU,y,a0⟩:=l;subst y;refine Lz m (thn a0 λ_ N l=>?_);obtain⟨x,O,a1,a2,a3,z,a4⟩:=l;have a5:=a1.pinned (stat a4) (p.obj _ _ z);refine Lz m (thn (T _ N r O x aU _ a5 a2 (step x O a3)) λ_ a6 l=>?_);obtain⟨a7,a8,a9,bd⟩:=l;refine Lz m (thn (b _ a6 a7 a8 _ a9 bd) λbi A i=>?_);have again:∀{c:St}{d:Hp},Inv X (j++rj n N.heap) c d A→aM c d→∃Q,Q<u∧∃h q f,Inv X j q f A∧F h A.heap∧(∀a∈n,f a=none)∧W h Q q f:=λ{c d}e s=>by obtain⟨bj,bl,bm⟩:=aN c d s;refine⟨bj,bl,h+1,c,d,e.iU,p.keep _ _ _ z λa b B o=>(e.pin (a,B) (JW _ (JW _ (mi b o)))).1,λa b=>?_,bm⟩;obtain⟨B,o,b5⟩:=p.obj _ _ z a b;exact(e.pin (a,B) (JW _ (JW _ (mi b o)))).2.1
  cases bi with|next=>obtain⟨c,d,e,s⟩:=i;exact again e s|cont=>obtain⟨c,d,e,s⟩:=i;exact again e s|brk=>obtain⟨c,d,e,i⟩:=i;exact⟨c,d,e.iU,i⟩|ret al=>obtain⟨bn,c,d,e,bv,i⟩:=i;exact⟨bn,c,d,e.iU,bv,i⟩)
end
theorem dZ{K:PySem.W.Frag}{xs:List V}{q:TG}{r:TS}{h:Ends}{d:St}{c:Hp}(e:Nat→St→Hp→Prop)(v:e 0 d c)(z:∀b d c,b≤xs.length→e b d c→SqL K c a xs)(A:∀b x d c,xs[b]?=some x→e b d c→q x d c λi j=>r {h with nx:=e (b+1),ct:=e (b+1),bk:=h.nx} i j)(B:∀d c,e xs.length d c→h.nx d c):∃W:Nat→Nat→St→Hp→Prop,(∃f,W 0 f d c)∧∀b f d c,W b f d c→((Itl K a).stop b c∧h.nx d c)∨((Itl K a).go b c∧∃l:St→Hp→Prop,(∀m g,l m g→∃s,s<f∧W (b+1) s m g)∧∀x g,(Itl K a).yld b c x g→q x d g λi j=>r {h with nx:=l,ct:=l,bk:=h.nx} i j):=by f_assign(
 refine⟨λb f d c=>f=xs.length-b∧b≤xs.length∧e b d c,⟨xs.length,by simp,L7 _,v⟩,?_⟩;rintro b f d c⟨rfl,C,n⟩;have o:=z b d c C n;by_cases u:b<xs.length;·refine .inr ⟨⟨xs,xs[b],o,by simp[u]⟩,e (b+1),λm g D=>⟨xs.length-(b+1),by lia,rfl,u,D⟩,λx g y=>?_⟩;obtain⟨p,y⟩:=y;subst p;exact A b x d _ (y xs o) n
 ·have p:b=xs.length:=by lia
  subst p;exact .inl ⟨⟨xs,o,L6 _⟩,B d c n⟩)
theorem EA{K:PySem.W.Frag}{xs:List V}{q:TG}{r:TS}{h:Ends}{d:St}{c:Hp}(e:Nat→St→Hp→Prop)(v:e 0 d c)(z:∀b d c,b≤xs.length→e b d c→SqT K c a xs)(A:∀b x d c,xs[b]?=some x→e b d c→q x d c λi j=>r {h with nx:=e (b+1),ct:=e (b+1),bk:=h.nx} i j)(B:∀d c,e xs.length d c→h.nx d c):∃W:Nat→Nat→St→Hp→Prop,(∃f,W 0 f d c)∧∀b f d c,W b f d c→((Itt K a).stop b c∧h.nx d c)∨((Itt K a).go b c∧∃l:St→Hp→Prop,(∀m g,l m g→∃s,s<f∧W (b+1) s m g)∧∀x g,(Itt K a).yld b c x g→q x d g λi j=>r {h with nx:=l,ct:=l,bk:=h.nx} i j):=by f_assign(
 refine⟨λb f d c=>f=xs.length-b∧b≤xs.length∧e b d c,⟨xs.length,by simp,L7 _,v⟩,?_⟩;rintro b f d c⟨rfl,C,n⟩;have o:=z b d c C n;by_cases u:b<xs.length;·refine .inr ⟨⟨xs,xs[b],o,by simp[u]⟩,e (b+1),λm g D=>⟨xs.length-(b+1),by lia,rfl,u,D⟩,λx g y=>?_⟩;obtain⟨p,y⟩:=y;subst p;exact A b x d _ (y xs o) n
 ·have p:b=xs.length:=by lia
  subst p;exact .inl ⟨⟨xs,o,L6 _⟩,B d c n⟩)
theorem t6{lo:Int}{d:Nat}{p:TG}{q:TS}{h:Ends}{c:St}{b:Hp}(e:Nat→St→Hp→Prop)(u:e 0 c b)(v:∀a c b,a<d→e a c b→p (.int (lo+a)) c b λi j=>q {h with nx:=e (a+1),ct:=e (a+1),bk:=h.nx} i j)(z:∀c b,e d c b→h.nx c b):∃W:Nat→Nat→St→Hp→Prop,(∃f,W 0 f c b)∧∀a f c b,W a f c b→((Itr lo d).stop a b∧h.nx c b)∨((Itr lo d).go a b∧∃l:St→Hp→Prop,(∀m g,l m g→∃r,r<f∧W (a+1) r m g)∧∀x g,(Itr lo d).yld a b x g→p x c g λi j=>q {h with nx:=l,ct:=l,bk:=h.nx} i j):=by
 refine⟨λa f c b=>f=d-a∧a≤d∧e a c b,⟨d,by simp,L7 _,u⟩,?_⟩;rintro a f c b⟨rfl,B,s⟩;by_cases n:a<d;·refine .inr ⟨n,e (a+1),λm g A=>⟨d-(a+1),by lia,rfl,n,A⟩,λx g y=>?_⟩;obtain⟨o,y⟩:=y;subst o y;exact v a c _ n s
 ·have o:a=d:=by lia
  subst o;exact .inl ⟨L6 _,z c b s⟩
abbrev R2:=V→V→Hp→VK→Prop
def OpR(a:Cx)(i:Value→Value→Sem Value)(j:R2):Prop:=∀(b:List (Addr×Obj))(c:Shared)(d:St)(e:Hp)(x y:V)(f g:Value)(h:VK),Inv a b d e c→RelV x f→RelV y g→j x y e h→wpAny (model a.prog a.w) a.A (i f g) (EP a b d h) a.xe c
def UnR(a:Cx)(h:Value→Sem Value)(i:V→Hp→VK→Prop):Prop:=∀(b:List (Addr×Obj))(c:Shared)(d:St)(e:Hp)(x:V)(f:Value)(g:VK),Inv a b d e c→RelV x f→i x e g→wpAny (model a.prog a.w) a.A (h f) (EP a b d g) a.xe c
def cx(a:Cx)(i:Value)(j:List V→Hp→VK→Prop):Prop:=∀(b:List (Addr×Obj))(c:Shared)(d:St)(e:Hp)(f:List V)(g:List Value)(h:VK),Inv a b d e c→aZ f g→j f e h→wpAny (model a.prog a.w) a.A (call i g) (EP a b d h) a.xe c
def tOp(b:R2)(c d:TE):TE:=λa e f=>c a e λx g=>d a g λy h=>b x y h f
def tUn(a:V→Hp→VK→Prop)(b:TE):TE:=λc d e=>b c d λx f=>a x f e
def rI(c:Int→Int→Prop)(d:Int→Int→V):R2:=λx y e f=>∃a b,x=.int a∧y=.int b∧c a b∧f (d a b) e
def rI0(c:Int→Int→V):R2:=λx y d e=>∃a b,x=.int a∧y=.int b∧e (c a b) d
def rU(b:Int→V):V→Hp→VK→Prop:=λx c d=>∃a,x=.int a∧d (b a) c
section
variable {X : Cx} {a b c : Expr} {ta tb tc : TE} {pos : Pos}
theorem Gx(m:PE X a ta)(n:PE X b tb){h:Shared}{j:V→V→Hp→Prop}(o:Inv X pins σ H h)(p:ta σ H λx i=>tb σ i λy d=>j x y d){l:Value→Value→Sem Value}(hf:∀e f g x y d,Inv X pins σ d g→RelV x e→RelV y f→j x y d→wpAny (model X.prog X.w) X.A (l e f) Q X.xe g):wpAny (model X.prog X.w) X.A (eval a X.env) (λe q=>wpAny (model X.prog X.w) X.A (eval b X.env) (λf r=>wpAny (model X.prog X.w) X.A (l e f) Q X.xe r) X.xe q) X.xe h:=by refine bu (m pins h σ H _ o p) λe s x i u v z=>?_;refine bu (n pins s σ i _ u z) λf g y d A B C=>?_;exact hf e f g x y d A v B C
theorem aS{d:Operator}(e:OpR X (binaryOp d) r)(f:PE X a ta)(g:PE X b tb):PE X (.BinOp a d b pos) (tOp r ta tb):=by intro h A i B j l m;exact wpAny_BinOp (Gx f g l m λn o p x y q s u v z=>e h p i q x y n o j s u v z)
theorem zK{d:UnaryOp}{e:V→Hp→VK→Prop}(h:UnR X (unaryOp d) e)(i:PE X a ta):PE X (.UnaryOp d a pos) (tUn e ta):=by intro f j g l m n o;exact UnaryOp_ (bu (i f j g l _ n o) λp q x r s u v=>h f q g r x p m s u v)
theorem opI{j:Value→Value→Sem Value}{l:Int→Int→Prop}{g:Int→Int→Int}(rule:∀(d e:Int)(t m:Tok)(f:Shared)(i:Value→Shared→Prop)(n:Value→Shared→Prop),l d e→i (.int (g d e) f.toks) {f with toks:=f.toks+1}→wpAny (model X.prog X.w) X.A (j (.int d t) (.int e m)) i n f):OpR X j (rI l λd e=>.int (g d e)):=by intro s f u o x y v m i I rx ry h;obtain⟨d,e,rfl,rfl,p,q⟩:=h;obtain⟨t,rfl⟩:=rx;obtain⟨r,rfl⟩:=ry;exact rule d e t r f _ _ p ⟨.int (g d e),o,I.tok _,⟨_,rfl⟩,q⟩
theorem HI{j:Value→Value→Sem Value}{g:Int→Int→Int}(rule:∀(d e:Int)(t l:Tok)(f:Shared)(i:Value→Shared→Prop)(m:Value→Shared→Prop),i (.int (g d e) f.toks) {f with toks:=f.toks+1}→wpAny (model X.prog X.w) X.A (j (.int d t) (.int e l)) i m f):OpR X j (rI0 λd e=>.int (g d e)):=by intro q f r n x y v l i I rx ry h;obtain⟨d,e,rfl,rfl,o⟩:=h;obtain⟨t,rfl⟩:=rx;obtain⟨p,rfl⟩:=ry;exact rule d e t p f _ _ ⟨.int (g d e),n,I.tok _,⟨_,rfl⟩,o⟩
theorem Bj{j:Value→Value→Sem Value}{g:Int→Int→Bool}(rule:∀(d e:Int)(t l:Tok)(f:Shared)(i:Value→Shared→Prop)(m:Value→Shared→Prop),i (.bool (g d e)) f→wpAny (model X.prog X.w) X.A (j (.int d t) (.int e l)) i m f):OpR X j (rI0 λd e=>.bl (g d e)):=by intro q f r n x y v l i I rx ry h;obtain⟨d,e,rfl,rfl,o⟩:=h;obtain⟨t,rfl⟩:=rx;obtain⟨p,rfl⟩:=ry;exact rule d e t p f _ _ ⟨.bl (g d e),n,I,rfl,o⟩
def Gy(e d:Int):Prop:=0<d∧d<1073741824
def yq(d e:Int):Prop:=(-(2^64)<d∧d<2^64)∨(-(2^64)<e∧e<2^64)
theorem yq.ok{d e:Int}(f:yq d e):IntMulOk d e:=by
 rcases f with⟨h1,h2⟩|⟨h1,h2⟩;·exact .of_left (intBits_le_64 h1 h2)
 ·exact .of_right (intBits_le_64 h1 h2)
theorem op_add:OpR X (binaryOp .Add) (rI0 λd e=>.int (d+e)):=HI λ_ _ _ _ _ _ _ f=>add_int f
theorem op_sub:OpR X (binaryOp .Sub) (rI0 λd e=>.int (d-e)):=HI λ_ _ _ _ _ _ _ f=>sub_int f
theorem op_mul:OpR X (binaryOp .Mult) (rI yq λd e=>.int (d*e)):=opI λ_ _ _ _ _ _ _ f g=>mul_int g f.ok
theorem op_fdiv:OpR X (binaryOp .FloorDiv) (rI Gy λe d=>.int (e/d)):=opI λe d _ _ _ _ _ f g=>by have h:(0:Int)<d:=f.1;have i:d<1073741824:=f.2;exact floordiv_int (by omega) (by rw[Int.fdiv_eq_ediv_of_nonneg e (by omega)];exact g) (.inl (PyProof.noPylong_small (by omega)))
theorem op_mod:OpR X (binaryOp .Mod) (rI (λ_ d=>0<d) λe d=>.int (e%d)):=opI λe d _ _ _ _ _ f g=>by have h:(0:Int)<d:=f;exact mod_int' (by lia) (by rw[Int.fmod_eq_emod_of_nonneg e (by lia)];exact g)
theorem unI{i:Value→Sem Value}{f:Int→Int}(rule:∀(d:Int)(t:Tok)(e:Shared)(g:Value→Shared→Prop)(j:Value→Shared→Prop),g (.int (f d) e.toks) {e with toks:=e.toks+1}→wpAny (model X.prog X.w) X.A (i (.int d t)) g j e):UnR X i (rU λd=>.int (f d)):=by intro n e o l x v g I rx h;obtain⟨d,rfl,m⟩:=h;obtain⟨t,rfl⟩:=rx;exact rule d t e _ _ ⟨.int (f d),l,I.tok _,⟨_,rfl⟩,m⟩
theorem un_neg:UnR X (unaryOp .USub) (rU λd=>.int (-d)):=unI λ_ _ _ _ _ e=>neg_int e
end
section
variable {X : Cx} {a b c : Expr} {ta tb tc : TE} {pos : Pos}
theorem yr{d:Shared}{e:VK}{k f:Bool}(g:Inv X pins σ H d)(h:e (.bl k) H)(i:k=f):EP X pins σ e (.bool f) d:=by subst i;exact⟨.bl k,H,g,rfl,h⟩
theorem op_lt:OpR X (compareOp .Lt) (rI0 λd e=>.bl (decide (d<e))):=Bj λ_ _ _ _ _ _ _ f=>lt_int f
theorem op_le:OpR X (compareOp .LtE) (rI0 λd e=>.bl (decide (d≤e))):=Bj λ_ _ _ _ _ _ _ f=>le_int f
theorem op_gt:OpR X (compareOp .Gt) (rI0 λd e=>.bl (decide (e<d))):=Bj λ_ _ _ _ _ _ _ f=>gt_int f
theorem op_ge:OpR X (compareOp .GtE) (rI0 λd e=>.bl (decide (e≤d))):=Bj λ_ _ _ _ _ _ _ f=>ge_int f
theorem Gz:OpR X (compareOp .Is) (λx y d e=>y=.non∧e (.bl (decide (x=.non))) d):=by intro g i j d x y v u e I rx ry h;obtain⟨rfl,f⟩:=h;cases ry;refine is_none_gen (yr I f ?_);cases x<;>first|(cases rx;rfl)|(obtain⟨t,rfl⟩:=rx;rfl)
theorem EB:OpR X (compareOp .IsNot) (λx y d e=>y=.non∧e (.bl (!decide (x=.non))) d):=by intro g i j d x y v u e I rx ry h;obtain⟨rfl,f⟩:=h;cases ry;refine isnot_none_gen (yr I f ?_);cases x<;>first|(cases rx;rfl)|(obtain⟨t,rfl⟩:=rx;rfl)
theorem aD(b:Expr){d:CmpOp}(e:d≠.In:=by decide)(f:d≠.NotIn:=by decide):behindInMarks d b=false:=by
 have g:(d==CmpOp.In)=false:=by cases d<;>first|rfl|exact absurd rfl e
 have h:(d==CmpOp.NotIn)=false:=by cases d<;>first|rfl|exact absurd rfl f
 cases b<;>simp[behindInMarks,g,h]
theorem dD{d:CmpOp}(e:OpR X (compareOp d) r)(f:PE X a ta)(g:PE X b tb)(h:behindInMarks d b=false):PE X (.Compare a [d] [b] pos) (tOp r ta tb):=by intro i B j C l m n;exact wpAny_Compare1 (Gx f g m n λo p q x y s u v z A=>e i q j s x y o p l u v z A) h
def HJ(t:TE):TT:=λd e f=>t d e λx g=>∃k,x=.bl k∧f k g
theorem pt_cmpR{d:CmpOp}(g:OpR X (compareOp d) r)(h:PE X a ta)(i:PE X b tb)(j:behindInMarks d b=false):PT X (.Compare a [d] [b] pos) (HJ (tOp r ta tb)):=by intro e l f m M n o;refine wpAny_isTrue_Compare1 (bu (h e l f m _ n o) λp q x s u v z=>bu (i e q f s _ u z) λA B y C D E F=>bu (g e B f C x y p A _ D v E F) λc N O G H I⟨k,J,L⟩=>?_) j;subst J;cases I;exact K2 ⟨G,H,L⟩
theorem rn:(sizeLine:Nat)<2^63:=by rw[sizeLine_eq];decide
theorem vals1{x:V}(e:aZ [x] us):∃d,us=[d]∧RelV x d:=by cases e with|cons f g=>cases g;exact⟨_,rfl,f⟩
theorem vals2{x y:V}(f:aZ [x,y] us):∃d e,us=[d,e]∧RelV x d∧RelV y e:=by cases f with|cons g h=>cases h with|cons i j=>cases j;exact⟨_,_,rfl,g,i⟩
theorem fP(l:X.calm=true):cx X (.builtin "max") (λh g i=>∃d e,h=[.int d,.int e]∧i (.int (if e>d then e else d)) g):=by
 intro p q r g h s i j m n;obtain⟨d,e,rfl,o⟩:=n;obtain⟨u,v,rfl,⟨t,rfl⟩,⟨x,rfl⟩⟩:=vals2 m;refine max_two_ints (j.ok.hd l) λy z k=>⟨_,g,j.kept k,?_,o⟩;by_cases f:e>d;·rw[Mj f,Mj f];exact⟨_,rfl⟩
 ·rw[Mi f,Mi f];exact⟨_,rfl⟩
theorem ou(l:X.calm=true):cx X (.builtin "min") (λh g i=>∃d e,h=[.int d,.int e]∧i (.int (if e<d then e else d)) g):=by
 intro p q r g h s i j m n;obtain⟨d,e,rfl,o⟩:=n;obtain⟨u,v,rfl,⟨t,rfl⟩,⟨x,rfl⟩⟩:=vals2 m;refine min_two_ints (j.ok.hd l) λy z k=>⟨_,g,j.kept k,?_,o⟩;by_cases f:e<d;·rw[Mj f,Mj f];exact⟨_,rfl⟩
 ·rw[Mi f,Mi f];exact⟨_,rfl⟩
theorem mQ:cx X (.builtin "ord") (λe d f=>∃x,e=[.str x]∧x.length=1∧f (.int (x.cps.getD 0 0:Nat)) d):=by intro m n o d e p f g h i;obtain⟨x,rfl,j,l⟩:=i;obtain⟨q,rfl,t,rfl⟩:=vals1 h;exact ord_of_one j ⟨.int _,d,g.tok _,⟨_,rfl⟩,l⟩
end
structure yt(h:Heap)(x dx C:Addr)(mA:Str→Option Value):Prop where
 obj:h.get? x=some (PySem.W.instObj C dx)ns:h.Ns1 dx mA
 ne:dx≠x
theorem Bk{e:Heap}(h:e.Ns1 dx mA):∃f,e.get? dx=some f∧∀c,PySem.W.lookIn c f=some (mA c):=by f_assign(
 obtain⟨i,g,q,j,l,m,_,n⟩:=h;refine⟨i,j,λc=>?_⟩;have b:=n c;unfold nsFind findBy at b;rw[←Array.find?_toList]at b;unfold PySem.W.lookIn;rw[l];dsimp only;split;·rename_i y d;rw[d]at b;exact Me some b
 ·rename_i d;rw[d]at b;have a:g.toList.any (·.refKey)=false:=by rw[List.any_eq_false];intro y hy;obtain⟨r,t,o⟩:=m y (Array.mem_toList_iff.mp hy);simp[DictEntry.refKey,o]
  have p:¬g.toList.any (·.refKey)=true:=by rw[a];exact Kl
  rw[Mi p];exact Me some b)
theorem yt.look(b:yt h x dx C mA):∃a,PySem.W.InstAt h x (PySem.W.instObj C dx) C (some a)∧∀c,PySem.W.lookIn c a=some (mA c):=let⟨a,ho,hl⟩:=Bk b.ns;⟨a,⟨b.obj,rfl,rfl,ho⟩,hl⟩
section
variable {prog : Program} {w : World} {A : Around} {E : Value → Shared → Prop} {s : Shared} {K : PySem.W.Frag} {x dx C f : Addr} {mA : Str → Option Value} {name : Str} {v : Value}
theorem get_map{b:Bool}{a:Value→Shared→Prop}(c:K.In s.heap)(d:yt s.heap x dx C mA)(e:PySem.W.plainGet K C name=true)(g:PySem.W.hasDictIn K C=true)(h:PySem.W.findIn K (.ref C) name=some none)(i:mA name=some v)(j:PySem.W.handedIn v=true)(l:a v {s with toks:=s.toks+1}):wpAny (model prog w) A (getAttr (.ref x) name b) a E s:=by obtain⟨o,m,n⟩:=d.look;exact PySem.W.get_value c m (PySem.W.plainGet_of e).1 (PySem.W.findObj_own g h rfl (by rw[n,i])) j l
theorem Cu{c:Sem Bool}{a:Value×List Value→Shared→Prop}(d:K.In s.heap)(e:yt s.heap x dx C mA)(b:PySem.W.plainGet K C name=true)(hf:PySem.W.findIn K (.ref C) name=some (some (.ref f)))(g:PySem.W.isFn K (.ref f)=true)(h:mA name=none)(i:a (.ref f,[.ref x]) s):wpAny (model prog w) A (getMethod (.ref x) name c) a E s:=by obtain⟨j,l,m⟩:=e.look;exact PySem.W.method_fn d l (PySem.W.plainGet_of b).1 (PySem.W.plainGet_of b).2 hf (L_.mp g) (by show(PySem.W.lookIn name j).map (·.isSome)=some false;rw[m,h];rfl) i
theorem EC{e:List Str}{g:Unit→Shared→Prop}(d:K.In s.heap)(b:yt s.heap x dx C mA)(l:PySem.W.findIn K (.ref C) "__setattr__"=some (some (.builtin "object.__setattr__")))(m:PySem.W.plainOver K C=true)(n:PySem.W.takerIn K C name=some none)(o:PySem.W.hasDictIn K C=true)(p:PySem.Within mA e)(H:e.length≤sizeLine)(q:∀c,yt c x dx C (λy=>if y=name then some v else mA y)→Heap.SameBut dx s.heap c→g () {s with heap:=c,toks:=s.toks+2}):wpAny (model prog w) A (setAttr (.ref x) name v) g E s:=by f_assign(obtain⟨I,h,J⟩:=b.look;refine PySem.W.set_plain d h l (PySem.W.osa_open (s:={s with toks:=s.toks+1}) (r:=none) d h m n λL=>?_);obtain⟨M,u,z⟩:=PySem.W.any_some o;have B:s.heap.get? x=some ⟨.ref C,some dx,.plain,#[]⟩:=b.obj;refine Ma (Md (Ma (Ma (wpAny_loadPart B (Ma (PySem.W.Looks.here (s:={s with toks:=s.toks+1}) (PySem.W.looks_clsIn d u) ?_))))));rw[z];refine Md (a:=some dx) (Ma (Md (Ma ?_)));refine wpAny_nsSet1 (s:={s with toks:=s.toks+1}) b.ns λc i j=>?_;obtain⟨N,O,Q,D,F,G⟩:=i.count (PySem.Within.cons name v p);refine Ma (wpAny_lookBehind D (by rw[F];exact pastItsLine_dict (LY G (by rw[K9];lia))) ?_);exact Md (q _ ⟨(j.2 _ (Mg b.ne)).trans b.obj,i,b.ne⟩ j))
theorem Cv{d:Result→Shared→Prop}{a:List Value}{b:List (Str×Value)}(c:K.In s.heap)(e:PySem.W.makesIn K C=true)(g:PySem.W.findIn K (.ref C) "__init__"=some (some (.ref f)))(hf:PySem.W.typeIn K (.ref f)=some (.type "function"))(h:codeAny (model prog w) (A.under (.builtin "type.__call__" ⟨.ref C::a,b⟩)) (.call (.ref f) ⟨.ref (s.heap.objs.size+1)::a,b⟩) (PySem.W.InitBack (s.heap.objs.size+1) d) {s with heap:=(s.heap.push PySem.W.emptyDict).push (PySem.W.instObj C s.heap.objs.size)}):codeAny (model prog w) A (.call (.ref C) ⟨a,b⟩) d s:=by obtain⟨j,l,m,t,os⟩:=s;exact PySem.W.make_core (PySem.W.makes_of c e) (PySem.W.looks_findIn c g) (λi=>PySem.W.bind_fn c i hf) (.inl rfl) h
end
def a_(a:Str)(b:V):List (Str×V)→List (Str×V)|[]=>[(a,b)]|(c,x)::d=>if c=a then(c,b)::d else(c,x)::a_ a b d
theorem pF(b a:Str)(e:V):∀fs:List (Str×V),(a_ b e fs).lookup a=if a=b then some e else fs.lookup a
 |[]=>by
  show List.lookup a [(b,e)]=_;by_cases c:a=b;·have d:(a==b)=true:=L_.mpr c;simp only[List.lookup,d,if_pos c]
  ·have d:(a==b)=false:=Kj.mpr c;simp only[List.lookup,d,if_neg c]|(k,x)::g=>by f_assign(
  have i:=pF b a e g;rw[show a_ b e ((k,x)::g)=(if k=b then(k,e)::g else(k,x)::a_ b e g)from rfl];by_cases f:k=b
  ·rw[Mj f];by_cases c:a=k;·have d:(a==k)=true:=L_.mpr c;simp only[List.lookup,d,if_pos (c.trans f)]
   ·have d:(a==k)=false:=Kj.mpr c;simp only[List.lookup,d,if_neg (λh:a=b=>c (h.trans f.symm))]
  ·rw[Mi f];by_cases c:a=k;·have d:(a==k)=true:=L_.mpr c;simp only[List.lookup,d,if_neg (λh:a=b=>f (c.symm.trans h))]
   ·have d:(a==k)=false:=Kj.mpr c;simp only[List.lookup,d];exact i)
theorem ow(a:Str)(b:V):∀fs:List (Str×V),a∈(a_ a b fs).map (·.1)∧∀c,c∈fs.map (·.1)→c∈(a_ a b fs).map (·.1)|[]=>⟨by simp[a_],λc d=>by simp at d⟩|(k,x)::f=>by f_assign(
 obtain⟨h,i⟩:=ow a b f;rw[show a_ a b ((k,x)::f)=(if k=a then(k,b)::f else(k,x)::a_ a b f)from rfl];by_cases g:k=a;·rw[Mj g];subst g;exact⟨by simp,λc d=>by simpa using d⟩
 ·rw[Mi g];refine⟨?_,λc d=>?_⟩;·rw[LM];exact J0 _ h
  ·rw[LM]at d⊢;rcases LN.mp d with e|e;·exact LN.mpr (.inl e)
   ·exact J0 _ (i c e))
theorem pG(a:Str)(b:V):∀fs:List (Str×V),(a_ a b fs).length≤fs.length+1
 |[]=>by simp[a_]|(k,x)::c=>by
  have e:=pG a b c;rw[show a_ a b ((k,x)::c)=(if k=a then(k,b)::c else(k,x)::a_ a b c)from rfl];by_cases d:k=a;·rw[Mj d,K9,K9];lia
  ·rw[Mi d,K9,K9];lia
theorem i5.some_of{o:Option Value}(b:i5 (some v) o):∃a,o=some a∧RelV v a:=by cases o with|none=>exact(show False from b).elim|some a=>exact⟨a,rfl,b⟩
theorem i5.none_of{a:Option Value}(b:i5 none a):a=none:=by cases a with|none=>rfl|some c=>exact(show False from b).elim
theorem Bl(b:RelV v u):PySem.W.handedIn u=true:=by f_assign(cases v with|non=>cases(show u=Value.none from b);rfl|bl d=>cases(show u=Value.bool d from b);rfl|int e=>obtain⟨t,c⟩:=(show∃t,u=Value.int e t from b);cases c;rfl|str x=>obtain⟨t,c⟩:=(show∃t,u=Value.str x t from b);cases c;rfl|byt d=>obtain⟨t,c⟩:=(show∃t,u=Value.bytes d t from b);cases c;rfl|flt d=>obtain⟨t,c⟩:=(show∃t,u=Value.float d t from b);cases c;rfl|ref a=>cases(show u=Value.ref a from b);rfl|ty f=>cases(show u=Value.type f from b);rfl)
section
variable {P : Program} {w : World} {H H' : Hp} {h h' : Heap} {a C dx : Addr} {fs fs' : List (Str × V)}
theorem u0(d:HOk P w H h)(e:H a=some (.ins C dx fs)):∃b,yt h a dx C b∧(∀c,i5 (fs.lookup c) (b c))∧PySem.Within b (fs.map (·.1))∧fs.length≤1000∧H dx=some (.own a):=by obtain⟨f,g,ne,i,b,j,l,m⟩:=(show bU P w H h a (.ins C dx fs)from d a _ e);exact⟨b,⟨i,j,ne⟩,l,m,g,f⟩
end
structure Cls(K:PySem.W.Frag)(C:Addr):Prop where
 pg:PySem.W.plainGet K C Str.empty=true
 hd:PySem.W.hasDictIn K C=true
 po:PySem.W.plainOver K C=true
 sa:PySem.W.findIn K (.ref C) "__setattr__"=some (some (.builtin "object.__setattr__"))
theorem Cls.get{K:PySem.W.Frag}(a:Cls K C)(b:Str):PySem.W.plainGet K C b=true:=a.pg
def aQ(K:PySem.W.Frag)(a:Addr)(b:Str):Prop:=PySem.W.findIn K (.ref a) b=some none
theorem aQ.IU{K:PySem.W.Frag}{a:Str}(b:aQ K C a):PySem.W.takerIn K C a=some none:=by unfold PySem.W.takerIn;rw[show PySem.W.findIn K (.ref C) a=some none from b];rfl
structure Cw(K:PySem.W.Frag)(C:Addr)(m:Str)(f:Addr):Prop where
 at_:PySem.W.findIn K (.ref C) m=some (some (.ref f))fn:PySem.W.isFn K (.ref f)=true
 kp:PySem.W.keepIn K (.ref f)=true
section
variable {X : Cx} {pins : List (Addr × Obj)} {σ : St} {H : Hp} {s : Shared} {a C dx : Addr} {fs : List (Str × V)} {f : Str} {v : V} {A : Around} {E : Value → Shared → Prop}
theorem yu{i:Bool}{d:Value→Shared→Prop}(c:Inv X pins σ H s)(j:H a=some (.ins C dx fs))(e:Cls X.K C)(l:aQ X.K C f)(m:fs.lookup f=some v)(n:∀b g,Inv X pins σ H g→RelV v b→d b g):wpAny (model X.prog X.w) A (getAttr (.ref a) f i) d E s:=by obtain⟨p,q,r,_,_,_⟩:=u0 c.hok j;obtain⟨b,u,h⟩:=i5.some_of (v:=v) (o:=p f) (by rw[←m];exact r f);exact get_map c.kIn q (e.get f) e.hd l u (Bl h) (n b _ (c.tok _) h)
theorem rp{d:Sem Bool}{b:Value×List Value→Shared→Prop}(c:Inv X pins σ H s)(e:H a=some (.ins C dx fs))(h:Cls X.K C)(k:Cw X.K C m g)(i:fs.lookup m=none)(j:b (.ref g,[.ref a]) s):wpAny (model X.prog X.w) A (getMethod (.ref a) m d) b E s:=by obtain⟨l,n,o,_,_,_⟩:=u0 c.hok e;have p:l m=none:=i5.none_of (by rw[←i];exact o m);exact Cu c.kIn n (h.get m) k.at_ k.fn p j
theorem yw{m:Unit→Shared→Prop}(d:Inv X pins σ H s)(e:H a=some (.ins C dx fs))(g:Cls X.K C)(q:aQ X.K C f)(N:fs.length<1000)(r:RelV y u)(z:∀n,Inv X pins σ (upd H a (.ins C dx (a_ f y fs))) n→m () n):wpAny (model X.prog X.w) A (setAttr (.ref a) f u) m E s:=by f_assign(
 obtain⟨o,h,B,wi,_,p⟩:=u0 d.hok e;have D:(fs.map (·.1)).length≤sizeLine:=by rw[Ln,sizeLine_eq];lia
 refine EC d.kIn h g.sa g.po q.IU g.hd wi D λF i G=>z _ ?_;have I:∃j,F.get? dx=some j:=let⟨j,_,_,e',_⟩:=i.ns;⟨j,e'⟩;refine d.write (x:=a) (e:=dx) (by rw[e];exact True.intro) (.inr p) (λJ c L l=>(G.2 J L).trans l) I ?_;refine⟨by rw[ak h.ne];exact p,?_,h.ne,i.obj,_,i.ns,λb=>?_,λb M=>?_⟩;·have:=pG f y fs;lia
 ·show i5 ((a_ f y fs).lookup b) (if b=f then some u else o b);rw[pF];by_cases c:b=f;·rw[Mj c,Mj c];exact r
  ·rw[Mi c,Mi c];exact B b
 ·by_cases c:b=f;·rw[c];exact(ow f y fs).1
  ·refine(ow f y fs).2 b (wi b λl=>M ?_);show(if b=f then some u else o b)=none;rw[Mi c];exact l)
theorem Inv.made(d:Inv X pins σ H s):Inv X pins σ (upd (upd H s.heap.objs.size (.own (s.heap.objs.size+1))) (s.heap.objs.size+1) (.ins C s.heap.objs.size [])) {s with heap:=(s.heap.push PySem.W.emptyDict).push (PySem.W.instObj C s.heap.objs.size)}:=by f_assign(
 have c:(s.heap.push PySem.W.emptyDict).get? s.heap.objs.size=some PySem.W.emptyDict:=Kc s.heap rfl;have e:((s.heap.push PySem.W.emptyDict).push (PySem.W.instObj C s.heap.objs.size)).get? (s.heap.objs.size+1)=some (PySem.W.instObj C s.heap.objs.size):=by have:=Kc (s.heap.push PySem.W.emptyDict) (o:=PySem.W.instObj C s.heap.objs.size) rfl;rwa[LA]at this
 have g:(s.heap.push PySem.W.emptyDict).Ns s.heap.objs.size (λ_=>none):=⟨PySem.W.emptyDict,#[],_,c,rfl,(λn h=>absurd h (by simp)),λ_=>rfl⟩;have i:=d.laid (a:=s.heap.objs.size) (o:=.own (s.heap.objs.size+1)) (h':=s.heap.push PySem.W.emptyDict) (t':=s.toks) (λj l b=>JK _ b) (L6 _) ⟨_,c⟩;refine i.laid (a:=s.heap.objs.size+1) (o:=.ins C s.heap.objs.size []) (t':=s.toks) (λj l b=>JK _ b) (Nat.le_of_eq (LA _ _)) ?_;have ne:s.heap.objs.size≠s.heap.objs.size+1:=L3 (Le _);refine⟨by rw[ak ne,aj],L7 _,ne,e,λ_=>none,(Heap.Ns1.of_empty g).at λo b=>JK _ b,λ_=>True.intro,λy m=>absurd rfl m⟩)
theorem ED{c:Program}{w:World}{b:Env}{f:Str}{d:Pos}{s:Shared}(g:attributeBase e f b (eval e b)=eval e b)(h:wpAny (model c w) A (eval e b) (λi j=>wpAny (model c w) A (getAttr i f true) Q E j) E s):wpAny (model c w) A (eval (.Attribute e f d) b) Q E s:=Attribute_any_ h (by rw[arm_eval_Attribute,g])
end
def GA(K:PySem.W.Frag)(f:TE)(c:Str):TE:=λg h i=>f g h λx d=>∃a b j fs e,x=.ref a∧d a=some (.ins b j fs)∧Cls K b∧aQ K b c∧fs.lookup c=some e∧i e d
def Cy(K:PySem.W.Frag)(g h:TE)(d:Str):TS:=λi c j=>h c j λy l=>g c l λx e=>∃a b f fs,x=.ref a∧e a=some (.ins b f fs)∧Cls K b∧aQ K b d∧fs.length<1000∧i.nx c (upd e a (.ins b f (a_ d y fs)))
section
variable {X : Cx} {o e value : Expr} {f : Str} {pos pos' tpos : Pos} {ta tv : TE}
theorem pe_fld(b:PE X e ta)(c:attributeBase e f X.env (eval e X.env)=eval e X.env):PE X (.Attribute e f pos) (GA X.K ta f):=by intro d g h i E j l;refine ED c (bu (b d g h i _ j l) λm F x n p q r=>?_);obtain⟨a,G,H,fs,s,u,v,y,z,A,B⟩:=r;subst u;obtain rfl:m=Value.ref a:=q;exact yu p v y z A λI J C D=>⟨s,n,C,D,B⟩
theorem bf(d:PE X o ta)(g:PE X value tv)(h:swapsWith value (some (.Attribute o f pos')) pos.line X.env=pure false):PS X (.Assign [.Attribute o f pos'] value pos) (Cy X.K ta tv f):=by intro c i b j I l m;refine plainObj_wpAny_Assign_Attribute (bu (g c i b j _ l m) λJ n y p q r s=>bu (d c n b p _ q s) λu L x M v z A=>?_) h;obtain⟨a,N,O,fs,B,C,D,E,F,G⟩:=A;subst B;obtain rfl:u=Value.ref a:=z;exact yw v C D E F r λQ H=>⟨b,_,H,G⟩
end
structure cu(k:Nat)(A:Around):Prop where
 hd:A.handled=none
 dp:A.depth+3*k+5<recursionLimit
 un:A.units+16*k+200<cLine
theorem cu.mono{b k:Nat}{c:Around}(a:cu k c)(d:b≤k):cu b c:=⟨a.hd,by have:=a.dp;lia,by have:=a.un;lia⟩
theorem cu.deeper{k:Nat}{a:Around}(b:cu (k+1) a)(c:Env):cu k (a.deeper c):=⟨b.hd,by have:=b.dp;show a.depth+1+3*k+5<_;lia,by have:=b.un;show a.units+3+16*k+200<_;lia⟩
theorem cu.in1{k:Nat}{a:Around}(b:cu (k+1) a):cu k a.in1:=⟨b.hd,by have:=b.dp;show a.depth+3*k+5<_;lia,by have:=b.un;show a.units+1+16*k+200<_;lia⟩
theorem yx{a:Around}{b:List Value}{c:List (Str×Value)}:(a.under (.builtin "type.__call__" ⟨.ref C::b,c⟩)).depth=a.depth+1:=by first|rfl|simp[Around.under,Code.weight,Code.isCreation,Code.isGuard,Code.isCaller,Code.frames,Code.isFrame,guardIds]
theorem yy{a:Around}{b:List Value}{c:List (Str×Value)}:(a.under (.builtin "type.__call__" ⟨.ref C::b,c⟩)).units=a.units+1:=by first|rfl|simp[Around.under,Code.cUnits,Code.frames,Code.isFrame]
theorem cu.make{k:Nat}{b:Around}(a:cu (k+1) b)(c:Addr)(d:List Value)(e:List (Str×Value)):cu k (b.under (.builtin "type.__call__" ⟨.ref c::d,e⟩)):=⟨a.hd,by have:=a.dp;rw[yx];lia,by have:=a.un;rw[yy];lia⟩
theorem cu.depth{k:Nat}{a:Around}(b:cu k a):a.depth<recursionLimit:=by have:=b.dp;lia
theorem cu.units{k:Nat}{a:Around}(b:cu k a):a.units+64<cLine:=by have:=b.un;lia
def rq:TA:=λ_ a b=>b [] a
def rA(b:TE)(tr:TA):TA:=λa c d=>b a c λx e=>tr a e λf g=>d (x::f) g
section
variable {X : Cx} {e : Expr} {es : List Expr} {te : TE} {t : TA} {pos : Pos}
theorem af:PA X [] rq:=λ_ _ _ _ a d b c=>Calls.spliced_nil ⟨[],a,b,.nil,c⟩
theorem aa(d:PE X e te)(f:PA X es t)(g:starEach (e::es) X.env=(false,eval e X.env)::starEach es X.env:=by rfl):PA X (e::es) (rA te t):=by intro pos a b c h y i j;rw[g];show wpAny _ _ (spliced ((false,eval e X.env)::backTo pos (starEach es X.env))) _ _ b;refine Calls.spliced_cons (bu (d a b c h _ i j) λz l x m n o p=>?_);exact bu (f pos a l c m _ n p) λA B q r s u v=>⟨x::q,r,s,.cons o u,v⟩
def HK(t:TA):TE:=λd f g=>t d f λb c=>b.length≤sizeLine∧∀a,c a=none→g (.ref a) (upd c a (.tup b))
def HL(t:TA):TE:=λd f g=>t d f λb c=>b.length≤sizeLine∧∀a,c a=none→g (.ref a) (upd c a (.lst b))
theorem fQ{x1}(g:PA X es t):PE X (.Tuple es x1 pos) (HK t):=by f_assign(intro h i j l r m n;refine wpAny_Tuple_spliced (bu (g pos h i j l _ m n) λo a p b c d⟨f,q⟩=>⟨by rw[←d.length];exact f,?_⟩);have hf:b a.heap.objs.size=none:=c.hok.fresh (L6 _);refine⟨.ref a.heap.objs.size,upd b a.heap.objs.size (.tup p),c.laid (t':=a.toks) (λs u e=>JK _ e) (L6 _) ?_,rfl,q _ hf⟩;exact⟨f,o,d,⟨_,Kc _ rfl,rfl,_,rfl⟩⟩)
theorem aC(g:PA X es t):PE X (.List es pos) (HL t):=by intro h i j l r m n;refine wpAny_List_spliced (bu (g pos h i j l _ m n) λo a p b c d⟨f,q⟩=>⟨by rw[←d.length];exact f,?_⟩);have hf:b a.heap.objs.size=none:=c.hok.fresh (L6 _);refine⟨.ref a.heap.objs.size,upd b a.heap.objs.size (.lst p),c.laid (t':=a.toks) (λs u e=>JK _ e) (L6 _) ?_,rfl,q _ hf⟩;exact⟨f,o,0,d,Kc _ rfl⟩
end
abbrev Sp:=List V→Hp→VK→XK→Prop
abbrev CXT:=List Env→Hp→Shared→XK→Value→Shared→Prop
structure wG(P:Program)(w:World)(K:PySem.W.Frag)(mg:Str→Option Value)(base:Heap)(A:Around)(outer:List Env)(s:Shared)(H:Hp):Prop where
 frames:A.frames=some outer
 mod:Mod K mg base
 bs:∀b o,base.get? b=some o→s.heap.get? b=some o∧H b=none
 bsz:base.objs.size≤s.heap.objs.size
 funs:s.heap.FunFrames base outer
 frf:∀b∈frs outer,H b=none
 hok:HOk P w H s.heap
 bare:AllBare s.gens
def CE(e:List Env)(P:Program)(w:World)(f:Hp)(c:Shared)(g:VK)(h:Value)(a:Shared):Prop:=∃d b,a.os=c.os∧AllBare a.gens∧Un (frs e) [] f b c.heap a.heap∧HOk P w b a.heap∧RelV d h∧g d b
def CR(e:CXT)(a:List Env)(P:Program)(w:World)(b:Hp)(c:Shared)(f:VK)(g:XK)(h:Result)(d:Shared):Prop:=match h with|.ok (.ret i)=>CE a P w b c f i d|.ok _=>False|.error j=>e a b c g j d
structure jR(P:Program)(w:World)(K:PySem.W.Frag)(mg:Str→Option Value)(base:Heap)(CX:CXT)(k:Nat)(f:Addr)(fd:FuncData)(ps:List Str)(sp:Sp):Prop where
 len:∀vs H Q E,sp vs H Q E→vs.length=ps.length
 run:∀(A:Around)(outer:List Env)(s:Shared)(H:Hp)(args:Args)(us:List Value)(vs:List V)(Q:VK)(E:XK),cu k A→wG P w K mg base A outer s H→BindsTo s fd args (ps.zip us)→aZ vs us→sp vs H Q E→codeAny (model P w) A (.call (.ref f) args) (CR CX outer P w H s Q E) s
theorem wG.make{P:Program}{w:World}{K:PySem.W.Frag}{mg:Str→Option Value}{base:Heap}{b:Around}{c:List Env}{d:Shared}(a:wG P w K mg base b c d H)(e:Addr)(f:List Value)(g:List (Str×Value)):wG P w K mg base (b.under (.builtin "type.__call__" ⟨.ref e::f,g⟩)) c d H:=⟨by first|exact a.frames|(simpa[Around.under,Code.envs,Code.isFrame,pushEnvs]using a.frames),a.mod,a.bs,a.bsz,a.funs,a.frf,a.hok,a.bare⟩
section
variable {X : Cx} {pins : List (Addr × Obj)} {σ : St} {H : Hp} {s s' : Shared}
theorem Inv.env0(a:Inv X pins σ H s):wG X.prog X.w X.K X.mg X.base X.A X.stack s H:=⟨a.ok.frames,a.ok.mod,a.bs,LY a.ok.bsz a.sz,a.stack,a.AX,a.hok,a.bare⟩
theorem Inv.after(a:Inv X pins σ H s)(b:CE X.stack X.prog X.w H s Q u s'):EP X pins σ Q u s':=by obtain⟨c,d,os,e,un,f,g,h⟩:=b;obtain⟨i,j,l,t,m⟩:=s';obtain rfl:m=s.os:=os;exact⟨c,d,a.call (h':=i) (g':=j) (d':=l) (t':=t) (ch:=[]) un f e (λo n=>absurd n (by simp)),g,h⟩
end
def zM(a:Sp)(b:List V)(c:XK)(t:TA):TE:=λd e f=>t d e λg h=>a (g++b) h f c
def t7(d:Addr)(e:Str)(f:Sp)(g:List V)(h:XK)(i:TE)(t:TA):TE:=λb j l=>i b j λx c=>∃a m fs,x=.ref a∧c a=some (.ins d m fs)∧fs.lookup e=none∧t b c λn o=>f (x::(n++g)) o l h
def t9(c:Addr)(d:Sp)(e:List V)(f:XK)(t:TA):TE:=λg h i=>t g h λj b=>∀x a,b x=none→b a=none→a≠x→d (.ref x::(j++e)) (upd (upd b a (.own x)) x (.ins c a [])) (λl m=>l=.non∧i (.ref x) m) f
def Binds(K:PySem.W.Frag)(e:FuncData)(b:List Str)(c:List Value):Prop:=∀(d:Shared)(a:List Value),K.In d.heap→(a++c).length=b.length→BindsTo d e ⟨a,[]⟩ (b.zip (a++c))
theorem Binds.all{K:PySem.W.Frag}{b:List Str}(d:∀a:List Value,a.length=b.length→bindArgs fd ⟨a,[]⟩=pure (b.zip a)):Binds K fd b []:=λe a _ c=>by rw[Lj]at c⊢;exact .of_eq (d a c)
def jS(f:CXT)(a:Cx)(g:XK):Prop:=∀(h:List (Addr×Obj))(i:St)(b:Hp)(c:Shared)(d:Value)(e:Shared),Inv a h i b c→f a.stack b c g d e→a.xe d e
section
variable {X : Cx} {CX : CXT} {k : Nat} {f C : Addr} {fd : FuncData} {ps : List Str} {sp : Sp} {dvs : List V} {ds : List Value} {E : XK} {x m : Str} {p pos apos : Pos} {e o : Expr} {es : List Expr} {ta : TE} {t : TA}
theorem yz{a:Shared}(g:jR X.prog X.w X.K X.mg X.base CX k f fd ps sp)(j:cu k X.A)(l:Binds X.K fd ps ds)(n:aZ dvs ds)(q:jS CX X E)(c:Inv X pins σ H a)(d:aZ vs us)(h:sp (vs++dvs) H Q E):wpAny (model X.prog X.w) X.A (call (.ref f) us) (EP X pins σ Q) X.xe a:=by f_assign(
 have i:aZ (vs++dvs) (us++ds):=d.append n;have r:(us++ds).length=ps.length:=by rw[←i.length];exact g.len _ _ _ _ h
 refine wpAny_call (codeAny_mono (g.run X.A X.stack a H ⟨us,[]⟩ (us++ds) (vs++dvs) Q E j c.env0 (l a us c.kIn r) i h) λd s b=>?_);cases d with|error e=>exact q pins σ H a e s c b|ok u=>cases u with|ret v=>exact c.after b|next=>exact False.elim b|brk=>exact False.elim b|cont=>exact False.elim b)
theorem EE(c:jR X.prog X.w X.K X.mg X.base CX k f fd ps sp)(d:cu k X.A)(g:Gl X x)(h:X.mg x=some (.ref f))(i:PySem.W.keepIn X.K (.ref f)=true)(j:Binds X.K fd ps ds)(l:aZ dvs ds)(n:jS CX X E)(q:PA X (e::es) t)(r:(x==("__debug__":Str))=false:=by decide)(s:starEach (e::es) X.env=(false,eval e X.env)::starEach es X.env:=by rfl)(u:(backTo pos (starEach es X.env)).any (·.1)=false:=by rfl):PE X (.Call (.Name x p) (e::es) [] pos) (zM sp dvs E t):=by intro v y z A G a B;refine Kz (qF a g h ?_ r);refine PySem.W.callWith_K (h₀:=X.base) a.ok.mod.kin i (bu (q pos v y z A _ a B) λH I J L b D F=>⟨b.kIn,?_⟩) s u;exact yz c d j l n b D F
theorem EF{pl:Sem Bool}(l:PE X o ta)(n:Cls X.K C)(b:Cw X.K C m f)(q:jR X.prog X.w X.K X.mg X.base CX k f fd ps sp)(r:cu k X.A)(s:Binds X.K fd ps ds)(u:aZ dvs ds)(v:jS CX X E)(y:PA X (e::es) t)(z:starEach (e::es) X.env=(false,eval e X.env)::starEach es X.env:=by rfl)(A:(backTo pos (starEach es X.env)).any (·.1)=false:=by rfl)(B:eval (.Call (.Attribute o m apos) (e::es) [] pos) X.env=(do
 let c←eval o X.env
 standAt apos.atName let(f,first)←holding [c] (getMethod c m pl)callWith pos f first (backTo pos (starEach (e::es) X.env)) (backToKw pos (keywordEach [] X.env))):=by rfl):PE X (.Call (.Attribute o m apos) (e::es) [] pos) (t7 C m sp dvs E ta t):=by f_assign(intro d D g F U h G;refine PySem.W.methodCall_KW (pl:=pl) (bu (l d D g F _ h G) λH I x J i L M=>?_) B;obtain⟨a,Y,fs,N,O,Q,R⟩:=M;subst N;obtain rfl:H=Value.ref a:=L;refine rp i O n b Q ?_;refine PySem.W.callWith_K (first:=[.ref a]) (h₀:=X.base) h.ok.mod.kin b.kp (bu (y pos d I g J _ i R) λus Z vs ac j S T=>⟨j.kIn,?_⟩) z A;exact yz (us:=.ref a::us) (vs:=.ref a::vs) q r s u v j (.cons rfl S) T)
theorem Cz{pl:Sem Bool}(g:PE X o ta)(h:Cls X.K C)(c:Cw X.K C m f)(i:jR X.prog X.w X.K X.mg X.base CX k f fd ps sp)(j:cu k X.A)(l:Binds X.K fd ps ds)(n:aZ dvs ds)(q:jS CX X E)(r:eval (.Call (.Attribute o m apos) [] [] pos) X.env=(do
 let d←eval o X.env
 standAt apos.atName let(f,first)←holding [d] (getMethod d m pl)callWith pos f first (backTo pos (starEach [] X.env)) (backToKw pos (keywordEach [] X.env))):=by rfl):PE X (.Call (.Attribute o m apos) [] [] pos) (t7 C m sp dvs E ta rq):=by intro s u v y L z A;refine PySem.W.methodCall_KW (pl:=pl) (bu (g s u v y _ z A) λB M x N b D F=>?_) r;obtain⟨a,O,fs,G,H,I,J⟩:=F;subst G;obtain rfl:B=Value.ref a:=D;refine rp b H h c I ?_;exact PySem.W.callWith_K0 (first:=[.ref a]) b.kIn c.kp (yz (us:=[.ref a]) (vs:=[.ref a]) i j l n q b (.cons rfl .nil) J)
structure Mk(K:PySem.W.Frag)(C f:Addr):Prop where
 makes:PySem.W.makesIn K C=true
 init:PySem.W.findIn K (.ref C) "__init__"=some (some (.ref f))fn:PySem.W.isFn K (.ref f)=true
 kp:PySem.W.keepIn K (.ref C)=true
theorem wH{a:Shared}{j:VK}(h:Mk X.K C f)(l:jR X.prog X.w X.K X.mg X.base CX k f fd ps sp)(s:cu (k+1) X.A)(u:Binds X.K fd ps ds)(v:aZ dvs ds)(y:jS CX X E)(c:Inv X pins σ H a)(i:aZ vs us)(z:∀x d,H x=none→H d=none→d≠x→sp (.ref x::(vs++dvs)) (upd (upd H d (.own x)) x (.ins C d [])) (λn A=>n=.non∧j (.ref x) A) E):wpAny (model X.prog X.w) X.A (call (.ref C) us) (EP X pins σ j) X.xe a:=by f_assign(
 have q:=z (a.heap.objs.size+1) a.heap.objs.size (c.hok.fresh (Nat.le_succ _)) (c.hok.fresh (L6 _)) (L3 (Le _));have g:=Inv.made (C:=C) c;have r:aZ (V.ref (a.heap.objs.size+1)::(vs++dvs)) (Value.ref (a.heap.objs.size+1)::(us++ds)):=.cons rfl (i.append v);have B:(Value.ref (a.heap.objs.size+1)::us++ds).length=ps.length:=by have e:=r.length;rw[l.len _ _ _ _ q]at e;exact e.symm
 refine wpAny_call (Cv (f:=f) c.kIn h.makes h.init (L_.mp h.fn) (codeAny_mono (l.run _ X.stack _ _ ⟨Value.ref (a.heap.objs.size+1)::us,[]⟩ (Value.ref (a.heap.objs.size+1)::(us++ds)) _ _ E (s.make C us []) (g.env0.make C us []) (u _ (Value.ref (a.heap.objs.size+1)::us) g.kIn B) r q) λi D b=>?_));cases i with|error e=>exact y pins σ _ _ e D g b|ok F=>cases F with|ret M=>obtain⟨n,G,I,rv,J,L⟩:=g.after b;subst J;exact⟨rv,⟨V.ref (a.heap.objs.size+1),G,I,rfl,L⟩⟩|next=>exact False.elim b|brk=>exact False.elim b|cont=>exact False.elim b)
theorem EG(b:Mk X.K C f)(d:jR X.prog X.w X.K X.mg X.base CX k f fd ps sp)(g:cu (k+1) X.A)(h:Gl X x)(i:X.mg x=some (.ref C))(j:Binds X.K fd ps ds)(l:aZ dvs ds)(n:jS CX X E)(q:PA X (e::es) t)(r:(x==("__debug__":Str))=false:=by decide)(s:starEach (e::es) X.env=(false,eval e X.env)::starEach es X.env:=by rfl)(u:(backTo pos (starEach es X.env)).any (·.1)=false:=by rfl):PE X (.Call (.Name x p) (e::es) [] pos) (t9 C sp dvs E t):=by intro v y z A G a B;refine Kz (qF a h i ?_ r);refine PySem.W.callWith_K (h₀:=X.base) a.ok.mod.kin b.kp (bu (q pos v y z A _ a B) λH I J L c D F=>⟨c.kIn,?_⟩) s u;exact wH b d g j l n c D F
theorem CB(b:Mk X.K C f)(c:jR X.prog X.w X.K X.mg X.base CX k f fd ps sp)(d:cu (k+1) X.A)(g:Gl X x)(h:X.mg x=some (.ref C))(i:Binds X.K fd ps ds)(j:aZ dvs ds)(l:jS CX X E)(n:(x==("__debug__":Str))=false:=by decide):PE X (.Call (.Name x p) [] [] pos) (t9 C sp dvs E rq):=by intro r s u v y a q;refine Kz (qF a g h ?_ n);exact PySem.W.callWith_K0 a.kIn b.kp (wH (us:=[]) b c d i j l a .nil q)
end
structure cB(N P:List Str)(sc:Scope):Prop where
 kind:sc.kind=.function
 co:sc.isCoroutine=false
 gen:sc.isGenerator=false
 nd:N.Nodup
 pre:N.take P.length=P
 par:∀x∈P,sc.names.lookup x=some .local∨sc.names.lookup x=some .cell
 nofree:∀y∈sc.names,y.2≠.free
theorem t_{kindOf:Str→Option NameKind}{x:Str}:∀{binds:List (Str×Value)}{a:Str→Option Value},(∀b,(x,b)∉binds)→bindL kindOf binds a x=a x
 |[],_,_=>rfl|(d,b)::f,a,c=>by
  unfold bindL;rw[t_ λw e=>c w (J0 _ e)];split
  ·have:x≠d:=by rintro rfl;exact c b Ks
   simp[this]
  ·rfl
theorem uc{kindOf:Str→Option NameKind}{x:Str}:∀{binds:List (Str×Value)}{a:Str→Option Value},(∀b,(x,b)∉binds)→bindC kindOf binds a x=a x
 |[],_,_=>rfl|(d,b)::f,a,c=>by
  unfold bindC;rw[uc λw e=>c w (J0 _ e)];split;·rfl
  ·have:x≠d:=by rintro rfl;exact c b Ks
   simp[this]
theorem ud{kindOf:Str→Option NameKind}:∀{P:List Str}{a:List Value}{i:Nat}{b:Str→Option Value},P.Nodup→P[i]?=some x→a[i]?=some h→kindOf x=some .local→bindL kindOf (P.zip a) b x=some h|[],_,_,_,_,f,_,_=>by simp at f|_::_,[],_,_,_,_,f,_=>by simp at f|c::P,w::a,0,b,nd,d,e,g=>by simp at d e;subst d;subst e;show bindL kindOf ((c,w)::P.zip a) b c=_;unfold bindL;rw[t_ λh j=>(Ls.mp nd).1 (List.of_mem_zip j).1,Mj g];simp|c::P,w::a,i+1,b,nd,d,e,g=>by show bindL kindOf ((c,w)::P.zip a) b x=_;unfold bindL;exact ud (i:=i) (Ls.mp nd).2 (by simpa using d) (by simpa using e) g
theorem ue{kindOf:Str→Option NameKind}:∀{P:List Str}{a:List Value}{i:Nat}{b:Str→Option Value},P.Nodup→P[i]?=some x→a[i]?=some h→kindOf x≠some .local→bindC kindOf (P.zip a) b x=some h|[],_,_,_,_,f,_,_=>by simp at f|_::_,[],_,_,_,_,f,_=>by simp at f|c::P,w::a,0,b,nd,d,e,g=>by simp at d e;subst d;subst e;show bindC kindOf ((c,w)::P.zip a) b c=_;unfold bindC;rw[uc λh j=>(Ls.mp nd).1 (List.of_mem_zip j).1,Mi g];simp|c::P,w::a,i+1,b,nd,d,e,g=>by show bindC kindOf ((c,w)::P.zip a) b x=_;unfold bindC;exact ue (i:=i) (Ls.mp nd).2 (by simpa using d) (by simpa using e) g
def start(b:List Str)(a:List V):St:=a.map some++List.replicate (b.length-a.length) none
def rB(i:CXT)(P:Program)(w:World)(K:PySem.W.Frag)(mg:Str→Option Value)(base:Heap)(n:List Str)(b:Str)(c:Scope)(d:Addr)(e:Value)(j:Around)(f:List Env)(a:Shared)(g:Hp)(l:XK):Cx where prog:=P;w:=w;K:=K;mg:=mg;base:=base;A:=j.deeper (envOfC b c a.heap.objs.size d e);N:=n;s_0:=a;H_0:=g;env:=envOfC b c a.heap.objs.size d e;outer:=f;stack:=envOfC b c a.heap.objs.size d e::f;ex:=[];calm:=true;fn:=λ_=>true;pn:=[];xe:=λm o=>wpAny (model P w) (j.deeper (envOfC b c a.heap.objs.size d e)) (leaving (envOfC b c a.heap.objs.size d e) m) (λ_ h=>i f g a l m h) (λp h=>i f g a l p h) o
theorem wI{a:Scope}{n:Nat}(b:a.names.lookup x=some .cell):∃c,(cellsFrom n a.names []).lookup x=some c:=by have d:=PySem.W.cellsFrom_some a.names n [] (.inl b);exact Option.isSome_iff_exists.mp d
theorem Bm{P:Program}{w:World}{K:PySem.W.Frag}{mg:Str→Option Value}{base:Heap}{m h:List Str}{d:Scope}{u:Addr}{v:Around}{B:List Env}{e:Shared}{i:List V}(j:cB m h d)(J:v.handled=none)(c:wG P w K mg base v B e H)(R:i.length=h.length)(L:aZ i us)(x:InCallC e e.heap.objs.size (bindL (envOfC qual d e.heap.objs.size u cd).kindOf (h.zip us) λ_=>none) (cellsFrom (e.heap.objs.size+1) d.names []) (bindC (envOfC qual d e.heap.objs.size u cd).kindOf (h.zip us) λ_=>none) s1):Inv (rB CX P w K mg base m qual d u cd v B e H E) [] (start m i) H s1:=by f_assign(
 have S:h.length≤m.length:=by have:=Me List.length j.pre;rw[K_]at this;lia
 obtain⟨z,T,rfl,D⟩:=x.done;have C:∀f:Addr,f∉(rB CX P w K mg base m qual d u cd v B e H E).ex:=λf o=>absurd (show f∈([]:List Addr)from o) (by simp);refine⟨⟨c.mod,j.kind,rfl,rfl,L6 _,λy o g z b=>?_,λy l=>?_,λy g _ p=>?_,λ_=>J,Around.frames_deeper c.frames,.inr ⟨rfl,rfl⟩,λf o=>absurd o (C f),c.bs,c.bsz,λf _ _=>C f,λf o=>absurd o (C f),c.funs,c.frf⟩,rfl,c.bare,Un.kept D,⟨_,x.toInCall.ns,λq y M z b U=>?_⟩,λy g p=>⟨_,x.cell y g p⟩,c.hok.fresh (L6 _),λy g p=>?_,λN r=>absurd (show N∈([]:List (Addr×Obj))from r) (by simp),c.hok.kept D,?_⟩;·exact name_of_addr x.apart (Ki z) (Ki b)
 ·have l:d.names.lookup y=some .cell∨d.names.lookup y=some .free:=l;rcases l with l|l;·exact wI l
  ·exact absurd rfl (j.nofree _ (Ki l))
 ·exact Nat.le_of_lt (x.above y g (Ki p))
 · have A:q<i.length:=by
     unfold start at b;by_cases A:q<i.length;·exact A
     ·rw[List.getElem?_append_right (by simpa using A)]at b;rw[List.getElem?_replicate]at b;split at b<;>cases b
   have O:i[q]?=some M:=by unfold start at b;rw[List.getElem?_append_left (by simpa using A),KL]at b;cases s:i[q]? with|none=>rw[s]at b;cases b|some a=>rw[s]at b;cases b;rfl
   obtain⟨Q,F,rv⟩:=L.get O;have r:h[q]?=some y:=by rw[←j.pre,List.getElem?_take_of_lt (by lia)];exact z
   have G:h.Nodup:=by rw[←j.pre];exact j.nd.sublist (List.take_sublist _ _)
   refine⟨Q,rv,?_⟩;rcases j.par y (J_ r)with k|k;·exact .inl ⟨k,ud G r F k⟩
   ·obtain⟨g,s⟩:=wI (n:=e.heap.objs.size+1) k;refine .inr ⟨.inl k,g,s,?_⟩;have I:=x.cell y g s;rw[ue G r F (by show d.names.lookup y≠_;rw[k];decide)]at I;exact I
 ·exact c.hok.fresh (Nat.le_of_lt (x.above y g (Ki p)))
 ·unfold start;show _=m.length;rw[Kr,Ln,List.length_replicate];lia)
theorem FN{P:Program}{w:World}{K:PySem.W.Frag}{mg:Str→Option Value}{base:Heap}{k:Nat}{j:Addr}{kV E J:Value}{F L:Option Addr}{M:Array (Option Value)}{i q:List Str}{z:Sp}(lk:K.lookup j=some ⟨J,L,.func (PySem.W.fnOf name qual params body scope dV kV doc pm F cdv E),M⟩)(N:PySem.W.codeIn K cdv qual=true)(o:cB i q scope)(len:∀d b e f,z d b e f→d.length=q.length)(O:∀(l:Around)(m:List Env)(c:Shared)(b:Hp)(d:List V)(e:VK)(f:XK),cu k (l.deeper (envOfC qual scope c.heap.objs.size j cdv))→z d b e f→∃t,PSs (rB CX P w K mg base i qual scope j cdv l m c b f) body t∧t {nx:=λ_ g=>e .non g,rt:=e} (start i d) b):jR P w K mg base CX (k+1) j (PySem.W.fnOf name qual params body scope dV kV doc pm F cdv E) q z:=by f_assign(
 refine⟨len,λl m c b an Q d e f A p hb R G=>?_⟩;have S:=len _ _ _ _ G;have KX:K.In c.heap:=p.mod.kin.keeps λB C r=>(p.bs B C r).1;have T:c.heap.NoLimit:=p.mod.nolimit.keeps λB C r=>(p.bs B C r).1;have U:∀y∈q.zip Q,scope.names.lookup y.1=some .local∨(scope.names.lookup y.1=some .cell∧((cellsFrom (c.heap.objs.size+1) scope.names []).lookup y.1).isSome=true):=λ⟨X,v⟩Y=>by
  rcases o.par X (List.of_mem_zip Y).1 with a|a;·exact .inl a
  ·exact .inr ⟨a,PySem.W.cellsFrom_some _ _ _ (.inl a)⟩
 refine codeAny_call_function A.depth (KX _ _ lk) rfl o.co o.gen rfl (PySem.W.codeRec_of KX N) (hb _ _ _ _ ?_);refine wpAny_newFunctionEnv_cells o.kind U λap Z H x=>?_;subst Z;refine⟨T.keeps x.toInCall.keep,codeAny_func ?_⟩;obtain⟨t,ac,ah⟩:=O l m c b d e f (A.deeper _) G;have al:Inv (rB CX P w K mg base i qual scope j cdv l m c b f) [] (start i d) b H:=Bm o A.hd p S R x;refine Mb (ac [] H (start i d) b _ al ah) (λam D n=>?_) λr D n=>n;have I:∀{s:St}{g:Hp}{v:V}{u:Value},Inv (rB CX P w K mg base i qual scope j cdv l m c b f) [] s g D→RelV v u→e v g→CE m P w b c e u D:=λ{s g v u}h rv a=>⟨v,g,h.os,h.bare,h.base,h.hok,rv,a⟩;cases am with|ret u=>obtain⟨v,s,g,h,rv,a⟩:=n;exact I h rv a|next=>obtain⟨s,g,h,a⟩:=n;exact I (v:=V.non) (u:=Value.none) h rfl a|brk=>obtain⟨_,_,_,a⟩:=n;exact False.elim a|cont=>obtain⟨_,_,_,a⟩:=n;exact False.elim a)
section
variable {X : Cx} {x : Str} {p pos : Pos} {e : Expr} {es : List Expr} {t : TA} {id T : String} {r : List V → Hp → VK → Prop}
def tCB(r:List V→Hp→VK→Prop)(t:TA):TE:=λa b c=>t a b λd f=>r d f c
theorem aF(d:cx X (.builtin id) r)(f:Gl X x)(g:X.mg x=none)(h:bootBuiltins x=some (.builtin id))(i:PA X (e::es) t)(j:x≠"__name__":=by decide)(l:(x==("__debug__":Str))=false:=by decide)(m:starEach (e::es) X.env=(false,eval e X.env)::starEach es X.env:=by rfl)(n:(backTo pos (starEach es X.env)).any (·.1)=false:=by rfl):PE X (.Call (.Name x p) (e::es) [] pos) (tCB r t):=by intro a o b q s c u;refine Kz (iy c f g h ?_ j l);exact PyProof.Rows.callWith_builtin1 (bu (i pos a o b q _ c u) λv y z A B C D=>d a y b A z v s B C D) m n
theorem uf(d:cx X (.type T) r)(f:Gl X x)(g:X.mg x=none)(h:bootBuiltins x=some (.type T))(i:PA X (e::es) t)(j:x≠"__name__":=by decide)(l:(x==("__debug__":Str))=false:=by decide)(m:starEach (e::es) X.env=(false,eval e X.env)::starEach es X.env:=by rfl)(n:(backTo pos (starEach es X.env)).any (·.1)=false:=by rfl):PE X (.Call (.Name x p) (e::es) [] pos) (tCB r t):=by intro a o b q s c u;refine Kz (iy c f g h ?_ j l);exact Jq (bu (i pos a o b q _ c u) λv y z A B C D=>d a y b A z v s B C D) m n
end
end L2
namespace HT
open PySem PyProof.Rows
section
variable {prog : Program} {w : World} {A : Around} {E : Value → Shared → Prop} {s : Shared}
theorem EH{t:Addr}{c a:List Value}{g:Value→Shared→Prop}(v:IsTup s.heap t c.toArray)(x:IsTup s.heap b a.toArray)(h:c≠[])(y:a=[]→g (.ref t) s)(z:a≠[]→g (.ref s.heap.objs.size) {s with heap:=s.heap.push {cls:=.type "tuple",data:=.seq (c++a).toArray}})(B:c.length+a.length≤sizeLine):wpAny (model prog w) A (binaryOp .Add (.ref t) (.ref b)) g E s:=by f_assign(
 obtain⟨⟨D,i,F,j⟩,d,l,m,n⟩:=id v;obtain⟨⟨G,o,data2,p⟩,e,q,r,u⟩:=id x;simp only at l n q u;subst l n q u;have C:c.toArray++a.toArray=(c++a).toArray:=by simp
 by_cases f:a=[];·exact concat_meets ⟨_,d,rfl⟩ ⟨_,e,rfl⟩ noFill_tuple_add seq_tuple_add PySem.F.slot_tuple_add PySem.F.entry_tuple_add (PySem.F.args_tuple_add_2 _ _) (tuple_addW1 t b c.toArray a.toArray m r i o j p (by simpa using h) (by simp[f])) ⟨d,e,y f⟩
 ·refine concat_meets ⟨_,d,rfl⟩ ⟨_,e,rfl⟩ noFill_tuple_add seq_tuple_add PySem.F.slot_tuple_add PySem.F.entry_tuple_add (PySem.F.args_tuple_add_2 _ _) (tuple_addW2 t b c.toArray a.toArray m r i o j p (by simpa using h) (by simpa using f) (by rw[KP,KP];exact B)) ⟨d,e,?_⟩;rw[C];exact z f)
def sIx(b c:Nat):Option Int→Nat|none=>c|some a=>if a<0 then(a+(b:Int)).toNat else min a.toNat b
theorem u5(a b k:Nat):sIx a b (some (k:Int))=min k a:=by show(if(k:Int)<0 then((k:Int)+(a:Int)).toNat else min (k:Int).toNat a)=min k a;rw[Mi (by lia),KG]
theorem GB(a c:Nat)(f:c≤a)(d:Option Int):sIx a c d≤a:=by cases d with|none=>exact f|some b=>
 show(if b<0 then(b+(a:Int)).toNat else min b.toNat a)≤a;by_cases e:b<0;·rw[Mj e];lia
 ·rw[Mi e];exact Nat.min_le_right _ _
theorem zP(a:Int)(b d:Nat):(if a<0 then max (a+(b:Int)) 0 else min a (b:Int))=((sIx b d (some a):Nat):Int):=by
 show(if a<0 then max (a+(b:Int)) 0 else min a (b:Int))=(((if a<0 then(a+(b:Int)).toNat else min a.toNat b):Nat):Int);by_cases c:a<0;·simp only[if_pos c];lia
 ·simp only[if_neg c];lia
theorem yA(lo b:Option Int)(a:Nat):Builtin.Slice.sliceAdjust lo b 1 (a:Int)=(((sIx a 0 lo:Nat):Int),((sIx a a b:Nat):Int)):=by
 have d:¬((1:Int)<0):=by lia
 unfold Builtin.Slice.sliceAdjust;simp only[d,if_false];refine Prod.ext ?_ ?_;·cases lo with|none=>rfl|some c=>exact zP c a 0
 ·cases b with|none=>rfl|some c=>exact zP c a a
theorem yC(a b:Nat):Builtin.Slice.slicePlaces (a:Int) (b:Int) 1=b-a:=by
 unfold Builtin.Slice.slicePlaces;have c:(1:Int)>0:=by lia
 simp only[c,if_true,Int.ediv_one];split<;>lia
theorem rC{a:Option Int}{b:Option Int→Shared→Prop}(d:IsPart v a)(c:b a s):wpAny (model prog w) A (Builtin.Slice.slicePartIndex v) b E s:=by cases d with|none=>exact slicePart_none c|int e t=>exact slicePart_int c
theorem ox{lo b:Option Int}{a:Nat}{e:Int×Int×Nat→Shared→Prop}(f:s.heap.IsSliceOf sl vl vu .none)(g:IsPart vl lo)(h:IsPart vu b)(i:e (((sIx a 0 lo:Nat):Int),1,sIx a a b-sIx a 0 lo) s):wpAny (model prog w) A (Builtin.Slice.sliceApplied (.ref sl) (pure (a:Int))) e E s:=by f_assign(obtain⟨os,c,j,d⟩:=id f;unfold Builtin.Slice.sliceApplied Builtin.Slice.sliceFields;refine Ma (Ma (L8 c d (x:=vl) rfl (Ma (L8 c d (x:=vu) rfl (Ma (L8 c d (x:=.none) rfl (Md ?_)))))));refine Ma (slicePart_none ?_);show wpAny _ _ (if((1:Int)==0)=true then _ else _) _ _ s;rw[Mi (by decide)];refine Ma (rC g (Ma (rC h (Ma (Md ?_)))));show wpAny _ _ (match Builtin.Slice.sliceAdjust lo b 1 (a:Int)with|(lo,b)=>pure (lo,(1:Int),Builtin.Slice.slicePlaces lo b 1)) _ _ s;rw[yA lo b a];show wpAny _ _ (pure (((sIx a 0 lo:Nat):Int),(1:Int),Builtin.Slice.slicePlaces ((sIx a 0 lo:Nat):Int) ((sIx a a b:Nat):Int) 1)) _ _ s;rw[yC];exact Md i)
theorem CC(c:Array Value)(b k:Nat):((List.range k).filterMap λ(a:Nat)=>c[((b:Int)+(a:Int)*1).toNat]?).toArray=((c.toList.drop b).take k).toArray:=by
 have d:(λ(a:Nat)=>c[((b:Int)+(a:Int)*1).toNat]?)=λa=>c[b+a]?:=by
  funext a;have:((b:Int)+(a:Int)*1).toNat=b+a:=by lia
  rw[this]
 rw[d];have:=pick_run c b k;rw[List.filterMap_map]at this;have e:((λx=>c[x]?)∘λx=>b+x)=λa=>c[b+a]?:=rfl;rw[e]at this;rw[this]
theorem mR{t:Addr}{a:Array Value}{lo b:Option Int}{g:Value→Shared→Prop}(c:IsTup s.heap t a)(h:s.heap.IsSliceOf sl vl vu .none)(i:IsPart vl lo)(j:IsPart vu b)(l:¬(sIx a.size 0 lo=0∧sIx a.size a.size b=a.size))(d:g (.ref s.heap.objs.size) {s with heap:=s.heap.push {cls:=.type "tuple",data:=.seq ((a.toList.drop (sIx a.size 0 lo)).take (sIx a.size a.size b-sIx a.size 0 lo)).toArray}})(r:a.size≤sizeLine):wpAny (model prog w) A (getItem (.ref t) (.ref sl)) g E s:=by f_assign(
 have e:sizeOk (.seq ((a.toList.drop (sIx a.size 0 lo)).take (sIx a.size a.size b-sIx a.size 0 lo)).toArray):=by show((a.toList.drop (sIx a.size 0 lo)).take (sIx a.size a.size b-sIx a.size 0 lo)).toArray.size≤sizeLine;rw[KP,K_,List.length_drop,Ka];omega
 have u:sIx a.size a.size b≤a.size:=GB _ _ (L6 _) b;obtain⟨os,n,o,v⟩:=id h;have p:s.TypeIs (.ref sl) "slice":=⟨os,n,o⟩;unfold getItem;try with_reducible refine LS ?_
 first|refine Ma (Md ?_)|skip
 refine Ma (wpAny_sequenceKey c.typeIs (by decide) ?_);refine Ma (JJ (name:=Str.ofString "__getitem__") c.typeIs Ji (Lg Ji c.typeIs entry_tuple_getitem ?_ (args_tuple_getitem _ _)));show wpAny _ _ (Builtin.Tuple.tupleItemsOf (.ref t)>>=_) _ _ s;refine Ma (tupleItemsOf_ c ?_);refine Ma (wpAny_typeOf p ?_);rw[Mj (by decide)];refine Ma (ox h i j ?_);have q:¬((((sIx a.size 0 lo:Nat):Int)==0&&(1:Int)==1&&(sIx a.size a.size b-sIx a.size 0 lo)==a.size)=true):=by intro f;rw[K3,K3]at f;have x:((sIx a.size 0 lo:Nat):Int)=0:=eq_of_beq f.1.1;have y:sIx a.size a.size b-sIx a.size 0 lo=a.size:=eq_of_beq f.2;exact l ⟨by omega,by omega⟩
 show wpAny _ _ (if(((sIx a.size 0 lo:Nat):Int)==0&&(1:Int)==1&&(sIx a.size a.size b-sIx a.size 0 lo)==a.size)=true then _ else _) _ _ s;rw[Mi q,CC];first|exact Ma (m:=Builtin.Tuple.tupleExact _) (KZ (Md ⟨_,rfl,Md d⟩) e)|exact Ma (m:=Builtin.Tuple.tupleExact _) (KZ (Ma (Md (Md ⟨_,rfl,Md d⟩))) e)|exact Ma (Ma (m:=Builtin.Tuple.tupleExact _) (KZ (Md (Md ⟨_,rfl,Md d⟩)) e))|exact Ma (Ma (m:=Builtin.Tuple.tupleExact _) (KZ (Md ⟨_,rfl,Md d⟩) e)))
end
end HT
namespace L2
open PySem PySem.Spec PyProof.Rows
abbrev TO:=St→Hp→(Option Int→Hp→Prop)→Prop
def PO(a:Cx)(i:Option Expr)(t:TO):Prop:=∀(c:List (Addr×Obj))(d:Shared)(b:St)(e:Hp)(f:Option Int→Hp→Prop),Inv a c b e d→t b e f→wpAny (model a.prog a.w) a.A (evalPart i a.env) (λj l=>∃g h,Inv a c b h l∧IsPart j g∧f g h) a.xe d
def zQ:TO:=λ_ a b=>b none a
def FO(t:TE):TO:=λb c d=>t b c λx e=>∃a,x=.int a∧d (some a) e
section
variable {X : Cx} {e : Expr} {te : TE} {lo hi : Option Expr} {tl th : TO} {pos p2 : Pos}
theorem u6:PO X none zQ:=by intro d f g a h b c;rw[evalPart_none];exact Md ⟨none,a,b,.none,c⟩
theorem mS(b:PE X e te):PO X (some e) (FO te):=by intro c d f g p h i;rw[evalPart_some];refine bu (b c d f g _ h i) λq r x j l m n=>?_;obtain⟨a,rfl,o⟩:=n;obtain⟨t,rfl⟩:=m;exact⟨some a,j,l,.int a t,o⟩
def SlR(X:Cx)(m:V→Option Int→Option Int→Hp→VK→Prop):Prop:=∀(c:List (Addr×Obj))(a:Shared)(d:St)(f:Hp)(x:V)(b g h:Value)(lo hi:Option Int)(i:Addr)(j:VK),Inv X c d f a→RelV x b→a.heap.IsSliceOf i g h .none→IsPart g lo→IsPart h hi→m x lo hi f j→∃l id,typeLookup (.type l) "__getitem__"=pure (some (.builtin id))∧a.TypeIs b l∧wpAny (model X.prog X.w) X.A (getItem b (.ref i)) (EP X c d j) X.xe a
def tSl(b:V→Option Int→Option Int→Hp→VK→Prop)(te:TE)(tl th:TO):TE:=λa c d=>te a c λx f=>tl a f λg h=>th a h λi j=>b x g i j d
theorem mT{h:V→Option Int→Option Int→Hp→VK→Prop}(l:SlR X h)(m:PE X e te)(n:PO X lo tl)(o:PO X hi th):PE X (.Subscript e (.Slice lo hi none p2) pos) (tSl h te tl th):=by f_assign(intro b p c q i r s;refine Subscript_ (bu (m b p c q _ r s) λg u x v y z A=>?_);refine wpAny_Slice (bu (n b u c v _ y A) λd B C D E F G=>bu (o b B c D _ E G) λf a H j I J L=>?_);rw[evalPart_none];refine Md ?_;have M:Inv X b c j {a with heap:=a.heap.push {cls:=.type "slice",data:=.fields #[d,f,.none]}}:=I.kept (t':=a.toks) λS T N=>JK _ N;obtain⟨U,id,O,Q,R⟩:=l b {a with heap:=a.heap.push {cls:=.type "slice",data:=.fields #[d,f,.none]}} c j x g d f C H a.heap.objs.size i M z (Heap.IsSliceOf.new ..) F J L;show wpAny (model X.prog X.w) X.A (subscriptTail e (.Slice lo hi none p2) g (.ref a.heap.objs.size)) (EP X b c i) X.xe {a with heap:=a.heap.push {cls:=.type "slice",data:=.fields #[d,f,.none]}};exact tail_any (ops:=[.ref a.heap.objs.size,g]) Q O R (by with_unfolding_all rfl))
def rD(a:List V)(lo hi:Option Int):List V:=(a.drop (HT.sIx a.length 0 lo)).take (HT.sIx a.length a.length hi-HT.sIx a.length 0 lo)
theorem pH(a:List V)(lo hi:Option Int):(rD a lo hi).length≤a.length:=by unfold rD;rw[K_,List.length_drop];lia
def HM(K:PySem.W.Frag):V→Option Int→Option Int→Hp→VK→Prop:=λx lo hi c f=>∃a b,x=.ref a∧SqT K c a b∧¬(HT.sIx b.length 0 lo=0∧HT.sIx b.length b.length hi=b.length)∧∀d,c d=none→f (.ref d) (upd c d (.tup (rD b lo hi)))
theorem GD:SlR X (HM X.K):=by f_assign(
 intro p f q r x v vl vu lo hi sl Q I rx hs pl pu h;obtain⟨a,b,rfl,l,m,c⟩:=h;cases rx;obtain⟨n,g,i,j⟩:=I.tuple l;have d:n.toArray.size=b.length:=by rw[KP];exact g.length.symm
 refine⟨"tuple",_,Ji.lookup,i.typeIs,?_⟩;refine HT.mR i hs pl pu (by rw[d];exact m) ?_ (by rw[d];exact j);rw[d];refine⟨.ref f.heap.objs.size,_,I.laid (t':=f.toks) (o:=.tup (rD b lo hi)) (λs u c=>JK _ c) (L6 _) ?_,rfl,c _ (I.hok.fresh (L6 _))⟩;exact⟨LY (pH b lo hi) j,_,(g.drop (HT.sIx b.length 0 lo)).take (HT.sIx b.length b.length hi-HT.sIx b.length 0 lo),IsTup.new _ _⟩)
def FP(K:PySem.W.Frag):R2:=λx y b g=>∃a h d c,x=.ref a∧y=.ref h∧SqT K b a d∧SqT K b h c∧d≠[]∧d.length+c.length≤sizeLine∧(c=[]→g (.ref a) b)∧(c≠[]→∀f,b f=none→g (.ref f) (upd b f (.tup (d++c))))
theorem aZ.vZ(a:aZ xs us):us=[]↔xs=[]:=by cases a with|nil=>simp|cons _ _=>simp
theorem EI:OpR X (binaryOp .Add) (FP X.K):=by f_assign(intro B f C i x y v u Q I rx ry h;obtain⟨a,j,l,m,rfl,rfl,n,p,q,g,r,s⟩:=h;cases rx;cases ry;obtain⟨D,d,z,_⟩:=I.tuple n;obtain⟨E,c,p2,_⟩:=I.tuple p;refine HT.EH z p2 (λb=>q (d.vZ.mp b)) (λb=>⟨.ref a,i,I,rfl,r (c.vZ.mp b)⟩) (λb=>?_) (by rw[←d.length,←c.length];exact g);refine⟨.ref f.heap.objs.size,_,I.laid (t':=f.toks) (o:=.tup (l++m)) (λj F A=>JK _ A) (L6 _) ?_,rfl,s (λw=>b (c.vZ.mpr w)) _ (I.hok.fresh (L6 _))⟩;exact⟨by rw[Kr];exact g,_,d.append c,IsTup.new _ _⟩)
end
def ixN(b:Nat)(a:Int):Option Nat:=if 0≤a then(if a<b then some a.toNat else none)else if-(b:Int)≤a then some (a+b).toNat else none
def atI{a:Type}(b:List a)(c:Int):Option a:=(ixN b.length c).bind λd=>b[d]?
theorem zR{d:Nat}{b:Int}{e:Nat}(a:ixN d b=some e):seqIndex? b d=some e∧e<d∧-(d:Int)≤b∧b<d:=by f_assign(
 unfold ixN at a;by_cases f:0≤b
 ·rw[Mj f]at a;by_cases c:b<d;·rw[Mj c]at a;have g:b.toNat=e:=Lv a;exact⟨by rw[seqIndex_of f c,g],by lia,by lia,c⟩
  ·rw[Mi c]at a;cases a
 ·rw[Mi f]at a;by_cases c:-(d:Int)≤b;·rw[Mj c]at a;have g:(b+d).toNat=e:=Lv a;exact⟨by rw[seqIndex_neg (by lia) c,g],by lia,c,by lia⟩
  ·rw[Mi c]at a;cases a)
theorem zS{f:Type}{a:List f}{b:Int}{g:f}(c:atI a b=some g):∃d,seqIndex? b a.length=some d∧a[d]?=some g∧d<a.length∧-(a.length:Int)≤b∧b<a.length:=by unfold atI at c;cases e:ixN a.length b with|none=>rw[e]at c;cases c|some d=>rw[e]at c;obtain⟨h,i,j,l⟩:=zR e;exact⟨d,h,c,i,j,l⟩
theorem kX{b:Type}{a:List b}{j:Nat}{c:b}(d:a[j]?=some c):atI a (j:Int)=some c:=by
 have f:j<a.length:=(Jx.mp d).1;have e:ixN a.length (j:Int)=some j:=by unfold ixN;rw[Mj (by lia),Mj (by lia)];simp
 unfold atI;rw[e];exact d
def EJ(c:Expr):Prop:=∀a b,subscripted c false a b=operate [a,b] (getItem a b)
def IxR(a:Cx)(j:R2):Prop:=∀(l d:Expr)(e:List (Addr×Obj))(f:Shared)(g:St)(h:Hp)(x y:V)(b c:Value)(i:VK),Inv a e g h f→RelV x b→RelV y c→j x y h i→subscripted d false b c=operate [b,c] (getItem b c)→wpAny (model a.prog a.w) a.A (subscriptTail l d b c) (EP a e g i) a.xe f
def MtR(a:Cx)(id:String)(j:V→List V→Hp→VK→Prop):Prop:=∀(b:List (Addr×Obj))(c:Shared)(d:St)(e:Hp)(x:V)(f:List V)(g:Value)(h:List Value)(i:VK),Inv a b d e c→RelV x g→aZ f h→j x f e i→wpAny (model a.prog a.w) a.A (call (.builtin id) (g::h)) (EP a b d i) a.xe c
section
variable {X : Cx} {a b : Expr} {ta tb : TE} {pos : Pos}
theorem b0(c:IxR X r)(d:PE X a ta)(e:PE X b tb)(f:EJ b):PE X (.Subscript a b pos) (tOp r ta tb):=by intro g z h A i j l;exact Subscript_ (Gx d e j l λm n o x y p q s u v=>c a b g o h p x y m n i q s u v (f _ _))
def IY(K:PySem.W.Frag):R2:=λx y c h=>∃d e f g,x=.ref d∧y=.int f∧SqL K c d e∧atI e f=some g∧h g c
def EK(K:PySem.W.Frag):R2:=λx y c h=>∃d e f g,x=.ref d∧y=.int f∧SqT K c d e∧atI e f=some g∧h g c
theorem EL:IxR X (IY X.K):=by f_assign(
 intro J L i p j q x y v u Q I rx ry h hs;obtain⟨M,N,e,r,rfl,rfl,s,z,A⟩:=h;cases rx;obtain⟨t,rfl⟩:=ry;obtain⟨B,c,f,O⟩:=I.list s;obtain⟨l,d,C,R,D,E⟩:=zS z;obtain⟨w,m,F⟩:=c.get C;have G:=c.length;have S:=rn;have n:EP X i j Q w p:=⟨r,q,I,F,A⟩;by_cases o:0≤e
 ·have g:e.toNat=l:=by rw[seqIndex_of o E]at d;exact Lv d
  exact item_listR f.isList o (by lia) (by rw[g];simpa using m) n hs
 ·have g:(e+(B.toArray.size:Int)).toNat=l:=by rw[seqIndex_neg (by lia) D]at d;rw[KP,←G];exact Lv d
  exact subscriptTail_builtinR (x:=w) f.isList.typeIs slot_list_getitem.lookup (wpAny_getItem_list_neg (Q:=λc H=>c=w∧EP X i j Q c H) f.isList (by lia) (by rw[KP]<;>lia) (by lia) (by rw[g];simpa using m) ⟨rfl,n⟩) hs)
theorem oy:IxR X (EK X.K):=by f_assign(intro C D d g e i x y v u Q I rx ry h hs;obtain⟨E,F,G,l,rfl,rfl,m,n,o⟩:=h;cases rx;obtain⟨t,rfl⟩:=ry;obtain⟨H,c,f,J⟩:=I.tuple m;obtain⟨j,p,q,L,M,N⟩:=zS n;obtain⟨w,r,s⟩:=c.get q;have z:=c.length;have O:=rn;have A:EP X d e Q w g:=⟨l,i,I,s,o⟩;exact subscriptTail_builtinR (x:=w) f.typeIs slot_tuple_getitem.lookup (getItem_tuple (j:=j) (Q:=λc B=>c=w∧EP X d e Q c B) f (by lia) (by lia) (by rw[KP,←z];exact p) (by simpa using r) ⟨rfl,A⟩) hs)
theorem yD(c:List Value)(d e:Nat)(f:Value):Obj.mapSeq (·.setIfInBounds e f) {cls:=.type "list",data:=.seq c.toArray d}={cls:=.type "list",data:=.seq (c.set e f).toArray d}:=by simp[Obj.mapSeq]
theorem Inv.lst{g:Shared}{d:Addr}{e:List V}(h:Inv X pins σ H g)(i:H d=some (.lst e)):∃(c:List Value)(f:Nat),aZ e c∧g.heap.get? d=some {cls:=.type "list",data:=.seq c.toArray f}∧e.length≤sizeLine:=by obtain⟨j,c,f,l,m⟩:=h.hok d _ i;exact⟨c,f,l,m,j⟩
theorem Inv.Hl{d:Shared}{c:Addr}{h:List V}{j f:List Value}{l i:Nat}{g:Obj→Obj}(m:Inv X pins σ H d)(n:H c=some (.lst xs))(o:d.heap.get? c=some {cls:=.type "list",data:=.seq j.toArray l})(hf:g {cls:=.type "list",data:=.seq j.toArray l}={cls:=.type "list",data:=.seq f.toArray i})(p:aZ h f)(q:h.length≤sizeLine)(t:Nat):Inv X pins σ (upd H c (.lst h)) {d with heap:=d.heap.update c g,toks:=t}:=by
 have e:(d.heap.update c g).get? c=some {cls:=.type "list",data:=.seq f.toArray i}:=by rw[JT g o (by rw[hf]<;>rfl),hf]
 refine m.write (x:=c) (e:=c) (by rw[n];trivial) (.inl rfl) (λb u r s=>(JL _ _ (Mg r)).trans s) ⟨_,e⟩ ?_;exact⟨q,f,i,p,e⟩
def HN:V→V→V→Hp→(Hp→Prop)→Prop:=λg h i e j=>∃c d k f,g=.ref c∧h=.int k∧e c=some (.lst d)∧ixN d.length k=some f∧j (upd e c (.lst (d.set f i)))
theorem set_list:HB X HN:=by f_assign(
 intro v e x y H I z J L i M j A B rv C;obtain⟨l,D,k,c,rfl,rfl,m,E,n⟩:=C;cases A;obtain⟨t,rfl⟩:=B;obtain⟨o,F,p,f,G⟩:=j.lst m;obtain⟨d,N,q,r⟩:=zR E;have g:=p.length;have O:=rn;have s:Inv X v x (upd y l (.lst (D.set c z))) {e with heap:=e.heap.update l (Obj.mapSeq (·.setIfInBounds c i))}:=j.Hl m f (yD o F c i) (p.set rv c) (by rw[List.length_set];exact G) e.toks;by_cases u:0≤k
 ·have h:k.toNat=c:=by rw[seqIndex_of u r]at d;exact Lv d
  exact PySem.W.ki_setAt f u (by lia) (by rw[KP,←g];exact r) (by rw[h];exact⟨_,s,n⟩)
 ·have h:(k+(o.toArray.size:Int)).toNat=c:=by rw[seqIndex_neg (by lia) q]at d;rw[KP,←g];exact Lv d
  exact PySem.W.ki_setBack f (by lia) (by rw[KP,←g];exact q) (by lia) (by rw[h];exact⟨_,s,n⟩))
theorem u7(lo d:Option Int)(c:Nat):(sliceBounds lo d none c).1=((HT.sIx c 0 lo:Nat):Int)∧(sliceBounds lo d none c).2.1=((HT.sIx c c d:Nat):Int)∧(sliceBounds lo d none c).2.2=1:=by f_assign(
 refine⟨?_,?_,rfl⟩;·cases lo with|none=>simp[sliceBounds,HT.sIx]|some f=>
  simp only[sliceBounds,HT.sIx,Option.getD_none,show(1:Int)>0 by decide,if_true];by_cases e:f<0;·simp only[e,if_true]<;>lia
  ·simp only[e,if_false]<;>lia
 ·cases d with|none=>simp[sliceBounds,HT.sIx]|some f=>
  simp only[sliceBounds,HT.sIx,Option.getD_none,show(1:Int)>0 by decide,if_true];by_cases e:f<0;·simp only[e,if_true]<;>lia
  ·simp only[e,if_false]<;>lia)
theorem tz(c:List Value)(lo d:Option Int):slicePick c.toArray lo d none=((c.drop (HT.sIx c.length 0 lo)).take (HT.sIx c.length c.length d-HT.sIx c.length 0 lo)).toArray:=by obtain⟨e,f,g⟩:=u7 lo d c.toArray.size;unfold slicePick;rw[e,f,g];simp only[sliceRange_one,pick_run,List.size_toArray]<;>rfl
def HP(K:PySem.W.Frag):V→Option Int→Option Int→Hp→VK→Prop:=λx lo f c g=>∃a e,x=.ref a∧SqL K c a e∧∀d,c d=none→g (.ref d) (upd c d (.lst (rD e lo f)))
theorem u9:SlR X (HP X.K):=by f_assign(intro m e n p x v vl vu lo hi sl Q I rx hs pl pu h;obtain⟨a,c,rfl,i,d⟩:=h;cases rx;obtain⟨q,f,g,j⟩:=I.list i;have l:=f.length;refine⟨"list",_,slot_list_getitem.lookup,g.isList.typeIs,?_⟩;refine wpAny_getItem_list_slice g.isList hs pl pu .none (by simp) ?_ (by rw[KP]<;>lia);rw[tz,←l];refine⟨.ref e.heap.objs.size,_,I.laid (t':=e.toks) (o:=.lst (rD c lo hi)) (λb r d=>JK _ d) (L6 _) ?_,rfl,d _ (I.hok.fresh (L6 _))⟩;exact⟨LY (pH c lo hi) j,_,0,(f.drop (HT.sIx c.length 0 lo)).take (HT.sIx c.length c.length hi-HT.sIx c.length 0 lo),Kc _ rfl⟩)
def pI:V→Bool|.non=>true|.bl _=>true|.int _=>true|.str _=>true|_=>false
def eqV:V→V→Bool|.non,.non=>true|.bl a,.bl b=>a==b|.bl a,.int b=>(if a then 1 else 0)==b|.int a,.bl b=>a==(if b then 1 else 0)|.int a,.int b=>a==b|.str a,.str b=>a==b|_,_=>false
theorem GF{g:Around}{h:Shared}(e:RelV y u)(c:RelV x v)(i:pI y=true)(f:pI x=true):SeqAt.EqAt g h u v (eqV y x):=by f_assign(cases y with
 |non=>cases e;cases x with|non=>cases c;exact SeqAt.EqAt.same _|bl b=>cases c;exact SeqAt.EqAt.none_bool b|int b=>obtain⟨t,rfl⟩:=c;exact SeqAt.EqAt.none_int b t|str b=>obtain⟨t,rfl⟩:=c;exact SeqAt.EqAt.none_str b t|_=>exact absurd (show false=true from f) Kl
 |bl a=>cases e;cases x with|non=>cases c;exact SeqAt.EqAt.bool_none a|bl b=>cases c;exact SeqAt.EqAt.bool_bool a b|int b=>obtain⟨t,rfl⟩:=c;exact SeqAt.EqAt.bool_int a b t|str b=>obtain⟨t,rfl⟩:=c;exact SeqAt.EqAt.bool_str a b t|_=>exact absurd (show false=true from f) Kl
 |int a=>obtain⟨d,rfl⟩:=e;cases x with|non=>cases c;exact SeqAt.EqAt.int_none a d|bl b=>cases c;exact SeqAt.EqAt.int_bool a d b|int b=>obtain⟨t,rfl⟩:=c;exact SeqAt.EqAt.int_int a d b t|str b=>obtain⟨t,rfl⟩:=c;exact SeqAt.EqAt.int_str a d b t|_=>exact absurd (show false=true from f) Kl
 |str a=>obtain⟨d,rfl⟩:=e;cases x with|non=>cases c;exact SeqAt.EqAt.str_none a d|bl b=>cases c;exact SeqAt.EqAt.str_bool a d b|int b=>obtain⟨t,rfl⟩:=c;exact SeqAt.EqAt.str_int a d b t|str b=>obtain⟨t,rfl⟩:=c;exact SeqAt.EqAt.str_str a d b t|_=>exact absurd (show false=true from f) Kl
 |_=>exact absurd (show false=true from i) Kl)
def eqU(x:V)(c:Value):Bool:=match c with|.none=>eqV .non x|.bool b=>eqV (.bl b) x|.int d _=>eqV (.int d) x|.str e _=>eqV (.str e) x|_=>false
theorem CD(c:RelV y u)(d:pI y=true):eqU x u=eqV y x:=by cases y with|non=>cases c;rfl|bl b=>cases c;rfl|int e=>obtain⟨t,rfl⟩:=c;rfl|str f=>obtain⟨t,rfl⟩:=c;rfl|_=>exact absurd (show false=true from d) Kl
theorem u_:∀{c:List V}{d:List Value},aZ c d→c.all pI=true→d.any (eqU x)=c.any λy=>eqV y x|_,_,.nil,_=>rfl|y::c,g::d,.cons f t,e=>by rw[List.all_cons,K3]at e;rw[LJ,LJ,CD f e.1,u_ t e.2]
theorem rE{l:Around}{m:Shared}(h:RelV x v)(i:pI x=true):∀{f:List V}{g:List Value},aZ f g→f.all pI=true→∀d∈g,SeqAt.EqAt l m d v (eqU x d)
 |_,_,.nil,_=>λd c=>by cases c|y::f,d::g,.cons j t,e=>λn c=>by
  rw[List.all_cons,K3]at e;rcases LN.mp c with rfl|c;·rw[CD j e.1];exact GF j h e.1 i
  ·exact rE h i t e.2 n c
def inV(x:V)(c:List V):Bool:=c.any λy=>eqV y x
def rIn(K:PySem.W.Frag)(f:Bool):R2:=λx y d g=>∃e c,y=.ref e∧(SqL K d e c∨SqT K d e c)∧pI x=true∧c.all pI=true∧g (.bl (if f then !inV x c else inV x c)) d
theorem kY:OpR X (compareOp .In) (rIn X.K false):=by f_assign(
 intro n o p i x y v u Q I rx ry h;obtain⟨q,r,rfl,c,j,fs,l⟩:=h;cases ry;rcases c with c|c;·obtain⟨d,e,f,m⟩:=I.list c;refine SeqAt.in_listAt (eqU x) f.isList (λw g=>rE rx j e fs w (by simpa using g)) ⟨.bl _,i,I,rfl,?_⟩;rw[show d.toArray.any (eqU x)=d.any (eqU x)by simp,u_ e fs];exact l
 ·obtain⟨d,e,f,m⟩:=I.tuple c;refine SeqAt.in_tupleAt (eqU x) f (λw g=>rE rx j e fs w (by simpa using g)) ⟨.bl _,i,I,rfl,?_⟩;rw[show d.toArray.any (eqU x)=d.any (eqU x)by simp,u_ e fs];exact l)
theorem e_:cx X (.builtin "len") (λl c m=>∃f d,l=[.ref f]∧(SqL X.K c f d∨SqT X.K c f d)∧m (.int d.length) c):=by f_assign(
 intro v n x c l y m g p q;obtain⟨f,d,rfl,e,o⟩:=q;obtain⟨z,rfl,r⟩:=vals1 p;cases r;have A:=rn;rcases e with e|e;·obtain⟨s,h,i,u⟩:=g.list e;have j:=h.length;exact Calls.call_len_list i.isList (by simp only[List.size_toArray]<;>lia) ⟨.int d.length,c,g.tok _,⟨n.toks+1,by rw[KP,j]⟩,o⟩
 ·obtain⟨s,h,i,u⟩:=g.tuple e;have j:=h.length;exact len_tuple i (by simp only[List.size_toArray]<;>lia) ⟨.int d.length,c,g.tok _,⟨n.toks+1,by rw[KP,j]⟩,o⟩)
theorem tD:cx X (.type "tuple") (λr c i=>∃d e,r=[.ref d]∧((SqL X.K c d e∧∀j,c j=none→i (.ref j) (upd c j (.tup e)))∨(SqT X.K c d e∧i (.ref d) c))):=by f_assign(
 intro s f u c r C i g y l;obtain⟨d,e,rfl,l⟩:=l;obtain⟨D,rfl,z⟩:=vals1 y;cases z;rcases l with⟨m,n⟩|⟨m,n⟩;·obtain⟨o,p,q,v⟩:=g.list m;have E:=p.length;refine call_tuple_list q.isList (λh kp=>?_) (by simp only[List.size_toArray]<;>lia);have x:Inv X s u c {f with heap:=h}:=g.kept (t':=f.toks) kp;have A:Inv X s u (upd c h.objs.size (.tup e)) {f with heap:=h.push {cls:=.type "tuple",data:=.seq o.toArray}}:=x.laid (t':=f.toks) (λb F B=>JK _ B) (L6 _) (show bU X.prog X.w _ _ _ (.tup e)from⟨v,o,p,IsTup.new _ _⟩);exact⟨.ref h.objs.size,_,A,rfl,n _ (x.hok.fresh (L6 _))⟩
 ·obtain⟨o,p,q,v⟩:=g.tuple m;exact call_tuple_same q ⟨.ref d,c,g,rfl,n⟩)
def tyV(K:PySem.W.Frag)(c:String)(x:V)(e:Hp):Prop:=match x with|.str _=>c="str"|.int _=>c="int"|.ref d=>(c="list"∧∃h,SqL K e d h)∨(c="tuple"∧∃f,K.lookup d=some f∧f.cls=.type "tuple"∧f.dict=none)∨(c="dict"∧((∃g,e d=some (.dK g))∨∃g,e d=some (.dT g)))∨(c="set"∧∃i j,e d=some (.set i j))|_=>False
theorem GH{g:Shared}{j:String}(h:Inv X pins σ H g)(l:RelV x v)(ty:tyV X.K j x H):
 g.TypeIs v j∧∀a,v=.ref a→∃p,g.heap.get? a=some p∧p.dict=none:=by f_assign(cases x with|str m=>obtain⟨t,rfl⟩:=l;cases(show j="str"from ty);exact⟨typeIs_str g m t,λ_ c=>nomatch c⟩|int r=>obtain⟨t,rfl⟩:=l;cases(show j="int"from ty);exact⟨typeIs_int g r t,λ_ c=>nomatch c⟩|ref i=>
 cases l;rcases ty with⟨rfl,xs,s⟩|⟨rfl,d,e,hc,n⟩|⟨rfl,e⟩|⟨rfl,y,u,e⟩;·obtain⟨z,_,q,_⟩:=h.list s;refine⟨q.isList.typeIs,λa c=>?_⟩;cases c;obtain⟨d,u,c,A,n,_⟩:=q;exact⟨d,c,n⟩
 ·refine⟨⟨d,h.kIn i d e,hc⟩,λa c=>?_⟩;cases c;exact⟨d,h.kIn _ d e,n⟩
 · have m:∃d,g.heap.get? i=some d∧d.ExactDict:=by
     rcases e with⟨kvs,e⟩|⟨kvs,e⟩;·obtain⟨_,_,_,_,d,_,_,c,f,_⟩:=h.hok i _ e;exact⟨d,c,f⟩
     ·obtain⟨_,_,_,_,d,_,_,c,f,_⟩:=h.hok i _ e;exact⟨d,c,f⟩
   obtain⟨d,c,f⟩:=m;refine⟨⟨d,c,f.1⟩,λa o=>?_⟩;cases o;exact⟨d,c,f.2.1⟩
 · obtain ⟨d, _, _, _, c, f, _⟩ := h.hok i _ e;refine ⟨⟨d, c, f.1⟩, λ a o => ?_⟩;cases o;exact ⟨d,c,f.2.1⟩|_=>exact False.elim ty)
def IZ(K:PySem.W.Frag)(d:String)(e:V→List V→Hp→VK→Prop)(to:TE):TE:=λf g h=>to f g λx c=>tyV K d x c∧e x [] c h
def tBM(K:PySem.W.Frag)(e:String)(f:V→List V→Hp→VK→Prop)(to:TE)(t:TA):TE:=λc g h=>to c g λx d=>tyV K e x d∧t c d λi j=>f x i j h
variable {o e : Expr} {es : List Expr} {to : TE} {t : TA} {name : Str} {apos cpos : Pos} {T id : String} {r : V → List V → Hp → VK → Prop}
theorem iG(i:PlainAttrs T)(j:Slot T name id)(l:typeOf (.builtin id)=pure (.type "method_descriptor"))(m:MtR X id r)(n:PE X o to)(p:PA X (e::es) t)(q:attributeBase o name X.env (eval o X.env)=eval o X.env:=by rfl)(s:((backTo cpos (starEach (e::es) X.env)).all (λx=>!x.1)&&(backToKw cpos (keywordEach [] X.env)).all (λx=>x.1.isSome)&&decide ((e::es).length+([]:List Keyword).length+(if([]:List Keyword).isEmpty then 0 else 1)<30))=true:=by rfl)(u:(apos.endLine==cpos.line)=true:=by rfl)(v:starEach (e::es) X.env=(false,eval e X.env)::starEach es X.env:=by rfl)(y:(backTo cpos (starEach es X.env)).any (·.1)=false:=by rfl):PE X (.Call (.Attribute o name apos) (e::es) [] cpos) (tBM X.K T r to t):=by f_assign(intro c z d A B C D;refine wpAny_Call_method_late q s u rfl (bu (n c z d A _ C D) λE F x G f g H=>?_);obtain⟨ty,I⟩:=H;obtain⟨J,L⟩:=GH f g ty;refine⟨T,id,i,j,l,J,L,?_⟩;have h:=p cpos c F d G _ f I;rw[v]at h⊢;refine Calls.callWith_builtin (by show(false||(backTo cpos (starEach es X.env)).any (·.1))=false;rw[y]<;>rfl) (Calls.evalArgs_plain ?_);exact thn h λM N⟨O,Q,R,S,U⟩=>m c N d Q x O E M B R g S U)
end
def MtM(a:Cx)(id:String)(j:V→List V→Hp→VK→Prop):Prop:=∀(b:List (Addr×Obj))(c:Shared)(d:St)(e:Hp)(x:V)(f:List V)(g:Value)(h:List Value)(i:VK),Inv a b d e c→RelV x g→aZ f h→j x f e i→wpAny (model a.prog a.w) a.A (call (.builtin id) (g::h)) (EP a b d i) a.xe c
theorem aZ.one:∀{x:V}{a:List Value},aZ [x] a→∃b,a=[b]∧RelV x b:=by intro x a h;cases h with|cons c t=>cases t;exact⟨_,rfl,c⟩
section
variable {X : Cx} {pins : List (Addr × Obj)} {σ : St} {H : Hp} {s : Shared} {l b : Addr} {xs ys zs : List V}
theorem Inv.lset{c its':List Value}{d:Nat}{f:Array Value→Array Value}{t':Nat}(g:Inv X pins σ H s)(h:H l=some (.lst xs))(e:s.heap.get? l=some {cls:=.type "list",data:=.seq c.toArray d})(hf:f c.toArray=its'.toArray)(i:aZ ys its')(j:ys.length≤sizeLine):Inv X pins σ (upd H l (.lst ys)) {s with heap:=s.heap.update l (Obj.mapSeq f),toks:=t'}:=by have a:=PySem.IsL.update e f;rw[hf]at a;refine g.write (x:=l) (e:=l) (by rw[h];exact trivial) (.inl rfl) (λo p m n=>(JL s.heap (Obj.mapSeq f) (Mg m)).trans n) ⟨_,a⟩ ?_;exact⟨j,its',_,i,a⟩
theorem Inv.lnew{its:List Value}{t':Nat}(a:Inv X pins σ H s)(c:aZ ys its)(d:ys.length≤sizeLine):Inv X pins σ (upd H s.heap.objs.size (.lst ys)) {s with heap:=s.heap.push {cls:=.type "list",data:=.seq its.toArray},toks:=t'}:=a.laid (λ_ _ e=>JK _ e) (L6 _) ⟨d,its,0,c,Kc _ rfl⟩
theorem Inv.fresh(a:Inv X pins σ H s):H s.heap.objs.size=none:=a.hok.fresh (L6 _)
theorem Inv.lstM(e:Inv X pins σ H s)(f:H l=some (.lst xs)):xs.length≤sizeLine∧∃(a:List Value)(c:Nat),aZ xs a∧xs.length=a.length∧s.heap.get? l=some {cls:=.type "list",data:=.seq a.toArray c}:=by obtain⟨g,a,c,d,h⟩:=e.hok l _ f;exact⟨g,a,c,d,d.length,h⟩
theorem wJ{a:Nat}(c:a≤sizeLine):Builtin.List.listTooLong a=false:=by unfold Builtin.List.listTooLong;exact Lx (by lia)
end
section
variable {X : Cx}
def zU:V→List V→Hp→VK→Prop:=λx d c e=>∃a b y,x=.ref a∧d=[y]∧c a=some (.lst b)∧b.length<sizeLine∧e .non (upd c a (.lst (b++[y])))
theorem dE:MtM X "list.append" zU:=by f_assign(intro l m n o x vs v us Q I rx rv h;obtain⟨e,p,y,rfl,rfl,b,q,f⟩:=h;cases rx;obtain⟨c,rfl,g⟩:=rv.one;obtain⟨r,d,i,j,s,a⟩:=I.lstM b;refine call_meets F.slot_list_append ⟨_,a,rfl⟩ F.entry_list_append (F.args_list_append_2 _ _) (PySem.list_append e d.toArray i c (by rw[KP];lia)) ⟨a,?_⟩;refine⟨.non,_,I.lset (its':=d++[c]) b a (by simp) (j.append (.cons g .nil)) ?_,rfl,f⟩;rw[Kr,List.length_singleton];lia)
def EM:V→List V→Hp→VK→Prop:=λx f a g=>∃b e c d,x=.ref b∧f=[.ref e]∧a b=some (.lst c)∧a e=some (.lst d)∧c.length+d.length≤sizeLine∧g .non (upd a b (.lst (c++d)))
theorem Bn:MtM X "list.extend" EM:=by f_assign(
 intro s u y z x vs v us Q I rx rv h;obtain⟨e,f,A,B,rfl,rfl,d,g,C,i⟩:=h;cases rx;obtain⟨D,rfl,j⟩:=rv.one;cases j;obtain⟨E,a,l,m,G,c⟩:=I.lstM d;obtain⟨H,b,n,o,J,p⟩:=I.lstM g;have q:a.toArray.size+b.toArray.size≤sizeLine:=by rw[KP,KP];lia
 have r:¬(!a.toArray.isEmpty&&Builtin.List.listTooLong (a.toArray.size+b.toArray.size))=true:=by rw[wJ q,Bool.and_false];exact Kl
 refine call_meets F.slot_list_extend ⟨_,c,rfl⟩ F.entry_list_extend (F.args_list_extend_2 _ _) (AutoSeq1.list_extend_list_list_0 e a.toArray l f b.toArray n r (by rw[KP];lia) (by lia)) ⟨c,p,?_⟩;refine⟨.non,_,I.lset (its':=a++b) d c (by simp) (m.append o) ?_,rfl,i⟩;rw[Kr];lia)
def I0:R2:=λx y a g=>∃e f b c,x=.ref e∧y=.ref f∧a e=some (.lst b)∧a f=some (.lst c)∧b.length+c.length≤sizeLine∧∀d,a d=none→g (.ref d) (upd a d (.lst (b++c)))
theorem GI:OpR X (binaryOp .Add) I0:=by f_assign(
 intro n c o p x y v u Q I rx ry h;obtain⟨q,r,s,z,rfl,rfl,d,e,A,f⟩:=h;cases rx;cases ry;obtain⟨B,a,C,g,D,i⟩:=I.lstM d;obtain⟨E,b,F,j,G,l⟩:=I.lstM e;refine PySem.P.add_list i l ?_ (by rw[KP,KP];lia);have m:a.toArray++b.toArray=(a++b).toArray:=by simp
 rw[m];exact⟨.ref _,_,I.lnew (t':=c.toks) (g.append j) (by rw[Kr];lia),rfl,f _ I.fresh⟩)
end
theorem aZ.ints:∀{c:List Int}{b:List Value},aZ (c.map V.int) b→IntsAre b c|[],b,a=>by rw[LW]at a;cases a;exact IntsAre.nil|d::c,b,a=>by rw[LM]at a;cases a with|cons e t=>obtain⟨k,rfl⟩:=e;exact IntsAre.cons d k (aZ.ints t)
theorem i7:∀{a:List Value}{b:List Int},IntsAre a b→aZ (b.map V.int) a|_,_,.nil=>by rw[LW];exact Paired.nil|_,_,.cons c t d=>by rw[LM];exact Paired.cons (show RelV (V.int c) (Value.int c t)from⟨t,rfl⟩) (i7 d)
theorem aZ.bls:∀{bs:List Bool}{b:List Value},aZ (bs.map V.bl) b→b=bs.map Value.bool|[],b,a=>by rw[LW]at a;cases a;rfl|d::bs,b,a=>by rw[LM]at a;cases a with|cons c t=>cases c;rw[aZ.bls t,LM]
theorem aZ.ref1(b:aZ [V.ref a] us):us=[Value.ref a]:=by cases b with|cons b t=>cases t;cases b;rfl
section
variable {prog : Program} {w : World} {A : Around} {E : Value → Shared → Prop} {s : Shared} {l : Addr} {its : List Value} {ns : List Int} {Q : Value → Shared → Prop}
theorem EN(j:A.handled=none)(d:s.heap.IsList l its.toArray)(e:IntsAre its ns)(m:∀a b c,(∀f g,s.heap.get? f=some g→a.get? f=some g)→Q (.int ns.sum c) {s with heap:=a,toks:=b}):wpAny (model prog w) A (call (.builtin "sum") [.ref l]) Q E s:=by
 obtain⟨n,h⟩:=e.allInts.items;have i:numsOf (intItems n).toList=ns:=by rw[←h];exact e.numsOf
 rw[nums_intItems]at i;rw[h]at d;refine PySem.sum_intListG j d λa b c o=>?_;have:=m a b c o;rw[preSum_eq,JP (by simp),i];exact this
theorem EO(n:A.handled=none)(f:s.heap.IsList l its.toArray)(g:IntsAre its ns)(o:0<ns.length)(p:∀b d e q,(∀h i,s.heap.get? h=some i→b.get? h=some i)→e∈ns→(∀a,a∈ns→e≤a)→Q (.int e q) {s with heap:=b,toks:=d}):wpAny (model prog w) A (call (.builtin "min") [.ref l]) Q E s:=by f_assign(
 obtain⟨c,j⟩:=g.allInts.items;have m:numsOf (intItems c).toList=ns:=by rw[←j];exact g.numsOf
 rw[nums_intItems]at m;subst m;rw[j]at f;have r:0<c.size:=by simpa using o
 refine PySem.min_intList n f r λC b d u v=>?_;obtain⟨t,rfl⟩:=intItems_at u;obtain⟨D,x⟩:=argBest_lt (numAt c) (c.size-1);refine p b d _ t v ?_ λa y=>?_;·rw[numAt_eq];exact PySem.getD_mem (by rw[Ln,Ka];omega)
 ·obtain⟨z,B,rfl⟩:=mem_getD y;rw[Ln,Ka]at B;rw[←numAt_eq];exact x z (by omega))
end
section
variable {X : Cx}
def HQ(K:PySem.W.Frag):List V→Hp→VK→Prop:=λd b e=>∃(a:Addr)(c:List Int),d=[V.ref a]∧SqL K b a (c.map V.int)∧e (.int c.sum) b
def I_(K:PySem.W.Frag):List V→Hp→VK→Prop:=λe d f=>∃(a:Addr)(b:List Int),e=[V.ref a]∧SqL K d a (b.map V.int)∧0<b.length∧∀c,c∈b→(∀y,y∈b→y≤c)→f (.int c) d
def HS(K:PySem.W.Frag):List V→Hp→VK→Prop:=λe d f=>∃(a:Addr)(b:List Int),e=[V.ref a]∧SqL K d a (b.map V.int)∧0<b.length∧∀c,c∈b→(∀y,y∈b→c≤y)→f (.int c) d
theorem oz(c:X.calm=true):cx X (.builtin "sum") (HQ X.K):=by intro l m n d o p q b e f;obtain⟨a,r,rfl,g,h⟩:=f;obtain⟨s,rv,i,_⟩:=b.list g;rw[aZ.ref1 e];exact EN (b.ok.hd c) i.isList rv.ints λu v x j=>⟨.int _,d,b.kept j,⟨_,rfl⟩,h⟩
theorem GJ(c:X.calm=true):cx X (.builtin "min") (HS X.K):=by intro p q r d s u v b e f;obtain⟨a,x,rfl,g,h,i⟩:=f;obtain⟨y,rv,j,_⟩:=b.list g;rw[aZ.ref1 e];exact EO (b.ok.hd c) j.isList rv.ints h λz A l B m n o=>⟨.int _,d,b.kept m,⟨_,rfl⟩,i l n o⟩
end
theorem wK{g:Program}{w:World}{h:Around}{a:Shared}{b:Addr}{e:Array Value}{f:Value→Shared→Prop}(d:a.heap.IsList b e)(i:∀c:Shared,c={a with heap:=a.heap.push {cls:=.type "list_iterator",data:=.fields #[.ref b,.int 0 0]}}→(c.heap.IsListIter a.heap.objs.size b 0∧c.heap.IsList b e)→b≠a.heap.objs.size→f (.ref a.heap.objs.size) c):wpAny (model g w) h (pyIter (.ref b)) f E a:=by
 have j:b<a.heap.objs.size:=by obtain⟨_,l,_⟩:=d;exact LU l
 exact wpAny_pyIter_list d (i _ rfl ⟨⟨_,Kc _ rfl,rfl,rfl⟩,d.push _⟩ (L3 j))
theorem pJ{f:Program}{w:World}{g:Around}{bs:List Bool}{b:List Value}(h:b=bs.map Value.bool):TruthOf f w g (λa c=>b.toArray[a]?=some c) (λa=>bs.getD a false):=λa c i j q l m=>by
 have d:b[a]?=some c:=by simpa using l
 rw[h,KL]at d;obtain⟨n,o,rfl⟩:=JQ.mp d;have p:bs.getD a false=n:=by rw[Jt,o]<;>rfl
 have e:j (bs.getD a false) i:=m;rw[p]at e;exact K2 e
theorem any_range:∀bs:List Bool,(List.range bs.length).any (λa=>bs.getD a false)=bs.any id|[]=>rfl|b::bs=>by rw[K9,List.range_succ_eq_map,LJ,List.any_map,LJ,←any_range bs];all_goals rfl
theorem all_range:∀bs:List Bool,(List.range bs.length).all (λa=>bs.getD a false)=bs.all id|[]=>rfl|b::bs=>by rw[K9,List.range_succ_eq_map,List.all_cons,List.all_map,List.all_cons,←all_range bs];all_goals rfl
section
variable {X : Cx}
def HU(K:PySem.W.Frag):List V→Hp→VK→Prop:=λc b d=>∃(a:Addr)(bs:List Bool),c=[V.ref a]∧SqL K b a (bs.map V.bl)∧d (.bl (bs.any id)) b
def HV(K:PySem.W.Frag):List V→Hp→VK→Prop:=λc b d=>∃(a:Addr)(bs:List Bool),c=[V.ref a]∧SqL K b a (bs.map V.bl)∧d (.bl (bs.all id)) b
theorem GK(f:X.calm=true):cx X (.builtin "any") (HU X.K):=by f_assign(
 intro u v x g y z B b h i;obtain⟨a,bs,rfl,j,l⟩:=i;obtain⟨m,rv,n,_⟩:=b.list j;rw[aZ.ref1 h];have d:=rv.bls;refine call_any_walk (wK n.isList λC o st p=>?_);subst o;refine⟨_,_,_,_,_,_,_,rfl,Walks.list (A:=X.A.in1) (b.ok.hd f) _ a p m.toArray,st,pJ d,λD E q=>?_⟩;refine⟨.bl _,g,b.kept λr s e=>q r s (λc=>?_) (JK _ e),?_,l⟩
 ·rcases LN.mp c with e1|c;·exact absurd (e1▸LU e) (LP _)
  ·cases c
 ·show Value.bool _=Value.bool _;rw[←any_range,d,KP,Ln])
theorem yE(f:X.calm=true):cx X (.builtin "all") (HV X.K):=by f_assign(
 intro u v x g y z B b h i;obtain⟨a,bs,rfl,j,l⟩:=i;obtain⟨m,rv,n,_⟩:=b.list j;rw[aZ.ref1 h];have d:=rv.bls;refine call_all_walk (wK n.isList λC o st p=>?_);subst o;refine⟨_,_,_,_,_,_,_,rfl,Walks.list (A:=X.A.in1) (b.ok.hd f) _ a p m.toArray,st,pJ d,λD E q=>?_⟩;refine⟨.bl _,g,b.kept λr s e=>q r s (λc=>?_) (JK _ e),?_,l⟩
 ·rcases LN.mp c with e1|c;·exact absurd (e1▸LU e) (LP _)
  ·cases c
 ·show Value.bool _=Value.bool _;rw[←all_range,d,KP,Ln])
end
mutual
inductive Dp(K:PySem.W.Frag)(H:Hp):V→PyData→Prop|non:Dp K H .non .none|bl(b:Bool):Dp K H (.bl b) (.bool b)|int(i:Int):Dp K H (.int i) (.int i)|str(x:Str):Dp K H (.str x) (.str x)|lst{a:Addr}{xs:List V}{ds:List PyData}:SqL K H a xs→pK K H xs ds→Dp K H (.ref a) (.list ds)|tup{a:Addr}{xs:List V}{ds:List PyData}:SqT K H a xs→pK K H xs ds→Dp K H (.ref a) (.tuple ds)
inductive pK(K:PySem.W.Frag)(H:Hp):List V→List PyData→Prop|nil:pK K H [] []|cons{v:V}{vs:List V}{d:PyData}{ds:List PyData}:Dp K H v d→pK K H vs ds→pK K H (v::vs) (d::ds)
end
section
variable {X : Cx} {pins : List (Addr × Obj)} {σ : St} {H : Hp} {s : Shared}
mutual
theorem Dp.reads(c:Inv X pins σ H s):∀(m:PyData)(n:V)(o:Value),Dp X.K H n m→RelV n o→∃as,Reads s.heap o m as
 |.none,_,_,a,b=>by cases a;cases b;exact⟨_,Reads.none⟩|.bool p,_,_,a,b=>by cases a;cases b;exact⟨_,Reads.bool p⟩|.int q,_,_,a,b=>by cases a;obtain⟨t,rfl⟩:=b;exact⟨_,Reads.int q t⟩|.str x,_,_,a,b=>by cases a;obtain⟨t,rfl⟩:=b;exact⟨_,Reads.str x t⟩|.list d,_,_,a,b=>by cases a with|lst e f=>cases b;obtain⟨g,rv,⟨r,u,h,i,_,j⟩,_⟩:=c.list e;obtain⟨as,l⟩:=Dp.readsAll c d _ g f rv;exact⟨_,Reads.list h i j l⟩
 |.tuple d,_,_,a,b=>by cases a with|tup e f=>cases b;obtain⟨g,rv,⟨r,h,i,u,j⟩,_⟩:=c.tuple e;obtain⟨as,l⟩:=Dp.readsAll c d _ g f rv;exact⟨_,Reads.tuple h i j l⟩
 |.dict _,_,_,a,_=>by cases a
theorem Dp.readsAll(d:Inv X pins σ H s):∀(a:List PyData)(e:List V)(f:List Value),pK X.K H e a→aZ e f→∃as,ReadsAll s.heap f a as|[],_,_,b,c=>by cases b;cases c;exact⟨_,ReadsAll.nil⟩|g::a,_,_,b,c=>by cases b with|cons h i=>cases c with|cons j l=>obtain⟨as,m⟩:=Dp.reads d g _ _ h j;obtain⟨bs,n⟩:=Dp.readsAll d a _ _ i l;exact⟨_,ReadsAll.cons m n⟩
end
end
section
variable {X : Cx}
def Ja(K:PySem.W.Frag):R2:=λx y a d=>∃b c,Dp K a x b∧Dp K a y c∧SeqAt.shaped b=true∧SeqAt.shaped c=true∧d (.bl (PyData.eqv b c)) a
theorem GL(a:X.A.units+64<cLine):OpR X (compareOp .Eq) (Ja X.K):=by intro n o p b x y v u Q I rx ry h;obtain⟨c,d,e,f,g,i,j⟩:=h;obtain⟨as,l⟩:=Dp.reads I c x v e rx;obtain⟨bs,m⟩:=Dp.reads I d y u f ry;exact SeqAt.compareEq_shaped l m g i a ⟨.bl _,b,I,rfl,j⟩
end
end L2
namespace L2
open PySem PySem.Spec PyProof.Rows
abbrev CF(h:Heap)(c:Addr)(v:Option Value):Prop:=h.IsCell c v
def Jb(b c:Scope):Scope:={b with names:=b.names.map λ(a,k)=>if(k==.free&&c.kind==.function&&c.names.lookup a==some .cell)then(a,.cell)else(a,k)}
def bB(a:List (Str×Addr)):List (Str×NameKind)→List (Str×Addr)→List (Str×Addr)|[],acc=>acc|(b,k)::c,acc=>if k==.free then bB a c ((b,(a.lookup b).getD 0)::acc)else bB a c acc
theorem mU(d:Env)(f:Str×NameKind→List (Str×Addr)→Sem (ForInStep (List (Str×Addr))))(hf:∀c k b,f (c,k) b=if k==.free then(do let a←cellOf d c;pure (.yield ((c,a)::b)))else pure (.yield b)):∀(g:List (Str×NameKind))(acc:List (Str×Addr)),(∀y∈g,y.2=.free→∃b,d.cells.lookup y.1=some b)→forIn g acc f=pure (bB d.cells g acc)|[],acc,_=>by rw[List.forIn_nil];rfl|(c,k)::l,acc,h=>by f_assign(
 rw[List.forIn_cons,hf];have i:=λacc=>mU d f hf l acc λy m=>h y (J0 _ m);unfold bB;by_cases e:(k==NameKind.free)=true
 ·rw[Mj e,Mj e];obtain⟨b,j⟩:=h (c,k) Ks (by simpa using e);have n:cellOf d c=pure b:=by unfold cellOf;rw[j]
  rw[n];have o:(d.cells.lookup c).getD 0=b:=by rw[j];rfl
  rw[o];exact i _
 ·rw[Mi e,Mi e];exact i _)
theorem rF{a:Scope}{b:Env}(d:∀y∈a.names,y.2=.free→∃c,b.cells.lookup y.1=some c):closureFor a b=pure (bB b.cells a.names []):=by simp only[closureFor];rw[mU b _ (λe k c=>rfl) a.names [] d];rfl
theorem mem_lookup{c:Type}:∀{d:List (Str×c)}{a:Str}{f:c},(a,f)∈d→∃g,d.lookup a=some g|(k,h)::i,a,f,b=>by rw[La];cases hb:a==k with|true=>exact⟨_,rfl⟩|false=>
 rcases LN.mp b with e|b;·cases e;simp at hb
 ·exact mem_lookup b
theorem g_{f:List (Str×Addr)}:∀{g:List (Str×NameKind)}{acc:List (Str×Addr)}{b:Str}{c:Addr},(b,c)∈bB f g acc→(b,c)∈acc∨((b,.free)∈g∧c=(f.lookup b).getD 0)
 |[],_,_,_,a=>.inl a|(h,k)::i,acc,b,c,a=>by
  unfold bB at a;split at a
  ·rename_i d;have d:k=.free:=by simpa using d
   rcases g_ a with a|⟨h1,h2⟩
   ·rcases LN.mp a with e|a;·cases e;exact .inr ⟨d▸Ks,rfl⟩
    ·exact .inl a
   ·exact .inr ⟨J0 _ h1,h2⟩
  ·rcases g_ a with a|⟨h1,h2⟩;·exact .inl a
   ·exact .inr ⟨J0 _ h1,h2⟩
theorem jT{c:List (Str×Addr)}:∀{d:List (Str×NameKind)}{acc:List (Str×Addr)}{b:Str×Addr},b∈acc→b∈bB c d acc
 |[],_,_,a=>a|(e,k)::f,acc,b,a=>by
  unfold bB;split;·exact jT (J0 _ a)
  ·exact jT a
theorem jU{cells:List (Str×Addr)}:∀{c:List (Str×NameKind)}{acc:List (Str×Addr)}{a:Str},(a,.free)∈c→(a,(cells.lookup a).getD 0)∈bB cells c acc
 |(d,k)::f,acc,a,b=>by
  unfold bB;rcases LN.mp b with e|b;·cases e;exact jT Ks
  ·split;·exact jU b
   ·exact jU b
theorem iH:∀{f:List (Str×NameKind)}{b:Heap}{acc:List (Str×Addr)}{x:Str}{d:Addr},(x,d)∈cellsFrom b.objs.size f acc→(x,d)∈acc∨((x,.cell)∈f∧b.objs.size≤d∧CF (pushCells b f) d none)|[],_,_,_,_,b=>.inl b|(h,k)::g,b,acc,x,d,a=>by f_assign(
 unfold cellsFrom at a;unfold pushCells;split at a
 ·rename_i c;rw[Mj c];have c:k=.cell:=by simpa using c
  rw[←LA b {cls:=.type "cell",data:=.cell none}]at a;rcases iH a with a|⟨h1,h2,h3⟩
  ·rcases LN.mp a with e|a;·cases e;exact .inr ⟨c▸Ks,L6 _,_,pushCells_keeps g _ _ _ (Kc _ rfl),rfl⟩
   ·exact .inl a
  ·rw[LA]at h2;exact .inr ⟨J0 _ h1,KQ h2,h3⟩
 ·rename_i c;rw[Mi c];rcases iH a with a|⟨h1,h2,h3⟩;·exact .inl a
  ·exact .inr ⟨J0 _ h1,h2,h3⟩)
theorem kZ:∀{names:List (Str×NameKind)}{n:Nat}{acc:List (Str×Addr)}{b:Str×Addr},b∈acc→b∈cellsFrom n names acc
 |[],_,_,_,a=>a|(c,k)::d,n,acc,b,a=>by
  unfold cellsFrom;split;·exact kZ (J0 _ a)
  ·exact kZ a
theorem oA:∀{b:List (Str×NameKind)}{n:Nat}{acc:List (Str×Addr)}{x:Str},(x,.cell)∈b→∃c,(x,c)∈cellsFrom n b acc
 |(d,k)::f,n,acc,x,a=>by
  unfold cellsFrom;rcases LN.mp a with e|a;·cases e;exact⟨n,kZ Ks⟩
  ·split;·exact oA a
   ·exact oA a
theorem oB:∀{n:List (Str×NameKind)}{h:Heap}{acc:List (Str×Addr)}{x y:Str}{c:Addr},(∀j∈acc,j.2<h.objs.size)→(∀x y c,(x,c)∈acc→(y,c)∈acc→x=y)→(x,c)∈cellsFrom h.objs.size n acc→(y,c)∈cellsFrom h.objs.size n acc→x=y|[],_,_,_,_,_,_,f,d,b=>f _ _ _ d b|(o,k)::p,h,acc,x,y,c,g,f,d,b=>by f_assign(
 unfold cellsFrom at d b;split at d
 ·rename_i l;rw[Mj l]at b;rw[←LA h {cls:=.type "cell",data:=.cell none}]at d b;refine oB (h:=h.push _) (λj m=>?_) (λx y c a i=>?_) d b
  ·rw[LA];rcases LN.mp m with rfl|m;·exact Le _
   ·exact KR (g j m)
  ·rcases LN.mp a with e|a<;>rcases LN.mp i with e'|i;·cases e;cases e';rfl
   ·cases e;exact absurd (g _ i) (LP _)
   ·cases e';exact absurd (g _ a) (LP _)
   ·exact f _ _ _ a i
 ·rename_i l;rw[Mi l]at b;exact oB g f d b)
theorem wL{g:Around}{a:Shared}{b:Scope}{c:List (Str×Addr)}{d:Option Addr}{code:Value}{e:Env}{f:Env→Shared→Prop}(h:f (newEnv b a.heap.objs.size globals (cellsFrom (a.heap.objs.size+1) b.names c) qual d code (some e) builtins) {a with heap:=pushCells (a.heap.push {cls:=.type "dict",data:=.dict #[]}) b.names}):wpAny M g (newFunctionEnv b globals c [] qual d code (some e) builtins) f E a:=by simp only[newFunctionEnv,Option.isSome_some,if_true];refine Ma (wpAny_alloc ?_);refine Ma (wpAny_layCells _ (λi k j=>rfl) b.names c _ _ ?_);rw[show({a with heap:=a.heap.push {cls:=.type "dict",data:=.dict #[]}}:Shared).heap.objs.size=a.heap.objs.size+1 from LA ..];rw[List.forIn_nil];exact Ma (Md (Md h))
theorem jV{c:Scope}:∀{h:List (Str×NameKind)}{x:Str}{k:NameKind},(h.map λ(b,k)=>if(k==NameKind.free&&c.kind==.function&&c.names.lookup b==some .cell)then(b,NameKind.cell)else(b,k)).lookup x=some k→∃f,h.lookup x=some f∧(k=f∨(f=.free∧k=.cell))|[],_,_,g=>by simp at g|(b,e)::i,x,k,g=>by f_assign(
 have j:=@jV c i x k;have a:List.lookup x ((if(e==NameKind.free&&c.kind==.function&&c.names.lookup b==some .cell)=true then(b,NameKind.cell)else(b,e))::(i.map _))=some k:=g
 cases hx:x==b with|true=>
  simp only[List.lookup_cons,hx];by_cases d:(e==NameKind.free&&c.kind==.function&&c.names.lookup b==some .cell)=true;·rw[Mj d]at a;simp only[List.lookup_cons,hx]at a;cases a;simp only[Bool.and_eq_true,beq_iff_eq]at d;exact⟨e,rfl,.inr ⟨d.1.1,rfl⟩⟩
  ·rw[Mi d]at a;simp only[List.lookup_cons,hx]at a;cases a;exact⟨_,rfl,.inl rfl⟩|false=>
  simp only[List.lookup_cons,hx];by_cases d:(e==NameKind.free&&c.kind==.function&&c.names.lookup b==some .cell)=true;·rw[Mj d]at a;simp only[List.lookup_cons,hx]at a;exact j a
  ·rw[Mi d]at a;simp only[List.lookup_cons,hx]at a;exact j a)
structure ug(N:List Str)(sc scope:Scope)(own:List (Str×Nat)):Prop where
 kind:scope.kind=.function
 uniq:∀y∈scope.names,scope.names.lookup y.1=some y.2
 ix:∀p∈own,N[p.2]?=some p.1
 free:∀y∈scope.names,y.2=.free→sc.names.lookup y.1=some .cell∨sc.names.lookup y.1=some .free
 own:∀y∈scope.names,y.2=.local∨y.2=.cell→y.1∈own.map (·.1)∨y.1∉N
def wipe(a:St):List Nat→St|[]=>a|b::c=>(wipe a c).set b none
theorem jW(a:St):∀b:List Nat,(wipe a b).length=a.length|[]=>rfl|c::b=>by unfold wipe;rw[List.length_set,jW a b]
theorem oC{b:Nat}:∀{c:List Nat},(wipe σ c)[b]?=some (some x)→σ[b]?=some (some x)∧b∉c
 |[],a=>⟨a,by simp⟩|e::c,a=>by
  unfold wipe at a;by_cases d:e=b
  ·subst d;by_cases f:e<(wipe σ c).length;·rw[List.getElem?_set_self f]at a;cases a
   ·rw[JU (by simpa using f)]at a;cases a
  ·rw[List.getElem?_set_ne d]at a;obtain⟨g,h⟩:=oC a;exact⟨g,by simp only[List.mem_cons,not_or];exact⟨λi=>d i.symm,h⟩⟩
abbrev Cx.blk(X:Cx)(s:Shared)(H:Hp)(scope:Scope)(cenv:Env)(fp:List Addr):Cx:={X with s_0:=s,H_0:=H,env:=cenv,outer:=X.stack,ex:=fp,fn:=λx=>scope.names.lookup x==some .cell,pn:=[],xe:=λ_ _=>False}
section
variable {X : Cx} {pins : List (Addr × Obj)} {σ : St} {H : Hp} {s : Shared}
theorem wM{e:Scope}{own:List (Str×Nat)}{N:List Addr}(f:Inv X pins σ H s)(ok:ug X.N X.env.scope e own)(T:X.N.Nodup)(hfp:∀g∈N,pU X pins H g∧g<s.heap.objs.size):Inv (X.blk s H e (compEnvC e (cellsFrom (s.heap.objs.size+1) e.names (bB X.env.cells e.names [])) s.heap.objs.size X.env) N) [] (wipe σ (own.map (·.2))) H {s with heap:=pushCells (s.heap.push {cls:=.type "dict",data:=.dict #[]}) e.names}:=by f_assign(
 have U:∀y∈e.names,y.2=.free→∃c,X.env.cells.lookup y.1=some c:=λy m b=>by
  rcases ok.free y m b with k|k;·exact f.ok.has _ (.inl k)
  ·exact f.ok.has _ (.inr k)
 generalize D:compEnvC e (cellsFrom (s.heap.objs.size+1) e.names (bB X.env.cells e.names [])) s.heap.objs.size X.env=cenv;have kp:∀g A,s.heap.get? g=some A→(pushCells (s.heap.push {cls:=.type "dict",data:=.dict #[]}) e.names).get? g=some A:=λg A b=>pushCells_keeps _ _ _ _ (JK _ b);have G:cenv.locals=s.heap.objs.size:=by rw[←D];rfl
 have x:cenv.cells=cellsFrom (s.heap.objs.size+1) e.names (bB X.env.cells e.names []):=by rw[←D];rfl
 have O:cenv.scope=Jb e X.env.scope:=by rw[←D];rfl
 rw[←LA s.heap {cls:=.type "dict",data:=.dict #[]}]at x;have E:∀{y c},(y,c)∈bB X.env.cells e.names []→X.env.cells.lookup y=some c∧c<s.heap.objs.size:=λ{y c}i=>by
  rcases g_ i with i|⟨h,rfl⟩;·cases i
  ·obtain⟨c,R⟩:=U _ h rfl;rw[R];obtain⟨w,d⟩:=f.cell _ _ R;exact⟨rfl,d.lt⟩
 have mem:∀{y c},cenv.cells.lookup y=some c→(X.env.cells.lookup y=some c∧c<s.heap.objs.size)∨(s.heap.objs.size+1≤c∧CF (pushCells (s.heap.push {cls:=.type "dict",data:=.dict #[]}) e.names) c none):=λ{y c}b=>by
  rw[x]at b;rcases iH (Ki b)with i|⟨_,o,h3⟩;·exact .inl (E i)
  ·rw[LA]at o;exact .inr ⟨o,h3⟩
 have look:∀{y},e.names.lookup y=some .free→∃c,cenv.cells.lookup y=some c∧X.env.cells.lookup y=some c:=λ{y}I=>by
  have m:(y,NameKind.free)∈e.names:=Ki I;obtain⟨J,j⟩:=mem_lookup (kZ (names:=e.names) (n:=(s.heap.push {cls:=.type "dict",data:=.dict #[]}).objs.size) (jU (cells:=X.env.cells) (acc:=[]) m));rw[←x]at j;refine⟨J,j,?_⟩;rw[x]at j;rcases iH (Ki j)with i|⟨h,_,_⟩;·exact(E i).1
  ·have:=ok.uniq _ h;rw[I]at this;cases this
 have Y:(X.blk s H e cenv N).Ok:=by
  refine⟨f.ok.mod,by show cenv.scope.kind=_;rw[O];exact ok.kind,by show cenv.globals=_;rw[←D];exact f.ok.glob,by show cenv.builtins=_;rw[←D];exact f.ok.blt,by show s.heap.objs.size≤cenv.locals;rw[G];exact L6 _,λy d c p q=>?_,λy m=>?_,λy c d b=>?_,f.ok.hd,f.ok.frames,.inl rfl,λg r=>⟨?_,λy c b d=>?_⟩,f.bs,LY f.ok.bsz f.sz,λg A b r=>?_,λg r d=>?_,f.stack,f.AX⟩;·have p:cenv.cells.lookup y=some c:=p;have q:cenv.cells.lookup d=some c:=q;rw[x]at p q;refine oB (λu B=>?_) (λy d c a g=>f.ok.inj y d c (E a).1 (E g).1) (Ki p) (Ki q);rw[LA];exact KR (E (y:=u.1) (c:=u.2) B).2
  · show∃c,cenv.cells.lookup y=some c;have C:∀k,cenv.kindOf y=some k→(k=.cell∨k=.free)→∃c,cenv.cells.lookup y=some c:=λk z Q=>by
      unfold Env.kindOf at z;rw[O]at z;obtain⟨v,b,F⟩:=jV z;have:v=.cell∨v=.free:=by
       rcases F with rfl|⟨rfl,_⟩;·exact Q
       ·exact .inr rfl
      rcases this with rfl|rfl;·obtain⟨c,i⟩:=oA (n:=(s.heap.push {cls:=.type "dict",data:=.dict #[]}).objs.size) (acc:=bB X.env.cells e.names []) (Ki b);obtain⟨J,j⟩:=mem_lookup i;exact⟨J,by rw[x];exact j⟩
      ·obtain⟨c,h,_⟩:=look b;exact⟨c,h⟩
    rcases m with m|m;·exact C _ m (.inl rfl)
    ·exact C _ m (.inr rfl)
  ·have d:(e.names.lookup y==some NameKind.cell)=true:=d;have d:e.names.lookup y=some .cell:=by simpa using d
   have b:cenv.cells.lookup y=some c:=b;rw[x]at b;rcases iH (Ki b)with i|⟨_,o,_⟩
   ·rcases g_ i with i|⟨h,_⟩;·cases i
    ·have L:=ok.uniq _ h;rw[d]at L;cases L
   ·rw[LA]at o;exact KQ o
  ·show g≠cenv.locals;rw[G];exact L3 (hfp g r).2
  ·have b:cenv.cells.lookup y=some c:=b;rcases mem b with⟨h,_⟩|⟨h,_⟩;·exact(hfp g r).1.2.2.2.2.1 y c h d
   ·have o:s.heap.objs.size+1≤g:=by rw[←d];exact h
    exact absurd (Kw (hfp g r).2 (KQ o)) (LP _)
  ·rcases(hfp g r).1.2.2.2.1 with d|d;·exact f.ok.noex g A b d
   ·exact absurd (Kw (LU b) (LY f.ok.bsz d)) (LP _)
  ·rcases LN.mp (f.zp g d)with d|d;·exact(hfp g r).1.2.1 d
   ·exact(hfp g r).1.2.2.1 d
 refine⟨Y,rfl,f.bare,Un.kept kp,⟨λ_=>none,?_,λZ y ac p q l=>?_⟩,λy c b=>?_,?_,λy c b=>?_,λu B=>?_,f.hok.kept kp,by rw[jW];exact f.len⟩;·show Heap.Ns _ cenv.locals _;rw[G];exact Heap.Ns.keeps (Heap.Ns.new ..) λg A b=>pushCells_keeps _ _ _ _ b
 · obtain⟨q,ah⟩:=oC q;have M:e.names.lookup y=some .free∧(cenv.kindOf y=some .cell∨cenv.kindOf y=some .free):=by
     have C:∀k,cenv.scope.names.lookup y=some k→k=.local∨k=.cell∨k=.free→e.names.lookup y=some .free∧(cenv.kindOf y=some .cell∨cenv.kindOf y=some .free):=λk z Q=>by
      have S:=z;rw[O]at z;obtain⟨v,b,F⟩:=jV z;have no:¬(v=.local∨v=.cell):=λal=>by
       rcases ok.own _ (Ki b) al with j|j;·obtain⟨u,B,am⟩:=LX.mp j;have l:=ok.ix u B;have:u.1=y:=am;rw[this]at l;exact ah (LX.mpr ⟨u,B,q0 T l p⟩)
       ·exact j (J_ p)
      rcases F with rfl|⟨rfl,rfl⟩
      ·rcases Q with rfl|rfl|rfl;·exact absurd (.inl rfl) no
       ·exact absurd (.inr rfl) no
       ·exact⟨b,.inr S⟩
      ·exact⟨b,.inl S⟩
     have l:Vis cenv.scope y:=l;rcases l with l|l|l;·exact C _ l (.inl rfl)
     ·exact C _ l (.inr (.inl rfl))
     ·exact C _ l (.inr (.inr rfl))
   obtain⟨ap,ar,I⟩:=f.loc;have an:Vis X.env.scope y:=(ok.free _ (Ki M.1) rfl).elim (λk=>.inr (.inl k)) (λk=>.inr (.inr k));obtain⟨w,F,L⟩:=I Z y ac p q an;refine⟨w,F,.inr ⟨M.2,?_⟩⟩;obtain⟨c,h,o⟩:=look M.1;rcases L with⟨k,_⟩|⟨_,J,j,d⟩;·have k:X.env.scope.names.lookup y=some .local:=k;rcases ok.free _ (Ki M.1) rfl with v|v<;>rw[show X.env.scope.names.lookup y=_ from v]at k<;>cases k
   ·rw[o]at j;cases j;exact⟨c,h,d.keeps kp⟩
 ·have b:cenv.cells.lookup y=some c:=b;rcases mem b with⟨h,_⟩|⟨_,d⟩;·obtain⟨w,d⟩:=f.cell y c h;exact⟨w,d.keeps kp⟩
  ·exact⟨_,d⟩
 ·show H cenv.locals=none;rw[G];exact f.hok.fresh (L6 _)
 ·have b:cenv.cells.lookup y=some c:=b;rcases mem b with⟨h,_⟩|⟨h,_⟩;·exact f.freeC y c h
  ·exact f.hok.fresh (KQ h)
 ·exact absurd (show u∈([]:List (Addr×Obj))++[]from B) (by simp))
theorem GN{a:List V}{b:Value→Shared→Prop}(c:Inv X pins σ H s)(d:H D=some (.lst a))(h:a.length<sizeLine)(i:RelV y v)(j:∀e,Inv X pins σ (upd H D (.lst (a++[y]))) e→b .none e):wpAny (model X.prog X.w) X.A (call (.builtin "list.append") [.ref D,v]) b E s:=by obtain⟨x,l,m,f,n⟩:=c.hok D _ d;have z:=f.length;refine append_at (hsz:=by rw[KP];lia) n λo p g=>?_;refine j {s with heap:=o} (c.write (t':=s.toks) (by rw[d];trivial) (.inl rfl) (λq A r u=>(p.2 q r).trans u) ⟨_,g⟩ ⟨by rw[Kr];exact h,l++[v],m+1,f.append (.cons i .nil),?_⟩);rw[g];simp
def PTs(X:Cx)(d:List Expr)(t:TT):Prop:=∀(pins:List (Addr×Obj))(s:Shared)(σ:St)(H:Hp)(a:Bool→Hp→Prop),Inv X pins σ H s→t σ H a→wpAny (model X.prog X.w) X.A (forIn d true λb c=>if c=true then do let ok←isTrue b X.env (eval b X.env);pure (ForInStep.yield ok)else pure (ForInStep.yield c)) (TP X pins σ a) X.xe s
def ER:TT:=λ_ H a=>a true H
theorem fb:PTs X [] ER:=λ_ _ _ H _ a b=>wpAny_tests_nil ⟨H,a,b⟩
theorem mV{a:Expr}{t:TT}(b:PT X a t):PTs X [a] t:=λpins s σ H c d e=>wpAny_tests_one (b pins s σ H c d e)
end
theorem Bo{c:Type}{t:Sem c}{d e:c→Shared→Prop}{f:Around}{b:Shared}(g:wpAny M f t d (λ_ _=>False) b)(h:∀a b,d a b→e a b):wpAny M f t e E b:=Mb g h λ_ _ i=>False.elim i
theorem va{b:Program}{w:World}{a:Around}{g:Result→Shared→Prop}{h:Shared}{q:Expr}{r:Pos}{acc:Value}{c:Env}(l:Nat→Shared→Prop)(C:∀i h,l i h→wpAny (model b w) a (pyNext it) (λj n=>match j with|none=>g (.ok .next) n|some o=>wpAny (model b w) a (letOwnedTupleGo target it o) (λ_ s=>wpAny (model b w) a (assign target c o) (λ_ u=>wpAny (model b w) a (forIn ifs true λv j=>if j=true then do let ok←isTrue v c (eval v c);pure (ForInStep.yield ok)else pure (ForInStep.yield j)) (λok p=>if ok=true then wpAny (model b w) a (eval elt c) (λx y=>wpAny (model b w) a (call (.builtin "list.append") [acc,x]) (λ_ z=>∃m,m<i∧l m z) (notedBy (model b w) a c λd e=>g (.error d) e) y) (notedBy (model b w) a c λd e=>g (.error d) e) p else∃m,m<i∧l m p) (notedBy (model b w) a c λd e=>g (.error d) e) u) (notedBy (model b w) a c λd e=>g (.error d) e) s) (notedBy (model b w) a c λd e=>g (.error d) e) n) (notedBy (model b w) a c λd e=>g (.error d) e) h)(i:Nat)(D:l i h):codeAny (model b w) a (.compLoop (.ListComp elt [⟨target,q,ifs,0⟩] scope r) 0 it acc c) g h:=by f_assign(refine codeAny_loop rfl l (λi h E=>?_) i D;show wpAny _ a ((compTurn (.ListComp elt [⟨target,q,ifs,0⟩] scope r) 0 it acc c).onRaise (λx=>do noteFrame x c;theTreesLotGoes x)) _ _ h;refine wpAny_noted ?_;rw[compTurn_list];refine Ma (wpAny_standAt (Ma (Mb (C i h E) (λj n A=>?_) λ_ _ f=>f)));cases j with|none=>exact Md A|some o=>refine Ma (Mb A (λ_ s F=>?_) λ_ _ f=>f);refine Ma (Mb F (λ_ u G=>Ma (Mb G (λok p B=>?_) λ_ _ f=>f)) λ_ _ f=>f);cases ok with|false=>exact Md ⟨rfl,B⟩|true=>exact Ma (Ma (Mb B (λx y H=>Ma (Mb H (λ_ z I=>Md (Md ⟨rfl,I⟩)) λ_ _ f=>f)) λ_ _ f=>f)))
section
variable {X : Cx}
def tLc(wi:TI)(p:TG)(q:TT)(r:TE)(f:List Nat):TE:=λg a s=>wi g a λh l=>∀b,l b=none→∃W:Nat→Nat→Hp→Prop,(∃e,W 0 e (upd l b (.lst [])))∧∀c e a,W c e a→(h.stop c a∧s (.ref b) a)∨(h.go c a∧∃i:Hp→Prop,(∀d,i d→∃m,m<e∧W (c+1) m d)∧∀x d,h.yld c a x d→p x (wipe g f) d λj u=>wipe j f=wipe g f∧q j u λv n=>if v=true then r j n λy o=>∃acc,o b=some (.lst acc)∧acc.length<sizeLine∧i (upd o b (.lst (acc++[y])))else i n)
theorem zV{p:Shared}{q:Hp}{own:List (Str×Nat)}{Y:Pos}{wi:TI}{use:Option (Value→Sem Unit)}(aA:X.calm=true)(bl:X.N.Nodup)(Z:Inv X pins σ q p)(bm:PI X tg iter wi)(ok:ug X.N X.env.scope c own)(bn:∀(p:Shared)(q:Hp)(r:Addr)(H:List (Str×Addr))(d:List Addr),PG (X.blk p q c (compEnvC c H r X.env) d) tg g)(bv:∀(p:Shared)(q:Hp)(r:Addr)(H:List (Str×Addr))(d:List Addr),PTs (X.blk p q c (compEnvC c H r X.env) d) ifs tt)(bP:∀(p:Shared)(q:Hp)(r:Addr)(H:List (Str×Addr))(d:List Addr),PE (X.blk p q c (compEnvC c H r X.env) d) elt te)(bT:∀x,foldedSetIterable iter X.env x=pure x)(b1:tLc wi g tt te (own.map (·.2)) σ q Q)(b2:∀i r j z h,Inv X pins σ h j→Q (.ref i) h→j.heap.Ns r z→pU X pins h r→compPost (model X.prog X.w) X.A X.xe use Qf (.ref i) r (.ok .next) j):wpAny (model X.prog X.w) X.A (comprehension (.ListComp elt [⟨tg,iter,ifs,0⟩] c Y) c X.env pos' (newList []) false (eval iter X.env) use) Qf X.xe p:=by f_assign(
 have b3:∀y∈c.names,y.2=.free→∃ac,X.env.cells.lookup y.1=some ac:=λy ah f=>by
  rcases ok.free y ah f with k|k;·exact Z.ok.has _ (.inl k)
  ·exact Z.ok.has _ (.inr k)
 refine wpAny_comprehension_free (use:=use) rfl bT (rF b3) ok.kind (λy ah f=>by rw[ok.uniq y ah,f]) (thn (bm pins p σ q _ Z b1) λdL dT b4=>thn b4 λdV C b5=>?_);obtain⟨aE,d,I,dW,v,f,aI,s,aK,aM,b6⟩:=b5;subst f;refine KZ (wL ?_) (by show 0≤sizeLine;decide);generalize J:C.heap.objs.size=i;have b7:v i=none:=aI.hok.fresh (Nat.le_of_eq J);obtain⟨W,⟨b8,aN⟩,b9⟩:=b6 i b7;generalize aP:({C with heap:=C.heap.push {cls:=.type "list",data:=.seq ([]:List Value).toArray}}:Shared)=b;have L:Inv X pins σ (upd v i (.lst [])) b:=by rw[←aP];refine aI.laid (t':=C.toks) (λa l f=>JK _ f) (Nat.le_of_eq J) ⟨L7 _,[],0,.nil,?_⟩;rw[←J];exact Kc _ rfl
 have aR:b.heap=C.heap.push {cls:=.type "list",data:=.seq ([]:List Value).toArray}:=by rw[←aP]
 have sz:∀a∈d,a<C.heap.objs.size:=λa e=>by obtain⟨l,f,_⟩:=s.obj _ _ aK a e;exact LU f
 have A:∀a∈d,pU X pins (upd v i (.lst [])) a∧a<b.heap.objs.size:=λa e=>by have aT:=sz a e;refine⟨⟨?_,(aM a e).2⟩,by rw[aR,LA];exact KR aT⟩;rw[ak (by rw[←J];exact L3 aT)];exact(aM a e).1
 have ca:I 0 b.heap:=s.keep _ _ _ aK λa _ l f=>by rw[aR];exact JK _ f
 have M:=wM L ok bl A;have al:=bn b (upd v i (.lst [])) b.heap.objs.size (cellsFrom (b.heap.objs.size+1) c.names (bB X.env.cells c.names [])) d;have pt:=bv b (upd v i (.lst [])) b.heap.objs.size (cellsFrom (b.heap.objs.size+1) c.names (bB X.env.cells c.names [])) d;have am:=bP b (upd v i (.lst [])) b.heap.objs.size (cellsFrom (b.heap.objs.size+1) c.names (bB X.env.cells c.names [])) d;show codeAny _ _ (.compStart (.ListComp elt [⟨tg,iter,ifs,0⟩] c Y) 0 (.ref aE) (.ref i) (compEnvC c (cellsFrom (b.heap.objs.size+1) c.names (bB X.env.cells c.names [])) b.heap.objs.size X.env)) (compPost (model X.prog X.w) X.A X.xe use Qf (.ref i) b.heap.objs.size) {b with heap:=pushCells (b.heap.push {cls:=.type "dict",data:=.dict #[]}) c.names};have aU:∀a∈d,(upd v i (.lst [])) a=none:=λa e=>(A a e).1.1;generalize cc:compEnvC c (cellsFrom (b.heap.objs.size+1) c.names (bB X.env.cells c.names [])) b.heap.objs.size X.env=m at M al pt am⊢;have a0:m.locals=b.heap.objs.size:=by subst cc;rfl
 generalize dX:upd v i (.lst [])=u at L M al pt am aN aU A;generalize cd:({b with heap:=pushCells (b.heap.push {cls:=.type "dict",data:=.dict #[]}) c.names}:Shared)=a1 at M⊢;have a2:I 0 a1.heap:=s.keep _ _ _ ca λa _ l f=>by rw[←cd];exact pushCells_keeps _ _ _ _ (JK _ f)
 have an:∀{a3:St}{h:Hp}{j:Shared},Inv (X.blk b u c m d) [] a3 h j→(∀a∈d,h a=none)→∀a∈d,pU (X.blk b u c m d) [] h a:=λ{a3 h j}D E a e=>⟨E a e,(D.ok.exf a e).1,D.ok.exfs a e,.inl e,λx ac f=>(D.ok.exf a e).2 x ac f,λce cj=>absurd (show ce∈([]:List (Addr×Obj))++[]from cj) (by simp)⟩;have a4:codeAny (model X.prog X.w) X.A (.compLoop (.ListComp elt [⟨tg,iter,ifs,0⟩] c Y) 0 (.ref aE) (.ref i) m) (compPost (model X.prog X.w) X.A X.xe use Qf (.ref i) b.heap.objs.size) a1:=by
  refine va (λN j=>∃o h,Inv (X.blk b u c m d) [] (wipe σ (own.map (·.2))) h j∧I o j.heap∧(∀a∈d,h a=none)∧W o N h) ?_ b8 ⟨0,u,M,a2,aU,aN⟩;rintro N a5⟨o,B,O,a6,a7,cl⟩;rcases b9 o N B cl with⟨stop,qq⟩|⟨go,cm,co,step⟩
  ·have cp:=s.done (X.blk b u c m d) rfl rfl rfl aA o [] a5 _ B (λ_ _=>False) O (an O a7) a6 stop;refine Bo cp λcr R n=>?_;obtain⟨ap,F⟩:=n;subst ap;have S:Inv X pins σ B R:=L.IT (ch:=d) F.os F.base F.hok F.bare λa e=>⟨(A a e).1.2.2.2.1,(A a e).1.2.1,(A a e).1.2.2.2.2.1,(A a e).1.2.2.2.2.2⟩;have cs:B b.heap.objs.size=none:=by have G:B m.locals=none:=F.free;rw[a0]at G;exact G
   obtain⟨z,E,_⟩:=F.loc;have E:R.heap.Ns m.locals z:=E;rw[a0]at E;exact b2 i b.heap.objs.size R z B S qq E (L.fpOk (L6 _) cs)
  · have ct:=s.item (X.blk b u c m d) rfl rfl rfl aA o [] a5 _ B (λ_ _=>False) O (an O a7) a6 go;refine Bo ct λcr R n=>?_;obtain⟨cL,ap,cT⟩:=n;subst ap;refine Bo cT λ_ ar n=>?_;obtain⟨x,a8,S,c0,c1,av,c2⟩:=n;have c3:=S.pinned (an S c2) (s.obj _ _ av);refine Bo (al _ ar _ a8 x cL _ c3 c0 (step x a8 c1)) λ_ c4 n=>?_;obtain⟨T,c5,c6,a9,c7⟩:=n;refine Bo (pt _ c4 T c5 _ c6 c7) λa c9 n=>?_;obtain⟨da,bd,U⟩:=n;have bi:∀{j:Shared}{h:Hp},Inv (X.blk b u c m d) ([]++rj d ar.heap) T h j→cm h→∃z,z<N∧∃o h,Inv (X.blk b u c m d) [] (wipe σ (own.map (·.2))) h j∧I o j.heap∧(∀a∈d,h a=none)∧W o z h:=λ{j h}D ax=>by
      obtain⟨db,dd,dn⟩:=co h ax;have bj:∀a∈d,∀l,ar.heap.get? a=some l→j.heap.get? a=some l∧h a=none:=λa e l f=>let G:=D.pin (a,l) (JW _ (JW _ (mi e f)));⟨G.1,G.2.1⟩;have dr:(wipe σ (own.map (·.2))).length=T.length:=by rw[←a9,jW]
      refine⟨db,dd,o+1,h,(D.iU (pins:=[])).weak dr (λd0 d1 f=>?_),s.keep _ _ _ av λa e l f=>(bj a e l f).1,λa e=>?_,dn⟩;·rw[←a9]at f;exact(oC f).1
      ·obtain⟨l,f,_⟩:=s.obj _ _ av a e;exact(bj a e l f).2
    cases a with|false=>simp only[Bool.false_eq_true,if_false]at U⊢;exact bi bd U|true=>simp only[if_true]at U⊢;refine Bo (am _ c9 T da _ bd U) λG d2 n=>?_;obtain⟨d3,d4,ds,dx,acc,dy,dA,ax⟩:=n;exact GN (X:=X.blk b u c m d) ds dy dA dx λd5 dK=>bi dK ax
 exact codeAny_compStart_list a4 (s.self X.A 0 _ _ _ a2 a4))
theorem hG{own:List (Str×Nat)}{f:Pos}{wi:TI}(h:X.calm=true)(i:X.N.Nodup)(j:PI X tg iter wi)(ok:ug X.N X.env.scope scope own)(l:∀(a:Shared)(b:Hp)(c:Addr)(d:List (Str×Addr))(e:List Addr),PG (X.blk a b scope (compEnvC scope d c X.env) e) tg g)(m:∀(a:Shared)(b:Hp)(c:Addr)(d:List (Str×Addr))(e:List Addr),PTs (X.blk a b scope (compEnvC scope d c X.env) e) ifs tt)(n:∀(a:Shared)(b:Hp)(c:Addr)(d:List (Str×Addr))(e:List Addr),PE (X.blk a b scope (compEnvC scope d c X.env) e) elt te)(o:∀x,foldedSetIterable iter X.env x=pure x:=by intro _;rfl):PE X (.ListComp elt [⟨tg,iter,ifs,0⟩] scope f) (tLc wi g tt te (own.map (·.2))):=by intro M a N b O p q;rw[eval_ListComp];refine zV h i p j ok l m n o q λr c s u v y z A B=>⟨u,A,λQ C=>?_⟩;obtain⟨D,E,R,F,G,H⟩:=B;exact⟨.ref r,v,y.turned (t':=s.toks) (λI S J L=>(C.2 I J).trans L) D E F G H,rfl,z⟩
theorem wN{i:Nat}{f b:Expr}{h:List Expr}{own:List (Str×Nat)}{m r:Pos}{wi:TI}(E:X.calm=true)(s:X.N.Nodup)(F:X.N[i]?=some y)(u:X.env.scope.names.lookup y=some .local)(G:swapsWith (.ListComp elt [⟨f,b,h,0⟩] scope m) (some (.Name y py)) r.line X.env=pure true)(H:PI X f b wi)(ok:ug X.N X.env.scope scope own)(I:∀(c:Shared)(d:Hp)(e:Addr)(j:List (Str×Addr))(l:List Addr),PG (X.blk c d scope (compEnvC scope j e X.env) l) f g)(J:∀(c:Shared)(d:Hp)(e:Addr)(j:List (Str×Addr))(l:List Addr),PTs (X.blk c d scope (compEnvC scope j e X.env) l) h tt)(L:∀(c:Shared)(d:Hp)(e:Addr)(j:List (Str×Addr))(l:List Addr),PE (X.blk c d scope (compEnvC scope j e X.env) l) elt te)(M:∀x,foldedSetIterable b X.env x=pure x:=by intro _;rfl):PS X (.Assign [.Name y py] (.ListComp elt [⟨f,b,h,0⟩] scope m) r) (Ey (tLc wi g tt te (own.map (·.2))) (jP i)):=by f_assign(
 intro N c z d A O n;rw[exec_Assign_Name_used _ _ _ _ G];refine Ma (wpAny_standAt (Ma ?_));show wpAny _ X.A (do let _←comprehension (.ListComp elt [⟨f,b,h,0⟩] scope m) scope X.env (firstIterPos [⟨f,b,h,0⟩] m) (newList []) false (eval b X.env) (some (assign (.Name y py) X.env))) _ _ c;have n:tLc wi g tt te (own.map (·.2)) z d (λx Q=>jP i x z Q A.nx):=n;refine Ma (thn (zV (Qf:=λ_ o=>SP X N A .next o) E s O H ok I J L M n λB e o R S T U Y Z=>?_) λ_ o ac=>Md (Md ac));show wpAny _ _ (assign (.Name y py) X.env (.ref B)) _ _ _;refine wpAny_assign_Name (tY (v:=V.ref B) T s F (.inl u) rfl (λah al am=>?_) (.inr u));obtain⟨a,an,ap⟩:=am;obtain⟨ar,C,aM,av,D,ax⟩:=Z;have aA:e≠a:=by
  rcases ap with p|p;·rw[p];exact C
  ·exactλq=>D y a p q.symm
 refine⟨R,Y.sameBut an aA,λaN aE=>?_⟩;exact⟨_,S,al.turned (t':=ah.toks) (λaI aP aK q=>(aE.2 aI aK).trans q) ar C av D ax,U⟩)
theorem zW{e:List Comprehension}{b:Scope}{c d:Pos}{f:Nat}{a:Env}(g:a.scope.kind=.function)(h:a.scope.names.lookup y=some .local)(i:(d.line==c.line)=true)(j:(b.names.any λ(l,k)=>l==y&&(k==.local||k==.cell))=false):swapsWith (.ListComp elt e b c) (some (.Name y d)) f a=pure true:=by
 have m:a.kindOf y=some .local:=h;have n:a.blockKind=.function:=by unfold Env.blockKind;rw[g];rfl
 unfold swapsWith;simp only[n,m,j,Expr.pos,i];rfl
end
theorem GO{K:PySem.W.Frag}{xs:List V}{r:TG}{s:TT}{u:TE}{h:List Nat}{v:Hp→Prop}(d:Nat→Hp→Prop)(B:d 0 (upd H1 D (.lst [])))(C:∀b c,b≤xs.length→d b c→SqT K c a xs)(E:∀b x c,xs[b]?=some x→d b c→r x (wipe σ h) c λe l=>wipe e h=wipe σ h∧s e l λm i=>if m=true then u e i λy j=>∃acc,j D=some (.lst acc)∧acc.length<sizeLine∧d (b+1) (upd j D (.lst (acc++[y])))else d (b+1) i)(F:∀c,d xs.length c→v c):∃W:Nat→Nat→Hp→Prop,(∃f,W 0 f (upd H1 D (.lst [])))∧∀b f c,W b f c→((Itt K a).stop b c∧v c)∨((Itt K a).go b c∧∃n:Hp→Prop,(∀g,n g→∃z,z<f∧W (b+1) z g)∧∀x g,(Itt K a).yld b c x g→r x (wipe σ h) g λe l=>wipe e h=wipe σ h∧s e l λm i=>if m=true then u e i λy j=>∃acc,j D=some (.lst acc)∧acc.length<sizeLine∧n (upd j D (.lst (acc++[y])))else n i):=by f_assign(
 refine⟨λb f c=>f=xs.length-b∧b≤xs.length∧d b c,⟨xs.length,by simp,L7 _,B⟩,?_⟩;rintro b f c⟨rfl,G,o⟩;have p:=C b c G o;by_cases A:b<xs.length;·refine .inr ⟨⟨xs,xs[b],p,by simp[A]⟩,d (b+1),λg H=>⟨xs.length-(b+1),by lia,rfl,A,H⟩,λx g y=>?_⟩;obtain⟨q,y⟩:=y;subst q;exact E b x _ (y xs p) o
 ·have q:b=xs.length:=by lia
  subst q;exact .inl ⟨⟨xs,p,L6 _⟩,F c o⟩)
def GP(b:List Str)(d a:Scope)(own:List (Str×Nat)):Bool:=(match a.kind with|.function=>true|_=>false)&&(a.names.all λy=>decide (a.names.lookup y.1=some y.2))&&(own.all λc=>decide (b[c.2]?=some c.1))&&(a.names.all λy=>match y.2 with|.free=>(match d.names.lookup y.1 with|some .cell=>true|some .free=>true|_=>false)|.local=>decide (y.1∈own.map (·.1))||decide (y.1∉b)|.cell=>decide (y.1∈own.map (·.1))||decide (y.1∉b)|_=>true)
theorem CG{e:List Str}{own:List (Str×Nat)}(c:GP e sc scope own=true):ug e sc scope own:=by f_assign(
 unfold GP at c;simp only[Bool.and_eq_true,List.all_eq_true,decide_eq_true_eq]at c;obtain⟨⟨⟨f,h⟩,i⟩,g⟩:=c;refine⟨?_,h,i,λy d a=>?_,λy d a=>?_⟩
 ·split at f;·assumption
  ·cases f
 ·have b:=g y d;simp only[a]at b;split at b<;>first|exact .inl (by assumption)|exact .inr (by assumption)|cases b
 ·have b:=g y d;rcases a with a|a<;>(simp only[a,Bool.or_eq_true,decide_eq_true_eq]at b;exact b))
section
variable {κ : Type} [DecidableEq κ]
def bt(a:List (κ×V))(k:κ):Option V:=(a.find? λb=>decide (b.1=k)).map (·.2)
def putK(b:List (κ×V))(k:κ)(c:V):List (κ×V):=if(b.any λa=>decide (a.1=k))=true then b.map (λa=>if a.1=k then(a.1,c)else a)else b++[(k,c)]
def jx(a:List (κ×V))(k:κ):List (κ×V):=a.filter λb=>decide (b.1≠k)
theorem cV{p:κ×V}{a:List (κ×V)}{k:κ}(b:p.1=k):bt (p::a) k=some p.2:=by simp[bt,List.find?_cons,b]
theorem cW{p:κ×V}{a:List (κ×V)}{k:κ}(b:¬p.1=k):bt (p::a) k=bt a k:=by simp[bt,List.find?_cons,b]
theorem iI(k:κ):∀b:List (κ×V),(b.any λc=>decide (c.1=k))=(bt b k).isSome
 |[]=>rfl|d::e=>by
  rw[LJ];by_cases a:d.1=k;·simp only[cV a,decide_eq_true a,Bool.true_or,Option.isSome_some]
  ·rw[cW a,Lx a,Bool.false_or];exact iI k e
theorem valV_map(k b:κ)(y:V):∀e:List (κ×V),bt (e.map λd=>if d.1=k then(d.1,y)else d) b=(bt e b).map λx=>if b=k then y else x|[]=>rfl|p::g=>by f_assign(
 have f:=valV_map k b y g;rw[LM];by_cases c:p.1=k
 ·rw[Mj c];by_cases a:p.1=b;·rw[cV (p:=(p.1,y)) a,cV a,Option.map_some,Mj (a.symm.trans c)]
  ·rw[cW (p:=(p.1,y)) a,cW a,f]
 ·rw[Mi c];by_cases a:p.1=b;·rw[cV (p:=p) a,cV a,Option.map_some,Mi (λh=>c (a.trans h))]
  ·rw[cW (p:=p) a,cW a,f])
theorem uh(k b:κ)(y:V):∀e:List (κ×V),bt e k=none→bt (e++[(k,y)]) b=if b=k then some y else bt e b
 |[],_=>by
  by_cases a:k=b;·rw[Mj a.symm];exact cV (p:=(k,y)) a
  ·rw[Mi (λc=>a c.symm)];exact cW (p:=(k,y)) a|p::g,d=>by
  rw[List.cons_append];have f:¬p.1=k:=λc=>by rw[cV c]at d;cases d
  rw[cW f]at d;have h:=uh k b y g d;by_cases a:p.1=b;·rw[cV a,cV a,Mi (λc=>f (a.trans c))]
  ·rw[cW a,cW a,h]
theorem CI(b:List (κ×V))(k c:κ)(y:V):bt (putK b k y) c=if c=k then some y else bt b c:=by f_assign(
 unfold putK;by_cases a:(b.any λe=>decide (e.1=k))=true
 ·rw[Mj a,valV_map];rw[iI]at a;by_cases d:c=k;·obtain⟨x,f⟩:=Option.isSome_iff_exists.mp a;rw[Mj d,d,f,Option.map_some,Mj rfl]
  ·rw[Mi d];cases bt b c with|none=>rfl|some x=>rw[Option.map_some,Mi d]
 ·rw[Mi a];refine uh k c y b ?_;rw[iI]at a;cases q:bt b k with|none=>rfl|some x=>rw[q]at a;exact(a rfl).elim)
theorem pL(a:List (κ×V))(k:κ)(b:V):(putK a k b).length≤a.length+1:=by
 unfold putK;split;·rw[Ln];lia
 ·rw[Kr,K9,Lo];lia
theorem putK_new{a:List (κ×V)}{k:κ}(b:V)(c:bt a k=none):putK a k b=a++[(k,b)]:=by unfold putK;rw[iI,c];exact Mi (by decide)
theorem i5.iV{b:Option V}{a:Option Value}(c:i5 b a):b.isSome=a.isSome:=by cases b with
 |none=>cases a with|none=>rfl|some _=>exact(show False from c).elim
 |some _=>cases a with|none=>exact(show False from c).elim|some _=>rfl
theorem i5.getD{b:Option V}{a:Option Value}(c:i5 b a)(rd:RelV d d'):RelV (b.getD d) (a.getD d'):=by cases b with
 |none=>cases a with|none=>exact rd|some _=>exact(show False from c).elim
 |some _=>cases a with|none=>exact(show False from c).elim|some _=>exact c
theorem KV.val{f:List (κ×V)}{g:List (κ×Value)}(h:KV f g)(k:κ):i5 (bt f k) (valueAt g k):=by f_assign(unfold KV at h;induction h with|nil=>exact True.intro|@cons j a p c l t m=>
 obtain⟨i,n⟩:=l;by_cases b:j.1=k
 ·have d:a.1=k:=i.symm.trans b;have e:valueAt (a::c) k=some a.2:=by simp[valueAt,List.find?_cons,d]
  rw[cV b,e];exact n
 ·have d:¬a.1=k:=λo=>b (i.trans o);have e:valueAt (a::c) k=valueAt c k:=by simp[valueAt,List.find?_cons,d]
  rw[cW b,e];exact m)
theorem KV.any{b:List (κ×V)}{c:List (κ×Value)}(d:KV b c)(k:κ):(b.any λa=>decide (a.1=k))=c.any λa=>decide (a.1=k):=by unfold KV at d;induction d with|nil=>rfl|cons e t f=>rw[LJ,LJ,f,e.1]
theorem KV.repl{d:List (κ×V)}{e:List (κ×Value)}(f:KV d e)(k:κ)(g:RelV y u):KV (d.map λa=>if a.1=k then(a.1,y)else a) (e.map λa=>if a.1=k then(a.1,u)else a):=by unfold KV at f⊢;induction f with|nil=>exact .nil|@cons h n o p i t j=>
 rw[LM,LM];refine .cons ?_ j;obtain⟨b,l⟩:=i;by_cases c:h.1=k;·rw[Mj c,Mj (b.symm.trans c)];exact⟨b,g⟩
 ·rw[Mi c,Mi (λm=>c (b.trans m))];exact⟨b,l⟩
theorem KV.put{d:List (κ×V)}{b:List (κ×Value)}(c:KV d b)(k:κ)(e:RelV y u):KV (putK d k y) (stored b k u):=by
 unfold putK stored;rw[c.any k];by_cases a:(b.any λf=>decide (f.1=k))=true;·rw[Mj a,Mj a];exact c.repl k e
 ·rw[Mi a,Mi a];exact Paired.snoc c ⟨rfl,e⟩
theorem KV.length{a:List (κ×V)}{b:List (κ×Value)}(c:KV a b):a.length=b.length:=LQ c
end
theorem pM{P:Program}{w:World}{k:Key}(b:RelV (kV k) u):(bz P w).is k u=true:=by cases k with|inl c=>obtain⟨t,a⟩:=(show∃t,u=Value.int c t from b);subst a;exact wA P w c t|inr x=>obtain⟨t,a⟩:=(show∃t,u=Value.str x t from b);subst a;exact wB P w x t
theorem GQ(d:kV a=kV b):a=b:=by cases a with
 |inl f=>cases b with|inl e=>have c:V.int f=V.int e:=d;injection c with c;rw[c]|inr y=>exact nomatch(show V.int f=V.str y from d)
 |inr x=>cases b with|inl e=>exact nomatch(show V.str x=V.int e from d)|inr y=>have c:V.str x=V.str y:=d;injection c with c;rw[c]
theorem zX:∀{a c:List Key},a.map kV=c.map kV→a=c|[],[],_=>rfl|[],_::_,b=>by simp at b|_::_,[],b=>by simp at b|x::d,y::e,b=>by rw[LM,LM]at b;injection b with e1 e2;rw[GQ e1,zX e2]
theorem ui{P:Program}{w:World}:∀{b:List Key}{c:List Value},aZ (b.map kV) c→ItemsAre (bz P w) b c|[],_,a=>by rw[LW]at a;cases a;exact .nil|k::b,_,a=>by rw[LM]at a;cases a with|cons d t=>exact .cons (pM d) (ui t)
abbrev KT(H:Hp):List (List Key×V)→List (List Key×Addr×Value)→Prop:=Paired λp q=>p.1=q.1∧H q.2.1=some (.tup (p.1.map kV))∧RelV p.2 q.2.2
theorem KT.val{f:List (List Key×Addr×Value)}(h:KT H kvs f)(k:List Key):i5 (bt kvs k) ((atKey f k).map (·.2)):=by f_assign(induction h with|nil=>exact True.intro|@cons i a o c j t l=>
 obtain⟨g,_,m⟩:=j;by_cases b:i.1=k
 ·have d:a.1=k:=g.symm.trans b;have e:atKey (a::c) k=some a.2:=by simp[atKey,List.find?_cons,d]
  rw[cV b,e];exact m
 ·have d:¬a.1=k:=λn=>b (g.trans n);have e:atKey (a::c) k=atKey c k:=by simp[atKey,List.find?_cons,d]
  rw[cW b,e];exact l)
theorem KT.repl{d:List (List Key×V)}{e:List (List Key×Addr×Value)}(g:KT H d e)(k:List Key)(h:RelV y u):KT H (d.map λc=>if c.1=k then(c.1,y)else c) (e.map (putAt k u)):=by induction g with|nil=>exact .nil|@cons i o p q j t l=>
 rw[LM,LM];refine .cons ?_ l;obtain⟨a,f,m⟩:=j;unfold putAt;by_cases b:i.1=k;·rw[Mj b,Mj (a.symm.trans b)];exact⟨a,f,h⟩
 ·rw[Mi b,Mi (λn=>b (a.trans n))];exact⟨a,f,m⟩
theorem KT.put{a:List (List Key×Addr×Value)}(d:KT H kvs a)(k:List Key)(f:H b=some (.tup (k.map kV)))(e:RelV y u):KT H (putK kvs k y) (storedH a k b u):=by
 have g:(kvs.any λh=>decide (h.1=k))=(atKey a k).isSome:=by rw[iI,(d.val k).iV,Option.isSome_map]
 unfold putK storedH;rw[g];by_cases c:(atKey a k).isSome=true;·rw[Mj c,Mj c];exact d.repl k e
 ·rw[Mi c,Mi c];exact Paired.snoc d ⟨rfl,f,e⟩
theorem KT.keeps{b:Hp}{c:List (List Key×Addr×Value)}(f:KT H kvs c)(g:∀d e,H d=some (.tup e)→b d=some (.tup e)):KT b kvs c:=Paired.mapP f λ_ _ a=>⟨a.1,g _ _ a.2.1,a.2.2⟩
section
variable {P : Program} {w : World} {H : Hp} {h : Heap} {a : Addr}
theorem FQ(ok:HOk P w H h)(b:Rd H a u):bU P w H h a u:=b.ok ok
theorem mW{b:List (Key×V)}(ok:HOk P w H h)(d:Rd H a (.dK b)):b.length≤sizeLine∧(a==sysModules)=false∧∃c,KV b c∧h.DictOf (bz P w) a c:=show bU P w H h a (.dK b)from FQ ok d
theorem HW{b:List (Key×V)}(ok:HOk P w H h)(d:H a=some (.dK b)):b.length≤sizeLine∧(a==sysModules)=false∧∃c,KV b c∧h.DictOf (bz P w) a c:=mW ok (.inl d)
theorem mj{b:List Key}(ok:HOk P w H h)(c:H a=some (.tup (b.map kV))):(tupleKind (bz P w)).is h b a:=by obtain⟨_,d,e,f,g,i,j,l⟩:=(show bU P w H h a (.tup (b.map kV))from ok a _ c);exact⟨f,d.toArray,j,g,i,l,by simpa using ui e⟩
theorem mX{c:List (List Key×V)}(ok:HOk P w H h)(e:Rd H a (.dT c)):c.length≤sizeLine∧(a==sysModules)=false∧∃d,KT H c d∧h.DictOfH (tupleKind (bz P w)) a d:=by f_assign(
 obtain⟨m,y,d,g,n,o,p,q,r,s,u,v⟩:=(show bU P w H h a (.dT c)from FQ ok e);refine⟨m,y,d,g,n,o,p,q,r,s,u,λx b=>?_,v⟩;have all:∀{i:List (List Key×V)}{f:List (List Key×Addr×Value)},KT H i f→∀x∈f,(tupleKind (bz P w)).is h x.1 x.2.1:=by intro i f j;induction j with|nil=>intro x b;exact nomatch b|@cons A j B C l t z=>
  intro x b;rcases LN.mp b with e|b;·subst e;exact mj ok (by rw[←l.1];exact l.2.1)
  ·exact z x b
 exact all g x b)
theorem HX{b:List (List Key×V)}(ok:HOk P w H h)(d:H a=some (.dT b)):b.length≤sizeLine∧(a==sysModules)=false∧∃c,KT H b c∧h.DictOfH (tupleKind (bz P w)) a c:=mX ok (.inl d)
end
def gm(c:Hp)(a:Addr)(y:V)(d:Option V):Prop:=(∃b k,Rd c a (.dK b)∧y=kV k∧d=bt b k)∨∃b k e,Rd c a (.dT b)∧y=.ref e∧c e=some (.tup (k.map kV))∧d=bt b k
def iA(c:Hp)(a:Addr)(y d:V)(e:Hp):Prop:=(∃b k,c a=some (.dK b)∧y=kV k∧b.length<sizeLine∧e=upd c a (.dK (putK b k d)))∨∃b k f,c a=some (.dT b)∧y=.ref f∧c f=some (.tup (k.map kV))∧b.length<sizeLine∧e=upd c a (.dT (putK b k d))
theorem gm.k{b:Hp}{k:Key}(c:b a=some (.dK kvs)):gm b a (kV k) (bt kvs k):=.inl ⟨kvs,k,.inl c,rfl,rfl⟩
theorem gm.t{c:Hp}{k:List Key}(d:c a=some (.dT kvs))(eb:c b=some (.tup (k.map kV))):gm c a (.ref b) (bt kvs k):=.inr ⟨kvs,k,b,.inl d,rfl,eb,rfl⟩
theorem iA.k{c:Hp}{b:List (Key×V)}{k:Key}(d:c a=some (.dK b))(e:b.length<sizeLine):iA c a (kV k) v (upd c a (.dK (putK b k v))):=.inl ⟨b,k,d,rfl,e,rfl⟩
theorem iA.t{c:Hp}{d:List (List Key×V)}{k:List Key}(e:c a=some (.dT d))(eb:c b=some (.tup (k.map kV)))(f:d.length<sizeLine):iA c a (.ref b) v (upd c a (.dT (putK d k v))):=.inr ⟨d,k,b,e,rfl,eb,f,rfl⟩
section
variable {X : Cx} {pins : List (Addr × Obj)} {σ : St} {H : Hp} {s : Shared} {a : Addr} {y v : V} {u r : Value} {o : Option V} {A : Around} {E : Value → Shared → Prop}
theorem Inv.big(b:Inv X pins σ H s):sysModules<s.heap.objs.size:=by have c:mainGlobals<s.heap.objs.size:=(b.mod.glob.keeps b.bk).lt;exact Nat.lt_trans (by decide) c
theorem Bp{j:Value→Shared→Prop}(q:A.units+1<cLine)(d:Inv X pins σ H s)(x:gm H a y (some v))(m:RelV y u)(n:∀c p,Inv X pins σ H p→RelV v c→j c p):wpAny (model X.prog X.w) A (getItem (.ref a) u) j E s:=by f_assign(
 rcases x with⟨kvs,k,e,ey,l⟩|⟨kvs,k,b,e,ey,eb,l⟩;·subst ey;obtain⟨z,B,C,f,g⟩:=mW d.hok e;obtain⟨c,h,i⟩:=i5.some_of (v:=v) (o:=valueAt C k) (by rw[l];exact f.val k);exact wpAny_getItem_of (pM m) g.mapOf h (n c _ (d.tok _) i)
 ·subst ey;cases(show u=Value.ref b from m);obtain⟨z,B,D,f,g⟩:=mX d.hok e;obtain⟨c,h,i⟩:=i5.some_of (v:=v) (o:=(atKey D k).map (·.2)) (by rw[l];exact f.val k);obtain⟨I,F,G⟩:=JQ.mp h;refine wpAny_getItem_heap (Ky q) (mj d.hok eb) g F ?_;rw[G];exact n c _ (d.tok _) i)
theorem Jc{h:Value→Shared→Prop}(p:A.units+1<cLine)(c:Inv X pins σ H s)(q:gm H a y o)(i:RelV y u)(j:∀m,Inv X pins σ H m→h (.bool o.isSome) m):wpAny (model X.prog X.w) A (compareOp .In u (.ref a)) h E s:=by f_assign(
 rcases q with⟨kvs,k,e,ey,l⟩|⟨kvs,k,b,e,ey,eb,l⟩;·subst ey;obtain⟨x,d,z,f,g⟩:=mW c.hok e;refine wpAny_in_of (pM i) d g.mapOf ?_;rw[←(f.val k).iV,←l];exact j _ (c.tok _)
 ·subst ey;cases(show u=Value.ref b from i);obtain⟨x,d,B,f,g⟩:=mX c.hok e;refine wpAny_in_heap (Ky p) (mj c.hok eb) d g ?_;have n:=(f.val k).iV;rw[Option.isSome_map]at n;rw[←n,←l];exact j _ (c.tok _))
theorem ES{h:Value→Shared→Prop}(p:A.units+1<cLine)(c:Inv X pins σ H s)(q:gm H a y o)(i:RelV y u)(j:∀m,Inv X pins σ H m→h (.bool (!o.isSome)) m):wpAny (model X.prog X.w) A (compareOp .NotIn u (.ref a)) h E s:=by f_assign(
 rcases q with⟨kvs,k,e,ey,l⟩|⟨kvs,k,b,e,ey,eb,l⟩;·subst ey;obtain⟨x,d,z,f,g⟩:=mW c.hok e;refine wpAny_notIn_of (pM i) d g.mapOf ?_;rw[←(f.val k).iV,←l];exact j _ (c.tok _)
 ·subst ey;cases(show u=Value.ref b from i);obtain⟨x,d,B,f,g⟩:=mX c.hok e;refine wpAny_notIn_heap (Ky p) (mj c.hok eb) d g ?_;have n:=(f.val k).iV;rw[Option.isSome_map]at n;rw[←n,←l];exact j _ (c.tok _))
theorem zY{b:Heap}{f:Nat}{c:HO}(g:Inv X pins σ H s)(h:Mut (H a))(i:Heap.SameBut a s.heap b)(j:∃d,b.get? a=some d)(new:bU X.prog X.w (upd H a c) b a c):Inv X pins σ (upd H a c) {s with heap:=b,toks:=f}:=g.write (x:=a) (e:=a) h (.inl rfl) (λl d m n=>(i.2 l m).trans n) j new
theorem GR{P:Program}{w:World}{d:Heap}{b:List (Key×V)}{c:List (Key×Value)}(e:b.length≤sizeLine)(f:(a==sysModules)=false)(g:KV b c)(h:d.DictOf (bz P w) a c):bU P w H' d a (.dK b):=⟨e,f,c,g,h⟩
theorem Bq{x:Unit→Shared→Prop}(G:A.units+1<cLine)(d:Inv X pins σ H s)(I:iA H a y v H')(z:RelV y u)(rv:RelV v r)(B:∀C,Inv X pins σ H' C→x () C):wpAny (model X.prog X.w) A (setItem (.ref a) u r) x E s:=by f_assign(
 rcases I with⟨kvs,k,e,ey,l,eH⟩|⟨kvs,k,b,e,ey,eb,l,eH⟩
 ·subst ey eH;obtain⟨f,j,J,g,m⟩:=HW d.hok e;have n:J.length≤sizeLine:=by rw[←g.length];exact f
  have p:(putK kvs k v).length≤sizeLine:=by have:=pL kvs k v;lia
  refine wpAny_setItem_pairs (hsz:=n) (pM z) m λD h q=>B _ ?_;have L:∃c,D.get? a=some c:=let⟨c,_,_,i,_⟩:=h;⟨c,i⟩;exact zY d (by rw[e];exact True.intro) q L (GR p j (g.put k rv) h)
 ·subst ey eH;cases(show u=Value.ref b from z);obtain⟨f,j,M,g,m⟩:=HX d.hok e;have n:M.length≤sizeLine:=by rw[←LQ g];exact f
  have p:(putK kvs k v).length≤sizeLine:=by have:=pL kvs k v;lia
  refine wpAny_setItem_heap (hsz:=n) (Ky G) (mj d.hok eb) m λD h q=>B _ ?_;obtain⟨c,N,O,i,Q,R,S,_,T⟩:=h;refine zY d (by rw[e];exact True.intro) q ⟨c,i⟩ ⟨p,j,_,(g.put k eb rv).keeps λU Y F=>?_,c,N,O,i,Q,R,S,T⟩;rw[ak (fJ F e (λf=>nomatch f))];exact F)
end
section
variable {X : Cx} {pins : List (Addr × Obj)} {σ : St} {H : Hp} {s : Shared} {a : Addr} {kvs : List (Key × V)} {k : Key} {u : Value} {A : Around} {E : Value → Shared → Prop}
theorem HY{b:Value→Shared→Prop}(c:Inv X pins σ H s)(f:Rd H a (.dK kvs))(g:∀t d,Inv X pins σ H d→b (.int kvs.length t) d):wpAny (model X.prog X.w) A (call (.builtin "len") [.ref a]) b E s:=by obtain⟨h,i,l,e,j⟩:=mW c.hok f;refine call_len_dict i j (by rw[←e.length];rw[sizeLine_eq]at h;lia) ?_;rw[←e.length];exact g _ _ (c.tok _)
end
def GS(c:Expr):Prop:=∀a b,subscripted c false a b=operate [a,b] (getItem a b)
theorem zZ{a:Program}{w:World}{b:Around}{j:Shared}{f:Env}{p:Pos}{l id:String}(q:typeLookup (.type l) "__getitem__"=pure (some (.builtin id)))(r:GS slice)(s:wpAny (model a w) b (eval value f) (λc m=>wpAny (model a w) b (eval slice f) (λd e=>e.TypeIs c l∧wpAny (model a w) b (getItem c d) Q E e) E m) E j):wpAny (model a w) b (eval (.Subscript value slice p) f) Q E j:=by f_assign(
 refine Subscript_ (Mb s (λc m u=>Mb u (λd e g=>?_) λ_ _ x=>x) λ_ _ x=>x);obtain⟨n,g⟩:=g;unfold subscriptTail;refine Ma ?_;rw[getitemInPython_of_ne n.not_modules];refine Ma (wpAny_specialOf n q ?_);have h:wpAny (model a w) b (subscripted slice false c d) (λi o=>wpAny (model a w) b (letTemporaryGo value c i>>=λ_=>pure i) Q E o) E e:=by rw[r c d];exact wpAny_operating (Mb g (λi o v=>Ma (wpAny_letTemporaryGo (Md v))) λ_ _ x=>x)
 first|exact Md (Ma h)|exact Ma (Md (Ma h))|exact Ma h)
theorem wO{d:Shared}{g:Option V}(f:Inv X pins σ H d)(h:gm H a y g):d.TypeIs (.ref a) "dict":=by
 rcases h with⟨kvs,k,e,_,_⟩|⟨kvs,k,b,e,_,_,_⟩;·obtain⟨_,_,i,_,c⟩:=mW f.hok e;exact c.typeIs
 ·obtain⟨_,_,j,_,c⟩:=mX f.hok e;exact c.typeIs
def CJ(e ty:TE):TE:=λb f g=>e b f λx h=>ty b h λy c=>∃a d,x=.ref a∧gm c a y (some d)∧g d c
def HZ(ty e:TE):TE:=λb f g=>ty b f λy h=>e b h λx c=>∃a d,x=.ref a∧gm c a y d∧g (.bl d.isSome) c
def z4(ty e:TE):TE:=λb f g=>ty b f λy h=>e b h λx c=>∃a d,x=.ref a∧gm c a y d∧g (.bl (!d.isSome)) c
def FR(d ty e:TE):TS:=λf b g=>e b g λh i=>d b i λx j=>ty b j λy l=>∃a c,x=.ref a∧iA l a y h c∧f.nx b c
section
variable {X : Cx} {o i e value : Expr} {pos pos' tpos : Pos} {td ty tv : TE}
theorem d6(g:X.A.units+1<cLine)(h:PE X o td)(j:PE X i ty)(l:GS i):PE X (.Subscript o i pos) (CJ td ty):=by intro b m c n J p q;refine zZ PySem.F.slot_dict_getitem.lookup l (bu (h b m c n _ p q) λr s x u v z A=>bu (j b s c u _ v A) λL M y B d C D=>?_);obtain⟨a,E,F,f,G⟩:=D;subst F;obtain rfl:r=Value.ref a:=z;exact⟨wO d f,Bp g d f C λN O H I=>⟨E,B,H,I,G⟩⟩
theorem vc(d:X.A.units+1<cLine)(f:PE X i ty)(g:PE X o td):PC X .In i o (HZ ty td):=by intro b h c j H l m;refine bu (f b h c j _ l m) λI n y p q r s=>bu (g b n c p _ q s) λu J x v z A B=>?_;obtain⟨a,C,D,E,F⟩:=B;subst D;obtain rfl:u=Value.ref a:=A;exact Jc d z E r λL G=>⟨.bl C.isSome,v,G,rfl,F⟩
theorem oE(d:X.A.units+1<cLine)(f:PE X i ty)(g:PE X o td):PC X .NotIn i o (z4 ty td):=by intro b h c j H l m;refine bu (f b h c j _ l m) λI n y p q r s=>bu (g b n c p _ q s) λu J x v z A B=>?_;obtain⟨a,C,D,E,F⟩:=B;subst D;obtain rfl:u=Value.ref a:=A;exact ES d z E r λL G=>⟨.bl (!C.isSome),v,G,rfl,F⟩
theorem df(d:X.A.units+1<cLine)(f:PE X o td)(g:PE X i ty)(h:PE X value tv)(j:swapsWith value (some (.Subscript o i pos')) pos.line X.env=pure false):PS X (.Assign [.Subscript o i pos'] value pos) (FR td ty tv):=by intro c l b m N n p;refine wpAny_Assign_Subscript (bu (h c l b m _ n p) λO q Q r s rv u=>bu (f c q b r _ s u) λv z x A B C D=>bu (g c z b A _ B D) λR S y T E F G=>?_) j;obtain⟨a,H,I,J,L⟩:=G;subst I;obtain rfl:v=Value.ref a:=C;exact Bq d E J F rv λU M=>⟨b,H,M,L⟩
end
theorem CK{P:Program}{w:World}(a:Heap)(b:sysModules<a.objs.size):bU P w H (a.push {cls:=.type "dict",data:=.dict #[]}) a.objs.size (.dK []):=⟨L7 _,Kj.mpr (Mg (L3 b)),[],.nil,Heap.DictOf.new a⟩
theorem CL{P:Program}{w:World}(a:Heap)(b:sysModules<a.objs.size):bU P w H (a.push {cls:=.type "dict",data:=.dict #[]}) a.objs.size (.dT []):=⟨L7 _,Kj.mpr (Mg (L3 b)),[],.nil,_,#[],0,Kc _ rfl,⟨rfl,rfl,rfl⟩,rfl,rfl,List.nodup_nil⟩
def CM:TE:=λ_ b c=>∀a,b a=none→c (.ref a) (upd b a (.dK []))
def CN:TE:=λ_ b c=>∀a,b a=none→c (.ref a) (upd b a (.dT []))
section
variable {X : Cx} {pos : Pos}
theorem rG:PE X (.Dict [] [] pos) CM:=λf b g h i c d=>wpAny_Dict_empty ⟨.ref b.heap.objs.size,_,c.laid (a:=b.heap.objs.size) (o:=.dK []) (t':=b.toks) (λ_ _ e=>JK _ e) (L6 _) (CK b.heap c.big),rfl,d _ (c.hok.fresh (L6 _))⟩
theorem cX:PE X (.Dict [] [] pos) CN:=λf b g h i c d=>wpAny_Dict_empty ⟨.ref b.heap.objs.size,_,c.laid (a:=b.heap.objs.size) (o:=.dT []) (t':=b.toks) (λ_ _ e=>JK _ e) (L6 _) (CL b.heap c.big),rfl,d _ (c.hok.fresh (L6 _))⟩
end
structure M1(X:Cx)(o:Expr)(m:Str)(apos:Pos)(e:Expr)(cpos:Pos):Prop where
 base:attributeBase o m X.env (eval o X.env)=eval o X.env
 few:((backTo cpos (starEach [e] X.env)).all (λx=>!x.1)&&(backToKw cpos (keywordEach [] X.env)).all (λx=>x.1.isSome)&&decide (([e]:List Expr).length+([]:List Keyword).length+(if([]:List Keyword).isEmpty then 0 else 1)<30))=true
 line:(apos.endLine==cpos.line)=true
 trees:backTo cpos (starEach [e] X.env)=[(false,eval e X.env)]
structure M2(X:Cx)(o:Expr)(m:Str)(apos:Pos)(e f:Expr)(cpos:Pos):Prop where
 base:attributeBase o m X.env (eval o X.env)=eval o X.env
 few:((backTo cpos (starEach [e,f] X.env)).all (λx=>!x.1)&&(backToKw cpos (keywordEach [] X.env)).all (λx=>x.1.isSome)&&decide (([e,f]:List Expr).length+([]:List Keyword).length+(if([]:List Keyword).isEmpty then 0 else 1)<30))=true
 line:(apos.endLine==cpos.line)=true
 trees:backTo cpos (starEach [e,f] X.env)=[(false,eval e X.env),(false,eval f X.env)]
def IsD(c:Hp)(a:Addr):Prop:=(∃b,Rd c a (.dK b))∨∃b,Rd c a (.dT b)
theorem CO{e:Shared}(l:Inv X pins σ H e)(m:IsD H a):e.TypeIs (.ref a) "dict"∧(∀d,Value.ref a=.ref d→∃b,e.heap.get? d=some b∧b.dict=none)∧(a==sysModules)=false:=by
 rcases m with⟨n,f⟩|⟨n,f⟩;·obtain⟨_,g,o,_,c⟩:=mW l.hok f;refine⟨c.typeIs,λd h=>?_,g⟩;cases h;obtain⟨b,_,_,i,j,_⟩:=c;exact⟨b,i,j.2.1⟩
 ·obtain⟨_,g,p,_,c⟩:=mX l.hok f;refine⟨c.typeIs,λd h=>?_,g⟩;cases h;obtain⟨b,_,_,i,j,_⟩:=c;exact⟨b,i,j.2.1⟩
section
variable {X : Cx} {pins : List (Addr × Obj)} {σ : St} {H : Hp} {s : Shared} {a : Addr} {y d : V} {u r : Value} {o : Option V} {A : Around} {E : Value → Shared → Prop}
theorem GU{i:Value→Shared→Prop}(q:A.units+1<cLine)(c:Inv X pins σ H s)(v:gm H a y o)(j:RelV y u)(m:∀n p,Inv X pins σ H p→RelV (o.getD .non) n→i n p):wpAny (model X.prog X.w) A (call (.builtin "dict.get") [.ref a,u]) i E s:=by f_assign(
 rcases v with⟨kvs,k,e,ey,l⟩|⟨kvs,k,b,e,ey,eb,l⟩;·subst ey;obtain⟨x,g,B,h,f⟩:=mW c.hok e;refine call_meetsIn JY f.typeIs JR (PySem.F.args_dict_get_2 _ _) (meets_dict_get (bz X.prog X.w) a (pM j) g) ⟨_,f.mapOf,m _ _ (c.tok _) ?_⟩;rw[l];exact(h.val k).getD rfl
 ·subst ey;cases(show u=Value.ref b from j);obtain⟨x,g,z,h,f⟩:=mX c.hok e;refine call_meetsIn JY f.typeIs JR (PySem.F.args_dict_get_2 _ _) (meetsH_dict_get (tupleKind (bz X.prog X.w)) a b g) ⟨Ky q,k,z,mj c.hok eb,f,m _ _ (c.tok _) ?_⟩;rw[l];exact(h.val k).getD rfl)
theorem GV{i:Value→Shared→Prop}(q:A.units+1<cLine)(c:Inv X pins σ H s)(v:gm H a y o)(j:RelV y u)(rd:RelV d r)(m:∀n p,Inv X pins σ H p→RelV (o.getD d) n→i n p):wpAny (model X.prog X.w) A (call (.builtin "dict.get") [.ref a,u,r]) i E s:=by f_assign(
 rcases v with⟨kvs,k,e,ey,l⟩|⟨kvs,k,b,e,ey,eb,l⟩;·subst ey;obtain⟨x,g,B,h,f⟩:=mW c.hok e;refine call_meetsIn JY f.typeIs JR (PySem.F.args_dict_get_3 _ _ _) (meets_dict_get_default (bz X.prog X.w) a (pM j) g r) ⟨_,f.mapOf,m _ _ (c.tok _) ?_⟩;rw[l];exact(h.val k).getD rd
 ·subst ey;cases(show u=Value.ref b from j);obtain⟨x,g,z,h,f⟩:=mX c.hok e;refine call_meetsIn JY f.typeIs JR (PySem.F.args_dict_get_3 _ _ _) (meetsH_dict_get_default (tupleKind (bz X.prog X.w)) a b g r) ⟨Ky q,k,z,mj c.hok eb,f,m _ _ (c.tok _) ?_⟩;rw[l];exact(h.val k).getD rd)
end
def CP(f ty:TE):TE:=λb g h=>f b g λx c=>∃a,x=.ref a∧IsD c a∧ty b c λy d=>∃e,gm d a y e∧h (e.getD .non) d
def CQ(f ty g:TE):TE:=λb h i=>f b h λx c=>∃a,x=.ref a∧IsD c a∧ty b c λy j=>g b j λl d=>∃e,gm d a y e∧i (e.getD l) d
section
variable {X : Cx} {o e f : Expr} {apos cpos : Pos} {td ty tx : TE}
theorem CS(h:X.A.units+1<cLine)(i:PE X o td)(j:PE X e ty)(b:M1 X o "get" apos e cpos):PE X (.Call (.Attribute o "get" apos) [e] [] cpos) (CP td ty):=by f_assign(intro c l d m M n p;refine KW b.base b.few b.line PySem.F.plainAttrs_dict JY PySem.F.type_dict_get (bu (i c l d m _ n p) λq r x s g u v=>?_);obtain⟨a,z,A,B⟩:=v;subst z;obtain rfl:q=Value.ref a:=u;obtain⟨C,D,_⟩:=CO g A;refine⟨C,D,?_⟩;rw[b.trees];refine Calls.callWith_builtin rfl (Calls.evalArgs_plain (Calls.spliced_cons (bu (j c r d s _ g B) λN O y E F G⟨Q,H,I⟩=>Calls.spliced_nil ?_)));exact GU h F H G λR S J L=>⟨_,E,J,L,I⟩)
theorem bC(h:X.A.units+1<cLine)(i:PE X o td)(j:PE X e ty)(hf:PE X f tx)(b:M2 X o "get" apos e f cpos):PE X (.Call (.Attribute o "get" apos) [e,f] [] cpos) (CQ td ty tx):=by f_assign(intro c l d m S n p;refine KW b.base b.few b.line PySem.F.plainAttrs_dict JY PySem.F.type_dict_get (bu (i c l d m _ n p) λq r x s g u v=>?_);obtain⟨a,z,A,B⟩:=v;subst z;obtain rfl:q=Value.ref a:=u;obtain⟨C,D,_⟩:=CO g A;refine⟨C,D,?_⟩;rw[b.trees];refine Calls.callWith_builtin rfl (Calls.evalArgs_plain (Calls.spliced_cons (bu (j c r d s _ g B) λT E y F G H I=>Calls.spliced_cons (bu (hf c E d F _ G I) λU Y Z J L M⟨ac,N,O⟩=>Calls.spliced_nil ?_))));exact GV h L N H M λah al Q R=>⟨_,J,Q,R,O⟩)
end
section
variable {X : Cx} {pins : List (Addr × Obj)} {σ : St} {H : Hp} {s : Shared} {h' : Heap}
theorem Inv.AY{t':Nat}{ch:List Addr}(i:Inv X pins σ H s)(k:∀a c,a∉ch→s.heap.get? a=some c→h'.get? a=some c)(hf:∀a∈ch,pU X pins H a):Inv X pins σ H {s with heap:=h',toks:=t'}:=by f_assign(
 have j:∀a g,H a=some g→a∉ch:=λa g b d=>by have e:=(hf a d).1;rw[e]at b;cases b
 refine i.step (g':=s.gens) (d':=s.drawn) (ch:=ch) (λa h=>⟨(hf a h).2.2.2.1,(hf a h).2.1,(hf a h).2.2.2.2.1,(hf a h).2.2.2.2.2⟩) (λa c _ _ f b _=>k a c f b) (λa c _ _ f b _=>⟨c.slots,k a c f b⟩) (λ_ _ _ _ m=>m) (λa c f b=>⟨c,k a c f b⟩) (λ_ _ b=>b) (λ_ _ _ b=>b) (λa v b=>⟨#[],by rw[b];simp⟩) (λx n=>?_) (λa g b=>?_) i.bare;·obtain⟨c,o,p,q,r⟩:=n;exact⟨c,o,p,k _ c (λd=>(hf _ d).2.1 rfl) q,r⟩
 ·refine(i.hok a g b).stay (λl u f e=>k l u ?_ e) (λ_ e=>e) λ_ _ e=>e;rcases f with d|d;·rw[d];exact j a g b
  ·exact j l _ d)
theorem Inv.iW{t':Nat}{ch:List Addr}{h:Addr}{n:HO}(l:Inv X pins σ H s)(k:∀a c,a∉ch→s.heap.get? a=some c→h'.get? a=some c)(hf:∀a∈ch,pU X pins H a)(o:s.heap.objs.size≤h)(new:bU X.prog X.w (upd H h n) h' h n):Inv X pins σ (upd H h n) {s with heap:=h',toks:=t'}:=by f_assign(
 have j:H h=none:=l.hok.fresh o;have p:∀a i,H a=some i→a∉ch:=λa i b e=>by have d:=(hf a e).1;rw[d]at b;cases b
 refine l.step (g':=s.gens) (d':=s.drawn) (ch:=ch) (λa f=>⟨(hf a f).2.2.2.1,(hf a f).2.1,(hf a f).2.2.2.2.1,(hf a f).2.2.2.2.2⟩) (λa c _ _ g b _=>k a c g b) (λa c _ _ g b _=>⟨c.slots,k a c g b⟩) (λa c _ b q=>?_) (λa c g b=>⟨c,k a c g b⟩) (λa r b=>?_) (λa c i b=>?_) (λa B b=>⟨#[],?_⟩) (λC u=>?_) (λa i b=>?_) l.bare;·rw[ak (L3 (Kw (LU b) o))];exact q
 ·rw[ak (ay b j)];exact b
 ·rw[ak (ay b j)];exact b
 ·rw[ak (ay b j),b];simp
 ·obtain⟨c,v,x,y,z⟩:=u;exact⟨c,v,x,k _ c (λe=>(hf _ e).2.1 rfl) y,z⟩
 ·by_cases f:a=h;·subst f;rw[aj]at b;cases b;exact new
  ·rw[ak f]at b;refine(l.hok a i b).stay (λm A g d=>k m A ?_ d) (λm d=>by rw[ak (ay d j)];exact d) λm r d=>by rw[ak (ay d j)];exact d
   rcases g with e|e;·rw[e];exact p a i b
   ·exact p m _ e)
theorem Inv.lock(j:Inv X pins σ H s)(f:H d=some u)(g:Mut (some u)):∃b,Inv X pins σ (upd H d (.frz b u)) s:=by f_assign(
 have x:=j.hok d u f;have l:∃b,s.heap.get? d=some b:=by cases u with|lst m=>obtain⟨_,_,_,_,e⟩:=x;exact⟨_,e⟩|dK n=>obtain⟨_,_,_,_,c,_,_,e,_⟩:=x;exact⟨c,e⟩|dT n=>obtain⟨_,_,_,_,c,_,_,e,_⟩:=x;exact⟨c,e⟩|set p q=>obtain⟨c,_,_,_,e,_⟩:=x;exact⟨c,e⟩|ins r v fs=>obtain⟨_,_,_,e,_⟩:=x;exact⟨_,e⟩|ext y=>obtain⟨_,⟨_,e⟩,_⟩:=x;exact⟨_,e⟩|_=>exact False.elim g
 obtain⟨b,e⟩:=l;have new:bU X.prog X.w (upd H d (.frz b u)) s.heap d (.frz b u):=by
  refine⟨e,x.stay (λh o _ a=>a) (λh a=>?_) λh m a=>?_⟩;·rw[ak (λi=>by rw[i,f]at a;cases a;exact g)];exact a
  ·rw[ak (λi=>by rw[i,f]at a;cases a;exact g)];exact a
 exact⟨b,j.write (x:=d) (e:=d) (t':=s.toks) (h':=s.heap) (by rw[f];exact g) (.inl rfl) (λh o _ a=>a) ⟨b,e⟩ new⟩)
theorem Inv.x_(e:Inv X pins σ H s)(f:H d=some u)(g:Mut (some u)):∀a b,X.H_0 d≠some (.frz a b):=λa b h=>by have c:=e.base.frzs d a b h;rw[f]at c;cases c;exact g
theorem Inv.unlock(e:Inv X pins σ H s)(l:H d=some (.frz od u))(r:∀m n,X.H_0 d≠some (.frz m n)):Inv X pins σ (upd H d u) s:=by f_assign(
 have i:∀c h,H c=some h→(∀m n,h≠.frz m n)→c≠d:=λc h a v f=>by rw[f,l]at a;cases a;exact v _ _ rfl
 have neN:∀c,H c=none→c≠d:=λc a f=>by rw[f,l]at a;cases a
 refine⟨e.ok,e.os,e.bare,⟨e.base.keep,e.base.slot,λc h a j q=>?_,e.base.there,λc o a=>?_,λc h x a=>?_,λc y a=>?_⟩,e.loc,e.cell,?_,λx g a=>?_,λz A=>?_,λc h a=>?_,e.len⟩;·rw[ak (neN c (e.base.free c h a j q))];exact e.base.free c h a j q
 ·have b:=e.base.tups c o a;rw[ak (i c _ b (λ_ _ f=>nomatch f))];exact b
 ·have b:=e.base.frzs c h x a;rw[ak (λf=>by rw[f]at a;exact r _ _ a)];exact b
 ·obtain⟨B,b⟩:=e.base.tbls c y a;exact⟨B,by rw[ak (i c _ b (λ_ _ f=>nomatch f))];exact b⟩
 ·rw[ak (neN _ e.free)];exact e.free
 ·rw[ak (neN g (e.freeC x g a))];exact e.freeC x g a
 ·obtain⟨a,j,C⟩:=e.pin z A;exact⟨a,by rw[ak (neN _ j)];exact j,C⟩
 ·by_cases p:c=d;·rw[p,aj]at a;cases a;rw[p];obtain⟨_,x⟩:=e.hok d _ l;exact x.stay (λg D _ b=>b) (λg b=>by rw[ak (i g _ b (λ_ _ f=>nomatch f))];exact b) λg o b=>by rw[ak (i g _ b (λ_ _ f=>nomatch f))];exact b
  ·rw[ak p]at a;exact(e.hok c h a).stay (λg D _ b=>b) (λg b=>by rw[ak (i g _ b (λ_ _ f=>nomatch f))];exact b) λg o b=>by rw[ak (i g _ b (λ_ _ f=>nomatch f))];exact b)
end
def wQ(t:TS):TS:=λf h g=>∃c a,g c=some a∧Mut (some a)∧∀d,t ⟨λe b=>b c=some (.frz d a)∧f.nx e (upd b c a),λi b=>b c=some (.frz d a)∧f.rt i (upd b c a),λe b=>b c=some (.frz d a)∧f.bk e (upd b c a),λe b=>b c=some (.frz d a)∧f.ct e (upd b c a)⟩ h (upd g c (.frz d a))
def CT(t:TE):TE:=λf c g=>∃b a,c b=some a∧Mut (some a)∧∀d,t f (upd c b (.frz d a)) λh e=>e b=some (.frz d a)∧g h (upd e b a)
section
variable {X : Cx}
theorem k_{st:Stmt}{t:TS}(j:PS X st t):PS X st (wQ t):=by f_assign(intro l m n s u e h;obtain⟨v,y,f,g,h⟩:=h;obtain⟨o,p⟩:=e.lock f g;refine thn (j l m n _ _ p (h o)) λq z a=>?_;cases q with|next=>obtain⟨b,i,c,d,a⟩:=a;exact⟨b,_,c.unlock d (e.x_ f g),a⟩|brk=>obtain⟨b,i,c,d,a⟩:=a;exact⟨b,_,c.unlock d (e.x_ f g),a⟩|cont=>obtain⟨b,i,c,d,a⟩:=a;exact⟨b,_,c.unlock d (e.x_ f g),a⟩|ret A=>obtain⟨x,b,i,c,r,d,a⟩:=a;exact⟨x,b,_,c.unlock d (e.x_ f g),r,a⟩)
theorem z_{t:TE}(f:PE X e t):PE X e (CT t):=by intro g h i r s b a;obtain⟨u,v,c,d,a⟩:=a;obtain⟨j,l⟩:=b.lock c d;refine bu (f g h i _ _ l (a j)) λy z x A m n o=>?_;obtain⟨p,q⟩:=o;exact⟨x,_,m.unlock p (b.x_ c d),n,q⟩
theorem vd{a:Shared}{e:It→Hp→Prop}{b:Nat→Heap→Prop}{tk:Nat}(c:Inv X pins σ H a)(f:Obj)(h:Turn X.prog X.w X.K tg J [a.heap.objs.size] a.heap.objs.size b)(st:b 0 (a.heap.push f))(i:e J H):PIE X pins σ tg e (.ref a.heap.objs.size) {a with heap:=a.heap.push f,toks:=tk}:=by
 refine⟨a.heap.objs.size,[a.heap.objs.size],b,J,H,rfl,c.kept λg l d=>JK _ d,h,st,λg j=>?_,i⟩;have d:g=a.heap.objs.size:=by simpa using j
 subst d;exact c.fpOk (L6 _) (c.hok.fresh (L6 _))
end
section
variable {prog : Program} {w : World} {A : Around} {E : Value → Shared → Prop} {s : Shared}
theorem oF{a:Addr}{b:Obj}{e:Array DictEntry}{f:Nat}{g:Value→Shared→Prop}(i:(a==sysModules)=false)(c:s.heap.get? a=some b)(j:b.ExactDict)(h:b.data=.dict e f)(l:g (.ref s.heap.objs.size) {s with heap:=s.heap.push {cls:=.type "dict_keyiterator",data:=.fields #[.ref a,.int 0 0,.int e.size 0,.int f 0]}}):wpAny (model prog w) A (pyIter (.ref a)) g E s:=by f_assign(have d:s.TypeIs (.ref a) "dict":=⟨b,c,j.1⟩;refine K0 d F.slot_dict_iter (Lg F.slot_dict_iter d F.entry_dict_iter ?_ (F.args_dict_iter_1 _));unfold Builtin.«dict.__iter__»;refine Ma ?_;unfold Builtin.Dict.dictSlotNone;refine Ma (wpAny_notOrdered_dict d ?_);show wpAny _ _ (pure (Value.ref a)) _ _ s;refine Md ?_;show wpAny _ _ (Builtin.Dict.showsAll a>>=_) _ _ s;unfold Builtin.Dict.showsAll;rw[Mi (by rw[i];exact Kl)];refine Ma (Md ?_);refine Ma (KY c h ?_);refine Ma (Ly c h ?_);refine Ma (KZ (Md ⟨_,rfl,"dict_keyiterator",_,⟨_,Kc _ rfl,rfl⟩,Jp.lookup,?_⟩));simpa[rawInt]using l)
theorem lV{a c e:Nat}{j:Obj}{f:Array DictEntry}{l:DictEntry}{m:Option Value→Shared→Prop}(b:s.heap.IsKeyIter it d a c e)(n:s.heap.get? d=some j)(o:j.data=.dict f e)(q:f.size=c)(r:f[a]?=some l)(u:∀h,h.IsKeyIter it d (a+1) c e→Heap.SameBut it s.heap h→m (some l.key) {s with heap:=h}):wpAny (model prog w) A (pyNext (.ref it)) m E s:=by f_assign(
 obtain⟨B,i,v,g⟩:=id b;unfold pyNext;refine Ma (LR (JJ (name:=Str.ofString "__next__") b.typeIs Jp (Lg Jp b.typeIs F.entry_dict_keyiterator_next ?_ (F.args_dict_keyiterator_next_1 _))));refine Ma (Md ?_);refine Ma ?_;refine Ma ?_;first|refine Ma (Jm b.typeIs (Md ?_))|refine Ma (JD b.typeIs (Md ?_))
 refine Ma (LG i g ?_);have x:Builtin.Dict_items.ownsTuple "dict_keyiterator"=false:=by decide
 simp only[x,Bool.false_eq_true,if_false];show wpAny _ _ (if(Value.ref d==Value.none)=true then _ else _) _ _ s;rw[Mi (show¬((Value.ref d==Value.none)=true)from Kl)];refine Ma (Md ?_);refine Ma (KY n o ?_);rw[Mi (by rw[q];simp)];refine Ma (Md ?_);refine Ma (Ly n o ?_);rw[Mi (by simp)];refine Md ?_;obtain⟨y,z⟩:=Jr.mp r;simp only[show¬((a:Int)<0)from by lia,if_false,Int.toNat_natCast,Array.getElem?_eq_getElem y];refine Ma ?_;first|refine Ma (Jm b.typeIs (Md ?_))|refine Ma (JD b.typeIs (Md ?_))
 refine Ma (wpAny_isOneOf_keyiter b.typeIs ?_);show wpAny _ _ (setField (.ref it) 1 (rawInt ((a:Int)+1))>>=_) _ _ s;refine Ma (LI i g (by simp) ?_);have p:(s.heap.update it (Obj.mapFields (·.setIfInBounds 1 (rawInt ((a:Int)+1))))).IsKeyIter it d (a+1) c e:=⟨_,JT _ i (Obj.isFreed_of_fields (Kx g _)),(Obj.cls_mapFields ..).trans v,by rw[Kx g];simp[rawInt]⟩;refine Ma (LS ?_);refine Ma (wpAny_isOneOf_keyiter (s:={s with heap:=s.heap.update it (Obj.mapFields (·.setIfInBounds 1 (rawInt ((a:Int)+1))))}) p.typeIs ?_);show wpAny _ _ (pure f[a].key) _ _ _;rw[z];exact Md (Md ⟨_,rfl,Md (u _ p (Kb ..))⟩))
theorem i8{e f h:Nat}{i:Obj}{g:Array DictEntry}{j:Option Value→Shared→Prop}(u:A.handled=none)(c:s.heap.IsKeyIter it d e f h)(l:s.heap.get? d=some i)(n:i.data=.dict g h)(o:g.size=f)(v:f≤e)(x:∀p,Heap.ExtBut it s.heap p→j none {s with heap:=p}):wpAny (model prog w) A (pyNext (.ref it)) j E s:=by f_assign(
 obtain⟨B,q,C,r⟩:=id c;unfold pyNext;refine Ma (LR (JJ (name:=Str.ofString "__next__") c.typeIs Jp (Lg Jp c.typeIs F.entry_dict_keyiterator_next ?_ (F.args_dict_keyiterator_next_1 _))));refine Ma (Md ?_);refine Ma ?_;refine Ma ?_;first|refine Ma (Jm c.typeIs (Md ?_))|refine Ma (JD c.typeIs (Md ?_))
 refine Ma (LG q r ?_);have y:Builtin.Dict_items.ownsTuple "dict_keyiterator"=false:=by decide
 simp only[y,Bool.false_eq_true,if_false];show wpAny _ _ (if(Value.ref d==Value.none)=true then _ else _) _ _ s;rw[Mi (show¬((Value.ref d==Value.none)=true)from Kl)];refine Ma (Md ?_);refine Ma (KY l n ?_);rw[Mi (by rw[o];simp)];refine Ma (Md ?_);refine Ma (Ly l n ?_);rw[Mi (by simp)];refine Md ?_;have z:g.size≤e:=by rw[o];exact v
 simp only[show¬((e:Int)<0)from by lia,if_false,Int.toNat_natCast,Array.getElem?_eq_none z];refine Ma ?_;first|refine Ma (Jm c.typeIs (Md ?_))|refine Ma (JD c.typeIs (Md ?_))
 show wpAny _ _ (setField (.ref it) 0 .none>>=_) _ _ s;refine Ma (LI q r (by simp) ?_);show wpAny _ _ (newExc (.type "StopIteration") []>>=_) _ _ _;refine Ma ?_;simp only[newExc,newTuple];refine Ma (KZ ?_ (by size_fits));refine Ma (m:=firstArgMember _ _) (wpAny_of_eq (a:=Value.none) (by first|rfl|(simp only[firstArgMember];rfl)) ?_);refine KZ ?_ (by size_fits);simp only[raiseNew];refine Ma (wpAny_handled ?_);rw[show A.in1.handled=none from u];refine Ma (Md (wpAny_throw ?_));refine Ma (wpAny_isInstance (T:="StopIteration") (b:=true) ⟨_,Kc _ rfl,rfl⟩ isSubtype_stop ?_);exact Md (x _ (((Kb ..).extBut.push _).push _)))
end
theorem CU{e:Type}{f:List (e×V)}{g:List (e×Value)}(h:KV f g):∀{c:Nat}{k:e}{d:V},f[c]?=some (k,d)→∃i,g[c]?=some (k,i)∧RelV d i:=by unfold KV at h;induction h with|nil=>intro c k d b;simp at b|@cons a l n o j t m=>intro c k d b;cases c with|zero=>simp only[List.getElem?_cons_zero,Option.some.injEq]at b;subst b;refine⟨l.2,?_,j.2⟩;simp only[List.getElem?_cons_zero];exact Me some (Prod.ext j.1.symm rfl)|succ p=>simp only[List.getElem?_cons_succ]at b⊢;exact m b
theorem rH{e h:Type}{i:e→h→Prop}{f:List e}{g:List h}(j:Paired i f g):∀{c:Nat}{a:e},f[c]?=some a→∃d,g[c]?=some d∧i a d:=by induction j with|nil=>intro c a b;simp at b|@cons a d f g l t m=>intro c n b;cases c with|zero=>simp only[List.getElem?_cons_zero,Option.some.injEq]at b;subst b;exact⟨d,rfl,l⟩|succ o=>simp only[List.getElem?_cons_succ]at b⊢;exact m b
theorem wR{k:Key}(a:mO k u=true):RelV (kV k) u:=by
 rcases bM a with⟨i,t,rfl,rfl⟩|⟨x,t,rfl,rfl⟩;·exact⟨t,rfl⟩
 ·exact⟨t,rfl⟩
section
variable {X : Cx} {pins : List (Addr × Obj)} {σ : St} {H : Hp} {s : Shared} {d : Addr} {o : Obj}
theorem Inv.frzK{c:List (Key×V)}(m:Inv X pins σ H s)(n:H d=some (.frz o (.dK c))):(d==sysModules)=false∧s.heap.get? d=some o∧o.ExactDict∧∃(a:Array DictEntry)(e:Nat)(b:List (Key×Value)),o.data=.dict a e∧a.size=c.length∧KV c b∧s.heap.DictAt (bz X.prog X.w) d b e:=by obtain⟨f,r,p,b,g,u,a,e,h,i,j,l⟩:=m.hok d _ n;rw[f]at h;cases h;refine⟨p,f,i,a,e,b,j,?_,g,o,a,f,i,j,l⟩;have q:=l.2.1.length;have v:c.length=b.length:=LQ g;rw[Ka]at q;lia
theorem Inv.frzT{c:List (List Key×V)}(p:Inv X pins σ H s)(q:H d=some (.frz o (.dT c))):(d==sysModules)=false∧s.heap.get? d=some o∧o.ExactDict∧∃(a:Array DictEntry)(f:Nat),o.data=.dict a f∧a.size=c.length∧∀(e:Nat)(k:List Key)(g:V),c[e]?=some (k,g)→∃(h:DictEntry)(b:Addr),a[e]?=some h∧h.key=.ref b∧H b=some (.tup (k.map kV)):=by
 obtain⟨i,B,r,j,l,C,a,f,m,u,v,n,_⟩:=p.hok d _ q;rw[i]at m;cases m;refine⟨r,i,u,a,f,v,?_,λe k g x=>?_⟩;·have D:a.size=j.length:=size_of_entries n;have E:c.length=j.length:=LQ l;lia
 ·obtain⟨y,z,F,A,_⟩:=rH l x;have b:=entry_at n e;rw[z]at b;exact⟨_,y.2.1,b,rfl,A⟩
end
def Itk(d:Addr)(e:Obj)(a:List (Key×V)):It:=⟨λb c=>c d=some (.frz e (.dK a))∧b<a.length,λb c x f=>f=c∧∃k g,a[b]?=some (k,g)∧x=kV k,λb c=>c d=some (.frz e (.dK a))∧a.length≤b⟩
def GW(d:Addr)(e:Obj)(b:List (List Key×V)):It:=⟨λc a=>a d=some (.frz e (.dT b))∧c<b.length,λc a x g=>g=a∧∃(k:List Key)(h:V)(f:Addr),b[c]?=some (k,h)∧x=.ref f∧a f=some (.tup (k.map kV)),λc a=>a d=some (.frz e (.dT b))∧b.length≤c⟩
theorem hX{a:Obj}{b:Array DictEntry}{c d:Nat}(f:a.data=.dict b c)(e:a.data=.dict es' d):es'=b∧d=c:=by rw[f]at e;cases e;exact⟨rfl,rfl⟩
section
variable {P : Program} {w : World} {K : PySem.W.Frag} {tg : Expr} {d : Addr} {o : Obj} {es : Array DictEntry} {ep : Nat}
theorem Br{g:List (Key×V)}(c:Addr)(E:o.data=.dict es ep):Turn P w K tg (Itk d o g) [c] c (λb i=>i.IsKeyIter c d b g.length ep)where
 mem:=by simp
 obj:=λb i st e f=>by
  have a:e=c:=by simpa using f
  subst a;obtain⟨l,a,F,n⟩:=st;exact⟨l,a,λG H=>by rw[n]at H;cases H⟩
 keep:=λb i j st k=>st.at λl a=>k c (by simp) l a;item:=by f_assign(intro I p q r J b L s M u N h hf st hg;subst p q r;obtain⟨v,x⟩:=hg;obtain⟨y,z,ac,A,B,C⟩:=hf c (by simp);obtain⟨ah,O,al,am,an,Q,m,R,D,S⟩:=h.frzK v;obtain⟨rfl,rfl⟩:=hX E m;obtain⟨⟨k,G⟩,T⟩:∃ap,g[b]?=some ap:=⟨g[b],JA x⟩;obtain⟨aE,ar,aI⟩:=CU D T;have U:g.length=Q.length:=LQ D;rw[U]at st;refine wpAny_pyNext_dict_item st S ar λX j av Y ax=>?_;have aA:Inv I L M u {s with heap:=j}:=h.turned (t':=s.toks) (λe Z f a=>(ax.2 e f).trans a) y z A B C;obtain⟨l,a,F,n⟩:=id Y;refine⟨X,rfl,tZ (s:={s with heap:=j}) a F n (by decide) ⟨kV k,u,aA,wR (show mO k X=true from av),⟨rfl,k,G,T,rfl⟩,?_,λe f=>(hf e f).1⟩⟩;show j.IsKeyIter c d (b+1) g.length _;rw[U];exact Y)
 done:=by intro I p q r J b L s M u N h hf st hg;subst p q r;obtain⟨v,x⟩:=hg;obtain⟨y,z,ac,A,B,C⟩:=hf c (by simp);obtain⟨ah,O,al,am,an,Q,m,R,D,S⟩:=h.frzK v;obtain⟨rfl,rfl⟩:=hX E m;exact i8 (h.ok.hd J) st O m R x λj eb=>⟨rfl,h.turned (t':=s.toks) (λe Z f a=>eb e Z f a) y z A B C⟩
 self:=λaK b s aM N st i=>wpAny_pyIter_keyiter st i
theorem yF{j:List (List Key×V)}(c:Addr)(H:o.data=.dict es ep):Turn P w K tg (GW d o j) [c] c (λb h=>h.IsKeyIter c d b j.length ep)where
 mem:=by simp
 obj:=λb h st e f=>by
  have a:e=c:=by simpa using f
  subst a;obtain⟨l,a,I,n⟩:=st;exact⟨l,a,λp J=>by rw[n]at J;cases J⟩
 keep:=λb h m st k=>st.at λl a=>k c (by simp) l a;item:=by f_assign(intro L q r u M b N s O v Q g hf st hg;subst q r u;obtain⟨x,y⟩:=hg;obtain⟨z,A,X,B,C,D⟩:=hf c (by simp);obtain⟨Y,E,Z,ac,ah,i,G,ent⟩:=g.frzT x;obtain⟨rfl,rfl⟩:=hX H i;obtain⟨⟨k,p⟩,R⟩:∃al,j[b]?=some al:=⟨j[b],JA y⟩;obtain⟨am,S,an,ap,ar⟩:=ent b k p R;refine lV st E i G an λm T av=>?_;have ax:Inv L N O v {s with heap:=m}:=g.turned (t':=s.toks) (λe U f a=>(av.2 e f).trans a) z A B C D;obtain⟨l,a,I,n⟩:=id T;exact⟨am.key,rfl,tZ (s:={s with heap:=m}) a I n (by decide) ⟨.ref S,v,ax,ap,⟨rfl,k,p,S,R,rfl,ar⟩,T,λe f=>(hf e f).1⟩⟩)
 done:=by intro L q r u M b N s O v Q g hf st hg;subst q r u;obtain⟨x,y⟩:=hg;obtain⟨z,A,X,B,C,D⟩:=hf c (by simp);obtain⟨Y,E,Z,ac,ah,i,G,ent⟩:=g.frzT x;obtain⟨rfl,rfl⟩:=hX H i;exact i8 (g.ok.hd M) st E i G y λm eb=>⟨rfl,g.turned (t':=s.toks) (λe U f a=>eb e U f a) z A B C D⟩
 self:=λaA b s aE Q st h=>by refine K0 st.typeIs Jo (Lg Jo st.typeIs F.entry_dict_keyiterator_iter ?_ (F.args_dict_keyiterator_iter_1 _));show wpAny _ _ (ret (.ref c)) _ _ s;exact Md ⟨_,rfl,"dict_keyiterator",_,st.typeIs,Jp.lookup,h⟩
end
def uj(f:TE):TI:=λg h e=>f g h λx c=>∃a d,x=.ref a∧((∃b,c a=some (.frz d (.dK b))∧e (Itk a d b) c)∨∃b,c a=some (.frz d (.dT b))∧e (GW a d b) c)
section
variable {X : Cx} {tg e : Expr} {td : TE} {apos cpos : Pos}
theorem mY(j:PE X e td):PI X tg e (uj td):=by f_assign(
 intro l m n o B p q;refine bu (j l m n o _ p q) λr i x C c s u=>?_;obtain⟨v,D,y,a⟩:=u;subst y;obtain rfl:r=Value.ref v:=s;rcases a with⟨kvs,hd,a⟩|⟨kvs,hd,a⟩;·obtain⟨d,f,g,z,A,E,b,h,F,G⟩:=c.frzK hd;refine oF d f g b (vd (tk:=i.toks) c _ (Br _ b) ⟨_,Kc _ rfl,rfl,?_⟩ a);rw[h]<;>rfl
 ·obtain⟨d,f,g,z,A,b,h,ent⟩:=c.frzT hd;refine oF d f g b (vd (tk:=i.toks) c _ (yF _ b) ⟨_,Kc _ rfl,rfl,?_⟩ a);rw[h]<;>rfl)
end
def Ite(K:PySem.W.Frag)(a:Addr):It:=⟨λd c=>∃(b:List V)(x:V),SqL K c a b∧b[d]?=some x,λd c f g=>∃e x,f=.ref e∧c e=none∧g=upd c e (.tup [.int (d:Nat),x])∧∀b,SqL K c a b→b[d]?=some x,λd c=>∃b:List V,SqL K c a b∧b.length≤d⟩
theorem Bs{P:Program}{w:World}{K:PySem.W.Frag}{N:Nat}(a i f:Addr):Turn P w K (.Tuple elts N tpos) (Ite K a) [i,f] i (λb l=>(∃old,IsEnum l i f ((b:Nat):Int) old)∧l.IsListIter f a b∧i≠f)where
 mem:=by simp
 obj:=λb l st e g=>by
  obtain⟨⟨old,h⟩,⟨m,u,v,O⟩,_⟩:=st;have y:e=i∨e=f:=by simpa using g
  rcases y with d|d;·rw[d];exact⟨_,h,λQ c=>nomatch c⟩
  ·rw[d];exact⟨m,u,λQ c=>by rw[O]at c;cases c⟩
 keep:=λb l z st k=>let⟨⟨old,h⟩,hi,n⟩:=st;⟨⟨old,k i (by simp) _ h⟩,hi.at λm c=>k f (by simp) m c,n⟩;item:=by f_assign(
  intro o A B C v b I s J D L j hf st hg;subst A B C;obtain⟨⟨old,h⟩,p,n⟩:=st;obtain⟨R,x,q,E⟩:=hg;obtain⟨S,rv,F,T⟩:=j.list q;obtain⟨r,U,X⟩:=rv.get E;have M:i<s.heap.objs.size:=LU h;have Y:f<s.heap.objs.size:=by obtain⟨_,c,_⟩:=p;exact LU c
  refine wpAny_pyNext_enum_item h p F.isList (x:=r) (by simpa using U) n λz u Z ac aN ah=>?_;refine⟨_,rfl,wpAny_letOwnedTupleGo_enum (s:={s with heap:=z,toks:=s.toks+1}) u λG al H=>?_⟩;have am:G.get? s.heap.objs.size=some {cls:=.type "tuple",data:=.seq #[.int b s.toks,r]}:=(H.2 _ (LZ M)).trans ac;have new:bU o.prog o.w (upd D s.heap.objs.size (.tup [.int (b:Nat),x])) G s.heap.objs.size (.tup [.int (b:Nat),x]):=⟨by show 2≤sizeLine;decide,[.int b s.toks,r],.cons ⟨_,rfl⟩ (.cons X .nil),⟨_,am,rfl,_,rfl⟩⟩;have an:Inv o I J (upd D s.heap.objs.size (.tup [.int (b:Nat),x])) {s with heap:=G,toks:=s.toks+1}:=j.iW (ch:=[i,f]) (λe ap g c=>(H.2 e (λd=>g (by simp[d]))).trans (ah e ap (λd=>g (by simp[d])) (λd=>g (by simp[d])) c)) hf (L6 _) new;refine⟨.ref s.heap.objs.size,_,an,rfl,⟨_,x,rfl,j.hok.fresh (L6 _),rfl,λaP ar=>by rw[j.om ar q];exact E⟩,⟨⟨r,?_⟩,Z.at λm c=>(H.2 f (Mg n)).trans c,n⟩,λe g=>?_⟩
  ·have av:((b+1:Nat):Int)=(b:Int)+1:=by lia
   rw[av];exact al
  · have ax:e<s.heap.objs.size:=by
      have y:e=i∨e=f:=by simpa using g
      rcases y with d|d;·rw[d];exact M
      ·rw[d];exact Y
    rw[ak (L3 ax)];exact(hf e g).1)
 done:=by intro o A B C v b I s J D L j hf st hg;subst A B C;obtain⟨⟨old,h⟩,p,n⟩:=st;obtain⟨R,q,E⟩:=hg;obtain⟨S,rv,F,T⟩:=j.list q;obtain⟨aA,aE,aR,aI,aK,aM⟩:=hf f (by simp);have aT:=rv.length;exact wpAny_pyNext_enum_end (j.ok.hd v) h p F.isList (by simp;lia) λz eb=>⟨rfl,j.turned (t':=s.toks) (λe m g c=>eb e m g c) aA aE aI aK aM⟩
 self:=λaU b s a0 L st l=>let⟨⟨_,h⟩,_⟩:=st;wpAny_pyIter_enum h l
def Aa(K:PySem.W.Frag)(c:TA):TI:=λd e f=>c d e λg b=>∃a h,g=[.ref a]∧SqL K b a h∧f (Ite K a) b
theorem Ab{c:Cx}{d:Expr}{o g:Pos}{p:Nat}(q:Gl c "enumerate")(r:c.mg "enumerate"=none)(s:PA c [d] ta)(u:starEach [d] c.env=[(false,eval d c.env)]:=by rfl):PI c (.Tuple elts p tpos) (.Call (.Name "enumerate" o) [d] [] g) (Aa c.K ta):=by f_assign(intro h v i x Q j y;refine Call_ (iy j q r boot_enumerate (Jq (bu (s g h v i x _ j y) λR b S l e A B=>?_) u rfl));obtain⟨a,T,C,D,E⟩:=B;subst C;cases A with|cons F G=>
 cases G;cases F;obtain⟨U,rv,H,X⟩:=e.list D;refine call_enumerate_list H.isList λI m J Y L=>wpAny_pyIter_enum m ?_;have M:Inv c h i l {b with heap:=I}:=e.kept (t':=b.toks) L;refine⟨b.heap.objs.size+1,[b.heap.objs.size+1,b.heap.objs.size],_,_,l,rfl,M,Bs a (b.heap.objs.size+1) b.heap.objs.size,⟨⟨.none,m⟩,J,Nat.succ_ne_self _⟩,λf N=>?_,E⟩;have O:f=b.heap.objs.size+1∨f=b.heap.objs.size:=by simpa using N
 have n:b.heap.objs.size≤f:=by
  rcases O with z|z;·rw[z];exact Ld _ _
  ·rw[z];exact L6 _
 exact e.fpOk n (e.hok.fresh n))
theorem uk:bootBuiltins "zip"=some (.type "zip"):=by decide+kernel
def Itz(K:PySem.W.Frag)(a f:Addr):It:=⟨λc b=>∃(d e:List V)(x y:V),SqL K b a d∧SqL K b f e∧d[c]?=some x∧e[c]?=some y,λc b h i=>∃g x y,h=.ref g∧b g=none∧i=upd b g (.tup [x,y])∧(∀d,SqL K b a d→d[c]?=some x)∧∀e,SqL K b f e→e[c]?=some y,λc b=>∃d e:List V,SqL K b a d∧SqL K b f e∧(d.length≤c∨e.length≤c)⟩
theorem CV{P:Program}{w:World}{K:PySem.W.Frag}{ar:Nat}{TI TO:Addr}(g:ZipApart z TI TO i1 i2 a b):Turn P w K (.Tuple elts ar tpos) (Itz K a b) [z,TI,TO,i1,i2] z (λi j=>IsZip j z TI TO .none∧IsPair j TI (.ref i1) (.ref i2)∧(∃x y,IsPair j TO x y)∧j.IsListIter i1 a i∧j.IsListIter i2 b i)where
 mem:=by simp
 obj:=λi j st d u=>by f_assign(
  obtain⟨n,l,⟨x,y,o⟩,⟨av,G,_,ax⟩,⟨aA,H,_,aE⟩⟩:=st;have I:d=z∨d=TI∨d=TO∨d=i1∨d=i2:=by simpa using u
  rcases I with c|c|c|c|c;·rw[c];exact⟨_,n,λv c=>nomatch c⟩
  ·rw[c];exact⟨_,l,λv c=>nomatch c⟩
  ·rw[c];exact⟨_,o,λv c=>nomatch c⟩
  ·rw[c];exact⟨av,G,λv c=>by rw[ax]at c;cases c⟩
  ·rw[c];exact⟨aA,H,λv c=>by rw[aE]at c;cases c⟩)
 keep:=λi j J st k=>by obtain⟨n,l,⟨x,y,o⟩,p,q⟩:=st;exact⟨k z (by simp) _ n,k TI (by simp) _ l,⟨x,y,k TO (by simp) _ o⟩,p.at λm c=>k i1 (by simp) m c,q.at λm c=>k i2 (by simp) m c⟩
 item:=by f_assign(
  intro A L M N u i X s Y O Z f hf st hg;subst L M N;obtain⟨n,l,⟨aI,aK,o⟩,p,q⟩:=st;obtain⟨aM,aN,x,y,B,C,ac,ah⟩:=hg;obtain⟨al,rv,Q,_⟩:=f.list B;obtain⟨am,R,S,_⟩:=f.list C;obtain⟨D,aP,aR⟩:=rv.get ac;obtain⟨E,aT,aU⟩:=R.get ah;have an:z<s.heap.objs.size:=LU n;refine wpAny_pyNext_zip_item g n l o p q Q.isList S.isList (x:=D) (y:=E) (by simpa using aP) (by simpa using aT) λJ a0 a1 a2 a3 a4 bj F=>?_;refine⟨_,rfl,wpAny_letOwnedTupleGo_zip (s:={s with heap:=J}) a0 λT a5 r=>?_⟩;have a6:T.get? s.heap.objs.size=some {cls:=.type "tuple",data:=.seq #[D,E]}:=(r.2 _ (LZ an)).trans a4;have new:bU A.prog A.w (upd O s.heap.objs.size (.tup [x,y])) T s.heap.objs.size (.tup [x,y]):=⟨by show 2≤sizeLine;decide,[D,E],.cons aR (.cons aU .nil),⟨_,a6,rfl,_,rfl⟩⟩;have a7:Inv A X Y (upd O s.heap.objs.size (.tup [x,y])) {s with heap:=T}:=f.iW (t':=s.toks) (ch:=[z,TI,TO,i1,i2]) (λd m h c=>(r.2 d (λe=>h (by simp[e]))).trans (F d m (λe=>h (by simp[e])) (λe=>h (by simp[e])) (λe=>h (by simp[e])) (λe=>h (by simp[e])) c)) hf (L6 _) new;refine⟨.ref s.heap.objs.size,_,a7,rfl,⟨_,x,y,rfl,f.hok.fresh (L6 _),rfl,λa8 U=>by rw[f.om U B];exact ac,λa8 U=>by rw[f.om U C];exact ah⟩,⟨a5,?_,⟨D,E,?_⟩,?_,?_⟩,λd ap=>?_⟩;·exact(r.2 _ g.TIz).trans (F _ _ g.TIz g.TITO g.TIi1 g.TIi2 l)
  ·exact(r.2 _ g.TOz).trans a1
  ·exact a2.at λm c=>(r.2 _ g.i1z).trans c
  ·exact a3.at λm c=>(r.2 _ g.i2z).trans c
  · have a9:d<s.heap.objs.size:=by
      have I:d=z∨d=TI∨d=TO∨d=i1∨d=i2:=by simpa using ap
      rcases I with c|c|c|c|c;·rw[c];exact an
      ·rw[c];exact LU l
      ·rw[c];exact LU o
      ·rw[c];obtain⟨_,G,_⟩:=p;exact LU G
      ·rw[c];obtain⟨_,H,_⟩:=q;exact LU H
    rw[ak (L3 a9)];exact(hf d ap).1)
 done:=by f_assign(
  intro A L M N u i X s Y O Z f hf st hg;subst L M N;obtain⟨n,l,⟨aI,aK,o⟩,p,q⟩:=st;obtain⟨aM,aN,B,C,bd⟩:=hg;obtain⟨al,rv,Q,_⟩:=f.list B;obtain⟨am,R,S,_⟩:=f.list C;have bl:=rv.length;have bm:=R.length;have bi:al.toArray[i]?=none∨am.toArray[i]?=none:=by
   rcases bd with c|c;·exact .inl (by simp;lia)
   ·exact .inr (by simp;lia)
  exact wpAny_pyNext_zip_end (f.ok.hd u) g n l o p q Q.isList S.isList bi λJ F=>⟨rfl,f.AY (t':=s.toks) (ch:=[z,TI,TO,i1,i2]) (λd m h c=>F d m (λe=>h (by simp[e])) (λe=>h (by simp[e])) (λe=>h (by simp[e])) (λe=>h (by simp[e])) c) hf⟩)
 self:=λbn i s bv Z st j=>wpAny_pyIter_zip st.1 j
def H_(K:PySem.W.Frag)(d:TA):TI:=λe f g=>d e f λh b=>∃a c i j,h=[.ref a,.ref c]∧SqL K b a i∧SqL K b c j∧g (Itz K a c) b
theorem GX{c:Cx}{g e:Expr}{u h:Pos}{v:Nat}(x:Gl c "zip")(y:c.mg "zip"=none)(A:PA c [g,e] ta)(B:starEach [g,e] c.env=(false,eval g c.env)::starEach [e] c.env:=by rfl)(C:(backTo h (starEach [e] c.env)).any (·.1)=false:=by rfl):PI c (.Tuple elts v tpos) (.Call (.Name "zip" u) [g,e] [] h) (H_ c.K ta):=by f_assign(intro j D l E am m F;refine Call_ (iy m x y uk (Jq (bu (A h j D l E _ m F) λan b ap n f G H=>?_) B C));obtain⟨a,o,ar,av,I,J,L,M⟩:=H;subst I;cases G with|cons N i=>cases i with|cons O i=>
 cases i;cases N;cases O;obtain⟨ax,rv,p,_⟩:=f.list J;obtain⟨aA,aE,q,_⟩:=f.list L;have Q:a<b.heap.objs.size:=p.lt;have R:o<b.heap.objs.size:=q.lt;refine call_zip_2 p.isList q.isList λS r T U X Y aI Z=>wpAny_pyIter_zip r ?_;have ac:Inv c j l n {b with heap:=S}:=f.kept (t':=b.toks) Z;refine⟨b.heap.objs.size+4,[b.heap.objs.size+4,b.heap.objs.size+2,b.heap.objs.size+3,b.heap.objs.size,b.heap.objs.size+1],_,_,n,rfl,ac,CV (PySem.W.ktu_apart b.heap.objs.size a o Q R),⟨r,T,⟨_,_,U⟩,X,Y⟩,λd ah=>?_,M⟩;have al:d=b.heap.objs.size+4∨d=b.heap.objs.size+2∨d=b.heap.objs.size+3∨d=b.heap.objs.size∨d=b.heap.objs.size+1:=by simpa using ah
 have s:b.heap.objs.size≤d:=by
  rcases al with z|z|z|z|z;·rw[z];exact Ld _ _
  ·rw[z];exact Ld _ _
  ·rw[z];exact Ld _ _
  ·rw[z];exact L6 _
  ·rw[z];exact Ld _ _
 exact f.fpOk s (f.hok.fresh s))
end L2
namespace Att
open PySem PySem.W PySem.Calls PyProof.Rows
section
variable {prog : Program} {w : World} {A : Around} {E : Value → Shared → Prop} {s : Shared} {K : Frag}
def ve(a:Heap):Heap:={a with objs:=#[]}
theorem i_(a:Heap)(b:Addr):(ve a).get? b=none:=by cases e:(ve a).get? b with|none=>rfl|some c=>exact absurd (LU e) (Nat.not_lt_zero _)
def ledger(b:Heap)(c d:Addr):List (Addr×Obj):=(List.range b.objs.size).filterMap λa=>if a=c∨a=d then none else(b.get? a).map λe=>(a,e)
theorem yG{f:Heap}{a:Addr}{g:Obj}:(a,g)∈ledger f L d↔a≠L∧a≠d∧f.get? a=some g:=by
 unfold ledger;rw[List.mem_filterMap];constructor
 ·rintro⟨m,_,e⟩;split at e;·cases e
  ·rename_i h;obtain⟨n,c,i⟩:=JQ.mp e;cases i;exact⟨λb=>h (.inl b),λb=>h (.inr b),c⟩
 ·rintro⟨j,l,c⟩;refine⟨a,LC.mpr (LU c),?_⟩;rw[Mi (show¬(a=L∨a=d)fromλb=>b.elim j l),c]<;>rfl
theorem GY{a:Heap}(c:a.Ns L m):Fr (ve a) L a m:=⟨c,λd e b=>(by rw[i_]at b;cases b),L7 _⟩
end
end Att
section
namespace L2
open PySem PySem.Spec PyProof.Rows
open PySem.W (WData Codec OpenSpec Well WellAll ReadsW ReadsAllW)
mutual
inductive Dw(K:PySem.W.Frag)(H:Hp):V→WData→Prop|int(i:Int):Dw K H (.int i) (.int i)|lst{a:Addr}{xs:List V}{ds:List WData}:SqL K H a xs→jX K H xs ds→Dw K H (.ref a) (.list ds)
inductive jX(K:PySem.W.Frag)(H:Hp):List V→List WData→Prop|nil:jX K H [] []|cons{v:V}{vs:List V}{d:WData}{ds:List WData}:Dw K H v d→jX K H vs ds→jX K H (v::vs) (d::ds)
end
theorem Ac{K:PySem.W.Frag}:∀a:List Int,jX K H (a.map V.int) (a.map WData.int)|[]=>.nil|b::c=>.cons (.int b) (Ac c)
theorem Ad{K:PySem.W.Frag}:∀(c:List Int)(a:List V),jX K H a (c.map WData.int)→a=c.map V.int|[],a,b=>by cases b;rfl|g::d,a,b=>by cases b with|cons e f=>cases e;rw[Ad d _ f]<;>rfl
section
variable {P : Program} {w : World} {K : PySem.W.Frag} {H : Hp} {h : Heap} {R : PySem.W.WRecords} {cl : Str → Option Addr}
theorem GZ(i:HOk P w H h)(j:K.In h)(e:SqL K H a xs):∃(b:List Value)(c:Obj)(d:Nat),aZ xs b∧h.get? a=some c∧c.cls=.type "list"∧c.data=.seq b.toArray d:=by
 rcases e with e|⟨c,b,d,f,hc,_,hd,_,g⟩;·obtain⟨_,b,d,g,f⟩:=(show bU P w H h a (.lst xs)from e.ok i);exact⟨b,_,d,g,f,rfl,rfl⟩
 ·exact⟨b.toList,c,d,g,j _ _ f,hc,by simp[hd]⟩
mutual
theorem Dw.reads(b:HOk P w H h)(c:K.In h):∀(d:WData)(e:V)(f:Value),Dw K H e d→RelV e f→∃as,ReadsW R cl h f d as
 |.none,_,_,x,_=>by cases x|.bool _,_,_,x,_=>by cases x|.int g,_,_,x,a=>by cases x;obtain⟨t,rfl⟩:=a;exact⟨_,ReadsW.int g t⟩|.str _,_,_,x,_=>by cases x|.bytes _,_,_,x,_=>by cases x|.list i,_,_,x,a=>by cases x with|lst j l=>cases a;obtain⟨m,r,s,rv,n,o,p⟩:=GZ b c j;obtain⟨as,q⟩:=Dw.readsAll b c i _ m l rv;exact⟨_,ReadsW.list n o p q⟩
 |.tuple _,_,_,x,_=>by cases x|.float _,_,_,x,_=>by cases x|.dict _,_,_,x,_=>by cases x|.bytearray _,_,_,x,_=>by cases x|.set _,_,_,x,_=>by cases x|.frozenset _,_,_,x,_=>by cases x|.obj _ _,_,_,x,_=>by cases x
theorem Dw.readsAll(c:HOk P w H h)(d:K.In h):∀(a:List WData)(e:List V)(f:List Value),jX K H e a→aZ e f→∃as,ReadsAllW R cl h f a as|[],_,_,x,b=>by cases x;cases b;exact⟨_,ReadsAllW.nil⟩|g::a,_,_,x,b=>by cases x with|cons i j=>cases b with|cons l m=>obtain⟨as,n⟩:=Dw.reads c d g _ _ i l;obtain⟨bs,o⟩:=Dw.readsAll c d a _ _ j m;exact⟨_,ReadsAllW.cons n o⟩
end
end
mutual
def plW:WData→Bool|.int _=>true|.list a=>pV a|_=>false
def pV:List WData→Bool|[]=>true|x::a=>plW x&&pV a
end
theorem wU{c:Type}{b:c→WData}(d:∀a,plW (b a)=true):∀f:List c,pV (f.map b)=true|[]=>rfl|x::e=>by show(plW (b x)&&pV (e.map b))=true;rw[d x,wU d e]<;>rfl
theorem rJ:∀{c:List WData}{a:WData},a∈c→a.weight≤WData.weightAll c
 |[],a,b=>absurd b (by simp)|x::d,a,b=>by
  show a.weight≤x.weight+1+WData.weightAll d;rcases LN.mp b with e|m;·rw[e];lia
  ·have f:=rJ m;lia
def toV:Value→V|.none=>.non|.bool b=>.bl b|.int c _=>.int c|.str x _=>.str x|.bytes b _=>.byt b|.ref a=>.ref a|_=>.non
def OkU(b:List Addr):Value→Prop|.none=>True|.bool _=>True|.int _ _=>True|.str _ _=>True|.bytes _ _=>True|.ref a=>a∈b|_=>False
theorem OkU.mono{c d:List Addr}(e:∀a∈c,a∈d):∀{b:Value},OkU c b→OkU d b:=λ{b}x=>by cases b with|ref a=>exact e a x|none=>trivial|bool f=>trivial|int g t=>trivial|str h t=>trivial|bytes f t=>trivial|_=>exact False.elim x
theorem CY{b:List Addr}(x:OkU b u):RelV (toV u) u:=by cases u with|ref a=>rfl|none=>rfl|bool c=>rfl|int d t=>exact⟨t,rfl⟩|str e t=>exact⟨t,rfl⟩|bytes c t=>exact⟨t,rfl⟩|_=>exact False.elim x
theorem jY{d:List Addr}:∀{a:List Value},(∀b∈a,OkU d b)→aZ (a.map toV) a|[],_=>.nil|b::f,c=>.cons (CY (c b (Ks ..))) (jY λx e=>c x (J0 _ e))
def lW(c:Heap)(d:List Addr)(a:Addr):Prop:=∃b:List Value,b.length≤sizeLine∧(∀e∈b,OkU d e)∧(c.get? a=some {cls:=.type "list",data:=.seq b.toArray}∨c.get? a=some {cls:=.type "tuple",data:=.seq b.toArray})
theorem lW.mono{b c:List Addr}{a:Addr}(k:∀a∈b,a∈c)(x:lW h b a):lW h c a:=by obtain⟨d,e,f,g⟩:=x;exact⟨d,e,λi j=>(f i j).mono k,g⟩
theorem jZ{P:Params}:∀{a:List Value}{b:List WData},WellAll P h a b→a.length=b.length|_,_,.nil=>rfl|_,_,.cons _ c=>by show _+1=_+1;rw[jZ c]
theorem um{P:Params}{b:Heap}{c:List WData}(x:Well P b v (.list c)):∃(a:Addr)(d:List Value),v=.ref a∧b.get? a=some {cls:=.type "list",data:=.seq d.toArray}∧WellAll P b d c:=by cases x with|list e f=>exact⟨_,_,rfl,e,f⟩
theorem uo{P:Params}{b:WData}{c:List WData}(x:WellAll P h us (b::c)):∃(d:Value)(e:List Value),us=d::e∧Well P h d b∧WellAll P h e c:=by cases x with|cons a f=>exact⟨_,_,rfl,a,f⟩
theorem ET{a:Nat}(b:a≤1048576):a≤sizeLine:=LY b (by decide)
section
variable {P : Params} {h : Heap}
mutual
theorem CZ:∀(d:WData)(j:Value),Well P h j d→plW d=true→d.weight≤1048576→∃c:List Addr,OkU c j∧∀a∈c,lW h c a
 |.none,_,_,b,_=>Bool.noConfusion (show false=true from b)|.bool _,_,_,b,_=>Bool.noConfusion (show false=true from b)|.int z,_,x,_,_=>by cases x;exact⟨[],trivial,λa f=>absurd f (by simp)⟩|.str _,_,_,b,_=>Bool.noConfusion (show false=true from b)|.bytes _,_,_,b,_=>Bool.noConfusion (show false=true from b)|.list g,_,x,b,n=>by f_assign(
  obtain⟨a,o,rfl,p,l⟩:=um x;have m:WData.weightAll g≤1048576:=n;obtain⟨c,q,r⟩:=rK g _ l b λd s=>LY (rJ s) m;have k:∀e∈c,e∈a::c:=λe i=>J0 _ i;refine⟨a::c,Ks ..,λe i=>?_⟩;rcases LN.mp i with u|f;·rw[u];exact⟨o,ET (by rw[jZ l];exact LY (PySem.W.length_le_weightAllW g) m),λv y=>(q v y).mono k,.inl p⟩
  ·exact(r e f).mono k)|.tuple _,_,_,b,_=>Bool.noConfusion (show false=true from b)|.float _,_,_,b,_=>Bool.noConfusion (show false=true from b)|.dict _,_,_,b,_=>Bool.noConfusion (show false=true from b)|.bytearray _,_,_,b,_=>Bool.noConfusion (show false=true from b)|.set _,_,_,b,_=>Bool.noConfusion (show false=true from b)|.frozenset _,_,_,b,_=>Bool.noConfusion (show false=true from b)|.obj _ _,_,_,b,_=>Bool.noConfusion (show false=true from b)
theorem rK:∀(e:List WData)(i:List Value),WellAll P h i e→pV e=true→(∀f∈e,f.weight≤1048576)→∃c:List Addr,(∀j∈i,OkU c j)∧∀a∈c,lW h c a|[],_,x,_,_=>by cases x;exact⟨[],λj b=>absurd b (by simp),λa b=>absurd b (by simp)⟩|f::e,_,x,r,n=>by f_assign(
 obtain⟨s,i,rfl,u,v⟩:=uo x;have o:plW f=true∧pV e=true:=Bool.and_eq_true_iff.mp r;obtain⟨c,y,z⟩:=CZ f s u o.1 (n f (Ks ..));obtain⟨l,A,B⟩:=rK e i v o.2 λm C=>n m (J0 _ C);have p:∀d∈c,d∈c++l:=λd g=>Lq.mpr (.inl g);have q:∀d∈l,d∈c++l:=λd g=>Lq.mpr (.inr g);refine⟨c++l,λj D=>?_,λd g=>?_⟩
 ·rcases LN.mp D with m|b;·rw[m];exact y.mono p
  ·exact(A j b).mono q
 ·rcases Lq.mp g with b|b;·exact(z d b).mono p
  ·exact(B d b).mono q)
end
end
def EU(a:Obj):Option HO:=match a.data with|.seq b _=>if(a.cls==Value.type "list")=true then some (.frz a (.lst (b.toList.map toV)))else some (.frz a (.tup (b.toList.map toV)))|_=>none
def j2(K:PySem.W.Frag)(b:Heap)(c:List Addr):Hp:=λa=>if a∈c then(if(K.lookup a).isNone=true then(b.get? a).bind EU else none)else none
def wV(a:Hp):Prop:=∀b,a b=none∨∃c d,a b=some (.frz c d)
theorem wW(a:List Value):EU {cls:=.type "list",data:=.seq a.toArray}=some (.frz {cls:=.type "list",data:=.seq a.toArray} (.lst (a.map toV))):=by show(if(Value.type "list"==Value.type "list")=true then some (HO.frz {cls:=.type "list",data:=.seq a.toArray} (.lst (a.toArray.toList.map toV)))else some (HO.frz {cls:=.type "list",data:=.seq a.toArray} (.tup (a.toArray.toList.map toV))))=_;rw[Mj (beq_self_eq_true _)]
theorem C0(a:List Value):EU {cls:=.type "tuple",data:=.seq a.toArray}=some (.frz {cls:=.type "tuple",data:=.seq a.toArray} (.tup (a.map toV))):=by show(if(Value.type "tuple"==Value.type "list")=true then some (HO.frz {cls:=.type "tuple",data:=.seq a.toArray} (.lst (a.toArray.toList.map toV)))else some (HO.frz {cls:=.type "tuple",data:=.seq a.toArray} (.tup (a.toArray.toList.map toV))))=_;rw[Mi (by decide)]
section
variable {P : Program} {w : World} {K : PySem.W.Frag} {h : Heap} {A : List Addr}
theorem vf{a:Addr}(b:a∈A)(c:K.lookup a=none)(d:h.get? a=some o):j2 K h A a=EU o:=by unfold j2;rw[Mj b,c,Mj (show(none:Option Obj).isNone=true from rfl),d]<;>rfl
theorem EV(a:j2 K h A b=some u):b∈A∧K.lookup b=none:=by
 unfold j2 at a;by_cases c:b∈A;·rw[Mj c]at a;cases hk:K.lookup b with|none=>exact⟨c,rfl⟩|some d=>rw[hk,Mi (by simp)]at a;cases a
 ·rw[Mi c]at a;cases a
theorem qG(j:∀a∈A,lW h A a)(d:j2 K h A b=some f):K.lookup b=none∧∃c:List Value,c.length≤sizeLine∧(∀f∈c,OkU A f)∧((h.get? b=some {cls:=.type "list",data:=.seq c.toArray}∧f=.frz {cls:=.type "list",data:=.seq c.toArray} (.lst (c.map toV)))∨(h.get? b=some {cls:=.type "tuple",data:=.seq c.toArray}∧f=.frz {cls:=.type "tuple",data:=.seq c.toArray} (.tup (c.map toV)))):=by
 obtain⟨g,i⟩:=EV d;obtain⟨c,l,m,n⟩:=j b g;refine⟨i,c,l,m,?_⟩;rcases n with e|e;·rw[vf g i e,wW]at d;exact .inl ⟨e,(Lv d).symm⟩
 ·rw[vf g i e,C0]at d;exact .inr ⟨e,(Lv d).symm⟩
theorem Bt(c:∀a∈A,lW h A a):wV (j2 K h A):=λd=>by cases q:j2 K h A d with|none=>exact .inl rfl|some e=>
 obtain⟨_,f,_,_,⟨_,b⟩|⟨_,b⟩⟩:=qG c q;·exact .inr ⟨_,_,by rw[b]⟩
 ·exact .inr ⟨_,_,by rw[b]⟩
theorem Ae{a b:Value}{c d:List Value}(f:(some {cls:=a,data:=.seq c.toArray}:Option Obj)=some {cls:=b,data:=.seq d.toArray}):a=b∧c=d:=by have e:=Lv f;have g:a=b:=Me Obj.cls e;have i:Data.seq c.toArray=Data.seq d.toArray:=Me Obj.data e;injection i with e4;refine⟨g,?_⟩;have j:=Me Array.toList e4;simpa using j
theorem Jd(i:K.In h)(j:∀a∈A,lW h A a){a:Addr}{b:List Value}(d:a∈A)(c:h.get? a=some {cls:=.type "list",data:=.seq b.toArray}):(∀l∈b,OkU A l)∧SqL K (j2 K h A) a (b.map toV):=by f_assign(
 obtain⟨e,m,f,n⟩:=j a d;have o:e=b:=by
  rcases n with q|q;·rw[c]at q;exact(Ae q).2.symm
  ·rw[c]at q;exact absurd (Value.type.inj (Ae q).1) (by decide)
 subst o;refine⟨f,?_⟩;cases hk:K.lookup a with|none=>exact .inl (.inr ⟨_,by rw[vf d hk c,wW]⟩)|some p=>have g:=i a p hk;rw[c]at g;obtain rfl:=Lv g;exact .inr ⟨_,e.toArray,_,hk,rfl,rfl,rfl,by rw[KP];exact m,by simpa using jY f⟩)
mutual
theorem G0{g:Params}(e:K.In h)(f:∀a∈A,lW h A a):∀(c:WData)(d:Value),Well g h d c→plW c=true→OkU A d→Dw K (j2 K h A) (toV d) c|.none,_,_,b,_=>Bool.noConfusion (show false=true from b)|.bool _,_,_,b,_=>Bool.noConfusion (show false=true from b)|.int i,_,x,_,_=>by cases x;exact .int i|.str _,_,_,b,_=>Bool.noConfusion (show false=true from b)|.bytes _,_,_,b,_=>Bool.noConfusion (show false=true from b)|.list j,_,x,b,l=>by obtain⟨a,q,rfl,m,n⟩:=um x;obtain⟨o,p⟩:=Jd e f l m;exact .lst p (yH e f j _ n b o)|.tuple _,_,_,b,_=>Bool.noConfusion (show false=true from b)|.float _,_,_,b,_=>Bool.noConfusion (show false=true from b)|.dict _,_,_,b,_=>Bool.noConfusion (show false=true from b)|.bytearray _,_,_,b,_=>Bool.noConfusion (show false=true from b)|.set _,_,_,b,_=>Bool.noConfusion (show false=true from b)|.frozenset _,_,_,b,_=>Bool.noConfusion (show false=true from b)|.obj _ _,_,_,b,_=>Bool.noConfusion (show false=true from b)
theorem yH{l:Params}(e:K.In h)(f:∀a∈A,lW h A a):∀(b:List WData)(c:List Value),WellAll l h c b→pV b=true→(∀d∈c,OkU A d)→jX K (j2 K h A) (c.map toV) b|[],_,x,_,_=>by cases x;exact .nil|g::b,_,x,m,i=>by obtain⟨n,c,rfl,o,p⟩:=uo x;have j:plW g=true∧pV b=true:=Bool.and_eq_true_iff.mp m;exact .cons (G0 e f g n o j.1 (i _ (Ks ..))) (yH e f b c p j.2 λd q=>i d (J0 _ q))
end
end
theorem rL{b:List WData}(c:WData.layableAll b=true):∀a∈b,a.weight≤1048576:=λa d=>(PySem.W.layableW_iff.mp (K7.mp c a d)).2.2
theorem rM:∀(b:List Codec)(a:Codec.denoteAll b),(Codec.encAll b a).length=b.length|[],_=>rfl|c::b,a=>by show(Codec.encAll b a.2).length+1=b.length+1;rw[rM b a.2]
end L2
end
namespace L2
open PySem PySem.Spec PyProof.Rows
def inClass(a:Stmt)(b:Nat):Stmt:=match a with|.ClassDef _ _ _ c _ _ _ _ _ _ _=>c.getD b (.Pass ⟨0,0,0,0⟩)|_=>.Pass ⟨0,0,0,0⟩
def d7(b:Stmt):Arguments:=match b with|.FunctionDef _ a _ _ _ _ _ _ _ _=>a|_=>{posonlyargs:=[],args:=[],vararg:=none,kwonlyargs:=[],kw_defaults:=[],kwarg:=none,defaults:=[]}
def b_(a:Stmt):List Stmt:=match a with|.FunctionDef _ _ b _ _ _ _ _ _ _=>b|_=>[]
def aO(a:Stmt):Scope:=match a with|.FunctionDef _ _ _ _ _ _ b _ _ _=>b|_=>{kind:=.function,names:=[],isGenerator:=false,isCoroutine:=false}
abbrev CX0:CXT:=λ_ _ _ _ _ _=>False
abbrev E0:XK:=λ_ _ _=>False
theorem wX:jS CX0 X E0:=λ_ _ _ _ _ _ _ a=>a.elim
structure Fun(K:PySem.W.Frag)(x qual:Str)(st:Stmt)(f:Addr)(fd:FuncData):Prop where
 ex:∃(oc:Value)(od:Option Addr)(kV doc pm:Value)(an:Option Addr)(cdv ct:Value)(osl:Array (Option Value)),fd=PySem.W.fnOf x qual (d7 st) (b_ st) (aO st) .none kV doc pm an cdv ct∧K.lookup f=some ⟨oc,od,.func fd,osl⟩∧PySem.W.codeIn K cdv qual=true
 kp:PySem.W.keepIn K (.ref f)=true
section
variable {P : Program} {w : World} {K : PySem.W.Frag} {mg : Str → Option Value} {base : Heap}
theorem Fun.ok{st:Stmt}{e:Addr}{i j:List Str}{k:Nat}{l:Sp}(n:Fun K x qual st e fd)(o:cB i j (aO st))(len:∀a b c d,l a b c d→a.length=j.length)(p:∀(f:Value)(g:Around)(m:List Env)(h:Shared)(b:Hp)(a:List V)(c:VK)(d:XK),cu k (g.deeper (envOfC qual (aO st) h.heap.objs.size e f))→l a b c d→∃t,PSs (rB CX0 P w K mg base i qual (aO st) e f g m h b d).nox (b_ st) t∧t {nx:=λ_ q=>c .non q,rt:=c} (start i a) b):jR P w K mg base CX0 (k+1) e fd j l:=by obtain⟨z,A,kV,B,C,D,f,E,F,rfl,lk,r⟩:=n.ex;refine FN lk r o len λg m h b a c d s u=>?_;obtain⟨t,v,y⟩:=p f g m h b a c d s u;exact⟨t,v.nox,y⟩
theorem Fun.binds{st:Stmt}{h:Addr}{a:List Str}(i:Fun K x qual st h fd)(j:∀(kV b c:Value)(d:Option Addr)(e f:Value)(g:List Value),g.length=a.length→bindArgs (PySem.W.fnOf x qual (d7 st) (b_ st) (aO st) .none kV b c d e f) ⟨g,[]⟩=pure (a.zip g)):Binds K fd a []:=by obtain⟨l,m,kV,b,c,d,e,f,n,rfl,lk,o⟩:=i.ex;exact .all (j kV b c d e f)
theorem j3{st:Stmt}{a:Addr}{d:Value}{e b:Option Addr}{f:Array (Option Value)}{kV c:Value}(g:K.lookup a=some ⟨d,e,.func (PySem.W.fnOf x qual (d7 st) (b_ st) (aO st) .none kV doc pm b cdv c),f⟩)(h:PySem.W.codeIn K cdv qual=true)(k:PySem.W.keepIn K (.ref a)=true):Fun K x qual st a (PySem.W.fnOf x qual (d7 st) (b_ st) (aO st) .none kV doc pm b cdv c):=⟨⟨d,e,kV,doc,pm,b,cdv,c,f,rfl,g,h⟩,k⟩
end
theorem bN{a:Around}{k:Nat}(b:cu k a):a.units+1<cLine:=Kv (Nat.add_le_add_left (by decide:1≤64) _) b.units
theorem bq{a:Nat}(b:a≤1000):a<sizeLine:=Kv b (by decide)
section
variable {X : Cx}
theorem pv(a:Nat){b:Pos}(c:X.N[a]?=some x:=by rfl)(d:Vis X.env.scope x:=by first|exact Or.inl rfl|exact Or.inr (Or.inl rfl)|exact Or.inr (Or.inr rfl))(e:(x==("__debug__":Str))=false:=by decide)(f:(x==("__classdict__":Str))=false:=by decide):PE X (.Name x b) (Be a):=ym c d e f
theorem Bu:cx X (.builtin "len") (λd b e=>∃a c,d=[V.ref a]∧b a=some (.dK c)∧e (.int c.length) b):=by intro n o p b d q e f g h;obtain⟨a,c,rfl,i,j⟩:=h;obtain⟨r,rfl,l⟩:=vals1 g;cases l;exact HY f (.inl i) λt s m=>⟨.int c.length,b,m,⟨t,rfl⟩,j⟩
end
def au(b c:Hp):Prop:=∀a o,b a=some o→c a=some o
theorem au.refl(a:Hp):au a a:=λ_ _ b=>b
theorem au.trans{b c d:Hp}(a:au b c)(g:au c d):au b d:=λe f h=>g e f (a e f h)
theorem au.free(c:au H H'){a:Addr}(b:H' a=Option.none):H a=Option.none:=by cases q:H a with|none=>rfl|some d=>rw[c a d q]at b;cases b
section
variable {κ : Type} [DecidableEq κ]
theorem EW{a:List (κ×V)}{k:κ}(b:bt a k=some v):k∈a.map (·.1):=by
 have c:(a.any λd=>decide (d.1=k))=true:=by rw[iI,b];all_goals rfl
 obtain⟨e,f,g⟩:=List.any_eq_true.mp c;exact LX.mpr ⟨e,f,KU g⟩
theorem uq{a:κ×V}{b:List (κ×V)}{k:κ}(c:a.1=k):jx (a::b) k=jx b k:=by unfold jx;rw[K8,Mi (by simp[c])]
theorem oG{a:κ×V}{b:List (κ×V)}{k:κ}(c:¬a.1=k):jx (a::b) k=a::jx b k:=by unfold jx;rw[K8,Mj (by simp[c])]
theorem rN:∀{a:List (κ×V)}{k:κ},¬k∈a.map (·.1)→jx a k=a
 |[],_,_=>rfl|d::e,k,c=>by
  have f:¬k∈e.map (·.1):=λg=>by obtain⟨h,i,b⟩:=LX.mp g;exact c (LX.mpr ⟨h,LN.mpr (Or.inr i),b⟩)
  rw[oG λb=>c (LX.mpr ⟨d,LN.mpr (Or.inl rfl),b⟩),rN f]
theorem ur:∀{b:List (κ×V)}{k:κ},(b.map (·.1)).Nodup→k∈b.map (·.1)→(jx b k).length+1=b.length
 |[],_,_,a=>by simp at a|c::d,k,e,a=>by
  have e:(c.1::d.map (·.1)).Nodup:=e;have a:k=c.1∨k∈d.map (·.1):=LN.mp a;obtain⟨g,h⟩:=Ls.mp e;by_cases f:c.1=k;·subst f;rw[uq rfl,rN g];all_goals rfl
  ·have i:k∈d.map (·.1):=a.resolve_left λj=>f j.symm;have l:=ur h i;rw[oG f,K9,K9];lia
end
theorem at_of{a:List V}{b:Int}{j:Nat}(c:b=(j:Int))(d:a[j]?=some v):atI a b=some v:=by rw[c];exact kX d
def GC(mg:Str→Option Value)(x:Str)(b:V):Prop:=∃a,mg x=some a∧RelV b a
section
variable {X : Cx}
theorem aJ{a:Pos}(b:GC X.mg x v)(c:Gl X x:=by rfl)(d:(x==("__debug__":Str))=false:=by decide):PE X (.Name x a) (tC v):=by obtain⟨g,e,f⟩:=b;exact Ew c e f d
end
structure Ok(P:Program)(w:World)(K:PySem.W.Frag)(mg:Str→Option Value)(base:Heap)(x:Str)(k:Nat)(ps:List Str)(sp:Sp):Prop where ex:∃f fd,jR P w K mg base CX0 k f fd ps sp∧mg x=some (.ref f)∧PySem.W.keepIn K (.ref f)=true∧Binds K fd ps []
structure OkM(P:Program)(w:World)(K:PySem.W.Frag)(mg:Str→Option Value)(base:Heap)(C:Addr)(m:Str)(k:Nat)(ps:List Str)(sp:Sp):Prop where ex:∃f fd,jR P w K mg base CX0 k f fd ps sp∧Cw K C m f∧Binds K fd ps []
structure OkI(P:Program)(w:World)(K:PySem.W.Frag)(mg:Str→Option Value)(base:Heap)(x:Str)(C:Addr)(k:Nat)(ps:List Str)(sp:Sp):Prop where ex:∃f fd,jR P w K mg base CX0 k f fd ps sp∧Mk K C f∧Binds K fd ps []mgC:mg x=some (.ref C)
structure Dx(K:PySem.W.Frag)(mg:Str→Option Value)(x:Str)(st:Stmt)(ps:List Str):Prop where ex:∃f fd,Fun K x x st f fd∧mg x=some (.ref f)∧Binds K fd ps []
structure DxM(K:PySem.W.Frag)(C:Addr)(m qual:Str)(st:Stmt)(ps:List Str):Prop where ex:∃f fd,Fun K m qual st f fd∧Cw K C m f∧Binds K fd ps []
structure DxI(K:PySem.W.Frag)(mg:Str→Option Value)(x qual:Str)(C:Addr)(st:Stmt)(ps:List Str):Prop where ex:∃f fd,Fun K "__init__" qual st f fd∧Mk K C f∧Binds K fd ps []mgC:mg x=some (.ref C)
section
variable {P : Program} {w : World} {K : PySem.W.Frag} {mg : Str → Option Value} {base : Heap}
theorem Dx.ok{st:Stmt}{g e:List Str}{k:Nat}{h:Sp}(n:Dx K mg x st e)(o:cB g e (aO st))(len:∀a b c f,h a b c f→a.length=e.length)(p:∀(d:Addr)(i:Value)(j:Around)(q:List Env)(l:Shared)(b:Hp)(a:List V)(c:VK)(f:XK),cu k (j.deeper (envOfC x (aO st) l.heap.objs.size d i))→h a b c f→∃t,PSs (rB CX0 P w K mg base g x (aO st) d i j q l b f).nox (b_ st) t∧t {nx:=λ_ r=>c .non r,rt:=c} (start g a) b):Ok P w K mg base x (k+1) e h:=by obtain⟨d,s,m,u,v⟩:=n.ex;exact⟨d,s,m.ok o len (p d),u,m.kp,v⟩
theorem DxM.ok{st:Stmt}{g e:List Str}{k:Nat}{h:Sp}(n:DxM K C m qual st e)(o:cB g e (aO st))(len:∀a b c f,h a b c f→a.length=e.length)(p:∀(d:Addr)(i:Value)(j:Around)(q:List Env)(l:Shared)(b:Hp)(a:List V)(c:VK)(f:XK),cu k (j.deeper (envOfC qual (aO st) l.heap.objs.size d i))→h a b c f→∃t,PSs (rB CX0 P w K mg base g qual (aO st) d i j q l b f).nox (b_ st) t∧t {nx:=λ_ r=>c .non r,rt:=c} (start g a) b):OkM P w K mg base C m (k+1) e h:=by obtain⟨d,s,u,v,x⟩:=n.ex;exact⟨d,s,u.ok o len (p d),v,x⟩
theorem DxI.ok{st:Stmt}{g e:List Str}{k:Nat}{h:Sp}(i:DxI K mg x qual C st e)(n:cB g e (aO st))(len:∀a b c f,h a b c f→a.length=e.length)(o:∀(d:Addr)(j:Value)(l:Around)(p:List Env)(m:Shared)(b:Hp)(a:List V)(c:VK)(f:XK),cu k (l.deeper (envOfC qual (aO st) m.heap.objs.size d j))→h a b c f→∃t,PSs (rB CX0 P w K mg base g qual (aO st) d j l p m b f).nox (b_ st) t∧t {nx:=λ_ q=>c .non q,rt:=c} (start g a) b):OkI P w K mg base x C (k+1) e h:=by obtain⟨d,r,s,u,v⟩:=i.ex;exact⟨⟨d,r,s.ok n len (o d),u,v⟩,i.mgC⟩
end
section
variable {X : Cx} {k k' : Nat} {x m : Str} {C : Addr} {ps : List Str} {sp : Sp} {p pos apos : Pos} {e o : Expr} {es : List Expr} {ta : TE} {t : TA}
theorem ag(a:Ok X.prog X.w X.K X.mg X.base x k ps sp)(b:cu k' X.A)(c:PA X (e::es) t)(d:k≤k':=by decide)(f:Gl X x:=by rfl)(g:(x==("__debug__":Str))=false:=by decide)(h:starEach (e::es) X.env=(false,eval e X.env)::starEach es X.env:=by rfl)(i:(backTo pos (starEach es X.env)).any (·.1)=false:=by rfl):PE X (.Call (.Name x p) (e::es) [] pos) (zM sp [] E0 t):=by obtain⟨r,s,j,l,n,q⟩:=a.ex;exact EE j (b.mono d) f l n q .nil wX c g h i
theorem gP(a:OkI X.prog X.w X.K X.mg X.base x C k ps sp)(b:cu k' X.A)(c:PA X (e::es) t)(d:k+1≤k':=by decide)(f:Gl X x:=by rfl)(g:(x==("__debug__":Str))=false:=by decide)(h:starEach (e::es) X.env=(false,eval e X.env)::starEach es X.env:=by rfl)(i:(backTo pos (starEach es X.env)).any (·.1)=false:=by rfl):PE X (.Call (.Name x p) (e::es) [] pos) (t9 C sp [] E0 t):=by obtain⟨q,r,j,l,n⟩:=a.ex;exact EG l j (b.mono d) f a.mgC n .nil wX c g h i
theorem Bv(a:OkI X.prog X.w X.K X.mg X.base x C k ps sp)(b:cu k' X.A)(c:k+1≤k':=by decide)(d:Gl X x:=by rfl)(f:(x==("__debug__":Str))=false:=by decide):PE X (.Call (.Name x p) [] [] pos) (t9 C sp [] E0 rq):=by obtain⟨j,l,g,h,i⟩:=a.ex;exact CB h g (b.mono c) d a.mgC i .nil wX f
theorem iJ{c:Sem Bool}(d:Cls X.K C)(f:OkM X.prog X.w X.K X.mg X.base C m k ps sp)(g:cu k' X.A)(h:PE X o ta)(i:PA X (e::es) t)(j:k≤k':=by decide)(l:starEach (e::es) X.env=(false,eval e X.env)::starEach es X.env:=by rfl)(n:(backTo pos (starEach es X.env)).any (·.1)=false:=by rfl)(q:eval (.Call (.Attribute o m apos) (e::es) [] pos) X.env=(do
 let a←eval o X.env
 standAt apos.atName let(b,first)←holding [a] (getMethod a m c)callWith pos b first (backTo pos (starEach (e::es) X.env)) (backToKw pos (keywordEach [] X.env))):=by rfl):PE X (.Call (.Attribute o m apos) (e::es) [] pos) (t7 C m sp [] E0 ta t):=by obtain⟨b,v,r,s,u⟩:=f.ex;exact EF h d s r (g.mono j) u .nil wX i l n q
theorem oH{c:Sem Bool}(d:Cls X.K C)(f:OkM X.prog X.w X.K X.mg X.base C m k ps sp)(g:cu k' X.A)(h:PE X o ta)(i:k≤k':=by decide)(j:eval (.Call (.Attribute o m apos) [] [] pos) X.env=(do
 let a←eval o X.env
 standAt apos.atName let(b,first)←holding [a] (getMethod a m c)callWith pos b first (backTo pos (starEach [] X.env)) (backToKw pos (keywordEach [] X.env))):=by rfl):PE X (.Call (.Attribute o m apos) [] [] pos) (t7 C m sp [] E0 ta rq):=by obtain⟨b,r,l,n,q⟩:=f.ex;exact Cz h d n l (g.mono i) q .nil wX j
end
def sp1(b:Int→Prop)(c:Int→V):Sp:=λd e f _=>∃a,d=[.int a]∧b a∧f (c a) e
def sp2(c:Int→Int→Prop)(d:Int→Int→V):Sp:=λe f g _=>∃a b,e=[.int a,.int b]∧c a b∧g (d a b) f
def sp3(d:Int→Int→Int→Prop)(e:Int→Int→Int→V):Sp:=λf g h _=>∃a b c,f=[.int a,.int b,.int c]∧d a b c∧h (e a b c) g
def sp4(e:Int→Int→Int→Int→Prop)(f:Int→Int→Int→Int→V):Sp:=λg h i _=>∃a b c d,g=[.int a,.int b,.int c,.int d]∧e a b c d∧i (f a b c d) h
theorem hZ{C f}{x:Str}:∀a b c d,sp1 C f a b c d→a.length=[x].length:=λ_ _ _ _⟨_,e,_⟩=>by rw[e];rfl
theorem qH{C f}{x y:Str}:∀a b c d,sp2 C f a b c d→a.length=[x,y].length:=λ_ _ _ _⟨_,_,e,_⟩=>by rw[e];rfl
theorem EX{C f}{x y b:Str}:∀a c d e,sp3 C f a c d e→a.length=[x,y,b].length:=λ_ _ _ _⟨_,_,_,g,_⟩=>by rw[g];rfl
theorem EY{C f}{x y b c:Str}:∀a d e g,sp4 C f a d e g→a.length=[x,y,b,c].length:=λ_ _ _ _⟨_,_,_,_,h,_⟩=>by rw[h];rfl
theorem yJ{P:Program}{w:World}{K:PySem.W.Frag}{mg:Str→Option Value}{base:Heap}{a:List Str}{b:Addr}{c:Around}{d:List Env}{e:Shared}:(rB CX P w K mg base a qual scope b cd c d e H E).K=K:=rfl
def Loop(f:It)(l:TG)(m:TS)(g:Ends)(a:St)(n:Hp):Prop:=∃W:Nat→Nat→St→Hp→Prop,(∃e,W 0 e a n)∧∀b e a c,W b e a c→(f.stop b c∧g.nx a c)∨(f.go b c∧∃h:St→Hp→Prop,(∀i d,h i d→∃j,j<e∧W (b+1) j i d)∧∀x d,f.yld b c x d→l x a d λo p=>m {g with nx:=h,ct:=h,bk:=g.nx} o p)
theorem EZ(wi:TI)(b:TG)(c:TS)(d:Ends)(a:St)(e:Hp):HH wi b c d a e=wi a e λf g=>Loop f b c d a g:=rfl
def Lc(f:It)(p:TG)(q:TT)(r:TE)(g:List Nat)(s:VK)(j:St)(l:Hp):Prop:=∀a,l a=none→∃W:Nat→Nat→Hp→Prop,(∃e,W 0 e (upd l a (.lst [])))∧∀b e c,W b e c→(f.stop b c∧s (.ref a) c)∨(f.go b c∧∃h:Hp→Prop,(∀d,h d→∃m,m<e∧W (b+1) m d)∧∀x d,f.yld b c x d→p x (wipe j g) d λi u=>wipe i g=wipe j g∧q i u λv n=>if v=true then r i n λy o=>∃acc,o a=some (.lst acc)∧acc.length<sizeLine∧h (upd o a (.lst (acc++[y])))else h n)
theorem G1(wi:TI)(b:TG)(c:TT)(d:TE)(e:List Nat)(a:St)(f:Hp)(g:VK):tLc wi b c d e a f g=wi a f λh i=>Lc h b c d e g a i:=rfl
theorem au.new{a:Hp}{b:Addr}(d:a b=none):au a (upd a b o):=λe f c=>by rw[ak (ay c d)];exact c
theorem au.seqT{K:PySem.W.Frag}(c:au H H')(b:SqT K H a xs):SqT K H' a xs:=by
 rcases b with(b|⟨o,b⟩)|b;·exact .inl (.inl (c _ _ b))
 ·exact .inl (.inr ⟨o,c _ _ b⟩)
 ·exact .inr b
theorem take_snoc{c:Type}:∀{l:List c}{i:Nat}{x:c},l[i]?=some x→l.take (i+1)=l.take i++[x]|[],i,x,b=>by simp at b|a::l,0,x,b=>by have d:a=x:=Lv b;subst d;rfl|a::l,i+1,x,b=>by have e:=take_snoc (l:=l) (i:=i) (x:=x) b;show a::l.take (i+1)=a::l.take i++[x];rw[e];rfl
theorem Af{K:PySem.W.Frag}{xs:List V}{f:TG}{m:TE}{g:List Nat}{n:VK}(s:SqT K H1 a xs)(C:xs.length≤sizeLine)(h:V→V)(u:∀x∈xs,∀(b:Hp)(o:VK),au H1 b→o (h x) b→f x (wipe σ g) b λd e=>wipe d g=wipe σ g∧m d e o)(v:∀c,H1 c=none→n (.ref c) (upd H1 c (.lst (xs.map h))))(z:∀x(p q:St→Hp→Prop)σ b,(∀d e,p d e→q d e)→f x σ b p→f x σ b q):Lc (Itt K a) f ER m g n σ H1:=λc j=>by f_assign(
 refine GO (K:=K) (a:=a) (xs:=xs) (λi b=>b=upd H1 c (.lst ((xs.take i).map h))) rfl (λi b _ l=>by rw[l];exact(au.new j).seqT s) ?_ ?_
 ·rintro i x b hi rfl;have A:x∈xs:=J_ hi;refine z x _ _ _ _ ?_ (u x A _ (λy r=>∃acc,r c=some (.lst acc)∧acc.length<sizeLine∧(upd r c (.lst (acc++[y])))=upd H1 c (.lst ((xs.take (i+1)).map h))) (au.new j) ?_);·rintro d e⟨l,B⟩;refine⟨l,?_⟩;dsimp only[ER];rw[Mj rfl];exact B
  ·have D:=(Jx.mp hi).1;refine⟨_,aj,by rw[Ln,K_];lia,?_⟩;rw[kU,take_snoc hi,Lp];rfl
 ·rintro b rfl;rw[Lb];exact v c j)
theorem bh:bootBuiltins "len"=some (.builtin "len"):=by decide+kernel
theorem vg:bootBuiltins "ord"=some (.builtin "ord"):=by decide+kernel
theorem yK:bootBuiltins "all"=some (.builtin "all"):=by decide+kernel
theorem G3:bootBuiltins "any"=some (.builtin "any"):=by decide+kernel
theorem vh:bootBuiltins "min"=some (.builtin "min"):=by decide+kernel
theorem j4:bootBuiltins "max"=some (.builtin "max"):=by decide+kernel
theorem ja:bootBuiltins "sum"=some (.builtin "sum"):=by decide+kernel
theorem lg:bootBuiltins "sorted"=some (.builtin "sorted"):=by decide+kernel
theorem E1:bootBuiltins "list"=some (.type "list"):=by decide+kernel
theorem C1:bootBuiltins "tuple"=some (.type "tuple"):=by decide+kernel
section
variable {X : Cx}
theorem fR:cx X (.builtin "len") (λd a e=>∃b c,d=[.ref b]∧a b=some (.tup c)∧e (.int c.length) a):=λf g h a d i e j l m=>by obtain⟨b,c,n,o,p⟩:=m;exact e_ f g h a d i e j l ⟨b,c,n,.inr (SqT.of o),p⟩
theorem bF:cx X (.builtin "len") (λd a e=>∃b c,d=[.ref b]∧a b=some (.lst c)∧e (.int c.length) a):=λf g h a d i e j l m=>by obtain⟨b,c,n,o,p⟩:=m;exact e_ f g h a d i e j l ⟨b,c,n,.inl (SqL.of o),p⟩
theorem Bw:cx X (.builtin "len") (λd a e=>∃b c,d=[.ref b]∧SqL X.K a b c∧e (.int c.length) a):=λf g h a d i e j l m=>by obtain⟨b,c,n,o,p⟩:=m;exact e_ f g h a d i e j l ⟨b,c,n,.inl o,p⟩
def C2:R2:=λx y a f=>∃b c d e,x=.ref b∧y=.int d∧a b=some (.tup c)∧atI c d=some e∧f e a
def C3:R2:=λx y a f=>∃b c d e,x=.ref b∧y=.int d∧a b=some (.lst c)∧atI c d=some e∧f e a
theorem ix_tupH:IxR X C2:=λa b c d e f x y g h i j l m n o=>by obtain⟨p,q,r,s,u,v,z,A,B⟩:=n;exact oy a b c d e f x y g h i j l m ⟨p,q,r,s,u,v,SqT.of z,A,B⟩ o
theorem ix_listH:IxR X C3:=λa b c d e f x y g h i j l m n o=>by obtain⟨p,q,r,s,u,v,z,A,B⟩:=n;exact EL a b c d e f x y g h i j l m ⟨p,q,r,s,u,v,SqL.of z,A,B⟩ o
end
theorem at0{a:Type}{x:a}{b:List a}:atI (x::b) 0=some x:=by simp[atI,ixN]
theorem at1{a:Type}{x y:a}{b:List a}:atI (x::y::b) 1=some y:=kX (j:=1) rfl
theorem at2{a:Type}{x y b:a}{c:List a}:atI (x::y::b::c) 2=some b:=kX (j:=2) rfl
theorem at3{a:Type}{x y c b:a}{d:List a}:atI (x::y::c::b::d) 3=some b:=kX (j:=3) rfl
theorem at4{a:Type}{x y c d b:a}{e:List a}:atI (x::y::c::d::b::e) 4=some b:=kX (j:=4) rfl
theorem SqL.updI{K:PySem.W.Frag}{d:Addr}{fs:List (Str×V)}(b:SqL K H a xs)(i:H d=some (.ins f g fs)):SqL K (upd H d o) a xs:=by
 have ne:∀e,H a=some e→(∀f g fs,e≠.ins f g fs)→a≠d:=λe h c j=>by rw[j,i]at h;exact c _ _ _ (Lv h).symm
 rcases b with(b|⟨ob,b⟩)|b;·exact .inl (.inl (by rw[ak (ne _ b (by intros;intro c;cases c))];exact b))
 ·exact .inl (.inr ⟨ob,by rw[ak (ne _ b (by intros;intro c;cases c))];exact b⟩)
 ·exact .inr b
theorem SqL.fr{K:PySem.W.Frag}{j:Hp}{f:Addr}(b:SqL K H a xs)(fr:∀g l,H g=some l→g≠f→j g=some l)(h:∃d e fs,H f=some (.ins d e fs)):SqL K j a xs:=by
 obtain⟨d,e,fs,h⟩:=h;have ne:∀i,H a=some i→(∀d e fs,i≠.ins d e fs)→a≠f:=λi m c n=>by rw[n,h]at m;exact c _ _ _ (Lv m).symm
 rcases b with(b|⟨ob,b⟩)|b;·exact .inl (.inl (fr _ _ b (ne _ b (by intros;intro c;cases c))))
 ·exact .inl (.inr ⟨ob,fr _ _ b (ne _ b (by intros;intro c;cases c))⟩)
 ·exact .inr b
theorem tyL{K:PySem.W.Frag}{a:Hp}(b:a q=some (.lst xs)):tyV K "list" (.ref q) a:=.inl ⟨rfl,xs,SqL.of b⟩
theorem E2(c:List V)(a b:Nat)(d:a+b≤c.length):rD c (some (a:Int)) (some ((a:Int)+(b:Int)))=(c.drop a).take b:=by unfold rD;rw[show((a:Int)+(b:Int))=((a+b:Nat):Int)by lia,HT.u5,HT.u5,Nat.min_eq_left (show a+b≤c.length from d),Nat.min_eq_left (show a≤c.length by lia)];congr 1;lia
theorem yL{a b:Int}(c:-1000000000000≤a)(d:a≤1000000000000):yq a b:=.inl ⟨by omega,by omega⟩
theorem wY{b a:Int}(c:-1000000000000≤a)(d:a≤1000000000000):yq b a:=.inr ⟨by lia,by lia⟩
end L2
namespace L2
open PySem PySem.Spec PyProof.Rows PyProof
theorem yM(d f:Addr)(a c:Array Value)(i j:Nat)(l:Option Addr)(m:Array (Option Value))(n:a.size+c.size≤sizeLine):Meets (Builtin.«list.extend» ⟨[.ref d,.ref f],[]⟩) (λ_ g b=>b.heap.get? d=some {cls:=.type "list",data:=.seq a i}∧b.heap.get? f=some ⟨.type "tuple",l,.seq c j,m⟩∧g (.ok (.ret Value.none)) {b with heap:=b.heap.update d (Obj.mapSeq λo=>o++c)}):=Meets.of_wp λs w u g b e=>by f_assign(
 obtain⟨v,x,y,z,os⟩:=b;obtain⟨h,p,e⟩:=e;have A:¬(!a.isEmpty&&Builtin.List.listTooLong (a.size+c.size))=true:=by rw[wJ n,Bool.and_false];exact Kl
 have q:a.size≤sizeLine:=by lia
 have r:(a++c).size≤sizeLine+1:=by rw[Array.size_append];lia
 wp_walk using(wpAny_updateSeq h rfl (hz:=q) (_hz':=r)),wpAny_loadPart' h,wpAny_loadPart' p;exact⟨_,rfl,e⟩)
structure DxT(K:PySem.W.Frag)(mg:Str→Option Value)(x:Str)(st:Stmt)(ps:List Str)(t:Addr):Prop where ex:∃f fd c,Fun K x x st f fd∧mg x=some (.ref f)∧Binds K fd ps []∧fd.code=.ref c∧PySem.W.codeHdIn K c t=true
def h8(b:Hp)(a:Addr)(c:List Int):Prop:=b a=some (.lst (c.map V.int))∨b a=some (.tup (c.map V.int))
theorem h8.same{b:List Int}(d:h8 H a b)(c:au H H'):h8 H' a b:=d.imp (c _ _) (c _ _)
theorem h8.ne{e:List Int}(f:h8 H a e)(d:H b=none):a≠b:=f.elim (λc=>ay c d) λc=>ay c d
section
variable {X : Cx}
theorem Bx:cx X (.builtin "len") (λd a e=>∃b c,d=[.ref b]∧h8 a b c∧e (.int c.length) a):=λg h i a d j e l m n=>by obtain⟨b,c,o,p,q⟩:=n;refine e_ g h i a d j e l m ⟨b,c.map V.int,o,p.elim (λf=>.inl (SqL.of f)) (λf=>.inr (SqT.of f)),?_⟩;rw[Ln];exact q
def wZ:V→List V→Hp→VK→Prop:=λx f a g=>∃b e c d,x=.ref b∧f=[.ref e]∧a b=some (.lst c)∧h8 a e d∧c.length+d.length≤sizeLine∧g .non (upd a b (.lst (c++d.map V.int)))
theorem ml:MtM X "list.extend" wZ:=by f_assign(
 intro n o p q x vs v us Q I rx rv h;obtain⟨e,b,r,G,rfl,rfl,c,a,s,f⟩:=h;rcases a with a|a;·exact Bn n o p q _ _ v us Q I rx rv ⟨e,b,r,_,rfl,rfl,c,a,by rw[Ln];exact s,f⟩
 ·cases rx;obtain⟨H,rfl,u⟩:=rv.one;cases u;obtain⟨J,g,y,z,L,d⟩:=I.lstM c;obtain⟨M,i,j,⟨⟨N,A,O,B⟩,C,l,D,m⟩⟩:=I.hok b _ a;simp only at l m;subst l m;have E:=j.length;rw[Ln]at E;refine call_meets F.slot_list_extend ⟨_,d,rfl⟩ F.entry_list_extend (F.args_list_extend_2 _ _) (yM e b g.toArray i.toArray y D A B (by rw[KP,KP];lia)) ⟨d,C,?_⟩;refine⟨.non,_,I.lset (its':=g++i) c d (by simp) (z.append j) ?_,rfl,f⟩;rw[Kr,Ln];lia)
end
end L2
namespace L2
open PySem PySem.Spec PyProof.Rows
section
variable {prog : Program} {w : World} {A : Around} {E : Value → Shared → Prop} {s : Shared}
structure gw(h:Heap)(d:Addr)(es:Array DictEntry)(ep:Nat):Prop where
 ns:(d==sysModules)=false
 ex:∃o,h.get? d=some o∧o.ExactDict∧o.data=.dict es ep
theorem gw.keep{e f:Heap}{g:Array DictEntry}{h:Nat}(x:gw e d g h)(k:∀c,e.get? d=some c→f.get? d=some c):gw f d g h:=⟨x.ns,let⟨c,a,b⟩:=x.ex;⟨c,k c a,b⟩⟩
theorem gw.ty{c:Array DictEntry}{e:Nat}(x:gw s.heap d c e):s.TypeIs (.ref d) "dict":=let⟨o,a,b,_⟩:=x.ex;⟨o,a,b.1⟩
theorem gw.lt{b:Heap}{c:Array DictEntry}{e:Nat}(x:gw b d c e):d<b.objs.size:=let⟨_,a,_⟩:=x.ex;LU a
theorem rO(b:Addr)(d:(b==sysModules)=false):MeetsIn prog w (Builtin.«dict.values» ⟨[.ref b],[]⟩) (λ_ c s=>s.TypeIs (.ref b) "dict"∧c (.ok (.ret (.ref s.heap.objs.size))) {s with heap:=s.heap.push {cls:=.type "dict_values",data:=.fields #[.ref b]}}):=MeetsIn.of_wp λA c s⟨ty,e⟩=>by refine Ma ?_;unfold Builtin.Dict.noArgs;refine Ma (wpAny_notOrdered_dict ty ?_);refine Md (a:=b) ?_;refine Ma (m:=Builtin.Dict.showsAll b) ?_;unfold Builtin.Dict.showsAll;rw[Mi (by rw[d];exact Kl)];exact Md (Ma (KZ (Md ⟨_,rfl,e⟩)))
theorem By(b:Addr)(d:(b==sysModules)=false):MeetsIn prog w (Builtin.«dict.items» ⟨[.ref b],[]⟩) (λ_ c s=>s.TypeIs (.ref b) "dict"∧c (.ok (.ret (.ref s.heap.objs.size))) {s with heap:=s.heap.push {cls:=.type "dict_items",data:=.fields #[.ref b]}}):=MeetsIn.of_wp λA c s⟨ty,e⟩=>by unfold Builtin.«dict.items»;refine Ma ?_;unfold Builtin.Dict.noArgs;refine Ma (wpAny_notOrdered_dict ty ?_);refine Md (a:=b) ?_;refine Ma (m:=Builtin.Dict.showsAll b) ?_;unfold Builtin.Dict.showsAll;rw[Mi (by rw[d];exact Kl)];exact Md (Ma (KZ (Md ⟨_,rfl,e⟩)))
theorem jy{b:Array DictEntry}{c:Nat}{e:Value→Shared→Prop}(a:s.heap.IsValuesView v d)(h:gw s.heap d b c)(i:e (.ref s.heap.objs.size) {s with heap:=s.heap.push {cls:=.type "dict_valueiterator",data:=.fields #[.ref d,.int 0 0,.int b.size 0,.int c 0]}}):wpAny (model prog w) A (pyIter (.ref v)) e E s:=by f_assign(
 obtain⟨m,j,n,l⟩:=id a;obtain⟨o,f,p,g⟩:=h.ex;refine K0 a.typeIs F.slot_dict_values_iter (Lg F.slot_dict_values_iter a.typeIs F.entry_dict_values_iter ?_ (F.args_dict_values_iter_1 _));unfold Builtin.«dict_values.__iter__»;refine Ma (Md (Ma ?_));unfold Builtin.Dict_items.dictOf;refine Ma (L8 j l (x:=.ref d) rfl (Md (Ma ?_)));unfold Builtin.Dict_items.newIterator;refine Ma (KY f g (Ma (Ly f g ?_)));have no:Builtin.Dict_items.ownsTuple "dict_valueiterator"=false:=by decide
 simp only[no,Bool.false_eq_true,if_false];refine KZ (Md ⟨_,rfl,"dict_valueiterator",_,⟨_,Kc _ rfl,rfl⟩,Jj.lookup,?_⟩);simpa[rawInt]using i)
theorem rP{b:Array DictEntry}{c:Nat}{e:Value→Shared→Prop}(a:s.heap.IsItemsView v d)(h:gw s.heap d b c)(i:e (.ref s.heap.objs.size) {s with heap:=s.heap.push {cls:=.type "dict_itemiterator",data:=.fields #[.none,.bool false,.ref d,.int 0 0,.int b.size 0,.int c 0,.none,.none]}}):wpAny (model prog w) A (pyIter (.ref v)) e E s:=by f_assign(
 obtain⟨m,j,n,l⟩:=id a;obtain⟨o,f,p,g⟩:=h.ex;refine K0 a.typeIs F.slot_dict_items_iter (Lg F.slot_dict_items_iter a.typeIs F.entry_dict_items_iter ?_ (F.args_dict_items_iter_1 _));unfold Builtin.«dict_items.__iter__»;refine Ma (Md (Ma ?_));unfold Builtin.Dict_items.dictOf;refine Ma (L8 j l (x:=.ref d) rfl (Md (Ma ?_)));unfold Builtin.Dict_items.newIterator;refine Ma (KY f g (Ma (Ly f g ?_)));have yes:Builtin.Dict_items.ownsTuple "dict_itemiterator"=true:=by decide
 simp only[yes,if_true];refine KZ (Md ⟨_,rfl,"dict_itemiterator",_,⟨_,Kc _ rfl,rfl⟩,Jl.lookup,?_⟩) ?_;·simpa[rawInt,Builtin.Dict_items.ownedTupleFields]using i
 ·simp only[sizeOk,Builtin.Dict_items.ownedTupleFields,List.size_toArray,List.length_append,List.length_cons,List.length_nil,sizeLine_eq];lia)
theorem lX{b g:Nat}{e:Array DictEntry}{j:DictEntry}{l:Option Value→Shared→Prop}(c:s.heap.IsValIter it d b e.size g)(p:gw s.heap d e g)(q:e[b]?=some j)(r:∀i,i.IsValIter it d (b+1) e.size g→Heap.SameBut it s.heap i→l (some j.val) {s with heap:=i}):wpAny (model prog w) A (pyNext (.ref it)) l E s:=by f_assign(
 obtain⟨y,h,u,f⟩:=id c;obtain⟨z,n,_,o⟩:=p.ex;unfold pyNext;refine Ma (LR (JJ (name:=Str.ofString "__next__") c.typeIs Jj (Lg Jj c.typeIs F.entry_dict_valueiterator_next (Ma (Md (Ma (Ma ?_)))) (F.args_dict_valueiterator_next_1 _))));first|refine Ma (Jn c.typeIs (Md (Ma (LG h f ?_))))|refine Ma (JE c.typeIs (Md (Ma (LG h f ?_))))
 have no:Builtin.Dict_items.ownsTuple "dict_valueiterator"=false:=by decide
 simp only[no,Bool.false_eq_true,if_false];show wpAny _ _ (if(Value.ref d==Value.none)=true then _ else _) _ _ s;rw[Mi (show¬((Value.ref d==Value.none)=true)from Kl)];refine Ma (Md (Ma (KY n o ?_)));rw[Mi (by simp)];refine Ma (Md (Ma (Ly n o ?_)));rw[Mi (by simp)];obtain⟨v,x⟩:=Jr.mp q;refine Md ?_;simp only[show¬((b:Int)<0)from by lia,if_false,Int.toNat_natCast,Array.getElem?_eq_getElem v];refine Ma ?_;first|refine Ma (Jn c.typeIs (Md (Ma (JZ c.typeIs ?_))))|refine Ma (JE c.typeIs (Md (Ma (JZ c.typeIs ?_))))
 refine Ma (m:=setField (.ref it) 1 (rawInt ((b:Int)+1))) (LI h f (by simp) ?_);have st:(s.heap.update it (Obj.mapFields (·.setIfInBounds 1 (rawInt ((b:Int)+1))))).IsValIter it d (b+1) e.size g:=⟨_,JT _ h (Obj.isFreed_of_fields (Kx f _)),(Obj.cls_mapFields ..).trans u,by rw[Kx f];simp[rawInt]⟩;refine Ma (LS (Ma (JZ (s:={s with heap:=s.heap.update it (Obj.mapFields (·.setIfInBounds 1 (rawInt ((b:Int)+1))))}) st.typeIs (Ma (JZ (s:={s with heap:=s.heap.update it (Obj.mapFields (·.setIfInBounds 1 (rawInt ((b:Int)+1))))}) st.typeIs ?_)))));refine Md (a:=e[b].val) ?_;rw[x];exact Md ⟨_,rfl,Md (r _ st (Kb ..))⟩)
theorem mZ{e i:Nat}{f:Array DictEntry}{j:Option Value→Shared→Prop}(p:A.handled=none)(c:s.heap.IsValIter it d e f.size i)(q:gw s.heap d f i)(r:f.size≤e)(u:∀l,Heap.ExtBut it s.heap l→j none {s with heap:=l}):wpAny (model prog w) A (pyNext (.ref it)) j E s:=by f_assign(
 obtain⟨v,g,x,h⟩:=id c;obtain⟨y,n,_,o⟩:=q.ex;unfold pyNext;refine Ma (LR (JJ (name:=Str.ofString "__next__") c.typeIs Jj (Lg Jj c.typeIs F.entry_dict_valueiterator_next (Ma (Md (Ma (Ma ?_)))) (F.args_dict_valueiterator_next_1 _))));first|refine Ma (Jn c.typeIs (Md (Ma (LG g h ?_))))|refine Ma (JE c.typeIs (Md (Ma (LG g h ?_))))
 have no:Builtin.Dict_items.ownsTuple "dict_valueiterator"=false:=by decide
 simp only[no,Bool.false_eq_true,if_false];show wpAny _ _ (if(Value.ref d==Value.none)=true then _ else _) _ _ s;rw[Mi (show¬((Value.ref d==Value.none)=true)from Kl)];refine Ma (Md (Ma (KY n o ?_)));rw[Mi (by simp)];refine Ma (Md (Ma (Ly n o ?_)));rw[Mi (by simp)];refine Md ?_;simp only[show¬((e:Int)<0)from by lia,if_false,Int.toNat_natCast,Array.getElem?_eq_none r];refine Ma ?_;first|refine Ma (Jn c.typeIs (Md ?_))|refine Ma (JE c.typeIs (Md ?_))
 refine Ma (m:=setField (.ref it) 0 .none) (LI g h (by simp) (Ma (m:=newExc (.type "StopIteration") []) ?_));simp only[newExc,newTuple];refine Ma (KZ ?_ (by size_fits));refine Ma (m:=firstArgMember _ _) (wpAny_of_eq (a:=Value.none) (by first|rfl|(simp only[firstArgMember];rfl)) (KZ ?_ (by size_fits)));simp only[raiseNew];refine Ma (wpAny_handled ?_);rw[show A.in1.handled=none from p];refine Ma (Md (wpAny_throw ?_));refine Ma (wpAny_isInstance (T:="StopIteration") (b:=true) ⟨_,Kc _ rfl,rfl⟩ isSubtype_stop ?_);exact Md (u _ (((Kb ..).extBut.push _).push _)))
theorem rQ{f i:Nat}{g:Array DictEntry}{c:DictEntry}{ok:Value}{X:Option Value→Shared→Prop}(o:IsItemIter s.heap a d f g.size i ok ov)(ac:gw s.heap d g i)(ah:g[f]?=some c)(al:∀p,IsItemIterOut p a d (f+1) g.size i c.key c.val s.heap.objs.size→p.get? s.heap.objs.size=some {cls:=.type "tuple",data:=.seq #[c.key,c.val]}→p.objs.size=s.heap.objs.size+1→(∀b e,b≠a→s.heap.get? b=some e→p.get? b=some e)→X (some (.ref s.heap.objs.size)) {s with heap:=p}):wpAny (model prog w) A (pyNext (.ref a)) X E s:=by f_assign(
 obtain⟨h,z,B,C,os⟩:=s;obtain⟨ax,Y,_,Z⟩:=ac.ex;have ty:Shared.TypeIs ⟨h,z,B,C,os⟩ (.ref a) "dict_itemiterator":=⟨_,o,rfl⟩;unfold pyNext;refine Ma (LR (JJ (name:=Str.ofString "__next__") ty Jl (Lg Jl ty F.entry_dict_itemiterator_next (Ma (Md (Ma (Ma ?_)))) (F.args_dict_itemiterator_next_1 _))));first|refine Ma (Jk ty (Md (Ma (LG o rfl ?_))))|refine Ma (Jz ty (Md (Ma (LG o rfl ?_))))
 have yes:Builtin.Dict_items.ownsTuple "dict_itemiterator"=true:=by decide
 simp only[yes,if_true];show wpAny _ _ (if(Value.ref d==Value.none)=true then _ else _) _ _ _;rw[Mi (show¬((Value.ref d==Value.none)=true)from Kl)];refine Ma (Md (Ma (KY Y Z ?_)));rw[Mi (by simp)];refine Ma (Md (Ma (Ly Y Z ?_)));rw[Mi (by simp)];obtain⟨am,an⟩:=Jr.mp ah;refine Md ?_;simp only[show¬((f:Int)<0)from by lia,if_false,Int.toNat_natCast,Array.getElem?_eq_getElem am];refine Ma ?_;first|refine Ma (Jk ty (Md (Ma (JS ty ?_))))|refine Ma (Jz ty (Md (Ma (JS ty ?_))))
 refine Ma (m:=setField (.ref a) 3 (rawInt ((f:Int)+1))) (KC o (by simp) λl q r=>?_);replace r:Heap.SameBut a h l:=r;replace q:IsItemIter l a d (f+1) g.size i ok ov:=by unfold IsItemIter;rw[show((f+1:Nat):Int)=(f:Int)+1 by lia];simpa[rawInt]using q
 have M:Shared.TypeIs ⟨l,z,B,C,os⟩ (.ref a) "dict_itemiterator":=⟨_,q,rfl⟩;refine Ma (LS (Ma (JS M (Ma (JS M ?_)))));rw[an];show wpAny _ _ (Builtin.Dict_items.pairFromOwner (.ref a) 6 c.key c.val) _ _ ⟨l,z,B,C,os⟩;unfold Builtin.Dict_items.pairFromOwner;refine Ma (wpAny_newTuple ?_);have u:IsItemIter (l.push {cls:=.type "tuple",data:=.seq #[c.key,c.val]}) a d (f+1) g.size i ok ov:=JK _ q;generalize D:l.push {cls:=.type "tuple",data:=.seq #[c.key,c.val]}=n at u;have G:l.objs.size=h.objs.size:=r.1;have lt:a<h.objs.size:=LU o;have ap:n.get? h.objs.size=some {cls:=.type "tuple",data:=.seq #[c.key,c.val]}:=by rw[←D,←G];exact Kc _ rfl
 have ar:n.objs.size=h.objs.size+1:=by rw[←D,LA,G]
 have av:∀b e,b≠a→h.get? b=some e→n.get? b=some e:=λb e j v=>by rw[←D];exact JK _ (r.extBut b e j v)
 show wpAny _ _ (Builtin.Dict_items.ownedTupleIsFree (.ref a)>>=_) _ _ ⟨n,z,B,C,os⟩;rw[G];clear D q r M G l;refine Ma ?_;unfold Builtin.Dict_items.ownedTupleIsFree;refine Ma (L8 u rfl (x:=.none) rfl (Md ?_));simp only[if_true];refine Ma (L8 u rfl (x:=ok) rfl (Ma (L8 u rfl (x:=ov) rfl (Ma (KC u (by simp) λN O H=>?_)))));replace H:Heap.SameBut a n N:=H;replace O:IsItemIter N a d (f+1) g.size i c.key ov:=O;refine Ma (KC O (by simp) λQ R I=>?_);replace I:Heap.SameBut a N Q:=I;replace R:IsItemIter Q a d (f+1) g.size i c.key c.val:=R;refine Ma (KC R (by simp) λS T J=>?_);replace J:Heap.SameBut a Q S:=J;replace T:IsItemIterOut S a d (f+1) g.size i c.key c.val h.objs.size:=T;refine Ma (KC T (by simp) λy U L=>?_);replace L:Heap.SameBut a S y:=L;replace U:IsItemIterOut y a d (f+1) g.size i c.key c.val h.objs.size:=U;have go:∀b e,b≠a→n.get? b=some e→y.get? b=some e:=λb e j v=>L.extBut b e j (J.extBut b e j (I.extBut b e j (H.extBut b e j v)));refine Ma (L9 (Md (Md ⟨_,rfl,Md (al y U (go _ _ (LZ lt) ap) ?_ λb e j v=>go b e j (av b e j v))⟩)));show y.objs.size=h.objs.size+1;rw[L.1,J.1,I.1,H.1,ar])
theorem tE{e g:Nat}{f:Array DictEntry}{ok:Value}{h:Option Value→Shared→Prop}(n:A.handled=none)(c:IsItemIter s.heap it d e f.size g ok ov)(o:gw s.heap d f g)(p:f.size≤e)(q:∀i,Heap.ExtBut it s.heap i→h none {s with heap:=i}):wpAny (model prog w) A (pyNext (.ref it)) h E s:=by f_assign(
 obtain⟨r,j,_,l⟩:=o.ex;have ty:s.TypeIs (.ref it) "dict_itemiterator":=⟨_,c,rfl⟩;unfold pyNext;refine Ma (LR (JJ (name:=Str.ofString "__next__") ty Jl (Lg Jl ty F.entry_dict_itemiterator_next (Ma (Md (Ma (Ma ?_)))) (F.args_dict_itemiterator_next_1 _))));first|refine Ma (Jk ty (Md (Ma (LG c rfl ?_))))|refine Ma (Jz ty (Md (Ma (LG c rfl ?_))))
 have yes:Builtin.Dict_items.ownsTuple "dict_itemiterator"=true:=by decide
 simp only[yes,if_true];show wpAny _ _ (if(Value.ref d==Value.none)=true then _ else _) _ _ _;rw[Mi (show¬((Value.ref d==Value.none)=true)from Kl)];refine Ma (Md (Ma (KY j l ?_)));rw[Mi (by simp)];refine Ma (Md (Ma (Ly j l ?_)));rw[Mi (by simp)];refine Md ?_;simp only[show¬((e:Int)<0)from by lia,if_false,Int.toNat_natCast,Array.getElem?_eq_none p];refine Ma ?_;first|refine Ma (Jk ty (Md ?_))|refine Ma (Jz ty (Md ?_))
 refine Ma (m:=setField (.ref it) 2 .none) (LI c rfl (by simp) (Ma (m:=newExc (.type "StopIteration") []) ?_));simp only[newExc,newTuple];refine Ma (KZ ?_ (by size_fits));refine Ma (m:=firstArgMember _ _) (wpAny_of_eq (a:=Value.none) (by first|rfl|(simp only[firstArgMember];rfl)) (KZ ?_ (by size_fits)));simp only[raiseNew];refine Ma (wpAny_handled ?_);rw[show A.in1.handled=none from n];refine Ma (Md (wpAny_throw ?_));refine Ma (wpAny_isInstance (T:="StopIteration") (b:=true) ⟨_,Kc _ rfl,rfl⟩ isSubtype_stop ?_);exact Md (q _ (((Kb ..).extBut.push _).push _)))
end
section
variable {X : Cx} {pins : List (Addr × Obj)} {σ : St} {H : Hp} {s : Shared} {d : Addr} {o : Obj}
theorem oJ{c:List (List Key×V)}(x:bU X.prog X.w H s.heap d (.dT c)):∃(a:Array DictEntry)(f:Nat),gw s.heap d a f∧a.size=c.length∧∀(e:Nat)(k:List Key)(g:V),c[e]?=some (k,g)→∃(h:DictEntry)(b:Addr),a[e]?=some h∧h.key=.ref b∧H b=some (.tup (k.map kV))∧RelV g h.val:=by
 obtain⟨B,m,i,j,n,a,f,p,q,r,l,_⟩:=x;refine⟨a,f,⟨m,n,p,q,r⟩,?_,λe k g u=>?_⟩;·have C:a.size=i.length:=size_of_entries l;have D:c.length=i.length:=LQ j;lia
 ·obtain⟨v,y,E,z,A⟩:=rH j u;have b:=entry_at l e;rw[y]at b;exact⟨_,v.2.1,b,rfl,z,A⟩
theorem Inv.frzR{c:List (List Key×V)}(m:Inv X pins σ H s)(n:H d=some (.frz o (.dT c))):∃(a:Array DictEntry)(b:Nat),o.data=.dict a b∧gw s.heap d a b∧a.size=c.length∧∀(f:Nat)(k:List Key)(g:V),c[f]?=some (k,g)→∃(e:DictEntry)(h:Addr),a[f]?=some e∧e.key=.ref h∧H h=some (.tup (k.map kV))∧RelV g e.val:=by obtain⟨p,x⟩:=m.hok d _ n;obtain⟨a,b,⟨q,y,i,r,j⟩,u,v⟩:=oJ x;have l:=i;rw[p]at l;cases l;exact⟨a,b,j,⟨q,_,i,r,j⟩,u,v⟩
end
def Ia(d:Addr)(e:Obj)(a:List (List Key×V)):It:=⟨λb c=>c d=some (.frz e (.dT a))∧b<a.length,λb c x f=>f=c∧∃k,a[b]?=some (k,x),λb c=>c d=some (.frz e (.dT a))∧a.length≤b⟩
def Ib(e:Addr)(f:Obj)(b:List (List Key×V)):It:=⟨λc a=>a e=some (.frz f (.dT b))∧c<b.length,λc a x i=>∃d k g h,b[c]?=some (k,g)∧x=.ref d∧a d=none∧a h=some (.tup (k.map kV))∧i=upd a d (.tup [.ref h,g]),λc a=>a e=some (.frz f (.dT b))∧b.length≤c⟩
section
variable {P : Program} {w : World} {K : PySem.W.Frag} {tg : Expr} {d : Addr} {o : Obj} {es : Array DictEntry} {ep : Nat}
theorem yN{i:List (List Key×V)}(c:Addr)(F:o.data=.dict es ep):Turn P w K tg (Ia d o i) [c] c (λb h=>h.IsValIter c d b i.length ep)where
 mem:=by simp
 obj:=λb h st e f=>by
  have a:e=c:=by simpa using f
  subst a;obtain⟨j,a,G,n⟩:=st;exact⟨j,a,λp H=>by rw[n]at H;cases H⟩
 keep:=λb h l st k=>st.at λj a=>k c (by simp) j a;item:=by f_assign(intro I q r u J b L s M v N g hf st hg;subst q r u;obtain⟨x,O⟩:=hg;obtain⟨y,z,S,A,B,C⟩:=hf c (by simp);obtain⟨T,U,D,rd,m,ent⟩:=g.frzR x;obtain⟨rfl,rfl⟩:=hX F D;obtain⟨⟨k,p⟩,Q⟩:∃X,i[b]?=some X:=⟨i[b],JA O⟩;obtain⟨Y,al,Z,am,an,rv⟩:=ent b k p Q;rw[←m]at st;refine lX st rd Z λl E ac=>?_;have ah:Inv I L M v {s with heap:=l}:=g.turned (t':=s.toks) (λe R f a=>(ac.2 e f).trans a) y z A B C;obtain⟨j,a,G,n⟩:=id E;rw[m]at E;exact⟨Y.val,rfl,tZ (s:={s with heap:=l}) a G n (by decide) ⟨p,v,ah,rv,⟨rfl,k,Q⟩,E,λe f=>(hf e f).1⟩⟩)
 done:=by intro I q r u J b L s M v N g hf st hg;subst q r u;obtain⟨x,O⟩:=hg;obtain⟨y,z,S,A,B,C⟩:=hf c (by simp);obtain⟨T,U,D,rd,m,ent⟩:=g.frzR x;obtain⟨rfl,rfl⟩:=hX F D;rw[←m]at st;exact mZ (g.ok.hd J) st rd (by lia) λl eb=>⟨rfl,g.turned (t':=s.toks) (λe R f a=>eb e R f a) y z A B C⟩
 self:=λap b s ar N st h=>wpAny_pyIter_valiter st h
theorem w8{p:List (List Key×V)}{O:Nat}(b:Addr)(E:o.data=.dict es ep):Turn P w K (.Tuple elts O tpos) (Ib d o p) [b] b (λc m=>∃ok i,IsItemIter m b d c p.length ep ok i)where
 mem:=by simp
 obj:=λc m st e f=>by
  have a:e=b:=by simpa using f
  subst a;obtain⟨ok,i,a⟩:=st;exact⟨_,a,λj Q=>nomatch Q⟩
 keep:=λc m u st k=>let⟨ok,i,a⟩:=st;⟨ok,i,k b (by simp) _ a⟩;item:=by f_assign(
  intro q v x y F c G s H z I g hf st hg;subst v x y;obtain⟨A,J⟩:=hg;obtain⟨R,S,B,rd,r,ent⟩:=g.frzR A;obtain⟨rfl,rfl⟩:=hX E B;obtain⟨⟨k,j⟩,L⟩:∃T,p[c]?=some T:=⟨p[c],JA J⟩;obtain⟨h,n,U,X,Y,rv⟩:=ent c k j L;obtain⟨ok,i,l⟩:=st;rw[←r]at l;have M:b<s.heap.objs.size:=LU l;refine rQ l rd U λu Z ac aE ah=>?_;refine⟨_,rfl,wpAny_letOwnedTupleGo_items (s:={s with heap:=u}) Z λC al N=>?_⟩;have am:C.get? s.heap.objs.size=some {cls:=.type "tuple",data:=.seq #[h.key,h.val]}:=(N.2 _ (LZ M)).trans ac;have new:bU q.prog q.w (upd z s.heap.objs.size (.tup [.ref n,j])) C s.heap.objs.size (.tup [.ref n,j]):=⟨by show 2≤sizeLine;decide,[h.key,h.val],.cons (show RelV (.ref n) h.key from X) (.cons rv .nil),⟨_,am,rfl,_,rfl⟩⟩;have an:Inv q G H (upd z s.heap.objs.size (.tup [.ref n,j])) {s with heap:=C}:=g.iW (t':=s.toks) (ch:=[b]) (λe D f a=>(N.2 e (by simpa using f)).trans (ah e D (by simpa using f) a)) hf (L6 _) new;refine⟨.ref s.heap.objs.size,_,an,rfl,⟨_,k,j,n,L,rfl,g.hok.fresh (L6 _),Y,rfl⟩,⟨h.key,h.val,?_⟩,λe f=>?_⟩;·rw[←r];exact al
  ·have a:e=b:=by simpa using f
   rw[a,ak (L3 M)];exact(hf b (by simp)).1)
 done:=by intro q v x y F c G s H z I g hf st hg;subst v x y;obtain⟨A,J⟩:=hg;obtain⟨ap,ar,aI,av,ax,aA⟩:=hf b (by simp);obtain⟨R,S,B,rd,r,ent⟩:=g.frzR A;obtain⟨rfl,rfl⟩:=hX E B;obtain⟨ok,i,l⟩:=st;rw[←r]at l;exact tE (g.ok.hd F) l rd (by lia) λu eb=>⟨rfl,g.turned (t':=s.toks) (λe D f a=>eb e D f a) ap ar av ax aA⟩
 self:=λaK c s aM I st m=>let⟨_,_,a⟩:=st;PySem.W.kcp_self a m
end
def C4(e:TE):TI:=λf g h=>e f g λx b=>∃a c d,x=.ref a∧b a=some (.frz c (.dT d))∧h (Ia a c d) b
def vi(e:TE):TI:=λf g h=>e f g λx b=>∃a c d,x=.ref a∧b a=some (.frz c (.dT d))∧h (Ib a c d) b
section
variable {X : Cx} {tg e : Expr} {td : TE} {apos cpos : Pos}
theorem gw.nodict{b:Heap}{f:Array DictEntry}{g:Nat}(x:gw b d f g):∀a,Value.ref d=.ref a→∃c,b.get? a=some c∧c.dict=none:=λa e=>by cases e;obtain⟨h,a,i,_⟩:=x.ex;exact⟨h,a,i.2.1⟩
theorem gw.push{a:Heap}{b:Array DictEntry}{c:Nat}(x:gw a d b c)(f:Obj):gw (a.push f) d b c:=x.keep λg e=>JK _ e
theorem yO(h:PE X e td)(i:attributeBase e "values" X.env (eval e X.env)=eval e X.env:=by rfl)(j:(apos.endLine==cpos.line)=true:=by rfl):PI X tg (.Call (.Attribute e "values" apos) [] [] cpos) (C4 td):=by f_assign(
 intro b l c m n o p;refine KW (T:="dict") (id:="dict.values") i rfl j F.plainAttrs_dict F.slot_dict_values F.type_dict_values (thn (h b l c m _ o p) λq a r=>?_);obtain⟨x,s,g,u,d,D,E,v,y,f⟩:=r;subst v;obtain rfl:q=Value.ref d:=u;obtain⟨G,H,z,rd,A,ent⟩:=g.frzR y;refine⟨rd.ty,rd.nodict,?_⟩;have B:Inv X b c s {a with heap:=a.heap.push {cls:=.type "dict_values",data:=.fields #[.ref d]}}:=g.kept (t':=a.toks) λI J f=>JK _ f;have C:wpAny (model X.prog X.w) X.A (pyIter (.ref a.heap.objs.size)) (PIE X b c tg n) X.xe {a with heap:=a.heap.push {cls:=.type "dict_values",data:=.fields #[.ref d]}}:=by refine jy (d:=d) ⟨_,Kc _ rfl,rfl,rfl⟩ (rd.push _) (vd (tk:=a.toks) B _ (yN _ z) ⟨_,Kc _ rfl,rfl,?_⟩ f);rw[A]<;>rfl
 show wpAny _ _ (callWith cpos (.builtin "dict.values") [.ref d] [] []) _ X.xe a;exact method_meetsIn F.slot_dict_values F.entry_dict_values rfl (PySem.evalArgs_none ⟨rfl,rd.ty,F.args_dict_values_1 _,_,rO d rd.ns,rd.ty,C⟩))
theorem uu{g:Nat}(i:PE X e td)(j:attributeBase e "items" X.env (eval e X.env)=eval e X.env:=by rfl)(l:(apos.endLine==cpos.line)=true:=by rfl):PI X (.Tuple elts g tpos) (.Call (.Attribute e "items" apos) [] [] cpos) (vi td):=by f_assign(
 intro b m c n o p q;refine KW (T:="dict") (id:="dict.items") j rfl l F.plainAttrs_dict F.slot_dict_items F.type_dict_items (thn (i b m c n _ p q) λr a s=>?_);obtain⟨x,u,h,v,d,E,G,y,z,f⟩:=s;subst y;obtain rfl:r=Value.ref d:=v;obtain⟨H,I,A,rd,B,ent⟩:=h.frzR z;refine⟨rd.ty,rd.nodict,?_⟩;have C:Inv X b c u {a with heap:=a.heap.push {cls:=.type "dict_items",data:=.fields #[.ref d]}}:=h.kept (t':=a.toks) λJ L f=>JK _ f;have D:wpAny (model X.prog X.w) X.A (pyIter (.ref a.heap.objs.size)) (PIE X b c (.Tuple elts g tpos) o) X.xe {a with heap:=a.heap.push {cls:=.type "dict_items",data:=.fields #[.ref d]}}:=by refine rP (d:=d) ⟨_,Kc _ rfl,rfl,rfl⟩ (rd.push _) (vd (tk:=a.toks) C _ (w8 _ A) ⟨.none,.none,?_⟩ f);rw[←B];exact Kc _ rfl
 show wpAny _ _ (callWith cpos (.builtin "dict.items") [.ref d] [] []) _ X.xe a;exact method_meetsIn F.slot_dict_items F.entry_dict_items rfl (PySem.evalArgs_none ⟨rfl,rd.ty,F.args_dict_items_1 _,_,By d rd.ns,rd.ty,D⟩))
end
section
variable {prog : Program} {w : World} {A : Around} {E : Value → Shared → Prop} {s : Shared} {d r : Addr} {es : Array DictEntry} {ep : Nat}
theorem Bz(x:A.handled=none)(e:Addr)(y:d≠e):Walks prog w A e [e,d] [e] es.size (λg z=>∃p,es[g]?=some p∧z=p.key) (λg i=>i.IsKeyIter e d g es.size ep∧gw i d es ep)where
 sub:=λh f=>by simp at f;simp[f]
 frame:=λ_ _ _ st q=>⟨st.1.at λb c=>q e (by simp) b c,st.2.keep λb c=>q d (by simp) b c⟩;item:=λg s u E v st j=>by obtain⟨b,l,_,m⟩:=st.2.ex;refine lV st.1 l m rfl (Jv v) λn a h=>?_;exact j _ n s.toks ⟨_,Jv v,rfl⟩ ⟨a,st.2.keep λb c=>(h.2 d y).trans c⟩ λB b f c=>(h.2 B λo=>f (by simp[o])).trans c
 done:=λs u E st j=>by obtain⟨b,l,_,m⟩:=st.2.ex;exact i8 x st.1 l m rfl (L6 _) λn a=>j n s.toks λh b f c=>a h b (λo=>f (by simp[o])) c
 self:=λg s u E st i=>by refine K0 st.1.typeIs Jo (Lg Jo st.1.typeIs F.entry_dict_keyiterator_iter ?_ (F.args_dict_keyiterator_iter_1 _));show wpAny _ _ (ret (.ref e)) _ _ s;exact Md ⟨_,rfl,"dict_keyiterator",_,st.1.typeIs,Jp.lookup,i⟩
theorem BA(q:A.handled=none)(e:Addr)(u:d≠e):Walks prog w A e [e,d] [e] es.size (λi v=>∃m,es[i]?=some m∧v=m.val) (λi n=>n.IsValIter e d i es.size ep∧gw n d es ep)where
 sub:=λg f=>by simp at f;simp[f]
 frame:=λ_ _ _ st o=>⟨st.1.at λc b=>o e (by simp) c b,st.2.keep λc b=>o d (by simp) c b⟩;item:=λi s x E p st h=>lX st.1 st.2 (Jv p) λj a g=>h _ j s.toks ⟨_,Jv p,rfl⟩ ⟨a,st.2.keep λc b=>(g.2 d u).trans b⟩ λy c f b=>(g.2 y λl=>f (by simp[l])).trans b;done:=λs x E st h=>mZ q st.1 st.2 (L6 _) λj a=>h j s.toks λg c f b=>a g c (λl=>f (by simp[l])) b;self:=λ_ _ _ _ st h=>wpAny_pyIter_valiter st.1 h
theorem rR:PySem.W.KdlSrc prog w "dict" d d es.size (λe f=>∃c,es[e]?=some c∧f=c.key) (λg=>gw g d es ep)where
 type:=λ_ a=>a.ty;there:=λ_ a=>⟨a.lt,a.lt⟩;keep:=λ_ _ a h=>a.keep λi j=>h d (.inl rfl) i j;notList:=by decide
 notTuple:=by decide
 hint:=λ_ _ _ _ a b=>PySem.W.kdl_hint_dict a.ty b;iter:=λ_ s l a=>⟨_,_,(λ_ _ b=>let⟨_,h1,h2,h3⟩:=a.ex;oF a.ns h1 h2 h3 b),Bz l _ (L3 a.lt),⟨⟨_,Kc _ rfl,rfl,rfl⟩,a.push _⟩⟩
theorem w_:PySem.W.KdlSrc prog w "dict_values" r d es.size (λh i=>∃e,es[h]?=some e∧i=e.val) (λf=>f.IsValuesView r d∧gw f d es ep)where
 type:=λ_ a=>a.1.typeIs;there:=λ_ a=>⟨let⟨_,ho,_⟩:=a.1;LU ho,a.2.lt⟩;keep:=λ_ _ a g=>⟨let⟨b,ho,x⟩:=a.1;⟨b,g r (.inl rfl) b ho,x⟩,a.2.keep λb j=>g d (.inr rfl) b j⟩;notList:=by decide
 notTuple:=by decide
 hint:=λ_ _ _ _ a c=>PySem.W.kdl_hint_values a.1.typeIs c;iter:=λ_ _ l a=>⟨_,_,(λ_ _ c=>jy a.1 a.2 c),BA l _ (L3 a.2.lt),⟨⟨_,Kc _ rfl,rfl,rfl⟩,a.2.push _⟩⟩
end
def gn(a b:Addr):HO:=.ext λc=>c.IsValuesView a b
def FT(d:TE):TE:=λe f g=>d e f λx b=>∃c h,x=.ref c∧Rd b c (.dT h)∧∀a,b a=none→g (.ref a) (upd b a (gn a c))
section
variable {X : Cx} {e : Expr} {td : TE} {apos cpos : Pos}
theorem oK(h:PE X e td)(i:attributeBase e "values" X.env (eval e X.env)=eval e X.env:=by rfl)(j:(apos.endLine==cpos.line)=true:=by rfl):PE X (.Call (.Attribute e "values" apos) [] [] cpos) (FT td):=by f_assign(intro l m n o C p q;refine KW (T:="dict") (id:="dict.values") i rfl j F.plainAttrs_dict F.slot_dict_values F.type_dict_values (thn (h l m n o _ p q) λr b s=>?_);obtain⟨x,u,d,v,c,D,y,z,f⟩:=s;subst y;obtain rfl:r=Value.ref c:=v;obtain⟨E,G,rd,H,ent⟩:=oJ (z.ok d.hok);refine⟨rd.ty,rd.nodict,?_⟩;show wpAny _ _ (callWith cpos (.builtin "dict.values") [.ref c] [] []) _ X.xe b;refine method_meetsIn F.slot_dict_values F.entry_dict_values rfl (PySem.evalArgs_none ⟨rfl,rd.ty,F.args_dict_values_1 _,_,rO c rd.ns,rd.ty,?_⟩);refine⟨.ref b.heap.objs.size,upd u b.heap.objs.size (gn b.heap.objs.size c),d.laid (t':=b.toks) (λ_ _ f=>JK _ f) (L6 _) ?_,rfl,f _ d.fresh⟩;have A:(b.heap.push {cls:=.type "dict_values",data:=.fields #[.ref c]}).IsValuesView b.heap.objs.size c:=⟨_,Kc _ rfl,rfl,rfl⟩;exact⟨A,⟨_,Kc _ rfl⟩,λI J⟨g,a,B⟩k=>⟨g,k g a,B⟩⟩)
theorem rS:∀{a:List V}{b:List Value},a.length=b.length→(∀(c:Nat)(x:V),a[c]?=some x→∃d,b[c]?=some d∧RelV x d)→aZ a b|[],[],_,_=>.nil|[],_::_,e,_=>by simp at e|_::_,[],e,_=>by simp at e|x::a,d::b,e,f=>by obtain⟨g,h,i⟩:=f 0 x rfl;have:d=g:=Lv h;subst this;exact .cons i (rS (by simpa using e) λc y j=>f (c+1) y (by simpa using j))
theorem C5{n:Hp}{d:Array DictEntry}{f:List (List Key×V)}{acc:Array Value}(o:d.size=f.length)(ent:∀(a:Nat)(k:List Key)(c:V),f[a]?=some (k,c)→∃(b:DictEntry)(g:Addr),d[a]?=some b∧b.key=.ref g∧n g=some (.tup (k.map kV))∧RelV c b.val)(h:ItemsOf (λa c=>∃b,d[a]?=some b∧c=b.val) acc d.size):aZ (f.map (·.2)) acc.toList:=by f_assign(
 refine rS (by have:=h.1;rw[Ln];simp only[Array.length_toList];lia) λa x i=>?_;rw[KL]at i;obtain⟨⟨k,c⟩,j,rfl⟩:=JQ.mp i;obtain⟨b,g,p,_,_,q⟩:=ent a k c j;have l:a<acc.size:=by rw[h.1,o];exact(Jx.mp j).1
 obtain⟨s,m,r⟩:=h.2 a acc[a] (Jv l);rw[p]at m;cases m;exact⟨acc[a],by rw[Array.getElem?_toList,Jv l],by rw[r];exact q⟩)
theorem pN(a:List Int):∀k,k≤a.length→preSum (λb=>a.getD b 0) k=(a.take k).sum|0,_=>rfl|k+1,c=>by have d:k<a.length:=c;show preSum (λb=>a.getD b 0) k+a.getD k 0=_;rw[pN a k (KQ c),List.take_succ,Lu,Jt,JA d];simp
def Ic:List V→Hp→VK→Prop:=λg a h=>∃(b c:Addr)(d:List (List Key×V))(f:List Int),g=[.ref b]∧a b=some (gn b c)∧Rd a c (.dT d)∧d.map (·.2)=f.map V.int∧h (.int f.sum) a
theorem Ag(x:X.calm=true):cx X (.builtin "sum") Ic:=by f_assign(
 intro O g Q y R S T h rv z;obtain⟨r,d,b,c,rfl,A,B,l,C⟩:=z;obtain⟨es,ep,rd,m,ent⟩:=oJ (B.ok h.hok);have D:g.heap.IsValuesView r d:=(h.hok r _ A).1;rw[aZ.ref1 rv];have E:b.length=c.length:=by have:=Me List.length l;simpa using this
 refine call_sum_walkAnyS ?_;obtain⟨F,St,G,W,st⟩:=(w_ (prog:=X.prog) (w:=X.w) (r:=r) (d:=d) (es:=es) (ep:=ep)).iter X.A.in1 g (h.ok.hd x) ⟨D,rd⟩;refine G _ _ ⟨g.heap.objs.size,_,_,_,es.size,_,_,(λa=>c.getD a 0),rfl,W.toS,st,λf j=>?_,λa U⟨Y,n,H⟩=>?_,λo t' p=>?_⟩
 ·show f<(g.heap.push F).objs.size;rw[LA];rcases LN.mp j with e|j;·rw[e];exact Le _
  ·rw[Kt.mp j];exact KR rd.lt
 ·have q:a<b.length:=by rw[←m];exact(Jr.mp n).1
  obtain⟨Z,ac,s,_,_,u⟩:=ent a b[a].1 b[a].2 (JA q);rw[n]at s;cases s;have v:(b.map (·.2))[a]?=some b[a].2:=by rw[KL,JA q];rfl
  rw[l,KL,JA (by lia)]at v;have I:V.int (c[a]'(by lia))=b[a].2:=Lv v;rw[←I]at u;obtain⟨t,J⟩:=u;refine⟨t,?_⟩;have L:c.getD a 0=c[a]'(by lia):=by rw[Jt,JA (show a<c.length by lia)];rfl
  rw[H,J,←L]
 ·have M:∀f i,g.heap.get? f=some i→o.heap.get? f=some i:=λf i e=>p.heap f i (λN=>absurd (LU e) (by rw[Kt.mp N];exact LP _)) (JK _ e);rw[Moved.eq_with p];refine⟨.int _,y,h.kept (t':=o.toks) M,⟨t',rfl⟩,?_⟩;rw[m,E,pN c _ (L6 _),Lb];exact C)
def G4:List V→Hp→VK→Prop:=λg a h=>∃(b d:Addr)(f:List (List Key×V)),g=[.ref b]∧a b=some (gn b d)∧Rd a d (.dT f)∧∀c,a c=none→h (.ref c) (upd a c (.lst (f.map (·.2))))
theorem C6(i:X.calm=true):cx X (.type "list") G4:=by f_assign(intro x b y j z A B a rv l;obtain⟨r,d,c,rfl,m,f,n⟩:=l;obtain⟨es,ep,rd,g,ent⟩:=oJ (f.ok a.hok);have h:c.length≤sizeLine:=(f.ok a.hok).1;have o:b.heap.IsValuesView r d:=(a.hok r _ m).1;rw[aZ.ref1 rv];refine PySem.W.kdl_call (w_ (prog:=X.prog) (w:=X.w) (r:=r) (d:=d) (es:=es) (ep:=ep)) (a.ok.hd i) ⟨o,rd⟩ (by rw[g];exact h) λC p acc q s u v=>?_;refine⟨.ref b.heap.objs.size,upd j b.heap.objs.size (.lst (c.map (·.2))),a.laid (t':=p) s (L6 _) ⟨by rw[Ln];exact h,acc.toList,q,C5 g ent v,by simpa using u⟩,rfl,n _ a.fresh⟩)
end
end L2
namespace Mc
open PySem PySem.Spec PyProof.Rows L2
def top(a:Nat):Stmt:=PySem.Challenge.pw_monthsclosed_s01_answers.main.body.getD a (.Pass ⟨0,0,0,0⟩)
abbrev fc:Stmt:=top 6
abbrev d8:Stmt:=top 7
abbrev cN:Stmt:=top 8
abbrev cO:Stmt:=top 9
abbrev lh:Stmt:=top 10
abbrev lj:Stmt:=top 11
abbrev fe:Stmt:=top 12
abbrev jb:Stmt:=top 13
abbrev gC:Stmt:=top 14
abbrev m7:Stmt:=top 15
abbrev h_:Stmt:=top 30
abbrev m8:Stmt:=top 31
abbrev jc:Stmt:=top 32
abbrev ic:Stmt:=top 33
abbrev ff:Stmt:=top 34
abbrev ll:Stmt:=top 35
abbrev cP:Stmt:=top 36
abbrev dg:Stmt:=top 37
abbrev mn:Stmt:=inClass (top 42) 0
abbrev oM:Stmt:=inClass (top 43) 0
abbrev oN:Stmt:=inClass (top 44) 0
abbrev tF:Stmt:=inClass (top 44) 1
abbrev m_:Stmt:=inClass (top 46) 0
abbrev mo:Stmt:=inClass (top 46) 1
abbrev tG:Stmt:=inClass (top 46) 2
abbrev j5:Stmt:=inClass (top 46) 3
abbrev mq:Stmt:=inClass (top 46) 4
abbrev ie:Stmt:=top 47
abbrev jd:Stmt:=top 48
abbrev lp:Stmt:=top 51
abbrev je:Stmt:=top 52
abbrev ig:Stmt:=top 53
abbrev cb:Stmt:=top 54
abbrev bH:Stmt:=top 55
abbrev dF:Stmt:=top 56
abbrev fh:Stmt:=top 58
abbrev lq:Stmt:=top 59
abbrev fi:Stmt:=top 60
abbrev jf:Stmt:=top 61
abbrev jg:Stmt:=top 63
abbrev dG:Stmt:=top 64
abbrev fY:Stmt:=top 65
abbrev jh:Stmt:=top 66
abbrev fZ:Stmt:=top 67
abbrev d_:Stmt:=top 68
abbrev eg:Stmt:=top 69
abbrev fj:Stmt:=top 70
abbrev fk:Stmt:=top 71
abbrev dh:Stmt:=top 72
abbrev f6:Stmt:=top 73
abbrev bI:Stmt:=top 75
abbrev ij:Stmt:=top 76
abbrev dH:Stmt:=top 79
abbrev di:Stmt:=top 80
abbrev eh:Stmt:=top 81
abbrev pW:Stmt:=inClass (top 88) 0
abbrev cC:Stmt:=top 89
abbrev cQ:Stmt:=top 90
abbrev nc:Stmt:=top 91
abbrev dj:Stmt:=top 92
abbrev dk:Stmt:=top 93
abbrev el:Stmt:=top 94
abbrev eu:Stmt:=top 95
abbrev ji:Stmt:=top 96
abbrev lr:Stmt:=top 100
abbrev dm:Stmt:=top 101
abbrev cD:Stmt:=top 102
abbrev eC:Stmt:=top 103
abbrev dJ:Stmt:=top 104
abbrev eE:Stmt:=top 105
abbrev du:Stmt:=top 106
abbrev fm:Stmt:=top 107
abbrev gD:Stmt:=top 108
abbrev cR:Stmt:=top 109
abbrev f7:Stmt:=top 111
abbrev gE:Stmt:=top 112
abbrev il:Stmt:=top 113
abbrev f_:Stmt:=top 114
abbrev fo:Stmt:=top 118
abbrev br:Stmt:=top 119
abbrev fq:Stmt:=top 120
abbrev dM:Stmt:=top 121
abbrev fu:Stmt:=top 122
abbrev fw:Stmt:=top 123
abbrev jj:Stmt:=top 129
abbrev fz:Stmt:=top 130
abbrev gc:Stmt:=top 131
abbrev eG:Stmt:=top 132
abbrev gd:Stmt:=top 133
abbrev eJ:Stmt:=top 134
abbrev gf:Stmt:=top 135
abbrev fA:Stmt:=top 136
abbrev fB:Stmt:=top 138
abbrev gF:Stmt:=top 139
abbrev gh:Stmt:=top 140
abbrev fC:Stmt:=top 141
abbrev gi:Stmt:=top 142
abbrev gK:Stmt:=top 149
abbrev gj:Stmt:=top 150
abbrev dN:Stmt:=top 151
abbrev dv:Stmt:=top 152
abbrev cf:Stmt:=top 153
abbrev cE:Stmt:=top 154
abbrev cS:Stmt:=top 155
structure Txt(K:PySem.W.Frag)(mg:Str→Option Value)(C_Account C_Entry C_House C_Reader C_Work C_TP:Addr):Prop where
 fG:GC mg "FIRST_YEAR" (.int (1900))x8:GC mg "LAST_YEAR" (.int (2899))sZ:GC mg "LAST_DAY" (.int (365243))vX:GC mg "LAST_MONTH" (.int (11999))gy:∃a,GC mg "MONTH_LENGTHS" (.ref a)∧∀H,SqT K H a [.int 31,.int 28,.int 31,.int 30,.int 31,.int 30,.int 31,.int 31,.int 30,.int 31,.int 30,.int 31]aN:GC mg "OUT_OF_RANGE" (.int (-1))cT:GC mg "WRONG_FORM" (.int (-2))dA:GC mg "NOT_THERE" (.int (-4))nZ:GC mg "ALREADY_SO" (.int (-5))d5:GC mg "WRONG_STATE" (.int (-6))tm:GC mg "UNDER_ITSELF" (.int (-7))fV:GC mg "NO_ROOM" (.int (-8))tq:GC mg "TOO_DEEP" (.int (-9))qv:GC mg "BEYOND_BUDGET" (.int (-11))jt:GC mg "WRONG_TIME" (.int (-12))px:GC mg "MORE_THAN_LEFT" (.int (-13))nY:GC mg "GREATEST_AMOUNT" (.int (1000000000000000))tf:GC mg "LONGEST_CODE" (.int (8))xW:GC mg "CHARGE" (.int (1))xY:GC mg "CREDIT" (.int (2))mJ:GC mg "OVERHEAD" (.int (3))uQ:GC mg "DEEPEST" (.int (8))dX:∃a,GC mg "USUAL_PRIME_HOURS" (.ref a)∧∀H,SqT K H a [.int 480,.int 1080]fU:GC mg "MINUTES_OF_DAY" (.int (1440))s_:GC mg "MOST_MINUTES" (.int (10080))ph:GC mg "GREATEST_GRADE" (.int (36))bP:∃a,GC mg "KINDS_OF_UNITS" (.ref a)∧∀H,SqT K H a [.int 2,.int 3,.int 4,.int 5]vQ:GC mg "MOST_UNITS" (.int (1000000000))oa:GC mg "GREATEST_NUMBER" (.int (500))x9:GC mg "MOST_TOLD" (.int (100))sX:GC mg "MOST_WEIGHTS" (.int (50))n_:GC mg "GREATEST_WEIGHT" (.int (1000000000))mI:GC mg "MOST_PRIME_HOURS" (.int (20))vY:GC mg "MOST_RATES" (.int (100))vS:GC mg "MOST_TIERS" (.int (5))qw:GC mg "GREATEST_RATE" (.int (1000000000000))gz:∃a,GC mg "CALLS_ON_TIME" (.ref a)∧∀H,SqT K H a [.int 0,.int 1,.int 2,.int 3,.int 27]fW:∃a,GC mg "CALLS_ON_RATES" (.ref a)∧∀H,SqT K H a [.int 4,.int 5,.int 6,.int 7,.int 14]dW:∃a,GC mg "CALLS_ON_ACCOUNTS" (.ref a)∧∀H,SqT K H a [.int 8,.int 9,.int 10,.int 11,.int 12,.int 13,.int 24,.int 25]eQ:∃a,GC mg "CALLS_ON_ENTRIES" (.ref a)∧∀H,SqT K H a [.int 15,.int 16,.int 17,.int 22,.int 23]Eh:mg "all"=none
 IQ:mg "any"=none
 kK:mg "enumerate"=none
 bT:mg "len"=none
 Hj:mg "list"=none
 pS:mg "max"=none
 AS:mg "min"=none
 AU:mg "ord"=none
 AW:mg "range"=none
 oh:mg "sorted"=none
 nX:mg "sum"=none
 Fu:mg "tuple"=none
 Gf:mg "zip"=none
 BZ:Cls K C_Account
 pq:aQ K C_Account "parent"og:aQ K C_Account "is_shut"pz:aQ K C_Account "budget"uP:DxI K mg "Account" "Account.__init__" C_Account mn ["self","parent"]Ft:Cls K C_Entry
 vR:aQ K C_Entry "kind"vU:aQ K C_Entry "code"tR:aQ K C_Entry "month"sW:aQ K C_Entry "amount"qy:aQ K C_Entry "details"AV:DxI K mg "Entry" "Entry.__init__" C_Entry oM ["self","kind","code","month","amount","details"]vT:Cls K C_House
 tT:aQ K C_House "today"lR:aQ K C_House "account_cap"n0:aQ K C_House "entry_cap"jI:aQ K C_House "closed_months"iD:aQ K C_House "last_day_charged"lQ:aQ K C_House "prime_hours"tU:aQ K C_House "rates"tS:aQ K C_House "tiers"pw:aQ K C_House "accounts"qx:aQ K C_House "entries"pj:aQ K C_House "invoices"AR:DxI K mg "House" "House.__init__" C_House oN ["self"]md:DxM K C_House "renew" "House.renew" tF ["self","today","account_cap","entry_cap"]gu:Cls K C_Reader
 tj:aQ K C_Reader "calls"sV:aQ K C_Reader "place"xX:DxI K mg "Reader" "Reader.__init__" C_Reader m_ ["self","calls"]gU:DxM K C_Reader "is_at_end" "Reader.is_at_end" mo ["self"]me:DxM K C_Reader "take" "Reader.take" tG ["self","size"]gr:DxM K C_Reader "take_number" "Reader.take_number" j5 ["self"]gT:DxM K C_Reader "take_rows" "Reader.take_rows" mq ["self","size"]Hk:Cls K C_Work
 vW:aQ K C_Work "grade"zm:aQ K C_Work "day"tV:aQ K C_Work "minute"sY:aQ K C_Work "minutes"vV:aQ K C_Work "units"Eg:DxI K mg "Work" "Work.__init__" C_Work pW ["self","grade","day","minute","minutes","units"]fc:Dx K mg "is_leap_year" Mc.fc ["year"]d8:Dx K mg "days_in_month" Mc.d8 ["year","month"]cN:Dx K mg "leap_years_up_to" Mc.cN ["year"]cO:Dx K mg "days_before_year" Mc.cO ["year"]lh:Dx K mg "year_of" Mc.lh ["day"]lj:Dx K mg "date_of" Mc.lj ["day"]fe:Dx K mg "month_number" Mc.fe ["year","month"]jb:Dx K mg "month_of" Mc.jb ["day"]gC:Dx K mg "weekday_of" Mc.gC ["day"]m7:Dx K mg "day_of" Mc.m7 ["year","month","day_of_month"]h_:Dx K mg "is_within" Mc.h_ ["value","least","greatest"]m8:Dx K mg "is_day" Mc.m8 ["value"]jc:Dx K mg "is_month" Mc.jc ["value"]ic:Dx K mg "is_amount" Mc.ic ["value","least"]ff:Dx K mg "is_code_byte" Mc.ff ["byte"]ll:Dx K mg "is_code" Mc.ll ["text"]cP:Dx K mg "is_code_or_empty" Mc.cP ["text"]dg:Dx K mg "refusal_of_code" Mc.dg ["house","code"]ie:Dx K mg "with_rows" Mc.ie ["first","rows"]jd:Dx K mg "with_row" Mc.jd ["first","row"]lp:Dx K mg "path_of" Mc.lp ["house","code"]je:Dx K mg "depth_of" Mc.je ["house","code"]ig:Dx K mg "height_of" Mc.ig ["house","code"]cb:Dx K mg "children_by_parent" Mc.cb ["house"]bH:Dx K mg "from_top_down" Mc.bH ["house"]dF:Dx K mg "with_all_below" Mc.dF ["house","amounts"]fh:Dx K mg "sums_by_code" Mc.fh ["entries"]lq:Dx K mg "owns_in" Mc.lq ["house","month"]fi:Dx K mg "overheads_in" Mc.fi ["house","month"]jf:Dx K mg "spent_in" Mc.jf ["house","month"]jg:Dx K mg "is_place" Mc.jg ["house","parent"]dG:Dx K mg "answer_account" Mc.dG ["house","code","parent"]fY:Dx K mg "answer_move" Mc.fY ["house","code","parent"]jh:Dx K mg "set_shut" Mc.jh ["house","code","is_shut"]fZ:Dx K mg "answer_shut" Mc.fZ ["house","code"]d_:Dx K mg "answer_reopen" Mc.d_ ["house","code"]eg:Dx K mg "answer_budget" Mc.eg ["house","amount","code"]fj:Dx K mg "amounts_left" Mc.fj ["house","path"]fk:Dx K mg "answer_admit" Mc.fk ["house","estimate","code"]dh:Dx K mg "answer_children" Mc.dh ["house","code"]f6:Dx K mg "answer_path" Mc.f6 ["house","code"]bI:Dx K mg "rounded_to_thousands" Mc.bI ["number"]ij:Dx K mg "share_out" Mc.ij ["amount","weights"]dH:Dx K mg "prime_hours_of" Mc.dH ["house","day"]di:Dx K mg "latest_rate_day" Mc.di ["house","kind","shift","grade","day"]eh:Dx K mg "rate_in_force" Mc.eh ["house","kind","shift","grade","day"]cC:Dx K mg "is_grade_and_time" Mc.cC ["work"]cQ:Dx K mg "refusal_of_units" Mc.cQ ["units"]nc:Dx K mg "end_of" Mc.nc ["work"]dj:Dx K mg "cost_within_day" Mc.dj ["house","grade","day","start","stop"]dk:Dx K mg "cost_of_minutes" Mc.dk ["house","work"]el:Dx K mg "cost_of_units" Mc.el ["house","work"]eu:Dx K mg "exact_cost_of" Mc.eu ["house","work"]ji:Dx K mg "price_of" Mc.ji ["house","work"]lr:Dx K mg "is_full" Mc.lr ["house"]dm:Dx K mg "is_entry_number" Mc.dm ["value"]cD:Dx K mg "refusal_of_charge" Mc.cD ["house","work","code"]eC:Dx K mg "answer_charge" Mc.eC ["house","work","code"]dJ:Dx K mg "left_of_charge" Mc.dJ ["house","number"]eE:Dx K mg "answer_credit" Mc.eE ["house","number","amount"]du:Dx K mg "answer_overhead" Mc.du ["house","amount","code"]fm:Dx K mg "answer_entry" Mc.fm ["house","number"]gD:Dx K mg "numbers_of" Mc.gD ["house","month","code"]cR:Dx K mg "answer_statement" Mc.cR ["house","month","start","most","code"]f7:Dx K mg "discount_of" Mc.f7 ["house","own"]gE:Dx K mg "weights_of" Mc.gE ["codes","nets"]il:Dx K mg "shares_in" Mc.il ["house","month","nets"]f_:Dx K mg "invoices_in" Mc.f_ ["house","month"]fo:Dx K mg "answer_month" Mc.fo ["house"]br:Dx K mg "refusal_of_month_and_code" Mc.br ["house","month","code"]fq:Dx K mg "answer_spent" Mc.fq ["house","month","code"]dM:Dx K mg "answer_invoice" Mc.dM ["house","month","code"]fu:Dx K mg "answer_total" Mc.fu ["house","month"]fw:Dx K mg "answer_split" Mc.fw ["amount","weights"]jj:Dx K mg "has_room" Mc.jj ["table","key","most"]fz:Dx K mg "answer_prime" Mc.fz ["house","day","start","stop"]gc:Dx K mg "is_shift_of" Mc.gc ["kind","shift"]eG:Dx K mg "is_rate_place" Mc.eG ["kind","shift","grade","day"]gd:Dx K mg "answer_rate" Mc.gd ["house","kind","shift","grade","day","value"]eJ:Dx K mg "answer_rateof" Mc.eJ ["house","kind","shift","grade","day"]gf:Dx K mg "answer_tier" Mc.gf ["house","limit","thousandths"]fA:Dx K mg "answer_price" Mc.fA ["house","work"]fB:Dx K mg "answer_begin" Mc.fB ["house","day","accounts","entries"]gF:Dx K mg "answer_day" Mc.gF ["house","day"]gh:Dx K mg "answer_date" Mc.gh ["day"]fC:Dx K mg "answer_dayof" Mc.fC ["year","month","day_of_month"]gi:Dx K mg "answer_when" Mc.gi ["house"]gK:Dx K mg "answers" Mc.gK ["calls"]gj:Dx K mg "answer_next" Mc.gj ["house","reader"]dN:Dx K mg "answer_on_time" Mc.dN ["house","call","numbers"]dv:Dx K mg "answer_on_rates" Mc.dv ["house","call","numbers","rows"]cf:Dx K mg "answer_on_accounts" Mc.cf ["house","call","numbers","rows"]cE:Dx K mg "answer_on_entries" Mc.cE ["house","call","numbers","rows"]cS:Dx K mg "answer_on_months" Mc.cS ["house","call","numbers","rows"]tp:K.lookup C_TP=none
 jC:DxT K mg "from_top_down" Mc.bH ["house"] C_TP
theorem Txt.bG{K:PySem.W.Frag}{mg:Str→Option Value}(a:Txt K mg C_Account C_Entry C_House C_Reader C_Work C_TP):Cls K C_Account∧aQ K C_Account "parent"∧aQ K C_Account "is_shut"∧aQ K C_Account "budget":=⟨a.BZ,a.pq,a.og,a.pz⟩
theorem Txt.bw{K:PySem.W.Frag}{mg:Str→Option Value}(a:Txt K mg C_Account C_Entry C_House C_Reader C_Work C_TP):Cls K C_Entry∧aQ K C_Entry "kind"∧aQ K C_Entry "code"∧aQ K C_Entry "month"∧aQ K C_Entry "amount"∧aQ K C_Entry "details":=⟨a.Ft,a.vR,a.vU,a.tR,a.sW,a.qy⟩
theorem Txt.az{K:PySem.W.Frag}{mg:Str→Option Value}(a:Txt K mg C_Account C_Entry C_House C_Reader C_Work C_TP):Cls K C_House∧aQ K C_House "today"∧aQ K C_House "account_cap"∧aQ K C_House "entry_cap"∧aQ K C_House "closed_months"∧aQ K C_House "last_day_charged"∧aQ K C_House "prime_hours"∧aQ K C_House "rates"∧aQ K C_House "tiers"∧aQ K C_House "accounts"∧aQ K C_House "entries"∧aQ K C_House "invoices":=⟨a.vT,a.tT,a.lR,a.n0,a.jI,a.iD,a.lQ,a.tU,a.tS,a.pw,a.qx,a.pj⟩
theorem Txt.gv{K:PySem.W.Frag}{mg:Str→Option Value}(a:Txt K mg C_Account C_Entry C_House C_Reader C_Work C_TP):Cls K C_Reader∧aQ K C_Reader "calls"∧aQ K C_Reader "place":=⟨a.gu,a.tj,a.sV⟩
theorem Txt.fH{K:PySem.W.Frag}{mg:Str→Option Value}(a:Txt K mg C_Account C_Entry C_House C_Reader C_Work C_TP):Cls K C_Work∧aQ K C_Work "grade"∧aQ K C_Work "day"∧aQ K C_Work "minute"∧aQ K C_Work "minutes"∧aQ K C_Work "units":=⟨a.Hk,a.vW,a.zm,a.tV,a.sY,a.vV⟩
end Mc
namespace Mc
open PySem PySem.Spec PyProof.Rows L2
theorem vj{k:Str}:a_ k v []=[(k,v)]:=rfl
theorem Ie{k a:Str}{b:V}{c:List (Str×V)}(d:¬a=k):a_ k u ((a,b)::c)=(a,b)::a_ k u c:=by simp[a_,d]
section
variable {v0 v1 v2 v3 v4 v5 v6 v7 v8 v9 v10 u : V}
def bc(v0 v1 v2:V):List (Str×V):=[("parent",v0),("is_shut",v1),("budget",v2)]
theorem oO:(bc v0 v1 v2).lookup ("parent":Str)=some v0:=rfl
theorem j6:a_ "parent" u (bc v0 v1 v2)=bc u v1 v2:=rfl
theorem ng:(bc v0 v1 v2).lookup ("is_shut":Str)=some v1:=rfl
theorem jD:a_ "is_shut" u (bc v0 v1 v2)=bc v0 u v2:=rfl
theorem oP:(bc v0 v1 v2).lookup ("budget":Str)=some v2:=rfl
theorem j7:a_ "budget" u (bc v0 v1 v2)=bc v0 v1 u:=rfl
theorem tH:(bc v0 v1 v2).length=3:=rfl
theorem tI:a_ "budget" v2 (a_ "is_shut" v1 (a_ "parent" v0 []))=bc v0 v1 v2:=rfl
def cg(v0 v1 v2 v3 v4:V):List (Str×V):=[("kind",v0),("code",v1),("month",v2),("amount",v3),("details",v4)]
theorem vk:(cg v0 v1 v2 v3 v4).lookup ("kind":Str)=some v0:=rfl
theorem vm:(cg v0 v1 v2 v3 v4).lookup ("code":Str)=some v1:=rfl
theorem tJ:(cg v0 v1 v2 v3 v4).lookup ("month":Str)=some v2:=rfl
theorem rT:(cg v0 v1 v2 v3 v4).lookup ("amount":Str)=some v3:=rfl
theorem pX:(cg v0 v1 v2 v3 v4).lookup ("details":Str)=some v4:=rfl
theorem xf:(cg v0 v1 v2 v3 v4).length=5:=rfl
theorem xg:a_ "details" v4 (a_ "amount" v3 (a_ "month" v2 (a_ "code" v1 (a_ "kind" v0 []))))=cg v0 v1 v2 v3 v4:=rfl
def aV(v0 v1 v2 v3 v4 v5 v6 v7 v8 v9 v10:V):List (Str×V):=[("today",v0),("account_cap",v1),("entry_cap",v2),("closed_months",v3),("last_day_charged",v4),("prime_hours",v5),("rates",v6),("tiers",v7),("accounts",v8),("entries",v9),("invoices",v10)]
theorem tK:(aV v0 v1 v2 v3 v4 v5 v6 v7 v8 v9 v10).lookup ("today":Str)=some v0:=rfl
theorem ip:a_ "today" u (aV v0 v1 v2 v3 v4 v5 v6 v7 v8 v9 v10)=aV u v1 v2 v3 v4 v5 v6 v7 v8 v9 v10:=rfl
theorem lG:(aV v0 v1 v2 v3 v4 v5 v6 v7 v8 v9 v10).lookup ("account_cap":Str)=some v1:=rfl
theorem iK:a_ "account_cap" u (aV v0 v1 v2 v3 v4 v5 v6 v7 v8 v9 v10)=aV v0 u v2 v3 v4 v5 v6 v7 v8 v9 v10:=rfl
theorem nj:(aV v0 v1 v2 v3 v4 v5 v6 v7 v8 v9 v10).lookup ("entry_cap":Str)=some v2:=rfl
theorem jE:a_ "entry_cap" u (aV v0 v1 v2 v3 v4 v5 v6 v7 v8 v9 v10)=aV v0 v1 u v3 v4 v5 v6 v7 v8 v9 v10:=rfl
theorem jF:(aV v0 v1 v2 v3 v4 v5 v6 v7 v8 v9 v10).lookup ("closed_months":Str)=some v3:=rfl
theorem dR:a_ "closed_months" u (aV v0 v1 v2 v3 v4 v5 v6 v7 v8 v9 v10)=aV v0 v1 v2 u v4 v5 v6 v7 v8 v9 v10:=rfl
theorem iB:(aV v0 v1 v2 v3 v4 v5 v6 v7 v8 v9 v10).lookup ("last_day_charged":Str)=some v4:=rfl
theorem cY:a_ "last_day_charged" u (aV v0 v1 v2 v3 v4 v5 v6 v7 v8 v9 v10)=aV v0 v1 v2 v3 u v5 v6 v7 v8 v9 v10:=rfl
theorem lH:(aV v0 v1 v2 v3 v4 v5 v6 v7 v8 v9 v10).lookup ("prime_hours":Str)=some v5:=rfl
theorem iL:a_ "prime_hours" u (aV v0 v1 v2 v3 v4 v5 v6 v7 v8 v9 v10)=aV v0 v1 v2 v3 v4 u v6 v7 v8 v9 v10:=rfl
theorem tL:(aV v0 v1 v2 v3 v4 v5 v6 v7 v8 v9 v10).lookup ("rates":Str)=some v6:=rfl
theorem nr:a_ "rates" u (aV v0 v1 v2 v3 v4 v5 v6 v7 v8 v9 v10)=aV v0 v1 v2 v3 v4 v5 u v7 v8 v9 v10:=rfl
theorem tM:(aV v0 v1 v2 v3 v4 v5 v6 v7 v8 v9 v10).lookup ("tiers":Str)=some v7:=rfl
theorem nu:a_ "tiers" u (aV v0 v1 v2 v3 v4 v5 v6 v7 v8 v9 v10)=aV v0 v1 v2 v3 v4 v5 v6 u v8 v9 v10:=rfl
theorem oQ:(aV v0 v1 v2 v3 v4 v5 v6 v7 v8 v9 v10).lookup ("accounts":Str)=some v8:=rfl
theorem j8:a_ "accounts" u (aV v0 v1 v2 v3 v4 v5 v6 v7 v8 v9 v10)=aV v0 v1 v2 v3 v4 v5 v6 v7 u v9 v10:=rfl
theorem pY:(aV v0 v1 v2 v3 v4 v5 v6 v7 v8 v9 v10).lookup ("entries":Str)=some v9:=rfl
theorem lI:a_ "entries" u (aV v0 v1 v2 v3 v4 v5 v6 v7 v8 v9 v10)=aV v0 v1 v2 v3 v4 v5 v6 v7 v8 u v10:=rfl
theorem oR:(aV v0 v1 v2 v3 v4 v5 v6 v7 v8 v9 v10).lookup ("invoices":Str)=some v10:=rfl
theorem j9:a_ "invoices" u (aV v0 v1 v2 v3 v4 v5 v6 v7 v8 v9 v10)=aV v0 v1 v2 v3 v4 v5 v6 v7 v8 v9 u:=rfl
theorem oS:(aV v0 v1 v2 v3 v4 v5 v6 v7 v8 v9 v10).lookup ("renew":Str)=none:=rfl
theorem xh:(aV v0 v1 v2 v3 v4 v5 v6 v7 v8 v9 v10).length=11:=rfl
theorem xi:a_ "invoices" v10 (a_ "entries" v9 (a_ "accounts" v8 (a_ "tiers" v7 (a_ "rates" v6 (a_ "prime_hours" v5 (a_ "last_day_charged" v4 (a_ "closed_months" v3 (a_ "entry_cap" v2 (a_ "account_cap" v1 (a_ "today" v0 []))))))))))=aV v0 v1 v2 v3 v4 v5 v6 v7 v8 v9 v10:=rfl
def bQ(v0 v1:V):List (Str×V):=[("calls",v0),("place",v1)]
theorem rV:(bQ v0 v1).lookup ("calls":Str)=some v0:=rfl
theorem rW:(bQ v0 v1).lookup ("place":Str)=some v1:=rfl
theorem mr:a_ "place" u (bQ v0 v1)=bQ v0 u:=rfl
theorem jG:(bQ v0 v1).lookup ("is_at_end":Str)=none:=rfl
theorem iM:(bQ v0 v1).lookup ("take":Str)=none:=rfl
theorem iN:(bQ v0 v1).lookup ("take_number":Str)=none:=rfl
theorem fK:(bQ v0 v1).lookup ("take_rows":Str)=none:=rfl
theorem vo:(bQ v0 v1).length=2:=rfl
theorem vp:a_ "place" v1 (a_ "calls" v0 [])=bQ v0 v1:=rfl
def jk(v0 v1 v2 v3 v4:V):List (Str×V):=[("grade",v0),("day",v1),("minute",v2),("minutes",v3),("units",v4)]
theorem vq:(jk v0 v1 v2 v3 v4).lookup ("grade":Str)=some v0:=rfl
theorem yP:(jk v0 v1 v2 v3 v4).lookup ("day":Str)=some v1:=rfl
theorem tN:(jk v0 v1 v2 v3 v4).lookup ("minute":Str)=some v2:=rfl
theorem rX:(jk v0 v1 v2 v3 v4).lookup ("minutes":Str)=some v3:=rfl
theorem vt:(jk v0 v1 v2 v3 v4).lookup ("units":Str)=some v4:=rfl
theorem yQ:(jk v0 v1 v2 v3 v4).length=5:=rfl
theorem yR:a_ "units" v4 (a_ "minutes" v3 (a_ "minute" v2 (a_ "day" v1 (a_ "grade" v0 []))))=jk v0 v1 v2 v3 v4:=rfl
end
end Mc
namespace Km
open PySem PySem.Spec PyProof.Rows L2
section
variable {κ : Type} [DecidableEq κ]
theorem find_perm{g:Type}{a:g→κ}{k:κ}:∀{d e:List g},d.Perm e→(d.map a).Nodup→d.find? (λx=>decide (a x=k))=e.find? (λx=>decide (a x=k)):=λ{d e}h nd=>by f_assign(
 have m:(e.map a).Nodup:=(h.map a).nodup_iff.mp nd;have n:∀(c:List g),(c.map a).Nodup→∀x∈c,a x=k→c.find? (λx=>decide (a x=k))=some x:=by intro c;induction c with|nil=>intro _ x f;simp at f|cons y c o=>
  intro p x f i;have q:(a y::c.map a).Nodup:=p;obtain⟨j,l⟩:=Ls.mp q;rcases LN.mp f with b|b;·subst b;rw[JO (by simp[i])]
  ·have:¬a y=k:=λr=>j (by rw[r,←i];exact LX.mpr ⟨x,b,rfl⟩);rw[JN (by simp[this])];exact o l x b i
 cases b:d.find? (λx=>decide (a x=k))with|none=>rw[Kq]at b;symm;rw[Kq];exactλx f=>b x (h.mem_iff.mpr f)|some x=>have j:=Lm b;have l:=Jy b;exact(n e m x (h.mem_iff.mp l) (KU j)).symm)
theorem BB{a b:List (κ×V)}{k:κ}(c:a.Perm b)(nd:(a.map (·.1)).Nodup):bt a k=bt b k:=by unfold bt;rw[find_perm c nd]
theorem valV_map{c:Type}{a:c→κ}{val:c→V}{k:κ}:∀{d:List c},bt (d.map λx=>(a x,val x)) k=(d.find? λx=>decide (a x=k)).map val
 |[]=>rfl|x::d=>by
  rw[LM];by_cases b:a x=k;·rw[cV (p:=(a x,val x)) b,JO (by simp[b])];rfl
  ·rw[cW (p:=(a x,val x)) b,JN (by simp[b])];exact valV_map
theorem vv{c:κ×V}{a:List (κ×V)}{k:κ}(b:c.1=k)(d:¬k∈a.map (·.1)):putK (c::a) k v=(k,v)::a:=by unfold putK;rw[Mj (by simp[b]),LM,Mj b,b];congr 1;have:∀x∈a,(if x.1=k then(x.1,v)else x)=id x:=λx e=>Mi λf=>d (by rw[←f];exact LX.mpr ⟨x,e,rfl⟩);rw[Kh this,L4]
theorem vx{a:κ×V}{b:List (κ×V)}{k:κ}(c:¬a.1=k):putK (a::b) k v=a::putK b k v:=by
 unfold putK;rw[LJ,Lx c,Bool.false_or];split;·rw[LM,Mi c]
 ·rfl
theorem oT:∀{c:List (κ×V)}{k:κ}{b:V},(c.map (·.1)).Nodup→(putK c k b).Perm (jx c k++[(k,b)])
 |[],k,b,_=>by unfold putK jx;simp|d::f,k,b,nd=>by
  have g:(d.1::f.map (·.1)).Nodup:=nd;obtain⟨e,h⟩:=Ls.mp g;by_cases a:d.1=k;·rw[vv a (by rw[←a];exact e),uq a,rN (by rw[←a];exact e)];exact(Ju _ _).symm
  ·rw[vx a,oG a];exact(oT h).cons _
theorem C7{a:List (κ×V)}{k:κ}(nd:(a.map (·.1)).Nodup):(putK a k v).length=if(bt a k).isSome=true then a.length else a.length+1:=by cases q:bt a k with|none=>rw[putK_new v q];simp|some x=>rw[(oT nd).length_eq,Kr];have:=ur nd (EW q);simpa using this
theorem C8{a:Type}{b:a→κ}{val:a→V}{k:κ}(c:List a):jx (c.map λx=>(b x,val x)) k=(c.filter λx=>decide (b x≠k)).map λx=>(b x,val x):=by unfold jx;rw[List.filter_map];rfl
theorem iO{c:Type}{a:c→κ}{val:c→V}{d:List (κ×V)}{b:List c}{k:κ}(e:d.Perm (b.map λx=>(a x,val x)))(nd:(b.map a).Nodup):(putK d k v).Perm (((b.filter λx=>decide (a x≠k)).map λx=>(a x,val x))++[(k,v)]):=by
 have f:(b.map λx=>(a x,val x)).map (·.1)=b.map a:=by rw[LV];rfl
 have g:(d.map (·.1)).Nodup:=by rw[(e.map (·.1)).nodup_iff,f];exact nd
 refine(oT g).trans ?_;rw[←C8];exact(e.filter _).append_right _
theorem qI{c:Type}{a:c→κ}{val:c→V}{d:List (κ×V)}{b:List c}(e:d.Perm (b.map λx=>(a x,val x)))(nd:(b.map a).Nodup):(d.map (·.1)).Nodup:=by
 have f:(b.map λx=>(a x,val x)).map (·.1)=b.map a:=by rw[LV];rfl
 rw[(e.map (·.1)).nodup_iff,f];exact nd
theorem oU{a:Type}{b:a→κ}{val:a→V}{d:List (κ×V)}{c:List a}{k:κ}(e:d.Perm (c.map λx=>(b x,val x)))(nd:(c.map b).Nodup):bt d k=(c.find? λx=>decide (b x=k)).map val:=by rw[BB e (qI e nd),valV_map]
end
end Km
namespace L2
open PySem PySem.Spec PyProof.Rows
theorem ls{e:List (List Key×V)}{m:TG}{n:TS}{h:Ends}{c:St}{b:Hp}(f:Nat→St→Hp→Prop)(r:f 0 c b)(s:∀a c b,a≤e.length→f a c b→b d=some (.frz o (.dT e)))(u:∀a k i g c b,e[a]?=some (k,i)→b g=some (.tup (k.map kV))→f a c b→m (.ref g) c b λv z=>n {h with nx:=f (a+1),ct:=f (a+1),bk:=h.nx} v z)(A:∀c b,f e.length c b→h.nx c b):Loop (GW d o e) m n h c b:=by f_assign(
 refine⟨λa p c b=>p=e.length-a∧a≤e.length∧f a c b,⟨e.length,by simp,L7 _,r⟩,?_⟩;rintro a p c b⟨rfl,B,j⟩;have g:=s a c b B j;by_cases q:a<e.length;·refine .inr ⟨⟨g,q⟩,f (a+1),λI C D=>⟨e.length-(a+1),by lia,rfl,q,D⟩,λx C y=>?_⟩;obtain⟨l,k,i,E,F,G,H⟩:=y;subst l G;exact u a k i E c _ F H j
 ·have l:a=e.length:=by lia
  subst l;exact .inl ⟨⟨g,L6 _⟩,A c b j⟩)
theorem oV{a:Hp}(f:a d=some u)(g:au (upd a d (.frz od u)) H'):au a (upd H' d u):=λe h b=>by
 by_cases c:e=d;·subst c;rw[f]at b;cases b;exact aj
 ·rw[ak c];exact g e h (by rw[ak c];exact b)
def pdI(a:List Int):PyData:=.tuple (a.map PyData.int)
theorem rY{K:PySem.W.Frag}:∀a:List Int,pK K H (a.map V.int) (a.map PyData.int)|[]=>.nil|b::a=>.cons (.int b) (rY a)
theorem nv{K:PySem.W.Frag}{c:Hp}{b:List Int}(d:c a=some (.tup (b.map V.int))):Dp K c (.ref a) (pdI b):=.tup (SqT.of d) (rY b)
theorem xj:∀(a b:List Int),PyData.eqvAll (a.map PyData.int) (b.map PyData.int)=decide (a=b)
 |[],[]=>rfl|[],_::_=>by simp[PyData.eqvAll]|_::_,[]=>by simp[PyData.eqvAll]|d::a,e::b=>by
  simp only[List.map_cons,PyData.eqvAll,PyData.eqv,xj a b];by_cases c:d=e;·subst c;simp
  ·simp[c]
theorem qJ(a b:List Int):PyData.eqv (pdI a) (pdI b)=decide (a=b):=by show PyData.eqvAll _ _=_;exact xj a b
theorem xk:∀a:List Int,PyData.canLayAll0 (a.map PyData.int)=true|[]=>rfl|b::a=>by simp only[List.map_cons,PyData.canLayAll0,PyData.canLay0,xk a,Bool.and_self]
theorem ly(a:List Int):PyData.canLay0 (pdI a)=true:=xk a
theorem depthAll_ints:∀a:List Int,PyData.depthAll (a.map PyData.int)≤1|[]=>by simp[PyData.depthAll]|b::a=>by have:=depthAll_ints a;simp only[List.map_cons,PyData.depthAll,PyData.depth];lia
theorem oW(a:List Int):(pdI a).depth≤2:=by have:=depthAll_ints a;simp only[pdI,PyData.depth];lia
theorem rZ(a:List Int):SeqAt.shaped (pdI a)=true:=by unfold SeqAt.shaped;rw[ly,Bool.true_and];have:=oW a;exact LF (by lia)
def Ig:R2:=λx y b f=>∃(a c:Addr)(d e:List Int),x=.ref a∧y=.ref c∧b a=some (.tup (d.map V.int))∧b c=some (.tup (e.map V.int))∧f (.bl (decide (d=e))) b
theorem yS{b:Cx}(c:b.A.units+64<cLine):OpR b (compareOp .Eq) Ig:=λd e f g x y h i j l m n o=>by obtain⟨a,s,u,v,rfl,rfl,p,q,r⟩:=o;exact GL c d e f g _ _ h i j l m n ⟨_,_,nv p,nv q,rZ _,rZ _,by rw[qJ];exact r⟩
inductive aY(H:Hp):List Addr→List (List Int)→Prop|nil:aY H [] []|cons{a:Addr}{c:List Int}{as:List Addr}{cs:List (List Int)}:H a=some (.tup (c.map V.int))→aY H as cs→aY H (a::as) (c::cs)
theorem aY.dp{K:PySem.W.Frag}:∀{as:List Addr}{a:List (List Int)},aY H as a→pK K H (as.map V.ref) (a.map pdI):=by intro as a b;induction b with|nil=>exact .nil|cons b t c=>exact .cons (nv b) c
theorem aY.same(a:au H H'):∀{as:List Addr}{b:List (List Int)},aY H as b→aY H' as b|_,_,.nil=>.nil|_,_,.cons c t=>.cons (a _ _ c) (t.same a)
theorem aY.len:∀{as:List Addr}{a:List (List Int)},aY H as a→as.length=a.length|_,_,.nil=>rfl|_,_,.cons _ t=>by rw[K9,K9,t.len]
theorem aY.snoc{b:Hp}{c:List Int}(d:b a=some (.tup (c.map V.int))):∀{as:List Addr}{e:List (List Int)},aY b as e→aY b (as++[a]) (e++[c])|_,_,.nil=>.cons d .nil|_,_,.cons f t=>.cons f (t.snoc d)
theorem mv:∀a:List (List Int),PyData.canLayAll0 (a.map pdI)=true|[]=>rfl|b::a=>by simp only[List.map_cons,PyData.canLayAll0,ly,mv a,Bool.and_self]
theorem Ah(a:List Int):∀b:List (List Int),((b.map pdI).any λy=>PyData.eqv y (pdI a))=decide (a∈b)
 |[]=>by simp|d::b=>by
  rw[LM,LJ,Ah a b,qJ];by_cases c:d=a;·subst c;simp
  ·have:¬a=d:=λe=>c e.symm;simp[c,this]
def Je(K:PySem.W.Frag):R2:=λx y a f=>∃(b:Addr)(c:List Int)(d:Addr)(as:List Addr)(e:List (List Int)),x=.ref b∧a b=some (.tup (c.map V.int))∧y=.ref d∧SqL K a d (as.map V.ref)∧aY a as e∧f (.bl (decide (c∈e))) a
theorem C9{b:Cx}(s:b.A.units+65<cLine):OpR b (compareOp .In) (Je b.K):=λu v z e x y f g A c h i j=>by f_assign(
 obtain⟨l,a,m,as,d,rfl,n,rfl,o,p,k⟩:=j;obtain⟨B,q⟩:=Dp.reads c (pdI a) (.ref l) f (nv n) h;obtain⟨C,r⟩:=Dp.reads c (.list (d.map pdI)) (.ref m) g (.lst o p.dp) i;refine SeqAt.in_list_reads r q (mv d) (ly a) ?_ ⟨.bl _,e,c,rfl,?_⟩;·have D:=oW a;have:min (PyData.depthAll (d.map pdI)) (pdI a).depth≤(pdI a).depth:=Nat.min_le_right _ _;lia
 ·rw[Ah];exact k)
theorem j_:∀(b:List PyData)(g:List Value)(as:List Addr)(c:Nat)(a:PyData),ReadsAll h g b as→b[c]?=some a→∃e bs,g[c]?=some e∧Reads h e a bs
 |[],_,_,c,a,_,d=>by simp at d|x::b,_,_,0,a,f,d=>by cases f with|cons i j=>have:=Lv d;subst this;exact⟨_,_,rfl,i⟩
 |x::b,_,_,c+1,a,f,d=>by cases f with|cons i j=>obtain⟨e,bs,l,m⟩:=j_ b _ _ c a j (by simpa using d);exact⟨e,bs,by simpa using l,m⟩
def E3(K:PySem.W.Frag):V→List V→Hp→VK→Prop:=λx h a i=>∃(e f:Addr)(b:List Int)(as:List Addr)(c:List (List Int))(d:Nat),x=.ref e∧h=[.ref f]∧a f=some (.tup (b.map V.int))∧SqL K a e (as.map V.ref)∧aY a as c∧c[d]?=some b∧(∀g,g<d→c[g]?≠some b)∧i (.int (d:Nat)) a
theorem BC{f:Cx}(ap:f.A.units+65<cLine):MtR f "list.index" (E3 f.K):=by f_assign(intro ar g av r x xs v us Q I rx rxs h;obtain⟨s,u,a,as,d,e,rfl,rfl,z,A,l,B,C,k⟩:=h;cases rx;cases rxs with|cons D E=>
 rename_i m ax;cases E;obtain⟨aA,F⟩:=Dp.reads I (pdI a) (.ref u) m (nv z) D;obtain⟨b,rv,⟨⟨aE,G,aI,H⟩,J,n,o,aK,p⟩,aM⟩:=I.list A;simp only at o p;subst o p;obtain⟨aN,i⟩:=Dp.readsAll I (d.map pdI) _ b l.dp rv;have L:(d.map pdI)[e]?=some (pdI a):=by rw[KL,B];rfl
 obtain⟨M,bs,N,O⟩:=j_ _ _ _ e _ i L;obtain⟨R,S⟩:=Jx.mp N;have T:e<b.toArray.size:=by simpa using R
 have U:=rv.length;have aP:=sizeLine_eq;refine call_meets PySem.F.slot_list_index ⟨_,n,rfl⟩ PySem.F.entry_list_index (PySem.F.args_list_index_2 _ _) (SeqAt.list_indexAt s b.toArray J G H m (λy=>PyData.eqv (SeqAt.readOf g.heap y) (pdI a)) e T (by lia) ?_ ?_) ⟨n,SeqAt.items_eqAt (by simpa using i) F (mv d) (ly a) ?_,?_⟩
 ·have j:b.toArray[e]=M:=by simpa using S
  show PyData.eqv (SeqAt.readOf g.heap b.toArray[e]) (pdI a)=true;rw[j,SeqAt.readOf_eq (ly a) O,qJ];exact LF rfl
 ·intro c X Y;have aR:c<b.length:=by simpa using X
  have q:c<d.length:=by have:=l.len;rw[Ln]at U;lia
  have Z:(d.map pdI)[c]?=some (pdI d[c]):=by rw[KL,JA q];rfl
  obtain⟨ac,aT,ah,al⟩:=j_ _ _ _ c _ i Z;obtain⟨_,am⟩:=Jx.mp ah;have j:b.toArray[c]=ac:=by simpa using am
  show PyData.eqv (SeqAt.readOf g.heap b.toArray[c]) (pdI a)=false;rw[j,SeqAt.readOf_eq (ly _) al,qJ];exact Lx λan=>C c Y (by rw[JA q,an])
 ·have aU:=oW a;have:min (PyData.depthAll (d.map pdI)) (pdI a).depth≤(pdI a).depth:=Nat.min_le_right _ _;lia
 ·exact⟨.int (e:Nat),r,I.tok _,⟨_,rfl⟩,k⟩)
section
variable {prog : Program} {w : World} {A : Around} {E : Value → Shared → Prop}
theorem xl{b:Addr}(g:(b==sysModules)=false):MeetsIn prog w (Builtin.«dict.__len__» ⟨[.ref b],[]⟩) (λ_ e a=>∃(c:Obj)(d:Array DictEntry)(f:Nat),a.heap.get? b=some c∧c.ExactDict∧c.data=.dict d f∧e (.ok (.ret (.int d.size a.toks))) {a with toks:=a.toks+1}):=by refine MeetsIn.of_wp λA e a h=>?_;obtain⟨c,d,f,i,n,j,l⟩:=h;show wpAny _ _ (do let o←dictSize b;_) _ _ a;unfold dictSize;refine Ma (Ma (KY i j (Md ?_)));refine Ma (m:=Builtin.Dict.pendingCount b) (wpAny_pendingCount_other g ?_);exact wpAny_ret_mkInt (by rw[Nat.add_zero];exact l)
theorem E4{a:Shared}{c:Addr}{d:Obj}{b:Array DictEntry}{e:Nat}{f:Value→Shared→Prop}(i:(c==sysModules)=false)(g:a.heap.get? c=some d)(h:d.ExactDict)(j:d.data=.dict b e)(o:(b.size:Int)<2^63)(l:∀t n,f (.int b.size t) {a with toks:=n}):wpAny (model prog w) A (call (.builtin "len") [.ref c]) f E a:=by f_assign(have ty:a.TypeIs (.ref c) "dict":=⟨d,g,h.1⟩;refine Calls.call_function_entry kind_len plain_len entry_len (args_len1 _) ?_;unfold Builtin.«len»;refine Ma (m:=oneArg "len" _) (Md (Ma (m:=callSpecial? (.ref c) (Str.ofString "__len__")) ?_));refine JJ (name:=Str.ofString "__len__") ty F.slot_dict_len ?_;refine call_meetsIn F.slot_dict_len ty F.entry_dict_len (F.args_dict_len_1 _) (xl i) ⟨d,b,e,g,h,j,?_⟩;show wpAny _ _ _ _ _ {a with toks:=a.toks+1};refine Ma (LS (Md (Ma (L9 ?_))));show wpAny _ _ (if((b.size:Nat):Int)<0 then _ else if((b.size:Nat):Int)≥2^63 then _ else _) _ _ _;rw[Mi (by lia),Mi (by lia)];exact Ma (wpAny_mkInt (Md ⟨_,rfl,l _ _⟩)))
end
theorem gQ:cx X (.builtin "len") (λd c e=>∃a b,d=[V.ref a]∧Rd c a (.dT b)∧e (.int b.length) c):=by f_assign(
 intro y z A c d B e f g h;obtain⟨a,b,rfl,i,j⟩:=h;obtain⟨C,rfl,l⟩:=vals1 g;cases l;obtain⟨m,n,D,o,E,p,F,q,r,s,u,G⟩:=mX f.hok i;have v:p.size=b.length:=by have x:=Me List.length u;have H:=LQ o;simp only[Array.length_toList,List.length_map]at x;lia
 refine E4 n q r s (by rw[sizeLine_eq]at m;lia) λt I=>⟨.int b.length,c,f.tok _,⟨t,by rw[v]⟩,j⟩)
theorem mw:cx X (.builtin "len") (λd b e=>∃a c,d=[V.ref a]∧b a=some (.dK c)∧e (.int c.length) b):=Bu
def Ih(c:Hp)(a:Addr)(d:Nat):Prop:=(∃b,c a=some (.dK b)∧d=b.length)∨∃b,Rd c a (.dT b)∧d=b.length
theorem xm:cx X (.builtin "len") (λh b c=>∃(a:Addr)(d:Nat),h=[V.ref a]∧Ih b a d∧c (.int d) b):=by
 intro i j l b h m c n o q;obtain⟨a,d,rfl,e|e,p⟩:=q;·obtain⟨f,g,rfl⟩:=e;exact mw i j l b _ m c n o ⟨a,f,rfl,g,p⟩
 ·obtain⟨f,g,rfl⟩:=e;exact gQ i j l b _ m c n o ⟨a,f,rfl,g,p⟩
def dO:List Int→List Int→Bool|[],[]=>false|[],_::_=>true|_::_,[]=>false|a::c,b::d=>decide (a<b)||(a==b&&dO c d)
def cOf(b:Hp)(a:Addr):List Int:=match b a with
 |some (.tup c)=>c.map λd=>match d with|.int e=>e|_=>0
 |_=>[]
def ka(b:Hp)(a:Addr):Prop:=∃(c:Int)(d:List Int),b a=some (.tup ((c::d).map V.int))
theorem vy{c:Hp}{b:List Int}(d:c a=some (.tup (b.map V.int))):cOf c a=b:=by unfold cOf;rw[d];simp only[List.map_map];exact(Kh (λ_ _=>rfl)).trans (L4 b)
theorem ka.at(c:ka H a):H a=some (.tup ((cOf H a).map V.int)):=by obtain⟨d,e,b⟩:=c;rw[vy b];exact b
theorem r_:∀{a:List Value}{c:List Int}(b:Nat),aZ (c.map V.int) a→tupItems (λ_=>false) b a=some (c.map Sum.inl)|a,[],b,d=>by cases d;rfl|a,f::c,b,d=>by cases d with|cons e t=>obtain⟨k,rfl⟩:=e;unfold tupItems;rw[Mi (by decide),r_ (b+1) t];rfl
theorem xn:∀a b:List Int,lexLt itemOrd (a.map Sum.inl) (b.map Sum.inl)=dO a b
 |[],[]=>rfl|[],_::_=>rfl|_::_,[]=>rfl|a::c,b::d=>by
  show(decide (a<b)||(!decide (b<a)&&lexLt itemOrd (c.map Sum.inl) (d.map Sum.inl)))=(decide (a<b)||(a==b&&dO c d));rw[xn c d];by_cases e:a<b;·simp[e]
  ·by_cases f:b<a
   ·have:¬a=b:=by lia
    simp[e,f,this]
   ·have:a=b:=by lia
    subst this;simp
section
variable {X : Cx} {pins : List (Addr × Obj)} {σ : St} {H : Hp} {s : Shared}
theorem vA(h:Inv X pins σ H s)(i:ka H a):(∃j,TupOf s.heap (λ_=>false) (.ref a) j)∧G.tupKeyC s.heap (λ_=>false) (.ref a)=some ((cOf H a).map Sum.inl):=by f_assign(
 obtain⟨d,q,e⟩:=i;have l:=e;obtain⟨r,u,b,m,c,f,n,g⟩:=h.hok a _ e;refine⟨?_,?_⟩;·cases b with|cons b t=>obtain⟨k,rfl⟩:=b;exact⟨Value.int d k,a,m,_,n,rfl,c,f,g,by simp,λ_=>⟨d,k,rfl⟩,λo=>by cases o⟩
 ·unfold G.tupKeyC;have p:G.isTupObj s.heap (.ref a)=true:=by simp only[G.isTupObj,c,f];decide
  rw[Mj p];simp only[tupKey,c,g];rw[vy l];exact r_ 0 (by simpa using b))
theorem vB(b:Inv X pins σ H s):∀{as:List Addr},(∀a∈as,ka H a)→∃fs,TupsOf s.heap (λ_=>false) (as.map Value.ref) fs|[],_=>⟨[],.nil⟩|a::as,c=>by obtain⟨d,hf⟩:=(vA b (c a (Ks ..))).1;obtain⟨fs,e⟩:=vB b (as:=as) λf g=>c f (J0 _ g);exact⟨d::fs,.cons hf e⟩
theorem E5:∀{c:List Value}{as:List Addr},c.Perm (as.map Value.ref)→∃h:List Addr,h.Perm as∧c=h.map Value.ref:=λ{c as}e=>by f_assign(
 refine⟨c.filterMap λb=>match b with|.ref a=>some a|_=>none,?_,?_⟩
 ·have f:∀d:List Addr,((d.map Value.ref).filterMap λb=>match b with|.ref a=>some a|_=>none)=d:=λd=>by induction d with|nil=>rfl|cons a d g=>rw[LM,Kd];show a::_=a::d;rw[g]
  have:=e.filterMap λb=>match b with|.ref a=>some a|_=>none;rw[f as]at this;exact this
 ·have all:∀b∈c,∃a,b=Value.ref a:=λb i=>by obtain⟨a,_,f⟩:=LX.mp (e.mem_iff.mp i);exact⟨a,f.symm⟩
  clear e;induction c with|nil=>rfl|cons b c g=>obtain⟨a,rfl⟩:=all b (Ks ..);rw[Kd];show _=Value.ref a::_;rw[←g λj l=>all j (J0 _ l)])
theorem pO(o:Inv X pins σ H s){as:List Addr}(p:∀a∈as,ka H a){c:SortSt}(j:(arrOf c).Perm (pairsOf (as.map Value.ref)))(q:SortedToK (G.tupKindC s.heap λ_=>false) (arrOf c) (pairsOf (as.map Value.ref)).size):∃d:List Addr,d.Perm as∧((arrOf c).map (·.2)).toList=d.map Value.ref∧(d.map (cOf H)).Pairwise λx y=>dO y x=false:=by f_assign(
 have r:((arrOf c).map (·.2)).toList.Perm (as.map Value.ref):=by have:=(Array.perm_iff_toList_perm.mp j).map (·.2);rw[pairsOf_toList]at this;rw[Array.toList_map];refine this.trans (Li ?_);rw[List.map_snd_zip]<;>simp
 obtain⟨d,f,g⟩:=E5 r;refine⟨d,f,g,?_⟩;have C:(arrOf c).size=d.length:=by have:=Me List.length g;simpa using this
 have same:∀h∈(arrOf c).toList,h.1=h.2:=λh u=>by have:=(Array.perm_iff_toList_perm.mp j).mem_iff.mp u;rw[pairsOf_toList]at this;exact(mem_zip_self this).1.symm▸rfl
 have l:∀(b:Nat)(e:b<d.length),KK (G.tupKindC s.heap λ_=>false) (arrOf c) b=(cOf H d[b]).map Sum.inl:=λb e=>by
  have i:b<(arrOf c).size:=by lia
  unfold KK;rw[Jv i];have v:(arrOf c)[b].1=(arrOf c)[b].2:=same _ (Array.mem_toList_iff.mpr (Array.getElem_mem i));have z:(arrOf c)[b].2=Value.ref d[b]:=by have:=Me (λA:List Value=>A[b]?) g;simp only[Array.toList_map,List.getElem?_map,List.getElem?_eq_getElem e]at this;rw[Array.getElem?_toList,Jv i]at this;exact Lv this
  show((G.tupKeyC s.heap (λ_=>false) (arrOf c)[b].1).getD [])=_;rw[v,z,(vA o (p _ (f.mem_iff.mp (List.getElem_mem e)))).2];rfl
 rw[List.pairwise_iff_getElem];intro b m e n B;rw[Ln]at e n;have:=q b m (Nat.le_of_lt B) (by rw[pairsOf_size,Ln];have:=f.length_eq;lia);rw[l b e,l m n]at this;rw[List.getElem_map,List.getElem_map,←xn];exact this)
theorem uv:∀{as:List Addr}{c:List Value},aZ (as.map V.ref) c→c=as.map Value.ref|[],_,b=>by cases b;rfl|a::as,_,b=>by cases b with|cons d t=>cases d;rw[uv t];rfl
theorem lz:∀as:List Addr,aZ (as.map V.ref) (as.map Value.ref)|[]=>.nil|a::as=>.cons rfl (lz as)
theorem lB:∀{as:List Addr},(∀a∈as,ka H a)→aY H as (as.map (cOf H))|[],_=>.nil|a::as,b=>.cons (b a (Ks ..)).at (lB λc d=>b c (J0 _ d))
def C_(K:PySem.W.Frag):List V→Hp→VK→Prop:=λd H e=>∃(a:Addr)(as:List Addr),d=[.ref a]∧SqL K H a (as.map V.ref)∧(∀x∈as,ka H x)∧∀(b:List Addr)(c:Addr),b.Perm as→((b.map (cOf H)).Pairwise λx y=>dO y x=false)→H c=none→e (.ref c) (upd H c (.lst (b.map V.ref)))
theorem yT:cx X (.builtin "sorted") (C_ X.K):=by f_assign(
 intro pins s σ H C D E b g h;obtain⟨a,as,rfl,i,d,j⟩:=h;obtain⟨F,rv,l,e⟩:=b.list i;rw[aZ.ref1 g];have m:=uv rv;subst m;obtain⟨fs,n⟩:=vB b d;rw[Ln]at e;refine G.sorted_tups l.isList n (λI o=>?_) (by rw[Ln];exact e) λp q r _=>?_;·obtain⟨u,v,rfl⟩:=LX.mp o;exact⟨_,(vA b (d u v)).2⟩
 ·obtain⟨c,f,x,y⟩:=pO b d q r;obtain⟨z,A⟩:=sortedAll_at s.heap (as.map Value.ref) ((arrOf p).map (·.2));have B:(c.map V.ref).length≤sizeLine:=by rw[Ln,f.length_eq];exact e
  exact⟨.ref _,upd H (s.heap.objs.size+1) (.lst (c.map V.ref)),b.laid (t':=s.toks) (λ_ _=>sortedAll_old) (Nat.le_succ _) ⟨B,c.map Value.ref,z,lz c,by rw[A,←x,Array.toArray_toList]⟩,rfl,j c _ f y (b.hok.fresh (Nat.le_succ _))⟩)
def xo:List V→Hp→VK→Prop:=λg H h=>∃(e:Addr)(f:List (List Key×V))(a:List (List Int)),g=[.ref e]∧Rd H e (.dT f)∧f.map (·.1)=a.map (λb=>b.map Sum.inl)∧(∀b∈a,b≠[])∧∀(as:List Addr)(c:List (List Int))(d:Addr),c.Perm a→(c.Pairwise λx y=>dO y x=false)→aY H as c→H d=none→h (.ref d) (upd H d (.lst (as.map V.ref)))
theorem E6(a:List Int):(a.map Sum.inl).map kV=a.map V.int:=by rw[LV];rfl
theorem uw{H:Hp}{e:Array DictEntry}{c:List (List Key×V)}{a:List (List Int)}{acc:Array Value}(C:e.size=c.length)(ent:∀(f:Nat)(k:List Key)(g:V),c[f]?=some (k,g)→∃(d:DictEntry)(h:Addr),e[f]?=some d∧d.key=.ref h∧H h=some (.tup (k.map kV))∧RelV g d.val)(j:c.map (·.1)=a.map (λq=>q.map Sum.inl))(i:ItemsOf (λf g=>∃d,e[f]?=some d∧g=d.key) acc e.size):∃as:List Addr,acc.toList=as.map Value.ref∧aY H as a:=by f_assign(
 have all:∀(b:Nat),b≤a.length→∃as:List Addr,acc.toList.drop (a.length-b)=as.map Value.ref∧aY H as (a.drop (a.length-b)):=by
  have D:c.length=a.length:=by have:=Me List.length j;simpa using this
  intro b;induction b with|zero=>
   intro _;refine⟨[],?_,?_⟩;·rw[List.drop_eq_nil_of_le (by have:=i.1;simp only[Array.length_toList];lia)];rfl
   ·rw[List.drop_eq_nil_of_le (by lia)];exact .nil|succ b r=>
   intro E;obtain⟨as,u,v⟩:=r (by lia);have l:a.length-(b+1)<a.length:=by lia
   have m:a.length-(b+1)<c.length:=by lia
   have n:a.length-(b+1)<acc.size:=by have:=i.1;lia
   obtain⟨d,h,x,y,o,_⟩:=ent (a.length-(b+1)) c[a.length-(b+1)].1 c[a.length-(b+1)].2 (JA m);obtain⟨F,p,z⟩:=i.2 (a.length-(b+1)) acc[a.length-(b+1)] (Jv n);rw[x]at p;cases p;have A:c[a.length-(b+1)].1=a[a.length-(b+1)].map Sum.inl:=by have:=Me (λB:List (List Key)=>B[a.length-(b+1)]?) j;simp only[List.getElem?_map,List.getElem?_eq_getElem l,List.getElem?_eq_getElem m]at this;exact Lv this
   rw[A,E6]at o;refine⟨h::as,?_,?_⟩;·rw[List.drop_eq_getElem_cons (by simpa using n)];rw[show a.length-(b+1)+1=a.length-b by lia,u];simp only[Array.getElem_toList,List.map_cons];rw[z,y]
   ·rw[List.drop_eq_getElem_cons l,show a.length-(b+1)+1=a.length-b by lia];exact .cons o v
 have:=all a.length (L6 _);simpa using this)
theorem aY.all:∀{as:List Addr}{d:List (List Int)},aY H as d→(∀b∈d,b≠[])→(∀a∈as,ka H a)∧as.map (cOf H)=d:=by f_assign(intro as d c;induction c with|nil=>exactλ_=>⟨λa c=>(nomatch c),rfl⟩|@cons a b as d c t f=>
 intro e;obtain⟨g,h⟩:=f λb i=>e b (J0 _ i);refine⟨λj l=>?_,?_⟩
 ·rcases LN.mp l with z|z;·subst z;cases b with|nil=>exact absurd rfl (e [] (Ks ..))|cons m b=>exact⟨m,b,c⟩
  ·exact g j z
 ·rw[LM,h,vy c])
theorem yV(z:X.calm=true):cx X (.builtin "sorted") xo:=by f_assign(
 intro pins s σ H vs ah al f rv B;obtain⟨d,C,am,rfl,q,D,E,i⟩:=B;obtain⟨es,ep,rd,r,ent⟩:=oJ (q.ok f.hok);have F:C.length≤sizeLine:=(q.ok f.hok).1;rw[aZ.ref1 rv];refine Calls.call_function_entry kind_sorted plain_sorted entry_sorted (args_sorted1 _) ?_;unfold Builtin.«sorted»;refine Ma (m:=checkCount "sorted" 1 1 _) (Md (Ma (PySem.W.kdu_collect (A:=X.A.in1) (rR (prog:=X.prog) (w:=X.w) (d:=d) (es:=es) (ep:=ep)) (f.ok.hd z) rd (by rw[r];exact F) λc g acc I u=>?_)));obtain⟨as,v,J⟩:=uw r ent D u;obtain⟨h,L⟩:=J.all E;have j:as.length≤sizeLine:=by have e:=Me List.length v;have x:=u.1;simp only[Array.length_toList,List.length_map]at e;lia
 have l:Inv X pins σ H {s with heap:=c,toks:=g}:=f.kept I;rw[v];refine Ma (wpAny_newList ?_ (by rw[Ln];exact j));have n:Inv X pins σ H {s with heap:=c.push {cls:=.type "list",data:=.seq (as.map Value.ref).toArray},toks:=g}:=l.kept (t':=g) λo an i=>JK _ i;have p:(c.push {cls:=.type "list",data:=.seq (as.map Value.ref).toArray}).get? c.objs.size=some (seqObj "list" (as.map Value.ref).toArray 0):=Kc _ rfl;obtain⟨fs,M⟩:=vB n h;refine Ma (LS (Lg slot_list_sort ⟨_,p,rfl⟩ entry_list_sort (G.list_sort_tups p M (λap N=>?_) (by rw[Ln];exact j) λO Q R _=>⟨_,rfl,?_⟩) (args_list_sort _)));·obtain⟨o,S,rfl⟩:=LX.mp N;exact⟨_,(vA n (h o S)).2⟩
 ·obtain⟨b,e,x,T⟩:=pO n h Q R;obtain⟨U,Y⟩:=sortedHeap_at (vs:=as.map Value.ref) (out:=(arrOf O).map (·.2)) p;have Z:(b.map V.ref).length≤sizeLine:=by rw[Ln,e.length_eq];exact j
  refine Md ⟨_,rfl,.ref _,upd H c.objs.size (.lst (b.map V.ref)),l.laid (t':=g) (λo ar y=>?_) (L6 _) ⟨Z,b.map Value.ref,U,lz b,by rw[Y,←x,Array.toArray_toList]⟩,rfl,i b (b.map (cOf H)) _ ?_ T (lB λa ac=>h a (e.mem_iff.mp ac)) l.fresh⟩;·have lt:=LU y;rw[sortedHeap_old (L3 lt) (by rw[LA];exact KR lt)];exact JK _ y
  ·rw[←L];exact e.map _)
end
end L2
namespace Mc
open PySem PySem.Spec PyProof.Rows L2
def kg:Pos:=⟨176,38,176,63⟩
def lamQual:Str:="from_top_down.<locals>.<lambda>"
def Ai(a:Addr):HO:=.ext λb=>b.CodeRec (.ref a) lamQual
def cy(c:Hp)(t:Addr):Prop:=∃a:Array Value,c t=some (.tbl a)∧TriplesOk a.toList∧(codeAmong kg a.toList=none∨∃b,codeAmong kg a.toList=some (.ref b)∧c b=some (Ai b))
theorem cy.keep{a:Hp}{t:Addr}(d:cy H t)(e:a t=H t)(f:∀b c,H b=some (.ext c)→a b=some (.ext c)):cy a t:=by obtain⟨g,h,i,j⟩:=d;refine⟨g,e.trans h,i,j.imp id ?_⟩;rintro⟨l,m,n⟩;exact⟨l,m,f _ _ n⟩
end Mc
namespace L2
open PySem PySem.Spec PyProof.Rows
theorem ux(c:upd H a o b=none):H b=none∧b≠a:=by
 have:b≠a:=λd=>by rw[d,aj]at c;cases c
 rw[ak this]at c;exact⟨c,this⟩
theorem ny{b c:Int}{t d:Tok}{e:Value}:∀a:List Value,TriplesOk a→TriplesOk (a++[.int b t,.int c d,e])|[],_=>trivial|.int _ _::.int _ _::_::rest,f=>ny rest f
theorem perm_unmap{e h:Type}{f:e→h}:∀{b:List e}{i:List h},i.Perm (b.map f)→∃d:List e,d.Perm b∧i=d.map f:=λ{b i}j=>by f_assign(
 have r:∀{a g:List h},a.Perm g→∀b:List e,g=b.map f→∃d:List e,d.Perm b∧a=d.map f:=λ{a g}j=>by induction j with
  |nil=>intro b c;cases b with|nil=>exact⟨[],.refl _,rfl⟩|cons x b=>cases c
  |@cons x a g s u=>intro b c;cases b with|nil=>cases c|cons y b=>obtain⟨l,m⟩:=LK c;obtain⟨d,n,o⟩:=u b m;exact⟨y::d,n.cons y,by rw[o,l];rfl⟩
  |swap x y a=>intro b c;match b,c with|p::q::b,c=>obtain⟨l,m⟩:=LK c;obtain⟨v,z⟩:=LK m;exact⟨q::p::b,.swap p q b,by rw[l,v,z];rfl⟩
  |@trans a g G s H A B=>intro b c;obtain⟨C,n,o⟩:=B b c;obtain⟨D,E,F⟩:=A C o;exact⟨D,E.trans n,F⟩
 exact r j b rfl)
abbrev gG(x:Str)(p:Pos):Arguments:={posonlyargs:=[],args:=[{arg:=x,annotation:=none,pos:=p}],vararg:=none,kwonlyargs:=[],kw_defaults:=[],kwarg:=none,defaults:=[]}
abbrev bA(x y:Str):Scope:={kind:=.function,names:=[(x,.local),(y,.free)],isGenerator:=false,isCoroutine:=false,more:=[]}
section
variable {X : Cx} {pins : List (Addr × Obj)} {σ : St} {H : Hp} {s : Shared}
def FU(X:Cx)(x y a:Str)(s:Shared)(H:Hp)(e:Around)(b c d:Addr):Cx where prog:=X.prog;w:=X.w;K:=X.K;mg:=X.mg;base:=X.base;A:=e.deeper (PySem.W.envX a (bA x y) s.heap.objs.size b (.ref c) [(y,d)]);N:=[x,y];s_0:=s;H_0:=H;env:=PySem.W.envX a (bA x y) s.heap.objs.size b (.ref c) [(y,d)];outer:=X.stack;stack:=PySem.W.envX a (bA x y) s.heap.objs.size b (.ref c) [(y,d)]::X.stack;ex:=[];fn:=λ_=>false;calm:=true;pn:=[];xe:=λ_ _=>False
theorem Dc{n:Around}{x y o:Str}{B:Pos}{C u d:Addr}{D:Value}{p:V}{E:VK}(l:Inv X pins σ H s)(a8:(x==y)=false)(T:(y==x)=false)(ah:n.frames=X.A.frames)(I:cu 1 n)(hf:s.heap.get? C=some (PySem.W.kla_obj "<lambda>" o (gG x B) (.Subscript (.Name y p1) (.Name x p2) p3) (bA x y) [(y,d)] D u ctv))(al:s.heap.CodeRec (.ref u) o)(U:s.heap.IsCell d (some (.ref dd)))(am:H d=none)(an:RelV (.ref q) m)(ap:gm H dd (.ref q) (some p))(J:E p H)(ar:(x==("__debug__":Str))=false)(av:(y==("__debug__":Str))=false)(ax:(x==("__classdict__":Str))=false)(aA:(y==("__classdict__":Str))=false)(aE:∀aI r D aK aM p,bindArgs (PySem.W.kla_fn "<lambda>" o (gG x B) aI (bA x y) r D aK aM) ⟨[p],[]⟩=pure [(x,p)]):wpAny (model X.prog X.w) n (call (.ref C) [m]) (EP X pins σ E) (λ_ _=>False) s:=by f_assign(
 have g:wG X.prog X.w X.K X.mg X.base n X.stack s H:=⟨ah.trans l.env0.frames,l.env0.mod,l.env0.bs,l.env0.bsz,l.env0.funs,l.env0.frf,l.env0.hok,l.env0.bare⟩;obtain rfl:m=Value.ref q:=an;refine wpAny_call (codeAny_mono (R:=λY L=>∃m,Y=.ok (.ret m)∧CE X.stack X.prog X.w H s E m L) (PySem.W.kla_callFunE I.depth hf rfl rfl rfl rfl al ?_) λY L J=>?_)
 ·have aN:bindArgs (PySem.W.kla_fn "<lambda>" o (gG x B) (.Subscript (.Name y p1) (.Name x p2) p3) (bA x y) [(y,d)] D (.ref u) ctv) ⟨[Value.ref q],[]⟩=pure [(x,Value.ref q)]:=aE _ _ _ _ _ _;rw[aN];refine Md (wpAny_newFunctionEnv (λb e=>?_) (λb e=>?_) (λZ aP aR=>?_) rfl)
  ·rcases LN.mp e with c|e;·rw[c];simp
   ·rw[Kt.mp e];simp
  ·rw[Kt.mp e];simp
  · have v:∀f h,s.heap.get? f=some h→Z.get? f=some h:=λf h c=>aR.extBut f h (L3 (LU c)) (JK _ c);refine⟨(g.mod.nolimit.keeps λf h c=>v f h (g.bs f h c).1),?_⟩;have r:∀b j,([(y,d)]:List (Str×Addr)).lookup b=some j→b=y∧j=d:=λb j c=>by
      by_cases w:(b==y)=true;·simp only[List.lookup,w]at c;exact⟨eq_of_beq w,(Lv c).symm⟩
      ·have M:(b==y)=false:=by simpa using w
       simp only[List.lookup,M]at c;cases c
    have aT:Inv (FU X x y o s H n C u d) [] [some (.ref q),some (.ref dd)] H {s with heap:=Z,toks:=s.toks+1}:=by
     refine⟨⟨g.mod,rfl,rfl,rfl,L6 _,λb aU j a f=>(r b j a).1.trans (r aU j f).1.symm,λb e=>?_,λb j a _=>(by cases a),λ_=>I.hd,Around.frames_deeper g.frames,.inr ⟨rfl,rfl⟩,λf b=>(nomatch b),g.bs,g.bsz,λf _ _=>(λb=>(nomatch b)),λf b=>(nomatch b),g.funs,g.frf⟩,rfl,g.bare,Un.kept v,⟨_,aP,λi b F z A a9=>?_⟩,λb j N=>?_,g.hok.fresh (L6 _),λb j N=>?_,λB a0=>(nomatch a0),g.hok.kept v,rfl⟩
     ·have e:(bA x y).names.lookup b=some .cell∨(bA x y).names.lookup b=some .free:=e;refine⟨d,?_⟩;show([(y,d)]:List (Str×Addr)).lookup b=some d;by_cases w:(b==y)=true;·simp only[List.lookup,w]
      ·exfalso;have M:(b==y)=false:=by simpa using w
       simp only[List.lookup,M]at e;by_cases ac:(b==x)=true;·simp only[ac]at e;rcases e with c|c<;>cases c
       ·have a1:(b==x)=false:=by simpa using ac
        simp only[a1]at e;rcases e with c|c<;>cases c
     ·match i,z,A with
      |0,z,A=>
       have c:x=b:=Lv z;have O:V.ref q=F:=Lv (Lv A);subst c O;refine⟨.ref q,rfl,.inl ⟨?_,?_⟩⟩;·show([(x,NameKind.local),(y,.free)]:List (Str×NameKind)).lookup x=some .local;simp[List.lookup]
       ·show([(x,Value.ref q)].reverse).lookup x=some (.ref q);simp[List.lookup]|1,z,A=>
       have c:y=b:=Lv z;have O:V.ref dd=F:=Lv (Lv A);subst c O;refine⟨.ref dd,rfl,.inr ⟨.inr ?_,d,?_,?_⟩⟩;·show([(x,NameKind.local),(y,.free)]:List (Str×NameKind)).lookup y=some .free;simp only[List.lookup,T];simp
       ·show([(y,d)]:List (Str×Addr)).lookup y=some d;simp[List.lookup]
       ·obtain⟨h,Q,S⟩:=U;exact⟨h,v _ _ Q,S⟩
     ·obtain⟨_,rfl⟩:=r b j N;obtain⟨h,Q,S⟩:=U;exact⟨_,h,v _ _ Q,S⟩
     ·obtain⟨_,rfl⟩:=r b j N;exact am
    have a2:PE (FU X x y o s H n C u d) (.Subscript (.Name y p1) (.Name x p2) p3) (CJ (Be 1) (Be 0)):=by
     refine d6 (by have:=I.un;show n.units+3+1<cLine;lia) (ym (i:=1) rfl ?_ av aA) (ym (i:=0) rfl ?_ ar ax) (λ_ _=>rfl);·refine .inr (.inr ?_);show([(x,NameKind.local),(y,.free)]:List (Str×NameKind)).lookup y=some .free;simp only[List.lookup,T];simp
     ·refine .inl ?_;show([(x,NameKind.local),(y,.free)]:List (Str×NameKind)).lookup x=some .local;simp[List.lookup]
    refine PySem.W.kla_codeExpr (Mb (a2 [] _ _ H E aT ⟨.ref dd,rfl,.ref q,rfl,dd,p,rfl,ap,J⟩) (λm L a3=>?_) λ_ _ b=>False.elim b);obtain⟨F,a4,G,a5,a6⟩:=a3;exact⟨m,rfl,F,a4,G.os,G.bare,G.base,G.hok,a5,a6⟩
 ·obtain⟨m,rfl,a7⟩:=J;exact l.after a7)
theorem iq{g:Heap}{k a:Addr}{h:Obj}:(a,h)∈(Att.ledger g L d).filter (λi=>decide (i.1≠k))↔a≠L∧a≠d∧a≠k∧g.get? a=some h:=by
 rw[Lr,Att.yG];constructor;·rintro⟨⟨b,c,e⟩,f⟩;exact⟨b,c,KU f,e⟩
 ·rintro⟨b,c,e,f⟩;exact⟨⟨b,c,f⟩,LF e⟩
structure FV(X:Cx)(pins:List (Addr×Obj))(H:Hp)(D:Addr):Prop where
 n:H D=none
 l:D≠X.env.locals
 f:D∉X.fs
 s:X.s_0.heap.objs.size≤D
 c:∀x c,X.env.cells.lookup x=some c→c≠D
 p:∀q∈X.pn++pins,q.1≠D
theorem Inv.AZ(a:Inv X pins σ H s){D:Addr}(b:s.heap.objs.size≤D):FV X pins H D where
 n:=a.hok.fresh b;l:=λd=>absurd (Kw a.lt (d▸b)) (LP _);f:=a.nofs b;s:=LY a.sz b;c:=λx e g d=>by obtain⟨m,o,h,_⟩:=a.cell x e g;exact absurd (Kw (LU h) (d▸b)) (LP _)
 p:=λi j d=>absurd (Kw (LU (a.pin i j).1) (d▸b)) (LP _)
theorem Dd{ar:Around}{D f:Addr}{as:List Addr}{ks:List Int}{a6:Nat}{P:PySem.Fin→Shared→Prop}(av:Inv X pins σ H s)(T:s.heap.get? D=some (seqObj "list" (as.map Value.ref).toArray a6))(j:FV X pins H D)(ax:ks.length=as.length)(F:as.length≤sizeLine)(a7:∀(N:Nat)(a:Addr)(k:Int)(aA:List (Addr×Obj))(O:Hp)(i:Shared),as[N]?=some a→ks[N]?=some k→au H O→Inv X (pins++aA) σ O i→wpAny (model X.prog X.w) ar (call (.ref f) [.ref a]) (EP X (pins++aA) σ λU a8=>U=.int k∧a8=O) (λ_ _=>False) i)(a9:∀(G:List (Int×Addr))(i:Shared),G.Perm (ks.zip as)→(G.Pairwise λx y=>x.1≤y.1)→Inv X pins σ (upd H D (.lst ((G.map (·.2)).map V.ref))) i→P (.done (.ret .none)) i):wpAny (model X.prog X.w) ar (ksk_tree D (.ref f) false) P E s:=by f_assign(
 have bd:(as.map Value.ref).toArray.size≤sizeLine:=by rw[KP,Ln];exact F
 unfold ksk_tree;refine Ma (listItems_at T rfl (Ma (listUpdate_at T rfl ?_ bd (L7 _))));obtain⟨e1,Y⟩:∃e1,(s.heap.update D (Obj.mapSeq λ_=>(#[]:Array Value))).get? D=some (seqObj "list" #[] e1):=⟨_,get?_update_seq T λ_=>#[]⟩;have bi:Inv X pins σ H {s with heap:=s.heap.update D (Obj.mapSeq λ_=>(#[]:Array Value))}:=av.turned (t':=s.toks) (λb h r e=>(JL _ _ (Mg r)).trans e) j.n j.l (.inr j.s) j.c j.p;refine Ma (seqEpoch_at Y rfl (Ma (wpAny_newTuple ?_ (by simpa using F))));have Z:=bi.kept (t':=s.toks) (h':=(s.heap.update D (Obj.mapSeq λ_=>(#[]:Array Value))).push (seqObj "tuple" (as.map Value.ref).toArray 0)) λb h e=>JK _ e;refine Ma (wpAny_newList ?_ (L7 _));have cl:D<(s.heap.update D (Obj.mapSeq λ_=>(#[]:Array Value))).objs.size:=LU Y;generalize bj:(s.heap.update D (Obj.mapSeq λ_=>(#[]:Array Value))).push (seqObj "tuple" (as.map Value.ref).toArray 0)=d at Z;have aE:d.get? D=some (seqObj "list" #[] e1):=by rw[←bj];exact JK _ Y
 have ac:D≠d.objs.size:=L3 (LU aE);have ah:=Z.lnew (t':=s.toks) (ys:=[]) (its:=[]) .nil (L7 _);have z:=Z.AZ (D:=d.objs.size) (L6 _);have bl:Inv X (pins++[(D,seqObj "list" #[] e1)]) σ (upd H d.objs.size (.lst [])) {s with heap:=d.push {cls:=.type "list",data:=.seq ([]:List Value).toArray},toks:=s.toks}:=by
  refine ah.oj λI g=>?_;rcases Lq.mp g with g|g;·exact ah.pin I (JW _ g)
  ·rw[Kt.mp g];exact⟨JK _ aE,by rw[ak ac];exact j.n,j.l,j.f,λU A=>nomatch A⟩
 clear ah;refine LS ?_;show wpAny _ _ (ksk_rest D (.ref f) false (as.map Value.ref).toArray e1 (.ref d.objs.size)) _ _ _;unfold ksk_rest;refine Ma (wpAny_rule ?_);rw[List.forIn_toArray];refine Ma (ksk_fold (λN i=>Inv X (pins++[(D,seqObj "list" #[] e1)]) σ (upd H d.objs.size (.lst ((ks.take N).map V.int))) i) (as.map Value.ref) 0 _ bl ?_ ?_)
 ·intro p x i hx v;rw[Nat.zero_add]at v⊢;rw[KL]at hx;obtain⟨a,aI,rfl⟩:=JQ.mp hx;have cm:p<as.length:=(Jx.mp aI).1;have aK:ks[p]?=some ks[p]:=JA (by lia);refine Ma (LR (Mb (a7 p a _ _ _ i aI aK (au.new z.n) v) (λQ bm bn=>?_) λ_ _ A=>A.elim));obtain⟨U,O,aM,rv,rfl,rfl⟩:=bn;obtain⟨t,rfl⟩:=rv;obtain⟨A,its,m,al,aN,e⟩:=aM.lstM (l:=d.objs.size) aj;have co:its.length≤as.length:=by rw[←aN,Ln,K_];lia
  refine Ma (listUpdate_at e rfl ?_ (by rw[KP];lia) (by rw[Array.size_push,KP];lia));refine Md ⟨rfl,?_⟩;have am:=aM.lset (t':=bm.toks) (l:=d.objs.size) (f:=(·.push (Value.int ks[p] t))) (its':=its++[Value.int ks[p] t]) (ys:=(ks.take p).map V.int++[V.int ks[p]]) aj e (by simp) (al.append (.cons ⟨t,rfl⟩ .nil)) (by rw[Kr,Ln,K_,List.length_singleton];have:as.length≤sizeLine:=F;lia);rw[kU]at am;have bv:(ks.take p).map V.int++[V.int ks[p]]=(ks.take (p+1)).map V.int:=by rw[take_snoc aK,Lp];rfl
  rw[bv]at am;exact am
 ·intro i v;rw[Nat.zero_add,Ln,←ax,Lb]at v;obtain⟨A,its,m,al,aN,e⟩:=v.lstM (l:=d.objs.size) aj;refine Ma (listItems_at e rfl ?_);obtain⟨bP,aP,_⟩:=id v.loc;have bT:=v.pin (D,seqObj "list" #[] e1) (JW _ (JW _ (List.mem_singleton_self _)));have b1:d.objs.size≠X.env.locals:=z.l;refine ksk_end_Any (h₀:=Att.ve i.heap) (L:=X.env.locals) (m:=bP) (news:=(Att.ledger i.heap X.env.locals D).filter λI=>decide (I.1≠d.objs.size)) (kS:=d.objs.size) (e:=m) (e1:=e1) (b:=false) (kz:=ks) (vs:=as.map Value.ref) (Att.GY aP) ?_ ac.symm (λI g=>(iq.mp g).2.2.1) (λI g=>(iq.mp g).2.1) (by simpa using al.ints) (by rw[Ln];exact ax) (by rw[Ln];exact F) λaR b2 aT aU a0 a1 b3=>?_
  ·rintro⟨b,h⟩g;rcases Lq.mp g with g|g;·obtain⟨n,u,R,an⟩:=iq.mp g;exact⟨an,n,Att.i_ _ _⟩
   ·rcases LN.mp g with A|g;·cases A;exact⟨e,b1,Att.i_ _ _⟩
    ·rw[Kt.mp g];exact⟨bT.1,j.l,Att.i_ _ _⟩
  · obtain⟨G,g,b4,a2⟩:=b3;have kp:∀b h,b≠X.env.locals→b≠D→b≠d.objs.size→i.heap.get? b=some h→aR.get? b=some h:=λb h n u R an=>(a1 (b,h) (J0 _ (iq.mpr ⟨n,u,R,an⟩))).1;have b5:aR.get? D=some (seqObj "list" aT aU):=(a1 _ (Ks ..)).1;obtain⟨B,a3,b6⟩:∃a4:List (Int×Addr),a4.Perm (ks.zip as)∧G=a4.map λc=>(c.1,Value.ref c.2):=by
      have b7:ks.zip (as.map Value.ref)=(ks.zip as).map λc=>(c.1,Value.ref c.2):=by rw[List.zip_map_right];rfl
      rw[b7]at g;exact perm_unmap g
    subst b6;have S:Inv X pins σ (upd H d.objs.size (.lst (ks.map V.int))) i:=v.iU;have b8:B.length=as.length:=by have:=a3.length_eq;rw[List.length_zip]at this;lia
    refine a9 B _ a3 ?_ ?_;·rw[KO]at a2;exact a2
    ·have own:∀b x,upd H D (.lst ((B.map (·.2)).map V.ref)) b=some x→b≠D→upd H d.objs.size (.lst (ks.map V.int)) b=some x∧b≠d.objs.size∧b≠X.env.locals:=λb x c r=>by rw[ak r]at c;have n:b≠d.objs.size:=ay c z.n;refine⟨by rw[ak n];exact c,n,λw=>?_⟩;have:=av.free;rw[←w,c]at this;cases this
     have J:∀b x,upd H d.objs.size (.lst (ks.map V.int)) b=some x→b≠d.objs.size→upd H D (.lst ((B.map (·.2)).map V.ref)) b=some x:=λb x c r=>by rw[ak r]at c;rw[ak (ay c j.n)];exact c
     refine S.step (g':=i.gens) (d':=i.drawn) (t':=b2) (ch:=[D,d.objs.size]) (λb r=>?_) (λb h ap b9 q n u=>?_) (λb h ap b9 q n u=>?_) (λb h q n u=>?_) (λb h q n=>?_) (λb ca c=>J b _ c λw=>?_) (λb h Q c=>J b _ c λw=>?_) (λb cp c=>⟨#[],(J b _ c (λw=>by rw[w,aj]at c;cases c)).trans (by simp)⟩) (λcr cc=>?_) (λb x c=>?_) S.bare
     ·rcases LN.mp r with rfl|r;·exact⟨.inr j.s,j.l,j.c,j.p⟩
      ·rw[Kt.mp r];exact⟨.inr z.s,z.l,z.c,z.p⟩
     ·exact kp b h ap (λw=>q (by simp[w])) (λw=>q (by simp[w])) n
     ·exact⟨h.slots,kp b h ap (λw=>q (by simp[w])) (λw=>q (by simp[w])) n⟩
     ·rw[ak (λw=>q (by simp[w]))];rw[ak (λw=>q (by simp[w]))]at u;exact u
     ·by_cases w:b=X.env.locals;·obtain⟨cd,cs,ct,ce,_⟩:=a0.ns;exact⟨cd,by rw[w];exact ce⟩
      ·exact⟨h,kp b h w (λw=>q (by simp[w])) (λw=>q (by simp[w])) n⟩
     ·rw[w,aj]at c;cases c
     ·rw[w,aj]at c;cases c
     ·rw[cc.eq_nsMap,←aP.eq_nsMap];exact a0.ns
     ·by_cases w:b=D
      ·subst w;rw[aj]at c;cases c;refine⟨by rw[Ln,Ln,b8];exact F,aT.toList,aU,?_,by rw[b5,Array.toArray_toList]⟩;have cj:List.map Prod.snd (B.map λc=>(c.1,Value.ref c.2))=(B.map (·.2)).map Value.ref:=by rw[LV,LV];rfl
       rw[b4,cj];exact lz _
      ·obtain⟨n,u,R⟩:=own b x c w;refine(S.hok b x n).stay (λC Q o a5=>?_) (λC o=>J C _ o λw=>?_) (λC ca o=>J C _ o λw=>?_)
       ·rcases o with rfl|o;·exact kp C Q R w u a5
        ·refine kp C Q (λM=>?_) (λM=>?_) (λM=>?_) a5;·have:=S.free;rw[←M,o]at this;cases this
         ·rw[M,ak ac,j.n]at o;cases o
         ·rw[M,aj]at o;cases o
       ·rw[w,aj]at o;cases o
       ·rw[w,aj]at o;cases o)
def cz(t:Addr)(H c:Hp):Prop:=∀a b,H a=some b→a≠t→c a=some b
theorem cz.same{t:Addr}(a:cz t H H')(b:au H' H2):cz t H H2:=λx c d e=>b _ _ (a x c d e)
def BMain(c:Heap)(mg:Str→Option Value):Prop:=∃b a,mg "__builtins__"=some (.ref b)∧b≠builtinsNs∧c.get? b=some a∧a.cls=.type "module"∧a.dict=some builtinsNs∧a.data=.plain
theorem De{F G I:Pos}{J TP:Addr}{Z:Value→Shared→Prop}(f:Inv X pins σ H s)(aK:BMain X.base X.mg)(ac:X.env.code=.ref c0)(aM:PySem.W.codeHdIn X.K c0 TP=true)(aN:X.env.qual++"<lambda>"=Mc.lamQual)(ah:closureFor (bA "each" "depths") X.env=pure [(("depths":Str),J)])(aP:Mc.cy H TP)(al:∀(am c:Addr)(l aR:Value)(r:Hp)(an:Shared),Inv X (pins++[(am,PySem.W.kla_obj "<lambda>" Mc.lamQual (gG "each" F) (.Subscript (.Name "depths" G) (.Name "each" I) p3) (bA "each" "depths") [("depths",J)] aR c l)]) σ r an→r c=some (Mc.Ai c)→cz TP H r→Mc.cy r TP→(∀a,r a=none→H a=none)→Z (.ref am) an):wpAny (model X.prog X.w) X.A (eval (.Lambda (gG "each" F) (.Subscript (.Name "depths" G) (.Name "each" I) p3) (bA "each" "depths") Mc.kg) X.env) Z E s:=by f_assign(
 obtain⟨L,g,u,m⟩:=aP;have v:s.heap.get? TP=some (PySem.W.tabObj L):=f.hok TP _ g;have ap:PySem.W.CodeHd s.heap c0 TP:=PySem.W.codeHd_of_K f.kIn aM;have M:=f.mod.glob.keeps f.bk;have aT:mainGlobals≠TP:=λb=>by obtain⟨e,aU,a0,d,N,_⟩:=M;rw[b,v]at d;cases d;cases N
 have ar:s.heap.BuiltinsAt X.mg TP:=by
  obtain⟨a1,a2,a3,a4,a5,av,a6,Q⟩:=aK;have d:=f.bk _ _ a5;refine⟨a1,a2,a3,a4,λb=>?_,λb=>?_,d,av,a6,Q⟩;·obtain⟨e,aU,a0,a7,N,_⟩:=M;rw[b,a7]at d;cases d;rw[N]at Q;cases Q
  ·rw[b,v]at d;cases d;cases av
 refine PySem.W.kla_eval rfl ?_;rw[aN];rcases m with m|⟨c,m,R⟩
 ·refine PySem.W.kla_makeFunction (mg:=X.mg) ah f.ok.glob M ac ap v u m aT ar λc l h' p y S b8 T ax=>?_;have aA:c≠TP:=λn=>absurd (Kw (LU v) (n▸S)) (LP _);have aE:H c=none:=f.hok.fresh S;have a8:X.env.locals≠TP:=λn=>by have:=f.free;rw[n,g]at this;cases this
  have z:Inv X pins σ (upd (upd H TP (.tbl (L++#[rawInt Mc.kg.line,rawInt Mc.kg.col,.ref c]))) c (Mc.Ai c)) {s with heap:=h',toks:=p}:=by
   have at1:∀a x,H a=some x→a≠TP→upd (upd H TP (.tbl (L++#[rawInt Mc.kg.line,rawInt Mc.kg.col,.ref c]))) c (Mc.Ai c) a=some x:=λa x d O=>by rw[ak (ay d aE),ak O];exact d
   refine f.step (g':=s.gens) (d':=s.drawn) (t':=p) (ch:=[]) (λa A=>nomatch A) (λa e a9 bd U o j=>?_) (λa e a9 bd U o j=>⟨e.slots,?_⟩) (λa e U o j=>?_) (λa e U o=>?_) (λa bi b=>at1 a _ b λw=>?_) (λa e aI b=>at1 a _ b λw=>?_) (λa b9 b=>?_) (λca bj=>?_) (λa x b=>?_) f.bare;·exact y a e (λw=>by rw[w,g]at j;cases j) o
   ·exact y a e (λw=>by rw[w,g]at j;cases j) o
   ·have bl:a≠c:=λw=>absurd (Kw (LU o) (w▸S)) (LP _);rw[ak bl,ak (λw=>by rw[w,g]at j;cases j)];exact j
   ·by_cases w:a=TP;·exact⟨_,by rw[w];exact ax⟩
    ·exact⟨e,y a e w o⟩
   ·rw[w,g]at b;cases b
   ·rw[w,g]at b;cases b
   ·by_cases w:a=TP;·subst w;rw[g]at b;cases b;exact⟨_,by rw[ak aA.symm,aj]⟩
    ·exact⟨#[],(at1 a _ b w).trans (by simp)⟩
   ·exact bj.extBut y a8
   ·by_cases w:a=c;·subst w;rw[aj]at b;cases b;obtain⟨cc,cd,ce,t,bm,bn,N,cj⟩:=id T;cases bm;refine⟨T,⟨_,bn⟩,λcl cm bv k=>?_⟩;obtain⟨co,bP,bT,b1,b2,b3,b4⟩:=bv;cases b2;exact⟨_,bP,bT,b1,rfl,k _ b3,b4⟩
    ·rw[ak w]at b;by_cases Y:a=TP;·subst Y;rw[aj]at b;cases b;exact ax
     ·rw[ak Y]at b;refine(f.hok a x b).stay (λB aI h b5=>y B aI (λq=>?_) b5) (λB h=>at1 B _ h λq=>?_) (λB bi h=>at1 B _ h λq=>?_)
      ·rcases h with rfl|h;·exact Y q
       ·rw[q,g]at h;cases h
      ·rw[q,g]at h;cases h
      ·rw[q,g]at h;cases h
  have C:=z.kept (t':=p) (h':=h'.push (PySem.W.kla_obj "<lambda>" Mc.lamQual (gG "each" F) (.Subscript (.Name "depths" G) (.Name "each" I) p3) (bA "each" "depths") [("depths",J)] ((X.mg "__name__").getD .none) c l)) λa e d=>JK _ d;have nf:=z.AZ (D:=h'.objs.size) (L6 _);refine al h'.objs.size c l ((X.mg "__name__").getD .none) _ _ (C.oj λb i=>?_) aj (λa e d O=>?_) ⟨_,by rw[ak aA.symm,aj],?_,.inr ⟨c,?_,aj⟩⟩ λa A=>?_
  ·rcases Lq.mp i with i|i;·exact C.pin b (JW _ i)
   ·rw[Kt.mp i];exact⟨Kc _ rfl,nf.n,nf.l,nf.f,λb6 n=>nomatch n⟩
  ·rw[ak (ay d aE),ak O];exact d
  ·rw[Array.toList_append];exact ny _ u
  ·rw[Array.toList_append];exact codeAmong_snoc _ u m
  ·have:=(ux (ux A).1).1;exact this
 ·have T:s.heap.CodeRec (.ref c) Mc.lamQual:=(f.hok c _ R).1;refine PySem.W.kla_makeFunctionHit (mg:=X.mg) ah f.ok.glob M ac ap v u m ar λl h' p b7 cp=>?_;have z:Inv X pins σ H {s with heap:=h',toks:=p}:=f.kept b7;have nf:=z.AZ (D:=h'.objs.size) (L6 _);have C:=z.kept (t':=p) (h':=h'.push (PySem.W.kla_obj "<lambda>" Mc.lamQual (gG "each" F) (.Subscript (.Name "depths" G) (.Name "each" I) p3) (bA "each" "depths") [("depths",J)] ((X.mg "__name__").getD .none) c l)) λa e d=>JK _ d;refine al h'.objs.size c l ((X.mg "__name__").getD .none) H _ (C.oj λb i=>?_) R (λa e d O=>d) ⟨L,g,u,.inr ⟨c,m,R⟩⟩ λa A=>A;rcases Lq.mp i with i|i;·exact C.pin b (JW _ i)
  ·rw[Kt.mp i];exact⟨Kc _ rfl,nf.n,nf.l,nf.f,λb6 n=>nomatch n⟩)
def Df(TP:Addr)(n:Nat)(o:TE):TE:=λσ H p=>o σ H λx b=>∃(e i:Addr)(j:List (List Key×V))(d:List (List Int))(l:List Int→Int),x=.ref e∧Rd b e (.dT j)∧e≠TP∧j.map (·.1)=d.map (λa=>a.map Sum.inl)∧(∀a∈d,a≠[])∧σ[n]?=some (some (.ref i))∧(∀a∈d,∀m f,cz TP b f→f m=some (.tup (a.map V.int))→gm f i (.ref m) (some (.int (l a))))∧Mc.cy b TP∧∀(c:Hp)(as:List Addr)(g:List (List Int))(h:Addr),cz TP b c→Mc.cy c TP→g.Perm d→((g.map l).Pairwise (·≤·))→aY c as g→b h=none→c h=some (.lst (as.map V.ref))→p (.ref h) c
theorem cz.rd{t:Addr}(a:cz t H H')(b:Rd H d u)(c:d≠t):Rd H' d u:=by
 rcases b with b|⟨o,b⟩;·exact .inl (a _ _ b c)
 ·exact .inr ⟨o,a _ _ b c⟩
theorem cy.new{t a:Addr}(b:Mc.cy H t)(c:H a=none):Mc.cy (upd H a o) t:=by refine b.keep ?_ λf g d=>au.new c _ _ d;obtain⟨h,e,_⟩:=b;rw[ak (ay e c)]
theorem nz{d e:Type}(c:d→e):∀b:List d,(b.map c).zip b=b.map λx=>(c x,x)|[]=>rfl|a::b=>by rw[LM,List.zip_cons_cons,nz c b,LM]
theorem Dg{ax kp j L M N:Pos}{i:Nat}{cc TP:Addr}{k':Nat}(aA:BMain X.base X.mg)(aE:X.env.code=.ref c0)(aI:PySem.W.codeHdIn X.K c0 TP=true)(aK:X.env.qual++"<lambda>"=Mc.lamQual)(aM:closureFor (bA "each" "depths") X.env=pure [(("depths":Str),cc)])(O:X.env.cells.lookup ("depths":Str)=some cc)(aN:X.env.kindOf "depths"=some .cell)(aP:X.N[i]?=some "depths")(aR:Vis X.env.scope "depths")(aT:X.calm=true)(aU:cu k' X.A)(a0:3≤k')(a1:Gl X "sorted")(a2:X.mg "sorted"=none)(a3:PE X e td)(r:starEach [e] X.env=[(false,eval e X.env)]):PE X (.Call (.Name "sorted" ax) [e] [⟨some "key",.Lambda (gG "each" j) (.Subscript (.Name "depths" L) (.Name "each" M) p3) (bA "each" "depths") Mc.kg,kp⟩] N) (Df TP i td):=by f_assign(
 intro pins s σ H a4 Q a5;refine Kz (iy Q a1 a2 lg ?_);have v:PA X [e] (rA td rq):=aa a3 af r;refine callWith_kw (thn (v N pins s σ H (λz l=>match z with|[x]=>(∃(d n:Addr)(B:List (List Key×V))(o:List (List Int))(f:List Int→Int),x=.ref d∧Rd l d (.dT B)∧d≠TP∧B.map (·.1)=o.map (λc=>c.map Sum.inl)∧(∀c∈o,c≠[])∧σ[i]?=some (some (.ref n))∧(∀c∈o,∀p b,cz TP l b→b p=some (.tup (c.map V.int))→gm b n (.ref p) (some (.int (f c))))∧Mc.cy l TP∧∀(g:Hp)(as:List Addr)(F:List (List Int))(j:Addr),cz TP l g→Mc.cy g TP→F.Perm o→((F.map f).Pairwise (·≤·))→aY g as F→l j=none→g j=some (.lst (as.map V.ref))→a4 (.ref j) g)|_=>False) Q a5) λco cp x=>?_) ?_ ?_ ?_ ?_
 ·obtain⟨z,l,a6,a7,x⟩:=x;obtain⟨y,rfl⟩:∃y,z=[y]:=by match z,x with|[y],_=>exact⟨y,rfl⟩
  obtain⟨d,n,B,o,f,rfl,a8,a9,bd,bi,bj,bl,bm,p⟩:=x;rw[aZ.ref1 a7];refine kws_cons (De a6 aA aE aI aK aM bm λR c bn bv b cr C bP sT bT b1=>kws_nil ?_);show wpAny _ _ (call (.builtin "sorted") [.ref d] [(Str.ofString "key",.ref R)]) _ _ _;have S:=sT.rd a8 a9;obtain⟨es,ep,rd,T,ent⟩:=oJ (S.ok C.hok);have b2:B.length≤sizeLine:=(S.ok C.hok).1;refine call_function_entry_kw kind_sorted plain_sorted entry_sorted (ksk_s1 _ _) ?_;unfold Builtin.«sorted»;refine Ma (m:=checkCount "sorted" 1 1 _) (Md (Ma (PySem.W.kdu_collect (A:=X.A.in1) (rR (prog:=X.prog) (w:=X.w) (d:=d) (es:=es) (ep:=ep)) (C.ok.hd aT) rd (by rw[T];exact b2) λh' U acc b3 Y=>?_)));obtain⟨as,v,b4⟩:=uw T ent bd Y;obtain⟨Z,ac⟩:=b4.all bi;have ah:as.length≤sizeLine:=by have E:=Me List.length v;have al:=Y.1;simp only[Array.length_toList,List.length_map]at E;lia
  have am:=C.kept (h':=h') (t':=U) b3;rw[v];refine Ma (wpAny_newList ?_ (by rw[Ln];exact ah));have b5:=am.kept (t':=U) (h':=h'.push {cls:=.type "list",data:=.seq (as.map Value.ref).toArray}) λcs ct p=>JK _ p;have an:(h'.push {cls:=.type "list",data:=.seq (as.map Value.ref).toArray}).get? h'.objs.size=some (seqObj "list" (as.map Value.ref).toArray 0):=Kc _ rfl;have u:=am.AZ (D:=h'.objs.size) (L6 _);refine Ma (LS (wpAny_call_entry_kw slot_list_sort ⟨_,an,rfl⟩ entry_list_sort ?_ (ksk_l1 _ _)));rw[ksk_t1];refine Dd (ks:=as.map λa=>f (cOf b a)) b5 an u (by rw[Ln]) ah (λcL a k cT g G I ap J h=>?_) (λc1 G ar r h=>⟨_,rfl,?_⟩)
  ·rw[KL,I]at ap;have b6:f (cOf b a)=k:=Lv ap;have b7:=Z a (J_ I);have b8:cOf b a∈o:=by rw[←ac];exact List.mem_map_of_mem (J_ I)
   obtain⟨m,c3,b9⟩:=h.loc;obtain⟨ca,cd,lk⟩:=b9 i "depths" (.ref n) aP bj aR;obtain rfl:ca=Value.ref n:=cd;have ce:G.heap.IsCell cc (some (.ref n)):=by
    rcases lk with⟨k1,_⟩|⟨_,c2,k2,k3⟩;·rw[aN]at k1;cases k1
    ·rw[O]at k2;cases k2;exact k3
   have ch:=h.pin (R,PySem.W.kla_obj "<lambda>" Mc.lamQual (gG "each" j) (.Subscript (.Name "depths" L) (.Name "each" M) p3) (bA "each" "depths") [("depths",cc)] bv c bn) (JW _ (List.mem_append_left _ (JW _ (List.mem_singleton_self _))));have cj:cu 1 X.A.in1.in1:=(aU.mono a0).in1.in1;exact Dc h rfl rfl rfl cj ch.1 (h.hok c _ (J _ _ bP)).1 ce (h.freeC _ _ O) (show RelV (.ref a) (.ref a)from rfl) (bl _ b8 a g (sT.same J) (J _ _ b7.at)) ⟨by rw[b6],rfl⟩ (by decide) (by decide) (by decide) (by decide) λ_ _ _ _ _ _=>rfl
  ·rw[nz]at ar;obtain⟨q,E,al⟩:=perm_unmap ar;subst al;have av:Inv X pins σ (upd b h'.objs.size (.lst (((q.map λx=>(f (cOf b x),x)).map (·.2)).map V.ref))) G:=h.iU;have cl:(q.map λx=>(f (cOf b x),x)).map (·.2)=q:=by rw[LV];exact(Kh (λ_ _=>rfl)).trans (L4 q)
   rw[cl]at av;refine Md ⟨_,rfl,.ref h'.objs.size,_,av,rfl,p _ q (q.map (cOf b)) _ (sT.same (au.new u.n)) (cy.new bT u.n) ?_ ?_ ((lB λa cm=>Z a (E.mem_iff.mp cm)).same (au.new u.n)) (b1 _ u.n) aj⟩;·rw[←ac];exact E.map _
   ·rw[KO]at r;rw[LV,KO];exact r
 all_goals first|exact(by rw[r];rfl)|rfl)
end
section
variable {prog : Program} {w : World} {A : Around} {E : Value → Shared → Prop} {s : Shared}
theorem vC{id:String}{g:Builtin}{b:List Value}{c:List (Str×Value)}{d:Value→Shared→Prop}(j:builtinKind id=none)(l:plainId id=true)(m:entryFor table id=some g)(n:argsOk id ⟨b,c⟩)(h:wpAny (model prog w) A.in1 (g ⟨b,c⟩) (λo a=>match o with|.done p=>(match(Except.ok p:Result)with|.ok (.ret e)=>d e a|.ok _=>False|.error f=>E f a)|.again i=>i.quiet=true∧codeAny (model prog w) A i (λq a=>match q with|.ok (.ret e)=>d e a|.ok _=>False|.error f=>E f a) a) E s):wpAny (model prog w) A (call (.builtin id) b c) d E s:=by refine wpAny_call (codeAny_call_builtin l m ?_);simp only[checkBuiltinCall,j];cases hsig:Manifest.signature? id with|none=>exact Md h|some r=>
 have ok:Bind.checkArgs id r ⟨b,c⟩=pure ():=by simpa only[argsOk,hsig]using n
 simp only[ok];exact Md h
variable {R : Result → Shared → Prop} {I : Addr} {fp wr : List Addr} {n : Nat} {P : Nat → Value → Prop} {St : Nat → Heap → Prop}
theorem BD(W:Walks prog w A.in1 I fp wr n P St)(val:Nat→Int)(ah:∀g d,P g d→∃t,d=.int (val g) t)(e:Addr)(Y:e∉fp)(N:Value):∀(k c:Nat)(s:Shared)(v:Array Value)(J:Nat),n-c=k→c≤n→St c s.heap→((c=0∧v=#[])∨∃a i,a<c∧P a i∧v=#[i,i]∧∀g,g<c→val g≤val a)→s.heap.get? e=some {cls:=.type "list",data:=.seq v J}→(∀d o p,((n=0∧d=N)∨∃a,a<n∧P a d∧∀g,g<n→val g≤val a)→(∀a f,a∉e::wr→s.heap.get? a=some f→o.get? a=some f)→R (.ok (.ret d)) {s with heap:=o,toks:=p})→codeAny (model prog w) A (.builtin "max.loop" ⟨[.ref I,.none,.ref e],[(Str.ofString "default",N)]⟩) R s:=by f_assign(
 have O:e∉wr:=λq=>Y (W.sub _ q);have Q:(toString "max"++toString ".loop":String)="max.loop":=by decide
 have S:∀{a:Addr},a∉e::wr→e≠a:=λb q=>b (by rw[q];exact Ks);have x:∀{a:Addr},a∉e::wr→a∉wr:=λb q=>b (J0 _ q);have Z:∀{a:Addr},a∈fp→e≠a:=λb q=>Y (by rw[q];exact b);intro k;induction k with|zero=>
  intro c s v J al am y b l r;obtain rfl:c=n:=by omega
  refine codeAny_builtin F.entry_max_loop ?_;rw[Around.under_plainId K6 _];rcases b with⟨h0,rfl⟩|⟨a,i,h1,h2,rfl,h3⟩;·refine Ma (m:=seqItems? (.ref e)) (LH l rfl ?_);refine Ma (m:=tryCatch (pyNext (.ref I)) _) (wpAny_tryCatch (W.done s _ _ y λo p j=>?_));refine Ma (wpAny_rule (Md ?_));exact r N o p (.inl ⟨h0,rfl⟩) λa f b h=>j a f (x b) h
  ·refine Ma (m:=seqItems? (.ref e)) (LH l rfl ?_);refine Ma (m:=tryCatch (pyNext (.ref I)) _) (wpAny_tryCatch (W.done s _ _ y λo p j=>?_));refine Ma (m:=updateSeq e (λ_=>#[])) (wpAny_updateSeq (j e _ O l) rfl (Ma (L9 (Md ?_))));exact r i _ p (.inr ⟨a,h1,h2,h3⟩) λa f b h=>(JL _ _ (S b)).trans (j a f (x b) h)|succ k T=>
  intro c s v J al am y b l r;have z:c<n:=by omega
  refine codeAny_builtin F.entry_max_loop ?_;rw[Around.under_plainId K6 _];rcases b with⟨h0,rfl⟩|⟨a,i,h1,h2,rfl,h3⟩
  ·refine Ma (m:=seqItems? (.ref e)) (LH l rfl ?_);refine Ma (m:=tryCatch (pyNext (.ref I)) _) (wpAny_tryCatch (W.item c s _ _ z y λd o p L M j=>?_));have u:=j e _ O l;refine Ma (m:=updateSeq e (λ_=>#[d,d])) (wpAny_updateSeq u rfl ?_);rw[Q];refine Md ⟨plainId_quiet K6 _,T (c+1) _ #[d,d] _ (by omega) z (W.frame _ _ _ M λa U f h=>(JL _ _ (Z U)).trans h) (.inr ⟨c,d,Le _,L,rfl,λg ac=>?_⟩) (JT _ u rfl) λB C D G H=>?_⟩
   ·have:g=c:=by omega
    rw[this];exact Int.le_refl _
   ·exact r B C D G λa f b h=>H a f b ((JL _ _ (S b)).trans (j a f (x b) h))
  ·refine Ma (m:=seqItems? (.ref e)) (LH l rfl ?_);refine Ma (m:=tryCatch (pyNext (.ref I)) _) (wpAny_tryCatch (W.item c s _ _ z y λd o p L M j=>?_));have u:=j e _ O l;refine Ma (m:=tryCatch (holding [d,d] (richCompare .Gt d i>>=_)) _) (wpAny_tryCatch (LS (Ma (CmpOf.ints_gt val ah c a d i _ _ _ L h2 ?_))));refine Ma (LS (K2 (Ma (L9 (Md ?_)))));by_cases b:val c>val a
   ·rw[Mj (LF b)];refine Ma (wpAny_updateSeq u rfl (Ma (L9 ?_)));rw[Q];refine Md ⟨plainId_quiet K6 _,T (c+1) _ #[d,d] _ (by omega) z (W.frame _ _ _ M λa U f h=>(JL _ _ (Z U)).trans h) (.inr ⟨c,d,Le _,L,rfl,λg ac=>?_⟩) (JT _ u rfl) λB C D G H=>?_⟩
    ·by_cases X:g=c;·rw[X];exact Int.le_refl _
     ·have:=h3 g (by omega);omega
    ·exact r B C D G λa f b h=>H a f b ((JL _ _ (S b)).trans (j a f (x b) h))
   ·rw[Mi (by simpa using b)];refine Ma (L9 ?_);rw[Q];refine Md ⟨plainId_quiet K6 _,T (c+1) _ #[i,i] J (by omega) z M (.inr ⟨a,i,KR h1,h2,rfl,λg ac=>?_⟩) u λB C D G H=>?_⟩
    ·by_cases X:g=c;·rw[X];omega
     ·exact h3 g (by omega)
    ·exact r B C D G λa f b h=>H a f b (j a f (x b) h))
theorem BE(a b:Value):argsOk "max" ⟨[a],[(Str.ofString "default",b)]⟩:=by unfold argsOk;kernel_rfl
theorem xp{f:Addr}{h:List Value}{e:List Int}{j:Value}{B:Value→Shared→Prop}(J:A.handled=none)(p:s.heap.IsList f h.toArray)(C:IntsAre h e)(L:∀c l q,((e=[]∧c=j)∨∃r t,c=.int r t∧r∈e∧∀a∈e,a≤r)→(∀d o,s.heap.get? d=some o→l.get? d=some o)→B c {s with heap:=l,toks:=q}):wpAny (model prog w) A (call (.builtin "max") [.ref f] [(Str.ofString "default",j)]) B E s:=by f_assign(
 have M:(toString "max"++toString ".loop":String)="max.loop":=by decide
 refine vC F.kind_max F.plain_max F.entry_max (BE _ _) ?_;refine Ma (m:=Builtin.Builtins.bindParams "max" ["key","default"] 0 ⟨[],[(Str.ofString "default",j)]⟩) (wpAny_of_eq (a:=[none,some j]) rfl (Ma (Md ?_)));have D:f<s.heap.objs.size:=by obtain⟨_,b,_⟩:=p;exact LU b
 refine Ma (wpAny_pyIter_list p ?_);refine Ma (KZ ?_);rw[M];have N:∀d∈[s.heap.objs.size,f],d<(s.heap.push {cls:=.type "list_iterator",data:=.fields #[.ref f,.int 0 0]}).objs.size:=λd u=>by
  rw[LA];rcases LN.mp u with b|u;·rw[b];exact Le _
  ·rw[Kt.mp u];exact KR D
 have G:∀(i:Nat)(c:Value),h.toArray[i]?=some c→∃t,c=Value.int (e.getD i 0) t:=λi c b=>by have rv:=i7 C;have H:=rv.length;rw[Ln]at H;rw[List.getElem?_toArray]at b;have X:=(Jx.mp b).1;obtain⟨Y,g,v⟩:=rv.get (i:=i) (x:=V.int (e.getD i 0)) (by rw[KL,Jt,JA (by lia)];rfl);rw[b]at g;cases g;exact v
 have H:h.length=e.length:=C.length;refine Md ⟨plainId_quiet K6 _,BD (Walks.list (A:=A.in1) J s.heap.objs.size f (L3 D) h.toArray) (λi=>e.getD i 0) G (s.heap.push {cls:=.type "list_iterator",data:=.fields #[.ref f,.int 0 0]}).objs.size (λy=>LP _ (N _ y)) j _ 0 _ #[] 0 rfl (L7 _) ⟨⟨_,JK _ (Kc _ rfl),rfl,rfl⟩,(p.push _).push _⟩ (.inl ⟨rfl,rfl⟩) (Kc _ rfl) λc l q O Q=>?_⟩;refine L c l q ?_ λd o b=>Q d o (λy=>?_) (JK _ (JK _ b))
 ·rcases O with⟨h0,g⟩|⟨d,g,v,h3⟩;·refine .inl ⟨?_,g⟩;rw[KP]at h0;exact JG.mp (by lia)
  ·rw[KP]at g h3;obtain⟨t,S⟩:=G d c v;refine .inr ⟨_,t,S,?_,λa T=>?_⟩;·rw[Jt,JA (show d<e.length by lia)];exact List.getElem_mem _
   ·obtain⟨i,U,b⟩:=List.getElem_of_mem T;have:=h3 i (by lia);rw[Jt,JA U]at this;rw[←b];exact this
 ·have lt:=LU b;rcases LN.mp y with z|z;·rw[z,LA]at lt;exact absurd lt (Nat.not_lt_of_le (Nat.le_succ _))
  ·rw[Kt.mp z]at lt;exact LP _ lt)
end
section
variable {X : Cx}
def G5(b:List V→V→Hp→VK→Prop)(t:TA)(c:TE):TE:=λa d e=>t a d λf g=>c a g λy h=>b f y h e
def Dh(X:Cx)(id:String)(k:Str)(i:List V→V→Hp→VK→Prop):Prop:=∀(a:List (Addr×Obj))(b:Shared)(c:St)(d:Hp)(e:List V)(f:List Value)(y:V)(g:Value)(h:VK),Inv X a c d b→aZ e f→RelV y g→i e y d h→wpAny (model X.prog X.w) X.A (call (.builtin id) f [(k,g)]) (EP X a c h) X.xe b
theorem uA{id:String}{k:Str}{a:Expr}{h kp d:Pos}{t:TA}{e:TE}{f:List V→V→Hp→VK→Prop}(i:Dh X id k f)(j:Gl X x)(l:X.mg x=none)(m:bootBuiltins x=some (.builtin id))(n:PA X [a] t)(o:PE X e2 e)(p:starEach [a] X.env=[(false,eval a X.env)]:=by rfl)(q:x≠"__name__":=by decide)(r:(x==("__debug__":Str))=false:=by decide):PE X (.Call (.Name x h) [a] [⟨some k,e2,kp⟩] d) (G5 f t e):=by
 intro b s c u v g z;refine Kz (iy g j l m ?_ q r);refine callWith_kw (thn (n d b s c u _ g z) λA B⟨C,D,E,F,G⟩=>kws_cons (thn (o b B c D _ E G) λH I⟨y,J,L,M,N⟩=>kws_nil ?_)) ?_ ?_ ?_ ?_;·exact i b I c J C A y H v L F M N
 all_goals first|exact(by rw[p];rfl)|rfl
def Ii(K:PySem.W.Frag):List V→V→Hp→VK→Prop:=λf y e g=>∃(a:Addr)(b:List Int),f=[V.ref a]∧SqL K e a (b.map V.int)∧∀c:V,((b=[]∧c=y)∨∃d,c=.int d∧d∈b∧∀h∈b,h≤d)→g c e
theorem G6(e:X.calm=true):Dh X "max" "default" (Ii X.K):=by
 intro j l m b n o y u Q I r ry h;obtain⟨a,p,rfl,f,c⟩:=h;obtain⟨q,rv,g,_⟩:=I.list f;rw[aZ.ref1 r];refine xp (I.ok.hd e) g.isList rv.ints λs v x i d=>?_;rcases i with⟨h1,rfl⟩|⟨M,t,rfl,h1,h2⟩;·exact⟨y,b,I.kept d,ry,c y (.inl ⟨h1,rfl⟩)⟩
 ·exact⟨.int M,b,I.kept d,⟨t,rfl⟩,c (.int M) (.inr ⟨M,rfl,h1,h2⟩)⟩
def Di:List V→V→Hp→VK→Prop:=λg y a h=>∃(d:Addr)(e:List (Key×V))(f:List Int),g=[V.ref d]∧y=.bl true∧Rd a d (.dK e)∧e.map (·.1)=f.map Sum.inl∧∀(b:List Int)(c:Addr),b.Perm f→b.Pairwise (·≥·)→a c=none→h (.ref c) (upd a c (.lst (b.map V.int)))
theorem E7{pins:List (Addr×Obj)}{σ:St}{g:Shared}{c:List (Key×V)}(x:bU X.prog X.w H g.heap d (.dK c)):∃(a:Array DictEntry)(f:Nat),gw g.heap d a f∧a.size=c.length∧∀(b:Nat)(k:Key)(h:V),c[b]?=some (k,h)→∃i,a[b]?=some i∧mO k i.key=true:=by f_assign(
 obtain⟨y,n,o,j,p,a,f,q,r,s,z,l,A⟩:=x;have u:=l.length;have B:c.length=o.length:=LQ j;rw[Ka]at u;refine⟨a,f,⟨n,p,q,r,s⟩,by lia,λb k h e=>?_⟩;obtain⟨C,v,D⟩:=CU j e;have m:b<a.size:=by have:=(Jx.mp e).1;lia
 have:=l.get? (e:=a[b]) (by simp[m]) v;exact⟨a[b],Jv m,this.1⟩)
theorem yW(H:X.calm=true):Dh X "sorted" "reverse" Di:=by f_assign(
 intro pins J σ j vs an y u Q I r ry h;obtain⟨d,b,l,rfl,rfl,L,n,M⟩:=h;obtain rfl:u=Value.bool true:=ry;have o:=L.ok I.hok;obtain⟨es,ep,rd,N,ent⟩:=E7 (pins:=pins) (σ:=σ) o;have O:b.length≤sizeLine:=o.1;rw[aZ.ref1 r];refine call_function_entry_kw kind_sorted plain_sorted entry_sorted (args_sorted_rev _ _) ?_;unfold Builtin.«sorted»;refine Ma (m:=checkCount "sorted" 1 1 _) (Md (Ma (PySem.W.kdu_collect (A:=X.A.in1) (rR (prog:=X.prog) (w:=X.w) (d:=d) (es:=es) (ep:=ep)) (I.ok.hd H) rd (by rw[N];exact O) λc p acc R e=>?_)));have ap:b.length=l.length:=by have:=Me List.length n;simpa using this
 have f:IntsAre acc.toList l:=by
  refine aZ.ints (rS (by have:=e.1;simp only[List.length_map,Array.length_toList];lia) λa x q=>?_);rw[KL]at q;obtain⟨S,s,rfl⟩:=JQ.mp q;have v:a<b.length:=by have:=(Jx.mp s).1;lia
  have T:b[a].1=Sum.inl S:=by have:=Me (λU:List Key=>U[a]?) n;simp only[List.getElem?_map,List.getElem?_eq_getElem v,s]at this;exact Lv this
  obtain⟨ar,Y,z⟩:=ent a b[a].1 b[a].2 (JA v);have B:a<acc.size:=by have:=e.1;lia
  obtain⟨av,C,Z⟩:=e.2 a acc[a] (Jv B);rw[Y]at C;cases C;refine⟨acc[a],by rw[Array.getElem?_toList,Jv B],?_⟩;rw[Z];rw[T]at z;exact wR z
 have D:Inv X pins σ j {J with heap:=c,toks:=p}:=I.kept R;have g:acc.toList.length≤sizeLine:=by rw[f.length];lia
 refine Ma (wpAny_newList ?_ g);have i:(c.push {cls:=.type "list",data:=.seq acc.toList.toArray}).get? c.objs.size=some (seqObj "list" acc.toList.toArray 0):=Kc _ rfl;refine Ma (LS (wpAny_call_entry_kw slot_list_sort ⟨_,i,rfl⟩ entry_list_sort (list_sort_tree_revAny i f g λout E ac F ah=>⟨_,rfl,?_⟩) (args_list_sort_rev _ _)));obtain⟨al,am⟩:=sortedHeap_at (vs:=acc.toList) (out:=out) i;refine Md ⟨_,rfl,.ref _,upd j c.objs.size (.lst (E.map V.int)),D.laid (t':=p) (λax aA G=>?_) (L6 _) ⟨by rw[Ln,F.length_eq,←f.length];exact g,out.toList,al,i7 ac,by rw[am,Array.toArray_toList]⟩,rfl,M E _ F ah D.fresh⟩;have lt:=LU G;rw[sortedHeap_old (L3 lt) (by rw[LA];exact KR lt)];exact JK _ G)
end
section
variable {prog : Program} {w : World} {A : Around} {E : Value → Shared → Prop} {s : Shared}
theorem mx{t:Addr}{b:Nat}{f:Array Value}{g:Value→Shared→Prop}(d:s.heap.IsTupleIter it t b)(h:s.heap.IsTuple t f)(i:f[b]?=some x)(j:∀e,e.IsTupleIter it t (b+1)→Heap.SameBut it s.heap e→g x {s with heap:=e}):wpAny (model prog w) A (Builtin.SmallTypes.nextOf (.ref it)) g E s:=by f_assign(obtain⟨p,c,l,a⟩:=id d;obtain⟨q,n,_,r,o⟩:=h;unfold Builtin.SmallTypes.nextOf;refine Ma (JJ (name:=Str.ofString "__next__") d.typeIs Js (Lg Js d.typeIs F.entry_tuple_iterator_next ?_ (F.args_tuple_iterator_next_1 _)));refine Ma (m:=field (.ref it) 0) (L8 c a (x:=.ref t) rfl ?_);show wpAny _ _ (if(Value.ref t==Value.none)=true then _ else _) _ _ s;rw[Mi (show¬((Value.ref t==Value.none)=true)from Kl)];refine Ma (m:=field (.ref it) 1) (L8 c a (x:=.int b 0) rfl (Ma (m:=seqItems? (.ref t)) (LH n o ?_)));simp only[Int.toNat_natCast,i];refine Ma (LI c a (by simp) (Md ⟨x,rfl,Md (j _ ⟨_,JT _ c (Obj.isFreed_of_fields (Kx a _)),(Obj.cls_mapFields ..).trans l,?_⟩ (Kb ..))⟩));rw[Kx a];simp[rawInt])
theorem oX{t:Addr}{b:Nat}{h:Array Value}(i:A.handled=none)(c:s.heap.IsTupleIter it t b)(l:s.heap.IsTuple t h)(n:h[b]?=none)(o:∀d j,Heap.ExtBut it s.heap d→(∃e,d.get? j=some e∧e.cls=.type "StopIteration")→E (.ref j) {s with heap:=d}):wpAny (model prog w) A (Builtin.SmallTypes.nextOf (.ref it)) Q E s:=by f_assign(
 obtain⟨e,f,r,g⟩:=id c;obtain⟨u,p,_,v,q⟩:=l;unfold Builtin.SmallTypes.nextOf;refine Ma (JJ (name:=Str.ofString "__next__") c.typeIs Js (Lg Js c.typeIs F.entry_tuple_iterator_next ?_ (F.args_tuple_iterator_next_1 _)));refine Ma (m:=field (.ref it) 0) (L8 f g (x:=.ref t) rfl ?_);show wpAny _ _ (if(Value.ref t==Value.none)=true then _ else _) _ _ s;rw[Mi (show¬((Value.ref t==Value.none)=true)from Kl)];refine Ma (m:=field (.ref it) 1) (L8 f g (x:=.int b 0) rfl (Ma (m:=seqItems? (.ref t)) (LH p q ?_)));simp only[Int.toNat_natCast,n];refine Ma (wpAny_rule (Ma (LI f g (by simp) (Ma (m:=newExc (.type "StopIteration") []) ?_))));simp only[newExc,newTuple];refine Ma (KZ ?_ (by size_fits));refine Ma (m:=firstArgMember _ _) (wpAny_of_eq (a:=Value.none) (by first|rfl|(simp only[firstArgMember];rfl)) (KZ ?_ (by size_fits)));simp only[raiseNew];refine Ma (wpAny_handled ?_);first|rw[show A.in1.handled=none from i]|rw[i]
 exact Ma (Md (wpAny_throw (o _ _ (((Kb ..).extBut.push _).push _) ⟨_,Kc _ rfl,rfl⟩))))
theorem G7(l:A.handled=none)(c t:Addr)(m:t≠c)(f:Array Value):Draws prog w A c [c,t] f.size (λe n=>f[e]?=some n) (λe g=>g.IsTupleIter c t e∧g.IsTuple t f)where live:=λ_ _ st=>let⟨b,ho,_⟩:=st.1;⟨b,ho⟩;frame:=λ_ _ _ st h=>⟨st.1.at λb d=>h c (by simp) b d,let⟨b,d,r⟩:=st.2;⟨b,h t (by simp) b d,r⟩⟩;item:=λe s o E i st p=>mx st.1 st.2 (Jv i) λq a j=>p _ q s.toks (Jv i) ⟨a,let⟨b,d,r⟩:=st.2;⟨b,(j.2 t m).trans d,r⟩⟩ j;done:=λs o E st u=>oX l st.1 st.2 (by simp) u
theorem BF(a:Addr)(d:Array Value)(e:Nat)(h:Option Addr)(i:Array (Option Value)):Meets (Builtin.«enumerate.__new__» ⟨[.type "enumerate",.ref a],[]⟩) (λ_ f s=>s.heap.get? a=some ⟨.type "tuple",h,.seq d e,i⟩∧f (.ok (.ret (.ref (s.heap.push {cls:=.type "tuple_iterator",data:=.fields #[.ref a,.int 0 0]}).objs.size))) {s with heap:=(s.heap.push {cls:=.type "tuple_iterator",data:=.fields #[.ref a,.int 0 0]}).push {cls:=.type "enumerate",data:=.fields #[.none,.bool false,.ref s.heap.objs.size,rawInt 0,.none,.none]}}):=Meets.of_wp λprog w A f s b=>by f_assign(
 obtain⟨j,l,m,n,os⟩:=s;obtain⟨c,b⟩:=b;have p:=sub_enumerate;have g:Heap.IsTuple (Shared.heap ⟨j,l,m,n,os⟩) a d:=⟨_,c,rfl,e,rfl⟩;wp_walk using AutoSeq1.wpAny_loadPart' c;refine wpAny_stack_any λst=>Md ?_;split;·rename_i o _ _ _ _ _;cases(o==Value.type "enumerate")<;>(wp_walk using AutoSeq1.wpAny_loadPart' c,KA g;exact⟨_,rfl,b⟩)
 ·wp_walk using AutoSeq1.wpAny_loadPart' c,KA g;exact⟨_,rfl,b⟩)
theorem Ij{a:Addr}{c:Array Value}{h:Value→Shared→Prop}(l:s.heap.IsTuple a c)(m:∀b,IsEnum b (s.heap.objs.size+1) s.heap.objs.size 0 .none→b.IsTupleIter s.heap.objs.size a 0→b.objs.size=s.heap.objs.size+2→(∀d o,s.heap.get? d=some o→b.get? d=some o)→h (.ref (s.heap.objs.size+1)) {s with heap:=b}):wpAny (model prog w) A (call (.type "enumerate") [.ref a]) h E s:=by f_assign(
 obtain⟨⟨n,p,dt,q⟩,r,e,i,f⟩:=l;replace e:n=.type "tuple":=e;replace f:dt=.seq c i:=f;subst e f;refine callType_new F.called_enumerate (by decide) (F.typeCall_enumerate_1 _) (F.newCall_enumerate_1 _) (λu=>F.args_object_init_2 u _) F.entry_enumerate_new (BF a c i p q) ⟨r,?_⟩;have g:(s.heap.push {cls:=.type "tuple_iterator",data:=.fields #[.ref a,.int 0 0]}).objs.size=s.heap.objs.size+1:=LA ..;show _∧_;rw[g];have j:IsEnum ((s.heap.push {cls:=.type "tuple_iterator",data:=.fields #[.ref a,.int 0 0]}).push {cls:=.type "enumerate",data:=.fields #[.none,.bool false,.ref s.heap.objs.size,rawInt 0,.none,.none]}) (s.heap.objs.size+1) s.heap.objs.size 0 .none:=by have:=Kc (s.heap.push {cls:=.type "tuple_iterator",data:=.fields #[.ref a,.int 0 0]}) (o:={cls:=.type "enumerate",data:=.fields #[.none,.bool false,.ref s.heap.objs.size,rawInt 0,.none,.none]}) rfl;rw[g]at this;exact this
 exact⟨⟨_,j,rfl⟩,m _ j ⟨_,JK _ (Kc _ rfl),rfl,rfl⟩ (by rw[LA,g]) λd o x=>JK _ (JK _ x)⟩)
end
theorem nB{f:It}{j:TG}{l:TS}{g:Ends}{c:St}{a:Hp}(d:Nat)(Pv:Nat→St→Hp→Prop)(n:Pv 0 c a)(hgo:∀b c a,b<d→Pv b c a→f.go b a)(o:∀c a,Pv d c a→f.stop d a)(p:∀b x c a e,b<d→Pv b c a→f.yld b a x e→j x c e λq r=>l {g with nx:=Pv (b+1),ct:=Pv (b+1),bk:=g.nx} q r)(s:∀c a,Pv d c a→g.nx c a):Loop f j l g c a:=by
 refine⟨λb m c a=>m=d-b∧b≤d∧Pv b c a,⟨d,by simp,L7 _,n⟩,?_⟩;rintro b m c a⟨rfl,v,h⟩;rcases Nat.lt_or_ge b d with i|z;·exact .inr ⟨hgo b c a i h,Pv (b+1),λA e u=>⟨d-(b+1),by lia,rfl,i,u⟩,λx e y=>p b x c a e i h y⟩
 ·obtain rfl:b=d:=by lia
  exact .inl ⟨o c a h,s c a h⟩
theorem Dj{h:It}{n:TG}{o:TT}{p:TE}{i:List Nat}{e:Hp}{q:VK}(d:Nat)(Pv:Addr→Nat→Hp→Prop)(v:∀a,e a=none→Pv a 0 (upd e a (.lst [])))(hgo:∀a b c,e a=none→b<d→Pv a b c→h.go b c)(z:∀a c,e a=none→Pv a d c→h.stop d c)(A:∀a b x c f,e a=none→b<d→Pv a b c→h.yld b c x f→n x (wipe σ i) f λl B=>wipe l i=wipe σ i∧o l B λC r=>if C=true then p l r λy s=>∃acc,s a=some (.lst acc)∧acc.length<sizeLine∧Pv a (b+1) (upd s a (.lst (acc++[y])))else Pv a (b+1) r)(D:∀a c,e a=none→Pv a d c→q (.ref a) c):Lc h n o p i q σ e:=λa g=>by
 refine⟨λb u c=>u=d-b∧b≤d∧Pv a b c,⟨d,by simp,L7 _,v a g⟩,?_⟩;rintro b u c⟨rfl,F,j⟩;rcases Nat.lt_or_ge b d with m|G;·exact .inr ⟨hgo a b c g m j,Pv a (b+1),λf E=>⟨d-(b+1),by lia,rfl,m,E⟩,λx f y=>A a b x c f g m j y⟩
 ·obtain rfl:b=d:=by lia
  exact .inl ⟨z a c g j,D a c g j⟩
theorem nE{g:It}{p:TG}{q:TT}{r:TE}{h:List Nat}{s:VK}(e:List V)(i:V→Bool)(j:V→V)(B:∀c a,c<e.length→au H1 a→g.go c a)(C:∀a,au H1 a→g.stop e.length a)(D:∀c a x l,au H1 a→g.yld c a x l→l=a∧e[c]?=some x)(I:e.length≤sizeLine)(E:∀x∈e,∀(a:Hp)(u:Hp→Prop)(v:VK),au H1 a→(i x=true→v (j x) a)→(i x=false→u a)→p x (wipe σ h) a λm F=>wipe m h=wipe σ h∧q m F λG z=>if G=true then r m z v else u z)(H:∀b,H1 b=none→s (.ref b) (upd H1 b (.lst ((e.filter i).map j)))):Lc g p q r h s σ H1:=by f_assign(
 refine Dj e.length (λb c a=>a=upd H1 b (.lst (((e.take c).filter i).map j))) (λb d=>rfl) (λb c a d A f=>?_) (λb a d f=>?_) (λb c x a l d A f y=>?_) (λb a d f=>?_);·rw[f];exact B c _ A (au.new d)
 ·rw[f];exact C _ (au.new d)
 ·subst f;obtain⟨rfl,n⟩:=D _ _ _ _ (au.new d) y;refine E x (J_ n) _ _ _ (au.new d) (λo=>?_) (λo=>?_)
  ·refine⟨_,aj,?_,?_⟩;·rw[Ln];exact Kv (JV ..) (by rw[K_];lia)
   ·rw[kU,take_snoc n,Ko,Lp];simp[o]
  ·rw[take_snoc n,Ko,Lp];simp[o]
 ·rw[f,Lb];exact H b d)
theorem FW{t:TI}(h:PI X tg e t)(i:PI X tg e u):PI X tg e (λa b c=>t a b c∨u a b c):=λd f a b c g j=>j.elim (h d f a b c g) (i d f a b c g)
theorem Ik{c:Value}{t d:List V→Hp→VK→Prop}(n:cx X c t)(o:cx X c d):cx X c (λe a b=>t e a b∨d e a b):=λf g h a i j b l m p=>p.elim (n f g h a i j b l m) (o f g h a i j b l m)
def FX(b a:Int):Prop:=0<a∧a<2^8000
theorem Dk:OpR X (binaryOp .FloorDiv) (rI FX λb a=>.int (b/a)):=opI λb a _ _ _ _ _ c e=>by
 have g:(0:Int)<a:=c.1;have d:a<2^8000:=c.2;refine floordiv_int (by lia) (by rw[Int.fdiv_eq_ediv_of_nonneg b (by lia)];exact e) (.inl (PyProof.noPylong_of_log2 ?_));have f:a.natAbs<2^8000:=by obtain⟨h,rfl⟩:=JF (show 0≤a by lia);rw[two_pow_cast]at d;exact Int.ofNat_lt.mp d
 have:=(Nat.log2_lt (by lia)).mpr f;lia
def FY(K:PySem.W.Frag):List V→Hp→VK→Prop:=λd b e=>∃(a:Addr)(c:List Int),d=[.ref a]∧b a=some (.tup (c.map V.int))∧e (.int c.sum) b
theorem Aj{b:Cx}(g:b.calm=true):cx b (.builtin "sum") (FY b.K):=by f_assign(
 intro q r s h u v x c i j;obtain⟨a,l,rfl,m,n⟩:=j;obtain⟨y,z,rv,d⟩:=c.hok a _ m;rw[aZ.ref1 i];obtain⟨o,e⟩:=rv.ints.allInts.items;have f:numsOf (intItems o).toList=l:=by rw[←e];exact rv.ints.numsOf
 rw[nums_intItems]at f;rw[e]at d;refine PySem.W.ktm_sumG (c.ok.hd g) d λA B C p=>⟨.int _,h,c.kept p,⟨_,rfl⟩,?_⟩;rw[preSum_eq,JP (by simp),f];exact n)
def Il(a:Addr):It:=⟨λd c=>∃(b:List V)(x:V),c a=some (.tup b)∧b[d]?=some x,λd c f g=>∃e x,f=.ref e∧c e=none∧g=upd c e (.tup [.int (d:Nat),x])∧∀b,c a=some (.tup b)→b[d]?=some x,λd c=>∃b:List V,c a=some (.tup b)∧b.length≤d⟩
theorem BG{h:Program}{w:World}{A:Around}{a:Shared}{t:Addr}{i:Int}{k:Nat}{old:Value}{d:Array Value}{f:Option Value→Shared→Prop}(j:A.handled=none)(g:IsEnum a.heap e it i old)(l:a.heap.IsTupleIter it t k)(m:a.heap.IsTuple t d)(n:d[k]?=none)(o:∀c,Heap.ExtBut it a.heap c→f none {a with heap:=c}):wpAny (model h w) A (pyNext (.ref e)) f E a:=by f_assign(have ty:a.TypeIs (.ref e) "enumerate":=⟨_,g,rfl⟩;unfold pyNext;refine Ma (LR (JJ (name:=Str.ofString "__next__") ty F.slot_enumerate_next (Lg F.slot_enumerate_next ty F.entry_enumerate_next ?_ (F.args_enumerate_next_1 _))));show wpAny _ _ (field (.ref e) 2>>=_) _ _ _;refine Ma (L8 g rfl (x:=.ref it) rfl (Ma (oX (A:=A.in1) j l m n λc x eb p=>?_)));obtain⟨q,r,s⟩:=p;exact Ma (wpAny_isInstance (T:="StopIteration") (b:=true) ⟨q,r,s⟩ isSubtype_stop (Md (o _ eb))))
theorem yX{P:Program}{w:World}{K:PySem.W.Frag}{X:Nat}(a h e:Addr):Turn P w K (.Tuple elts X tpos) (Il a) [h,e] h (λb l=>(∃old,IsEnum l h e ((b:Nat):Int) old)∧l.IsTupleIter e a b∧h≠e∧h≠a∧a≠e)where
 mem:=by simp
 obj:=λb l st j f=>by
  obtain⟨⟨old,g⟩,⟨m,u,o,Y⟩,_⟩:=st;rcases LN.mp f with c|c;·rw[c];exact⟨_,g,nofun⟩
  ·rw[Kt.mp c];exact⟨m,u,λaU d=>by rw[Y]at d;cases d⟩
 keep:=λb l v st k=>let⟨⟨old,g⟩,hi,hr⟩:=st;⟨⟨old,k h (by simp) _ g⟩,hi.at λm d=>k e (by simp) m d,hr⟩;item:=by f_assign(
  intro y z B C o b L s M N O i hf st hg;subst z B C;obtain⟨⟨old,g⟩,p,n,D,E⟩:=st;obtain⟨Z,x,q,F⟩:=hg;obtain⟨ac,r,rv,G⟩:=i.hok a _ q;obtain⟨Q,ah,al⟩:=rv.get F;have R:h<s.heap.objs.size:=LU g;have am:e<s.heap.objs.size:=let⟨_,d,_⟩:=p;LU d;have S:r.toArray[b]?=some Q:=by simpa using ah
  have an:b<r.toArray.size:=(Jr.mp S).1;refine wpAny_pyNext_enum_itemD (G7 (A:=y.A.in1) (i.ok.hd o) e a E r.toArray) g ⟨p,G⟩ an n (by simp[n,D]) λH v I T u ap ar a0 av=>?_;obtain rfl:H=Q:=by rw[S]at T;exact(Lv T).symm
  refine⟨_,rfl,wpAny_letOwnedTupleGo_enum (s:={s with heap:=v,toks:=I+1}) u λax aA J=>?_⟩;have aE:=(J.2 _ (LZ R)).trans ar;have aI:Inv y L M (upd N s.heap.objs.size (.tup [.int (b:Nat),x])) {s with heap:=ax,toks:=I+1}:=i.iW (ch:=[h,e]) (λj aK f d=>(J.2 j (λc=>f (by simp[c]))).trans (av j aK (λc=>f (by simp[c])) (λc=>f (by simp[c])) d)) hf (L6 _) ⟨by show 2≤sizeLine;decide,[.int b I,H],.cons ⟨_,rfl⟩ (.cons al .nil),⟨_,aE,rfl,_,rfl⟩⟩;refine⟨.ref s.heap.objs.size,_,aI,rfl,⟨_,x,rfl,i.hok.fresh (L6 _),rfl,λa1 U=>by rw[q]at U;cases U;exact F⟩,⟨⟨H,?_⟩,ap.1.at λm d=>(J.2 e (Mg n)).trans d,n,D,E⟩,λj f=>?_⟩;·rw[show((b+1:Nat):Int)=(b:Int)+1 by lia];exact aA
  ·rw[ak (L3 ?_)];·exact(hf j f).1
   ·rcases LN.mp f with c|c;·rw[c];exact R
    ·rw[Kt.mp c];exact am)
 done:=by intro y z B C o b L s M N O i hf st hg;subst z B C;obtain⟨⟨old,g⟩,p,n,D,E⟩:=st;obtain⟨Z,q,F⟩:=hg;obtain⟨ac,r,rv,G⟩:=i.hok a _ q;obtain⟨aM,aN,a2,aP,aR,aT⟩:=hf e (by simp);have a3:=rv.length;exact BG (i.ok.hd o) g p G (by simp;lia) λv eb=>⟨rfl,i.turned (t':=s.toks) (λj m f d=>eb j m f d) aM aN aP aR aT⟩
 self:=λA b s a4 O st l=>let⟨⟨_,g⟩,_⟩:=st;wpAny_pyIter_enum g l
def yY(c:TA):TI:=λd e f=>c d e λg b=>∃a h,g=[.ref a]∧b a=some (.tup h)∧f (Il a) b
theorem Dl{c:Cx}{d:Expr}{n g:Pos}{o:Nat}(p:Gl c "enumerate")(q:c.mg "enumerate"=none)(r:PA c [d] ta)(s:starEach [d] c.env=[(false,eval d c.env)]:=by rfl):PI c (.Tuple elts o tpos) (.Call (.Name "enumerate" n) [d] [] g) (yY ta):=λu v x y L h A=>by f_assign(
 refine Call_ (iy h p q boot_enumerate (Jq (thn (r g u v x y _ h A) λM b B=>?_) s rfl));obtain⟨N,C,e,D,E⟩:=B;obtain⟨a,O,rfl,F,f⟩:=E;rw[aZ.ref1 D];obtain⟨Q,R,rv,i⟩:=e.hok a _ F;have j:a<b.heap.objs.size:=let⟨_,f,_⟩:=i;LU f;refine Ij i λS l G T H=>wpAny_pyIter_enum l ?_;refine⟨b.heap.objs.size+1,[b.heap.objs.size+1,b.heap.objs.size],_,_,C,rfl,e.kept (t':=b.toks) H,yX a (b.heap.objs.size+1) b.heap.objs.size,⟨⟨.none,l⟩,G,Nat.succ_ne_self _,LZ (KR j),L3 j⟩,λI J=>?_,f⟩;have m:b.heap.objs.size≤I:=by
  rcases LN.mp J with z|z;·rw[z];exact Nat.le_succ _
  ·rw[Kt.mp z];exact L6 _
 exact e.fpOk m (e.hok.fresh m))
section
variable {prog : Program} {w : World} {A : Around} {E : Value → Shared → Prop} {s : Shared}
theorem _root_.PySem.Heap.IsTupleIter.eb{a b:Heap}{c t:Addr}{k:Nat}(x:a.IsTupleIter it t k)(d:Heap.ExtBut c a b)(e:it≠c):b.IsTupleIter it t k:=x.at λf g=>d it f e g
theorem sf{a b:Heap}{c t:Addr}{d:Array Value}(x:a.IsTuple t d)(e:Heap.ExtBut c a b)(f:t≠c):b.IsTuple t d:=let⟨o,q,r⟩:=x;⟨o,e t o f q,r⟩
theorem BH{TI TO:Addr}{r u:Nat}{N O:Array Value}{D:Value→Shared→Prop}(c:ZipApart z TI TO i1 i2 l1 l2)(n:IsZip s.heap z TI TO .none)(Z:IsPair s.heap TI (.ref i1) (.ref i2))(ac:IsPair s.heap TO a b)(ah:s.heap.IsTupleIter i1 l1 r)(al:s.heap.IsTupleIter i2 l2 u)(am:s.heap.IsTuple l1 N)(an:s.heap.IsTuple l2 O)(ap:N[r]?=some x)(ar:O[u]?=some y)(av:∀h,IsZip h z TI TO (rawInt s.heap.objs.size)→IsPair h TO x y→h.IsTupleIter i1 l1 (r+1)→h.IsTupleIter i2 l2 (u+1)→IsPair h s.heap.objs.size x y→h.objs.size=s.heap.objs.size+1→(∀d e,d≠z→d≠TO→d≠i1→d≠i2→s.heap.get? d=some e→h.get? d=some e)→D (.ref s.heap.objs.size) {s with heap:=h}):wpAny (model prog w) A (Builtin.«zip.__next__» ⟨[.ref z],[]⟩) (λax aA=>∃Q,ax=.done (.ret Q)∧D Q aA) E s:=by f_assign(
 show wpAny _ _ (field (.ref z) 2>>=_) _ _ _;refine Ma (L8 n rfl (x:=.bool false) rfl ?_);show wpAny _ _ (field (.ref z) 3>>=_) _ _ _;refine Ma (L8 n rfl (x:=.ref TI) rfl (Ma (LH Z rfl ?_)));show wpAny _ _ (Builtin.SmallTypes.ownedTupleIsFree (.ref z)>>=_) _ _ _;refine Ma ?_;unfold Builtin.SmallTypes.ownedTupleIsFree;refine Ma (L8 n rfl (x:=.none) rfl (Md ?_));simp only[if_true];refine Ma (wpAny_rule (Ma (L8 n rfl (x:=.ref TO) rfl (Ma (KC n (by simp) λaE F i=>?_)))));replace F:IsZip aE z TI TO .ellipsis:=F;refine Ma ?_;simp only[List.zipIdx_cons,List.zipIdx_nil,List.forIn_cons,List.forIn_nil];refine Ma (Ma (wpAny_onRaise ?_));show wpAny _ _ (Builtin.SmallTypes.nextOf (.ref i1)>>=_) _ _ _;refine Ma (mx (ah.eb i.extBut c.i1z) (sf am i.extBut c.l1z) ap λaI aK l=>Md ?_);have R:IsPair aI TO a b:=l.extBut _ _ c.TOi1 (i.extBut _ _ c.TOz ac);refine Ma (LH R rfl (Ma (wpAny_updateSeq_pair R λaM G m=>Ma (L9 (Md ?_)))));replace G:IsPair aM TO x b:=G;refine Ma (Ma (wpAny_onRaise ?_));show wpAny _ _ (Builtin.SmallTypes.nextOf (.ref i2)>>=_) _ _ _;refine Ma (mx (((al.eb i.extBut c.i2z).eb l.extBut c.i12.symm).eb m.extBut c.TOi2.symm) (sf (sf (sf an i.extBut c.l2z) l.extBut c.l2i1) m.extBut c.l2TO) ar λaN aP o=>Md ?_);have S:IsPair aN TO x b:=o.extBut _ _ c.TOi2 G;refine Ma (LH S rfl (Ma (wpAny_updateSeq_pair S λf v p=>Ma (L9 (Md (Md ?_))))));replace v:IsPair f TO x y:=v;refine Ma (LH v rfl (Ma (wpAny_newTuple ?_)));have sz:f.objs.size=s.heap.objs.size:=by rw[p.1,o.1,m.1,l.1,i.1]
 have T:IsZip f z TI TO .ellipsis:=p.extBut _ _ c.TOz.symm (o.extBut _ _ c.i2z.symm (m.extBut _ _ c.TOz.symm (l.extBut _ _ c.i1z.symm F)));have aR:∀d e,d≠z→d≠TO→d≠i1→d≠i2→s.heap.get? d=some e→f.get? d=some e:=λd e j B H I g=>p.extBut _ _ B (o.extBut _ _ I (m.extBut _ _ B (l.extBut _ _ H (i.extBut _ _ j g))));have aT:f.IsTupleIter i1 l1 (r+1):=((aK.eb m.extBut c.TOi1.symm).eb o.extBut c.i12).eb p.extBut c.TOi1.symm;have aU:f.IsTupleIter i2 l2 (u+1):=aP.eb p.extBut c.TOi2.symm;have U:z<f.objs.size:=LU T;show wpAny _ _ (Builtin.SmallTypes.ownedTupleHandOut (.ref z) (.ref f.objs.size)>>=_) _ _ _;refine Ma ?_;unfold Builtin.SmallTypes.ownedTupleHandOut;have a0:IsZip (f.push {cls:=.type "tuple",data:=.seq #[x,y]}) z TI TO .ellipsis:=JK _ T;refine Ma (KC a0 (by simp) λa1 J L=>?_);replace J:IsZip a1 z TI TO (rawInt f.objs.size):=J;refine KC J (by simp) λq C M=>?_;replace C:IsZip q z TI TO (rawInt f.objs.size):=C;have up:∀d e,d≠z→f.get? d=some e→q.get? d=some e:=λd e j g=>M.extBut _ _ j (L.extBut _ _ j (JK _ g));have X:IsPair q f.objs.size x y:=M.extBut _ _ (LZ U) (L.extBut _ _ (LZ U) (Kc _ rfl));have Y:q.objs.size=f.objs.size+1:=by rw[M.1,L.1,LA]
 rw[sz]at C X Y;refine Md ⟨_,rfl,?_⟩;show D (.ref f.objs.size) _;rw[sz];exact av q C (up _ _ c.TOz v) (aT.at λe g=>up _ e c.i1z g) (aU.at λe g=>up _ e c.i2z g) X Y λd e j B H I g=>up d e j (aR d e j B H I g))
theorem Dm{TI TO:Addr}{l:Nat}{m:Array Value}{u:Fin→Shared→Prop}(v:A.handled=none)(e:ZipApart z TI TO i1 i2 l1 l2)(c:IsZip s.heap z TI TO .none)(y:IsPair s.heap TI (.ref i1) (.ref i2))(B:s.heap.IsTupleIter i1 l1 l)(C:s.heap.IsTuple l1 m)(D:m[l]?=none)(F:∀f d,(∀a b,a≠z→a≠TO→a≠i1→a≠i2→s.heap.get? a=some b→f.get? a=some b)→(∃b,f.get? d=some b∧b.cls=.type "StopIteration")→E (.ref d) {s with heap:=f}):wpAny (model prog w) A (Builtin.«zip.__next__» ⟨[.ref z],[]⟩) u E s:=by f_assign(
 show wpAny _ _ (field (.ref z) 2>>=_) _ _ _;refine Ma (L8 c rfl (x:=.bool false) rfl ?_);show wpAny _ _ (field (.ref z) 3>>=_) _ _ _;refine Ma (L8 c rfl (x:=.ref TI) rfl (Ma (LH y rfl ?_)));show wpAny _ _ (Builtin.SmallTypes.ownedTupleIsFree (.ref z)>>=_) _ _ _;refine Ma ?_;unfold Builtin.SmallTypes.ownedTupleIsFree;refine Ma (L8 c rfl (x:=.none) rfl (Md ?_));simp only[if_true];refine Ma (wpAny_rule (Ma (L8 c rfl (x:=.ref TO) rfl (Ma (KC c (by simp) λG g h=>?_)))));replace g:IsZip G z TI TO .ellipsis:=g;refine Ma ?_;simp only[List.zipIdx_cons,List.zipIdx_nil,List.forIn_cons,List.forIn_nil];refine Ma (Ma (wpAny_onRaise ?_));show wpAny _ _ (Builtin.SmallTypes.nextOf (.ref i1)>>=_) _ _ _;refine Ma (oX (by exact v) (B.eb h.extBut e.i1z) (sf C h.extBut e.l1z) D λH d n I=>?_);obtain⟨J,i,o⟩:=I;have p:IsZip H z TI TO .ellipsis:=n _ _ e.i1z.symm g;have L:d≠z:=λj=>by subst j;rw[p]at i;cases i;simp at o
 exact KC p (by simp) λM _ q=>F M d (λa b r _ N _ j=>q.extBut _ _ r (n _ _ N (h.extBut _ _ r j))) ⟨J,q.extBut _ _ L i,o⟩)
abbrev zA(h:Heap)(l:Addr):Heap:=h.push {cls:=.type "tuple_iterator",data:=.fields #[.ref l,.int 0 0]}
abbrev zB(h:Heap)(l m:Addr):Heap:=zA (zA h l) m
abbrev zC(h:Heap)(l m:Addr):Heap:=(zB h l m).push {cls:=.type "tuple",data:=.seq #[.ref h.objs.size,.ref (zA h l).objs.size]}
abbrev zD(h:Heap)(l m:Addr):Heap:=(zC h l m).push {cls:=.type "tuple",data:=.seq #[.none,.none]}
abbrev zE(h:Heap)(l m:Addr):Heap:=(zD h l m).push {cls:=.type "zip",data:=.fields #[.none,.bool false,.bool false,.ref (zB h l m).objs.size,.ref (zC h l m).objs.size]}
theorem Dn(a b:Addr)(d e:Array Value):Meets (Builtin.«zip.__new__» ⟨[.type "zip",.ref a,.ref b],[]⟩) (λ_ f s=>s.heap.IsTuple a d∧s.heap.IsTuple b e∧f (.ok (.ret (.ref (zD s.heap a b).objs.size))) {s with heap:=zE s.heap a b}):=.of_wp λprog w A f s c=>by obtain⟨g,h,i,j,os⟩:=s;obtain⟨l,m,c⟩:=c;have u:=sub_zip;have n:Heap.IsTuple (Shared.heap ⟨g,h,i,j,os⟩) a d:=l;have p:Heap.IsTuple (Shared.heap ⟨g.push {cls:=.type "tuple_iterator",data:=.fields #[.ref a,.int 0 0]},h,i,j,os⟩) b e:=let⟨o,q,r⟩:=m;⟨o,JK _ q,r⟩;wp_walk using KA n,KA p;exact⟨_,rfl,c⟩
theorem Jf{a:Addr}{i j:Array Value}{l:Value→Shared→Prop}(r:s.heap.IsTuple a i)(u:s.heap.IsTuple m j)(v:∀b,IsZip b (s.heap.objs.size+4) (s.heap.objs.size+2) (s.heap.objs.size+3) .none→IsPair b (s.heap.objs.size+2) (.ref s.heap.objs.size) (.ref (s.heap.objs.size+1))→IsPair b (s.heap.objs.size+3) .none .none→b.IsTupleIter s.heap.objs.size a 0→b.IsTupleIter (s.heap.objs.size+1) m 0→(∀c d,s.heap.get? c=some d→b.get? c=some d)→l (.ref (s.heap.objs.size+4)) {s with heap:=b}):wpAny (model prog w) A (call (.type "zip") [.ref a,.ref m]) l E s:=by f_assign(
 refine callType_new F.called_zip (by decide) (F.typeCall_zip_2 _ _) (F.newCall_zip_2 _ _) (λy=>F.args_object_init_3 y _ _) F.entry_zip_new (Dn a m i j) ⟨r,u,?_⟩;have e:(zA s.heap a).objs.size=s.heap.objs.size+1:=LA ..;have f:(zB s.heap a m).objs.size=s.heap.objs.size+2:=by rw[LA,e]
 have g:(zC s.heap a m).objs.size=s.heap.objs.size+3:=by rw[LA,f]
 have n:(zD s.heap a m).objs.size=s.heap.objs.size+4:=by rw[LA,g]
 have h:(zE s.heap a m).get? (zD s.heap a m).objs.size=some _:=Kc _ rfl;have o:(zE s.heap a m).get? (zC s.heap a m).objs.size=some _:=JK _ (Kc _ rfl);have p:(zE s.heap a m).get? (zB s.heap a m).objs.size=some _:=JK _ (JK _ (Kc _ rfl));have q:(zE s.heap a m).get? (zA s.heap a).objs.size=some _:=JK _ (JK _ (JK _ (Kc _ rfl)));have z:(zE s.heap a m).get? s.heap.objs.size=some _:=JK _ (JK _ (JK _ (JK _ (Kc _ rfl))));show _∧_;rw[f,g,n]at h;rw[e,f]at p;rw[g]at o;rw[e]at q;rw[n];exact⟨⟨_,h,rfl⟩,v _ h p o ⟨_,z,rfl,rfl⟩ ⟨_,q,rfl,rfl⟩ λc d x=>JK _ (JK _ (JK _ (JK _ (JK _ x))))⟩)
end
def Io(K:PySem.W.Frag)(a g:Addr):It:=⟨λd b=>∃(c e:List V)(x y:V),SqT K b a c∧SqT K b g e∧c[d]?=some x∧e[d]?=some y,λd b h i=>∃f x y,h=.ref f∧b f=none∧i=upd b f (.tup [x,y])∧(∀c,SqT K b a c→c[d]?=some x)∧∀e,SqT K b g e→e[d]?=some y,λd b=>∃c:List V,SqT K b a c∧c.length≤d⟩
theorem G8{a b c d e f:Addr}(g:a∈[b,c,d,e,f]):a=b∨a=c∨a=d∨a=e∨a=f:=by simpa using g
theorem BI{P:Program}{w:World}{K:PySem.W.Frag}{Y:Nat}{TI TO:Addr}(f:ZipApart z TI TO i1 i2 a b):Turn P w K (.Tuple elts Y tpos) (Io K a b) [z,TI,TO,i1,i2] z (λm j=>IsZip j z TI TO .none∧IsPair j TI (.ref i1) (.ref i2)∧(∃x y,IsPair j TO x y)∧j.IsTupleIter i1 a m∧j.IsTupleIter i2 b m)where
 mem:=by simp
 obj:=λm j⟨g,l,⟨x,y,n⟩,⟨Z,B,_,ac⟩,⟨ah,C,_,al⟩⟩o p=>by
  rcases G8 p with c|c|c|c|c<;>rw[c];·exact⟨_,g,nofun⟩
  ·exact⟨_,l,nofun⟩
  ·exact⟨_,n,nofun⟩
  ·exact⟨Z,B,λam c=>by rw[ac]at c;cases c⟩
  ·exact⟨ah,C,λam c=>by rw[al]at c;cases c⟩
 keep:=λm j D⟨g,l,⟨x,y,n⟩,q,u⟩k=>⟨k z (by simp) _ g,k TI (by simp) _ l,⟨x,y,k TO (by simp) _ n⟩,q.at λe c=>k i1 (by simp) e c,u.at λe c=>k i2 (by simp) e c⟩;item:=by f_assign(
  rintro J rfl rfl rfl p m L s M N O h hf⟨g,l,⟨an,ap,n⟩,q,u⟩⟨ar,a5,x,y,v,Q,R,S⟩;obtain⟨av,rv,E,_⟩:=h.tuple v;obtain⟨a6,ax,aA,_⟩:=h.tuple Q;obtain⟨G,aE,aI⟩:=rv.get R;obtain⟨H,aK,aM⟩:=ax.get S;have ty:s.TypeIs (.ref z) "zip":=⟨_,g,rfl⟩;have U:z<s.heap.objs.size:=LU g;unfold pyNext;refine Ma (LR (JJ (name:=Str.ofString "__next__") ty F.slot_zip_next (Lg F.slot_zip_next ty F.entry_zip_next (BH f g l n q u E aA (x:=G) (y:=H) (by simpa using aE) (by simpa using aK) λD aN aP aR aT aU a7 A=>Md ?_) (F.args_zip_next_1 _))));refine⟨_,rfl,wpAny_letOwnedTupleGo_zip (s:={s with heap:=D}) aN λa0 a1 r=>?_⟩;have a2:Inv J L M (upd N s.heap.objs.size (.tup [x,y])) {s with heap:=a0}:=h.iW (t':=s.toks) (ch:=[z,TI,TO,i1,i2]) (λo e i c=>(r.2 o (λd=>i (by simp[d]))).trans (A o e (λd=>i (by simp[d])) (λd=>i (by simp[d])) (λd=>i (by simp[d])) (λd=>i (by simp[d])) c)) hf (L6 _) ⟨by show 2≤sizeLine;decide,[G,H],.cons aI (.cons aM .nil),⟨_,(r.2 _ (LZ U)).trans aU,rfl,_,rfl⟩⟩;refine⟨.ref s.heap.objs.size,_,a2,rfl,⟨_,x,y,rfl,h.hok.fresh (L6 _),rfl,λa3 I=>by rw[h.pA I v];exact R,λa3 I=>by rw[h.pA I Q];exact S⟩,⟨a1,(r.2 _ f.TIz).trans (A _ _ f.TIz f.TITO f.TIi1 f.TIi2 l),⟨G,H,(r.2 _ f.TOz).trans aP⟩,aR.at λe c=>(r.2 _ f.i1z).trans c,aT.at λe c=>(r.2 _ f.i2z).trans c⟩,λo X=>?_⟩;rw[ak (L3 ?_)];·exact(hf o X).1
  ·rcases G8 X with c|c|c|c|c<;>rw[c];·exact U
   ·exact LU l
   ·exact LU n
   ·exact let⟨_,B,_⟩:=q;LU B
   ·exact let⟨_,C,_⟩:=u;LU C)
 done:=by f_assign(rintro J rfl rfl rfl p m L s M N O h hf⟨g,l,⟨an,ap,n⟩,q,u⟩⟨ar,v,a8⟩;obtain⟨av,rv,E,_⟩:=h.tuple v;have a9:=rv.length;have ty:s.TypeIs (.ref z) "zip":=⟨_,g,rfl⟩;unfold pyNext;refine Ma (LR (JJ (name:=Str.ofString "__next__") ty F.slot_zip_next (Lg F.slot_zip_next ty F.entry_zip_next (Dm (h.ok.hd p) f g l q E (by simp;lia) λD bd A⟨e,a4,p⟩=>?_) (F.args_zip_next_1 _))));exact Ma (wpAny_isInstance (T:="StopIteration") (b:=true) ⟨e,a4,p⟩ isSubtype_stop (Md ⟨rfl,h.AY (t':=s.toks) (ch:=[z,TI,TO,i1,i2]) (λo e i c=>A o e (λd=>i (by simp[d])) (λd=>i (by simp[d])) (λd=>i (by simp[d])) (λd=>i (by simp[d])) c) hf⟩)))
 self:=λbi m s bj O st j=>wpAny_pyIter_zip st.1 j
def FZ(K:PySem.W.Frag)(d:TA):TI:=λe f g=>d e f λh b=>∃a c i j,h=[.ref a,.ref c]∧SqT K b a i∧SqT K b c j∧g (Io K a c) b
theorem E8{c:Cx}{g d:Expr}{q h:Pos}{r:Nat}(s:Gl c "zip")(u:c.mg "zip"=none)(v:PA c [g,d] ta)(x:starEach [g,d] c.env=(false,eval g c.env)::starEach [d] c.env:=by rfl)(y:(backTo h (starEach [d] c.env)).any (·.1)=false:=by rfl):PI c (.Tuple elts r tpos) (.Call (.Name "zip" q) [g,d] [] h) (FZ c.K ta):=λA B C D ac j E=>by f_assign(refine Call_ (iy j s u uk (Jq (thn (v h A B C D _ j E) λah b F=>?_) x y));obtain⟨al,G,e,H,a,l,am,an,I,J,L,f⟩:=F;subst I;cases H with|cons M i=>cases i with|cons N i=>
 cases i;cases M;cases N;obtain⟨ap,rv,m,_⟩:=e.tuple J;obtain⟨ar,av,n,_⟩:=e.tuple L;have O:a<b.heap.objs.size:=let⟨_,f,_⟩:=m;LU f;have Q:l<b.heap.objs.size:=let⟨_,f,_⟩:=n;LU f;refine Jf m n λax o R S T U X=>wpAny_pyIter_zip o ?_;refine⟨b.heap.objs.size+4,[b.heap.objs.size+4,b.heap.objs.size+2,b.heap.objs.size+3,b.heap.objs.size,b.heap.objs.size+1],_,_,G,rfl,e.kept (t':=b.toks) X,BI (PySem.W.ktu_apart b.heap.objs.size a l O Q),⟨o,R,⟨_,_,S⟩,T,U⟩,λY Z=>?_,f⟩;have p:b.heap.objs.size≤Y:=by
  rcases G8 Z with z|z|z|z|z<;>rw[z];·exact Ld _ _
  ·exact Ld _ _
  ·exact Ld _ _
  ·exact L6 _
  ·exact Ld _ _
 exact e.fpOk p (e.hok.fresh p))
def Ip:V→V→Hp→VK→Prop:=λe f a g=>∃(b:Addr)(c:List V)(k:Nat)(d:V),e=.ref b∧f=.int k∧a b=some (.lst c)∧c[k]?=some d∧g d a
theorem Dr:HE X Ip:=by intro q r s d u v x y z a e f g;obtain⟨A,h,k,i,rfl,rfl,j,b,l⟩:=g;cases e;obtain⟨t,rfl⟩:=f;obtain⟨B,m,c,n,C⟩:=a.lst j;obtain⟨w,o,p⟩:=c.get b;have D:=c.length;have E:=rn;have F:k<h.length:=(Jx.mp b).1;exact wpAny_getItem_list ⟨_,n,rfl,m,rfl⟩ (by omega) (by omega) (by simpa using o) ⟨i,d,a,p,l⟩
theorem DxT.ok{P:Program}{w:World}{K:PySem.W.Frag}{mg:Str→Option Value}{base:Heap}{st:Stmt}{j f:List Str}{k:Nat}{l:Sp}{t:Addr}(q:DxT K mg x st f t)(r:cB j f (aO st))(len:∀a b c d,l a b c d→a.length=f.length)(s:∀(e m:Addr)(g:Around)(n:List Env)(h:Shared)(b:Hp)(a:List V)(c:VK)(d:XK),PySem.W.codeHdIn K m t=true→cu k (g.deeper (envOfC x (aO st) h.heap.objs.size e (.ref m)))→l a b c d→∃i,PSs (rB CX0 P w K mg base j x (aO st) e (.ref m) g n h b d).nox (b_ st) i∧i {nx:=λ_ u=>c .non u,rt:=c} (start j a) b):Ok P w K mg base x (k+1) f l:=by obtain⟨e,v,o,p,y,z,A,B⟩:=q.ex;refine⟨e,v,?_,y,p.kp,z⟩;obtain⟨I,J,kV,L,M,N,C,O,Q,rfl,lk,D⟩:=p.ex;obtain rfl:C=.ref o:=A;refine FN lk D r len λg n h b a c d E F=>?_;obtain⟨i,G,H⟩:=s e o g n h b a c d B E F;exact⟨i,G.nox,H⟩
def F0(c ty:TE)(d:Addr)(e:List (Key×V)):TE:=λa f g=>c a f λx h=>ty a h λy i=>∃k b,x=.ref d∧y=kV k∧bt e k=some b∧g b i
def uB(P:Program)(w:World)(base:Heap)(b:Addr)(c:List (Key×V)):Prop:=∃a,KV c a∧base.DictOf (bz P w) b a
theorem Ds{a:Cx}{f:Pos}{ty:TE}(g:uB a.prog a.w a.base FA kvs)(Q:a.A.units+1<cLine)(h:PE a o td)(j:PE a i ty)(l:GS i):PE a (.Subscript o i f) (F0 td ty FA kvs):=by f_assign(intro b m c n R p q;obtain⟨r,s,u⟩:=g;refine zZ PySem.F.slot_dict_getitem.lookup l (thn (h b m c n _ p q) λz A⟨x,B,C,D,E⟩=>thn (j b A c B _ C E) λS T F=>?_);obtain⟨y,G,d,H,k,v,I,J,L,M⟩:=F;subst I J;obtain rfl:z=Value.ref FA:=D;have e:=u.keep d.bk;obtain⟨U,N,O⟩:=i5.some_of (v:=v) (o:=valueAt r k) (by rw[←L];exact s.val k);exact⟨e.typeIs,wpAny_getItem_of (pM H) e.mapOf N ⟨v,G,d.tok _,O,M⟩⟩)
open PySem.W (WData Codec OpenSpec Well WellAll ReadsW ReadsAllW CodeHd tabObj)
theorem yZ{P:Program}{w:World}{K:PySem.W.Frag}{mg:Str→Option Value}{k:Nat}{q:List Str}{e:Shared}{vals:List Value}{n:List WData}{R:PySem.W.WRecords}{cl:Str→Option Addr}{TP:Addr}(C:K.In e.heap)(T:e.heap.Ns mainGlobals mg)(D:e.heap.Ns builtinsNs mb)(aM:∀x:Str,x≠"__name__"→mb x=bootBuiltins x)(aN:e.heap.NoLimit)(aP:e.gens=#[])(E:WellAll w.params e.heap vals n)(U:pV n=true)(aR:∀i∈n,i.weight≤1048576)(aT:cu k callerA)(aU:CodeHd e.heap c0 TP)(r:e.heap.get? TP=some (tabObj #[]))(X:K.lookup TP=none)(a0:L2.BMain e.heap mg)(a1:∀base:Heap,K.In base→base.Ns mainGlobals mg→L2.BMain base mg→jR P w K mg base CX0 k fa fd q sp)(a2:∀(a3:Shared)(F:List Value),F.length=q.length→BindsTo a3 fd ⟨F,[]⟩ (q.zip F))(a4:n.length=q.length)(a5:∀(f:Hp)(Y:List V),wV f→jX K f Y n→f TP=none→sp Y (upd f TP (.tbl #[])) (λG Z=>Dw K Z G d0) λ_ _ _=>False):codeAny (model P w) callerA (.call (.ref fa) ⟨vals,[]⟩) (λs m=>∃g as,s=.ok (.ret g)∧ReadsW R cl m.heap g d0 as∧OldK e.heap m.heap∧m.os=e.os∧AllBare m.gens) e:=by f_assign(
 obtain⟨o,ac,u⟩:=rK n vals E U aR;have H:wV (j2 K e.heap o):=Bt u;have ah:=yH C u n vals E U ac;have a6:=jY ac;have al:∀a g,j2 K e.heap o a=some g→K.lookup a=none:=λa g h=>(qG u h).1;have I:∀{a:Addr}{d:Obj},e.heap.get? a=some d→(∀j l,d.data≠.seq j l)→j2 K e.heap o a=none:=λ{a d}b i=>by cases h:j2 K e.heap o a with|none=>rfl|some g=>
  obtain⟨_,j,_,_,⟨v,_⟩|⟨v,_⟩⟩:=qG u h;·rw[v]at b;cases b;exact absurd rfl (i _ _)
  ·rw[v]at b;cases b;exact absurd rfl (i _ _)
 have am:j2 K e.heap o TP=none:=I r nofun;have y:HOk P w (upd (j2 K e.heap o) TP (.tbl #[])) e.heap:=λa g h=>by
  by_cases c:a=TP;·subst c;rw[aj]at h;cases h;exact r
  ·rw[ak c]at h;obtain⟨_,j,z,A,⟨b,rfl⟩|⟨b,rfl⟩⟩:=qG u h;·exact⟨b,by rw[Ln];exact z,j,_,jY A,b⟩
   ·exact⟨b,by rw[Ln];exact z,j,jY A,_,b,rfl,_,rfl⟩
 have J:=a5 _ _ H ah am;generalize j2 K e.heap o=p at H ah al I am y J;have L:∀{a:Addr}{d:Obj},e.heap.get? a=some d→(∀j l,d.data≠.seq j l)→d≠tabObj #[]→upd p TP (.tbl #[]) a=none:=λ{a d}b i l=>by rw[ak (λc=>by rw[c,r]at b;exact l (Lv b).symm)];exact I b i
 have an:∀a d,K.lookup a=some d→upd p TP (.tbl #[]) a=none:=λa d b=>by rw[ak (λc=>by rw[c,X]at b;cases b)];cases h:p a with|none=>rfl|some g=>rw[al a g h]at b;cases b
 have ap:∀a,upd p TP (.tbl #[]) a=none∨(∃d g,upd p TP (.tbl #[]) a=some (.frz d g))∨a=TP:=λa=>by
  by_cases c:a=TP;·exact .inr (.inr c)
  ·rw[ak c];exact(H a).imp id .inl
 have ar:upd p TP (.tbl #[]) TP=some (.tbl #[]):=aj;generalize upd p TP (.tbl #[])=f at y J L an ap ar;have M:∀{a:Addr}{d:Obj},e.heap.get? a=some d→f a=none→(tw e.heap f).get? a=some d:=λb l=>Cp b l;have B:∀{a:Addr}{N:Str→Option Value},e.heap.Ns a N→(tw e.heap f).Ns a N:=λ{a N}⟨d,a7,a8,b,i,s⟩=>⟨d,a7,a8,M b (L b (by intro j l c;rw[i]at c;cases c) (λc=>by rw[c]at i;cases i)),i,s⟩;have av:K.In (tw e.heap f):=λa d b=>M (C a d b) (an a d b);have a9:Mod K mg (tw e.heap f):=⟨av,B T,⟨mb,B D,aM⟩,let⟨mc,z,A⟩:=aN;⟨mc,B z,A⟩⟩;have bd:L2.BMain (tw e.heap f) mg:=by obtain⟨bi,O,bj,bl,ax,Q,bm,aA⟩:=a0;exact⟨bi,O,bj,bl,M ax (L ax (by intro j l c;rw[aA]at c;cases c) (λc=>by rw[c]at Q;cases Q)),Q,bm,aA⟩
 have bn:wG P w K mg (tw e.heap f) callerA [] e f:=⟨rfl,a9,λa d b=>Eu b,Nat.le_of_eq (Bd _ _),trivial,λa D=>absurd (show a∈([]:List Addr)from D) (by simp),y,.of_eq aP⟩;have bv:vals.length=q.length:=by rw[jZ E];exact a4
 refine codeAny_mono ((a1 _ av (B T) bd).run callerA [] e f ⟨vals,[]⟩ vals (vals.map toV) _ _ aT bn (a2 e vals bv) a6 J) λs m x=>?_;cases s with|error b=>exact False.elim x|ok bP=>cases bP with|next=>exact False.elim x|brk=>exact False.elim x|cont=>exact False.elim x|ret g=>
  obtain⟨G,Z,os,bT,un,S,b1,h⟩:=x;have kept:∀a d,e.heap.get? a=some d→a≠TP→m.heap.get? a=some d:=λa d b b2=>by
   rcases ap a with c|⟨O,u3,c⟩|c;·exact un.keep a d b c (by intro c;exact absurd (show a∈([]:List Addr)from c) (by simp)) (by simp)
   ·have b3:=un.frzs a O _ c;obtain⟨aE,_⟩:=y a _ c;obtain⟨v,_⟩:=S a _ b3;rw[b]at aE;cases aE;exact v
   ·exact absurd c b2
  obtain⟨aI,b4⟩:=un.tbls TP #[] ar;have aK:m.heap.get? TP=some (tabObj (#[]++aI)):=S TP _ b4;have b5:K.In m.heap:=λa d b=>kept a d (C a d b) (λc=>by rw[c,X]at b;cases b);obtain⟨as,b6⟩:=Dw.reads (R:=R) (cl:=cl) S b5 d0 G g h b1;refine⟨g,as,rfl,b6,⟨λa d b=>?_,λa d b=>?_⟩,os,bT⟩
  ·by_cases c:a=TP;·subst c;rw[r]at b;cases b;exact .inr (.inl ⟨(aU.tab r).isCodeTable,rfl,#[],aI,rfl,aK⟩)
   ·exact .inl (kept a d b c)
  ·by_cases c:a=TP;·subst c;exact⟨_,aK⟩
   ·exact⟨d,kept a d b c⟩)
theorem y6{r:OpenSpec}{k:Nat}{s:(Str→Option Value)→Heap→Prop}{g:World→Heap→Prop}{l:DefRec}{K:Params→PySem.W.Frag}{ps:List Str}{sp:World→Addr→Sp}(u:r.wellSaid=true)(v:r.args.length=ps.length)(x:cu k callerA)(y:∀a,pV (Codec.encAll r.args a)=true)(z:∀(w:World)(b:Heap),g w b→(K w.params).In b)(A:∀(w:World)(mg:Str→Option Value)(h:Str→Option Value)(B:ExcName→Option Value)(e:Addr)(b:Heap),g w b→(K w.params).In b→PyProof.Rows.Top q (PySem.W.looseW q loose) B mg h b→mg l.name=some (.ref e)→∃(i:FuncData)(m TP:Addr),CodeHd b m TP∧b.get? TP=some (tabObj #[])∧(K w.params).lookup TP=none∧L2.BMain b mg∧(∀(C:Shared)(j:List Value),j.length=ps.length→BindsTo C i ⟨j,[]⟩ (ps.zip j))∧∀base:Heap,(K w.params).In base→base.Ns mainGlobals mg→L2.BMain base mg→jR r.prog w (K w.params) mg base CX0 k e i ps (sp w TP))(D:∀(w:World)(TP:Addr)(c:Hp)(f:List V)(a:Codec.denoteAll r.args),wV c→Codec.withinAll r.args a=true→Codec.app r.args r.asked a=true→jX (K w.params) c f (Codec.encAll r.args a)→c TP=none→sp w TP f (upd c TP (.tbl #[])) (λE F=>Dw (K w.params) F E (r.ret.enc (Codec.app r.args r.f a))) λ_ _ _=>False):PySem.W.WalkOS q loose s g r l [] (λG H=>PySem.call G H):=by f_assign(intro w I aI mg h d n e aK aM aN aP aR kV aT aU a0 a1 J L M vals as hpre hlay hrd hwl hlo;obtain⟨a,N,O⟩:=PySem.W.os_pre_some hpre;obtain⟨Q,o⟩:=Codec.encAll_of_decAll r.args M a N;subst Q;have p:=z w _ n;obtain⟨i,m,TP,S,T,U,X,Y,Z⟩:=A w mg h _ e _ n p d.T J;refine PySem.W.enter_call (codeAny_mono (yZ (R:=[]) (cl:=classAt I.heap) (d0:=r.ret.enc (Codec.app r.args r.f a)) p d.T.g d.T.b d.T.builtins d.T.nolimit L hwl (y _) (rL hlay) x S T U X Z Y (by rw[rM];exact v) (λc f ac ah al=>D w TP c f a ac o O ah al)) λa2 a3 am=>?_);obtain⟨an,ap,rfl,ar,av,ax,aA⟩:=am;exact⟨.inl ⟨an,_,ap,rfl,λ_=>rfl,ar,(OpenSpec.post_iff u o _ _).mpr rfl,λaE=>Bool.noConfusion (show false=true from aE)⟩,av,ax,aA⟩)
end L2
namespace L2
open PySem PySem.Spec PyProof.Rows
section
variable {K : PySem.W.Frag} {mg : Str → Option Value} {C t : Addr} {x q : Str} {st : Stmt} {ps N : List Str} {X : Cx} {e : Expr} {te : TE} {pos r : Pos}
theorem Dx.fs(b:Dx K mg x st ps)(N:List Str)(a:cB N ps (aO st):=by exact⟨rfl,rfl,rfl,by decide+kernel,rfl,by decide+kernel,by decide+kernel⟩):cB N ps (aO st):=a
theorem DxM.fs(b:DxM K C x q st ps)(N:List Str)(a:cB N ps (aO st):=by exact⟨rfl,rfl,rfl,by decide+kernel,rfl,by decide+kernel,by decide+kernel⟩):cB N ps (aO st):=a
theorem DxI.fs(b:DxI K mg x q C st ps)(N:List Str)(a:cB N ps (aO st):=by exact⟨rfl,rfl,rfl,by decide+kernel,rfl,by decide+kernel,by decide+kernel⟩):cB N ps (aO st):=a
theorem DxT.fs(b:DxT K mg x st ps t)(N:List Str)(a:cB N ps (aO st):=by exact⟨rfl,rfl,rfl,by decide+kernel,rfl,by decide+kernel,by decide+kernel⟩):cB N ps (aO st):=a
theorem sT(a:Nat)(nd:X.N.Nodup)(b:PE X e te)(c:X.N[a]?=some x:=by rfl)(d:Loc X.env.scope x:=by exact .inl rfl)(f:swapsWith e (some (.Name x r)) pos.line X.env=pure false:=by rfl)(hf:X.fn x=true∨X.env.scope.names.lookup x=some .local:=by first|exact .inl rfl|exact .inr rfl|assumption):PS X (.Assign [.Name x r] e pos) (Ey te (jP a)):=yn nd c d b f hf
theorem gN(a:Nat)(nd:X.N.Nodup)(b:X.N[a]?=some x:=by rfl)(c:Loc X.env.scope x:=by exact .inl rfl)(hf:X.fn x=true∨X.env.scope.names.lookup x=some .local:=by first|exact .inl rfl|exact .inr rfl|assumption):PG X (.Name x pos) (jP a):=uZ nd b c hf
theorem bS{l:List (Str×Nat)}(b:cB N ps (aO st))(a:GP N (aO st) sc l=true:=by decide+kernel):ug N (aO st) sc l:=CG a
end
section
variable {σ : St} {H : Hp} {Q : VK} {x : Option V} {v : V} {i : Nat}
theorem xm1{a:List V}:List.map some (v::a)=some v::List.map some a:=rfl
theorem xm0:List.map some ([]:List V)=[]:=rfl
theorem xap{a:St}:(x::σ)++a=x::(σ++a):=rfl
theorem xan{a:St}:([]:St)++a=a:=rfl
theorem xGs{a:St→Hp→Prop}:jP (i+1) v (x::σ) H a=jP i v σ H λb=>a (x::b):=rfl
theorem xG0{a:St→Hp→Prop}:jP 0 v (x::σ) H a=a (some v::σ) H:=rfl
theorem ei{c f:Type}{b:c→f}{a:c}{e:c→Prop}(hf:∀k,b a=b k→a=k):(∃k,b a=b k∧e k)=e a:=propext ⟨by rintro⟨k,g,d⟩;rw[hf k g];exact d,λd=>⟨a,rfl,d⟩⟩
theorem xB{a:Bool}{b:Bool→Prop}:(∃k,V.bl a=.bl k∧b k)=b a:=ei λ_ c=>V.bl.inj c
theorem xI{a:Int}{b:Int→Prop}:(∃k,V.int a=.int k∧b k)=b a:=ei λ_ c=>V.int.inj c
theorem xR{a:Addr→Prop}:(∃k,V.ref b=.ref k∧a k)=a b:=ei λ_ c=>V.ref.inj c
theorem zO{a:Option V}{b:V→Prop}:(match a with|some v=>b v|none=>False)=∃v,a=some v∧b v:=by cases a<;>simp
theorem zN{g:Option HO}{h:Addr→Addr→List (Str×V)→Prop}:(match g with|some (.ins b c d)=>h b c d|_=>False)=∃b c d,g=some (.ins b c d)∧h b c d:=by
 split;·exact propext ⟨λe=>⟨_,_,_,rfl,e⟩,by rintro⟨_,_,_,f,e⟩;cases f;exact e⟩
 ·rename_i j;exact propext ⟨False.elim,by rintro⟨a,l,m,f,_⟩;exact j a l m f⟩
theorem zT{e:Option HO}{f:List V→Prop}:(match e with|some (.tup b)=>f b|_=>False)=∃b,e=some (.tup b)∧f b:=by
 split;·exact propext ⟨λc=>⟨_,rfl,c⟩,by rintro⟨_,d,c⟩;cases d;exact c⟩
 ·rename_i g;exact propext ⟨False.elim,by rintro⟨a,d,_⟩;exact g a d⟩
theorem zL{e:Option HO}{f:List V→Prop}:(match e with|some (.lst b)=>f b|_=>False)=∃b,e=some (.lst b)∧f b:=by
 split;·exact propext ⟨λc=>⟨_,rfl,c⟩,by rintro⟨_,d,c⟩;cases d;exact c⟩
 ·rename_i g;exact propext ⟨False.elim,by rintro⟨a,d,_⟩;exact g a d⟩
theorem xO{a:Option V}{b:V→Prop}:(∃v,a=some v∧b v)=match a with|some v=>b v|none=>False:=zO.symm
theorem xN{e:Addr}{g:Addr→Addr→Addr→List (Str×V)→Prop}:(∃a b c d,V.ref e=.ref a∧H a=some (.ins b c d)∧g a b c d)=match H e with|some (.ins b c d)=>g e b c d|_=>False:=by rw[zN];exact propext ⟨by rintro⟨_,b,c,d,h,f⟩;cases h;exact⟨b,c,d,f⟩,by rintro⟨b,c,d,f⟩;exact⟨e,b,c,d,rfl,f⟩⟩
theorem xM{d:Addr}{g:Addr→Addr→List (Str×V)→Prop}:(∃a b c,V.ref d=.ref a∧H a=some (.ins C b c)∧g a b c)=match H d with|some (.ins h b c)=>h=C∧g d b c|_=>False:=by rw[zN];exact propext ⟨by rintro⟨_,b,c,j,e,f⟩;cases j;exact⟨C,b,c,e,rfl,f⟩,by rintro⟨h,b,c,e,rfl,f⟩;exact⟨d,b,c,rfl,e,f⟩⟩
theorem xT{c:Addr}{d:Int}{g:List V→Int→Option V}{h:V→Prop}:(∃a b i v,V.ref c=.ref a∧V.int d=.int i∧H a=some (.tup b)∧g b i=some v∧h v)=match H c with|some (.tup b)=>(match g b d with|some v=>h v|none=>False)|_=>False:=by rw[zT];simp only[zO];exact propext ⟨by rintro⟨_,b,_,v,j,l,e,a,f⟩;cases j;cases l;exact⟨b,e,v,a,f⟩,by rintro⟨b,e,v,a,f⟩;exact⟨c,b,d,v,rfl,rfl,e,a,f⟩⟩
theorem xL{c:Addr}{d:Int}{g:List V→Int→Option V}{h:V→Prop}:(∃a b i v,V.ref c=.ref a∧V.int d=.int i∧H a=some (.lst b)∧g b i=some v∧h v)=match H c with|some (.lst b)=>(match g b d with|some v=>h v|none=>False)|_=>False:=by rw[zL];simp only[zO];exact propext ⟨by rintro⟨_,b,_,v,j,l,e,a,f⟩;cases j;cases l;exact⟨b,e,v,a,f⟩,by rintro⟨b,e,v,a,f⟩;exact⟨c,b,d,v,rfl,rfl,e,a,f⟩⟩
theorem xP{c:Addr}{y:V}{f:Addr→List V→V→Prop}:(∃a b g,V.ref c=.ref a∧[y]=[g]∧H a=some (.lst b)∧f a b g)=match H c with|some (.lst b)=>f c b y|_=>False:=by rw[zL];exact propext ⟨by rintro⟨_,b,_,h,j,d,e⟩;cases h;cases j;exact⟨b,d,e⟩,by rintro⟨b,d,e⟩;exact⟨c,b,y,rfl,rfl,d,e⟩⟩
variable {a b c d : Int} {E : XK}
theorem xs1{C f}:sp1 C f ([.int a]++[]) H Q E=(C a∧Q (f a) H):=propext ⟨by rintro⟨_,g,e⟩;cases g;exact e,λe=>⟨a,rfl,e⟩⟩
theorem xs2{C f}:sp2 C f ([.int a,.int b]++[]) H Q E=(C a b∧Q (f a b) H):=propext ⟨by rintro⟨_,_,g,e⟩;cases g;exact e,λe=>⟨a,b,rfl,e⟩⟩
theorem xs3{C f}:sp3 C f ([.int a,.int b,.int c]++[]) H Q E=(C a b c∧Q (f a b c) H):=propext ⟨by rintro⟨_,_,_,g,e⟩;cases g;exact e,λe=>⟨a,b,c,rfl,e⟩⟩
theorem xs4{C f}:sp4 C f ([.int a,.int b,.int c,.int d]++[]) H Q E=(C a b c d∧Q (f a b c d) H):=propext ⟨by rintro⟨_,_,_,_,g,e⟩;cases g;exact e,λe=>⟨a,b,c,d,rfl,e⟩⟩
inductive Ix(Q:VK):Type|mk
def frz(Q:VK)(_:Ix Q):VK:=Q
theorem ifp{c e f:Prop}[Decidable c](g:c)(a:e):if c then e else f:=(Mj g).symm▸a
theorem ifn{c f e:Prop}[Decidable c](g:¬c)(b:e):if c then f else e:=(Mi g).symm▸b
theorem fg{e:Prop}(g:∀f:Prop,(e→f)→f):e:=g e id
theorem ab{e:Sp}{f:List V}{g:Ix Q}(h:∀k:VK,(∀v H,Q v H→k v H)→e f H k E):e f H (frz Q g) E:=h Q λ_ _ j=>j
theorem xZ{e:Ix Q}:frz Q e v H=Q v H:=rfl
theorem xf1{e:Ix Q}{C f}:sp1 C f ([.int a]++[]) H (frz Q e) E=(C a∧Q (f a) H):=xs1
theorem xf2{e:Ix Q}{C f}:sp2 C f ([.int a,.int b]++[]) H (frz Q e) E=(C a b∧Q (f a b) H):=xs2
theorem xf3{e:Ix Q}{C f}:sp3 C f ([.int a,.int b,.int c]++[]) H (frz Q e) E=(C a b c∧Q (f a b c) H):=xs3
theorem xf4{e:Ix Q}{C f}:sp4 C f ([.int a,.int b,.int c,.int d]++[]) H (frz Q e) E=(C a b c d∧Q (f a b c d) H):=xs4
theorem xZb{k:Bool}{e:Ix Q}:frz Q e (.bl k) H=Q (.bl k) H:=rfl
theorem uz{e:Ix Q}(f:Q v H):frz Q e v H:=f
theorem xC{e:Sp}{f:List V}{t:TA}:zM e f E t σ H Q=t σ H λg h=>e (g++f) h (frz Q .mk) E:=rfl
theorem xMe{e:Sp}{f:List V}{t:TA}:t7 C m e f E ta t σ H Q=ta σ H λx g=>∃a h fs,x=.ref a∧g a=some (.ins C h fs)∧fs.lookup m=none∧t σ g λj l=>e (x::(j++f)) l (frz Q .mk) E:=rfl
theorem xMk{g:Sp}{h:List V}{t:TA}:t9 C g h E t σ H Q=t σ H λj f=>∀x e,f x=none→f e=none→e≠x→g (.ref x::(j++h)) (upd (upd f e (.own x)) x (.ins C e [])) (frz (λv l=>v=.non∧Q (.ref x) l) .mk) E:=rfl
end
def eV(a:Option (Option V))(b:V→Prop):Prop:=match a with|some (some c)=>b c|_=>False
def eB(x:V)(a:Bool→Prop):Prop:=match x with|.bl k=>a k|_=>False
def eI(x:V)(a:Int→Prop):Prop:=match x with|.int k=>a k|_=>False
def eR(x:V)(a:Addr→Prop):Prop:=match x with|.ref k=>a k|_=>False
section
variable {σ : St} {H : Hp} {Q : VK} {x y : V} {i : Nat} {a b : Int} {c : Bool} {p : Addr}
theorem zVa{f:Option (Option V)}{g:V→Prop}:eV f g=∃h,f=some (some h)∧g h:=by
 unfold eV;split;·exact propext ⟨λd=>⟨_,rfl,d⟩,by rintro⟨_,e,d⟩;cases e;exact d⟩
 ·rename_i j;exact propext ⟨False.elim,by rintro⟨a,e,_⟩;exact j a e⟩
theorem zBl{f:Bool→Prop}:eB x f=∃g,x=.bl g∧f g:=by
 unfold eB;split;·exact propext ⟨λd=>⟨_,rfl,d⟩,by rintro⟨_,e,d⟩;cases e;exact d⟩
 ·rename_i h;exact propext ⟨False.elim,by rintro⟨a,e,_⟩;exact h a e⟩
theorem zIn{f:Int→Prop}:eI x f=∃g,x=.int g∧f g:=by
 unfold eI;split;·exact propext ⟨λd=>⟨_,rfl,d⟩,by rintro⟨_,e,d⟩;cases e;exact d⟩
 ·rename_i h;exact propext ⟨False.elim,by rintro⟨a,e,_⟩;exact h a e⟩
theorem zRe{f:Addr→Prop}:eR x f=∃g,x=.ref g∧f g:=by
 unfold eR;split;·exact propext ⟨λd=>⟨_,rfl,d⟩,by rintro⟨_,e,d⟩;cases e;exact d⟩
 ·rename_i h;exact propext ⟨False.elim,by rintro⟨a,e,_⟩;exact h a e⟩
def nF(i:Nat):TE:=λσ H Q=>eV σ[i]? λd=>Q d H
def yB(t:TE):TT:=λσ H Q=>t σ H λx d=>eB x λc=>Q c d
def yI0(d:Int→Int→V):R2:=λx y H Q=>eI x λi=>eI y λe=>Q (d i e) H
def yI(e:Int→Int→Prop)(f:Int→Int→V):R2:=λx y H Q=>eI x λi=>eI y λd=>e i d∧Q (f i d) H
def yU(d:Int→V):V→Hp→VK→Prop:=λx H Q=>eI x λi=>Q (d i) H
def yEq:R2:=yI0 λi d=>.bl (decide (i=d))
def yNe:R2:=yI0 λi d=>.bl (!decide (i=d))
def yEb:R2:=λx y H Q=>eB x λi=>eB y λd=>Q (.bl (decide (i=d))) H
def Du(K:PySem.W.Frag)(g:TE)(d:Str):TE:=λσ H Q=>g σ H λx e=>eR x λa=>match e a with|some (.ins f _ fs)=>Cls K f∧aQ K f d∧(match fs.lookup d with|some h=>Q h e|none=>False)|_=>False
def Dv:R2:=λx y H Q=>eR x λp=>eI y λi=>match H p with|some (.tup d)=>(match atI d i with|some e=>Q e H|none=>False)|_=>False
def E9:R2:=λx y H Q=>eR x λp=>eI y λi=>match H p with|some (.lst d)=>(match atI d i with|some e=>Q e H|none=>False)|_=>False
theorem yVs{x:Option V}:nF (i+1) (x::σ) H Q=nF i σ H Q:=rfl
theorem yV0{d:V}:nF 0 (some d::σ) H Q=Q d H:=rfl
theorem eVs{d:V→Prop}:eV (some (some v)) d=d v:=rfl
theorem eBs{d:Bool→Prop}:eB (.bl c) d=d c:=rfl
theorem eIs{d:Int→Prop}:eI (.int a) d=d a:=rfl
theorem eRs{d:Addr→Prop}:eR (.ref p) d=d p:=rfl
theorem yEs:yEq (.int a) (.int b) H Q=Q (.bl (decide (a=b))) H:=propext Iff.rfl
theorem yNs:yNe (.int a) (.int b) H Q=Q (.bl (!decide (a=b))) H:=propext Iff.rfl
theorem E_:nF i=Be i:=by funext σ H Q;exact zVa
theorem F1{t:TE}:yB t=tB t:=by funext σ H Q;unfold yB tB;simp only[zBl]
theorem kh{h:Int→Int→V}:yI0 h=rI0 h:=by funext x y H Q;simp only[yI0,zIn,rI0];exact propext ⟨by rintro⟨i,d,e,f,g⟩;exact⟨i,e,d,f,g⟩,by rintro⟨i,e,d,f,g⟩;exact⟨i,d,e,f,g⟩⟩
theorem Dy{h:Int→Int→Prop}{j:Int→Int→V}:yI h j=rI h j:=by funext x y H Q;simp only[yI,zIn,rI];exact propext ⟨by rintro⟨i,d,e,f,g⟩;exact⟨i,e,d,f,g⟩,by rintro⟨i,e,d,f,g⟩;exact⟨i,d,e,f,g⟩⟩
theorem Iq{d:Int→V}:yU d=rU d:=by funext x H Q;exact zIn
theorem Fb{K:PySem.W.Frag}{n:Str}:Du K ta n=GA K ta n:=by funext σ H Q;simp only[Du,zRe,zN,zO,GA];congr 1;funext x H1;exact propext ⟨by rintro⟨a,d,e,f,fs,g,k,h,j,l,m⟩;exact⟨a,e,f,fs,j,d,g,k,h,l,m⟩,by rintro⟨a,e,f,fs,j,d,g,k,h,l,m⟩;exact⟨a,d,e,f,fs,g,k,h,j,l,m⟩⟩
theorem Fc:Dv=C2:=by funext x y H Q;simp only[Dv,zRe,zIn,zT,zO,C2];exact propext ⟨by rintro⟨p,d,i,e,f,g,h,a,j⟩;exact⟨p,f,i,h,d,e,g,a,j⟩,by rintro⟨p,f,i,h,d,e,g,a,j⟩;exact⟨p,d,i,e,f,g,h,a,j⟩⟩
theorem Fd:E9=C3:=by funext x y H Q;simp only[E9,zRe,zIn,zL,zO,C3];exact propext ⟨by rintro⟨p,d,i,e,f,g,h,a,j⟩;exact⟨p,f,i,h,d,e,g,a,j⟩,by rintro⟨p,f,i,h,d,e,g,a,j⟩;exact⟨p,d,i,e,f,g,h,a,j⟩⟩
end
end L2
namespace Mc
open PySem PySem.Spec PyProof.Rows L2
section
variable {X : Cx} {a b e : Expr} {ta tb t : TE} {pos : Pos} {f : Str}
theorem pv(c:Nat){pos:Pos}(d:X.N[c]?=some x:=by rfl)(g:Vis X.env.scope x:=by first|exact Or.inl rfl|exact Or.inr (Or.inl rfl)|exact Or.inr (Or.inr rfl))(h:(x==("__debug__":Str))=false:=by decide)(i:(x==("__classdict__":Str))=false:=by decide):PE X (.Name x pos) (nF c):=E_▸L2.pv c d g h i
theorem pt_cmpR{c:CmpOp}(d:OpR X (compareOp c) r)(g:PE X a ta)(h:PE X b tb)(i:behindInMarks c b=false):PT X (.Compare a [c] [b] pos) (yB (tOp r ta tb)):=F1▸L2.pt_cmpR d g h i
theorem pt_val(g:PE X e t)(h:∀c,isTrue e X.env c=(do let d←c;standAt e.pos;holding [d] (truthy d)):=by intro _;rfl):PT X e (yB t):=F1▸L2.pt_val g h
theorem op_add:OpR X (binaryOp .Add) (yI0 λc d=>.int (c+d)):=kh▸L2.op_add
theorem op_sub:OpR X (binaryOp .Sub) (yI0 λc d=>.int (c-d)):=kh▸L2.op_sub
theorem op_mul:OpR X (binaryOp .Mult) (yI yq λc d=>.int (c*d)):=Dy▸L2.op_mul
theorem op_fdiv:OpR X (binaryOp .FloorDiv) (yI Gy λc d=>.int (c/d)):=Dy▸L2.op_fdiv
theorem op_mod:OpR X (binaryOp .Mod) (yI (λ_ c=>0<c) λd c=>.int (d%c)):=Dy▸L2.op_mod
theorem op_lt:OpR X (compareOp .Lt) (yI0 λc d=>.bl (decide (c<d))):=kh▸L2.op_lt
theorem op_le:OpR X (compareOp .LtE) (yI0 λc d=>.bl (decide (c≤d))):=kh▸L2.op_le
theorem op_gt:OpR X (compareOp .Gt) (yI0 λc d=>.bl (decide (d<c))):=kh▸L2.op_gt
theorem op_ge:OpR X (compareOp .GtE) (yI0 λc d=>.bl (decide (d≤c))):=kh▸L2.op_ge
theorem bg:OpR X (compareOp .Eq) yEq:=by unfold yEq;rw[kh];exact Bj λ_ _ _ _ _ _ _ c=>eq_int c
theorem xq:OpR X (compareOp .NotEq) yNe:=by unfold yNe;rw[kh];exact Bj λ_ _ _ _ _ _ _ c=>ne_int c
theorem G9:OpR X (compareOp .Eq) yEb:=by intro g i j l x y v u Q I rx ry h;cases x with
 |bl c=>cases y with|bl d=>cases rx;cases ry;exact eq_bool (yr I h (by cases c<;>cases d<;>rfl))|_=>exact h.elim
 |_=>exact h.elim
theorem un_neg:UnR X (unaryOp .USub) (yU λc=>.int (-c)):=Iq▸L2.un_neg
theorem pe_fld(c:PE X e ta)(d:attributeBase e f X.env (eval e X.env)=eval e X.env):PE X (.Attribute e f pos) (Du X.K ta f):=Fb▸L2.pe_fld c d
theorem ix_tupH:IxR X Dv:=Fc▸L2.ix_tupH
theorem iX{b:Nat}{c:Int}(d:PE X e t):PE X (.Subscript e (.Constant (.int c) b r) pos) (tOp Dv t (tC (.int c))):=b0 ix_tupH d ao (λ_ _=>rfl)
theorem ix_listH:IxR X E9:=Fd▸L2.ix_listH
end
end Mc
namespace Pm
open Vbbhal L2
theorem vD:∀x:List Int,dO x x=false|[]=>rfl|a::b=>by unfold dO;simp[vD b]
theorem Ak:∀{x y:List Int},dO x y=false→dO y x=false→x=y
 |[],[],_,_=>rfl|[],_::_,b,_=>by cases b|_::_,[],_,b=>by cases b|a::h,f::i,c,d=>by
  unfold dO at c d;simp only[Bool.or_eq_false_iff,decide_eq_false_iff_not,Bool.and_eq_false_iff,beq_eq_false_iff_ne]at c d;have g:a=f:=by omega
  subst g;rw[Ak (c.2.resolve_left λe=>e rfl) (d.2.resolve_left λe=>e rfl)]
theorem Al:∀{x y:List Int},dO x y=true→dO y x=false
 |[],[],b=>by cases b|[],_::_,_=>rfl|_::_,[],b=>by cases b|a::c,d::e,b=>by
  unfold dO at b⊢;simp only[Bool.or_eq_true,decide_eq_true_eq,Bool.and_eq_true,beq_iff_eq]at b;simp only[Bool.or_eq_false_iff,decide_eq_false_iff_not,Bool.and_eq_false_iff,beq_eq_false_iff_ne];rcases b with b|⟨b,k⟩;·exact⟨by lia,.inl (by lia)⟩
  ·exact⟨by lia,.inr (Al k)⟩
theorem sg{a:List (List Int)}(nd:a.Nodup)(c:a.Pairwise λx y=>dO y x=false):a.Pairwise λx y=>dO x y=true:=by
 unfold List.Nodup at nd;refine(nd.and c).imp λ{x y}b=>?_;cases z:dO x y;·exact absurd (Ak z b.2) b.1
 ·rfl
theorem iP{d:List (List Int)}(f:d.Pairwise λx y=>dO x y=true):∀{b:Nat}{x:List Int},d[b]?=some x→(d.filter λy=>dO y x).length=b:=by f_assign(induction d with|nil=>intro b x c;simp at c|cons a d g=>
 intro b x c
 obtain⟨e,h⟩:=Ku.mp f;cases b with|zero=>
  have i:a=x:=Lv c;subst i;rw[K8,Mi (by rw[vD];decide)];rw[JM.mpr];·rfl
  · intro y hy;rw [Al (e y hy)];decide|succ b=>have c:d[b]?=some x:=c;rw[K8,Mj (e x (J_ c)),K9,g h c])
theorem Dz{a:List (List Int)}(b:a.Pairwise λx y=>dO x y=true){x:List Int}(d:x∈a)(k:Nat):x∈a.take k↔(a.filter λy=>dO y x).length<k:=by
 rw[Tr.cF];obtain⟨e,c⟩:=JX.mp d;rw[iP b c];constructor;·rintro⟨h,i,f⟩;have:=iP b f;rw[iP b c]at this;lia
 ·intro g;exact⟨e,g,c⟩
def pairOf(a:Nat)(b:List Nat)(c:Nat):List Int:=[-((a*b.getD c 0%b.sum:Nat):Int),(c:Int)]
theorem Fe(a:Nat)(b:List Nat)(c d:Nat):dO (pairOf a b d) (pairOf a b c)=(decide (a*b.getD c 0%b.sum<a*b.getD d 0%b.sum)||(a*b.getD c 0%b.sum==a*b.getD d 0%b.sum&&decide (d<c))):=by unfold pairOf dO dO dO;generalize a*b.getD c 0%b.sum=x;generalize a*b.getD d 0%b.sum=y;rw[Bool.eq_iff_iff];simp;lia
theorem getD_map(c:Nat→Nat)(a:List Nat){b:Nat}(d:b<a.length):(a.map c).getD b 0=c (a.getD b 0):=by rw[Jt,Jt,KL,JA d];rfl
theorem DA(a:Nat)(b:List Nat){d:List (List Int)}(g:d.Perm ((List.range b.length).map (pairOf a b)))(m:d.Pairwise λx y=>dO y x=false){c:Nat}(h:c<b.length):(split a b)[c]?=some (a*b.getD c 0/b.sum+if pairOf a b c∈d.take (a-(b.map λw=>a*w/b.sum).sum)then 1 else 0):=by f_assign(
 have o:((List.range b.length).map (pairOf a b)).Nodup:=by unfold List.Nodup;rw[KO];have:=List.nodup_range (n:=b.length);unfold List.Nodup at this;exact this.imp λ{x y}i l=>i (by unfold pairOf at l;simp only[List.cons.injEq,and_true]at l;lia)
 have nd:d.Nodup:=g.nodup_iff.mpr o;have p:=sg nd m;have q:pairOf a b c∈d:=g.mem_iff.mpr (LX.mpr ⟨c,LC.mpr h,rfl⟩);have r:(d.filter λy=>dO y (pairOf a b c)).length=((List.range b.length).filter λe=>decide ((b.map λw=>a*w%b.sum).getD c 0<(b.map λw=>a*w%b.sum).getD e 0)||((b.map λw=>a*w%b.sum).getD c 0==(b.map λw=>a*w%b.sum).getD e 0&&decide (e<c))).length:=by rw[(g.filter _).length_eq,List.filter_map,Ln];congr 1;apply KI;intro e j;have j:=LC.mp j;show dO (pairOf a b e) (pairOf a b c)=_;rw[Fe,getD_map _ _ h,getD_map _ _ j]
 unfold split;simp only;rw[KL,Kg h];show some _=some _;congr 1;dsimp only;rw[←r];have:=Dz p q (a-(b.map λw=>a*w/b.sum).sum);by_cases f:(d.filter λy=>dO y (pairOf a b c)).length<a-(b.map λw=>a*w/b.sum).sum;·rw[Mj f,Mj (this.mpr f)]
 ·rw[Mi f,Mi (λi=>f (this.mp i))])
theorem split_len(a:Nat)(b:List Nat):(split a b).length=b.length:=by unfold split;simp
theorem BJ(a c:Nat)(b:List Nat):(b.map λw=>a*w/c).sum*c≤a*b.sum:=by induction b with|nil=>simp|cons w b d=>rw[LM,LO,LO,L5,Nat.mul_add];have:=Nat.div_mul_le_self (a*w) c;omega
theorem y8(a:Nat)(b:List Nat)(c:0<b.sum):(b.map λw=>a*w/b.sum).sum≤a:=by have:=BJ a b.sum b;exact Nat.le_of_mul_le_mul_right this c
end Pm
namespace Mc
open PySem PySem.Spec PyProof.Rows L2
def vE(K:PySem.W.Frag)(d:List (Key×V)):Prop:=∀(b:Int)(a c:Nat),PyVbbhal.shape b=some (a,c)→∃t,bt d (Sum.inl b)=some (.ref t)∧∀e,SqT K e t [.int a,.int c]
inductive gL(K:PySem.W.Frag)(TP:Addr)(vs:List V)(H:Hp)(Q:VK)(E:XK):Prop|mk(a:Addr)(l:List Int):vs=[.ref a]→SqL K H a (l.map V.int)→l.length≤16000→PyVbbhal.answers_asked l=true→cy H TP→(∀H' q,(∀b o,H b=some o→b≠TP→H' b=some o)→H q=none→H' q=some (.lst ((PyVbbhal.answers l).map V.int))→Q (.ref q) H')→gL K TP vs H Q E
set_option genInjectivity false in
structure Zt where
 P:Program
 w:World
 K:PySem.W.Frag
 mg:Str→Option Value
 base:Heap
 CA:Addr
 CE:Addr
 CH:Addr
 CR:Addr
 CW:Addr
 TP:Addr
def Claim(a:Zt):Prop:=∀(b:Addr)(c:List (Key×V))(d:Addr)(e:FuncData),Txt a.K a.mg a.CA a.CE a.CH a.CR a.CW a.TP→L2.BMain a.base a.mg→GC a.mg "FORMS" (.ref b)→vE a.K c→uB a.P a.w a.base b c→Fun a.K "answers" "answers" gK d e→jR a.P a.w a.K a.mg a.base CX0 11 d e ["calls"] (gL a.K a.TP)
theorem Ir:Nonempty Zt:=⟨⟨default,⟨λ_ _=>0,{strHash:=λ_=>0,shareClass:=λ_=>0,mergeTok:=id,idOf:=λ_=>0,idOfShared:=λ_ _=>0,followText:=λ_=>false,idOfImm:=λ_=>0}⟩,[],λ_=>none,default,0,0,0,0,0,0⟩⟩
noncomputable def z0:Zt:=@Classical.epsilon _ Ir λa=>¬Claim a
theorem BK(b:Claim z0)(a:Zt):Claim a:=Jw λc=>@Classical.epsilon_spec _ (λa=>¬Claim a) ⟨a,c⟩ b
noncomputable def P:Program:=z0.P
noncomputable def w:World:=z0.w
noncomputable def K:PySem.W.Frag:=z0.K
noncomputable def mg:Str→Option Value:=z0.mg
noncomputable def base:Heap:=z0.base
noncomputable def CA:Addr:=z0.CA
noncomputable def CE:Addr:=z0.CE
noncomputable def CH:Addr:=z0.CH
noncomputable def CR:Addr:=z0.CR
noncomputable def CW:Addr:=z0.CW
noncomputable def TP:Addr:=z0.TP
abbrev Tx:=Txt K mg CA CE CH CR CW TP
abbrev Oz:=Ok P w K mg base
abbrev OzI:=OkI P w K mg base
abbrev OzM:=OkM P w K mg base
end Mc
namespace Mc
open PySem PySem.Spec PyProof.Rows L2
set_option hygiene false
local macro_rules | `(tactic| simp_arith! [$xs,*]) => `(tactic| simp -dsimp only [$xs,*, yB, yEb, yI0, yI, yU, Du, Dv, E9, Ex, Hy, tOp, tUn, rI, rI0, Be, tC, Hw, Hx, FG, FH, Ey, jP, HD, ipI, FC, Hs, Ht, Gv, tOr, Hr, tB, tIf, zM, rA, rq, HK, HL, Cy, t7, t9, tCB, EZ, FK, FL, FJ, HG, sp1, sp2, sp3, sp4, L2.start, List.map_cons, List.map_nil, List.length_cons, List.length_nil, Nat.reduceAdd, Nat.reduceSub, List.replicate, List.cons_append, List.nil_append, List.append_nil, List.getElem?_cons_zero, List.getElem?_cons_succ, List.set_cons_zero, List.set_cons_succ, Nat.zero_add, Option.some.injEq, V.int.injEq, V.bl.injEq, V.ref.injEq, V.str.injEq, List.cons.injEq, and_true, true_and, and_assoc, exists_and_left, exists_and_right, exists_eq_left', exists_eq_left, exists_eq', exists_eq, decide_true, decide_false, decide_eq_true_eq, Gy, Nat.reduceLT, Int.reduceLT, Int.reduceLE, Int.reduceNeg, Int.reduceSub, Int.reduceAdd, Nat.reduceLeDiff, Bool.not_eq_true', Bool.not_eq_eq_eq_not, Bool.not_true, Bool.not_false, if_true, if_false, Bool.false_eq_true, reduceIte, decide_eq_false_iff_not, yJ, G1, aj, at0, at1, at2, at3, at4, HO.tup.injEq, HO.lst.injEq, HO.ins.injEq, wipe, ER, HV, HU, HS, I_, tSl, FO, zQ, HP, HM, CJ, HZ, z4, FR, CM, CN, CP, CQ, tBM, IZ, zU, wZ, oO, j6, ng, jD, oP, j7, tH, vk, vm, tJ, rT, pX, xf, tK, ip, lG, nj, jF, dR, iB, cY, lH, tL, tM, oQ, pY, oR, oS, xh, rV, rW, mr, jG, iM, iN, fK, vo, vq, yP, tN, rX, vt, yQ])
local macro_rules | `(tactic| simp_arith [$xs,*]) => `(tactic| ((try dsimp only [yJ, L2.start, xm1, xm0, List.length_cons, List.length_nil, Nat.reduceAdd, Nat.reduceSub, List.replicate, xap, xan]); (try simp_arith! [↓reduceIte, ↓yVs, ↓yV0, ↓eVs, ↓eBs, ↓eIs, ↓eRs, ↓yEs, ↓yNs, ↓xGs, ↓xG0, ↓xB, ↓xI, ↓xR, ↓xO, ↓xN, ↓xM, ↓xT, ↓xL, ↓xP, ↓xs1, ↓xs2, ↓xs3, ↓xs4, $xs,*]); try simp_arith! [↓xB, ↓xI, ↓xR, ↓yVs, ↓yV0, ↓eVs, ↓eBs, ↓eIs, ↓eRs, ↓yEs, ↓yNs, nF, zVa, zBl, zIn, zRe, yEq, yNe, zO, zN, zT, zL, $xs,*]))
local macro_rules | `(tactic| walk_at "rd") => `(tactic| simp_arith [and_true])
local macro_rules | `(tactic| simp_all_arith [$xs,*]) => `(tactic| ((try refine hk9 _ _ ?_); (try refine uz ?_); (try dsimp only [yJ, L2.start, xm1, xm0, List.length_cons, List.length_nil, Nat.reduceAdd, Nat.reduceSub, List.replicate, xap, xan]); (try simp_arith! [↓reduceIte, ↓xZb, ↓xC, ↓xMe, ↓xMk, ↓yVs, ↓yV0, ↓eVs, ↓eBs, ↓eIs, ↓eRs, ↓yEs, ↓yNs, ↓xGs, ↓xG0, ↓xB, ↓xI, ↓xR, ↓xO, ↓xN, ↓xM, ↓xT, ↓xL, ↓xP, ↓xf1, ↓xf2, ↓xf3, ↓xf4, ↓xs1, ↓xs2, ↓xs3, ↓xs4, $xs,*]); (try simp_arith! [↓xB, ↓xI, ↓xR, ↓yVs, ↓yV0, ↓eVs, ↓eBs, ↓eIs, ↓eRs, ↓yEs, ↓yNs, nF, zVa, zBl, zIn, zRe, yEq, yNe, zO, zN, zT, zL, $xs,*]); (try (refine uz ?_; simp_all_arith [$xs,*])); try refine ab fun k9 hk9 => ?_))
local macro_rules | `(tactic| walk_at "a") => `(tactic| try refine ab fun k9 hk9 => ?_)
local macro_rules | `(tactic| walk_at "x") => `(tactic| refine fg fun X9 hX9 => ?_)
local macro_rules | `(tactic| walk_at "y") => `(tactic| refine hX9 ?_)
local macro_rules | `(tactic| walk_at "go") => `(tactic| simp_all_arith [and_true])
local macro_rules | `(tactic| walk_at "l") => `(tactic| (rintro _ _ _ _ h9; cases h9; subst_vars; rfl))
set_option hygiene true
section
theorem pZ(a:Tx):Oz "is_leap_year" 1 ["year"] (sp1 (λ_=>True) λy=>.bl (Dt.iY y)):=by f_assign(
 have c:=a.fc.fs ["year"];refine a.fc.ok c hZ (λe f g h i j l m n o d=>?_);obtain⟨y,rfl,-,k⟩:=d;refine⟨_,(ae (aG (pt_cmpR bg (aS op_mod (pv 0) ao) ao (aD _)) (ai (aq (dD bg (aS op_mod (pv 0) ao) ao (aD _)))) aw) (ai (aq (dD bg (aS op_mod (pv 0) ao) ao (aD _))))),?_⟩;walk_at"rd";unfold Dt.iY at k;by_cases b:y%100=0;·simp only[b,if_true]at k⊢;exact k
 ·simp only[b,if_false]at k⊢;exact k)
theorem dP(e:Tx):Oz "days_in_month" 2 ["year","month"] (sp2 (λ_ a=>1≤a∧a≤12) λy a=>.int (Dt.B2 y a)):=by f_assign(
 have l:=e.d8.fs ["year","month"];obtain⟨g,m,n⟩:=e.gy;refine e.d8.ok l qH (λr s u v x b z c A o p=>?_);obtain⟨y,a,rfl,⟨B,C⟩,k⟩:=p;refine⟨_,(ae (aG (PW.pt (cq (pt_cmpR bg (pv 1) ao (aD _)) (bZ (pt_val (ag (pZ e) o (aa (pv 0) af)))))) (ai (aq ao)) aw) (ai (aq (b0 oy (aJ m) (aS op_sub (pv 1) ao) (λ_ _=>rfl))))),?_⟩;walk_at"rd";have D:∀b:Hp,EK K (V.ref g) (V.int (a-1)) b c=c (V.int (Dt.Ei.getD (a-1).toNat 0)) b∨True:=λ_=>.inr trivial;have i:c (V.int (Dt.Ei.getD (a-1).toNat 0)) b→EK K (V.ref g) (V.int (a-1)) b c:=λq=>⟨g,_,_,_,rfl,rfl,n b,at_of (j:=(a-1).toNat) (by lia) (by
  have:(a-1).toNat<12:=by lia
  generalize(a-1).toNat=j at this;have:j=0∨j=1∨j=2∨j=3∨j=4∨j=5∨j=6∨j=7∨j=8∨j=9∨j=10∨j=11:=by lia
  rcases this with rfl|rfl|rfl|rfl|rfl|rfl|rfl|rfl|rfl|rfl|rfl|rfl<;>rfl),q⟩;have k:c (V.int (if a=2∧Dt.iY y=true then 29 else Dt.Ei.getD (a-1).toNat 0)) b:=k;by_cases d:a=2
 ·by_cases f:Dt.iY y=true;·rw[Mj ⟨d,f⟩]at k;rw[Mj d,Mj f];exact k
  ·rw[Mi λh=>f h.2]at k;rw[Mj d,Mi f];exact i k
 ·rw[Mi λh=>d h.1]at k;rw[Mi d];exact i k)
theorem gA(a:Tx):Oz "leap_years_up_to" 1 ["year"] (sp1 (λ_=>True) λy=>.int (Dt.Ej y)):=by have b:=a.cN.fs ["year"];refine a.cN.ok b hZ (λd e f g h i j l m n c=>?_);obtain⟨y,rfl,-,k⟩:=c;refine⟨_,(ai (aq (aS op_add (aS op_sub (aS op_fdiv (pv 0) ao) (aS op_fdiv (pv 0) ao)) (aS op_fdiv (pv 0) ao)))),?_⟩;walk_at"rd";exact k
theorem dS(a:Tx):Oz "days_before_year" 2 ["year"] (sp1 (λ_=>True) λy=>.int (Dt.pB y)):=by f_assign(have b:=a.cO.fs ["year","leap_days"];refine a.cO.ok b hZ (λe f g h i j l m n c d=>?_);obtain⟨y,rfl,-,k⟩:=d;refine⟨_,(ae (sT 1 b.nd (aS op_sub (ag (gA a) c (aa (aS op_sub (pv 0) ao) af)) (ag (gA a) c (aa (aS op_sub (aJ a.fG) ao) af)))) (ai (aq (aS op_add (aS op_mul ao (aS op_sub (pv 0) (aJ a.fG))) (pv 1))))),?_⟩;walk_at"rd";exact⟨yL (by decide) (by decide),k⟩)
theorem y9(c:Tx):Oz "year_of" 3 ["day"] (λg d h _=>∃b:Nat,g=[.int b]∧1≤b∧b≤365243∧∀a:Nat,a<1000→Vbbhal.daysBefore (12*a)<b→b≤Vbbhal.daysBefore (12*(a+1))→h (.int (1900+a:Nat)) d):=by f_assign(
 have e:=c.lh.fs ["day","year"];refine c.lh.ok e (by rintro _ _ _ _⟨_,o,_⟩;rw[o];rfl) (λy z A B C d g h D p f=>?_);obtain⟨b,rfl,q,r,k⟩:=f;refine⟨_,(ae (sT 1 e.nd (aS op_add (aJ c.fG) (aS op_fdiv (aS op_sub (pv 0) ao) ao))) (ae (jQ Lw (pt_cmpR op_lt (ag (dS c) p (aa (aS op_add (pv 1) ao) af)) (pv 0) (aD _)) (ai (iz (i:=1) e.nd rfl (Or.inl rfl) ao i6))) (ai (aq (pv 1))))),?_⟩;walk_at"rd";refine⟨λj l m=>m=d∧∃a:Nat,l=[some (.int b),some (.int (1900+a:Nat))]∧a<1000∧Vbbhal.daysBefore (12*a)<b∧j=1000-a,⟨_,rfl,(b-1)/366,?_,by lia,Dt.B4 q,rfl⟩,?_⟩;·congr 4;lia
 ·rintro j l m⟨rfl,a,rfl,s,u,rfl⟩;walk_at"rd";have v:=Dt.qQ (a+1);have x:Dt.pB (((1900+a:Nat):Int)+1)=Dt.pB ((1900+(a+1):Nat):Int):=by congr 1
  rw[x,v];by_cases n:(Vbbhal.daysBefore (12*(a+1)):Int)<(b:Int)
  ·rw[Mj n];refine⟨_,λ_ _ f=>f,?_⟩;refine⟨1000-(a+1),?_,rfl,a+1,?_,?_,by lia,rfl⟩;·lia
   ·congr 3
   ·exact Dt.Ek r (by lia)
  ·rw[Mi n];exact k a s u (by lia))
theorem si(c:Tx):Oz "date_of" 4 ["day"] (λl g m _=>∃b:Nat,l=[.int b]∧1≤b∧b≤365243∧∀(k:Nat)(f:Addr),k<12000→Vbbhal.daysBefore k<b→b≤Vbbhal.daysBefore (k+1)→g f=none→m (.ref f) (upd g f (.tup [.int (1900+k/12:Nat),.int (k%12+1:Nat),.int (b-Vbbhal.daysBefore k:Nat)]))):=by f_assign(
 have d:=c.lj.fs ["day","year","rest","month"];refine c.lj.ok d (by rintro _ _ _ _⟨_,u,_⟩;rw[u];rfl) (λC D E F G g l m H h e=>?_);obtain⟨b,rfl,v,x,k⟩:=e;refine⟨_,(ae (sT 1 d.nd (ag (y9 c) h (aa (pv 0) af))) (ae (sT 2 d.nd (aS op_sub (pv 0) (ag (dS c) h (aa (pv 1) af)))) (ae (sT 3 d.nd ao) (ae (jQ Lw (pt_cmpR op_gt (pv 2) (ag (dP c) h (aa (pv 1) (aa (pv 3) af))) (aD _)) (ae (iz (i:=2) d.nd rfl (Or.inl rfl) (ag (dP c) h (aa (pv 1) (aa (pv 3) af))) Ct) (ai (iz (i:=3) d.nd rfl (Or.inl rfl) ao i6)))) (ai (aq (fQ (aa (pv 1) (aa (pv 3) (aa (pv 2) af)))))))))),?_⟩;walk_at"rd";refine⟨b,rfl,v,x,λa I y z=>?_⟩;rw[Dt.qQ];obtain⟨W,j⟩:∃W:Nat→L2.St→Hp→Prop,W=λn o p=>p=g∧∃i:Nat,o=[some (.int b),some (.int (1900+a:Nat)),some (.int (b-Vbbhal.daysBefore (12*a+i):Nat)),some (.int (i+1:Nat))]∧i<12∧Vbbhal.daysBefore (12*a+i)<b∧n=12-i:=⟨_,rfl⟩;refine⟨W,⟨12,?_⟩,?_⟩;·rw[j];refine⟨rfl,0,?_,by lia,y,rfl⟩;simp only[Nat.add_zero];rw[show((b-Vbbhal.daysBefore (12*a):Nat):Int)=(b:Int)-(Vbbhal.daysBefore (12*a):Int)by lia];rfl
 ·rintro n o p e;rw[j]at e;obtain⟨rfl,i,rfl,J,A,rfl⟩:=e;have q:=Dt.ya (12*a+i);rw[show(12*a+i)/12=a by lia,show(12*a+i)%12=i by lia]at q;have r:=Dt.gX (12*a+i);have L:Vbbhal.daysBefore (12*a+(i+1))=Vbbhal.daysBefore (12*a+i)+Vbbhal.monthLength (12*a+i):=r;walk_at"rd";refine⟨by lia,by lia,?_⟩;rw[q];by_cases s:(Vbbhal.monthLength (12*a+i):Int)<(b-Vbbhal.daysBefore (12*a+i):Nat)
  ·rw[Mj s];refine⟨_,λ_ _ e=>e,?_⟩;refine⟨by lia,by lia,12-(i+1),by lia,?_⟩;rw[j];refine⟨rfl,i+1,?_,?_,by rw[←Nat.add_assoc];lia,rfl⟩;·rw[←Nat.add_assoc,r];congr 3;·congr 2;lia
   ·exact Dt.yb z (by lia)
  ·rw[Mi s];refine⟨by show 3≤sizeLine;decide,λf B=>?_⟩;have:=k (12*a+i) f (by lia) A (by lia) B;rw[show(12*a+i)/12=a by lia,show(12*a+i)%12=i by lia]at this;exact this)
theorem jz(a:Tx):Oz "month_number" 1 ["year","month"] (sp2 (λ_ _=>True) λy b=>.int ((y-1900)*12+b-1)):=by have c:=a.fe.fs ["year","month"];refine a.fe.ok c qH (λe f g h i j l m n o d=>?_);obtain⟨y,b,rfl,-,k⟩:=d;refine⟨_,(ai (aq (aS op_sub (aS op_add (aS op_mul (aS op_sub (pv 0) (aJ a.fG)) ao) (pv 1)) ao))),?_⟩;walk_at"rd";exact⟨wY (by decide) (by decide),k⟩
theorem dw(c:Tx):Oz "month_of" 5 ["day"] (λd e f _=>∃a:Nat,d=[.int a]∧1≤a∧a≤365243∧∀g,au e g→f (.int (Vbbhal.monthOf a)) g):=by f_assign(have h:=c.jb.fs ["day","date"];refine c.jb.ok h (by rintro _ _ _ _⟨_,j,_⟩;rw[j];rfl) (λu v x y z e d f A i l=>?_);obtain⟨a,rfl,m,n,k⟩:=l;refine⟨_,(ae (sT 1 h.nd (ag (si c) i (aa (pv 0) af))) (ai (aq (ag (jz c) i (aa (iX (pv 1)) (aa (iX (pv 1)) af)))))),?_⟩;walk_at"rd";refine⟨a,rfl,m,n,λb B p q r s=>?_⟩;have:=k _ (au.new s (o:=.tup [.int (1900+b/12:Nat),.int (b%12+1:Nat),.int (a-Vbbhal.daysBefore b:Nat)]));rw[Dt.Fx p q r]at this;rw[show(((1900+b/12:Nat):Int)-1900)*12+((b%12+1:Nat):Int)-1=(b:Int)by lia];exact this)
theorem lY(a:Tx):Oz "weekday_of" 1 ["day"] (sp1 (λ_=>True) λb=>.int ((b-1)%7+1)):=by have c:=a.gC.fs ["day"];refine a.gC.ok c hZ (λe f g h i j l m n o d=>?_);obtain⟨y,rfl,-,k⟩:=d;refine⟨_,(ai (aq (aS op_add (aS op_mod (aS op_sub (pv 0) ao) ao) ao))),?_⟩;walk_at"rd";exact k
theorem BL(e:Tx):Oz "day_of" 3 ["year","month","day_of_month"] (λp h q _=>∃(k:Nat)(c:Int),p=[.int (1900+k/12:Nat),.int (k%12+1:Nat),.int c]∧q (.int (Vbbhal.daysBefore k+c)) h):=by f_assign(
 have f:=e.m7.fs ["year","month","day_of_month","day","earlier"];refine e.m7.ok f (by rintro _ _ _ _⟨_,_,u,_⟩;rw[u];rfl) (λv x y z A h p q B r d=>?_);obtain⟨j,c,rfl,k⟩:=d;refine⟨_,(ae (sT 3 f.nd (aS op_add (ag (dS e) r (aa (pv 0) af)) (pv 2))) (ae (bW Lw rfl (Bh rfl e.AW (aa ao (aa (pv 1) af))) (gN 4 f.nd) (ai (iz (i:=3) f.nd rfl (Or.inl rfl) (ag (dP e) r (aa (pv 0) (aa (pv 4) af))) i6))) (ai (aq (pv 3))))),?_⟩;walk_at"rd";obtain⟨a,i,rfl,C⟩:∃a i,j=12*a+i∧i<12:=⟨j/12,j%12,by lia,by lia⟩;rw[show(12*a+i)/12=a by lia,show(12*a+i)%12=i by lia]at*;rw[Dt.qQ];refine⟨by lia,by lia,by lia,by lia,?_⟩;rw[show(((i+1:Nat):Int)-1).toNat=i by lia];obtain⟨l,g⟩:∃l:Nat→L2.St→Hp→Prop,l=λb m n=>n=h∧∃o,m=[some (.int (1900+a:Nat)),some (.int (i+1:Nat)),some (.int c),some (.int (Vbbhal.daysBefore (12*a+b)+c)),o]:=⟨_,rfl⟩;refine t6 l ?_ ?_ ?_;·rw[g];exact⟨rfl,none,rfl⟩
 ·rintro b m n D d;rw[g]at d;obtain⟨rfl,o,rfl⟩:=d;have s:=Dt.ya (12*a+b);rw[show(12*a+b)/12=a by lia,show(12*a+b)%12=b by lia]at s;walk_at"rd";rw[show(1+(b:Int))=((b+1:Nat):Int)by lia,s];refine⟨by lia,by lia,?_⟩;rw[g];refine⟨rfl,some (.int (b+1:Nat)),?_⟩;rw[←Nat.add_assoc,Dt.gX];rw[show((Vbbhal.daysBefore (12*a+b):Int)+c+(Vbbhal.monthLength (12*a+b):Int))=(((Vbbhal.daysBefore (12*a+b)+Vbbhal.monthLength (12*a+b):Nat):Int)+c)by lia]
 ·rintro m n d;rw[g]at d;obtain⟨rfl,o,rfl⟩:=d;walk_at"rd";exact k)
end
section
def cv(a:Vbbhal.Bytes):List V:=a.map λb=>V.int (b.toNat:Int)
theorem iQ(a:Vbbhal.Bytes):(cv a).length=a.length:=Ln ..
theorem aL(e:Tx):Oz "is_within" 1 ["value","least","greatest"] (sp3 (λ_ _ _=>True) λa b d=>.bl (Vbbhal.inside a b d)):=by f_assign(
 have f:=e.h_.fs ["value","least","greatest"];refine e.h_.ok f EX (λj l m n o g p h q r i=>?_);obtain⟨a,b,d,rfl,-,k⟩:=i;refine⟨_,(ai (aq (uY (dD op_le (pv 1) (pv 0) (aD _)) (jO (dD op_le (pv 0) (pv 2) (aD _)))))),?_⟩;walk_at"rd";have k:h (.bl (Vbbhal.inside a b d)) g:=k;unfold Vbbhal.inside at k;by_cases c:b≤a;·rw[Mj c];simpa only[c,true_and]using k
 ·rw[Mi c];simpa only[c,false_and,decide_false]using k)
theorem iR(a:Tx):Oz "is_day" 2 ["value"] (sp1 (λ_=>True) λb=>.bl (Vbbhal.isDay b)):=by have c:=a.m8.fs ["value"];refine a.m8.ok c hZ (λf g h i j l m n o d e=>?_);obtain⟨b,rfl,-,k⟩:=e;refine⟨_,(ai (aq (ag (aL a) d (aa (pv 0) (aa ao (aa (aJ a.sZ) af)))))),?_⟩;walk_at"rd";exact k
theorem dQ(a:Tx):Oz "is_amount" 2 ["value","least"] (sp2 (λ_ _=>True) λb c=>.bl (Vbbhal.isAmount b c)):=by have d:=a.ic.fs ["value","least"];refine a.ic.ok d qH (λg h i j l m n o p e f=>?_);obtain⟨b,c,rfl,-,k⟩:=f;refine⟨_,(ai (aq (ag (aL a) e (aa (pv 0) (aa (pv 1) (aa (aJ a.nY) af)))))),?_⟩;walk_at"rd";exact k
theorem p_(a:Tx):Oz "is_code_byte" 2 ["byte"] (sp1 (λ_=>True) λe=>.bl (Vbbhal.inside e 65 90||Vbbhal.inside e 48 57)):=by f_assign(
 have d:=a.ff.fs ["byte","is_letter","is_digit"];refine a.ff.ok d hZ (λj l m n o g p h q f i=>?_);obtain⟨b,rfl,-,k⟩:=i;refine⟨_,(ae (sT 1 d.nd (ag (aL a) f (aa (pv 0) (aa (aF mQ (by rfl) a.AU vg (aa uX af)) (aa (aF mQ (by rfl) a.AU vg (aa uX af)) af))))) (ae (sT 2 d.nd (ag (aL a) f (aa (pv 0) (aa (aF mQ (by rfl) a.AU vg (aa uX af)) (aa (aF mQ (by rfl) a.AU vg (aa uX af)) af))))) (ai (aq (zJ (pv 1) (jO (pv 2))))))),?_⟩;walk_at"rd";refine⟨rfl,rfl,rfl,rfl,?_⟩;have k:h (.bl (Vbbhal.inside b 65 90||Vbbhal.inside b 48 57)) g:=k;show if Vbbhal.inside b 65 90=true then _ else _;cases c:Vbbhal.inside b 65 90;·rw[c]at k;exact k
 ·rw[c]at k;exact k)
def cbV:V→V|.int a=>.bl (Vbbhal.inside a 65 90||Vbbhal.inside a 48 57)|_=>.bl false
theorem vF{a:Vbbhal.Bytes}(b:Vbbhal.inside (a.length:Int) 1 8=false):Vbbhal.isCode a=false:=by
 unfold Vbbhal.isCode;unfold Vbbhal.inside at b;have:¬(1≤a.length∧a.length≤8):=λc=>by simp at b;lia
 simp[this]
theorem xr{b:Vbbhal.Bytes}(c:¬Vbbhal.inside (b.length:Int) 1 8=false):Vbbhal.isCode b=((b.map λa=>(Vbbhal.inside (a.toNat:Int) 65 90||Vbbhal.inside (a.toNat:Int) 48 57)).all id):=by
 have c:=Gm.aX.mp (Gm.tof c);unfold Vbbhal.isCode;have:(1≤b.length∧b.length≤8):=by omega
 rw[LF this,Bool.true_and,List.all_map];apply List.all_congr rfl;intro a;unfold Vbbhal.inside;show _=(decide (65≤(a.toNat:Int)∧(a.toNat:Int)≤90)||decide (48≤(a.toNat:Int)∧(a.toNat:Int)≤57));congr 1;·apply Lf.mpr;omega
 ·apply Lf.mpr;omega
theorem gR(b:Tx):Oz "is_code" 3 ["text"] (λm c n _=>∃e a,m=[.ref e]∧c e=some (.tup (cv a))∧∀h,au c h→n (.bl (Vbbhal.isCode a)) h):=by f_assign(
 have g:=b.ll.fs ["text","byte"];refine b.ll.ok g (by rintro _ _ _ _⟨_,_,q,_⟩;rw[q];rfl) (λs u v y z c m n A p i=>?_);obtain⟨e,a,rfl,j,k⟩:=i;refine⟨_,(ae (aG (ba (pt_val (ag (aL b) p (aa (aF fR (by rfl) b.bT bh (aa (pv 0) af)) (aa ao (aa (aJ b.tf) af)))))) (ai (aq rf)) aw) (ai (aq (aF (yE rfl) (by rfl) b.Eh yK (aa (hG rfl g.nd (rh (pv 0)) (bS (l:=[("byte",1)]) g) (λ_ _ _ _ _=>gN 1 g.nd) (λ_ _ _ _ _=>fb) (λ_ _ _ _ _=>(ag (p_ b) p (aa (pv 1) af)))) af))))),?_⟩;walk_at"rd";refine⟨_,j,?_⟩;rw[iQ];by_cases f:Vbbhal.inside (a.length:Int) 1 8=false;·rw[Mj f];have:=k c (au.refl c);rw[vF f]at this;exact this
 ·rw[Mi f];refine⟨⟨_,SqT.of j⟩,Af (SqT.of j) (by rw[iQ];have:=Gm.aX.mp (Gm.tof f);show a.length≤2^24;lia) cbV ?_ ?_ (λx B C D c i=>i _ _)⟩;·intro x hx h Qe _ e;obtain⟨d,_,rfl⟩:=LX.mp hx;walk_at"rd";exact e
  ·intro E r;walk_at"rd";refine⟨a.map λd=>(Vbbhal.inside (d.toNat:Int) 65 90||Vbbhal.inside (d.toNat:Int) 48 57),?_,?_⟩
   ·have:(cv a).map cbV=(a.map λd=>(Vbbhal.inside (d.toNat:Int) 65 90||Vbbhal.inside (d.toNat:Int) 48 57)).map V.bl:=by unfold cv;rw[LV,LV];rfl
    rw[this];exact SqL.of aj
   ·have:=k _ (au.new r (o:=.lst ((cv a).map cbV)));rw[xr f]at this;exact this)
theorem dU(c:Tx):Oz "is_code_or_empty" 4 ["text"] (λf b g _=>∃e a,f=[.ref e]∧b e=some (.tup (cv a))∧∀d,au b d→g (.bl (decide (a=[])||Vbbhal.isCode a)) d):=by f_assign(have i:=c.cP.fs ["text"];refine c.cP.ok i (by rintro _ _ _ _⟨_,_,j,_⟩;rw[j];rfl) (λo p q r s b f g u l m=>?_);obtain⟨e,a,rfl,h,k⟩:=m;refine⟨_,(ai (aq (zJ (dD bg (aF fR (by rfl) c.bT bh (aa (pv 0) af)) ao (aD _)) (jO (ag (gR c) l (aa (pv 0) af)))))),?_⟩;walk_at"rd";refine⟨_,h,?_⟩;rw[iQ];cases a with|nil=>exact k b (au.refl b)|cons v a=>rw[Mi (by simp;lia)];exact⟨_,h,λd n=>by simpa using k d n⟩)
inductive jl(H:Hp):List Addr→List (List Int)→Prop|nil:jl H [] []|cons{a:Addr}{c:List Int}{as:List Addr}{cs:List (List Int)}:h8 H a c→jl H as cs→jl H (a::as) (c::cs)
theorem jl.get:∀{as:List Addr}{d:List (List Int)}{i:Nat}{a:Addr},jl H as d→as[i]?=some a→∃b,d[i]?=some b∧h8 H a b:=by intro as d i a h;induction h generalizing i with|nil=>exactλc=>nomatch c|@cons _ b _ _ e t f=>intro c;cases i with|zero=>cases Lv c;exact⟨b,rfl,e⟩|succ i=>obtain⟨b,g,j⟩:=f (i:=i) c;exact⟨b,g,j⟩
theorem jl.len:∀{as:List Addr}{a:List (List Int)},jl H as a→as.length=a.length|_,_,.nil=>rfl|_,_,.cons _ t=>by rw[K9,K9,t.len]
def flat(b:List (List Int)):List Int:=b.flatMap λa=>(a.length:Int)::a
theorem uC(b:List (List Int))(a:List Int):flat (b++[a])=flat b++(a.length:Int)::a:=by unfold flat;simp
theorem BM(a:List (List Int))(b:Nat):(flat (a.take b)).length≤(flat a).length:=by
 have c:flat a=flat (a.take b)++flat (a.drop b):=by unfold flat;rw[←List.flatMap_append,List.take_append_drop]
 rw[c,Kr];lia
inductive sj(vs:List V)(H:Hp)(Q:VK)(E:XK):Prop|mk(n:Int)(l:Addr)(as:List Addr)(nss:List (List Int)):vs=[.int n,.ref l]→H l=some (.lst (as.map V.ref))→jl H as nss→(flat nss).length≤100000→(∀H' p,au H H'→H p=none→H' p=some (.lst ((n::flat nss).map V.int))→Q (.ref p) H')→sj vs H Q E
theorem gH(m:Tx):Oz "with_rows" 1 ["first","rows"] sj:=by f_assign(
 have n:=m.ie.fs ["first","rows","answer","row"];refine m.ie.ok n (by walk_at"l") (λL M N O Q E R S T U b=>?_);obtain⟨u,F,as,v,rfl,o,y,X,k⟩:=b;refine⟨_,(ae (sT 2 n.nd (aC (aa (pv 0) af))) (ae (bW Lw rfl (bE (pv 1)) (gN 3 n.nd) (ae (de (iG JH JB JC dE (pv 2) (aa (aF Bx (by rfl) m.bT bh (aa (pv 3) af)) af))) (ai (de (iG JH PySem.F.slot_list_extend PySem.F.type_list_extend ml (pv 2) (aa (pv 3) af)))))) (ai (aq (pv 2))))),?_⟩;walk_at"rd";refine⟨by decide,λf g=>⟨⟨_,SqL.of (by rw[ak (ay o g)];exact o)⟩,?_⟩⟩;obtain⟨p,h⟩:∃p:Nat→L2.St→Hp→Prop,p=λi j c=>∃l,j=[some (.int u),some (.ref F),some (.ref f),l]∧au E c∧c f=some (.lst ((u::flat (v.take i)).map V.int)):=⟨_,rfl⟩;refine dZ (xs:=as.map V.ref) p ?_ ?_ ?_ ?_;·rw[h];exact⟨none,rfl,au.new g,aj⟩
 ·rintro i j c Y b;rw[h]at b;obtain⟨l,rfl,d,e⟩:=b;exact SqL.of (d _ _ o)
 ·rintro i x j c hx b;rw[h]at b;obtain⟨l,rfl,d,e⟩:=b;rw[KL]at hx;obtain⟨a,G,rfl⟩:=JQ.mp hx;obtain⟨r,z,A⟩:=y.get G;have B:=A.same d;have H:=BM v (i+1);rw[take_snoc z,uC,Kr,K9]at H;have C:a≠f:=A.ne g;walk_at"rd";refine⟨tyL e,r,B,_,e,by rw[Ln,K9];show _<2^24;lia,tyL aj,r,?_,?_,?_⟩
  ·rcases B with q|q;·exact .inl (by rw[ak C];exact q)
   ·exact .inr (by rw[ak C];exact q)
  ·rw[Kr,Ln,K9];show _+r.length≤2^24;simp only[List.length_cons,List.length_nil];lia
  ·rw[h];refine⟨_,rfl,λD I s=>?_,?_⟩
   ·have:D≠f:=λJ=>by rw[J,g]at s;cases s
    rw[ak this,ak this];exact d D I s
   ·rw[aj,take_snoc z,uC];simp
 ·rintro j c b;rw[h]at b;obtain⟨l,rfl,d,e⟩:=b;rw[Ln,y.len,Lb]at e;walk_at"rd";exact k c f d g e)
inductive uD(vs:List V)(H:Hp)(Q:VK)(E:XK):Prop|mk(n:Int)(l:Addr)(ns:List Int):vs=[.int n,.ref l]→h8 H l ns→ns.length≤99999→(∀H' p,au H H'→H p=none→H' p=some (.lst ((n::(ns.length:Int)::ns).map V.int))→Q (.ref p) H')→uD vs H Q E
theorem bx(a:Tx):Oz "with_row" 2 ["first","row"] uD:=by f_assign(have c:=a.jd.fs ["first","row"];refine a.jd.ok c (by walk_at"l") (λq r s u v x y z A d e=>?_);obtain⟨f,g,h,rfl,i,B,k⟩:=e;refine⟨_,(ai (aq (ag (gH a) d (aa (pv 0) (aa (aC (aa (pv 1) af)) af))))),?_⟩;walk_at"rd";refine⟨by decide,λj b=>?_⟩;refine⟨f,j,[g],[h],rfl,aj,.cons (i.same (au.new b)) .nil,by simp[flat];omega,λl m n o p=>k l m ((au.new b).trans n) ((au.new b).free o) ?_⟩;simpa[flat]using p)
def qb(b:Hp)(c a:Addr)(d:Nat):Prop:=∃e,b c=some (.ins CR e (bQ (.ref a) (.int d)))
inductive DB(K:PySem.W.Frag)(vs:List V)(H:Hp)(Q:VK)(E:XK):Prop|mk(p a:Addr)(l:List Int)(pl sz:Nat):vs=[.ref p,.int sz]→qb H p a pl→SqL K H a (l.map V.int)→pl+sz≤l.length→l.length≤16000→(∀H' q,qb H' p a (pl+sz)→(∀b o,H b=some o→b≠p→H' b=some o)→H q=none→H' q=some (.tup (((l.drop pl).take sz).map V.int))→Q (.ref q) H')→DB K vs H Q E
theorem gS(d:Tx):OzM CR "take" 1 ["self","size"] (DB K):=by f_assign(
 have i:=d.me.fs ["self","size","start"];refine d.me.ok i (by walk_at"l") (λy z A B C o D E F G p=>?_);obtain⟨j,a,H,I,sz,rfl,⟨q,l⟩,r,s,J,k⟩:=p;refine⟨_,(ae (sT 2 i.nd (pe_fld (pv 0) rfl)) (ae (bf (pv 0) (aS op_add (pv 2) (pv 1)) rfl) (ai (aq (uf tD (by rfl) d.Fu C1 (aa (mT u9 (pe_fld (pv 0) rfl) (mS (pv 2)) (mS (aS op_add (pv 2) (pv 1)))) af)))))),?_⟩;simp_arith[l,d.gv];refine⟨_,r.updI l,λf e=>?_⟩;have m:j≠f:=λc=>by rw[←c,aj]at e;cases e
 have u:o f=none:=by rw[ak m.symm]at e;exact e
 rw[E2 _ _ _ (by rw[Ln];exact s)];refine⟨_,.inl ⟨SqL.of aj,λc b=>?_⟩⟩;have v:f≠c:=λg=>by rw[←g,aj]at b;cases b
 rw[ak v.symm]at b;have n:j≠c:=λg=>by rw[←g,aj]at b;cases b
 rw[ak n.symm]at b;refine k _ c ⟨q,?_⟩ (λL M h x=>?_) b ?_;·rw[ak n,ak m,aj];rfl
 ·rw[ak (ay h b),ak (ay h u),ak x];exact h
 ·rw[aj,←List.map_drop,←List.map_take])
theorem fL(e:Tx):OzM CR "take_number" 2 ["self"] (λm g n _=>∃(b a:Addr)(c:List Int)(d:Nat)(h:Int),m=[.ref b]∧qb g b a d∧SqL K g a (c.map V.int)∧c[d]?=some h∧c.length≤16000∧∀f,qb f b a (d+1)→(∀j o,g j=some o→j≠b→f j=some o)→n (.int h) f):=by f_assign(
 have r:=e.gr.fs ["self"];refine e.gr.ok r (by rintro _ _ _ _⟨_,_,_,_,_,i,_⟩;rw[i];rfl) (λC D E F G g m n H s u=>?_);obtain⟨b,a,c,d,h,rfl,p,v,l,x,k⟩:=u;obtain⟨I,y⟩:=id p;refine⟨_,(ai (aq (b0 ix_tupH (iJ e.gu (gS e) s (pv 0) (aa ao af)) ao (λ_ _=>rfl)))),?_⟩;simp_arith[y,e.gv];have q:=(Jx.mp l).1;refine⟨b,a,c,d,1,rfl,p,v,by lia,x,λf z A fr J i=>?_⟩;have B:(c.drop d).take 1=[h]:=by rw[List.drop_eq_getElem_cons q,List.take_succ_cons,LD];rw[JA q]at l;rw[Lv l]
 rw[B]at i;exact⟨z,rfl,_,i,_,at0,k f A fr⟩)
theorem lJ(d:Tx):OzM CR "is_at_end" 1 ["self"] (λg e h _=>∃(f a:Addr)(b:List Int)(c:Nat),g=[.ref f]∧qb e f a c∧SqL K e a (b.map V.int)∧h (.bl (decide (b.length≤c))) e):=by f_assign(have i:=d.gU.fs ["self"];refine d.gU.ok i (by rintro _ _ _ _⟨_,_,_,_,j,_⟩;rw[j];rfl) (λo p q r s e g h u v l=>?_);obtain⟨f,a,b,c,rfl,⟨x,m⟩,n,k⟩:=l;refine⟨_,(ai (aq (dD op_ge (pe_fld (pv 0) rfl) (aF Bw (by rfl) d.bT bh (aa (pe_fld (pv 0) rfl) af)) (aD _)))),?_⟩;simp_arith[m,d.gv];refine⟨_,n,?_⟩;rw[Ln];rw[show decide ((b.length:Int)≤(c:Int))=decide (b.length≤c)by apply Lf.mpr;lia];exact k)
inductive DC(K:PySem.W.Frag)(vs:List V)(H:Hp)(Q:VK)(E:XK):Prop|mk(p a:Addr)(l:List Int)(pl:Nat)(xs:List (List Int))(t:List Int):vs=[.ref p,.int xs.length]→qb H p a pl→SqL K H a (l.map V.int)→l.drop pl=PyFlat.putRows xs++t→l.length≤16000→xs.length≤2→(∀(H':Hp)(q:Addr)(as:List Addr),qb H' p a (pl+(PyFlat.putRows xs).length)→(∀b o,H b=some o→b≠p→H' b=some o)→H q=none→H' q=some (.lst (as.map V.ref))→as.length=xs.length→(∀(i:Nat)x c,xs[i]?=some x→as[i]?=some c→H' c=some (.tup (x.map V.int))∧H c=none)→Q (.ref q) H')→DC K vs H Q E
theorem nG:∀(a:List (List Int))(x:List Int),PyFlat.putRows (a++[x])=PyFlat.putRows a++PyFlat.putRow x|[],x=>by simp[PyFlat.putRows]|y::a,x=>by simp only[List.cons_append,PyFlat.putRows,nG a x,List.append_assoc]
theorem lZ:∀(a:List (List Int))(b:Nat)(x:List Int),a[b]?=some x→PyFlat.putRows a=PyFlat.putRows (a.take b)++(PyFlat.putRow x++PyFlat.putRows (a.drop (b+1)))|[],b,x,c=>by simp at c|y::a,0,x,c=>by have e:y=x:=Lv c;subst e;simp[PyFlat.putRows]|y::a,b+1,x,c=>by have d:=lZ a b x (by simpa using c);simp only[PyFlat.putRows,List.take_succ_cons,List.drop_succ_cons,List.append_assoc]at d⊢;rw[d]
theorem lK(i:Tx):OzM CR "take_rows" 3 ["self","size"] (DC K):=by f_assign(
 have H:=i.gT.fs ["self","size","rows","place"];refine i.gT.ok H (by walk_at"l") (λa3 a4 a5 a6 a7 C a8 a9 bd Z d=>?_);obtain⟨j,a,p,D,c,t,rfl,I,aA,aE,ac,bi,k⟩:=d;refine⟨_,(ae (sT 2 H.nd (aC af)) (ae (bW Lw rfl (Bg rfl i.AW (aa (pv 1) af)) (gN 3 H.nd) (ai (de (iG JH JB JC dE (pv 2) (aa (iJ i.gu (gS i) Z (pv 0) (aa (oH i.gu (fL i) Z (pv 0)) af)) af))))) (ai (aq (pv 2))))),?_⟩;simp_arith[i.gv];refine⟨by decide,λl E=>⟨by lia,by lia,?_⟩⟩;have J:j≠l:=by obtain⟨L,z⟩:=I;exact ay z E
 obtain⟨M,F⟩:∃M:Nat→L2.St→Hp→Prop,M=λb N m=>∃(O:Option V)(as:List Addr),N=[some (.ref j),some (.int c.length),some (.ref l),O]∧qb m j a (D+(PyFlat.putRows (c.take b)).length)∧(∀f g,C f=some g→f≠j→m f=some g)∧m l=some (.lst (as.map V.ref))∧as.length=b∧(∀(n:Nat)x h,c[n]?=some x→as[n]?=some h→m h=some (.tup (x.map V.int))∧C h=none):=⟨_,rfl⟩;refine t6 M ?_ ?_ ?_
 ·rw[F];refine⟨none,[],rfl,?_,λf g A q=>?_,aj,rfl,λn x h _ d=>by simp at d⟩;·obtain⟨L,z⟩:=I;exact⟨L,by rw[ak J];exact z⟩
  ·rw[ak (ay A E)];exact A
 ·rintro b N m Q d;rw[F]at d;obtain⟨O,as,rfl,r,fr,s,u,R⟩:=d;have Q:b<c.length:=by simpa using Q
  have S:c[b]?=some c[b]:=JA Q;have aI:=lZ c b _ S;have ah:SqL K m a (p.map V.int):=SqL.fr aA fr (by obtain⟨L,z⟩:=I;exact⟨_,_,_,z⟩);have al:p.drop (D+(PyFlat.putRows (c.take b)).length)=(c[b].length:Int)::(c[b]++(PyFlat.putRows (c.drop (b+1))++t)):=by rw[←LB,aE,aI];simp only[List.append_assoc];rw[List.drop_left];simp only[PyFlat.putRow,List.cons_append]
  have am:p[D+(PyFlat.putRows (c.take b)).length]?=some (c[b].length:Int):=by rw[←List.head?_drop,al];rfl
  have an:p.drop (D+(PyFlat.putRows (c.take b)).length+1)=c[b]++(PyFlat.putRows (c.drop (b+1))++t):=by rw[←LB,al];rfl
  obtain⟨bj,T⟩:=id r;simp_arith[T,i.gv];have U:l≠j:=J.symm;refine⟨tyL s,a,p,_,r,ah,_,am,ac,λbl ap v=>?_⟩;have aK:=Me List.length an;simp only[List.length_drop,List.length_append]at aK;have bm:=(Jx.mp am).1;refine⟨j,a,p,_,c[b].length,rfl,ap,SqL.fr ah v ⟨_,_,_,T⟩,by lia,ac,λar h R2 X y A=>?_⟩;obtain⟨bn,aM⟩:=id ap;have aN:ar l=some (.lst (as.map V.ref)):=X _ _ (v _ _ s U) U;rw[an,List.take_left]at A;have aP:h≠l:=λe=>by rw[e,v _ _ s U]at y;cases y
  have av:h≠j:=λe=>by rw[e,aM]at y;cases y
  refine⟨_,aN,by rw[Ln,u];show b<2^24;lia,?_⟩;rw[F];have aR:∀f g,C f=some g→f≠j→ar f=some g:=λf g d q=>X _ _ (v _ _ (fr _ _ d q) q) q;refine⟨_,as++[h],rfl,?_,λf g d q=>?_,?_,by rw[Kr,u];rfl,λn x G Y o=>?_⟩;·obtain⟨aT,aU⟩:=R2;refine⟨aT,?_⟩;rw[ak J,aU,take_snoc S,nG,Kr];simp only[PyFlat.putRow,List.length_cons];congr 5;lia
  ·rw[ak (λe=>by rw[e,E]at d;cases d)];exact aR f g d q
  ·rw[aj,Lp];rfl
  ·rw[List.getElem?_append]at o;split at o
   ·obtain⟨B,a0⟩:=R n x G Y o;have a1:G≠l:=λe=>by rw[e,s]at B;cases B
    have ax:G≠j:=λe=>by rw[e,T]at B;cases B
    exact⟨by rw[ak a1];exact X _ _ (v _ _ B ax) ax,a0⟩
   · rename_i bv;have a2:n=b:=by
       by_cases e:n-as.length=0;·lia
       ·rw[JU (by simp;lia)]at o;cases o
     subst a2;rw[u,Nat.sub_self]at o;have:h=G:=Lv o;subst this;rw[S]at Y;have:c[n]=x:=Lv Y;subst this;refine⟨by rw[ak aP];exact A,?_⟩;cases e:C h with|none=>rfl|some g=>rw[v _ _ (fr _ _ e av) av]at y;cases y
 ·rintro N m d;rw[F]at d;obtain⟨O,as,rfl,r,fr,s,u,R⟩:=d;rw[KG]at r u;rw[Lb]at r;walk_at"rd";exact k m l as r fr E s u R)
theorem BN(d:Tx):OzI "Reader" CR 1 ["self","calls"] (λj e l _=>∃(b f a:Addr),j=[.ref b,.ref a]∧e b=some (.ins CR f [])∧∀g,qb g b a 0→(∀c h,e c=some h→c≠b→g c=some h)→l .non g):=by f_assign(
 have n:=d.xX.fs ["self","calls"];refine d.xX.ok n (by rintro _ _ _ _⟨_,_,_,i,_⟩;rw[i];rfl) (λq r s u v e j l x y o=>?_);obtain⟨b,f,a,rfl,p,k⟩:=o;refine⟨_,(ae (bf (pv 0) (pv 1) rfl) (ai (bf (pv 0) ao rfl))),?_⟩;simp_arith[p,d.gv];refine⟨by rw[vj];show 1<1000;decide,?_⟩;refine k _ ⟨f,?_⟩ λc h i m=>?_;·rw[aj,vp];rfl
 ·rw[ak m,ak m];exact i)
end
open Vbbhal (State Bytes Rate Prime Account Invoice)
open Gm (Good)
def ki(a:Nat):Key:=Sum.inl (a:Int)
def ck(a:Bytes):List Key:=a.map λb=>ki b.toNat
def ci(a:Bytes):List Int:=a.map λb=>(b.toNat:Int)
theorem cK(a:Bytes):(ck a).map kV=cv a:=by unfold ck cv;rw[LV];rfl
theorem bO(a:Bytes):(ci a).map V.int=cv a:=by unfold ci cv;rw[LV];rfl
theorem DD{a b:UInt8}(c:(a.toNat:Int)=(b.toNat:Int)):a=b:=UInt8.toNat_inj.mp (by lia)
theorem vG:∀{c d:Bytes},ci c=ci d→c=d|[],[],_=>rfl|[],_::_,b=>by cases b|_::_,[],b=>by cases b|a::c,g::d,b=>by have e:=(LK b).1;have f:=(LK b).2;rw[DD e,vG f]
theorem fS:∀{c d:Bytes},ck c=ck d→c=d|[],[],_=>rfl|[],_::_,b=>by cases b|_::_,[],b=>by cases b|a::c,g::d,b=>by have e:=Sum.inl.inj (LK b).1;have f:=(LK b).2;rw[DD e,fS f]
theorem DE{a:Bytes}(b:cv a=cv d):a=d:=by refine fS (zX ?_);rw[cK,cK];exact b
theorem vH{a:Bytes}{c:List Bytes}:ci a∈c.map ci↔a∈c:=by
 constructor;·intro b;obtain⟨f,d,e⟩:=LX.mp b;rw[←vG e];exact d
 ·exactλb=>LX.mpr ⟨a,b,rfl⟩
def rk(a:Rate):List Key:=[ki a.kind,ki a.shift,ki a.cls,ki a.since]
def rv(a:Rate):V:=.int a.value
theorem cw{a b:Nat}(c:ki a=ki b):a=b:=by have:=Sum.inl.inj c;lia
theorem DF{d:List Rate}(c:(d.map Gm.pT).Nodup):(d.map rk).Nodup:=by unfold List.Nodup at c⊢;rw[KO]at c⊢;exact c.imp λ{a f}e b=>e (by unfold rk at b;simp only[List.cons.injEq,and_true]at b;unfold Gm.pT;rw[cw b.1,cw b.2.1,cw b.2.2.1,cw b.2.2.2])
def bV:Option Nat→V|none=>.non|some a=>.int a
set_option genInjectivity false in
structure HA where
 dp:Addr
 aP:Addr
 aR:Addr
 aT:Addr
 aA:Addr
 aE:Addr
 aI:Addr
 kP:List (Key×V)kR:List (List Key×V)kT:List (Key×V)kA:List (List Key×V)pa:Nat→Addr
 ad:Bytes→Addr
 es:List Addr
 kI:List (Key×V)ms:List Nat
 im:Nat→Addr
 kM:Nat→List (List Key×V)ia:Nat→Bytes→Addr
 tb:Addr
def AccAt(b:Hp)(x:Addr)(a:Account):Prop:=∃d c,b x=some (.ins CA d (bc (.ref c) (.bl a.shut) (bV a.budget)))∧b c=some (.tup (cv (a.parent.getD [])))
def hf(b:State)(a:HA):List (Str×V):=aV (.int b.today) (.int b.capA) (.int b.capE) (.int b.closed) (.int b.last) (.ref a.aP) (.ref a.aR) (.ref a.aT) (.ref a.aA) (.ref a.aE) (.ref a.aI)
structure Tre(H:Hp)(p:Addr)(s:State)(h:HA):Prop where ob:H p=some (.ins CH h.dp (hf s h))ac:Rd H h.aA (.dT h.kA)acR:h.kA.Perm (s.accounts.map λa=>(ck a.code,V.ref (h.ad a.code)))acA:∀a∈s.accounts,AccAt H (h.ad a.code) a
def fM(b:Hp)(x:Addr)(a:Vbbhal.Entry):Prop:=∃e c d,b x=some (.ins CE e (cg (.int (Vbbhal.kindNum a.kind)) (.ref c) (.int a.month) (.int a.amount) (.ref d)))∧b c=some (.tup (cv a.code))∧b d=some (.tup ((Vbbhal.kindRow a.kind).map V.int))
inductive cH(H:Hp):List Addr→List Vbbhal.Entry→Prop|nil:cH H [] []|cons{a:Addr}{e:Vbbhal.Entry}{as:List Addr}{es:List Vbbhal.Entry}:fM H a e→cH H as es→cH H (a::as) (e::es)
def wr:HO→Bool|.tup _=>false|.lst _=>false|.tbl _=>false|.ext _=>false|_=>true
def lL(a:Invoice):List V:=[.int a.own,.int a.discount,.int a.share,.int (Vbbhal.invoiceTotal a)]
structure Rest(H:Hp)(s:State)(h:HA):Prop where
 tbE:h.tb=TP
 tab:cy H TP
 en:H h.aE=some (.lst (h.es.map V.ref))enA:cH H h.es s.entries
 iv:H h.aI=some (.dK h.kI)ivR:h.kI.Perm (h.ms.map λm=>(ki m,V.ref (h.im m)))msN:h.ms.Nodup
 msB:∀m∈h.ms,m<s.closed
 ivM:∀i∈s.invoices,i.month∈h.ms
 ivD:∀m∈h.ms,H (h.im m)=some (.dT (h.kM m))∧(h.kM m).Perm ((s.invoices.filter λi=>i.month==m).map λi=>(ck i.code,V.ref (h.ia m i.code)))ivT:∀i∈s.invoices,H (h.ia i.month i.code)=some (.tup (lL i))nIP:h.aI≠h.aP
 nIT:h.aI≠h.aT
 nMR:∀m∈h.ms,h.im m≠h.aR∧h.im m≠h.aA
theorem fM.keep{a:Hp}(g:fM H x e)(h:∀b,H x=some b→a x=some b)(c:∀d f,H d=some (.tup f)→a d=some (.tup f)):fM a x e:=by obtain⟨i,j,l,m,n,o⟩:=g;exact⟨i,j,l,h _ m,c _ _ n,c _ _ o⟩
theorem cH.keep{a b:Hp}(i:∀d e,a d=some (.tup e)→b d=some (.tup e)):∀{as:List Addr}{c:List Vbbhal.Entry},cH a as c→(∀x∈as,∀f,a x=some f→b x=some f)→cH b as c:=by intro as c h;induction h with|nil=>exactλ_=>.nil|cons j t l=>exactλg=>.cons (j.keep (g _ (Ks ..)) i) (l λx m=>g x (J0 _ m))
theorem cH.len:∀{as:List Addr}{a:List Vbbhal.Entry},cH H as a→as.length=a.length:=by intro as a h;induction h with|nil=>rfl|cons c t b=>rw[K9,K9,b]
theorem cH.get:∀{as:List Addr}{c:List Vbbhal.Entry}{i:Nat}{a:Addr},cH H as c→as[i]?=some a→∃b,c[i]?=some b∧fM H a b:=by intro as c i a h;induction h generalizing i with|nil=>exactλb=>nomatch b|@cons _ d _ _ e t f=>intro b;cases i with|zero=>cases Lv b;exact⟨d,rfl,e⟩|succ i=>obtain⟨d,g,j⟩:=f (i:=i) b;exact⟨d,g,j⟩
theorem cH.mem:∀{as:List Addr}{c:List Vbbhal.Entry},cH H as c→∀a∈as,∃d∈c,fM H a d:=by intro as c b;induction b with|nil=>exactλ_ b=>nomatch b|@cons _ e _ _ f t g=>
 intro a b;rcases LN.mp b with z|z;·subst z;exact⟨e,Ks ..,f⟩
 ·obtain⟨d,h,i⟩:=g a z;exact⟨d,J0 _ h,i⟩
theorem cH.snoc(b:fM H a e):∀{as:List Addr}{c:List Vbbhal.Entry},cH H as c→cH H (as++[a]) (c++[e])|_,_,.nil=>.cons b .nil|_,_,.cons d t=>.cons d (t.snoc b)
theorem Rest.keep{d:Hp}{i j:State}{a c:HA}(b:Rest H i a)(y:j.entries=i.entries)(l:j.invoices=i.invoices)(z:i.closed≤j.closed)(A:c.aE=a.aE∧c.es=a.es∧c.aI=a.aI∧c.kI=a.kI∧c.ms=a.ms∧c.im=a.im∧c.kM=a.kM∧c.ia=a.ia∧c.tb=a.tb)(B:c.aP=a.aP)(C:c.aT=a.aT)(D:c.aR=a.aR)(E:c.aA=a.aA)(o:∀g p,H g=some (.tup p)→d g=some (.tup p))(F:d a.aE=H a.aE)(G:d a.aI=H a.aI)(I:∀x∈a.es,∀q,H x=some q→d x=some q)(J:∀e∈a.ms,d (a.im e)=H (a.im e))(L:d TP=H TP)(M:∀g r,H g=some (.ext r)→d g=some (.ext r)):Rest d j c:=by f_assign(
 obtain⟨N,s,m,u,f,n,O,v,Q⟩:=A;refine⟨Q.trans b.tbE,b.tab.keep L M,?_,?_,?_,?_,?_,?_,?_,?_,?_,?_,?_,?_⟩;·rw[N,s,F];exact b.en
 ·rw[s,y];exact b.enA.keep o I
 ·rw[m,u,G];exact b.iv
 ·rw[u,f,n];exact b.ivR
 ·rw[f];exact b.msN
 ·rw[f];exactλe h=>Kw (b.msB e h) z
 ·rw[f,l];exact b.ivM
 ·rw[f,n,O,v,l];exactλe h=>⟨(J e h).trans (b.ivD e h).1,(b.ivD e h).2⟩
 ·rw[v,l];exactλR S=>o _ _ (b.ivT R S)
 ·rw[m,B];exact b.nIP
 ·rw[m,C];exact b.nIT
 ·rw[f,n,D,E];exact b.nMR)
theorem Rest.upd{f g:State}{b c:HA}(h:Rest H f b)(m:H x=some o)(n:wr o=true)(u:∀p a e v q r,o≠.ins CE p (cg a e v q r))(z:x≠b.aI)(A:∀j∈b.ms,x≠b.im j)(B:g.entries=f.entries)(C:g.invoices=f.invoices)(D:f.closed≤g.closed)(E:c.aE=b.aE∧c.es=b.es∧c.aI=b.aI∧c.kI=b.kI∧c.ms=b.ms∧c.im=b.im∧c.kM=b.kM∧c.ia=b.ia∧c.tb=b.tb)(F:c.aP=b.aP)(G:c.aT=b.aT)(I:c.aR=b.aR)(J:c.aA=b.aA):Rest (upd H x o') g c:=by f_assign(
 have ne:∀e i,H e=some i→wr i=false→e≠x:=λe i d l w=>by rw[w,m]at d;rw[Lv d,l]at n;cases n
 refine h.keep B C D E F G I J (λe N d=>?_) ?_ ?_ (λy L i d=>?_) (λj M=>?_) ?_ λe O d=>?_;·rw[ak (ne _ _ d rfl)];exact d
 ·rw[ak (ne _ _ h.en rfl)]
 ·rw[ak (Mg z)]
 ·obtain⟨r,_,p,a,q,s,_⟩:=h.enA.mem y L;rw[ak (λl=>by rw[l,m]at s;exact u _ _ _ _ _ _ (Lv s))];exact d
 ·rw[ak (Mg (A j M))]
 ·obtain⟨Q,d,_⟩:=h.tab;rw[ak (ne _ _ d rfl)]
 ·rw[ak (ne _ _ d rfl)];exact d)
structure aH(H:Hp)(p:Addr)(s:State)(h:HA):Prop where
 tre:Tre H p s h
 ac:H h.aA=some (.dT h.kA)acI:∀a∈s.accounts,∀b∈s.accounts,h.ad a.code=h.ad b.code→a.code=b.code
 pr:H h.aP=some (.dK h.kP)prR:h.kP.Perm (s.primes.map λx=>(ki x.since,V.ref (h.pa x.since)))prA:∀x∈s.primes,H (h.pa x.since)=some (.tup [.int x.from_,.int x.to])ra:H h.aR=some (.dT h.kR)raR:h.kR.Perm (s.rates.map λr=>(rk r,rv r))ti:H h.aT=some (.dK h.kT)tiR:h.kT.Perm (s.tiers.map λt=>(ki t.1,V.int t.2))nPT:h.aP≠h.aT
 nRA:h.aR≠h.aA
 re:Rest H s h
theorem Tre.same{d:Addr}{f:State}(c:Tre H d f h)(e:au H H'):Tre H' d f h where
 ob:=e _ _ c.ob;ac:=by
  rcases c.ac with b|⟨g,b⟩;·exact .inl (e _ _ b)
  ·exact .inr ⟨g,e _ _ b⟩
 acR:=c.acR;acA:=λa i=>by obtain⟨j,b,l,m⟩:=c.acA a i;exact⟨j,b,e _ _ l,e _ _ m⟩
theorem Rest.same{d:State}(a:Rest H d h)(c:au H H'):Rest H' d h:=a.keep rfl rfl (L6 _) ⟨rfl,rfl,rfl,rfl,rfl,rfl,rfl,rfl,rfl⟩ rfl rfl rfl rfl (λg i b=>c _ _ b) ((c _ _ a.en).trans a.en.symm) ((c _ _ a.iv).trans a.iv.symm) (λx _ j b=>c _ _ b) (λe f=>(c _ _ (a.ivD e f).1).trans (a.ivD e f).1.symm) (by obtain⟨l,b,_⟩:=a.tab;exact(c _ _ b).trans b.symm) λg m b=>c _ _ b
theorem aH.same{c:Addr}{d:State}(a:aH H c d h)(b:au H H'):aH H' c d h:={a with
 tre:=a.tre.same b
 ac:=b _ _ a.ac
 pr:=b _ _ a.pr
 prA:=λx e=>b _ _ (a.prA x e)
 ra:=b _ _ a.ra
 ti:=b _ _ a.ti
 re:=a.re.same b}
def fI(d:Addr)(e:State)(c:HA)(b:Addr):Prop:=b=d∨b=c.aP∨b=c.aR∨b=c.aT∨b=c.aA∨b=c.aE∨b=c.aI∨b=c.tb∨∃a∈e.accounts,b=c.ad a.code
section
open Vbbhal (State Bytes Rate Prime Account)
open Gm (Good)
theorem sk(b:Tx):Oz "is_shift_of" 2 ["kind","shift"] (sp2 (λ_ _=>True) λk c=>.bl (if k=1 then Vbbhal.inside c 1 3 else Vbbhal.inside c 0 0)):=by f_assign(
 have f:=b.gc.fs ["kind","shift"];refine b.gc.ok f qH (λl m n o c g p h q i j=>?_);obtain⟨d,a,rfl,-,k⟩:=j;refine⟨_,(ae (aG (pt_cmpR bg (pv 0) ao (aD _)) (ai (aq (ag (aL b) i (aa (pv 1) (aa ao (aa ao af)))))) aw) (ai (aq (dD bg (pv 1) ao (aD _))))),?_⟩;walk_at"rd";have k:h (.bl (if d=1 then Vbbhal.inside a 1 3 else Vbbhal.inside a 0 0)) g:=k;by_cases e:d=1;·rw[Mj e]at k⊢;exact k
 ·rw[Mi e]at k⊢;have:Vbbhal.inside a 0 0=decide (a=0):=by unfold Vbbhal.inside;apply Lf.mpr;omega
  rw[this]at k;exact k)
def cI(k a b c:Int):Bool:=Vbbhal.inside k 1 5&&((if k=1 then Vbbhal.inside a 1 3 else Vbbhal.inside a 0 0)&&(Vbbhal.inside b 0 36&&Vbbhal.isDay c))
theorem iS(a:Tx):Oz "is_rate_place" 3 ["kind","shift","grade","day"] (sp4 (λ_ _ _ _=>True) λk g b d=>.bl (cI k g b d)):=by f_assign(have h:=a.eG.fs ["kind","shift","grade","day"];refine a.eG.ok h EY (λp q r s g i u j v c l=>?_);obtain⟨e,f,b,d,rfl,-,k⟩:=l;refine⟨_,(ae (aG (ba (PW.pt (cq (pt_val (ag (aL a) c (aa (pv 0) (aa ao (aa ao af))))) (bZ (pt_val (ag (sk a) c (aa (pv 0) (aa (pv 1) af)))))))) (ai (aq rf)) aw) (ai (aq (uY (ag (aL a) c (aa (pv 2) (aa ao (aa ao af)))) (jO (ag (iR a) c (aa (pv 3) af))))))),?_⟩;walk_at"rd";have k:j (.bl (cI e f b d)) i:=k;unfold cI at k;generalize Vbbhal.inside e 1 5=m at k⊢;generalize(if e=1 then Vbbhal.inside f 1 3 else Vbbhal.inside f 0 0)=n at k⊢;generalize Vbbhal.inside b 0 36=o at k⊢;cases m<;>cases n<;>cases o<;>simpa using k)
inductive DG(vs:List V)(H:Hp)(Q:VK)(E:XK):Prop|mk(a:Addr)(y:V)(n:Nat)(r:Option V)(most:Int):vs=[.ref a,y,.int most]→gm H a y r→Ih H a n→(Q (.bl (r.isSome||decide ((n:Int)<most))) H)→DG vs H Q E
theorem kj(b:Tx):Oz "has_room" 1 ["table","key","most"] DG:=by f_assign(have c:=b.jj.fs ["table","key","most"];refine b.jj.ok c (by walk_at"l") (λj l m n o p q r s d e=>?_);obtain⟨a,y,u,f,v,rfl,g,h,k⟩:=e;have i:=bN d;refine⟨_,(ai (aq (zJ (Cq (vc i (pv 1) (pv 0))) (jO (dD op_lt (aF xm (by rfl) b.bT bh (aa (pv 0) af)) (pv 2) (aD _)))))),?_⟩;walk_at"rd";refine⟨_,g,?_⟩;cases f with|some x=>exact k|none=>refine⟨_,h,?_⟩;simpa using k)
theorem perm_unmap{g h:Type}{f:g→h}:∀{k:List h}{b:List g},k.Perm (b.map f)→∃d:List g,d.Perm b∧k=d.map f|[],b,e=>by have c:=e.length_eq;rw[Ln]at c;have:b=[]:=JG.mp c.symm;subst this;exact⟨[],.nil,rfl⟩|x::i,b,e=>by f_assign(
 have j:x∈b.map f:=e.mem_iff.mp (by simp);obtain⟨a,l,c⟩:=LX.mp j;obtain⟨m,n,rfl⟩:=List.append_of_mem l;have o:(x::i).Perm (x::(m++n).map f):=by refine e.trans ?_;rw[←c,←LM];exact(List.perm_middle).map f
 obtain⟨d,p,q⟩:=perm_unmap (List.Perm.cons_inv o);exact⟨a::d,(p.cons a).trans List.perm_middle.symm,by rw[LM,c,q]⟩)
def bX(c:List Rate)(k d e f:Nat)(g:Nat):Prop:=(g=0∧∀a∈c,a.kind=k→a.shift=d→a.cls=e→f<a.since)∨∃a∈c,a.kind=k∧a.shift=d∧a.cls=e∧a.since≤f∧g=a.since∧∀b∈c,b.kind=k→b.shift=d→b.cls=e→b.since≤f→b.since≤g
theorem bX.perm{f g:List Rate}{k h i j l:Nat}(a:f.Perm g)(m:bX f k h i j l):bX g k h i j l:=by
 rcases m with⟨b,c⟩|⟨d,b,c,n,o,p,q,r⟩;·exact .inl ⟨b,λd e=>c d (a.mem_iff.mpr e)⟩
 ·exact .inr ⟨d,a.mem_iff.mp b,c,n,o,p,q,λs e=>r s (a.mem_iff.mpr e)⟩
theorem bX.new{e:List Rate}{k b c d f:Nat}{a:Rate}(l:bX e k b c d f)(m:a.kind=k)(n:a.shift=b)(o:a.cls=c)(p:a.since≤d)(u:f<a.since):bX (e++[a]) k b c d a.since:=by
 refine .inr ⟨a,by simp,m,n,o,p,rfl,λg r h i j s=>?_⟩;rcases Lq.mp r with q|q
 ·rcases l with⟨g1,g2⟩|⟨r0,g1,g2,g3,g4,g5,g6,g7⟩;·have:=g2 g q h i j;lia
  ·have:=g7 g q h i j s;lia
 ·simp only[List.mem_singleton]at q;subst q;exact L6 _
theorem bX.old{o:List Rate}{k h i f g:Nat}{a:Rate}(s:bX o k h i f g)(B:1≤a.since)(p:¬(a.kind=k∧a.shift=h∧a.cls=i∧a.since≤f∧g<a.since)):bX (o++[a]) k h i f g:=by f_assign(
 rcases s with⟨j,l⟩|⟨u,j,l,v,x,y,z,A⟩
 ·refine .inl ⟨j,λb m c d e=>?_⟩;rcases Lq.mp m with q|q;·exact l b q c d e
  ·simp only[List.mem_singleton]at q;subst q;by_cases n:b.since≤f;·exact absurd ⟨c,d,e,n,by lia⟩ p
   ·lia
 ·refine .inr ⟨u,by simp[j],l,v,x,y,z,λb m c d e r=>?_⟩;rcases Lq.mp m with q|q;·exact A b q c d e r
  ·simp only[List.mem_singleton]at q;subst q;by_cases n:g<b.since;·exact absurd ⟨c,d,e,r,n⟩ p
   ·lia)
theorem Jg(a b c d:V):rD [a,b,c,d] none (some 3)=[a,b,c]:=rfl
theorem F2(a:Rate):(rk a).map kV=[V.int a.kind,V.int a.shift,V.int a.cls,V.int a.since]:=rfl
inductive xt(vs:List V)(H:Hp)(Q:VK)(E:XK):Prop|mk(p:Addr)(s:State)(h:HA)(k sh g d:Nat):vs=[.ref p,.int k,.int sh,.int g,.int d]→aH H p s h→Good s→(∀n H',au H H'→bX s.rates k sh g d n→Q (.int (n:Nat)) H')→xt vs H Q E
theorem my(u:Tx):Oz "latest_rate_day" 1 ["house","kind","shift","grade","day"] (xt):=by f_assign(
 have v:=u.di.fs ["house","kind","shift","grade","day","latest","place"];refine u.di.ok v (by walk_at"l") (λaK aM aN aP aR M aT aU a0 h c=>?_);obtain⟨x,a1,c,k,d,e,n,rfl,p,U,X⟩:=c;have Y:=h.units;have y:=p.tre.ob;unfold hf at y;obtain⟨z,N,O⟩:=perm_unmap p.raR;have Z:x≠c.aR:=fJ y p.ra nofun;refine⟨_,(ae (sT 5 v.nd ao) (ae (k_ (bW Lw rfl (mY (pe_fld (pv 0) rfl)) (gN 6 v.nd) (ai (aG (PW.pt (cq (pt_cmpR (yS Y) (mT GD (pv 6) u6 (mS ao)) (fQ (aa (pv 1) (aa (pv 2) (aa (pv 3) af)))) (aD _)) (cq (pt_cmpR op_lt (pv 5) (iX (pv 6)) (aD _)) (bZ (pt_cmpR op_le (iX (pv 6)) (pv 4) (aD _)))))) (ai (sT 5 v.nd (iX (pv 6)))) aw)))) (ai (aq (pv 5))))),?_⟩;simp_arith[y,u.az,wQ];refine⟨c.aR,_,p.ra,trivial,λG=>?_⟩;have ac:upd M c.aR (.frz G (.dT c.kR)) x=_:=(ak Z).trans y;simp_arith[uj,ac,u.az];refine⟨G,.inr ⟨c.kR,rfl,?_⟩⟩;obtain⟨A,q⟩:∃A:Nat→L2.St→Hp→Prop,A=λi B f=>∃(b:Nat)(C:Option V),B=[some (V.ref x),some (V.int k),some (V.int d),some (V.int e),some (V.int n),some (V.int b),C]∧au (upd M c.aR (.frz G (.dT c.kR))) f∧bX (z.take i) k d e n b:=⟨_,rfl⟩;refine ls A ?_ ?_ ?_ ?_;·rw[q];exact⟨0,none,rfl,au.refl _,.inl ⟨rfl,λa h=>(by rw[LD]at h;cases h)⟩⟩
 ·rintro i B f _ g;rw[q]at g;obtain⟨b,C,_,l,_⟩:=g;exact l _ _ aj
 ·rintro i ah C al B f r H g;rw[q]at g;obtain⟨b,am,rfl,l,j⟩:=g;obtain⟨a,h,an⟩:∃a,z[i]?=some a∧(ah,C)=(rk a,rv a):=by rw[O,KL]at r;cases m:z[i]? with|none=>rw[m]at r;cases r|some a=>rw[m]at r;exact⟨a,rfl,(Lv r).symm⟩
  cases an;rw[F2]at H;have I:=(U.rb a (N.mem_iff.mp (J_ h))).1;simp_arith[Ig];refine⟨_,SqT.of H,by intro m;exact absurd (show(3:Nat)=4 from m.2) (by decide),λs ap=>⟨by decide,λJ D=>?_⟩⟩;rw[Jg]at D⊢;have ar:s≠J:=λm=>by rw[←m,aj]at D;cases D
  have av:au f (upd f s (.tup [V.int a.kind,V.int a.shift,V.int a.cls])):=au.new ap;have L:=av.trans (au.new D (o:=.tup [V.int k,V.int d,V.int e]));have Q:upd (upd f s (.tup [V.int a.kind,V.int a.shift,V.int a.cls])) J (.tup [V.int k,V.int d,V.int e]) s=some (.tup ([(a.kind:Int),(a.shift:Int),(a.cls:Int)].map V.int)):=by rw[ak ar,aj];rfl
  generalize upd (upd f s (.tup [V.int a.kind,V.int a.shift,V.int a.cls])) J (.tup [V.int k,V.int d,V.int e])=ax at L Q⊢;have aA:=L _ _ H;refine⟨_,Q,[(k:Int),(d:Int),(e:Int)],rfl,?_⟩;simp_arith[aA];have aE:=l.trans L;have E:∀F,bX (z.take i++[a]) k d e n F→A (i+1) [some (V.ref x),some (V.int k),some (V.int d),some (V.int e),some (V.int n),some (V.int (F:Nat)),some (V.ref al)] ax:=λF aI=>by rw[q];exact⟨F,_,rfl,aE,by rw[take_snoc h];exact aI⟩
  by_cases R:(a.kind:Int)=k∧(a.shift:Int)=d∧(a.cls:Int)=e
  ·rw[Mj R];by_cases S:(b:Int)<a.since
   ·rw[Mj S];by_cases T:(a.since:Int)≤n;·rw[Mj T];exact E a.since (j.new (by lia) (by lia) (by lia) (by lia) (by lia))
    ·rw[Mi T];exact E b (j.old I (by lia))
   ·rw[Mi S];exact E b (j.old I (by lia))
  ·rw[Mi R];exact E b (j.old I (by lia))
 ·rintro B f g;rw[q]at g;obtain⟨b,am,rfl,l,j⟩:=g;rw[O,Ln,Lb]at j;refine⟨l _ _ aj,_,rfl,?_⟩;exact X b _ (oV p.ra l) (j.perm N))
theorem qK{c b:Type}[DecidableEq c]{key:b→c}{val:b→V}{e:List (c×V)}{a:List b}{x:b}(h:e.Perm (a.map λx=>(key x,val x)))(nd:(a.map key).Nodup)(f:x∈a):bt e (key x)=some (val x):=by f_assign(rw[Km.oU h nd];cases q:a.find? λy=>decide (key y=key x)with|none=>exact absurd (Kq.mp q x f) (by simp)|some y=>
 have i:=Lm q;have j:key y=key x:=KU i;have l:=Jy q;obtain⟨m,g⟩:=JX.mp f;obtain⟨n,d⟩:=JX.mp l;have o:(a.map key)[m]?=some (key x):=by rw[KL,g];rfl
 have p:(a.map key)[n]?=some (key x):=by rw[KL,d,←j];rfl
 have:=Tr.jv nd o p;subst this;rw[g]at d;rw[Lv d];rfl)
theorem nH{c:State}{k d e f:Nat}(g:∀a∈c.rates,a.kind=k→a.shift=d→a.cls=e→f<a.since):Vbbhal.rateFor c k d e f=none:=by unfold Vbbhal.rateFor;rw[Rm.gk];intro a h;obtain⟨i,b⟩:=Lr.mp h;simp only[Bool.and_eq_true,beq_iff_eq]at b;exact g a i b.1 b.2.1 b.2.2
theorem BO{b:State}(f:Good b){a c:Rate}(g:a∈b.rates)(h:c∈b.rates)(i:Gm.pT a=Gm.pT c):a=c:=by
 obtain⟨j,e⟩:=JX.mp g;obtain⟨l,d⟩:=JX.mp h;have m:(b.rates.map Gm.pT)[j]?=some (Gm.pT a):=by rw[KL,e];rfl
 have n:(b.rates.map Gm.pT)[l]?=some (Gm.pT a):=by rw[KL,d,i];rfl
 have:=Tr.jv f.rk m n;subst this;rw[e]at d;exact Lv d
theorem vI{d:State}(o:Good d){k e f g:Nat}{b:Rate}(j:b∈d.rates)(l:b.kind=k)(m:b.shift=e)(n:b.cls=f)(p:b.since≤g)(q:∀c∈d.rates,c.kind=k→c.shift=e→c.cls=f→c.since≤g→c.since≤b.since):Vbbhal.rateFor d k e f g=some b:=by f_assign(
 unfold Vbbhal.rateFor;refine Rm.tX (Lr.mpr ⟨j,by simp[l,m,n]⟩) p (λy h r=>?_) (λy h s=>?_);·obtain⟨i,a⟩:=Lr.mp h;simp only[Bool.and_eq_true,beq_iff_eq]at a;exact q y i a.1 a.2.1 a.2.2 r
 ·obtain⟨i,a⟩:=Lr.mp h;simp only[Bool.and_eq_true,beq_iff_eq]at a;refine BO o i j ?_;unfold Gm.pT;rw[a.1,a.2.1,a.2.2,s,l,m,n])
inductive Am(vs:List V)(H:Hp)(Q:VK)(E:XK):Prop|mk(p:Addr)(s:State)(h:HA)(k sh g d:Nat):vs=[.ref p,.int k,.int sh,.int g,.int d]→aH H p s h→Good s→(∀H',au H H'→Q (.int (Vbbhal.rateAt s k sh g d:Nat)) H')→Am vs H Q E
theorem cJ(g:Tx):Oz "rate_in_force" 2 ["house","kind","shift","grade","day"] (Am):=by f_assign(
 have v:=g.eh.fs ["house","kind","shift","grade","day","each","latest"];refine g.eh.ok v (by walk_at"l") (λar av ax aA aE T aI aK aM F p=>?_);obtain⟨G,y,p,k,h,i,q,rfl,z,r,H⟩:=p;have U:=bN F;refine⟨_,(ae (bW Lw rfl (rh (fQ (aa (pv 3) (aa ao af)))) (gN 5 v.nd) (ae (sT 6 v.nd (ag (my g) F (aa (pv 0) (aa (pv 1) (aa (pv 2) (aa (pv 5) (aa (pv 4) af))))))) (ai (aG (pt_cmpR op_gt (pv 6) ao (aD _)) (ai (aq (d6 U (pe_fld (pv 0) rfl) (fQ (aa (pv 1) (aa (pv 2) (aa (pv 5) (aa (pv 6) af))))) (λ_ _=>rfl)))) aw)))) (ai (aq ao))),?_⟩;simp_arith[g.az];refine⟨by decide,λX Y=>⟨⟨_,SqT.of aj⟩,?_⟩⟩;obtain⟨A,l⟩:∃A:Nat→L2.St→Hp→Prop,A=λb s m=>∃(B C:Option V),s=[some (V.ref G),some (V.int k),some (V.int h),some (V.int i),some (V.int q),B,C]∧au T m∧m X=some (.tup [V.int i,V.int 0])∧(1≤b→Vbbhal.rateFor y k h i q=none)∧(2≤b→Vbbhal.rateFor y k h 0 q=none):=⟨_,rfl⟩;refine EA (xs:=[V.int i,V.int 0]) A ?_ ?_ ?_ ?_;·rw[l];exact⟨none,none,rfl,au.new Y,aj,by lia,by lia⟩
 ·rintro b s m _ c;rw[l]at c;obtain⟨_,_,_,_,Z,_⟩:=c;exact SqT.of Z
 ·rintro b x s m d c;rw[l]at c;obtain⟨B,C,rfl,j,I,u,J⟩:=c;obtain⟨e,D,rfl⟩:∃e:Nat,((b=0∧e=i)∨(b=1∧e=0))∧x=V.int e:=by match b,d with|0,d=>exact⟨i,.inl ⟨rfl,rfl⟩,(Lv d).symm⟩|1,d=>exact⟨0,.inr ⟨rfl,rfl⟩,(Lv d).symm⟩|b+2,d=>simp at d
  simp_arith[g.az];refine⟨G,y,p,k,h,e,q,rfl,z.same j,r,λaN aP sm2 ac=>?_⟩;have L:=(z.same j).same sm2;have M:=L.tre.ob;unfold hf at M;simp_arith[M,g.az];rcases ac with⟨rfl,N⟩|⟨f,E,O,Q,R,ah,rfl,al⟩
  ·rw[Mi (by simp)];rw[l];refine⟨_,_,rfl,j.trans sm2,sm2 _ _ I,λ_=>?_,λaR=>?_⟩
   ·rcases D with⟨n,a⟩|⟨n,a⟩;·rw[←a];exact nH N
    ·exact u (by lia)
   ·rcases D with⟨n,a⟩|⟨n,a⟩;·lia
    ·rw[←a];exact nH N
  ·have aT:=(r.rb f E).1;rw[Mj (by lia)];refine⟨by decide,λaU am=>?_⟩;have S:=au.new am (o:=.tup [V.int k,V.int h,V.int e,V.int f.since]);have an:(rk f).map kV=[V.int k,V.int h,V.int e,V.int f.since]:=by rw[F2,O,Q,R]
   refine⟨rv f,?_,?_⟩;·have ap:bt p.kR (rk f)=some (rv f):=qK z.raR (DF r.rk) E;rw[←ap];exact gm.t (S _ _ L.ra) (by rw[aj,an])
   ·have hf:=vI r E O Q R ah al;have:=H _ ((j.trans sm2).trans S);unfold Vbbhal.rateAt at this;rcases D with⟨n,a⟩|⟨n,a⟩;·rw[a]at hf;rw[hf]at this;exact this
    ·rw[a]at hf;rw[u (by lia),hf]at this;exact this
 ·rintro s m c;rw[l]at c;obtain⟨B,C,rfl,j,I,u,J⟩:=c;walk_at"rd";have:=H _ j;unfold Vbbhal.rateAt at this;rw[u (by simp),J (by simp)]at this;exact this)
open Vbbhal (State Bytes Rate Prime Account Ans)
open Gm (Good)
def mz(a:Ans):List Int:=a.num::a.rows.flatMap λb=>(b.length:Int)::b
def Kept(c:Addr)(d:State)(e:HA)(f g:Hp):Prop:=∀a b,f a=some b→¬fI c d e a→g a=some b
def aB(c:Hp)(a:Addr)(f:State)(g:HA)(x:State×Ans)(i:VK):Prop:=∀b h d,aH b a x.1 h→Kept a f g c b→(∀e,fI a x.1 h e→fI a f g e∨c e=none)→c d=none→b d=some (.lst ((mz x.2).map V.int))→i (.ref d) b
theorem aB.read{d:Addr}{b:State}{a:Ans}(g:aB H d b h (b,a) Q)(i:aH H d b h)(e:au H H')(j:H q=none)(l:H' q=some (.lst ((mz a).map V.int))):Q (.ref q) H':=g H' h q (i.same e) (λf m c _=>e f m c) (λf c=>.inl c) j l
theorem aB.one{c:Addr}{b:State}{n:Int}(f:aB H c b h x Q)(g:aH H c b h)(i:x=(b,{num:=n}))(d:au H H1):∀a,H1 a=none→Q (.ref a) (upd H1 a (.lst [.int n])):=λa e=>by subst i;exact f.read g (d.trans (au.new e)) (d.free e) aj
theorem aW(c:upd H a o b=none):H b=none∧b≠a:=by
 have:b≠a:=λd=>by rw[d,aj]at c;cases c
 rw[ak this]at c;exact⟨c,this⟩
theorem aB.wrote{c:Addr}{d:State}{x:State×Ans}{l:List Int}(f:aB H c d h x Q)(g:mz x.2=l)(i:aH H1 c x.1 h')(kp:Kept c d h H H1)(j:∀a,fI c x.1 h' a→fI c d h a∨H a=none)(m:∀a,H1 a=none→H a=none):∀b,H1 b=none→Q (.ref b) (upd H1 b (.lst (l.map V.int))):=λb e=>by subst g;exact f _ h' b (i.same (au.new e)) (λa n o p=>au.new e _ _ (kp a n o p)) j (m b e) aj
theorem DH{b:Hp}{c:Addr}{f s':State}{d h':HA}(g:b c=some (.ins CH d.dp (hf f d)))(h:AccAt b x a):x≠c:=λi=>by obtain⟨l,m,e,_⟩:=h;rw[i,g]at e;have j:=Lv e;injection j with e1 e2 e3;unfold hf aV bc at e3;have:=Me List.length e3;simp at this
theorem BP{dp:Addr}{c:State}{f:V}:HO.ins CH dp (hf c h)≠.ins CE dx (cg a b f d e):=λg=>by injection g with _ _ z3;have:=Me List.length z3;simp[hf,aV,cg]at this
theorem y_{dp:Addr}{c:V}:HO.ins CA dp (bc x y u)≠.ins CE dx (cg a b c d e):=λf=>by injection f with _ _ z3;have:=Me List.length z3;simp[bc,cg]at this
theorem aH.num{g:Addr}{c s':State}{d:HA}(b:aH H g c d)(i:s'.accounts=c.accounts)(m:s'.primes=c.primes)(q:s'.rates=c.rates)(r:s'.tiers=c.tiers)(s:s'.entries=c.entries)(u:s'.invoices=c.invoices)(v:c.closed≤s'.closed):aH (upd H g (.ins CH d.dp (hf s' d))) g s' d:=by f_assign(
 have e:=b.tre.ob;have ne:∀j h,H j=some h→(∀y l fs,h≠.ins y l fs)→upd H g (.ins CH d.dp (hf s' d)) j=some h:=λj h f z=>by rw[ak (λw=>by rw[w,e]at f;exact z _ _ _ (Lv f).symm)];exact f
 refine⟨⟨aj,.inl (ne _ _ b.ac nofun),by rw[i];exact b.tre.acR,λa n=>?_⟩,ne _ _ b.ac nofun,by rw[i];exact b.acI,ne _ _ b.pr nofun,by rw[m];exact b.prR,λx o=>?_,ne _ _ b.ra nofun,by rw[q];exact b.raR,ne _ _ b.ti nofun,by rw[r];exact b.tiR,b.nPT,b.nRA,b.re.upd e rfl (λ_ _ _ _ _ _=>BP) (fJ e b.re.iv nofun) (λA B=>fJ e (b.re.ivD A B).1 nofun) s u v ⟨rfl,rfl,rfl,rfl,rfl,rfl,rfl,rfl,rfl⟩ rfl rfl rfl rfl⟩;·rw[i]at n;have p:=b.tre.acA a n;have C:=DH (s':=c) (h':=d) e p;obtain⟨l,f,D,E⟩:=p;exact⟨l,f,by rw[ak C];exact D,ne _ _ E nofun⟩
 ·rw[m]at o;exact ne _ _ (b.prA x o) nofun)
theorem nf{a:Bool}(b:a=true)(c:a=false):False:=by cases b.symm.trans c
theorem oY(g:Tx):Oz "answer_rateof" 4 ["house","kind","shift","grade","day"] (λs j u _=>∃(h:Addr)(b:State)(l:HA)(k c d e:Int),s=[.ref h,.int k,.int c,.int d,.int e]∧aH j h b l∧Good b∧aB j h b l (Vbbhal.step b (.rateof k c d e)) u):=by f_assign(
 have A:=g.eJ.fs ["house","kind","shift","grade","day"];refine g.eJ.ok A (by rintro _ _ _ _⟨_,_,_,_,_,_,_,o,_⟩;rw[o];rfl) (λO Q R S T j s u U v B=>?_);obtain⟨h,b,l,k,c,d,e,rfl,p,C,i⟩:=B;refine⟨_,(ae (aG (ba (pt_val (ag (iS g) v (aa (pv 1) (aa (pv 2) (aa (pv 3) (aa (pv 4) af))))))) (ai (aq (aC (aa (aJ g.aN) af)))) aw) (ai (aq (aC (aa (ag (cJ g) v (aa (pv 0) (aa (pv 1) (aa (pv 2) (aa (pv 3) (aa (pv 4) af)))))) af))))),?_⟩;walk_at"rd";have D:Vbbhal.step b (.rateof k c d e)=if cI k c d e=false then Vbbhal.no b 1 else Vbbhal.yes b (Vbbhal.rateAt b k.toNat c.toNat d.toNat e.toNat):=by
  show(if _ then _ else _:State×Ans)=_;have o:∀(a m:Prop)[Decidable a][Decidable m](x y:State×Ans),(a↔m)→(if a then x else y)=if m then x else y:=λa m _ _ x y z=>by
   by_cases f:a;·rw[Mj f,Mj (z.mp f)]
   ·rw[Mi f,Mi λw=>f (z.mpr w)]
  refine o _ _ _ _ ?_;unfold cI;generalize(if k=1 then Vbbhal.inside c 1 3 else Vbbhal.inside c 0 0)=b2;generalize Vbbhal.inside k 1 5=b1;generalize Vbbhal.inside d 0 36=b3;generalize Vbbhal.isDay e=b4;revert b1 b2 b3 b4;decide
 rw[D]at i;by_cases q:cI k c d e=false;·rw[Mj q]at i⊢;exact⟨by decide,i.one p rfl (au.refl j)⟩
 · rw[Mi q]at i⊢;have r:=Gm.tof q;unfold cI at r;simp only[Bool.and_eq_true]at r;obtain⟨E,n,F,G⟩:=r;have X:=Gm.aX.mp E;have Y:=Gm.aX.mp F;have Z:=Gm.gY.mp G;have H:0≤c:=by
     by_cases f:k=1;·rw[Mj f]at n;have:=Gm.aX.mp n;lia
     ·rw[Mi f]at n;have:=Gm.aX.mp n;lia
   obtain⟨I,rfl⟩:=JF (show 0≤k by lia);obtain⟨J,rfl⟩:=JF H;obtain⟨L,rfl⟩:=JF (show 0≤d by lia);obtain⟨M,rfl⟩:=JF (show 0≤e by lia);refine⟨h,b,l,I,J,L,M,rfl,p,C,λac N=>⟨by decide,?_⟩⟩;exact i.one p rfl N)
theorem tO(c:Tx):Oz "answer_day" 2 ["house","day"] (λn e o _=>∃(f:Addr)(a:State)(g:HA)(b:Int),n=[.ref f,.int b]∧aH e f a g∧Good a∧aB e f a g (Vbbhal.step a (.day b)) o):=by f_assign(
 have s:=c.gF.fs ["house","day"];refine c.gF.ok s (by rintro _ _ _ _⟨_,_,_,_,h,_⟩;rw[h];rfl) (λp B C D E e n o F u v=>?_);obtain⟨f,a,g,b,rfl,i,G,d⟩:=v;have q:=i.tre.ob;unfold hf at q;refine⟨_,(ae (aG (ba (pt_val (ag (aL c) u (aa (pv 1) (aa (pe_fld (pv 0) rfl) (aa (aJ c.sZ) af)))))) (ai (aq (aC (aa (aJ c.aN) af)))) aw) (ae (bf (pv 0) (pv 1) rfl) (ai (aq (aC (aa ao af)))))),?_⟩;simp_arith[q,c.az];have x:Vbbhal.step a (.day b)=if Vbbhal.inside b a.today 365243=false then Vbbhal.no a 1 else Vbbhal.yes {a with today:=b.toNat} 0:=rfl;rw[x]at d;by_cases j:Vbbhal.inside b a.today 365243=false;·rw[Mj j]at d⊢;exact⟨by decide,d.one i rfl (au.refl e)⟩
 ·rw[Mi j]at d⊢;have H:=Gm.aX.mp (Gm.tof j);obtain⟨y,rfl⟩:=JF (show 0≤b by lia);refine⟨by decide,?_⟩;have z:=i.num (s':={a with today:=y}) rfl rfl rfl rfl rfl rfl (L6 _);refine d.wrote (l:=[0]) rfl z (λr I h p=>?_) (λr m=>.inl m) (λr m=>(aW m).1);rw[ak λA=>p (.inl A)];exact h)
theorem aH.prime{l t:Addr}{g:State}{e:HA}(c:aH H l g e)(o:Good g){d a b:Nat}(p:H t=some (.tup [.int a,.int b])):aH (upd H e.aP (.dK (putK e.kP (ki d) (.ref t)))) l {g with primes:=Gm.cG d a b g.primes} {e with kP:=putK e.kP (ki d) (.ref t),pa:=λm=>if m=d then t else e.pa m}:=by f_assign(
 have ne:∀b j,H b=some j→(∀q,j≠.dK q)→upd H e.aP (.dK (putK e.kP (ki d) (.ref t))) b=some j:=λb j f h=>by rw[ak (λw=>by rw[w,c.pr]at f;exact h _ (Lv f).symm)];exact f
 refine⟨⟨ne _ _ c.tre.ob nofun,.inl (ne _ _ c.ac nofun),c.tre.acR,λx i=>?_⟩,ne _ _ c.ac nofun,c.acI,aj,?_,λx i=>?_,ne _ _ c.ra nofun,c.raR,by rw[ak c.nPT.symm];exact c.ti,c.tiR,c.nPT,c.nRA,c.re.upd c.pr rfl (by intros;intro h;cases h) c.re.nIP.symm (λr s=>fJ c.pr (c.re.ivD r s).1 nofun) rfl rfl (L6 _) ⟨rfl,rfl,rfl,rfl,rfl,rfl,rfl,rfl,rfl⟩ rfl rfl rfl rfl⟩;·obtain⟨u,f,z,A⟩:=c.tre.acA x i;exact⟨u,f,ne _ _ z nofun,ne _ _ A nofun⟩
 ·have nd:(g.primes.map λx=>ki x.since).Nodup:=by have:=o.pk;unfold List.Nodup at this⊢;rw[KO]at this⊢;exact this.imp λ{x y}f B=>f (cw B)
  refine(Km.iO (k:=ki d) (v:=V.ref t) c.prR nd).trans ?_;unfold Gm.cG;rw[Lp];have C:(g.primes.filter λx=>decide (ki x.since≠ki d))=g.primes.filter λx=>x.since !=d:=by
   apply KI;intro x _;by_cases h:x.since=d;·simp[h]
   ·have:¬ki x.since=ki d:=λw=>h (cw w);simp[h,this]
  rw[C];refine List.Perm.append (Li ?_) (Li ?_);·apply Kh;intro x i;have:=(Lr.mp i).2;simp only[bne_iff_ne,ne_eq]at this;show _=(ki x.since,V.ref (if x.since=d then t else e.pa x.since));rw[Mi this]
  ·simp
 ·rcases Lq.mp i with f|f;·obtain⟨D,n⟩:=Lr.mp f;simp only[bne_iff_ne,ne_eq]at n;show upd H e.aP _ (if x.since=d then t else e.pa x.since)=_;rw[Mi n];exact ne _ _ (c.prA x D) nofun
  ·simp only[List.mem_singleton]at f;subst f;show upd H e.aP _ (if d=d then t else e.pa d)=_;rw[Mj rfl];exact ne _ _ p nofun)
theorem gp{a b:Type}{c:List (a×V)}{d:List b}{e:b→a×V}(f:c.Perm (d.map e)):c.length=d.length:=by rw[f.length_eq,Ln]
theorem An{a:State}(b:Good a):(a.primes.map λx=>ki x.since).Nodup:=by have:=b.pk;unfold List.Nodup at this⊢;rw[KO]at this⊢;exact this.imp λ{x y}c d=>c (cw d)
theorem xu{d:State}(g:Good d){f:HA}{h:Addr}(i:aH H h d f){c a b:Nat}(v:V):(Gm.cG c a b d.primes).length=(putK f.kP (ki c) v).length:=by
 rw[(Km.iO (k:=ki c) (v:=v) i.prR (An g)).length_eq];unfold Gm.cG;rw[Kr,Kr,Ln];have j:(d.primes.filter λx=>decide (ki x.since≠ki c))=d.primes.filter λx=>x.since !=c:=by
  apply KI;intro x _;by_cases e:x.since=c;·simp[e]
  ·have:¬ki x.since=ki c:=λw=>e (cw w);simp[e,this]
 rw[j];rfl
theorem so{b:Type}[DecidableEq b]{a:List (b×V)}{k:b}{most:Nat}(nd:(a.map (·.1)).Nodup)(c:a.length≤most):((bt a k).isSome||decide ((a.length:Int)<(most:Int)))=true↔¬most<(putK a k v).length:=by
 rw[Km.C7 nd];cases z:(bt a k).isSome;·simp;lia
 ·simp;lia
theorem qd(f:Tx):Oz "answer_prime" 3 ["house","day","start","stop"] (λC h D _=>∃(s:Addr)(c:State)(i:HA)(d a b:Int),C=[.ref s,.int d,.int a,.int b]∧aH h s c i∧Good c∧aB h s c i (Vbbhal.step c (.prime d a b)) D):=by f_assign(
 have M:=f.fz.fs ["house","day","start","stop"];refine f.fz.ok M (by rintro _ _ _ _⟨_,_,_,_,_,_,z,_⟩;rw[z];rfl) (λE X Y Z ac h C D ah n N=>?_);obtain⟨s,c,i,d,a,b,rfl,g,m,e⟩:=N;have O:=bN n;have F:=g.tre.ob;unfold hf at F;refine⟨_,(ae (aG (ba (PW.pt (cq (pt_val (ag (iR f) n (aa (pv 1) af))) (cq (pt_val (ag (aL f) n (aa (pv 2) (aa ao (aa ao af))))) (bZ (pt_val (ag (aL f) n (aa (pv 3) (aa (pv 2) (aa ao af)))))))))) (ai (aq (aC (aa (aJ f.aN) af)))) aw) (ae (aG (pt_cmpR op_le (pv 1) (pe_fld (pv 0) rfl) (aD _)) (ai (aq (aC (aa (aJ f.jt) af)))) aw) (ae (aG (ba (pt_val (ag (kj f) n (aa (pe_fld (pv 0) rfl) (aa (pv 1) (aa (aJ f.mI) af)))))) (ai (aq (aC (aa (aJ f.fV) af)))) aw) (ae (df O (pe_fld (pv 0) rfl) (pv 1) (fQ (aa (pv 2) (aa (pv 3) af))) rfl) (ai (aq (aC (aa (aF mw (by rfl) f.bT bh (aa (pe_fld (pv 0) rfl) af)) af)))))))),?_⟩;simp_arith[F,f.az];have Q:Vbbhal.step c (.prime d a b)=if Vbbhal.isDay d=false∨Vbbhal.inside a 0 1440=false∨Vbbhal.inside b a 1440=false then Vbbhal.no c 1 else if d.toNat≤c.last then Vbbhal.no c 12 else if 20<(Gm.cG d.toNat a.toNat b.toNat c.primes).length then Vbbhal.no c 8 else Vbbhal.yes {c with primes:=Gm.cG d.toNat a.toNat b.toNat c.primes} (Gm.cG d.toNat a.toNat b.toNat c.primes).length:=rfl;rw[Q]at e;by_cases p:Vbbhal.isDay d=true;case neg=>rw[Mi p];rw[Mj (.inl (by simpa using p))]at e;exact⟨by decide,e.one g rfl (au.refl h)⟩
 rw[Mj p];by_cases q:Vbbhal.inside a 0 1440=true;case neg=>rw[Mi q];rw[Mj (.inr (.inl (by simpa using q)))]at e;exact⟨by decide,e.one g rfl (au.refl h)⟩
 rw[Mj q];by_cases r:Vbbhal.inside b a 1440=false;·rw[Mj r];rw[Mj (.inr (.inr r))]at e;exact⟨by decide,e.one g rfl (au.refl h)⟩
 rw[Mi r];rw[Mi (λj=>j.elim (nf p) λj=>j.elim (nf q) r)]at e;have al:=Gm.gY.mp p;have am:=Gm.aX.mp q;have an:=Gm.aX.mp (Gm.tof r);obtain⟨d,rfl⟩:=JF (show 0≤d by lia);obtain⟨a,rfl⟩:=JF (show 0≤a by lia);obtain⟨b,rfl⟩:=JF (show 0≤b by lia);simp only[Int.toNat_natCast]at e;by_cases G:(d:Int)≤c.last;·rw[Mj G];rw[Mj (by lia)]at e;exact⟨by decide,e.one g rfl (au.refl h)⟩
 rw[Mi G];rw[Mi (by lia)]at e;have R:=gp g.prR;refine⟨i.aP,.int d,i.kP.length,bt i.kP (ki d),20,rfl,gm.k (k:=ki d) g.pr,.inl ⟨_,g.pr,rfl⟩,_,rfl,?_⟩;have S:=Km.qI g.prR (An m);have A:=so (k:=ki d) (v:=V.non) (most:=20) S (by rw[R];exact m.plen);rw[←xu (a:=a) (b:=b) m g V.non]at A;by_cases u:((bt i.kP (ki d)).isSome||decide ((i.kP.length:Int)<((20:Nat):Int)))=false
 ·rw[show(20:Int)=((20:Nat):Int)from rfl,Mj u];rw[Mj (by
  by_cases j:20<(Gm.cG d a b c.primes).length;·exact j
  ·have:=A.mpr j;rw[u]at this;cases this)]at e;exact⟨by decide,e.one g rfl (au.refl h)⟩
 ·rw[show(20:Int)=((20:Nat):Int)from rfl,Mi u];have T:=A.mp (Gm.tof u);rw[Mi T]at e;refine⟨by decide,λt U=>?_⟩;have H:=au.new U (o:=.tup [V.int a,V.int b]);have y:=g.same H;have I:=y.tre.ob;unfold hf at I;have J:=y.prime (t:=t) (d:=d) (a:=a) (b:=b) m aj;have L:=J.tre.ob;unfold hf at L;simp_arith[I,f.az];refine⟨_,iA.k (k:=ki d) y.pr (bq (by have:=m.plen;lia)),?_⟩;simp_arith[L,f.az];refine⟨_,rfl,by decide,?_⟩;rw[←xu (a:=a) (b:=b) m y (V.ref t)];refine e.wrote (l:=[((Gm.cG d a b c.primes).length:Int)]) rfl J (λx o z E=>?_) (λx B=>?_) (λx B=>(aW (aW B).1).1);·rw[ak (λj=>E (.inr (.inl j)))];exact H _ _ z
  ·exact .inl B)
theorem Ff{d:State}{x:Rate}:(d.rates.filter λa=>decide (rk a≠rk x))=d.rates.filter λa=>!(a.kind==x.kind&&(a.shift==x.shift&&(a.cls==x.cls&&a.since==x.since))):=by f_assign(
 apply KI;intro a _;by_cases c:rk a=rk x;·have b:=c;unfold rk at b;simp only[List.cons.injEq,and_true]at b;simp[c,cw b.1,cw b.2.1,cw b.2.2.1,cw b.2.2.2]
 ·have:¬(a.kind=x.kind∧a.shift=x.shift∧a.cls=x.cls∧a.since=x.since):=λw=>c (by unfold rk;rw[w.1,w.2.1,w.2.2.1,w.2.2.2]);simp only[ne_eq,c,not_false_eq_true,decide_true];symm;rw[Bool.not_eq_true'];cases q:(a.kind==x.kind&&(a.shift==x.shift&&(a.cls==x.cls&&a.since==x.since)))with|false=>rfl|true=>simp only[Bool.and_eq_true,beq_iff_eq]at q;exact absurd q this)
theorem uE{d:Addr}{a:State}{b:HA}(e:aH H d a b)(f:Good a)(x:Rate):(putK b.kR (rk x) (rv x)).Perm ((Vbbhal.putRate x a.rates).map λc=>(rk c,rv c)):=by refine(Km.iO (k:=rk x) (v:=rv x) e.raR (DF f.rk)).trans ?_;unfold Vbbhal.putRate;rw[Ff,Lp];exact .refl _
theorem aH.rate{i:Addr}{d:State}{b:HA}(a:aH H i d b)(l:Good d)(x:Rate):aH (upd H b.aR (.dT (putK b.kR (rk x) (rv x)))) i {d with rates:=Vbbhal.putRate x d.rates} {b with kR:=putK b.kR (rk x) (rv x)}:=by f_assign(
 have ne:∀f e,H f=some e→(∀m,e≠.dT m)→upd H b.aR (.dT (putK b.kR (rk x) (rv x))) f=some e:=λf e c g=>by rw[ak (λw=>by rw[w,a.ra]at c;exact g _ (Lv c).symm)];exact c
 have j:upd H b.aR (.dT (putK b.kR (rk x) (rv x))) b.aA=some (.dT b.kA):=by rw[ak a.nRA.symm];exact a.ac
 refine⟨⟨ne _ _ a.tre.ob nofun,.inl j,a.tre.acR,λy h=>?_⟩,j,a.acI,ne _ _ a.pr nofun,a.prR,λy h=>ne _ _ (a.prA y h) nofun,aj,uE a l x,ne _ _ a.ti nofun,a.tiR,a.nPT,a.nRA,a.re.upd a.ra rfl (by intros;intro g;cases g) (fJ a.ra a.re.iv nofun) (λn o=>(a.re.nMR n o).1.symm) rfl rfl (L6 _) ⟨rfl,rfl,rfl,rfl,rfl,rfl,rfl,rfl,rfl⟩ rfl rfl rfl rfl⟩;obtain⟨p,c,q,r⟩:=a.tre.acA y h;exact⟨p,c,ne _ _ q nofun,ne _ _ r nofun⟩)
theorem sr(e:Tx):Oz "answer_rate" 4 ["house","kind","shift","grade","day","value"] (λL i M _=>∃(A:Addr)(f:State)(m:HA)(k c d b v:Int),L=[.ref A,.int k,.int c,.int d,.int b,.int v]∧aH i A f m∧Good f∧aB i A f m (Vbbhal.step f (.rate k c d b v)) M):=by f_assign(
 have N:=e.gd.fs ["house","kind","shift","grade","day","value","key"];refine e.gd.ok N (by rintro _ _ _ _⟨_,_,_,_,_,_,_,_,q,_⟩;rw[q];rfl) (λO aI aK aM aN i L M aP B al=>?_);obtain⟨A,f,m,k,c,d,b,v,rfl,j,r,h⟩:=al;have am:=bN B;have F:=j.tre.ob;unfold hf at F;refine⟨_,(ae (aG (ba (PW.pt (cq (pt_val (ag (iS e) B (aa (pv 1) (aa (pv 2) (aa (pv 3) (aa (pv 4) af)))))) (bZ (pt_val (ag (aL e) B (aa (pv 5) (aa ao (aa (aJ e.qw) af))))))))) (ai (aq (aC (aa (aJ e.aN) af)))) aw) (ae (aG (pt_cmpR op_le (pv 4) (pe_fld (pv 0) rfl) (aD _)) (ai (aq (aC (aa (aJ e.jt) af)))) aw) (ae (sT 6 N.nd (fQ (aa (pv 1) (aa (pv 2) (aa (pv 3) (aa (pv 4) af)))))) (ae (aG (ba (pt_val (ag (kj e) B (aa (pe_fld (pv 0) rfl) (aa (pv 6) (aa (aJ e.vY) af)))))) (ai (aq (aC (aa (aJ e.fV) af)))) aw) (ae (df am (pe_fld (pv 0) rfl) (pv 6) (pv 5) rfl) (ai (aq (aC (aa (aF gQ (by rfl) e.bT bh (aa (pe_fld (pv 0) rfl) af)) af))))))))),?_⟩;simp_all_arith[F,e.az];have Q:Vbbhal.step f (.rate k c d b v)=if cI k c d b=false∨Vbbhal.inside v 0 1000000000000=false then Vbbhal.no f 1 else if b.toNat≤f.last then Vbbhal.no f 12 else if 100<(Vbbhal.putRate ⟨k.toNat,c.toNat,d.toNat,b.toNat,v.toNat⟩ f.rates).length then Vbbhal.no f 8 else Vbbhal.yes {f with rates:=Vbbhal.putRate ⟨k.toNat,c.toNat,d.toNat,b.toNat,v.toNat⟩ f.rates} (Vbbhal.putRate ⟨k.toNat,c.toNat,d.toNat,b.toNat,v.toNat⟩ f.rates).length:=by
  show(if _ then _ else _:State×Ans)=_;have q:∀(a n:Prop)[Decidable a][Decidable n](x y:State×Ans),(a↔n)→(if a then x else y)=if n then x else y:=λa n _ _ x y R=>by
   by_cases g:a;·rw[Mj g,Mj (R.mp g)]
   ·rw[Mi g,Mi λw=>g (R.mpr w)]
  refine q _ _ _ _ ?_;unfold cI;generalize(if k=1 then Vbbhal.inside c 1 3 else Vbbhal.inside c 0 0)=b2;generalize Vbbhal.inside k 1 5=b1;generalize Vbbhal.inside d 0 36=b3;generalize Vbbhal.isDay b=b4;generalize Vbbhal.inside v 0 1000000000000=b5;revert b1 b2 b3 b4 b5;decide
 rw[Q]at h;by_cases p:cI k c d b=true;case neg=>rw[Mi p];rw[Mj (.inl (by simpa using p))]at h;exact⟨by decide,h.one j rfl (au.refl i)⟩
 rw[Mj p];by_cases s:Vbbhal.inside v 0 1000000000000=false;·rw[Mj s];rw[Mj (.inr s)]at h;exact⟨by decide,h.one j rfl (au.refl i)⟩
 rw[Mi s];rw[Mi (λg=>g.elim (nf p) s)]at h;have aR:=Gm.aX.mp (Gm.tof s);unfold cI at p;simp only[Bool.and_eq_true]at p;obtain⟨S,u,T,U⟩:=p;have S:=Gm.aX.mp S;have T:=Gm.aX.mp T;have U:=Gm.gY.mp U;have an:0≤c:=by
  by_cases g:k=1;·rw[Mj g]at u;have:=Gm.aX.mp u;lia
  ·rw[Mi g]at u;have:=Gm.aX.mp u;lia
 clear u Q;obtain⟨k,rfl⟩:=JF (show 0≤k by lia);obtain⟨c,rfl⟩:=JF an;obtain⟨d,rfl⟩:=JF (show 0≤d by lia);obtain⟨b,rfl⟩:=JF (show 0≤b by lia);obtain⟨v,rfl⟩:=JF (show 0≤v by lia);simp only[Int.toNat_natCast]at h;by_cases X:(b:Int)≤f.last;·rw[Mj X];rw[Mj (by lia)]at h;exact⟨by decide,h.one j rfl (au.refl i)⟩
 rw[Mi X];rw[Mi (by lia)]at h;obtain⟨x,G⟩:∃x:Rate,x=⟨k,c,d,b,v⟩:=⟨_,rfl⟩;rw[←G]at h;walk_at"a";refine⟨by decide,λt ap=>?_⟩;simp_all_arith[F,e.az];have ar:(rk x).map kV=[V.int k,V.int c,V.int d,V.int b]:=by rw[G];rfl
 have H:upd i t (.tup [V.int k,V.int c,V.int d,V.int b]) t=some (.tup ((rk x).map kV)):=by rw[aj,ar]
 have C:=au.new ap (o:=.tup [V.int k,V.int c,V.int d,V.int b]);have Y:∀n,upd i t (.tup [V.int k,V.int c,V.int d,V.int b]) n=none→i n=none:=λn g=>(aW g).1;generalize upd i t (.tup [V.int k,V.int c,V.int d,V.int b])=aT at H C Y⊢;have z:=j.same C;have D:=z.tre.ob;unfold hf at D;have av:=gp j.raR;have ax:=Km.qI j.raR (DF r.rk);simp_all_arith[D,e.az];walk_at"a";refine⟨m.aR,.ref t,m.kR.length,bt m.kR (rk x),100,rfl,gm.t z.ra H,.inr ⟨_,.inl z.ra,rfl⟩,?_⟩;simp_all_arith[D,e.az];have I:=so (k:=rk x) (v:=rv x) (most:=100) ax (by rw[av];exact r.rlen);have Z:=gp (uE j r x);rw[Z]at I;by_cases E:((bt m.kR (rk x)).isSome||decide ((m.kR.length:Int)<((100:Nat):Int)))=false
 ·rw[show(100:Int)=((100:Nat):Int)from rfl,Mj E];rw[Mj (by
  by_cases g:100<(Vbbhal.putRate x f.rates).length;·exact g
  ·have:=I.mpr g;rw[E]at this;cases this)]at h;exact⟨by decide,h.one j rfl C⟩
 ·rw[show(100:Int)=((100:Nat):Int)from rfl,Mi E];have aA:=I.mp (Gm.tof E);rw[Mi aA]at h;have ac:=z.rate r x;have ah:=ac.tre.ob;unfold hf at ah;simp_all_arith[D,e.az];have aE:rv x=V.int v:=by rw[G];rfl
  refine⟨_,iA.t z.ra H (bq (by have:=r.rlen;lia)),?_⟩;rw[←aE];simp_all_arith[ah,e.az];refine⟨_,.inl aj,by decide,?_⟩;rw[Z];refine h.wrote (l:=[((Vbbhal.putRate x f.rates).length:Int)]) rfl ac (λy o q O=>?_) (λy J=>.inl J) (λy J=>Y y (aW J).1);rw[ak (λg=>O (.inr (.inr (.inl g))))];exact C _ _ q)
theorem uF{x:Nat×Nat}:∀{b:List (Nat×Nat)},(b.Pairwise λa i=>a.1<i.1)→(Vbbhal.putTier x b).Perm ((b.filter λt=>decide (ki t.1≠ki x.1))++[x])|[],_=>by simp[Vbbhal.putTier]|y::b,j=>by f_assign(
 obtain⟨g,l⟩:=Ku.mp j;unfold Vbbhal.putTier;have keep:∀d:List (Nat×Nat),(∀t∈d,t.1≠x.1)→(d.filter λt=>decide (ki t.1≠ki x.1))=d:=λd m=>by rw[Ke];intro t c;exact LF λf=>m t c (cw f)
 by_cases e:y.1=x.1;·rw[Mj e,K8,Mi (by simp[e]),keep b λt c=>by have:=g t c;lia];exact(Ju _ _).symm
 ·rw[Mi e];have n:¬ki y.1=ki x.1:=λf=>e (cw f)
  by_cases h:x.1<y.1;·rw[Mj h,keep (y::b) λt c=>by
      rcases LN.mp c with q|q;·rw[q];lia
      · have := g t q;lia];exact(Ju _ _).symm
  ·rw[Mi h,K8,Mj (by simp[n])];exact(uF l).cons _)
theorem F4{a:State}(b:Good a):(a.tiers.map λt=>ki t.1).Nodup:=by have:=b.tk;unfold List.Nodup;rw[KO];exact this.imp λ{x y}d c=>by have:=cw c;lia
theorem uG{d:Addr}{a:State}{b:HA}(e:aH H d a b)(c:Good a)(x:Nat×Nat):(putK b.kT (ki x.1) (.int x.2)).Perm ((Vbbhal.putTier x a.tiers).map λt=>(ki t.1,V.int t.2)):=by refine(Km.iO (k:=ki x.1) (v:=V.int x.2) e.tiR (F4 c)).trans ?_;refine List.Perm.trans ?_ ((uF c.tk).map _).symm;rw[Lp];exact .refl _
theorem aH.tier{i:Addr}{d:State}{b:HA}(a:aH H i d b)(j:Good d)(x:Nat×Nat):aH (upd H b.aT (.dK (putK b.kT (ki x.1) (.int x.2)))) i {d with tiers:=Vbbhal.putTier x d.tiers} {b with kT:=putK b.kT (ki x.1) (.int x.2)}:=by f_assign(
 have ne:∀f e,H f=some e→(∀l,e≠.dK l)→upd H b.aT (.dK (putK b.kT (ki x.1) (.int x.2))) f=some e:=λf e c g=>by rw[ak (λw=>by rw[w,a.ti]at c;exact g _ (Lv c).symm)];exact c
 refine⟨⟨ne _ _ a.tre.ob nofun,.inl (ne _ _ a.ac nofun),a.tre.acR,λy h=>?_⟩,ne _ _ a.ac nofun,a.acI,by rw[ak a.nPT];exact a.pr,a.prR,λy h=>ne _ _ (a.prA y h) nofun,ne _ _ a.ra nofun,a.raR,aj,uG a j x,a.nPT,a.nRA,a.re.upd a.ti rfl (by intros;intro g;cases g) a.re.nIT.symm (λm n=>fJ a.ti (a.re.ivD m n).1 nofun) rfl rfl (L6 _) ⟨rfl,rfl,rfl,rfl,rfl,rfl,rfl,rfl,rfl⟩ rfl rfl rfl rfl⟩;obtain⟨o,c,p,q⟩:=a.tre.acA y h;exact⟨o,c,ne _ _ p nofun,ne _ _ q nofun⟩)
theorem su(c:Tx):Oz "answer_tier" 3 ["house","limit","thousandths"] (λx g z _=>∃(n:Addr)(b:State)(f:HA)(t a:Int),x=[.ref n,.int t,.int a]∧aH g n b f∧Good b∧aB g n b f (Vbbhal.step b (.tier t a)) z):=by f_assign(
 have F:=c.gf.fs ["house","limit","thousandths"];refine c.gf.ok F (by rintro _ _ _ _⟨_,_,_,_,_,r,_⟩;rw[r];rfl) (λA N O Q R g x z S o G=>?_);obtain⟨n,b,f,t,a,rfl,d,i,e⟩:=G;have H:=bN o;have p:=d.tre.ob;unfold hf at p;refine⟨_,(ae (aG (ba (PW.pt (cq (pt_val (ag (dQ c) o (aa (pv 1) (aa ao af)))) (bZ (pt_val (ag (aL c) o (aa (pv 2) (aa ao (aa ao af))))))))) (ai (aq (aC (aa (aJ c.aN) af)))) aw) (ae (aG (ba (pt_val (ag (kj c) o (aa (pe_fld (pv 0) rfl) (aa (pv 1) (aa (aJ c.vS) af)))))) (ai (aq (aC (aa (aJ c.fV) af)))) aw) (ae (df H (pe_fld (pv 0) rfl) (pv 1) (pv 2) rfl) (ai (aq (aC (aa (aF mw (by rfl) c.bT bh (aa (pe_fld (pv 0) rfl) af)) af))))))),?_⟩;simp_all_arith[p,c.az];have B:Vbbhal.step b (.tier t a)=if Vbbhal.isAmount t 0=false∨Vbbhal.inside a 0 1000=false then Vbbhal.no b 1 else if 5<(Vbbhal.putTier (t.toNat,a.toNat) b.tiers).length then Vbbhal.no b 8 else Vbbhal.yes {b with tiers:=Vbbhal.putTier (t.toNat,a.toNat) b.tiers} (Vbbhal.putTier (t.toNat,a.toNat) b.tiers).length:=rfl;rw[B]at e;by_cases j:Vbbhal.isAmount t 0=true;case neg=>rw[Mi j];rw[Mj (.inl (by simpa using j))]at e;exact⟨by decide,e.one d rfl (au.refl g)⟩
 rw[Mj j];by_cases m:Vbbhal.inside a 0 1000=false;·rw[Mj m];rw[Mj (.inr m)]at e;exact⟨by decide,e.one d rfl (au.refl g)⟩
 rw[Mi m];rw[Mi (λh=>h.elim (nf j) m)]at e;have T:=Gm.aX.mp j;have U:=Gm.aX.mp (Gm.tof m);clear B;obtain⟨t,rfl⟩:=JF (show 0≤t by lia);obtain⟨a,rfl⟩:=JF (show 0≤a by lia);simp only[Int.toNat_natCast]at e;have I:=gp d.tiR;have J:=Km.qI d.tiR (F4 i);walk_at"a";refine⟨f.aT,.int t,f.kT.length,bt f.kT (ki t),5,rfl,gm.k (k:=ki t) d.ti,.inl ⟨_,d.ti,rfl⟩,?_⟩;simp_all_arith[p,c.az];have s:=so (k:=ki t) (v:=V.int a) (most:=5) J (by rw[I];exact i.tlen);have L:=gp (uG d i (t,a));have C:(putK f.kT (ki t) (V.int a)).length=(Vbbhal.putTier (t,a) b.tiers).length:=L;rw[C]at s;by_cases q:((bt f.kT (ki t)).isSome||decide ((f.kT.length:Int)<((5:Nat):Int)))=false
 ·rw[show(5:Int)=((5:Nat):Int)from rfl,Mj q];rw[Mj (by
  by_cases h:5<(Vbbhal.putTier (t,a) b.tiers).length;·exact h
  ·have:=s.mpr h;rw[q]at this;cases this)]at e;exact⟨by decide,e.one d rfl (au.refl g)⟩
 ·rw[show(5:Int)=((5:Nat):Int)from rfl,Mi q];have M:=s.mp (Gm.tof q);rw[Mi M]at e;have D:=d.tier i (t,a);have E:=D.tre.ob;unfold hf at E;simp_all_arith[p,c.az];refine⟨_,iA.k (k:=ki t) d.ti (bq (by have:=i.tlen;lia)),?_⟩;simp_all_arith[E,c.az];refine⟨_,rfl,by decide,?_⟩;rw[C];refine e.wrote (l:=[((Vbbhal.putTier (t,a) b.tiers).length:Int)]) rfl D (λy a r A=>?_) (λy u=>.inl u) (λy u=>(aW u).1);rw[ak (λh=>A (.inr (.inr (.inr (.inl h)))))];exact r)
theorem qf(a:Tx):Oz "answer_dayof" 4 ["year","month","day_of_month"] (λp f q _=>∃(l:Addr)(e:State)(m:HA)(y c d:Int),p=[.int y,.int c,.int d]∧aH f l e m∧Good e∧aB f l e m (Vbbhal.step e (.dayof y c d)) q):=by f_assign(
 have s:=a.fC.fs ["year","month","day_of_month"];refine a.fC.ok s (by rintro _ _ _ _⟨_,_,_,_,_,_,u,_⟩;rw[u];rfl) (λC D E F G f p q H g v=>?_);obtain⟨l,e,m,y,c,d,rfl,j,I,b⟩:=v;refine⟨_,(ae (aG (ba (PW.pt (cq (pt_val (ag (aL a) g (aa (pv 0) (aa (aJ a.fG) (aa (aJ a.x8) af))))) (bZ (pt_val (ag (aL a) g (aa (pv 1) (aa ao (aa ao af))))))))) (ai (aq (aC (aa (aJ a.aN) af)))) aw) (ae (aG (ba (pt_val (ag (aL a) g (aa (pv 2) (aa ao (aa (ag (dP a) g (aa (pv 0) (aa (pv 1) af))) af)))))) (ai (aq (aC (aa (aJ a.aN) af)))) aw) (ai (aq (aC (aa (ag (BL a) g (aa (pv 0) (aa (pv 1) (aa (pv 2) af)))) af)))))),?_⟩;walk_at"go";have r:Vbbhal.step e (.dayof y c d)=if Vbbhal.inside y 1900 2899=false∨Vbbhal.inside c 1 12=false then Vbbhal.no e 1 else if Vbbhal.inside d 1 (Vbbhal.monthLength ((y.toNat-1900)*12+(c.toNat-1)))=false then Vbbhal.no e 1 else Vbbhal.yes e (Vbbhal.daysBefore ((y.toNat-1900)*12+(c.toNat-1))+d.toNat):=rfl;rw[r]at b;by_cases h:Vbbhal.inside y 1900 2899=true;case neg=>rw[Mi h];rw[Mj (.inl (by simpa using h))]at b;exact⟨by decide,b.one j rfl (au.refl f)⟩
 rw[Mj h];by_cases i:Vbbhal.inside c 1 12=false;·rw[Mj i];rw[Mj (.inr i)]at b;exact⟨by decide,b.one j rfl (au.refl f)⟩
 rw[Mi i];rw[Mi (λx=>x.elim (nf h) i)]at b;have J:=Gm.aX.mp h;have L:=Gm.aX.mp (Gm.tof i);clear r;obtain⟨k,z⟩:∃k:Nat,k=(y.toNat-1900)*12+(c.toNat-1):=⟨_,rfl⟩;rw[←z]at b;have A:y=((1900+k/12:Nat):Int):=by lia
 have B:c=((k%12+1:Nat):Int):=by lia
 rw[A,B]at*;refine⟨by lia,by lia,?_⟩;rw[Dt.ya];walk_at"go";by_cases o:Vbbhal.inside d 1 (Vbbhal.monthLength k:Int)=false;·rw[Mj o]at b⊢;exact⟨by decide,b.one j rfl (au.refl f)⟩
 ·rw[Mi o]at b⊢;have M:=Gm.aX.mp (Gm.tof o);refine⟨k,rfl,rfl,?_⟩;walk_at"go";refine⟨by decide,?_⟩;have:=b.one (n:=(Vbbhal.daysBefore k+d.toNat:Nat)) j rfl (au.refl f);rw[show(Vbbhal.daysBefore k:Int)+d=((Vbbhal.daysBefore k+d.toNat:Nat):Int)by lia];exact this)
def DI:Sp:=λd c e _=>∃a:Nat,d=[.int a]∧1≤a∧a≤365243∧∀(k:Nat)(b:Addr),k<12000→Vbbhal.daysBefore k<a→a≤Vbbhal.daysBefore (k+1)→c b=none→e (.ref b) (upd c b (.tup [.int (1900+k/12:Nat),.int (k%12+1:Nat),.int (a-Vbbhal.daysBefore k:Nat)]))
theorem sv(b:Tx):Oz "answer_date" 5 ["day"] (λl e m _=>∃(g:Addr)(c:State)(h:HA)(a:Int),l=[.int a]∧aH e g c h∧Good c∧aB e g c h (Vbbhal.step c (.date a)) m):=by f_assign(
 have q:Oz "date_of" 4 ["day"] DI:=si b;have n:=b.gh.fs ["day","date"];refine b.gh.ok n (by rintro _ _ _ _⟨_,_,_,_,i,_⟩;rw[i];rfl) (λE F G H I e l m J f r=>?_);obtain⟨g,c,h,a,rfl,o,L,d⟩:=r;refine⟨_,(ae (aG (ba (pt_val (ag (iR b) f (aa (pv 0) af)))) (ai (aq (aC (aa (aJ b.aN) af)))) aw) (ae (sT 1 n.nd (ag q f (aa (pv 0) af))) (ai (aq (ag (bx b) f (aa (ag (jz b) f (aa (iX (pv 1)) (aa (iX (pv 1)) af))) (aa (aC (aa (iX (pv 1)) (aa (iX (pv 1)) (aa (iX (pv 1)) (aa (ag (lY b) f (aa (pv 0) af)) af))))) af))))))),?_⟩;walk_at"go";have p:Vbbhal.step c (.date a)=if Vbbhal.isDay a=false then Vbbhal.no c 1 else Vbbhal.yes c (Vbbhal.monthPlace Vbbhal.MONTHS 0 a.toNat).1 [[((1900+(Vbbhal.monthPlace Vbbhal.MONTHS 0 a.toNat).1/12:Nat):Int),(((Vbbhal.monthPlace Vbbhal.MONTHS 0 a.toNat).1%12+1:Nat):Int),((Vbbhal.monthPlace Vbbhal.MONTHS 0 a.toNat).2:Int),(Vbbhal.weekday a.toNat:Int)]]:=rfl;rw[p]at d;by_cases j:Vbbhal.isDay a=false;·rw[Mj j]at d⊢;exact⟨by decide,d.one o rfl (au.refl e)⟩
 ·rw[Mi j]at d⊢;have M:=Gm.gY.mp (Gm.tof j);clear p;obtain⟨a,rfl⟩:=JF (show 0≤a by lia);walk_at"a";refine⟨a,rfl,by lia,by lia,λk N s u v x=>?_⟩;walk_at"go";rw[KG,Dt.Fw s u v]at d;walk_at"go";walk_at"a";refine⟨by decide,λy z=>?_⟩;walk_at"go";walk_at"a";refine⟨_,y,[((1900+k/12:Nat):Int),((k%12+1:Nat):Int),((a-Vbbhal.daysBefore k:Nat):Int),((a:Int)-1)%7+1],rfl,.inl aj,by show 4≤99999;decide,λA O B C i=>?_⟩;walk_at"go";have D:au e A:=((au.new x).trans (au.new z)).trans B;refine d.read o D ((aW (aW C).1).1) ?_;rw[i];unfold mz;simp only[List.flatMap_cons,List.flatMap_nil,List.append_nil,List.length_cons,List.length_nil];rw[show(((1900+k/12:Nat):Int)-1900)*12+((k%12+1:Nat):Int)-1=(k:Int)by lia];rw[show((a:Int)-1)%7+1=((Vbbhal.weekday a:Nat):Int)by unfold Vbbhal.weekday;lia])
theorem aY.upd{b:Hp}{d:Addr}(e:b d=some (.lst xs)):∀{as:List Addr}{f:List (List Int)},aY b as f→aY (L2.upd b d o) as f|_,_,.nil=>.nil|_,_,.cons (a:=a) c t=>.cons (by rw[ak (λg=>by rw[g,e]at c;cases c)];exact c) (aY.upd e t)
theorem Ao{a:Around}{k:Nat}(b:cu k a):a.units+65<cLine:=by have:=b.un;omega
theorem qL{b:State}(d:Good b){c:Bytes}(e:Vbbhal.accountAt b c=some a):c≠[]:=λf=>by obtain⟨g,h⟩:=Tr.bb e;have:=d.codes a h;rw[g,f]at this;cases this
theorem vJ{b:State}(c:Good b):Vbbhal.accountAt b []=none:=by cases q:Vbbhal.accountAt b []with|none=>rfl|some a=>exact absurd rfl (qL c q)
theorem uH{b:State}(j:Good b){c:Bytes}{a:Account}(e:Vbbhal.accountAt b c=some a):Vbbhal.pathOf b c=c::Vbbhal.pathOf b (a.parent.getD [])∧(a.parent.getD []=[]∨∃f,Vbbhal.accountAt b (a.parent.getD [])=some f):=by f_assign(obtain⟨l,m⟩:=j.tree.wf.chain e;generalize s:Vbbhal.pathOf b c=u at l m;cases l with|@top _ o d g=>rw[e]at d;cases d;rw[g];exact⟨by show[c]=c::Vbbhal.pathOf b [];rw[Tr.gI (vJ j)],.inl rfl⟩|@up _ h o n d g i=>rw[e]at d;cases d;rw[g];have p:Vbbhal.pathOf b h=n:=i.path 8 (by rw[K9]at m;lia);obtain⟨t,q⟩:=i.ne;obtain⟨f,r⟩:=i.acc (x:=h) (by rw[q];simp);exact⟨by show c::n=c::Vbbhal.pathOf b h;rw[p],.inr ⟨f,r⟩⟩)
theorem F5{b:State}(c:Good b):(b.accounts.map λa=>ck a.code).Nodup:=by have:=c.tree.srt.nd;unfold List.Nodup at this⊢;rw[KO]at this⊢;exact this.imp λ{x y}d e=>d (fS e)
theorem eK{g:Addr}{e:State}{c:HA}(f:Tre H g e c)(h:Good e){b:Bytes}(i:H q=some (.tup (cv b))):gm H c.aA (.ref q) ((Vbbhal.accountAt e b).map λa=>V.ref (c.ad b)):=by f_assign(
 refine .inr ⟨c.kA,ck b,q,f.ac,rfl,by rw[cK];exact i,?_⟩;rw[Km.oU f.acR (F5 h)];unfold Vbbhal.accountAt;have j:(λx:Account=>decide (ck x.code=ck b))=λx=>x.code==b:=by
  funext x;by_cases d:x.code=b;·simp[d]
  ·have:¬ck x.code=ck b:=λw=>d (fS w);simp[d,this]
 rw[j];cases d:e.accounts.find? λx=>x.code==b with|none=>rfl|some a=>have l:=Lm d;have m:a.code=b:=eq_of_beq l;show _=some (V.ref (c.ad a.code));rw[m];rfl)
inductive DJ(vs:List V)(H:Hp)(Q:VK)(E:XK):Prop|mk(p:Addr)(s:State)(h:HA)(q:Addr)(c:Bytes):vs=[.ref p,.ref q]→Tre H p s h→Good s→H q=some (.tup (cv c))→((c=[]∨∃a,Vbbhal.accountAt s c=some a))→(∀H' l as,au H H'→H l=none→H' l=some (.lst (as.map V.ref))→aY H' as ((Vbbhal.pathOf s c).map ci)→Q (.ref l) H')→DJ vs H Q E
theorem fT(f:Tx):Oz "path_of" 1 ["house","code"] (DJ):=by f_assign(
 have r:=f.lp.fs ["house","code","path"];refine f.lp.ok r (by walk_at"l") (λaE aI aK aM aN A aP aR aT T n=>?_);obtain⟨U,g,B,X,s,rfl,C,h,Y,D,k⟩:=n;have Z:=bN T;refine⟨_,(ae (sT 2 r.nd (aC af)) (ae (jQ Lw (pt_cmpR op_gt (aF fR (by rfl) f.bT bh (aa (pv 1) af)) ao (aD _)) (ae (de (iG JH JB JC dE (pv 2) (aa (pv 1) af))) (ai (sT 1 r.nd (pe_fld (d6 Z (pe_fld (pv 0) rfl) (pv 1) (λ_ _=>rfl)) rfl))))) (ai (aq (pv 2))))),?_⟩;walk_at"rd";refine⟨by decide,λd o=>?_⟩;obtain⟨W,u⟩:∃W:Nat→L2.St→Hp→Prop,W=λE F c=>∃(b:Addr)(e:Bytes)(as:List Addr)(i:List Bytes),F=[some (V.ref U),some (V.ref b),some (V.ref d)]∧au A c∧c d=some (.lst (as.map V.ref))∧c b=some (.tup (cv e))∧(e=[]∨∃a,Vbbhal.accountAt g e=some a)∧i++Vbbhal.pathOf g e=Vbbhal.pathOf g s∧aY c as (i.map ci)∧E=(Vbbhal.pathOf g e).length:=⟨_,rfl⟩;refine⟨W,⟨(Vbbhal.pathOf g s).length,?_⟩,?_⟩;·rw[u];exact⟨X,s,[],[],rfl,au.new o,aj,au.new o _ _ Y,D,rfl,.nil,rfl⟩
 ·rintro E F c n;rw[u]at n;obtain⟨b,e,as,i,rfl,v,j,l,ac,p,q,rfl⟩:=n;have ah:=C.same v;have G:=ah.ob;unfold hf at G;simp_arith[G,l,f.az,f.bG];rw[iQ];rcases ac with rfl|⟨a,ha⟩;·rw[Mi (by simp)];rw[Tr.gI (vJ h),Lj]at p;rw[p]at q;exact k c d as v o j q
  · have al:=qL h ha;rw[Mj (by cases e with|nil=>exact absurd rfl al|cons _ _=>simp)];refine⟨_,λ_ _ B=>B,?_⟩;have aU:as.length≤8:=by
      have am:=q.len;have x:=Me List.length p;rw[Ln]at am;rw[Kr]at x;rcases D with m|⟨H,m⟩;·rw[m,Tr.gI (vJ h)]at x;simp only[List.length_nil]at x;lia
      ·have:=(h.tree.wf.chain m).2;lia
    refine⟨tyL j,_,j,bq (by rw[Ln];lia),?_⟩;have I:b≠d:=λm=>by rw[m,j]at l;cases l
    have y:au A (upd c d (.lst (as.map V.ref++[V.ref b]))):=λH an J=>by rw[ak (ay J o)];exact v H an J
    have L:aY (upd c d (.lst (as.map V.ref++[V.ref b]))) (as++[b]) ((i++[e]).map ci):=by rw[Lp];refine aY.snoc (by rw[ak I,bO];exact l) (aY.upd j q)
    have M:upd c d (.lst (as.map V.ref++[V.ref b])) b=some (.tup (cv e)):=by rw[ak I];exact l
    have N:upd c d (.lst (as.map V.ref++[V.ref b])) d=some (.lst ((as++[b]).map V.ref)):=by rw[aj,Lp];rfl
    generalize upd c d (.lst (as.map V.ref++[V.ref b]))=a0 at y L M N⊢;have z:=C.same y;have O:=z.ob;unfold hf at O;obtain⟨ap,ar⟩:=Tr.bb ha;obtain⟨a1,av,Q,ax⟩:=z.acA a ar;rw[ap]at Q;have R:=eK z h M;rw[ha]at R;obtain⟨S,aA⟩:=uH h ha;simp_arith[O,f.az,f.bG];refine⟨_,R,_,rfl,?_⟩;simp_arith[Q,f.bG];refine⟨(Vbbhal.pathOf g (a.parent.getD [])).length,by rw[S,K9];lia,?_⟩;rw[u];refine⟨av,a.parent.getD [],as++[b],i++[e],rfl,y,N,ax,aA,?_,L,rfl⟩;rw[←p,S,KH];rfl)
inductive Ap(vs:List V)(H:Hp)(Q:VK)(E:XK):Prop|mk(p:Addr)(s:State)(h:HA)(q:Addr)(c:Bytes):vs=[.ref p,.ref q]→Tre H p s h→Good s→H q=some (.tup (cv c))→((c=[]∨∃a,Vbbhal.accountAt s c=some a))→(∀H',au H H'→Q (.int (Vbbhal.pathOf s c).length) H')→Ap vs H Q E
theorem kn(a:Tx):Oz "depth_of" 2 ["house","code"] (Ap):=by f_assign(have c:=a.je.fs ["house","code"];refine a.je.ok c (by walk_at"l") (λv x y z A B C D E d e=>?_);obtain⟨f,g,h,i,j,rfl,l,m,n,o,k⟩:=e;refine⟨_,(ai (aq (aF bF (by rfl) a.bT bh (aa (ag (fT a) d (aa (pv 0) (aa (pv 1) af))) af)))),?_⟩;walk_at"rd";refine⟨f,g,h,i,j,rfl,l,m,n,o,λp q as r F s u=>?_⟩;refine⟨q,rfl,_,s,?_⟩;have:=k p r;have b:=u.len;rw[Ln]at b⊢;rw[b];exact this)
theorem aH.lock{g:Addr}{h:State}{a:HA}(c:aH H g h a)(e:Obj):Tre (upd H a.aA (.frz e (.dT a.kA))) g h a:=by
 have ne:∀f d,H f=some d→(∀i,d≠.dT i)→upd H a.aA (.frz e (.dT a.kA)) f=some d:=λf d b j=>by rw[ak (λw=>by rw[w,c.ac]at b;exact j _ (Lv b).symm)];exact b
 refine⟨ne _ _ c.tre.ob nofun,.inr ⟨e,aj⟩,c.tre.acR,λy l=>?_⟩;obtain⟨m,b,n,o⟩:=c.tre.acA y l;exact⟨m,b,ne _ _ n nofun,ne _ _ o nofun⟩
inductive xw(vs:List V)(H:Hp)(Q:VK)(E:XK):Prop|mk(p:Addr)(s:State)(h:HA)(q:Addr)(c:Bytes)(a:Account):vs=[.ref p,.ref q]→aH H p s h→Good s→H q=some (.tup (cv c))→Vbbhal.accountAt s c=some a→(∀H',au H H'→Q (.int (Vbbhal.height s Vbbhal.DEEP c)) H')→xw vs H Q E
def HR(c:State)(d:Bytes)(e:List Account)(b:Nat):Prop:=1≤b∧(∀a∈e,∀k,(Vbbhal.pathOf c a.code)[k]?=some d→k+1≤b)∧(b=1∨∃a∈e,∃k,(Vbbhal.pathOf c a.code)[k]?=some d∧b=k+1)
theorem F6{d:Bytes}{b:List Bytes}{c:Nat}:(b.map ci)[c]?=some (ci d)↔b[c]?=some d:=by
 rw[KL];constructor;·intro a;cases z:b[c]? with|none=>rw[z]at a;cases a|some e=>rw[z]at a;rw[vG (Lv a)]
 ·intro a;rw[a];rfl
theorem vK(q:Tx):Oz "height_of" 2 ["house","code"] (xw):=by f_assign(
 have u:=q.ig.fs ["house","code","height","other","path"];refine q.ig.ok u (by walk_at"l") (λa5 a6 a7 a8 a9 L bd bi bj S g=>?_);obtain⟨D,v,f,r,o,bl,rfl,p,y,T,ax,k⟩:=g;have U:=Ao S;have E:=p.tre.ob;unfold hf at E;obtain⟨M,N,X⟩:=perm_unmap p.tre.acR;have aA:D≠f.aA:=fJ E p.ac nofun;have aE:r≠f.aA:=fJ T p.ac nofun;refine⟨_,(ae (sT 2 u.nd ao) (ae (k_ (bW Lw rfl (mY (pe_fld (pv 0) rfl)) (gN 3 u.nd) (ae (sT 4 u.nd (ag (fT q) S (aa (pv 0) (aa (pv 3) af)))) (ai (aG (pt_cmpR (C9 U) (pv 1) (pv 4) (by with_unfolding_all rfl)) (ai (sT 2 u.nd (aF (fP rfl) (by rfl) q.pS j4 (aa (pv 2) (aa (aS op_add (iG JH PySem.F.slot_list_index PySem.F.type_list_index (BC U) (pv 4) (aa (pv 1) af)) ao) af))))) aw))))) (ai (aq (pv 2))))),?_⟩;simp_arith[E,q.az,wQ];refine⟨f.aA,_,p.ac,trivial,λz=>?_⟩;have aI:=p.lock z;have aK:upd L f.aA (.frz z (.dT f.kA)) D=_:=(ak aA).trans E;have aM:upd L f.aA (.frz z (.dT f.kA)) r=_:=(ak aE).trans T;simp_arith[uj,aK,q.az];refine⟨z,.inr ⟨f.kA,rfl,?_⟩⟩;obtain⟨O,s⟩:∃O:Nat→L2.St→Hp→Prop,O=λA F G=>∃(i:Nat)(H Y:Option V),F=[some (V.ref D),some (V.ref r),some (V.int i),H,Y]∧au (upd L f.aA (.frz z (.dT f.kA))) G∧HR v o (M.take A) i:=⟨_,rfl⟩;refine ls O ?_ ?_ ?_ ?_;·rw[s];exact⟨1,none,none,rfl,au.refl _,by lia,λa h=>(by rw[LD]at h;cases h),.inl rfl⟩
 ·rintro A F G _ g;rw[s]at g;obtain⟨i,H,Y,_,m,_⟩:=g;exact m _ _ aj
 ·rintro A aN H aP F G B Z g;rw[s]at g;obtain⟨i,aR,aT,rfl,m,I,R2,C⟩:=g;obtain⟨a,h,j⟩:∃a,M[A]?=some a∧(aN,H)=(ck a.code,V.ref (f.ad a.code)):=by rw[X,KL]at B;cases b:M[A]? with|none=>rw[b]at B;cases B|some aU=>rw[b]at B;exact⟨aU,rfl,(Lv B).symm⟩
  cases j;rw[cK]at Z;have a0:=N.mem_iff.mp (J_ h);have ac:=y.tree.wf.at_ a0;walk_at"rd";refine⟨D,v,f,aP,a.code,rfl,aI.same m,y,Z,.inr ⟨a,ac⟩,λa1 ah as al bm Q am=>?_⟩;have an:a1 r=some (.tup ((ci o).map V.int)):=by rw[bO];exact al _ _ (m _ _ aM)
  refine⟨r,ci o,ah,as,_,rfl,an,rfl,SqL.of Q,am,_,rfl,?_⟩;have R:=m.trans al;have ap:=(y.tree.wf.chain ac).1.nodup;by_cases J:o∈Vbbhal.pathOf v a.code
  ·rw[LF (vH.mpr J),Mj rfl];obtain⟨l,n⟩:=JX.mp J;refine⟨tyL Q,ah,r,ci o,as,_,l,rfl,rfl,an,SqL.of Q,am,F6.mpr n,λbn bv j=>?_,_,rfl,?_⟩;·have:=Tr.jv ap n (F6.mp j);lia
   ·rw[s];have ar:∀k,(Vbbhal.pathOf v a.code)[k]?=some o→k=l:=λk d=>Tr.jv ap d n;by_cases av:((l:Nat):Int)+1>(i:Int)
    ·rw[Mj av];refine⟨l+1,_,_,rfl,R,by lia,λe c k d=>?_,.inr ⟨a,by rw[take_snoc h];simp,l,n,rfl⟩⟩;rw[take_snoc h]at c;rcases Lq.mp c with b|b;·have:=R2 e b k d;lia
     ·simp only[List.mem_singleton]at b;subst b;rw[ar k d];exact L6 _
    ·rw[Mi av];refine⟨i,_,_,rfl,R,I,λe c k d=>?_,?_⟩
     ·rw[take_snoc h]at c;rcases Lq.mp c with b|b;·exact R2 e b k d
      ·simp only[List.mem_singleton]at b;subst b;rw[ar k d];lia
     ·rcases C with b|⟨e,c,k,d,j⟩;·exact .inl b
      ·exact .inr ⟨e,by rw[take_snoc h];simp[c],k,d,j⟩
  ·rw[Lx (λb=>J (vH.mp b)),Mi (by simp)];rw[s];refine⟨i,_,_,rfl,R,I,λe c k d=>?_,?_⟩
   ·rw[take_snoc h]at c;rcases Lq.mp c with b|b;·exact R2 e b k d
    ·simp only[List.mem_singleton]at b;subst b;exact absurd (J_ d) J
   ·rcases C with b|⟨e,c,k,d,j⟩;·exact .inl b
    ·exact .inr ⟨e,by rw[take_snoc h];simp[c],k,d,j⟩
 · rintro F G g;rw[s]at g;obtain⟨i,aR,aT,rfl,m,I,R2,C⟩:=g;rw[X,Ln,Lb]at R2 C;refine⟨m _ _ aj,_,rfl,?_⟩;have:=k _ (oV p.ac m);have a2:Vbbhal.height v Vbbhal.DEEP o=i:=by
     refine Tr.WF.B0 y.tree.wf ax I (λx e l c n=>?_) ?_;·obtain⟨a3,a4⟩:=Tr.bb c;exact R2 e (N.mem_iff.mpr a4) l (by rw[a3];exact n)
     ·rcases C with b|⟨e,c,l,n,j⟩;·exact .inl b
      ·exact .inr ⟨e.code,e,l,y.tree.wf.at_ (N.mem_iff.mp c),n,j⟩
   rw[a2]at this;exact this)
theorem uI{x:Account}:∀{b:List Account},Sm.Srt b→(∃a∈b,a.code=x.code)→(Vbbhal.putAccount x b).map (·.code)=b.map (·.code)|[],_,c=>by obtain⟨a,c,_⟩:=c;simp at c|y::b,g,c=>by f_assign(
 obtain⟨h,i⟩:=Ku.mp g;unfold Vbbhal.putAccount;by_cases d:y.code=x.code;·rw[Mj d,LM,LM,d]
 ·obtain⟨a,j,e⟩:=c;have f:a∈b:=(LN.mp j).resolve_left λl=>d (by rw[←l];exact e);have:¬Vbbhal.before x.code y.code=true:=λm=>by have:=Sm.jJ (h a f) (by rw[e];exact m);rw[Sm.gJ]at this;cases this
  rw[Mi d,Mi this,LM,uI i ⟨a,f,e⟩,LM])
theorem aH.acc{n:Addr}{d:State}{c:HA}(b:aH H n d c)(o:Good d){a':Account}{fs:List (Str×V)}(B:Vbbhal.accountAt d a'.code=some a)(C:H (c.ad a'.code)=some (.ins CA h fs))(D:H q=some (.tup (cv (a'.parent.getD [])))):aH (upd H (c.ad a'.code) (.ins CA h (bc (.ref q) (.bl a'.shut) (bV a'.budget)))) n (Vbbhal.setAccount d a') c:=by f_assign(
 obtain⟨i,j⟩:=Tr.bb B;have E:c.ad a'.code≠n:=by rw[←i];exact DH (s':=d) (h':=c) b.tre.ob (b.tre.acA a j)
 have ne:∀f l,H f=some l→(∀F h fs,l≠.ins F h fs)→upd H (c.ad a'.code) (.ins CA h (bc (.ref q) (.bl a'.shut) (bV a'.budget))) f=some l:=λf l q e=>by rw[ak (λw=>by rw[w,C]at q;exact e _ _ _ (Lv q).symm)];exact q
 have G:(Vbbhal.putAccount a' d.accounts).map (λx=>(ck x.code,V.ref (c.ad x.code)))=d.accounts.map λx=>(ck x.code,V.ref (c.ad x.code)):=by have:=Me (List.map λm=>(ck m,V.ref (c.ad m))) (uI (x:=a') o.tree.srt ⟨a,j,i⟩);rw[LV,LV]at this;exact this
 refine⟨⟨(ak E.symm).trans b.tre.ob,.inl (ne _ _ b.ac nofun),by show c.kA.Perm ((Vbbhal.putAccount a' d.accounts).map _);rw[G];exact b.tre.acR,λf p=>?_⟩,ne _ _ b.ac nofun,λf p m I s=>?_,ne _ _ b.pr nofun,b.prR,λx r=>ne _ _ (b.prA x r) nofun,ne _ _ b.ra nofun,b.raR,ne _ _ b.ti nofun,b.tiR,b.nPT,b.nRA,?_⟩
 ·rcases(Sm.dc o.tree.srt).mp p with e|⟨e,J⟩;·subst e;exact⟨h,q,aj,ne _ _ D nofun⟩
  ·obtain⟨u,v,g,z⟩:=b.tre.acA f e;refine⟨u,v,?_,ne _ _ z nofun⟩;rw[ak (λw=>J ?_)];·exact g
   ·rw[←i]at w⊢;exact b.acI f e a j w
 · have A:∀x∈Vbbhal.putAccount a' d.accounts,∃y∈d.accounts,y.code=x.code:=λx r=>by
     rcases(Sm.dc o.tree.srt).mp r with e|⟨e,_⟩;·exact⟨a,j,by rw[e];exact i⟩
     ·exact⟨x,e,rfl⟩
   obtain⟨L,M,eb⟩:=A f p;obtain⟨N,O,Q⟩:=A m I;rw[←eb,←Q]at s⊢;exact b.acI L M N O s
 ·obtain⟨u,v,g,z⟩:=b.tre.acA a j;rw[i]at g;exact b.re.upd g rfl (λ_ _ _ _ _ _=>y_) (fJ g b.re.iv nofun) (λR S=>fJ g (b.re.ivD R S).1 nofun) rfl rfl (L6 _) ⟨rfl,rfl,rfl,rfl,rfl,rfl,rfl,rfl,rfl⟩ rfl rfl rfl rfl)
theorem sx{c:Addr}{b:State}(e:Good b){a':Account}(f:Vbbhal.accountAt b a'.code=some a)(d:Addr)(g:fI c (Vbbhal.setAccount b a') h d):fI c b h d:=by f_assign(
 obtain⟨i,j⟩:=Tr.bb f;rcases g with z|z|z|z|z|z|z|z|⟨x,hx,z⟩;·exact .inl z
 ·exact .inr (.inl z)
 ·exact .inr (.inr (.inl z))
 ·exact .inr (.inr (.inr (.inl z)))
 ·exact .inr (.inr (.inr (.inr (.inl z))))
 ·exact .inr (.inr (.inr (.inr (.inr (.inl z)))))
 ·exact .inr (.inr (.inr (.inr (.inr (.inr (.inl z))))))
 ·exact .inr (.inr (.inr (.inr (.inr (.inr (.inr (.inl z)))))))
 ·refine .inr (.inr (.inr (.inr (.inr (.inr (.inr (.inr ?_)))))));rcases(Sm.dc e.tree.srt).mp hx with w|⟨w,_⟩;·exact⟨a,j,by rw[z,w,i]⟩
  ·exact⟨x,w,z⟩)
inductive DK(vs:List V)(H:Hp)(Q:VK)(E:XK):Prop|mk(p:Addr)(s:State)(h:HA)(q:Addr)(c:Bytes):vs=[.ref p,.ref q]→aH H p s h→Good s→H q=some (.tup (cv c))→(∀H',au H H'→Q (.int (if Vbbhal.isCode c=false then-2 else if(Vbbhal.accountAt s c).isNone=true then-4 else 0)) H')→DK vs H Q E
theorem bo(c:Tx):Oz "refusal_of_code" 4 ["house","code"] (DK):=by f_assign(
 have l:=c.dg.fs ["house","code"];refine c.dg.ok l (by walk_at"l") (λs u v x y A B C D e m=>?_);obtain⟨E,n,F,G,f,rfl,o,p,g,k⟩:=m;have q:=bN e;refine⟨_,(ae (aG (ba (pt_val (ag (gR c) e (aa (pv 1) af)))) (ai (aq (aJ c.cT))) aw) (ae (aG (rg (oE q (pv 1) (pe_fld (pv 0) rfl))) (ai (aq (aJ c.dA))) aw) (ai (aq ao)))),?_⟩;walk_at"go";walk_at"a";refine⟨_,g,λr d=>?_⟩;walk_at"go";have b:=k r d;by_cases h:Vbbhal.isCode f=false;·rw[Mj h]at b⊢;exact b
 ·rw[Mi h]at b⊢;have i:=o.same d;have j:=i.tre.ob;unfold hf at j;simp_all_arith[j,c.az];refine⟨_,eK i.tre p (d _ _ g),?_⟩;cases z:Vbbhal.accountAt n f with|none=>rw[z]at b;exact b|some a=>rw[z]at b;exact b)
theorem kq(b:Tx):Oz "is_place" 1 ["house","parent"] (λg c h _=>∃(e:Addr)(d:State)(i:HA)(f:Addr)(a:Bytes),g=[.ref e,.ref f]∧aH c e d i∧Good d∧c f=some (.tup (cv a))∧h (.bl (decide (a=[])||(Vbbhal.accountAt d a).isSome)) c):=by f_assign(have n:=b.jg.fs ["house","parent"];refine b.jg.ok n (by rintro _ _ _ _⟨_,_,_,_,_,o,_⟩;rw[o];rfl) (λu v x y z c g h A p q=>?_);obtain⟨e,d,i,f,a,rfl,j,r,l,k⟩:=q;have s:=bN p;have m:=j.tre.ob;unfold hf at m;refine⟨_,(ai (aq (zJ (dD bg (aF fR (by rfl) b.bT bh (aa (pv 1) af)) ao (aD _)) (jO (Cq (vc s (pv 1) (pe_fld (pv 0) rfl))))))),?_⟩;simp_all_arith[m,l,b.az];rw[iQ];cases a with|nil=>exact k|cons B a=>rw[Mi (by simp;lia)];refine⟨_,eK j.tre r l,?_⟩;simpa using k)
def xx(b:State)(d:Bytes)(c:Bool):State×Ans:=Vbbhal.onAccount b d λa=>if a.shut=c then Vbbhal.no b 5 else Vbbhal.yes (Vbbhal.setAccount b {a with shut:=c}) 0
theorem lC{a:State}{b:Bytes}{c:Account→State×Ans}(d:Vbbhal.isCode b=false):Vbbhal.onAccount a b c=Vbbhal.no a 2:=by unfold Vbbhal.onAccount;rw[Mj d]
theorem jm{a:State}{b:Bytes}{c:Account→State×Ans}(d:¬Vbbhal.isCode b=false)(e:Vbbhal.accountAt a b=none):Vbbhal.onAccount a b c=Vbbhal.no a 4:=by unfold Vbbhal.onAccount;rw[Mi d,e]
theorem jn{c:State}{b:Bytes}{d:Account→State×Ans}(e:¬Vbbhal.isCode b=false)(f:Vbbhal.accountAt c b=some a):Vbbhal.onAccount c b d=d a:=by unfold Vbbhal.onAccount;rw[Mi e,f]
inductive DL(vs:List V)(H:Hp)(Q:VK)(E:XK):Prop|mk(p:Addr)(s:State)(h:HA)(q:Addr)(c:Bytes)(b:Bool):vs=[.ref p,.ref q,.bl b]→aH H p s h→Good s→H q=some (.tup (cv c))→(aB H p s h (xx s c b) Q)→DL vs H Q E
theorem pP(c:Tx):Oz "set_shut" 5 ["house","code","is_shut"] (DL):=by f_assign(
 have i:=c.jh.fs ["house","code","is_shut","refusal","account"];refine c.jh.ok i (by walk_at"l") (λp L M N O Q R S T q C=>?_);obtain⟨D,r,E,F,j,m,rfl,e,g,s,b⟩:=C;have G:=bN q;refine⟨_,(ae (sT 3 i.nd (ag (bo c) q (aa (pv 0) (aa (pv 1) af)))) (ae (aG (pt_cmpR op_lt (pv 3) ao (aD _)) (ai (aq (aC (aa (pv 3) af)))) aw) (ae (sT 4 i.nd (d6 G (pe_fld (pv 0) rfl) (pv 1) (λ_ _=>rfl))) (ae (aG (pt_cmpR G9 (pe_fld (pv 4) rfl) (pv 2) (aD _)) (ai (aq (aC (aa (aJ c.nZ) af)))) aw) (ae (bf (pv 4) (pv 2) rfl) (ai (aq (aC (aa ao af))))))))),?_⟩;walk_at"go";walk_at"a";refine⟨D,r,E,F,j,rfl,e,g,s,λU d=>?_⟩;walk_at"go";unfold xx at b;by_cases f:Vbbhal.isCode j=false;·rw[lC f]at b;rw[Mj f];walk_at"go";exact⟨by decide,b.one e rfl d⟩
 ·rw[Mi f];cases z:Vbbhal.accountAt r j with|none=>rw[jm f z]at b;walk_at"go";exact⟨by decide,b.one e rfl d⟩|some a=>
  rw[jn f z]at b;have h:=e.same d;have u:=h.tre.ob;unfold hf at u;obtain⟨v,y⟩:=Tr.bb z;obtain⟨X,Y,n,H⟩:=h.tre.acA a y;have A:=eK h.tre g (d _ _ s);rw[z]at A;rw[v]at n;simp_all_arith[u,c.az,c.bG,Option.isNone_some];refine⟨_,A,?_⟩;simp_all_arith[n,c.bG];by_cases B:a.shut=m;·rw[Mj B]at b⊢;exact⟨by decide,b.one e rfl d⟩
  ·rw[Mi B]at b⊢;refine⟨by decide,?_⟩;subst v;have I:=h.acc (a':={a with shut:=m}) g z n H;refine b.wrote (l:=[0]) rfl I (λx Z J p=>?_) (λx o=>.inl (sx (a':={a with shut:=m}) g z x o)) (λx o=>d.free (aW o).1);rw[ak (λw=>p (.inr (.inr (.inr (.inr (.inr (.inr (.inr (.inr ⟨a,y,w⟩)))))))))];exact d _ _ J)
inductive xy(F:State→Bytes→State×Ans)(vs:List V)(H:Hp)(Q:VK)(E:XK):Prop|mk(p:Addr)(s:State)(h:HA)(q:Addr)(c:Bytes):vs=[.ref p,.ref q]→aH H p s h→Good s→H q=some (.tup (cv c))→(aB H p s h (F s c) Q)→xy F vs H Q E
theorem sy(a:Tx):Oz "answer_shut" 6 ["house","code"] (xy λb c=>Vbbhal.step b (.shut c)):=by have d:=a.fZ.fs ["house","code"];refine a.fZ.ok d (by walk_at"l") (λo p q r s u v x y e f=>?_);obtain⟨g,b,h,i,c,rfl,j,l,m,n⟩:=f;refine⟨_,(ai (aq (ag (pP a) e (aa (pv 0) (aa (pv 1) (aa rf af)))))),?_⟩;walk_at"rd";exact⟨g,b,h,i,c,true,rfl,j,l,m,n⟩
theorem oZ(a:Tx):Oz "answer_reopen" 6 ["house","code"] (xy λb c=>Vbbhal.step b (.reopen c)):=by have d:=a.d_.fs ["house","code"];refine a.d_.ok d (by walk_at"l") (λo p q r s u v x y e f=>?_);obtain⟨g,b,h,i,c,rfl,j,l,m,n⟩:=f;refine⟨_,(ai (aq (ag (pP a) e (aa (pv 0) (aa (pv 1) (aa rf af)))))),?_⟩;walk_at"rd";exact⟨g,b,h,i,c,false,rfl,j,l,m,n⟩
inductive Aq(F:State→Int→Bytes→State×Ans)(vs:List V)(H:Hp)(Q:VK)(E:XK):Prop|mk(p:Addr)(s:State)(h:HA)(n:Int)(q:Addr)(c:Bytes):vs=[.ref p,.int n,.ref q]→aH H p s h→Good s→H q=some (.tup (cv c))→(aB H p s h (F s n c) Q)→Aq F vs H Q E
theorem o4(e:Tx):Oz "answer_budget" 5 ["house","amount","code"] (Aq λd b f=>Vbbhal.step d (.budget b f)):=by f_assign(
 have p:=e.eg.fs ["house","amount","code","refusal","account"];refine e.eg.ok p (by walk_at"l") (λu R S T U v X G Y q H=>?_);obtain⟨y,d,A,b,I,f,rfl,h,m,B,c⟩:=H;have J:=bN q;refine⟨_,(ae (aG (ba (pt_val (ag (dQ e) q (aa (pv 1) (aa (zK un_neg ao) af))))) (ai (aq (aC (aa (aJ e.aN) af)))) aw) (ae (sT 3 p.nd (ag (bo e) q (aa (pv 0) (aa (pv 2) af)))) (ae (aG (pt_cmpR op_lt (pv 3) ao (aD _)) (ai (aq (aC (aa (pv 3) af)))) aw) (ae (sT 4 p.nd (d6 J (pe_fld (pv 0) rfl) (pv 2) (λ_ _=>rfl))) (ae (bf (pv 4) (Cs (pt_cmpR bg (pv 1) (zK un_neg ao) (aD _)) uW (pv 1)) rfl) (ai (aq (aC (aa ao af))))))))),?_⟩;walk_at"go";have L:Vbbhal.step d (.budget b f)=if Vbbhal.isAmount b (-1)=false then Vbbhal.no d 1 else Vbbhal.onAccount d f λa=>Vbbhal.yes (Vbbhal.setAccount d {a with budget:=if b<0 then none else some b.toNat}) 0:=rfl;replace c:aB v y d A (Vbbhal.step d (.budget b f)) G:=c;rw[L]at c;by_cases r:Vbbhal.isAmount b (-1)=false;·rw[Mj r]at c⊢;exact⟨by decide,c.one h rfl (au.refl v)⟩
 rw[Mi r]at c⊢;have Z:=Gm.aX.mp (Gm.tof r);walk_at"a";refine⟨y,d,A,I,f,rfl,h,m,B,λac g=>?_⟩;walk_at"go";by_cases i:Vbbhal.isCode f=false;·rw[lC i]at c;rw[Mj i];walk_at"go";exact⟨by decide,c.one h rfl g⟩
 ·rw[Mi i];cases z:Vbbhal.accountAt d f with|none=>rw[jm i z]at c;walk_at"go";exact⟨by decide,c.one h rfl g⟩|some a=>
  rw[jn i z]at c;have n:=h.same g;have C:=n.tre.ob;unfold hf at C;obtain⟨D,E⟩:=Tr.bb z;obtain⟨ah,al,o,M⟩:=n.tre.acA a E;have F:=eK n.tre m (g _ _ B);rw[z]at F;rw[D]at o;simp_all_arith[C,e.az,e.bG,Option.isNone_some];refine⟨_,F,?_⟩;subst D;have N:(bV (if b<0 then none else some b.toNat))=if b=-1 then V.non else V.int b:=by
   by_cases w:b=-1;·rw[Mj w,Mj (by lia)];rfl
   ·rw[Mi w,Mi (by lia)];show V.int _=V.int b;rw[show((b.toNat:Nat):Int)=b by lia]
  have O:=n.acc (a':={a with budget:=if b<0 then none else some b.toNat}) m z o M;have j:=c.wrote (l:=[0]) rfl O (λx am Q u=>by rw[ak (λw=>u (.inr (.inr (.inr (.inr (.inr (.inr (.inr (.inr ⟨a,E,w⟩)))))))))];exact g _ _ Q) (λx s=>.inl (sx (a':={a with budget:=if b<0 then none else some b.toNat}) m z x s)) (λx s=>g.free (aW s).1);rw[show bV ({a with budget:=if b<0 then none else some b.toNat}:Account).budget=if b=-1 then V.non else V.int b from N]at j;by_cases w:b=-1;·rw[Mj w]at j⊢;simp_all_arith[o,e.bG];exact⟨by decide,j⟩
  ·rw[Mi w]at j⊢;simp_all_arith[o,e.bG];exact⟨by decide,j⟩)
inductive DM(vs:List V)(H:Hp)(Q:VK)(E:XK):Prop|mk(x dx q:Addr):vs=[.ref x,.ref q]→H x=some (.ins CA dx [])→(∀H',H' x=some (.ins CA dx (bc (.ref q) (.bl false) .non))→(∀b o,H b=some o→b≠x→H' b=some o)→(∀b,H' b=none→H b=none)→Q .non H')→DM vs H Q E
theorem zb(b:Tx):OzI "Account" CA 1 ["self","parent"] (DM):=by f_assign(
 have c:=b.uP.fs ["self","parent"];refine b.uP.ok c (by walk_at"l") (λh i j l m n o p q r d=>?_);obtain⟨x,s,u,rfl,e,k⟩:=d;refine⟨_,(ae (bf (pv 0) (pv 1) rfl) (ae (bf (pv 0) rf rfl) (ai (bf (pv 0) uW rfl)))),?_⟩;simp_all_arith[e,b.bG];refine⟨by rw[vj];show 1<1000;decide,?_,?_⟩;·rw[vj,Ie (by decide+kernel),vj];show 2<1000;decide
 ·refine k _ ?_ (λf v g a=>?_) (λf a=>?_);·rw[aj,tI]
  ·rw[ak a,ak a,ak a];exact g
  ·exact(aW (aW (aW a).1).1).1)
theorem nI{x:Account}:∀{b:List Account},(∀a∈b,a.code≠x.code)→(Vbbhal.putAccount x b).Perm (b++[x])
 |[],_=>.refl _|y::b,c=>by
  unfold Vbbhal.putAccount;rw[Mi (c y (by simp))];by_cases d:Vbbhal.before x.code y.code=true;·rw[Mj d];exact(Ju _ _).symm
  ·rw[Mi d];exact(nI λa e=>c a (by simp[e])).cons _
theorem aH.add{m:Addr}{h:State}{d:HA}(c:aH H m h d)(n:Good h){a:Account}(r:Vbbhal.accountAt h a.code=none)(s:H x=some (.ins CA dx (bc (.ref q) (.bl a.shut) (bV a.budget))))(u:H q=some (.tup (cv (a.parent.getD []))))(o:∀b∈h.accounts,d.ad b.code≠x):aH (upd H d.aA (.dT (putK d.kA (ck a.code) (.ref x)))) m (Vbbhal.setAccount h a) {d with kA:=putK d.kA (ck a.code) (.ref x),ad:=λf=>if f=a.code then x else d.ad f}:=by f_assign(
 have ne:∀b j,H b=some j→(∀v,j≠.dT v)→upd H d.aA (.dT (putK d.kA (ck a.code) (.ref x))) b=some j:=λb j q e=>by rw[ak (λw=>by rw[w,c.ac]at q;exact e _ (Lv q).symm)];exact q
 have l:=Sm.uR r;have z:bt d.kA (ck a.code)=none:=by
  rw[Km.oU c.tre.acR (F5 n)];rw[Kq.mpr];·rfl
  ·intro b g;have:¬ck b.code=ck a.code:=λw=>l b g (fS w);simp[this]
 have mem:∀b,b∈Vbbhal.putAccount a h.accounts→b=a∨(b∈h.accounts∧b.code≠a.code):=λb g=>(Sm.dc n.tree.srt).mp g;refine⟨⟨ne _ _ c.tre.ob nofun,.inl aj,?_,λb g=>?_⟩,aj,λb g f p i=>?_,ne _ _ c.pr nofun,c.prR,λy A=>ne _ _ (c.prA y A) nofun,by rw[ak c.nRA];exact c.ra,c.raR,ne _ _ c.ti nofun,c.tiR,c.nPT,c.nRA,c.re.upd c.ac rfl (by intros;intro e;cases e) (fJ c.ac c.re.iv nofun) (λB C=>(c.re.nMR B C).2.symm) rfl rfl (L6 _) ⟨rfl,rfl,rfl,rfl,rfl,rfl,rfl,rfl,rfl⟩ rfl rfl rfl rfl⟩
 ·show(putK d.kA (ck a.code) (.ref x)).Perm ((Vbbhal.putAccount a h.accounts).map λb=>(ck b.code,V.ref (if b.code=a.code then x else d.ad b.code)));rw[putK_new _ z];refine List.Perm.trans ?_ ((nI l).map _).symm;rw[Lp];refine List.Perm.append (c.tre.acR.trans (Li ?_)) (Li ?_);·apply Kh;intro b g;rw[Mi (l b g)]
  ·simp
 ·show AccAt _ (if b.code=a.code then x else d.ad b.code) b;rcases mem b g with e|⟨e,zn⟩;·subst e;rw[Mj rfl];exact⟨dx,q,ne _ _ s nofun,ne _ _ u nofun⟩
  ·rw[Mi zn];obtain⟨D,E,F,G⟩:=c.tre.acA b e;exact⟨D,E,ne _ _ F nofun,ne _ _ G nofun⟩
 ·have i:(if b.code=a.code then x else d.ad b.code)=if f.code=a.code then x else d.ad f.code:=i;rcases mem b g with e|⟨e,zn⟩
  ·rcases mem f p with w|⟨w,wn⟩;·rw[e,w]
   ·rw[Mj (by rw[e]),Mi wn]at i;exact absurd i.symm (o f w)
  ·rcases mem f p with w|⟨w,wn⟩;·rw[Mi zn,Mj (by rw[w])]at i;exact absurd i (o b e)
   ·rw[Mi zn,Mi wn]at i;exact c.acI b e f w i)
inductive DN(F:State→Bytes→Bytes→State×Ans)(vs:List V)(H:Hp)(Q:VK)(E:XK):Prop|mk(p:Addr)(s:State)(h:HA)(q:Addr)(c:Bytes)(q2:Addr)(c2:Bytes):vs=[.ref p,.ref q,.ref q2]→aH H p s h→Good s→H q=some (.tup (cv c))→H q2=some (.tup (cv c2))→(aB H p s h (F s c c2) Q)→DN F vs H Q E
def xA:Sp:=λe a f _=>∃b c,e=[.ref b]∧a b=some (.tup (cv c))∧∀d,au a d→f (.bl (Vbbhal.isCode c)) d
def uJ:Sp:=λe b f _=>∃c a,e=[.ref c]∧b c=some (.tup (cv a))∧∀d,au b d→f (.bl (decide (a=[])||Vbbhal.isCode a)) d
def uK:Sp:=λf a g _=>∃(d:Addr)(b:State)(h:HA)(e:Addr)(c:Bytes),f=[.ref d,.ref e]∧aH a d b h∧Good b∧a e=some (.tup (cv c))∧g (.bl (decide (c=[])||(Vbbhal.accountAt b c).isSome)) a
theorem nJ(c:Tx):Oz "answer_account" 6 ["house","code","parent"] (DN λe i s=>Vbbhal.step e (.account i s)):=by f_assign(
 have ap:Oz "is_code" 3 ["text"] xA:=gR c;have ar:Oz "is_code_or_empty" 4 ["text"] uJ:=dU c;have av:Oz "is_place" 1 ["house","parent"] (uK):=kq c;have ax:=c.dG.fs ["house","code","parent"];refine c.dG.ok ax (by walk_at"l") (λa5 a6 a7 a8 a9 T bd aA bi p aE=>?_);obtain⟨s,e,u,q,i,z,d,rfl,g,j,I,B,b⟩:=aE;have U:=bN p;refine⟨_,(ae (aG (ba (PW.pt (cq (pt_val (ag ap p (aa (pv 1) af))) (bZ (pt_val (ag ar p (aa (pv 2) af))))))) (ai (aq (aC (aa (aJ c.cT) af)))) aw) (ae (aG (rg (vc U (pv 1) (pe_fld (pv 0) rfl))) (ai (aq (aC (aa (aJ c.nZ) af)))) aw) (ae (aG (ba (pt_val (ag av p (aa (pv 0) (aa (pv 2) af))))) (ai (aq (aC (aa (aJ c.dA) af)))) aw) (ae (aG (pt_cmpR op_ge (ag (kn c) p (aa (pv 0) (aa (pv 2) af))) (aJ c.uQ) (aD _)) (ai (aq (aC (aa (aJ c.tq) af)))) aw) (ae (aG (pt_cmpR op_ge (aF gQ (by rfl) c.bT bh (aa (pe_fld (pv 0) rfl) af)) (pe_fld (pv 0) rfl) (aD _)) (ai (aq (aC (aa (aJ c.fV) af)))) aw) (ae (df U (pe_fld (pv 0) rfl) (pv 1) (gP (zb c) p (aa (pv 2) af)) rfl) (ai (aq (aC (aa (aF gQ (by rfl) c.bT bh (aa (pe_fld (pv 0) rfl) af)) af)))))))))),?_⟩;walk_at"go";replace b:aB T s e u (Vbbhal.doAccount e i d) aA:=b;unfold Vbbhal.doAccount at b;walk_at"a";refine⟨q,i,rfl,I,λbj J=>?_⟩;walk_at"go";by_cases C:Vbbhal.isCode i=true;case neg=>rw[Mi C];rw[Mj (.inl (by simpa using C))]at b;exact⟨by decide,b.one g rfl J⟩
 rw[Mj C];walk_at"a";refine⟨z,d,rfl,J _ _ B,λbl aI=>?_⟩;walk_at"go";have m:=J.trans aI;by_cases A:(decide (d=[])||Vbbhal.isCode d)=false;·rw[Mj A];rw[Mj (.inr (by simp at A;exact A))]at b;exact⟨by decide,b.one g rfl m⟩
 rw[Mi A];rw[Mi (λf=>f.elim (nf C) λf=>A (by rw[f.2,Lx f.1];rfl))]at b;have D:=g.same m;have E:=D.tre.ob;unfold hf at E;have aK:=eK D.tre j (m _ _ I);simp_all_arith[E,c.az];refine⟨_,aK,?_⟩;cases f:Vbbhal.accountAt e i with|some a=>rw[f]at b;rw[Mj (show(some a).isSome=true from rfl)]at b;exact⟨by decide,b.one g rfl m⟩|none=>
  rw[f]at b;rw[Mi (by simp)]at b;rw[Mi (by simp)];walk_at"a";refine⟨s,e,u,z,d,rfl,D,j,m _ _ B,?_⟩;simp_all_arith[E,c.az];by_cases n:(decide (d=[])||(Vbbhal.accountAt e d).isSome)=false;·rw[Mj n];rw[Mj (by simp at n;exact⟨n.1,by rw[n.2];rfl⟩)]at b;exact⟨by decide,b.one g rfl m⟩
  rw[Mi n];rw[Mi (λf=>n (by rw[Lx f.1,Option.isNone_iff_eq_none.mp f.2];rfl))]at b;have aM:d=[]∨∃a,Vbbhal.accountAt e d=some a:=by
   by_cases w:d=[];·exact .inl w
   ·right;cases w2:Vbbhal.accountAt e d with|none=>simp[w,w2]at n|some a=>exact⟨a,rfl⟩
  walk_at"a";refine⟨s,e,u,z,d,rfl,D.tre,j,m _ _ B,aM,λbm aN=>?_⟩;simp_all_arith[E,c.az];have r:=m.trans aN;have L:=g.same r;have M:=L.tre.ob;unfold hf at M;by_cases F:(8:Int)≤((Vbbhal.pathOf e d).length:Int)
  ·rw[Mj F];have X:d≠[]:=λw=>by rw[w,Tr.gI (vJ j)]at F;simp at F
   rw[Mj ⟨X,by show 8≤_;lia⟩]at b;exact⟨by decide,b.one g rfl r⟩
  rw[Mi F];rw[Mi (by rintro⟨_,w⟩;have w:8≤(Vbbhal.pathOf e d).length:=w;lia)]at b;simp_all_arith[M,c.az];have aP:=gp g.tre.acR;refine⟨_,.inl L.ac,?_⟩;rw[aP];by_cases Y:(e.capA:Int)≤(e.accounts.length:Int);·rw[Mj Y];rw[Mj (by lia)]at b;exact⟨by decide,b.one g rfl r⟩
  rw[Mi Y];rw[Mi (by lia)]at b;intro x dx hx hdx X;walk_at"a";refine⟨x,dx,z,rfl,aj,λaR aT aU a0=>?_⟩;simp_all_arith[M,c.az];have G:au T aR:=λh N O=>by have Q:=r h N O;have Z:=ay Q hx;have a1:=ay Q hdx;exact aU h N (by rw[ak Z,ak a1];exact Q) Z
  have R:=g.same G;have ac:=R.tre.ob;unfold hf at ac;obtain⟨a,H⟩:∃a:Account,a={code:=i,parent:=if d=[]then none else some d}:=⟨_,rfl⟩;have ah:a.code=i:=by rw[H]
  have a2:a.parent.getD []=d:=by
   rw[H];show(if d=[]then none else some d:Option Bytes).getD []=d;by_cases w:d=[];·rw[Mj w,w];rfl
   ·rw[Mi w];rfl
  have al:Vbbhal.accountAt e a.code=none:=by rw[ah];exact f
  have a3:∀h∈e.accounts,u.ad h.code≠x:=λh o w=>by obtain⟨bn,bv,am,_⟩:=L.tre.acA h o;rw[w,hx]at am;cases am
  have S:=R.add (x:=x) (dx:=dx) (q:=z) j al (by rw[H];exact aT) (by rw[a2];exact G _ _ B) a3;have an:=S.tre.ob;unfold hf at an;simp_all_arith[ac,c.az];refine⟨_,iA.t (k:=ck i) R.ac (by rw[cK];exact G _ _ I) (bq (by have:=j.alen;have:=j.capA;lia)),?_⟩;rw[←ah];simp_all_arith[an,c.az];refine⟨_,.inl aj,by decide,?_⟩;rw[gp S.tre.acR];rw[show(Vbbhal.setAccount e a).accounts.length=e.accounts.length+1 from Sm.jK (Sm.uR al)];rw[←H]at b;refine b.wrote (l:=[((e.accounts.length+1:Nat):Int)]) rfl S (λy N O a4=>?_) (λy o=>?_) (λy o=>r.free ((aW (aW (a0 y (aW o).1)).1).1));·rw[ak (λw=>a4 (.inr (.inr (.inr (.inr (.inl w))))))];exact G _ _ O
  ·rcases o with w|w|w|w|w|w|w|w|⟨h,o,w⟩;·exact .inl (.inl w)
   ·exact .inl (.inr (.inl w))
   ·exact .inl (.inr (.inr (.inl w)))
   ·exact .inl (.inr (.inr (.inr (.inl w))))
   ·exact .inl (.inr (.inr (.inr (.inr (.inl w)))))
   ·exact .inl (.inr (.inr (.inr (.inr (.inr (.inl w))))))
   ·exact .inl (.inr (.inr (.inr (.inr (.inr (.inr (.inl w)))))))
   ·exact .inl (.inr (.inr (.inr (.inr (.inr (.inr (.inr (.inl w))))))))
   ·have w:y=if h.code=a.code then x else u.ad h.code:=w;rcases(Sm.dc j.tree.srt).mp o with v|⟨v,vn⟩;·rw[v,Mj rfl]at w;right;rw[w];exact r.free hx
    ·rw[Mi vn]at w;exact .inl (.inr (.inr (.inr (.inr (.inr (.inr (.inr (.inr ⟨h,v,w⟩)))))))))
theorem sA(d:Tx):Oz "answer_move" 6 ["house","code","parent"] (DN λe g n=>Vbbhal.step e (.move g n)):=by f_assign(
 have Z:Oz "is_code" 3 ["text"] xA:=gR d;have ac:Oz "is_code_or_empty" 4 ["text"] uJ:=dU d;have ah:Oz "is_place" 1 ["house","parent"] (uK):=kq d;have M:=d.fY.fs ["house","code","parent","account"];refine d.fY.ok M (by walk_at"l") (λa2 a3 a4 a5 a6 al a7 am a8 i an=>?_);obtain⟨n,e,p,q,g,u,b,rfl,h,j,v,x,c⟩:=an;have N:=bN i;have ap:=Ao i;refine⟨_,(ae (aG (ba (PW.pt (cq (pt_val (ag Z i (aa (pv 1) af))) (bZ (pt_val (ag ac i (aa (pv 2) af))))))) (ai (aq (aC (aa (aJ d.cT) af)))) aw) (ae (aG (ba (PW.pt (cq (rg (vc N (pv 1) (pe_fld (pv 0) rfl))) (bZ (pt_val (ag ah i (aa (pv 0) (aa (pv 2) af)))))))) (ai (aq (aC (aa (aJ d.dA) af)))) aw) (ae (aG (pt_cmpR (C9 ap) (pv 1) (ag (fT d) i (aa (pv 0) (aa (pv 2) af))) (by with_unfolding_all rfl)) (ai (aq (aC (aa (aJ d.tm) af)))) aw) (ae (aG (pt_cmpR op_gt (aS op_add (ag (kn d) i (aa (pv 0) (aa (pv 2) af))) (ag (vK d) i (aa (pv 0) (aa (pv 1) af)))) (aJ d.uQ) (aD _)) (ai (aq (aC (aa (aJ d.tq) af)))) aw) (ae (sT 3 M.nd (d6 N (pe_fld (pv 0) rfl) (pv 1) (λ_ _=>rfl))) (ae (bf (pv 3) (pv 2) rfl) (ai (aq (aC (aa ao af)))))))))),?_⟩;walk_at"go";replace c:aB al n e p (Vbbhal.doMove e g b) am:=c;unfold Vbbhal.doMove at c;walk_at"a";refine⟨q,g,rfl,v,λa9 G=>?_⟩;walk_at"go";by_cases C:Vbbhal.isCode g=true;case neg=>rw[Mi C];rw[Mj (.inl (by simpa using C))]at c;exact⟨by decide,c.one h rfl G⟩
 rw[Mj C];walk_at"a";refine⟨u,b,rfl,G _ _ x,λbd ar=>?_⟩;walk_at"go";have m:=G.trans ar;by_cases z:(decide (b=[])||Vbbhal.isCode b)=false;·rw[Mj z];rw[Mj (.inr (by simp at z;exact z))]at c;exact⟨by decide,c.one h rfl m⟩
 rw[Mi z];rw[Mi (λf=>f.elim (nf C) λf=>z (by rw[f.2,Lx f.1];rfl))]at c;have D:=h.same m;have r:=D.tre.ob;unfold hf at r;have av:=eK D.tre j (m _ _ v);simp_all_arith[r,d.az];refine⟨_,av,?_⟩;cases f:Vbbhal.accountAt e g with|none=>rw[f]at c;rw[Mi (by simp)];exact⟨by decide,c.one h rfl m⟩|some a=>
  rw[f]at c;rw[Mj (show(Option.map (λa=>V.ref (p.ad g)) (some a)).isSome=true from rfl)];walk_at"a";refine⟨n,e,p,u,b,rfl,D,j,m _ _ x,?_⟩;simp_all_arith[r,d.az];simp only[]at c;by_cases o:(decide (b=[])||(Vbbhal.accountAt e b).isSome)=false;·rw[Mj o];rw[Mj (by simp at o;exact⟨o.1,by rw[o.2];rfl⟩)]at c;exact⟨by decide,c.one h rfl m⟩
  rw[Mi o];rw[Mi (λf=>o (by rw[Lx f.1,Option.isNone_iff_eq_none.mp f.2];rfl))]at c;have O:b=[]∨∃a,Vbbhal.accountAt e b=some a:=by
   by_cases w:b=[];·exact .inl w
   ·right;cases w2:Vbbhal.accountAt e b with|none=>simp[w,w2]at o|some a=>exact⟨a,rfl⟩
  walk_at"a";refine⟨n,e,p,u,b,rfl,D.tre,j,m _ _ x,O,λax l as aA bi aE aI=>?_⟩;simp_all_arith[r,d.az];have A:=m.trans aA;have aK:ax q=some (.tup ((ci g).map V.int)):=by rw[bO];exact A _ _ v
  refine⟨q,ci g,l,as,_,rfl,aK,rfl,SqL.of aE,aI,_,rfl,?_⟩;by_cases E:g∈Vbbhal.pathOf e b;·rw[LF (vH.mpr E),Mj rfl];rw[Mj (by simpa using E)]at c;exact⟨by decide,c.one h rfl A⟩
  rw[Lx (λw=>E (vH.mp w)),Mi (by simp)];rw[Mi (by simpa using E)]at c;have aM:=h.same A;walk_at"a";refine⟨n,e,p,u,b,rfl,aM.tre,j,A _ _ x,O,λbj aN=>?_⟩;simp_all_arith[r,d.az];have H:=A.trans aN;walk_at"a";refine⟨n,e,p,q,g,a,rfl,h.same H,j,H _ _ v,f,λbl aP=>?_⟩;simp_all_arith[r,d.az];have s:=H.trans aP;have F:=h.same s;have Q:=F.tre.ob;unfold hf at Q;by_cases R:(8:Int)<((Vbbhal.pathOf e b).length:Int)+(Vbbhal.height e Vbbhal.DEEP g:Int);·rw[Mj R];rw[Mj (by show 8<_;lia)]at c;exact⟨by decide,c.one h rfl s⟩
  rw[Mi R];rw[Mi (by intro w;have w:8<(Vbbhal.pathOf e b).length+Vbbhal.height e Vbbhal.DEEP g:=w;lia)]at c;obtain⟨S,T⟩:=Tr.bb f;obtain⟨bm,bn,I,bv⟩:=F.tre.acA a T;have U:=eK F.tre j (s _ _ v);rw[f]at U;rw[S]at I;simp_all_arith[Q,d.az,d.bG];refine⟨_,U,_,rfl,?_⟩;subst S;obtain⟨a',B⟩:∃a':Account,a'={a with parent:=if b=[]then none else some b}:=⟨_,rfl⟩;rw[←B]at c;have J:a'.code=a.code:=by rw[B]
  have aR:a'.shut=a.shut:=by rw[B]
  have aT:a'.budget=a.budget:=by rw[B]
  have aU:a'.parent.getD []=b:=by
   rw[B];show(if b=[]then none else some b:Option Bytes).getD []=b;by_cases w:b=[];·rw[Mj w,w];rfl
   ·rw[Mi w];rfl
  have X:Vbbhal.accountAt e a'.code=some a:=by rw[J];exact f
  have Y:=F.acc (a':=a') (q:=u) j X (by rw[J];exact I) (by rw[aU];exact s _ _ x);rw[J,aR,aT]at Y;simp_all_arith[I,d.bG];refine⟨by decide,?_⟩;refine c.wrote (l:=[0]) rfl Y (λy bP a0 a1=>?_) (λy L=>.inl (sx j X y L)) (λy L=>s.free (aW L).1);rw[ak (λw=>a1 (.inr (.inr (.inr (.inr (.inr (.inr (.inr (.inr ⟨a,T,w⟩)))))))))];exact s _ _ a0)
theorem Ar(a:Str)(b:V):∀c:List (Str×V),(a_ a b c).length≤c.length+1
 |[]=>L6 _|(e,x)::f=>by
  unfold a_;by_cases d:e=a;·rw[Mj d];exact Nat.le_succ _
  ·rw[Mi d];exact Nat.succ_le_succ (Ar a b f)
theorem eX{b:Str}{a:List (Str×V)}{c:Nat}(d:a.length<c):(a_ b v a).length<c+1:=by have:=Ar b v a;omega
theorem nM(c:State)(b:Bytes)(e:Account→State×Ans):(Vbbhal.onAccount c b e=Vbbhal.no c 2∧(if Vbbhal.isCode b=false then(-2:Int)else if(Vbbhal.accountAt c b).isNone=true then-4 else 0)=-2)∨(Vbbhal.onAccount c b e=Vbbhal.no c 4∧(if Vbbhal.isCode b=false then(-2:Int)else if(Vbbhal.accountAt c b).isNone=true then-4 else 0)=-4)∨∃a,Vbbhal.accountAt c b=some a∧Vbbhal.onAccount c b e=e a∧(if Vbbhal.isCode b=false then(-2:Int)else if(Vbbhal.accountAt c b).isNone=true then-4 else 0)=0:=by
 by_cases d:Vbbhal.isCode b=false;·exact .inl ⟨lC d,Mj d⟩
 ·rw[Mi d];cases z:Vbbhal.accountAt c b with|none=>exact .inr (.inl ⟨jm d z,rfl⟩)|some a=>exact .inr (.inr ⟨a,rfl,jn d z,rfl⟩)
theorem o5(a:Bytes):(ci a).length=a.length:=Ln ..
theorem sC{b:State}(d:Good b){c:Bytes}(e:Vbbhal.accountAt b c=some a):c.length≤8:=by obtain⟨f,g⟩:=Tr.bb e;have:=d.codes a g;rw[f]at this;unfold Vbbhal.isCode at this;simp only[Bool.and_eq_true,decide_eq_true_eq]at this;exact this.1.2
theorem xD{k:Nat}:∀{nss:List (List Int)},(∀a∈nss,a.length≤k)→(flat nss).length≤(k+1)*nss.length
 |[],_=>L6 _|a::b,c=>by
  have d:flat (a::b)=((a.length:Int)::a)++flat b:=by unfold flat;rw[KJ]
  have f:=c a (Ks ..);have g:=xD (nss:=b) λx e=>c x (J0 _ e);rw[d,Kr,K9,K9,Nat.mul_succ];lia
theorem mB{k b:Nat}{a:List (List Int)}(c:∀d∈a,d.length≤k)(e:(k+1)*a.length≤b):(flat a).length≤b:=LY (xD c) e
theorem _root_.L2.aY.rows:∀{as:List Addr}{a:List (List Int)},aY H as a→jl H as a|_,_,.nil=>.nil|_,_,.cons b t=>.cons (.inr b) t.rows
theorem kr(a:Tx):Oz "is_month" 2 ["value"] (sp1 (λ_=>True) λb=>.bl (Vbbhal.isMonth b)):=by have c:=a.jc.fs ["value"];refine a.jc.ok c hZ (λf g h i j l m n o d e=>?_);obtain⟨b,rfl,-,k⟩:=e;refine⟨_,(ai (aq (ag (aL a) d (aa (pv 0) (aa ao (aa (aJ a.vX) af)))))),?_⟩;walk_at"rd";exact k
theorem eO(a:Tx):Oz "is_entry_number" 2 ["value"] (sp1 (λ_=>True) λb=>.bl (Vbbhal.inside b 1 500)):=by have c:=a.dm.fs ["value"];refine a.dm.ok c hZ (λf g h i j l m n o d e=>?_);obtain⟨b,rfl,-,k⟩:=e;refine⟨_,(ai (aq (ag (aL a) d (aa (pv 0) (aa ao (aa (aJ a.oa) af)))))),?_⟩;walk_at"rd";exact k
inductive As(vs:List V)(H:Hp)(Q:VK)(E:XK):Prop|mk(n:Nat):vs=[.int n]→(Q (.int (Vbbhal.rounded n:Nat)) H)→As vs H Q E
theorem eY(d:Tx):Oz "rounded_to_thousands" 1 ["number"] As:=by f_assign(
 have b:=d.bI.fs ["number","whole","rest","is_nearer_above","is_even_above"];refine d.bI.ok b (by walk_at"l") (λj l m n o e p f q r g=>?_);obtain⟨a,rfl,k⟩:=g;refine⟨_,(ae (sT 1 b.nd (aS op_fdiv (pv 0) ao)) (ae (sT 2 b.nd (aS op_mod (pv 0) ao)) (ae (sT 3 b.nd (dD op_gt (pv 2) ao (aD _))) (ae (sT 4 b.nd (uY (dD bg (pv 2) ao (aD _)) (jO (dD bg (aS op_mod (pv 1) ao) ao (aD _))))) (ae (aG (PW.pt (Fz (pt_val (pv 3)) (Cr (pt_val (pv 4))))) (ai (aq (aS op_add (pv 1) ao))) aw) (ai (aq (pv 1)))))))),?_⟩;walk_at"rd";unfold Vbbhal.rounded at k;have s:f (.int ((if 500<a%1000∨(a%1000=500∧a/1000%2=1)then a/1000+1 else a/1000:Nat):Int)) e:=k;by_cases h:500<a%1000
 ·rw[Mj (.inl h)]at k;have c:(500:Int)<(a:Int)%1000:=by lia
  simp only[c,if_true,decide_true];split<;>exact k
 ·have c:¬(500:Int)<(a:Int)%1000:=by lia
  simp only[c,if_false,decide_false,Bool.false_eq_true];by_cases i:a%1000=500∧a/1000%2=1;·rw[Mj (.inr i)]at k;rw[Mj (by lia),Mj (by lia)];exact k
  ·rw[Mi (by lia)]at k;by_cases u:a%1000=500;·rw[Mj (by lia),Mi (by lia)];exact k
   ·rw[Mi (by lia)];exact k)
inductive DO(vs:List V)(H:Hp)(Q:VK)(E:XK):Prop|mk(p:Addr)(s:State)(h:HA):vs=[.ref p]→aH H p s h→(Q (.bl (decide (s.capE≤s.entries.length))) H)→DO vs H Q E
theorem mC(a:Tx):Oz "is_full" 1 ["house"] (DO):=by f_assign(
 have e:=a.lr.fs ["house"];refine a.lr.ok e (by walk_at"l") (λh i j l m n o p q r f=>?_);obtain⟨s,b,u,rfl,c,k⟩:=f;have d:=c.tre.ob;unfold hf at d;refine⟨_,(ai (aq (dD op_ge (aF bF (by rfl) a.bT bh (aa (pe_fld (pv 0) rfl) af)) (pe_fld (pv 0) rfl) (aD _)))),?_⟩;simp_arith[d,a.az];refine⟨_,c.re.en,?_⟩;rw[Ln,c.re.enA.len];have g:decide ((b.capE:Int)≤(b.entries.length:Int))=decide (b.capE≤b.entries.length):=by apply Lf.mpr;lia
 rw[g];exact k)
inductive DP(vs:List V)(H:Hp)(Q:VK)(E:XK):Prop|mk(x dx q d:Addr)(k m a:Int):vs=[.ref x,.int k,.ref q,.int m,.int a,.ref d]→H x=some (.ins CE dx [])→(∀H',H' x=some (.ins CE dx (cg (.int k) (.ref q) (.int m) (.int a) (.ref d)))→(∀b o,H b=some o→b≠x→H' b=some o)→(∀b,H' b=none→H b=none)→Q .non H')→DP vs H Q E
theorem sD(b:Tx):OzI "Entry" CE 1 ["self","kind","code","month","amount","details"] (DP):=by f_assign(have d:=b.AV.fs ["self","kind","code","month","amount","details"];refine b.AV.ok d (by walk_at"l") (λi j l m n o p q r s e=>?_);obtain⟨x,u,v,y,z,A,a,rfl,f,k⟩:=e;refine⟨_,(ae (bf (pv 0) (pv 1) rfl) (ae (bf (pv 0) (pv 2) rfl) (ae (bf (pv 0) (pv 3) rfl) (ae (bf (pv 0) (pv 4) rfl) (ai (bf (pv 0) (pv 5) rfl)))))),?_⟩;simp_arith[f,b.bw];refine⟨eX (by simp),eX (eX (by simp)),eX (eX (eX (by simp))),eX (eX (eX (eX (by simp)))),?_⟩;simp only[kU,xg];exact k _ aj (λg B h c=>by rw[ak c];exact h) (λg c=>(aW c).1))
inductive Au(vs:List V)(H:Hp)(Q:VK)(E:XK):Prop|mk(x dx q:Addr)(g d m n:Int):vs=[.ref x,.int g,.int d,.int m,.int n,.ref q]→H x=some (.ins CW dx [])→(∀H',H' x=some (.ins CW dx (jk (.int g) (.int d) (.int m) (.int n) (.ref q)))→(∀b o,H b=some o→b≠x→H' b=some o)→(∀b,H' b=none→H b=none)→Q .non H')→Au vs H Q E
theorem Av(a:Tx):OzI "Work" CW 1 ["self","grade","day","minute","minutes","units"] (Au):=by f_assign(have c:=a.Eg.fs ["self","grade","day","minute","minutes","units"];refine a.Eg.ok c (by walk_at"l") (λh i j l m n o p q r d=>?_);obtain⟨x,s,u,v,y,z,A,rfl,e,k⟩:=d;refine⟨_,(ae (bf (pv 0) (pv 1) rfl) (ae (bf (pv 0) (pv 2) rfl) (ae (bf (pv 0) (pv 3) rfl) (ae (bf (pv 0) (pv 4) rfl) (ai (bf (pv 0) (pv 5) rfl)))))),?_⟩;simp_arith[e,a.fH];refine⟨eX (by simp),eX (eX (by simp)),eX (eX (eX (by simp))),eX (eX (eX (eX (by simp)))),?_⟩;simp only[kU,yR];exact k _ aj (λf B g b=>by rw[ak b];exact g) (λf b=>(aW b).1))
inductive Iu(vs:List V)(H:Hp)(Q:VK)(E:XK):Prop|mk(p:Addr)(s:State)(h:HA)(m:Int)(q:Addr)(c:Bytes):vs=[.ref p,.int m,.ref q]→aH H p s h→Good s→H q=some (.tup (cv c))→(∀H',au H H'→Q (.int (if Vbbhal.isMonth m=false then-1 else if Vbbhal.isCode c=false then-2 else if(Vbbhal.accountAt s c).isNone=true then-4 else 0)) H')→Iu vs H Q E
theorem cZ(a:Tx):Oz "refusal_of_month_and_code" 5 ["house","month","code"] (Iu):=by f_assign(
 have e:=a.br.fs ["house","month","code"];refine a.br.ok e (by walk_at"l") (λs u v x y c z A B d f=>?_);obtain⟨g,h,i,j,l,m,rfl,n,o,p,k⟩:=f;refine⟨_,(ae (aG (ba (pt_val (ag (kr a) d (aa (pv 1) af)))) (ai (aq (aJ a.aN))) aw) (ai (aq (ag (bo a) d (aa (pv 0) (aa (pv 2) af)))))),?_⟩;walk_at"rd";by_cases b:Vbbhal.isMonth j=false;·rw[Mj b];have:=k c (au.refl c);rw[Mj b]at this;exact this
 ·rw[Mi b];refine⟨g,h,i,l,m,rfl,n,o,p,λq r=>?_⟩;have:=k q r;rw[Mi b]at this;exact this)
inductive DQ(vs:List V)(H:Hp)(Q:VK)(E:XK):Prop|mk(p:Addr)(s:State)(h:HA):vs=[.ref p]→aH H p s h→Good s→(aB H p s h (Vbbhal.step s .when_) Q)→DQ vs H Q E
theorem sE(b:Tx):Oz "answer_when" 8 ["house"] (DQ):=by f_assign(have g:=b.gi.fs ["house","row"];refine b.gi.ok g (by walk_at"l") (λx y z A B C D E F h n=>?_);obtain⟨G,a,H,rfl,d,i,p⟩:=n;have j:=d.tre.ob;unfold hf at j;refine⟨_,(ae (sT 1 g.nd (aC (aa (ag (dw b) h (aa (pe_fld (pv 0) rfl) af)) (aa (pe_fld (pv 0) rfl) (aa (pe_fld (pv 0) rfl) (aa (aF bF (by rfl) b.bT bh (aa (pe_fld (pv 0) rfl) af)) af)))))) (ai (aq (ag (bx b) h (aa (pe_fld (pv 0) rfl) (aa (pv 1) af)))))),?_⟩;simp_arith[j,b.az];refine⟨a.today,rfl,i.today.1,i.today.2,λI e=>?_⟩;have c:=d.same e;have l:=c.tre.ob;unfold hf at l;simp_arith[l,b.az];refine⟨_,c.re.en,by decide,λq f=>?_⟩;have r:=c.same (au.new f (o:=.lst [.int (Vbbhal.monthOf a.today),.int a.closed,.int a.last,.int a.entries.length]));have m:=r.tre.ob;unfold hf at m;rw[Ln,c.re.enA.len];simp_arith[m,b.az];refine⟨a.today,q,[(Vbbhal.monthOf a.today:Int),(a.closed:Int),(a.last:Int),(a.entries.length:Int)],rfl,.inl aj,by simp,λJ L s u v=>?_⟩;exact p.read d (e.trans ((au.new f).trans s)) (e.free ((au.new f).free u)) v)
theorem sF(e:Tx):Oz "answer_path" 5 ["house","code"] (xy λb c=>Vbbhal.step b (.path c)):=by f_assign(
 have j:=e.f6.fs ["house","code","refusal","path"];refine e.f6.ok j (by walk_at"l") (λD E F G H u I v J g x=>?_);obtain⟨l,b,m,n,c,rfl,h,i,o,d⟩:=x;refine⟨_,(ae (sT 2 j.nd (ag (bo e) g (aa (pv 0) (aa (pv 1) af)))) (ae (aG (pt_cmpR op_lt (pv 2) ao (aD _)) (ai (aq (aC (aa (pv 2) af)))) aw) (ae (sT 3 j.nd (ag (fT e) g (aa (pv 0) (aa (pv 1) af)))) (ai (aq (ag (gH e) g (aa (aF bF (by rfl) e.bT bh (aa (pv 3) af)) (aa (pv 3) af)))))))),?_⟩;walk_at"rd";refine⟨l,b,m,n,c,rfl,h,i,o,λL f=>?_⟩;have d:aB u l b m (Vbbhal.onAccount b c λ_=>Vbbhal.yes b (Vbbhal.pathOf b c).length ((Vbbhal.pathOf b c).map Vbbhal.ints)) v:=d;rcases nM b c λ_=>Vbbhal.yes b (Vbbhal.pathOf b c).length ((Vbbhal.pathOf b c).map Vbbhal.ints)with⟨z1,z2⟩|⟨z1,z2⟩|⟨a,z0,z1,z2⟩;·rw[z1]at d;rw[z2];exact⟨_,rfl,by rw[Mj (by decide)];exact⟨by decide,d.one h rfl f⟩⟩
 ·rw[z1]at d;rw[z2];exact⟨_,rfl,by rw[Mj (by decide)];exact⟨by decide,d.one h rfl f⟩⟩
 ·rw[z1]at d;rw[z2];refine⟨_,rfl,?_⟩;rw[Mi (by decide)];refine⟨l,b,m,n,c,rfl,(h.same f).tre,i,f _ _ o,.inr ⟨a,z0⟩,λM p as q N r s=>?_⟩;refine⟨p,rfl,_,r,?_⟩;rw[Ln,s.len,Ln];refine⟨_,p,as,(Vbbhal.pathOf b c).map ci,rfl,r,s.rows,?_,λO Q y z A=>?_⟩;·refine mB (k:=8) (λR g=>?_) (by rw[Ln];have:=(i.tree.wf.chain z0).2;lia);obtain⟨S,B,rfl⟩:=LX.mp g;obtain⟨T,C⟩:=(i.tree.wf.chain z0).1.acc B;rw[o5];exact sC i C
  ·exact d.read h (f.trans (q.trans y)) (f.free (q.free z)) A)
def iC(a:Hp)(x:Addr)(c d e f:Int)(b:Addr)(g:List Int):Prop:=(∃h,a x=some (.ins CW h (jk (.int c) (.int d) (.int e) (.int f) (.ref b))))∧a b=some (.tup (g.map V.int))
theorem iC.same{c d e f:Int}{g:List Int}(i:iC H x c d e f q g)(h:au H H'):iC H' x c d e f q g:=let⟨⟨dx,a⟩,b⟩:=i;⟨⟨dx,h _ _ a⟩,h _ _ b⟩
inductive Iv(vs:List V)(H:Hp)(Q:VK)(E:XK):Prop|mk(x:Addr)(g d m n:Int)(q:Addr)(us:List Int):vs=[.ref x]→iC H x g d m n q us→(Q (.bl (Vbbhal.isWork g d m n)) H)→Iv vs H Q E
theorem gq(a:Tx):Oz "is_grade_and_time" 3 ["work"] (Iv):=by f_assign(
 have f:=a.cC.fs ["work"];refine a.cC.ok f (by walk_at"l") (λm n o p q r s u v b g=>?_);obtain⟨x,h,i,j,y,z,A,rfl,⟨⟨B,l⟩,C⟩,k⟩:=g;refine⟨_,(ae (aG (ba (PW.pt (cq (pt_val (ag (aL a) b (aa (pe_fld (pv 0) rfl) (aa ao (aa (aJ a.ph) af))))) (bZ (pt_val (ag (iR a) b (aa (pe_fld (pv 0) rfl) af))))))) (ai (aq rf)) aw) (ai (aq (uY (ag (aL a) b (aa (pe_fld (pv 0) rfl) (aa ao (aa (aS op_sub (aJ a.fU) ao) af)))) (jO (ag (aL a) b (aa (pe_fld (pv 0) rfl) (aa ao (aa (aJ a.s_) af))))))))),?_⟩;simp_all_arith[l,a.fH];unfold Vbbhal.isWork at k;generalize Vbbhal.inside h 1 36=d at k⊢;generalize Vbbhal.isDay i=e at k⊢;by_cases c:Vbbhal.inside j 0 1439=true;·rw[Mj c];rw[c]at k;cases d<;>cases e<;>simpa using k
 ·rw[Mi c];rw[KD.mpr c]at k;cases d<;>cases e<;>simpa using k)
def dz(a:List Int):Int:=if a.length≠4 then-2 else if(a.all λb=>Vbbhal.inside b 0 1000000000)=false then-1 else 0
def inV:V→V|.int a=>.bl (Vbbhal.inside a 0 1000000000)|_=>.bl false
inductive Aw(vs:List V)(H:Hp)(Q:VK)(E:XK):Prop|mk(q:Addr)(us:List Int):vs=[.ref q]→H q=some (.tup (us.map V.int))→(∀H',au H H'→Q (.int (dz us)) H')→Aw vs H Q E
theorem gB(a:Tx):Oz "refusal_of_units" 2 ["units"] Aw:=by f_assign(
 have d:=a.cQ.fs ["units","number"];refine a.cQ.ok d (by walk_at"l") (λs u v y z e A B C i j=>?_);obtain⟨D,b,rfl,f,k⟩:=j;obtain⟨E,m,n⟩:=a.bP;refine⟨_,(ae (aG (pt_cmpR xq (aF fR (by rfl) a.bT bh (aa (pv 0) af)) (aF e_ (by rfl) a.bT bh (aa (aJ m) af)) (aD _)) (ai (aq (aJ a.cT))) aw) (ae (aG (ba (pt_val (aF (yE rfl) (by rfl) a.Eh yK (aa (hG rfl d.nd (rh (pv 0)) (bS (l:=[("number",1)]) d) (λ_ _ _ _ _=>gN 1 d.nd) (λ_ _ _ _ _=>fb) (λ_ _ _ _ _=>(ag (aL a) i (aa (pv 1) (aa ao (aa (aJ a.vQ) af)))))) af)))) (ai (aq (aJ a.aN))) aw) (ai (aq ao)))),?_⟩;walk_at"go";refine⟨_,f,_,.inr (n e),?_⟩;rw[Ln];by_cases g:b.length≠4;·rw[Mj (by simp;lia)];have:=k e (au.refl e);unfold dz at this;rw[Mj g]at this;exact this
 ·rw[Mi (by simp;lia)];refine⟨⟨_,SqT.of f⟩,Af (SqT.of f) (by rw[Ln];show b.length≤2^24;lia) inV ?_ ?_ (λx F G H e p=>p _ _)⟩;·intro x hx H' Qe _ qe;obtain⟨I,_,rfl⟩:=LX.mp hx;walk_at"go";exact qe
  ·intro J q;walk_at"go";refine⟨b.map λc=>Vbbhal.inside c 0 1000000000,?_,?_⟩
   ·have:(b.map V.int).map inV=(b.map λc=>Vbbhal.inside c 0 1000000000).map V.bl:=by rw[LV,LV];rfl
    rw[this];exact SqL.of aj
   ·have:=k _ (au.new q (o:=.lst ((b.map V.int).map inV)));unfold dz at this;rw[Mi g]at this;have r:((b.map λc=>Vbbhal.inside c 0 1000000000).all id)=b.all λc=>Vbbhal.inside c 0 1000000000:=by rw[List.all_map];rfl
    rw[r];by_cases h:(b.all λc=>Vbbhal.inside c 0 1000000000)=false;·rw[Mj h]at this⊢;exact this
    ·rw[Mi h]at this⊢;exact this)
inductive F7(vs:List V)(H:Hp)(Q:VK)(E:XK):Prop|mk(x:Addr)(g d m n:Int)(q:Addr)(us:List Int):vs=[.ref x]→iC H x g d m n q us→Vbbhal.isWork g d m n=true→(Q (.int (Vbbhal.lastDay (Vbbhal.workOf g d m n us):Nat)) H)→F7 vs H Q E
theorem qM{a b c d:Int}(e:Vbbhal.isWork a b c d=true):(1≤a∧a≤36)∧(1≤b∧b≤365243)∧(0≤c∧c≤1439)∧0≤d∧d≤10080:=by unfold Vbbhal.isWork at e;simp only[Bool.and_eq_true]at e;obtain⟨f,g,h,i⟩:=e;exact⟨Gm.aX.mp f,Gm.gY.mp g,Gm.aX.mp h,Gm.aX.mp i⟩
theorem G_{e b c a:Int}{g:List Int}(f:Vbbhal.isWork e b c a=true):((Vbbhal.lastDay (Vbbhal.workOf e b c a g):Nat):Int)=if a=0 then b else b+(c+a-1)/1440:=by f_assign(
 obtain⟨-,⟨h,-⟩,⟨i,l⟩,j,-⟩:=qM f;obtain⟨b,rfl⟩:=JF (Int.le_trans (by decide) h);obtain⟨c,rfl⟩:=JF i;obtain⟨a,rfl⟩:=JF j;obtain⟨b,rfl⟩:∃k,b=k+1:=⟨b-1,by lia⟩;clear f;unfold Vbbhal.lastDay Vbbhal.workOf Vbbhal.dayOfMinute;simp only[Int.toNat_natCast,Nat.add_sub_cancel];by_cases d:a=0;·rw[Mj d,Mj (by rw[d];rfl),Nat.add_comm (b*1440),Nat.add_mul_div_right _ _ (by decide),Nat.div_eq_of_lt (by lia)];lia
 ·obtain⟨a,rfl⟩:∃k,a=k+1:=⟨a-1,by lia⟩;rw[Mi d,Mi (by lia),show b*1440+c+(a+1)-1=c+a+b*1440 by lia,Nat.add_mul_div_right _ _ (by decide),show(c:Int)+(a+1:Nat)-1=((c+a:Nat):Int)by lia,show((c+a:Nat):Int)/1440=(((c+a)/1440:Nat):Int)from rfl];generalize(c+a)/1440=q;lia)
theorem lD(a:Tx):Oz "end_of" 1 ["work"] (F7):=by f_assign(
 have c:=a.nc.fs ["work"];refine a.nc.ok c (by walk_at"l") (λh i j l m n o p q r d=>?_);obtain⟨x,s,u,v,e,y,z,rfl,⟨⟨A,f⟩,B⟩,g,k⟩:=d;refine⟨_,(ae (aG (pt_cmpR bg (pe_fld (pv 0) rfl) ao (aD _)) (ai (aq (pe_fld (pv 0) rfl))) aw) (ai (aq (aS op_add (pe_fld (pv 0) rfl) (aS op_fdiv (aS op_sub (aS op_add (pe_fld (pv 0) rfl) (pe_fld (pv 0) rfl)) ao) (aJ a.fU)))))),?_⟩;simp_all_arith[f,a.fH];rw[G_ g]at k;by_cases b:e=0;·rw[Mj b]at k⊢;exact k
 ·rw[Mi b]at k⊢;exact k)
theorem aH.ent{p:Addr}{n:State}{e:HA}(b:aH H p n e)(u:fM H x h):aH (upd H e.aE (.lst ((e.es++[x]).map V.ref))) p {n with entries:=n.entries++[h]} {e with es:=e.es++[x]}:=by f_assign(
 have ne:∀f g,H f=some g→(∀i,g≠.lst i)→upd H e.aE (.lst ((e.es++[x]).map V.ref)) f=some g:=λf g d v=>by rw[ak (λw=>by rw[w,b.re.en]at d;exact v _ (Lv d).symm)];exact d
 have j:∀f i,H f=some (.tup i)→upd H e.aE (.lst ((e.es++[x]).map V.ref)) f=some (.tup i):=λf i d=>ne _ _ d nofun;have z:∀y h,fM H y h→fM (upd H e.aE (.lst ((e.es++[x]).map V.ref))) y h:=λy h q=>q.keep (λg d=>by obtain⟨o,a,A,l,_⟩:=q;rw[ak (λw=>by rw[w,b.re.en]at l;cases l)];exact d) j;have c:=b.re;refine⟨⟨ne _ _ b.tre.ob nofun,.inl (ne _ _ b.ac nofun),b.tre.acR,λy m=>?_⟩,ne _ _ b.ac nofun,b.acI,ne _ _ b.pr nofun,b.prR,λy m=>j _ _ (b.prA y m),ne _ _ b.ra nofun,b.raR,ne _ _ b.ti nofun,b.tiR,b.nPT,b.nRA,?_⟩;·obtain⟨o,d,B,C⟩:=b.tre.acA y m;exact⟨o,d,ne _ _ B nofun,j _ _ C⟩
 ·refine⟨c.tbE,?_,aj,?_,ne _ _ c.iv nofun,c.ivR,c.msN,c.msB,c.ivM,λr s=>⟨ne _ _ (c.ivD r s).1 nofun,(c.ivD r s).2⟩,λD E=>j _ _ (c.ivT D E),c.nIP,c.nIT,c.nMR⟩;·obtain⟨F,d,_⟩:=id c.tab;exact c.tab.keep (by rw[ak (λw=>by rw[w,c.en]at d;cases d)]) λf G d=>ne _ _ d nofun
  ·exact cH.snoc (z _ _ u) (c.enA.keep j λy m g d=>by obtain⟨I,_,o,a,A,l,_⟩:=c.enA.mem y m;rw[ak (λw=>by rw[w,c.en]at l;cases l)];exact d))
theorem xE{d:Addr}{e f:State}{a b:HA}(h:f.accounts=e.accounts)(i:b.aP=a.aP∧b.aR=a.aR∧b.aT=a.aT∧b.aA=a.aA∧b.aE=a.aE∧b.aI=a.aI∧b.tb=a.tb∧b.ad=a.ad)(g:Addr)(c:fI d f b g):fI d e a g:=by obtain⟨j,l,m,n,o,p,q,r⟩:=i;unfold fI at c⊢;rw[j,l,m,n,o,p,q,r,h]at c;exact c
theorem made{b d:Hp}(f:b x=none)(g:b dx=none)(fr:∀a e,upd (upd b dx o1) x o2 a=some e→a≠x→d a=some e)(h:∀a,d a=none→upd (upd b dx o1) x o2 a=none):au b d∧∀a,d a=none→b a=none:=⟨λa e c=>fr a e (by rw[ak (ay c f),ak (ay c g)];exact c) (ay c f),λa c=>(aW (aW (h a c)).1).1⟩
theorem aB.A0{h:Addr}{f:State}{a:HA}{e:Vbbhal.Entry}{g:State×Ans}{i:List Int}(l:aB H h f a g Q)(m:g.1={f with entries:=f.entries++[e]})(n:mz g.2=i)(o:aH H3 h f a)(p:au H H3)(q:∀c,H3 c=none→H c=none)(r:fM H3 x e):∀b d,au (upd H3 a.aE (.lst ((a.es++[x]).map V.ref))) d→upd H3 a.aE (.lst ((a.es++[x]).map V.ref)) b=none→d b=some (.lst (i.map V.int))→Q (.ref b) d:=λb d j s u=>by obtain⟨A,B⟩:=g;cases m;subst n;refine l d {a with es:=a.es++[x]} b ((o.ent r).same j) (λc C b v=>j _ _ ?_) (λc y=>.inl (xE (by rfl) ⟨rfl,rfl,rfl,rfl,rfl,rfl,rfl,rfl⟩ c y)) (q _ (aW s).1) u;rw[ak λz=>v (.inr (.inr (.inr (.inr (.inr (.inl z))))))];exact p _ _ b
theorem mD(c:Tx):Oz "answer_overhead" 6 ["house","amount","code"] (Aq λb f g=>Vbbhal.step b (.overhead f g)):=by f_assign(
 have z:=c.du.fs ["house","amount","code","refusal"];refine c.du.ok z (by walk_at"l") (λah al am an ap p ar L av l M=>?_);obtain⟨q,b,i,f,r,g,rfl,h,m,A,d⟩:=M;refine⟨_,(ae (aG (ba (pt_val (ag (dQ c) l (aa (pv 1) (aa ao af))))) (ai (aq (aC (aa (aJ c.aN) af)))) aw) (ae (sT 3 z.nd (ag (bo c) l (aa (pv 0) (aa (pv 2) af)))) (ae (aG (pt_cmpR op_lt (pv 3) ao (aD _)) (ai (aq (aC (aa (pv 3) af)))) aw) (ae (aG (pt_val (ag (mC c) l (aa (pv 0) af))) (ai (aq (aC (aa (aJ c.fV) af)))) aw) (ae (de (iG JH JB JC dE (pe_fld (pv 0) rfl) (aa (gP (sD c) l (aa (aJ c.mJ) (aa (pv 2) (aa (ag (dw c) l (aa (pe_fld (pv 0) rfl) af)) (aa (pv 1) (aa (fQ af) af)))))) af))) (ai (aq (aC (aa (aF bF (by rfl) c.bT bh (aa (pe_fld (pv 0) rfl) af)) af))))))))),?_⟩;walk_at"go";have d:aB p q b i (if Vbbhal.isAmount f 1=false then Vbbhal.no b 1 else Vbbhal.onAccount b g λ_=>if b.capE≤b.entries.length then Vbbhal.no b 8 else Vbbhal.yes (Vbbhal.addEntry b g (Vbbhal.monthOf b.today) f .overhead) (Vbbhal.nextNum b)) L:=d;by_cases B:Vbbhal.isAmount f 1=false;·rw[Mj B]at d⊢;exact⟨by decide,d.one h rfl (au.refl p)⟩
 rw[Mi B]at d⊢;walk_at"a";refine⟨q,b,i,r,g,rfl,h,m,A,λax j=>?_⟩;walk_at"go";rcases nM b g λ_=>if b.capE≤b.entries.length then Vbbhal.no b 8 else Vbbhal.yes (Vbbhal.addEntry b g (Vbbhal.monthOf b.today) f .overhead) (Vbbhal.nextNum b)with⟨z1,z2⟩|⟨z1,z2⟩|⟨a,z0,z1,z2⟩;·rw[z1]at d;rw[z2];rw[Mj (by decide)];exact⟨by decide,d.one h rfl j⟩
 ·rw[z1]at d;rw[z2];rw[Mj (by decide)];exact⟨by decide,d.one h rfl j⟩
 rw[z1]at d;rw[z2];try refine⟨_,rfl,?_⟩
 rw[Mi (by decide)];have s:=h.same j;have u:=s.tre.ob;unfold hf at u;walk_at"a";refine⟨q,b,i,rfl,s,?_⟩;walk_at"go";try refine⟨_,rfl,?_⟩
 by_cases n:b.capE≤b.entries.length;·rw[Mj n]at d;rw[Mj n];exact⟨by decide,d.one h rfl j⟩
 rw[Mi n]at d;rw[Mi n];simp_all_arith[u,c.az];refine⟨tyL s.re.en,b.today,rfl,m.today.1,m.today.2,λaA C=>⟨by decide,λD E x F N O aE=>?_⟩⟩;walk_at"a";refine⟨x,F,r,D,3,_,f,rfl,aj,λG Q R S=>?_⟩;simp_all_arith[u,c.az];obtain⟨H,T⟩:=made N O R S;have v:au p G:=j.trans (C.trans ((au.new E).trans H));have o:=h.same v;have U:=o.tre.ob;unfold hf at U;have I:fM G x ⟨Vbbhal.nextNum b,g,Vbbhal.monthOf b.today,f,.overhead⟩:=⟨F,r,D,Q,v _ _ A,H _ _ aj⟩;have X:=o.ent I;have y:=X.tre.ob;unfold hf at y;have Y:=h.re.enA.len;have aI:=m.elen;have aK:=m.capE;refine⟨_,o.re.en,by rw[Ln];exact bq (by lia),?_⟩;rw[show i.es.map V.ref++[V.ref x]=(i.es++[x]).map V.ref by simp];simp_all_arith[y,c.az];walk_at"a";refine⟨by decide,λZ J=>?_⟩;simp_all_arith[y,c.az];refine d.A0 (e:=⟨Vbbhal.nextNum b,g,Vbbhal.monthOf b.today,f,.overhead⟩) rfl rfl o v (λac e=>j.free (C.free ((au.new E).free (T ac e)))) I Z _ (au.new J) J ?_;rw[aj];show some (HO.lst [V.int (((i.es++[x]).map V.ref).length:Nat)])=some (HO.lst [V.int ((Vbbhal.nextNum b:Nat):Int)]);rw[Ln,Kr,Y];rfl)
theorem Ax{a:Around}{k:Nat}(b:cu k a):a.units+64<cLine:=by have:=b.un;omega
inductive Ay(vs:List V)(H:Hp)(Q:VK)(E:XK):Prop|mk(p:Addr)(s:State)(h:HA)(n:Int):vs=[.ref p,.int n]→aH H p s h→Good s→(aB H p s h (Vbbhal.step s (.entry n)) Q)→Ay vs H Q E
theorem entry_at{c:State}(l:Good c){a:Int}(o:1≤a):Vbbhal.entryAt c a=c.entries[(a-1).toNat]?:=by f_assign(unfold Vbbhal.entryAt;have d:=l.ek;cases z:c.entries[(a-1).toNat]? with|none=>refine Kq.mpr λb f=>?_;obtain⟨m,g⟩:=JX.mp f;have:=d m b g;have h:=List.getElem?_eq_none_iff.mp z;have n:=(Jx.mp g).1;simp;omega|some b=>have f:=d _ b z;cases y:c.entries.find? λb=>(b.num:Int)==a with|none=>have:=Kq.mp y b (J_ z);simp at this;omega|some i=>
 have h:=Lm y;obtain⟨j,e⟩:=JX.mp (Jy y);have n:=d j i e;have p:(i.num:Int)=a:=by simpa using h
 have:j=(a-1).toNat:=by omega
 subst this;rw[z]at e;exact e.symm)
theorem Az{b:List V}{a:Int}(d:0≤a)(c:b[a.toNat]?=some v):atI b a=some v:=by have:=L2.kX c;rwa[show((a.toNat:Nat):Int)=a by lia]at this
theorem qg(b:Tx):Oz "answer_entry" 5 ["house","number"] (Ay):=by f_assign(
 have q:=b.fm.fs ["house","number","entry"];refine b.fm.ok q (by walk_at"l") (λT U X Y Z e ac J ah f L=>?_);obtain⟨M,i,l,g,rfl,d,m,c⟩:=L;have r:=d.tre.ob;unfold hf at r;refine⟨_,(ae (aG (ba (pt_val (ag (eO b) f (aa (pv 1) af)))) (ai (aq (aC (aa (aJ b.aN) af)))) aw) (ae (aG (pt_cmpR op_gt (pv 1) (aF bF (by rfl) b.bT bh (aa (pe_fld (pv 0) rfl) af)) (aD _)) (ai (aq (aC (aa (aJ b.dA) af)))) aw) (ae (sT 2 q.nd (b0 ix_listH (pe_fld (pv 0) rfl) (aS op_sub (pv 1) ao) (λ_ _=>rfl))) (ai (aq (ag (gH b) f (aa (pe_fld (pv 2) rfl) (aa (aC (aa (pe_fld (pv 2) rfl) (aa (fQ (aa (pe_fld (pv 2) rfl) (aa (pe_fld (pv 2) rfl) af))) (aa (pe_fld (pv 2) rfl) af)))) af)))))))),?_⟩;simp_all_arith[r,b.az,b.bw];have c:aB e M i l (if Vbbhal.inside g 1 500=false then Vbbhal.no i 1 else(match Vbbhal.entryAt i g with|none=>Vbbhal.no i 4|some a=>Vbbhal.yes i (Vbbhal.kindNum a.kind) [Vbbhal.ints a.code,[(a.month:Int),a.amount],Vbbhal.kindRow a.kind])) J:=c;by_cases j:Vbbhal.inside g 1 500=false;·rw[Mj j]at c⊢;exact⟨by decide,c.one d rfl (au.refl e)⟩
 rw[Mi j]at c⊢;have j:=Gm.aX.mp (Gm.tof j);rw[entry_at m j.1]at c;refine⟨_,d.re.en,?_⟩;rw[Ln];have al:=d.re.enA.len;by_cases s:(l.es.length:Int)<g;·rw[Mj s];rw[JU (by omega)]at c;exact⟨by decide,c.one d rfl (au.refl e)⟩
 rw[Mi s];obtain⟨x,u⟩:∃x,l.es[(g-1).toNat]?=some x:=⟨_,JA (by omega)⟩;obtain⟨a,v,am,y,A,n,N,O⟩:=d.re.enA.get u;rw[v]at c;have B:atI (l.es.map V.ref) (g-1)=some (.ref x):=by refine Az (by omega) ?_;rw[KL,u];rfl
 simp_all_arith[d.re.en,B,n,b.bw];walk_at"a";refine⟨by decide,λt Q=>?_⟩;simp_all_arith[d.re.en,B,n,b.bw];have C:au e (upd e t (.tup [.int a.month,.int a.amount])):=au.new Q;have D:=C _ _ n;simp_all_arith[D,b.bw];walk_at"a";refine⟨by decide,λR E=>?_⟩;simp_all_arith[D,b.bw];have h:=C.trans (au.new E (o:=.lst [.ref y,.ref t,.ref A]));have F:=J_ v;obtain⟨an,S⟩:=m.ec a F;refine⟨_,R,[y,t,A],[ci a.code,[(a.month:Int),a.amount],Vbbhal.kindRow a.kind],rfl,aj,.cons (.inr ?_) (.cons (.inr ?_) (.cons (.inr ?_) .nil)),mB (k:=8) (λp f=>?_) (by simp),λap ar G H I=>?_⟩;·rw[bO];exact h _ _ N
 ·rw[ak (ay (show upd e t (.tup [.int a.month,.int a.amount]) t=some _ from aj) E),aj];rfl
 ·exact h _ _ O
 ·have f:p=ci a.code∨p=[(a.month:Int),a.amount]∨p=Vbbhal.kindRow a.kind:=by simpa using f
  rcases f with z|z|z;·rw[z,o5];exact sC m S
  ·rw[z];simp
  ·rw[z];exact m.ew a F
 ·first|exact c.read d (h.trans G) (h.free H) I|exact hk9 _ _ (c.read d (h.trans G) (h.free H) I))
inductive DR(vs:List V)(H:Hp)(Q:VK)(E:XK):Prop|mk(p:Addr)(s:State)(h:HA)(n:Int)(e:Vbbhal.Entry):vs=[.ref p,.int n]→aH H p s h→Good s→1≤n→s.entries[(n-1).toNat]?=some e→(∀H',au H H'→Q (.int (Vbbhal.leftOf s e)) H')→DR vs H Q E
def uL(a:Int)(b:List Vbbhal.Entry):Int:=((b.filter λx=>x.kind==.credit a.toNat).map λx=>x.amount).sum
theorem zc(a:Int)(c:List Vbbhal.Entry)(b:Vbbhal.Entry):uL a (c++[b])=uL a c+if b.kind=.credit a.toNat then b.amount else 0:=by
 unfold uL;rw[Ko,Lp,Lu];by_cases d:b.kind=.credit a.toNat;·simp[d]
 ·simp[d]
theorem nN(e:Tx):Oz "left_of_charge" 1 ["house","number"] (DR):=by f_assign(
 have m:=e.dJ.fs ["house","number","left","entry"];refine e.dJ.ok m (by walk_at"l") (λam an ap ar av C ax aA aE L c=>?_);obtain⟨D,E,r,a,M,rfl,f,N,aI,s,k⟩:=c;have O:=Ax L;have F:=f.tre.ob;unfold hf at F;have Q:=f.re.enA.len;obtain⟨x,G⟩:∃x,r.es[(a-1).toNat]?=some x:=⟨_,JA (by have:=(Jx.mp s).1;lia)⟩;obtain⟨u,H,aK,aM,aN,R,aP,aR⟩:=f.re.enA.get G;obtain rfl:u=M:=by rw[s]at H;exact(Lv H).symm
 have S:atI (r.es.map V.ref) (a-1)=some (.ref x):=by refine Az (by lia) ?_;rw[KL,G];rfl
 refine⟨_,(ae (sT 2 m.nd (pe_fld (b0 ix_listH (pe_fld (pv 0) rfl) (aS op_sub (pv 1) ao) (λ_ _=>rfl)) rfl)) (ae (bW Lw rfl (bE (pe_fld (pv 0) rfl)) (gN 3 m.nd) (ai (aG (PW.pt (cq (pt_cmpR bg (pe_fld (pv 3) rfl) (aJ e.xY) (aD _)) (bZ (pt_cmpR (yS O) (pe_fld (pv 3) rfl) (fQ (aa (pv 1) af)) (aD _))))) (ai (iz (i:=2) m.nd rfl (Or.inl rfl) (pe_fld (pv 3) rfl) i6)) aw))) (ai (aq (pv 2))))),?_⟩;simp_all_arith[F,f.re.en,S,R,e.az,e.bw];refine⟨⟨_,SqL.of f.re.en⟩,?_⟩;obtain⟨n,j⟩:∃n:Nat→L2.St→Hp→Prop,n=λi o g=>∃p,o=[some (V.ref D),some (V.int a),some (V.int (u.amount+uL a (E.entries.take i))),p]∧au C g:=⟨_,rfl⟩;refine dZ (xs:=r.es.map V.ref) n ?_ ?_ ?_ ?_;·rw[j];exact⟨none,by simp[uL],au.refl _⟩
 ·rintro i o g aT c;rw[j]at c;obtain⟨p,rfl,d⟩:=c;exact SqL.of (d _ _ f.re.en)
 ·rintro i y o g hy c;rw[j]at c;obtain⟨p,rfl,d⟩:=c;rw[KL]at hy;obtain⟨I,T,rfl⟩:=JQ.mp hy;obtain⟨l,U,aU,a0,X,Y,a1,J⟩:=f.re.enA.get T;have v:=d _ _ Y;simp_all_arith[v,e.bw];have z:∀(A:Hp)(b:Int),au C A→b=(if l.kind=.credit a.toNat then l.amount else 0)→n (i+1) [some (V.ref D),some (V.int a),some (V.int (u.amount+uL a (E.entries.take i)+b)),some (V.ref I)] A:=λA b Z ac=>by rw[j];refine⟨some (V.ref I),?_,Z⟩;rw[take_snoc U,zc,ac,Int.add_assoc]
  by_cases w:(Vbbhal.kindNum l.kind:Int)=2
  ·rw[Mj w];obtain⟨h,B⟩:∃h,l.kind=.credit h:=by cases b:l.kind with|charge a2=>rw[b]at w;simp[Vbbhal.kindNum]at w|credit h=>exact⟨h,rfl⟩|overhead=>rw[b]at w;simp[Vbbhal.kindNum]at w
   rw[B]at J;walk_at"a";refine⟨by decide,λt ah=>?_⟩;simp_all_arith[v,e.bw];have q:au g (upd g t (.tup [.int a])):=au.new ah;have al:=q _ _ v;refine⟨X,t,[(h:Int)],[a],rfl,rfl,q _ _ (d _ _ J),aj,_,rfl,?_⟩;by_cases y:(h:Int)=a;·rw[Mj (by rw[y];exact LF rfl)];simp_all_arith[al,e.bw];exact z _ _ (d.trans q) (by rw[B,Mj (by rw[show a.toNat=h by lia])])
   ·rw[Mi (λb=>y (LK (KU b)).1)];have:=z _ 0 (d.trans q) (by rw[B,Mi (λb=>y (by injection b with b;lia))]);rw[Int.add_zero]at this;exact this
  ·rw[Mi w];have:=z _ 0 d (by rw[Mi (λb=>w (by rw[b];rfl))]);rw[Int.add_zero]at this;exact this
 ·rintro o g c;rw[j]at c;obtain⟨p,rfl,d⟩:=c;walk_at"go";have:=k g d;rw[Ln,Q,Lb];unfold Vbbhal.leftOf at this;rw[N.ek _ _ s,show(a-1).toNat+1=a.toNat by lia]at this;exact this)
inductive xF(vs:List V)(H:Hp)(Q:VK)(E:XK):Prop|mk(p:Addr)(s:State)(h:HA)(n a:Int):vs=[.ref p,.int n,.int a]→aH H p s h→Good s→(aB H p s h (Vbbhal.step s (.credit n a)) Q)→xF vs H Q E
theorem o6(c:Tx):Oz "answer_credit" 6 ["house","number","amount"] (xF):=by f_assign(
 have z:=c.eE.fs ["house","number","amount","charge","left"];refine c.eE.ok z (by walk_at"l") (λa1 a2 a3 a4 a5 m a6 I a7 n Z=>?_);obtain⟨r,b,h,g,a,rfl,f,o,d⟩:=Z;have J:=f.tre.ob;unfold hf at J;refine⟨_,(ae (aG (ba (PW.pt (cq (pt_val (ag (eO c) n (aa (pv 1) af))) (bZ (pt_val (ag (dQ c) n (aa (pv 2) (aa ao af)))))))) (ai (aq (aC (aa (aJ c.aN) af)))) aw) (ae (aG (pt_cmpR op_gt (pv 1) (aF bF (by rfl) c.bT bh (aa (pe_fld (pv 0) rfl) af)) (aD _)) (ai (aq (aC (aa (aJ c.dA) af)))) aw) (ae (sT 3 z.nd (b0 ix_listH (pe_fld (pv 0) rfl) (aS op_sub (pv 1) ao) (λ_ _=>rfl))) (ae (aG (pt_cmpR xq (pe_fld (pv 3) rfl) (aJ c.xW) (aD _)) (ai (aq (aC (aa (aJ c.d5) af)))) aw) (ae (sT 4 z.nd (ag (nN c) n (aa (pv 0) (aa (pv 1) af)))) (ae (aG (pt_cmpR op_gt (pv 2) (pv 4) (aD _)) (ai (aq (aC (aa (aJ c.px) af)))) aw) (ae (aG (pt_val (ag (mC c) n (aa (pv 0) af))) (ai (aq (aC (aa (aJ c.fV) af)))) aw) (ae (de (iG JH JB JC dE (pe_fld (pv 0) rfl) (aa (gP (sD c) n (aa (aJ c.xY) (aa (pe_fld (pv 3) rfl) (aa (ag (dw c) n (aa (pe_fld (pv 0) rfl) af)) (aa (zK un_neg (pv 2)) (aa (fQ (aa (pv 1) af)) af)))))) af))) (ai (aq (ag (bx c) n (aa (aF bF (by rfl) c.bT bh (aa (pe_fld (pv 0) rfl) af)) (aa (aC (aa (aS op_sub (pv 4) (pv 2)) af)) af))))))))))))),?_⟩;simp_all_arith[J,c.az,c.bw];have d:aB m r b h (Vbbhal.doCredit b g a) I:=d;unfold Vbbhal.doCredit at d;by_cases i:Vbbhal.inside g 1 500=true;case neg=>rw[Mi i];rw[Mj (.inl (KD.mpr i))]at d;exact⟨by decide,d.one f rfl (au.refl m)⟩
 rw[Mj i];by_cases s:Vbbhal.isAmount a 1=false;·rw[Mj s];rw[Mj (.inr s)]at d;exact⟨by decide,d.one f rfl (au.refl m)⟩
 rw[Mi s];rw[Mi (by rw[i];rintro(j|j);cases j;exact s j)]at d;have i:=Gm.aX.mp i;rw[entry_at o i.1]at d;refine⟨_,f.re.en,?_⟩;rw[Ln];have ac:=f.re.enA.len;by_cases L:(h.es.length:Int)<g;·rw[Mj L];rw[JU (by lia)]at d;exact⟨by decide,d.one f rfl (au.refl m)⟩
 rw[Mi L];obtain⟨x,M⟩:∃x,h.es[(g-1).toNat]?=some x:=⟨_,JA (by lia)⟩;obtain⟨e,A,a8,N,a9,u,ah,bd⟩:=f.re.enA.get M;rw[A]at d;have B:atI (h.es.map V.ref) (g-1)=some (.ref x):=by refine Az (by lia) ?_;rw[KL,M];rfl
 simp_all_arith[f.re.en,B,u,c.bw];by_cases l:¬(Vbbhal.kindNum e.kind:Int)=1
 ·rw[Mj l];have:(match e.kind with|.charge _=>if Vbbhal.leftOf b e<a then Vbbhal.no b 13 else if b.capE≤b.entries.length then Vbbhal.no b 8 else Vbbhal.yes (Vbbhal.addEntry b e.code (Vbbhal.monthOf b.today) (-a) (.credit e.num)) (Vbbhal.nextNum b) [[Vbbhal.leftOf b e-a]]|_=>Vbbhal.no b 6)=Vbbhal.no b 6:=by cases j:e.kind with|charge q=>rw[j]at l;exact absurd rfl l|credit al=>rfl|overhead=>rfl
  exact⟨by decide,d.one f this (au.refl m)⟩
 rw[Mi l];obtain⟨q,am⟩:∃q,e.kind=.charge q:=by cases j:e.kind with|charge q=>exact⟨q,rfl⟩|credit al=>rw[j]at l;exact absurd (by show¬(2:Int)=1;decide) l|overhead=>rw[j]at l;exact absurd (by show¬(3:Int)=1;decide) l
 have d:aB m r b h (if Vbbhal.leftOf b e<a then Vbbhal.no b 13 else if b.capE≤b.entries.length then Vbbhal.no b 8 else Vbbhal.yes (Vbbhal.addEntry b e.code (Vbbhal.monthOf b.today) (-a) (.credit e.num)) (Vbbhal.nextNum b) [[Vbbhal.leftOf b e-a]]) I:=by simp only[am]at d;exact d
 walk_at"a";refine⟨r,b,h,g,e,rfl,f,o,i.1,A,λbi p=>?_⟩;simp_all_arith[f.re.en,B,u,c.bw];by_cases O:Vbbhal.leftOf b e<a;·rw[Mj O]at d⊢;exact⟨by decide,d.one f rfl p⟩
 rw[Mi O]at d⊢;have C:=f.same p;have D:=C.tre.ob;unfold hf at D;walk_at"a";refine⟨r,b,h,rfl,C,?_⟩;simp_all_arith[f.re.en,B,u,c.bw];by_cases v:b.capE≤b.entries.length;·rw[Mj v]at d;rw[Mj v];exact⟨by decide,d.one f rfl p⟩
 rw[Mi v]at d;rw[Mi v];have E:=p _ _ u;simp_all_arith[D,E,c.az,c.bw];refine⟨tyL C.re.en,b.today,rfl,o.today.1,o.today.2,λbj F=>?_⟩;have an:=F _ _ E;simp_all_arith[an,c.bw];refine⟨by decide,λt Q y R ap ar bl=>?_⟩;walk_at"a";refine⟨y,R,N,t,2,_,-a,rfl,aj,λS av ax aA=>?_⟩;simp_all_arith[D,E,c.az,c.bw];obtain⟨T,aE⟩:=made ap ar ax aA;have G:au m S:=p.trans (F.trans ((au.new Q).trans T));have H:=f.same G;have aI:e.num=g.toNat:=by rw[o.ek _ _ A];lia
 have U:fM S y ⟨Vbbhal.nextNum b,e.code,Vbbhal.monthOf b.today,-a,.credit e.num⟩:=⟨R,N,t,av,G _ _ ah,by rw[T _ _ aj];show some (HO.tup [V.int g])=some (HO.tup [V.int (e.num:Int)]);rw[aI,show((g.toNat:Nat):Int)=g by lia]⟩;have aK:=H.ent U;have X:=aK.tre.ob;unfold hf at X;have bm:=o.elen;have bn:=o.capE;refine⟨_,H.re.en,by rw[Ln];exact bq (by lia),?_⟩;rw[show h.es.map V.ref++[V.ref y]=(h.es++[y]).map V.ref by simp];simp_all_arith[X,c.az];refine⟨by decide,λaM Y=>⟨_,aM,[Vbbhal.leftOf b e-a],rfl,.inl aj,by simp,λaN aP aR aT aU=>?_⟩⟩;refine d.A0 (e:=⟨Vbbhal.nextNum b,e.code,Vbbhal.monthOf b.today,-a,.credit e.num⟩) rfl rfl H G (λa0 e=>p.free (F.free ((au.new Q).free (aE a0 e)))) U aP aN ((au.new Y).trans aR) ((au.new Y).free aT) ?_;rw[aU,Ln,Kr,ac];rfl)
inductive Iw(K:PySem.W.Frag)(vs:List V)(H:Hp)(Q:VK)(E:XK):Prop|mk(p:Addr)(s:State)(h:HA)(d:Nat):vs=[.ref p,.int d]→aH H p s h→Good s→1≤d→(∀H' a,au H H'→SqT K H' a [.int (Vbbhal.primeAt s d).1,.int (Vbbhal.primeAt s d).2]→Q (.ref a) H')→Iw K vs H Q E
def vInt:V→Int|.int a=>a|_=>0
theorem DS{c f:Type}{d:c→f}:∀{b:List c},(b.map d).Nodup→∀{x y:c},x∈b→y∈b→d x=d y→x=y
 |[],_,_,_,g,_,_=>by cases g|a::b,nd,x,y,h,i,e=>by
  rw[LM,Ls]at nd;rcases LN.mp h with h1|h1<;>rcases LN.mp i with h2|h2;·rw[h1,h2]
  ·exact absurd (LX.mpr ⟨y,h2,by rw[←e,h1]⟩) nd.1
  ·exact absurd (LX.mpr ⟨x,h1,by rw[e,h2]⟩) nd.1
  ·exact DS nd.2 h1 h2 e
theorem zd{a:State}{b:Nat}(c:∀x∈a.primes,b<x.since):Vbbhal.primeAt a b=(480,1080):=by unfold Vbbhal.primeAt;rw[Rm.gk.mpr c]
theorem ze{a:State}(d:Good a){b:Nat}{x:Prime}(c:x∈a.primes)(e:x.since≤b)(f:∀y∈a.primes,y.since≤b→y.since≤x.since):Vbbhal.primeAt a b=(x.from_,x.to):=by unfold Vbbhal.primeAt;rw[Rm.tX c e f λy g h=>?_];have:=d.pk;exact DS this g c h
theorem nO(e:Tx):Oz "prime_hours_of" 1 ["house","day"] (Iw K):=by f_assign(
 have h:=e.dH.fs ["house","day","latest","since"];refine e.dH.ok h (by walk_at"l") (λaN aP aR aT aU L a0 a1 a2 Q R=>?_);obtain⟨M,S,a,b,rfl,c,i,a3,k⟩:=R;have T:=bN Q;obtain⟨U,X,Y⟩:=e.dX;have u:=c.tre.ob;unfold hf at u;obtain⟨B,C,N⟩:=perm_unmap c.prR;have Z:M≠a.aP:=fJ u c.pr nofun;refine⟨_,(ae (sT 2 h.nd (uA (G6 rfl) (by rfl) e.pS j4 (aa (z_ (hG rfl h.nd (mY (pe_fld (pv 0) rfl)) (bS (l:=[("since",3)]) h) (λ_ _ _ _ _=>gN 3 h.nd) (λ_ _ _ _ _=>(mV (pt_cmpR op_le (pv 3) (pv 1) (aD _)))) (λ_ _ _ _ _=>(pv 3)))) af) ao)) (ai (aq (bC T (pe_fld (pv 0) rfl) (pv 2) (aJ X) ⟨rfl,rfl,rfl,rfl⟩)))),?_⟩;simp_arith[u,e.az,CT,G5];refine⟨a.aP,_,c.pr,trivial,λD=>?_⟩;have ac:upd L a.aP (.frz D (.dK a.kP)) M=_:=(ak Z).trans u;simp_arith[uj,ac,e.az];refine⟨D,.inl ⟨a.kP,rfl,?_⟩⟩;refine nE (a.kP.map λx=>kV x.1) (λd=>decide (vInt d≤(b:Int))) id (λah j al m=>⟨m _ _ aj,by simpa using al⟩) (λj m=>⟨m _ _ aj,by simp⟩) (λah j x a4 m y=>?_) (by rw[Ln,gp c.prR];have:=i.plen;show _≤2^24;lia) (λx f j am an m E F=>?_) (λG n=>?_);·obtain⟨p,a5,d,ap,ar⟩:=y;exact⟨p,by rw[KL,ap,ar];rfl⟩
 ·obtain⟨y,v,rfl⟩:=LX.mp f;rw[N]at v;obtain⟨q,a6,rfl⟩:=LX.mp v;have E:decide ((q.since:Int)≤(b:Int))=true→an (.int q.since) j:=E;have F:decide ((q.since:Int)≤(b:Int))=false→am j:=F;show jP 3 (.int q.since) _ _ _;walk_at"rd";by_cases z:(q.since:Int)≤(b:Int);·rw[Mj z];exact E (LF z)
  ·rw[Mi z];exact F (Lx z)
 ·refine⟨?_,?_⟩;·rw[ak (λg=>by rw[←g,aj]at n;cases n),aj]
  have A:=oV c.pr (au.new n (o:=.lst ((((a.kP.map λx=>kV x.1).filter λd=>decide (vInt d≤(b:Int)))).map id)));have av:((((a.kP.map λx=>kV x.1).filter λd=>decide (vInt d≤(b:Int)))).map id)=((B.filter λx=>decide (x.since≤b)).map λx=>(x.since:Int)).map V.int:=by rw[N,L4,LV,List.filter_map,LV];congr 1;apply KI;intro x _;show decide ((x.since:Int)≤(b:Int))=decide (x.since≤b);apply Lf.mpr;lia
  have ax:G≠a.aP:=λg=>by rw[g,aj]at n;cases n
  refine⟨G,(B.filter λx=>decide (x.since≤b)).map λx=>(x.since:Int),rfl,SqL.of (by rw[ak ax,aj,av]),λd aA=>?_⟩;generalize upd (upd (upd L a.aP (.frz D (.dK a.kP))) G (.lst ((((a.kP.map λx=>kV x.1).filter λd=>decide (vInt d≤(b:Int)))).map id))) a.aP (.dK a.kP)=H at A⊢;have r:=c.same A;have O:=r.tre.ob;unfold hf at O;simp_arith[O,e.az];refine⟨.inl ⟨_,.inl r.pr⟩,?_⟩;rcases aA with⟨I,rfl⟩|⟨a7,rfl,aE,aI⟩
  · refine⟨bt a.kP (ki 0),.inl ⟨a.kP,ki 0,.inl r.pr,rfl,rfl⟩,?_⟩;have I:∀x∈S.primes,b<x.since:=λx f=>by
      rcases Nat.lt_or_ge b x.since with g|g;·exact g
      ·have:(x.since:Int)∈(B.filter λx=>decide (x.since≤b)).map λx=>(x.since:Int):=LX.mpr ⟨x,Lr.mpr ⟨C.mem_iff.mpr f,LF g⟩,rfl⟩;rw[I]at this;cases this
    have aK:bt a.kP (ki 0)=none:=by
     rw[Km.oU c.prR (An i),Kq.mpr];·rfl
     ·intro x f p;have:=cw (KU p);have:=(i.pb x f).1;lia
    rw[aK];have:=k H U A;rw[zd I]at this;exact this (Y H)
  ·obtain⟨x,f,p⟩:=LX.mp aE;obtain⟨s,J⟩:=Lr.mp f;have J:=KU J;have s:=C.mem_iff.mp s;subst p;refine⟨some (.ref (a.pa x.since)),.inl ⟨a.kP,ki x.since,.inl r.pr,rfl,?_⟩,?_⟩;·exact(qK (key:=λx:Prime=>ki x.since) (val:=λx=>V.ref (a.pa x.since)) c.prR (An i) s).symm
   ·have:=k H (a.pa x.since) A;rw[ze i s J (λy v aM=>?_)]at this;·exact this (SqT.of (r.prA x s))
    ·have:=aI (y.since:Int) (LX.mpr ⟨y,Lr.mpr ⟨C.mem_iff.mpr v,LF aM⟩,rfl⟩);lia)
inductive F8(vs:List V)(H:Hp)(Q:VK)(E:XK):Prop|mk(p:Addr)(s:State)(h:HA)(g d a b:Nat):vs=[.ref p,.int g,.int d,.int a,.int b]→aH H p s h→Good s→1≤d→a≤b→b≤1440→(∀H',au H H'→Q (.int (Vbbhal.minutesCost s g (b-a) ((d-1)*1440+a):Nat)) H')→F8 vs H Q E
theorem mE(c:Tx):Oz "cost_within_day" 3 ["house","grade","day","start","stop"] (F8):=by f_assign(
 have m:=c.dj.fs ["house","grade","day","start","stop","hours","prime","other"];refine c.dj.ok m (by walk_at"l") (λF G H I J L M N O j z=>?_);obtain⟨n,f,o,g,b,a,d,rfl,p,h,q,r,Q,k⟩:=z;refine⟨_,(ae (aG (pt_cmpR op_ge (ag (lY c) j (aa (pv 2) af)) ao (aD _)) (ai (aq (aS op_mul (aS op_sub (pv 4) (pv 3)) (ag (cJ c) j (aa (pv 0) (aa ao (aa ao (aa (pv 1) (aa (pv 2) af))))))))) aw) (ae (sT 5 m.nd (ag (nO c) j (aa (pv 0) (aa (pv 2) af)))) (ae (sT 6 m.nd (aF (fP rfl) (by rfl) c.pS j4 (aa ao (aa (aS op_sub (aF (ou rfl) (by rfl) c.AS vh (aa (pv 4) (aa (b0 oy (pv 5) ao (λ_ _=>rfl)) af))) (aF (fP rfl) (by rfl) c.pS j4 (aa (pv 3) (aa (b0 oy (pv 5) ao (λ_ _=>rfl)) af)))) af)))) (ae (sT 7 m.nd (aS op_sub (aS op_sub (pv 4) (pv 3)) (pv 6))) (ai (aq (aS op_add (aS op_mul (pv 6) (ag (cJ c) j (aa (pv 0) (aa ao (aa ao (aa (pv 1) (aa (pv 2) af))))))) (aS op_mul (pv 7) (ag (cJ c) j (aa (pv 0) (aa ao (aa ao (aa (pv 1) (aa (pv 2) af)))))))))))))),?_⟩;simp_arith[EK];have R:((Vbbhal.weekday b:Nat):Int)=((b:Int)-1)%7+1:=by unfold Vbbhal.weekday;omega
 have e:=Cm.within f g b q (d-a) a (by omega);rw[show a+(d-a)=d by omega]at e;have S:=Gm.gM h 1 1 g b;have T:=Gm.gM h 1 2 g b;have U:=Gm.gM h 1 3 g b;by_cases s:6≤((b:Int)-1)%7+1;·rw[Mj s];rw[Mj (by omega)]at e;refine⟨n,f,o,1,3,g,b,rfl,p,h,λu l=>⟨_,rfl,.inl ⟨by omega,by omega⟩,?_⟩⟩;have:=k u l;rw[e,Int.natCast_mul,Int.ofNat_sub r]at this;exact this
 ·rw[Mi s];rw[Mi (by omega)]at e;refine⟨n,f,o,b,rfl,p,h,q,λu v l x=>⟨v,rfl,_,x,_,at1,_,rfl,v,rfl,_,x,_,at0,_,rfl,?_⟩⟩;generalize(Vbbhal.primeAt f b).1=i at e⊢;generalize(Vbbhal.primeAt f b).2=pt at e⊢;have A:(if((if(pt:Int)<(d:Int)then(pt:Int)else(d:Int))-if(i:Int)>(a:Int)then(i:Int)else(a:Int))>0 then(if(pt:Int)<(d:Int)then(pt:Int)else(d:Int))-if(i:Int)>(a:Int)then(i:Int)else(a:Int)else 0)=((min d pt-max a i:Nat):Int):=by split<;>split<;>split<;>omega
  rw[A];generalize X:min d pt-max a i=B at e⊢;have C:B≤d-a:=by omega
  refine⟨n,f,o,1,1,g,b,rfl,p.same l,h,λY y=>⟨_,rfl,.inl ⟨by omega,by omega⟩,n,f,o,1,2,g,b,rfl,(p.same l).same y,h,λD E=>⟨_,rfl,.inl ⟨by omega,by omega⟩,?_⟩⟩⟩;have:=k D (l.trans (y.trans E));rw[e,Lh,Int.natCast_mul,Int.natCast_mul,Int.ofNat_sub C,Int.ofNat_sub r]at this;exact this)
inductive sG(F:State→Vbbhal.Work→Nat)(vs:List V)(H:Hp)(Q:VK)(E:XK):Prop|mk(p:Addr)(s:State)(h:HA)(x:Addr)(g d m n:Int)(q:Addr)(us:List Int):vs=[.ref p,.ref x]→aH H p s h→Good s→iC H x g d m n q us→Vbbhal.isWork g d m n=true→dz us=0→(∀H',au H H'→Q (.int (F s (Vbbhal.workOf g d m n us):Nat)) H')→sG F vs H Q E
theorem mF(j:Tx):Oz "cost_of_minutes" 4 ["house","work"] (sG λf w=>Vbbhal.minutesCost f w.cls w.minutes w.first):=by f_assign(
 have d:=j.dk.fs ["house","work","cost","day","start","left","stop"];refine j.dk.ok d (by walk_at"l") (λY Z ac ah al u am G an H m=>?_);obtain⟨v,f,I,x,g,l,n,o,ap,ar,rfl,J,L,W,M,av,k⟩:=m;obtain⟨⟨ax,z⟩,aA⟩:=id W;refine⟨_,(ae (sT 2 d.nd ao) (ae (sT 3 d.nd (pe_fld (pv 1) rfl)) (ae (sT 4 d.nd (pe_fld (pv 1) rfl)) (ae (sT 5 d.nd (pe_fld (pv 1) rfl)) (ae (jQ Lw (pt_cmpR op_gt (pv 5) ao (aD _)) (ae (sT 6 d.nd (aF (ou rfl) (by rfl) j.AS vh (aa (aS op_add (pv 4) (pv 5)) (aa (aJ j.fU) af)))) (ae (iz (i:=2) d.nd rfl (Or.inl rfl) (ag (mE j) H (aa (pv 0) (aa (pe_fld (pv 1) rfl) (aa (pv 3) (aa (pv 4) (aa (pv 6) af)))))) i6) (ae (iz (i:=5) d.nd rfl (Or.inl rfl) (aS op_sub (pv 6) (pv 4)) Ct) (ae (iz (i:=3) d.nd rfl (Or.inl rfl) ao i6) (ai (sT 4 d.nd ao))))))) (ai (aq (pv 2)))))))),?_⟩;simp_arith[z,j.fH];obtain⟨⟨aE,aI⟩,⟨aK,aM⟩,⟨N,aN⟩,O,aP⟩:=qM M;obtain⟨g,rfl⟩:=JF (show 0≤g by lia);obtain⟨l,rfl⟩:=JF (show 0≤l by lia);obtain⟨n,rfl⟩:=JF N;obtain⟨o,rfl⟩:=JF O;have k:∀h,au u h→G (.int (Vbbhal.minutesCost f g o ((l-1)*1440+n):Nat)) h:=k;obtain⟨p,s⟩:∃p:Nat→L2.St→Hp→Prop,p=λ(b:Nat)A h=>∃(q e a:Nat)(B:Option V),A=[some (V.ref v),some (V.ref x),some (V.int q),some (V.int e),some (V.int a),some (V.int (b:Nat)),B]∧au u h∧1≤e∧a<1440∧q+Vbbhal.minutesCost f g b ((e-1)*1440+a)=Vbbhal.minutesCost f g o ((l-1)*1440+n):=⟨_,rfl⟩;refine⟨p,⟨o,?_⟩,?_⟩;·rw[s];exact⟨0,l,n,none,rfl,au.refl _,by lia,by lia,by lia⟩
 ·rintro b A h m;rw[s]at m;obtain⟨q,e,a,B,rfl,r,Q,aR,C⟩:=m;have R:=r _ _ z;simp_arith[R,j.fH];by_cases D:(0:Int)<(b:Int)
  ·rw[Mj D];obtain⟨c,eb⟩:∃c:Nat,c=min (a+b) 1440:=⟨_,rfl⟩;have S:(if(1440:Int)<(a:Int)+(b:Int)then 1440 else(a:Int)+(b:Int))=(c:Int):=by split<;>lia
   rw[S];refine⟨λT h=>∃E,E<b∧p E T h,λ_ _ U=>U,v,f,I,g,e,a,c,rfl,J.same r,L,Q,by lia,by lia,λaT X=>⟨_,rfl,b-(c-a),by lia,?_⟩⟩;rw[s];refine⟨q+Vbbhal.minutesCost f g (c-a) ((e-1)*1440+a),e+1,0,some (V.int c),?_,r.trans X,by lia,by lia,?_⟩;·rw[show(b:Int)-((c:Int)-(a:Int))=((b-(c-a):Nat):Int)by lia,Lh,Lh];rfl
   ·rw[←C];have F:=Cm.pE f g (c-a) (b-(c-a)) ((e-1)*1440+a);rw[show c-a+(b-(c-a))=b by lia]at F;rw[F];by_cases y:c=1440;·rw[show(e+1-1)*1440+0=(e-1)*1440+a+(c-a)by lia];lia
    ·rw[show b-(c-a)=0 by lia];show _+0=_+(_+0);lia
  ·rw[Mi D];have:b=0:=by lia
   subst this;have:=k h r;rw[←C]at this;exact this)
theorem zf{c:List Int}(a:dz c=0):c.length=4∧∀b∈c,0≤b∧b≤1000000000:=by
 unfold dz at a;by_cases d:c.length≠4;·rw[Mj d]at a;cases a
 ·rw[Mi d]at a;by_cases e:(c.all λb=>Vbbhal.inside b 0 1000000000)=false;·rw[Mj e]at a;cases a
  ·exact⟨by lia,λb f=>Gm.aX.mp (K7.mp (Gm.tof e) b f)⟩
def BQ(b:State)(a:Vbbhal.Work)(c:Nat):Nat:=((List.range c).map λk=>a.units.getD k 0*Vbbhal.rateAt b (k+2) 0 a.cls (Vbbhal.lastDay a)).sum
theorem BR(c:State)(a:Vbbhal.Work)(b:Nat):BQ c a (b+1)=BQ c a b+a.units.getD b 0*Vbbhal.rateAt c (b+2) 0 a.cls (Vbbhal.lastDay a):=by unfold BQ;rw[List.range_succ,Lp,Lu];simp
theorem o7(c:Tx):Oz "cost_of_units" 3 ["house","work"] (sG Vbbhal.unitsCost):=by f_assign(
 have m:=c.el.fs ["house","work","cost","kind","number"];refine c.el.ok m (by walk_at"l") (λah al am an ap L ar av ax E a=>?_);obtain⟨F,n,M,x,b,e,f,g,N,d,rfl,O,Q,W,G,R,k⟩:=a;obtain⟨⟨aA,H⟩,B⟩:=id W;obtain⟨aE,S,r⟩:=c.bP;refine⟨_,(ae (sT 2 m.nd ao) (ae (bW Lw rfl (E8 rfl c.Gf (aa (aJ S) (aa (pe_fld (pv 1) rfl) af))) (ot rfl (cU (gN 3 m.nd) (cU (gN 4 m.nd) kW))) (ai (iz (i:=2) m.nd rfl (Or.inl rfl) (aS op_mul (pv 4) (ag (cJ c) E (aa (pv 0) (aa (pv 3) (aa ao (aa (pe_fld (pv 1) rfl) (aa (ag (lD c) E (aa (pv 1) af)) af))))))) i6))) (ai (aq (pv 2))))),?_⟩;simp_arith[H,c.fH,FZ];obtain⟨aI,T⟩:=zf R;obtain⟨⟨aK,aM⟩,⟨aN,aP⟩,⟨aR,aT⟩,aU,a0⟩:=qM G;refine⟨⟨_,r _⟩,⟨_,SqT.of B⟩,?_⟩;obtain⟨C,p⟩:∃C:Nat→L2.St→Hp→Prop,C=λi q h=>∃s u,q=[some (V.ref F),some (V.ref x),some (V.int (BQ n (Vbbhal.workOf b e f g d) i:Nat)),s,u]∧au L h:=⟨_,rfl⟩;refine nB 4 C ?_ ?_ ?_ ?_ ?_;·rw[p];exact⟨none,none,rfl,au.refl _⟩
 ·rintro i q h I a;rw[p]at a;obtain⟨s,u,rfl,j⟩:=a;refine⟨_,_,_,_,r _,SqT.of (j _ _ B),JA (show i<4 from I),JA (by rw[Ln];lia)⟩
 ·rintro q h a;exact⟨_,r _,L6 _⟩
 · rintro i y q h H'' I a⟨t,a1,a2,rfl,ht,rfl,D,v⟩;rw[p]at a;obtain⟨s,u,rfl,j⟩:=a;have D:=D _ (r _);have v:=v _ (SqT.of (j _ _ B));have A:=j.trans (au.new ht (o:=.tup [a1,a2]));have U:=A _ _ H;refine⟨t,_,rfl,SqT.of aj,rfl,?_⟩;simp_arith[mP,wD,U,c.fH];obtain rfl:a1=.int ((i+2:Nat):Int):=by
     have:i=0∨i=1∨i=2∨i=3:=by lia
     rcases this with z|z|z|z<;>(subst z;exact(Lv D).symm)
   rw[KL]at v;obtain⟨l,J,rfl⟩:=JQ.mp v;obtain⟨X,a3⟩:=T l (J_ J);obtain⟨l,rfl⟩:=JF X;have Y:(Vbbhal.workOf b e f g d).units.getD i 0=l:=by show(d.map Int.toNat).getD i 0=l;rw[Jt,KL,J];rfl
   refine⟨x,b,e,f,g,N,d,rfl,W.same A,G,F,n,M,i+2,0,b.toNat,Vbbhal.lastDay (Vbbhal.workOf b e f g d),by rw[show((b.toNat:Nat):Int)=b by lia];rfl,O.same A,Q,λa4 Z=>⟨_,rfl,_,rfl,.inl ⟨by lia,by lia⟩,?_⟩⟩;rw[p];refine⟨some (V.int ((i+2:Nat):Int)),some (V.int (l:Int)),?_,A.trans Z⟩;have ac:((BQ n (Vbbhal.workOf b e f g d) (i+1):Nat):Int)=(BQ n (Vbbhal.workOf b e f g d) i:Nat)+(l:Int)*(Vbbhal.rateAt n (i+2) 0 b.toNat (Vbbhal.lastDay (Vbbhal.workOf b e f g d)):Nat):=by rw[BR,Y,Lh,Int.natCast_mul];rfl
   rw[ac]
 ·rintro q h a;rw[p]at a;obtain⟨s,u,rfl,j⟩:=a;walk_at"rd";exact k h j)
theorem iT(a:Tx):Oz "exact_cost_of" 5 ["house","work"] (sG Vbbhal.exactCost):=by f_assign(have r:=a.eu.fs ["house","work"];refine a.eu.ok r (by walk_at"l") (λy z A B C D E F G c s=>?_);obtain⟨d,e,f,x,g,h,i,j,l,m,rfl,n,o,W,p,q,k⟩:=s;refine⟨_,(ai (aq (aS op_add (ag (mF a) c (aa (pv 0) (aa (pv 1) af))) (ag (o7 a) c (aa (pv 0) (aa (pv 1) af)))))),?_⟩;walk_at"rd";refine⟨d,e,f,x,g,h,i,j,l,m,rfl,n,o,W,p,q,λH b=>⟨d,e,f,x,g,h,i,j,l,m,rfl,n.same b,o,W.same b,p,q,λu v=>⟨_,rfl,_,rfl,?_⟩⟩⟩;have:=k u (b.trans v);unfold Vbbhal.exactCost at this;rw[Lh]at this;exact this)
theorem pQ(a:Tx):Oz "price_of" 6 ["house","work"] (sG Vbbhal.price):=by f_assign(have c:=a.ji.fs ["house","work"];refine a.ji.ok c (by walk_at"l") (λv y z A B C D E F b d=>?_);obtain⟨e,f,g,x,h,i,j,l,m,n,rfl,o,p,W,q,r,k⟩:=d;refine⟨_,(ai (aq (ag (eY a) b (aa (ag (iT a) b (aa (pv 0) (aa (pv 1) af))) af)))),?_⟩;walk_at"rd";refine⟨e,f,g,x,h,i,j,l,m,n,rfl,o,p,W,q,r,λs u=>⟨_,rfl,?_⟩⟩;exact k s u)
inductive AA(vs:List V)(H:Hp)(Q:VK)(E:XK):Prop|mk(p:Addr)(s:State)(h:HA)(x:Addr)(g d m n:Int)(q:Addr)(us:List Int):vs=[.ref p,.ref x]→aH H p s h→Good s→iC H x g d m n q us→(aB H p s h (Vbbhal.step s (.price g d m n us)) Q)→AA vs H Q E
theorem qh(b:Tx):Oz "answer_price" 7 ["house","work"] (AA):=by f_assign(
 have u:=b.fA.fs ["house","work","refusal"];refine b.fA.ok u (by walk_at"l") (λO Q R S T v U E X l F=>?_);obtain⟨n,i,o,x,d,e,f,g,m,c,rfl,j,y,W,a⟩:=F;obtain⟨⟨Y,z⟩,G⟩:=id W;refine⟨_,(ae (aG (ba (pt_val (ag (gq b) l (aa (pv 1) af)))) (ai (aq (aC (aa (aJ b.aN) af)))) aw) (ae (sT 2 u.nd (ag (gB b) l (aa (pe_fld (pv 1) rfl) af))) (ae (aG (pt_cmpR op_lt (pv 2) ao (aD _)) (ai (aq (aC (aa (pv 2) af)))) aw) (ai (aq (ag (bx b) l (aa ao (aa (aC (aa (ag (pQ b) l (aa (pv 0) (aa (pv 1) af))) (aa (ag (iT b) l (aa (pv 0) (aa (pv 1) af))) af))) af)))))))),?_⟩;simp_arith[z,b.fH];have a:aB v n i o (Vbbhal.doPrice i d e f g c) E:=a;unfold Vbbhal.doPrice at a;refine⟨x,d,e,f,g,m,c,rfl,W,_,rfl,?_⟩;by_cases p:Vbbhal.isWork d e f g=false;·rw[Mj p]at a⊢;exact⟨by decide,a.one j rfl (au.refl v)⟩
 rw[Mi p]at a⊢;simp_arith[z,b.fH];refine⟨m,c,rfl,G,λZ h=>⟨_,rfl,?_⟩⟩;unfold dz;by_cases q:c.length≠4;·rw[Mj q]at a⊢;rw[Mj (by decide)];exact⟨by decide,a.one j rfl h⟩
 rw[Mi q]at a⊢;by_cases r:(c.all λH=>Vbbhal.inside H 0 1000000000)=false;·rw[Mj r]at a⊢;rw[Mj (by decide)];exact⟨by decide,a.one j rfl h⟩
 rw[Mi r]at a⊢;rw[Mi (by decide)];have A:=Gm.tof p;have B:dz c=0:=by unfold dz;rw[Mi q,Mi r]
 refine⟨n,i,o,x,d,e,f,g,m,c,rfl,j.same h,y,W.same h,A,B,λac s=>⟨n,i,o,x,d,e,f,g,m,c,rfl,(j.same h).same s,y,(W.same h).same s,A,B,λah I=>⟨by decide,λJ C=>?_⟩⟩⟩;have D:=h.trans (s.trans I);refine⟨0,J,[(Vbbhal.price i (Vbbhal.workOf d e f g c):Int),(Vbbhal.exactCost i (Vbbhal.workOf d e f g c):Int)],rfl,.inl aj,by simp,λal am L M N=>?_⟩;exact a.read j (D.trans ((au.new C).trans L)) (D.free ((au.new C).free M)) N)
def ir(a:State)(c d e f:Int)(g:Bytes)(b:List Int):Int:=if Vbbhal.isWork c d e f=false then-1 else if Vbbhal.isCode g=false then-2 else if dz b<0 then dz b else if a.today<Vbbhal.lastDay (Vbbhal.workOf c d e f b)then-12 else if(Vbbhal.accountAt a g).isNone=true then-4 else if a.capE≤a.entries.length then-8 else 0
inductive DT(vs:List V)(H:Hp)(Q:VK)(E:XK):Prop|mk(p:Addr)(s:State)(h:HA)(x:Addr)(g d m n:Int)(q:Addr)(us:List Int)(qc:Addr)(c:Bytes):vs=[.ref p,.ref x,.ref qc]→aH H p s h→Good s→iC H x g d m n q us→H qc=some (.tup (cv c))→(∀H',au H H'→Q (.int (ir s g d m n c us)) H')→DT vs H Q E
theorem ku(b:Tx):Oz "refusal_of_charge" 4 ["house","work","code"] (DT):=by f_assign(
 have y:=b.cD.fs ["house","work","code","refusal"];refine b.cD.ok y (by walk_at"l") (λR S T U X A Y Z ac c F=>?_);obtain⟨G,e,H,x,i,j,l,m,q,f,ah,r,rfl,I,J,W,B,k⟩:=F;obtain⟨⟨al,am⟩,an⟩:=id W;have L:=bN c;refine⟨_,(ae (aG (ba (pt_val (ag (gq b) c (aa (pv 1) af)))) (ai (aq (aJ b.aN))) aw) (ae (aG (ba (pt_val (ag (gR b) c (aa (pv 2) af)))) (ai (aq (aJ b.cT))) aw) (ae (sT 3 y.nd (ag (gB b) c (aa (pe_fld (pv 1) rfl) af))) (ae (aG (pt_cmpR op_lt (pv 3) ao (aD _)) (ai (aq (pv 3))) aw) (ae (aG (pt_cmpR op_gt (ag (lD b) c (aa (pv 1) af)) (pe_fld (pv 0) rfl) (aD _)) (ai (aq (aJ b.jt))) aw) (ae (aG (rg (oE L (pv 2) (pe_fld (pv 0) rfl))) (ai (aq (aJ b.dA))) aw) (ae (aG (pt_val (ag (mC b) c (aa (pv 0) af))) (ai (aq (aJ b.fV))) aw) (ai (aq ao))))))))),?_⟩;walk_at"go";unfold ir at k;walk_at"a";refine⟨x,i,j,l,m,q,f,rfl,W,?_⟩;walk_at"go";by_cases g:Vbbhal.isWork i j l m=false;·rw[Mj g];have:=k A (au.refl A);rw[Mj g]at this;exact this
 rw[Mi g];rw[Mi g]at k;walk_at"a";refine⟨r,B,λM d=>?_⟩;walk_at"go";have N:=I.same d;have C:=W.same d;obtain⟨⟨ap,s⟩,O⟩:=id C;by_cases n:Vbbhal.isCode r=false;·rw[Mj n];have:=k M d;rw[Mj n]at this;exact this
 rw[Mi n];rw[Mi n]at k;simp_all_arith[s,b.fH];walk_at"a";refine⟨q,f,rfl,O,λD h=>?_⟩;simp_all_arith[s,b.fH];by_cases o:dz f<0;·rw[Mj o];have:=k D (d.trans h);rw[Mj o]at this;exact this
 rw[Mi o];rw[Mi o]at k;have u:=N.same h;have Q:=C.same h;have v:=u.tre.ob;unfold hf at v;walk_at"a";refine⟨x,i,j,l,m,q,f,rfl,Q,Gm.tof g,?_⟩;simp_all_arith[s,b.fH];simp_all_arith[v,b.az];have k:=k D (d.trans h);by_cases E:e.today<Vbbhal.lastDay (Vbbhal.workOf i j l m f);·rw[Mj E]at k;rw[Mj (by lia)];exact k
 rw[Mi E]at k;rw[Mi (by lia)];refine⟨_,eK u.tre J (h _ _ (d _ _ B)),?_⟩;cases z:Vbbhal.accountAt e r with|none=>rw[z]at k;exact k|some a=>
  rw[z]at k;walk_at"a";refine⟨G,e,H,rfl,u,?_⟩;simp_all_arith[v,b.az];by_cases p:e.capE≤e.entries.length;·rw[Mj p];rw[Mi (by simp),Mj p]at k;exact k
  ·rw[Mi p];rw[Mi (by simp),Mi p]at k;exact k)
theorem BS{b:State}{d e f g:Int}{h:Bytes}{c:List Int}(a:ir b d e f g h c<0):Vbbhal.doCharge b d e f g h c=(b,{num:=ir b d e f g h c}):=by f_assign(
 unfold ir dz at*;unfold Vbbhal.doCharge;by_cases l:Vbbhal.isWork d e f g=false;·rw[Mj l,Mj l];rfl
 rw[Mi l]at a⊢;rw[Mi l];by_cases m:Vbbhal.isCode h=false;·rw[Mj m,Mj (.inl m)];rfl
 rw[Mi m]at a⊢;by_cases n:c.length≠4;·rw[Mj (.inr n)];simp only[if_pos n];rfl
 rw[Mi (by rintro(p|p);exact m p;exact n p)];simp only[if_neg n]at a⊢;by_cases o:(c.all λr=>Vbbhal.inside r 0 1000000000)=false;·rw[Mj o];simp only[if_pos o];rfl
 rw[Mi o];simp only[if_neg o]at a⊢;rw[Mi (by decide)]at a;rw[Mi (show¬(0:Int)<0 by decide)];by_cases i:b.today<Vbbhal.lastDay (Vbbhal.workOf d e f g c);·rw[Mj i,Mj i];rfl
 rw[Mi i]at a;rw[Mi i,Mi i];by_cases j:(Vbbhal.accountAt b h).isNone=true;·rw[Mj j,Mj j];rfl
 rw[Mi j]at a;rw[Mi j,Mi j];by_cases q:b.capE≤b.entries.length;·rw[Mj q,Mj q];rfl
 rw[Mi q]at a;exact absurd a (by decide))
theorem zg{d:State}{f g h i:Int}{l:Bytes}{e:List Int}(c:¬ir d f g h i l e<0):Vbbhal.isWork f g h i=true∧dz e=0∧¬d.today<Vbbhal.lastDay (Vbbhal.workOf f g h i e)∧d.entries.length<d.capE∧Vbbhal.doCharge d f g h i l e=Vbbhal.yes {Vbbhal.addEntry d l (max d.closed (Vbbhal.monthOf (Vbbhal.lastDay (Vbbhal.workOf f g h i e)))) (Vbbhal.price d (Vbbhal.workOf f g h i e)) (.charge (Vbbhal.workOf f g h i e))with last:=max d.last (Vbbhal.lastDay (Vbbhal.workOf f g h i e))} (Vbbhal.nextNum d) [[(Vbbhal.price d (Vbbhal.workOf f g h i e):Int),(max d.closed (Vbbhal.monthOf (Vbbhal.lastDay (Vbbhal.workOf f g h i e))):Nat)]]:=by f_assign(
 unfold ir at c;unfold Vbbhal.doCharge;by_cases o:Vbbhal.isWork f g h i=false;·rw[Mj o]at c;exact absurd (by decide) c
 rw[Mi o]at c⊢;by_cases p:Vbbhal.isCode l=false;·rw[Mj p]at c;exact absurd (by decide) c
 rw[Mi p]at c;by_cases j:dz e<0;·rw[Mj j]at c;exact absurd j c
 rw[Mi j]at c;have m:dz e=0:=by
  unfold dz at j⊢;split at j;·exact absurd (by decide) j
  ·split at j;·exact absurd (by decide) j
   ·rename_i a b;rw[Mi a,Mi b]
 obtain⟨v,x⟩:=zf m;have y:¬(e.all λq=>Vbbhal.inside q 0 1000000000)=false:=by rw[K7.mpr λq m=>Gm.aX.mpr (x q m)];decide
 rw[Mi (by rintro(r|r);exact p r;exact r v),Mi y];by_cases n:d.today<Vbbhal.lastDay (Vbbhal.workOf f g h i e);·rw[Mj n]at c;exact absurd (by decide) c
 rw[Mi n]at c;by_cases s:(Vbbhal.accountAt d l).isNone=true;·rw[Mj s]at c;exact absurd (by decide) c
 rw[Mi s]at c;by_cases u:d.capE≤d.entries.length;·rw[Mj u]at c;exact absurd (by decide) c
 refine⟨Gm.tof o,m,n,by lia,?_⟩;show(if _ then _ else _:State×Ans)=_;rw[Mi n,Mi s,Mi u])
inductive xG(vs:List V)(H:Hp)(Q:VK)(E:XK):Prop|mk(p:Addr)(s:State)(h:HA)(x:Addr)(g d m n:Int)(q:Addr)(us:List Int)(qc:Addr)(c:Bytes):vs=[.ref p,.ref x,.ref qc]→aH H p s h→Good s→iC H x g d m n q us→H qc=some (.tup (cv c))→(aB H p s h (Vbbhal.step s (.charge g d m n c us)) Q)→xG vs H Q E
theorem o8(g:Tx):Oz "answer_charge" 7 ["house","work","code"] (xG):=by f_assign(
 have p:=g.eC.fs ["house","work","code","refusal","amount","month","details"];refine g.eC.ok p (by walk_at"l") (λH co cp cr cs S ct aP cL l aR=>?_);obtain⟨y,f,h,x,c,a,b,d,q,e,I,z,rfl,i,A,W,T,m⟩:=aR;refine⟨_,(ae (sT 3 p.nd (ag (ku g) l (aa (pv 0) (aa (pv 1) (aa (pv 2) af))))) (ae (aG (pt_cmpR op_lt (pv 3) ao (aD _)) (ai (aq (aC (aa (pv 3) af)))) aw) (ae (sT 4 p.nd (ag (pQ g) l (aa (pv 0) (aa (pv 1) af)))) (ae (sT 5 p.nd (aF (fP rfl) (by rfl) g.pS j4 (aa (ag (dw g) l (aa (ag (lD g) l (aa (pv 1) af)) af)) (aa (pe_fld (pv 0) rfl) af)))) (ae (sT 6 p.nd (aS EI (fQ (aa (pe_fld (pv 1) rfl) (aa (pe_fld (pv 1) rfl) (aa (pe_fld (pv 1) rfl) (aa (pe_fld (pv 1) rfl) af))))) (pe_fld (pv 1) rfl))) (ae (de (iG JH JB JC dE (pe_fld (pv 0) rfl) (aa (gP (sD g) l (aa (aJ g.xW) (aa (pv 2) (aa (pv 5) (aa (pv 4) (aa (pv 6) af)))))) af))) (ae (bf (pv 0) (aF (fP rfl) (by rfl) g.pS j4 (aa (pe_fld (pv 0) rfl) (aa (ag (lD g) l (aa (pv 1) af)) af))) rfl) (ai (aq (ag (bx g) l (aa (aF bF (by rfl) g.bT bh (aa (pe_fld (pv 0) rfl) af)) (aa (aC (aa (pv 4) (aa (pv 5) af))) af)))))))))))),?_⟩;walk_at"go";have m:aB S y f h (Vbbhal.doCharge f c a b d z e) aP:=m;refine⟨y,f,h,x,c,a,b,d,q,e,I,z,rfl,i,A,W,T,λcT B=>?_⟩;walk_at"go";by_cases C:ir f c a b d z e<0;·rw[Mj C];rw[BS C]at m;exact⟨by decide,m.one i rfl B⟩
 rw[Mi C];obtain⟨D,U,c0,c1,aT⟩:=zg C;rw[aT]at m;refine⟨y,f,h,x,c,a,b,d,q,e,rfl,i.same B,A,W.same B,D,U,λc2 aU=>?_⟩;have J:=B.trans aU;have c3:=i.same J;have a0:=W.same J;walk_at"go";refine⟨x,c,a,b,d,q,e,rfl,a0,D,?_⟩;walk_at"go";have a1:1≤Vbbhal.lastDay (Vbbhal.workOf c a b d e):=by unfold Vbbhal.lastDay Vbbhal.dayOfMinute;lia
 have a2:Vbbhal.lastDay (Vbbhal.workOf c a b d e)≤365243:=by have:=A.today.2;lia
 refine⟨_,rfl,a1,a2,λE a3=>?_⟩;have L:=J.trans a3;have a4:=i.same L;have a5:=W.same L;obtain⟨⟨c4,X⟩,a6⟩:=id a5;have Y:=a4.tre.ob;unfold hf at Y;simp_all_arith[Y,X,g.az,g.fH];refine⟨by decide,λt a7=>?_⟩;have M:au E (upd E t (.tup [.int c,.int a,.int b,.int d])):=au.new a7;have a8:=M _ _ X;simp_all_arith[a8,g.fH,FP];obtain⟨Z,a9⟩:=zf U;refine⟨_,SqT.of aj,_,SqT.of (M _ _ a6),by simp,by rw[Ln,Z];show 8≤2^24;decide,λr=>absurd (Me List.length r) (by rw[Ln,Z];decide),λ_ s bd=>?_⟩;have ac:=M.trans (au.new bd (o:=.tup ([.int c,.int a,.int b,.int d]++e.map V.int)));have ah:upd (upd E t (.tup [.int c,.int a,.int b,.int d])) s (.tup ([.int c,.int a,.int b,.int d]++e.map V.int)) s=_:=aj;generalize upd (upd E t (.tup [.int c,.int a,.int b,.int d])) s (.tup ([.int c,.int a,.int b,.int d]++e.map V.int))=c5 at ac ah⊢;have al:=L.trans ac;have am:=i.same al;have an:=am.tre.ob;unfold hf at an;simp_all_arith[an,g.az];refine⟨tyL am.re.en,λj ap bi bj c6=>⟨j,ap,I,s,1,_,_,rfl,aj,λF ar bl bm=>⟨rfl,?_⟩⟩⟩;obtain⟨av,c7⟩:=made bi bj bl bm;have u:=al.trans av;have G:=i.same u;obtain⟨⟨c9,da⟩,⟨db,dd⟩,⟨dn,dr⟩,ds,dx⟩:=qM D;have bn:(if(f.closed:Int)>(Vbbhal.monthOf (Vbbhal.lastDay (Vbbhal.workOf c a b d e)):Int)then(f.closed:Int)else(Vbbhal.monthOf (Vbbhal.lastDay (Vbbhal.workOf c a b d e)):Int))=((max f.closed (Vbbhal.monthOf (Vbbhal.lastDay (Vbbhal.workOf c a b d e))):Nat):Int):=by split<;>lia
 rw[bn]at ar⊢;have bv:(Vbbhal.kindRow (.charge (Vbbhal.workOf c a b d e))).map V.int=[.int c,.int a,.int b,.int d]++e.map V.int:=by
  have bP:(((Vbbhal.workOf c a b d e).cls:Nat):Int)=c:=by show((c.toNat:Nat):Int)=c;lia
  have bT:((Vbbhal.dayOfMinute (Vbbhal.workOf c a b d e).first:Nat):Int)=a:=by show(((((a.toNat-1)*1440+b.toNat)/1440+1:Nat)):Int)=a;lia
  have b1:(((Vbbhal.workOf c a b d e).first%1440:Nat):Int)=b:=by show(((((a.toNat-1)*1440+b.toNat)%1440:Nat)):Int)=b;lia
  have b2:(((Vbbhal.workOf c a b d e).minutes:Nat):Int)=d:=by show((d.toNat:Nat):Int)=d;lia
  have b3:(Vbbhal.workOf c a b d e).units.map Int.ofNat=e:=by show(e.map Int.toNat).map Int.ofNat=e;rw[LV];refine(Kh λN b4=>?_).trans (L4 e);have:=a9 N b4;show((N.toNat:Nat):Int)=N;lia
  show([((Vbbhal.workOf c a b d e).cls:Int),(Vbbhal.dayOfMinute (Vbbhal.workOf c a b d e).first:Int),(((Vbbhal.workOf c a b d e).first%1440:Nat):Int),((Vbbhal.workOf c a b d e).minutes:Int)]++(Vbbhal.workOf c a b d e).units.map Int.ofNat).map V.int=_;rw[bP,bT,b1,b2,b3,Lp];rfl
 obtain⟨v,ax⟩:∃v:Vbbhal.Entry,v=⟨Vbbhal.nextNum f,z,max f.closed (Vbbhal.monthOf (Vbbhal.lastDay (Vbbhal.workOf c a b d e))),Vbbhal.price f (Vbbhal.workOf c a b d e),.charge (Vbbhal.workOf c a b d e)⟩:=⟨_,rfl⟩;have b5:fM F j v:=by rw[ax];refine⟨ap,I,s,ar,u _ _ T,?_⟩;rw[bv];exact av _ _ ah
 have aA:=G.ent b5;have O:=aA.tre.ob;unfold hf at O;have dy:=A.capE;have b6:=i.re.enA.len;walk_at"go";refine⟨_,G.re.en,by rw[Ln];exact bq (by lia),?_⟩;rw[show h.es.map V.ref++[V.ref j]=(h.es++[j]).map V.ref by simp];simp_all_arith[O,g.az];have b7:=W.same u;have b8:iC (upd F h.aE (.lst ((h.es++[j]).map V.ref))) x c a b d q e:=by obtain⟨⟨b9,aE⟩,aI⟩:=b7;exact⟨⟨b9,by rw[ak (fJ aE G.re.en nofun)];exact aE⟩,by rw[ak (fJ aI G.re.en nofun)];exact aI⟩
 refine⟨x,c,a,b,d,q,e,rfl,b8,D,?_⟩;have ca:(if((Vbbhal.lastDay (Vbbhal.workOf c a b d e):Nat):Int)>(f.last:Int)then((Vbbhal.lastDay (Vbbhal.workOf c a b d e):Nat):Int)else(f.last:Int))=((max f.last (Vbbhal.lastDay (Vbbhal.workOf c a b d e)):Nat):Int):=by split<;>lia
 simp_all_arith[O,g.az];rw[ca];have aK:=aA.num (s':={f with entries:=f.entries++[v],last:=max f.last (Vbbhal.lastDay (Vbbhal.workOf c a b d e))}) rfl rfl rfl rfl rfl rfl (L6 _);refine⟨_,aK.re.en,by decide,λaM Q=>?_⟩;have Q:upd (upd F h.aE (.lst ((h.es++[j]).map V.ref))) y (.ins CH h.dp (hf {f with entries:=f.entries++[v],last:=max f.last (Vbbhal.lastDay (Vbbhal.workOf c a b d e))} {h with es:=h.es++[j]})) aM=none:=Q;refine⟨_,aM,[(Vbbhal.price f (Vbbhal.workOf c a b d e):Int),((max f.closed (Vbbhal.monthOf (Vbbhal.lastDay (Vbbhal.workOf c a b d e))):Nat):Int)],rfl,.inl aj,by simp,λcc cd ce ch cj=>?_⟩;have aN:=(au.new Q (o:=.lst ([(Vbbhal.price f (Vbbhal.workOf c a b d e):Int),((max f.closed (Vbbhal.monthOf (Vbbhal.lastDay (Vbbhal.workOf c a b d e))):Nat):Int)].map V.int))).trans ce;have cl:∀n,F n=none→S n=none:=λn R=>u.free R;refine m cc {h with es:=h.es++[j]} cd ?_ (λn o R H=>aN _ _ ?_) (λn cm=>.inl (xE (by rfl) ⟨rfl,rfl,rfl,rfl,rfl,rfl,rfl,rfl⟩ n cm)) ?_ ?_;·have:=aK.same aN;rw[ax]at this;exact this
 ·rw[ak λr=>H (.inl r),ak λr=>H (.inr (.inr (.inr (.inr (.inr (.inl r))))))];exact u _ _ R
 ·exact cl _ (aW (aW (aW ch).1).1).1
 ·rw[cj,Ln,Kr,b6];rfl)
def kC(b:Nat)(c:Bytes)(d:List Vbbhal.Entry):List Int:=(d.filter λa=>a.month==b&&a.code==c).map λa=>(a.num:Int)
theorem sH(b:Nat)(c:Bytes)(f:List Vbbhal.Entry)(a:Vbbhal.Entry):kC b c (f++[a])=kC b c f++if a.month=b∧a.code=c then[(a.num:Int)]else[]:=by
 unfold kC;rw[Ko,Lp];by_cases d:a.month=b∧a.code=c;·simp[d.1,d.2]
 ·rw[Mi d];by_cases e:a.month=b;·have:¬a.code=c:=λw=>d ⟨e,w⟩;simp[e,this]
  ·simp[e]
inductive DU(vs:List V)(H:Hp)(Q:VK)(E:XK):Prop|mk(p:Addr)(s:State)(h:HA)(m:Nat)(q:Addr)(c:Bytes):vs=[.ref p,.int m,.ref q]→aH H p s h→Good s→H q=some (.tup (cv c))→(∀H' l,au H H'→H l=none→H' l=some (.lst ((kC m c s.entries).map V.int))→Q (.ref l) H')→DU vs H Q E
theorem tP(l:Tx):Oz "numbers_of" 1 ["house","month","code"] (DU):=by f_assign(
 have u:=l.gD.fs ["house","month","code","numbers","place","entry"];refine l.gD.ok u (by walk_at"l") (λan ap ar av ax Q aA aE aI R a=>?_);obtain⟨J,v,S,f,E,i,rfl,j,F,T,k⟩:=a;have U:=Ax R;refine⟨_,(ae (sT 3 u.nd (aC af)) (ae (bW Lw rfl (Ab rfl l.kK (aa (pe_fld (pv 0) rfl) af)) (ot rfl (cU (gN 4 u.nd) (cU (gN 5 u.nd) kW))) (ai (aG (PW.pt (cq (pt_cmpR bg (pe_fld (pv 5) rfl) (pv 1) (aD _)) (bZ (pt_cmpR (yS U) (pe_fld (pv 5) rfl) (pv 2) (aD _))))) (ai (de (iG JH JB JC dE (pv 3) (aa (aS op_add (pv 4) ao) af)))) aw))) (ai (aq (pv 3))))),?_⟩;walk_at"rd";refine⟨by decide,λm z=>?_⟩;have L:=j.same (au.new z (o:=.lst []));have M:=L.tre.ob;unfold hf at M;have X:=j.re.enA.len;simp_arith[M,l.az,Aa];refine⟨⟨_,SqL.of L.re.en⟩,?_⟩;obtain⟨A,g⟩:∃A:Nat→L2.St→Hp→Prop,A=λb n d=>∃p q,n=[some (V.ref J),some (V.int f),some (V.ref E),some (V.ref m),p,q]∧au Q d∧d m=some (.lst ((kC f i (v.entries.take b)).map V.int)):=⟨_,rfl⟩;refine nB S.es.length A ?_ ?_ ?_ ?_ ?_;·rw[g];exact⟨none,none,rfl,au.new z,aj⟩
 ·rintro b n d N a;rw[g]at a;obtain⟨p,q,rfl,e,c⟩:=a;exact⟨_,_,SqL.of (e _ _ j.re.en),JA (by rw[Ln];exact N)⟩
 ·rintro n d a;rw[g]at a;obtain⟨p,q,rfl,e,c⟩:=a;exact⟨_,SqL.of (e _ _ j.re.en),by rw[Ln];exact L6 _⟩
 ·rintro b y n d H'' N a⟨t,x,rfl,ht,rfl,B⟩;rw[g]at a;obtain⟨p,q,rfl,e,c⟩:=a;have B:=B _ (SqL.of (e _ _ j.re.en));rw[KL]at B;obtain⟨C,Y,rfl⟩:=JQ.mp B;obtain⟨r,G,aK,Z,aM,ac,ah,aN⟩:=j.re.enA.get Y;have s:=e.trans (au.new ht (o:=.tup [.int (b:Nat),.ref C]));have al:=s _ _ ac;have H:upd d t (.tup [.int (b:Nat),.ref C]) m=_:=(ak (ay c ht)).trans c;refine⟨t,_,rfl,SqT.of aj,rfl,?_⟩;generalize upd d t (.tup [.int (b:Nat),.ref C])=am at*;simp_arith[mP,wD,al,l.bw];have O:¬(r.month=f∧r.code=i)→A (b+1) [some (V.ref J),some (V.int f),some (V.ref E),some (V.ref m),some (V.int b),some (V.ref C)] am:=λh=>by rw[g];refine⟨_,_,rfl,s,?_⟩;rw[take_snoc G,sH,Mi h,Lj];exact H
  by_cases I:(r.month:Int)=(f:Int)
  ·rw[Mj I];refine⟨Z,E,ci r.code,ci i,rfl,rfl,by rw[bO];exact s _ _ ah,by rw[bO];exact s _ _ T,_,rfl,?_⟩;by_cases D:r.code=i
   ·rw[Mj (by rw[D];exact LF rfl)];have aP:(kC f i (v.entries.take b)).length≤500:=by unfold kC;rw[Ln];have aR:=JV (λc:Vbbhal.Entry=>c.month==f&&c.code==i) (v.entries.take b);have aT:=List.length_take_le b v.entries;have aU:=F.elen;have a0:=F.capE;lia
    refine⟨tyL H,_,H,by rw[Ln];exact bq (by lia),?_⟩;rw[g];refine⟨_,_,rfl,λa1 a2 eb=>?_,?_⟩;·rw[ak (ay eb z)];exact s _ _ eb
    ·rw[aj,take_snoc G,sH,Mj ⟨by lia,D⟩,Lp,F.ek _ _ G];rfl
   ·rw[Mi (λh=>D (vG (KU h)))];exact O λh=>D h.2
  ·rw[Mi I];exact O λh=>I (by rw[h.1])
 ·rintro n d a;rw[g]at a;obtain⟨p,q,rfl,e,c⟩:=a;walk_at"rd";rw[X,Lb]at c;exact k d m e z c)
theorem au.seqL{K:PySem.W.Frag}(c:au H H')(b:SqL K H a xs):SqL K H' a xs:=by
 rcases b with(b|⟨o,b⟩)|b;·exact .inl (.inl (c _ _ b))
 ·exact .inl (.inr ⟨o,c _ _ b⟩)
 ·exact .inr b
theorem fD{K:PySem.W.Frag}{l:TG}{m:TT}{n:TE}{e:List Nat}{o:VK}{b:List V}(f:V→Bool)(g:V→V)(h:SqL K H1 a b)(u:b.length≤sizeLine)(v:∀x∈b,∀(c:Hp)(p:Hp→Prop)(q:VK),au H1 c→(f x=true→q (g x) c)→(f x=false→p c)→l x (wipe σ e) c λi z=>wipe i e=wipe σ e∧m i z λA r=>if A=true then n i r q else p r)(B:∀j,H1 j=none→o (.ref j) (upd H1 j (.lst ((b.filter f).map g)))):Lc (Itl K a) l m n e o σ H1:=nE b f g (λs c C d=>⟨b,b[s],au.seqL d h,by simp[C]⟩) (λc d=>⟨b,au.seqL d h,L6 _⟩) (λs c x D d y=>⟨y.1,y.2 b (au.seqL d h)⟩) u v B
theorem xH(a:List V)(k:Nat):rD a none (some (k:Int))=a.take k:=by
 unfold rD;rw[HT.u5];show(a.drop 0).take (min k a.length-0)=a.take k;rw[List.drop_zero,Nat.sub_zero];rcases Nat.le_total k a.length with z|z;·rw[Nat.min_eq_left z]
 ·rw[Nat.min_eq_right z,JP z,JP (L6 _)]
theorem zh:∀b:List Vbbhal.Entry,(b.flatMap λc=>[(c.num:Int),c.amount]).length=2*b.length|[]=>rfl|a::b=>by rw[KJ,Kr,zh b,K9];simp only[List.length_cons,List.length_nil];lia
inductive DV(vs:List V)(H:Hp)(Q:VK)(E:XK):Prop|mk(p:Addr)(s:State)(h:HA)(m f k:Int)(q:Addr)(c:Bytes):vs=[.ref p,.int m,.int f,.int k,.ref q]→aH H p s h→Good s→H q=some (.tup (cv c))→(aB H p s h (Vbbhal.step s (.statement m f k c)) Q)→DV vs H Q E
theorem lN(g:Tx):Oz "answer_statement" 5 ["house","month","start","most","code"] (DV):=by f_assign(
 have n:=g.cR.fs ["house","month","start","most","code","refusal","told","number","row"];refine g.cR.ok n (by walk_at"l") (λbv bP bT b1 b2 p b3 ar b4 A i=>?_);obtain⟨F,c,B,e,fr,k,T,f,rfl,h,G,av,d⟩:=i;refine⟨_,(ae (aG (ba (PW.pt (cq (pt_val (ag (kr g) A (aa (pv 1) af))) (cq (pt_val (ag (eO g) A (aa (pv 2) af))) (bZ (pt_val (ag (aL g) A (aa (pv 3) (aa ao (aa (aJ g.x9) af)))))))))) (ai (aq (aC (aa (aJ g.aN) af)))) aw) (ae (sT 5 n.nd (ag (bo g) A (aa (pv 0) (aa (pv 4) af)))) (ae (aG (pt_cmpR op_lt (pv 5) ao (aD _)) (ai (aq (aC (aa (pv 5) af)))) aw) (ae (sT 6 n.nd (mT u9 (hG rfl n.nd (bE (ag (tP g) A (aa (pv 0) (aa (pv 1) (aa (pv 4) af))))) (bS (l:=[("number",7)]) n) (λ_ _ _ _ _=>gN 7 n.nd) (λ_ _ _ _ _=>(mV (pt_cmpR op_ge (pv 7) (pv 2) (aD _)))) (λ_ _ _ _ _=>(pv 7))) u6 (mS (pv 3)))) (ae (sT 8 n.nd (aC af)) (ae (bW Lw rfl (bE (pv 6)) (gN 7 n.nd) (ai (de (iG JH PySem.F.slot_list_extend PySem.F.type_list_extend ml (pv 8) (aa (aC (aa (pv 7) (aa (pe_fld (b0 ix_listH (pe_fld (pv 0) rfl) (aS op_sub (pv 7) ao) (λ_ _=>rfl)) rfl) af))) af))))) (ai (aq (ag (bx g) A (aa (aF bF (by rfl) g.bT bh (aa (pv 6) af)) (aa (pv 8) af))))))))))),?_⟩;walk_at"rd";have d:aB p F c B (if Vbbhal.isMonth e=false∨Vbbhal.inside fr 1 500=false∨Vbbhal.inside k 1 100=false then Vbbhal.no c 1 else Vbbhal.onAccount c f λ_=>let l:=(c.entries.filter λb=>b.month==e.toNat&&(b.code==f&&decide (fr≤(b.num:Int)))).take k.toNat;Vbbhal.yes c l.length [l.flatMap λb=>[(b.num:Int),b.amount]]) ar:=d;by_cases H:Vbbhal.isMonth e=true;case neg=>rw[Mi H];rw[Mj (.inl (KD.mpr H))]at d;exact⟨by decide,d.one h rfl (au.refl p)⟩
 rw[Mj H];by_cases I:Vbbhal.inside fr 1 500=true;case neg=>rw[Mi I];rw[Mj (.inr (.inl (KD.mpr I)))]at d;exact⟨by decide,d.one h rfl (au.refl p)⟩
 rw[Mj I];by_cases J:Vbbhal.inside k 1 100=false;·rw[Mj J];rw[Mj (.inr (.inr J))]at d;exact⟨by decide,d.one h rfl (au.refl p)⟩
 rw[Mi J];rw[Mi (by rw[H,I];rintro(s|s|s);cases s;cases s;exact J s)]at d;have aT:=Gm.aX.mp H;have b5:=Gm.aX.mp I;have b6:=Gm.aX.mp (Gm.tof J);obtain⟨e,rfl⟩:=JF aT.1;obtain⟨k,rfl⟩:=JF (show 0≤k by lia);refine⟨F,c,B,T,f,rfl,h,G,av,λb7 L=>?_⟩;obtain⟨l,O⟩:∃l,l=(c.entries.filter λb=>b.month==e&&(b.code==f&&decide (fr≤(b.num:Int)))).take k:=⟨_,rfl⟩;have d:aB p F c B (Vbbhal.onAccount c f λ_=>Vbbhal.yes c l.length [l.flatMap λb=>[(b.num:Int),b.amount]]) ar:=by rw[O];exact d
 rcases nM c f λ_=>Vbbhal.yes c l.length [l.flatMap λb=>[(b.num:Int),b.amount]]with⟨z1,z2⟩|⟨z1,z2⟩|⟨a,z0,z1,z2⟩;·rw[z1]at d;rw[z2];exact⟨_,rfl,by rw[Mj (by decide)];exact⟨by decide,d.one h rfl L⟩⟩
 ·rw[z1]at d;rw[z2];exact⟨_,rfl,by rw[Mj (by decide)];exact⟨by decide,d.one h rfl L⟩⟩
 rw[z1]at d;rw[z2];refine⟨_,rfl,?_⟩;rw[Mi (by decide)];refine⟨F,c,B,e,T,f,rfl,h.same L,G,L _ _ av,λax aU a0 b8 aA=>?_⟩;refine⟨aU,rfl,⟨_,SqL.of aA⟩,?_⟩;have U:=L.trans a0;have b9:(kC e f c.entries).length≤500:=by unfold kC;rw[Ln];have ca:=JV (λb:Vbbhal.Entry=>b.month==e&&b.code==f) c.entries;have cc:=G.elen;have cd:=G.capE;lia
 refine fD (λq=>decide (fr≤vInt q)) id (SqL.of aA) (by rw[Ln];show _≤2^24;lia) (λx Q j a1 a2 m X Y=>?_) (λZ ac=>?_)
 ·obtain⟨M,_,rfl⟩:=LX.mp Q;have X:decide (fr≤M)=true→a2 (.int M) j:=X;have Y:decide (fr≤M)=false→a1 j:=Y;walk_at"rd";by_cases w:fr≤M;·rw[Mj w];exact X (LF w)
  ·rw[Mi w];exact Y (Lx w)
 ·have a3:((((kC e f c.entries).map V.int).filter λq=>decide (fr≤vInt q)).map id)=((c.entries.filter λb=>b.month==e&&(b.code==f&&decide (fr≤(b.num:Int)))).map λb=>(b.num:Int)).map V.int:=by unfold kC;rw[L4,LV,List.filter_map,List.filter_filter,LV];congr 1;apply KI;intro b _;show(decide (fr≤(b.num:Int))&&(b.month==e&&b.code==f))=_;cases b.month==e<;>cases b.code==f<;>cases decide (fr≤(b.num:Int))<;>rfl
  refine⟨Z,rfl,_,SqL.of aj,λu R=>⟨L7 _,λr v=>?_⟩⟩;rw[a3]at R v⊢;rw[xH,←List.map_take,←List.map_take,←O]at v⊢;have aE:=U.trans ((au.new ac).trans ((au.new R).trans (au.new v (o:=.lst []))));have ce:p u=none:=U.free ((au.new ac).free R);have a4:p r=none:=U.free ((au.new ac).free ((au.new R).free v));have ah:=au.new v (o:=.lst []) u _ aj;have a5:u≠r:=λs=>by rw[s,aj]at v;cases v
  have aI:upd (upd (upd ax Z (.lst (((c.entries.filter λb=>b.month==e&&(b.code==f&&decide (fr≤(b.num:Int)))).map λb=>(b.num:Int)).map V.int))) u (.lst ((l.map λb=>(b.num:Int)).map V.int))) r (.lst []) r=some (.lst []):=aj;generalize upd (upd (upd ax Z (.lst (((c.entries.filter λb=>b.month==e&&(b.code==f&&decide (fr≤(b.num:Int)))).map λb=>(b.num:Int)).map V.int))) u (.lst ((l.map λb=>(b.num:Int)).map V.int))) r (.lst [])=ch at aE ah aI⊢;have cj:l.length≤100:=by rw[O];have:=List.length_take_le k (c.entries.filter λb=>b.month==e&&(b.code==f&&decide (fr≤(b.num:Int))));lia
  refine⟨⟨_,SqL.of ah⟩,?_⟩;obtain⟨al,N⟩:∃al:Nat→L2.St→Hp→Prop,al=λC S j=>∃q,S=[some (V.ref F),some (V.int (e:Nat)),some (V.int fr),some (V.int (k:Nat)),some (V.ref T),some (V.int 0),some (V.ref u),q,some (V.ref r)]∧au p j∧j u=some (.lst ((l.map λb=>(b.num:Int)).map V.int))∧j r=some (.lst (((l.take C).flatMap λb=>[(b.num:Int),b.amount]).map V.int)):=⟨_,rfl⟩;refine dZ (xs:=(l.map λb=>(b.num:Int)).map V.int) al ?_ ?_ ?_ ?_;·rw[N];exact⟨none,rfl,aE,ah,aI⟩
  ·rintro C S j cl i;rw[N]at i;obtain⟨q,rfl,m,D,z⟩:=i;exact SqL.of D
  ·rintro C y S j hy i;rw[N]at i;obtain⟨q,rfl,m,D,z⟩:=i;rw[KL,KL]at hy;obtain⟨M,a6,rfl⟩:=JQ.mp hy;obtain⟨b,aK,rfl⟩:=JQ.mp a6;have a7:b∈c.entries:=by have:=J_ aK;rw[O]at this;exact(Lr.mp (List.mem_of_mem_take this)).1
   obtain⟨am,an⟩:=JX.mp a7;have cm:=G.ek am b an;have co:=h.re.enA.len;obtain⟨x,Q⟩:∃x,B.es[am]?=some x:=⟨_,JA (by have:=(Jx.mp an).1;lia)⟩;obtain⟨E,aM,cp,cr,cs,a8,ct,cL⟩:=h.re.enA.get Q;obtain rfl:E=b:=by rw[an]at aM;exact(Lv aM).symm
   have aN:=h.same m;have aP:=aN.tre.ob;unfold hf at aP;have a9:=m _ _ a8;have bd:atI (B.es.map V.ref) ((E.num:Int)-1)=some (.ref x):=by refine Az (by lia) ?_;rw[KL,show((E.num:Int)-1).toNat=am by lia,Q];rfl
   have bi:=take_snoc aK;simp_arith[aP,aN.re.en,bd,a9,g.az,g.bw];have bj:=zh (l.take C);have cT:(l.take C).length≤l.length:=by rw[K_];lia
   refine⟨tyL z,by decide,λc0 ap=>⟨_,(ak (ay z ap)).trans z,[(E.num:Int),E.amount],.inl aj,?_,?_⟩⟩;·rw[Ln,bj];show 2*(l.take C).length+2≤2^24;lia
   ·rw[N];refine⟨some (V.int E.num),rfl,λc1 o eb=>?_,?_,?_⟩;·rw[ak (ay eb a4),ak (ay (m _ _ eb) ap)];exact m _ _ eb
    ·rw[ak a5,ak (ay D ap)];exact D
    ·rw[aj,bi,List.flatMap_append,Lp];simp
  ·rintro S j i;rw[N]at i;obtain⟨q,rfl,m,D,z⟩:=i;walk_at"rd";rw[Ln,Ln,Lb]at z;refine⟨_,D,_,r,l.flatMap λb=>[(b.num:Int),b.amount],rfl,.inl z,?_,λc2 c3 bl bm bn=>?_⟩;·rw[zh];lia
   ·refine d.read h (m.trans bl) (m.free bm) ?_;rw[bn,Ln,Ln];show _=some (HO.lst (((l.length:Int)::([l.flatMap λb=>[(b.num:Int),b.amount]].flatMap λaR=>(aR.length:Int)::aR)).map V.int));simp)
def enc(a:Mm.Mp):List (List Key×V):=a.map λx=>(ck x.1,V.int x.2)
theorem fE(a:Mm.Mp):(enc a).length=a.length:=Ln ..
theorem Fg(b:Mm.Mp)(a:Bytes):bt (enc b) (ck a)=(Mm.lk? b a).map V.int:=by
 unfold enc;rw[Km.valV_map];unfold Mm.lk?;rw[Option.map_map];have:(λx:Bytes×Int=>decide (ck x.1=ck a))=λx=>decide (x.1=a):=by funext x;apply Lf.mpr;exact⟨fS,λc=>by rw[c]⟩
 rw[this];rfl
theorem jo(b:Mm.Mp)(a:Bytes)(c:Int):putK (enc b) (ck a) (.int c)=enc (Mm.put b a c):=by f_assign(
 have e:((enc b).any λf=>decide (f.1=ck a))=b.any λx=>decide (x.1=a):=by unfold enc;rw[List.any_map];congr 1;funext x;exact Lf.mpr ⟨fS,λg=>Me ck g⟩
 unfold putK Mm.put;rw[e];by_cases d:(b.any λx=>decide (x.1=a))=true
 ·rw[Mj d,Mj d];unfold enc;rw[LV,LV];apply Kh;intro x _;show(if ck x.1=ck a then(ck x.1,V.int c)else(ck x.1,V.int x.2))=(ck (if x.1=a then(x.1,c)else x).1,V.int (if x.1=a then(x.1,c)else x).2);by_cases y:x.1=a;·rw[Mj y,Mj (by rw[y])]
  ·rw[Mi y,Mi (λw=>y (fS w))]
 ·rw[Mi d,Mi d];unfold enc;rw[Lp];rfl)
theorem cn{a:Mm.Mp}{c:Bytes}(b:Rd H d (.dT (enc a)))(e:H q=some (.tup (cv c))):gm H d (.ref q) ((Mm.lk? a c).map V.int):=.inr ⟨enc a,ck c,q,b,rfl,by rw[cK];exact e,(Fg a c).symm⟩
theorem c8(a:Mm.Mp)(b:Bytes):((Mm.lk? a b).map V.int).getD (V.int 0)=V.int (Mm.lk a b):=by unfold Mm.lk;cases Mm.lk? a b<;>rfl
def pairs(b:List Vbbhal.Entry):Mm.Mp:=b.map λa=>(a.code,a.amount)
inductive DW(vs:List V)(H:Hp)(Q:VK)(E:XK):Prop|mk(l:Addr)(as:List Addr)(es:List Vbbhal.Entry):vs=[.ref l]→H l=some (.lst (as.map V.ref))→cH H as es→es.length≤500→(∀H' d,au H H'→H d=none→H' d=some (.dT (enc (Mm.sums (pairs es))))→Q (.ref d) H')→DW vs H Q E
theorem jA(m:Tx):Oz "sums_by_code" 1 ["entries"] (DW):=by f_assign(
 have n:=m.fh.fs ["entries","sums","entry"];refine m.fh.ok n (by walk_at"l") (λF G H I J v L M N x a=>?_);obtain⟨z,as,e,rfl,q,r,O,k⟩:=a;have s:=bN x;refine⟨_,(ae (sT 1 n.nd cX) (ae (bW Lw rfl (bE (pv 0)) (gN 2 n.nd) (ai (df s (pv 1) (pe_fld (pv 2) rfl) (aS op_add (bC s (pv 1) (pe_fld (pv 2) rfl) ao ⟨rfl,rfl,rfl,rfl⟩) (pe_fld (pv 2) rfl)) rfl))) (ai (aq (pv 1))))),?_⟩;walk_at"rd";intro o h;refine⟨⟨_,SqL.of (au.new h _ _ q)⟩,?_⟩;obtain⟨p,g⟩:∃p:Nat→L2.St→Hp→Prop,p=λb i f=>∃j,i=[some (V.ref z),some (V.ref o),j]∧au v f∧f o=some (.dT (enc (Mm.sums (pairs (e.take b))))):=⟨_,rfl⟩;refine dZ (xs:=as.map V.ref) p ?_ ?_ ?_ ?_;·rw[g];exact⟨none,rfl,au.new h,aj⟩
 ·rintro b i f Q a;rw[g]at a;obtain⟨j,rfl,c,d⟩:=a;exact SqL.of (c _ _ q)
 ·rintro b y i f hy a;rw[g]at a;obtain⟨j,rfl,c,d⟩:=a;rw[KL]at hy;obtain⟨R,A,rfl⟩:=JQ.mp hy;obtain⟨l,B,S,T,U,C,D,X⟩:=r.get A;have E:=c _ _ C;have u:=c _ _ D;simp_arith[E,m.bw];refine⟨.inr ⟨_,.inl d⟩,_,cn (.inl d) u,_,c8 _ _,_,iA.t (k:=ck l.code) d (by rw[cK];exact u) ?_,?_⟩
  ·rw[fE];have Y:=Mm.qV (pairs (e.take b));have Z:(pairs (e.take b)).length≤e.length:=by unfold pairs;rw[Ln,K_];lia
   exact bq (by lia)
  ·rw[g];refine⟨_,rfl,λac ah eb=>?_,?_⟩;·rw[ak (ay eb h)];exact c _ _ eb
   ·rw[aj,jo,take_snoc B];have:pairs (e.take b++[l])=pairs (e.take b)++[(l.code,l.amount)]:=by unfold pairs;rw[Lp];rfl
    rw[this,Mm.fO];rfl
 ·rintro i f a;rw[g]at a;obtain⟨j,rfl,c,d⟩:=a;rw[Ln,r.len,Lb]at d;walk_at"rd";exact k f o c h d)
theorem jq{a:Cx}{K:PySem.W.Frag}{b:Str}{c:Pos}(d:a.K=K)(f:PE a e ta)(g:attributeBase e b a.env (eval e a.env)=eval e a.env):PE a (.Attribute e b c) (Du K ta b):=by subst d;exact pe_fld f g
theorem AB{tB:TT}{c:Pos}(d:PT X a tA)(e:PT X b tB):PT X (.BoolOp .And [a,b] c) (Gv tA tB):=PW.pt (cq d (bZ e))
open Classical in
noncomputable def uM(b:Hp)(c:Vbbhal.Entry→Bool)(d:V):Bool:=decide (∃x a,d=.ref x∧fM b x a∧c a=true)
theorem DX{a b:Vbbhal.Entry}(d:fM H x a)(e:fM H x b):Vbbhal.kindNum a.kind=Vbbhal.kindNum b.kind∧a.month=b.month:=by obtain⟨g,h,i,f,_⟩:=d;obtain⟨j,l,m,c,_⟩:=e;rw[f]at c;have:=Lv c;injection this with _ _ h3;unfold cg at h3;simp only[List.cons.injEq,Prod.mk.injEq,V.int.injEq,true_and,and_true]at h3;lia
open Classical in
theorem qN{b:Vbbhal.Entry}{c:Vbbhal.Entry→Bool}(g:∀b d,Vbbhal.kindNum b.kind=Vbbhal.kindNum d.kind→b.month=d.month→c b=c d)(e:fM H x b):uM H c (.ref x)=c b:=by
 unfold uM;cases z:c b;·rw[Lx];rintro⟨y,d,h,i,f⟩;cases h;obtain⟨a,j⟩:=DX i e;rw[g _ _ a j,z]at f;cases f
 ·exact LF ⟨x,b,rfl,e,z⟩
theorem kD{b:Vbbhal.Entry→Bool}(l:∀c f,Vbbhal.kindNum c.kind=Vbbhal.kindNum f.kind→c.month=f.month→b c=b f):∀{as:List Addr}{e:List Vbbhal.Entry},cH H as e→∃d:List Addr,((as.map V.ref).filter (uM H b)).map id=d.map V.ref∧cH H d (e.filter b):=by intro as e h;induction h with|nil=>exact⟨[],rfl,.nil⟩|@cons a c as e g t m=>
 obtain⟨d,i,j⟩:=m;rw[LM,K8,K8,qN l g];cases z:b c;·exact⟨d,i,j⟩
 ·refine⟨a::d,?_,.cons g j⟩;rw[Mj rfl,LM,i];rfl
theorem lE(a:Vbbhal.Entry):Vbbhal.isOverhead a=decide (Vbbhal.kindNum a.kind=3):=by unfold Vbbhal.isOverhead;cases a.kind<;>rfl
def qi(b:State)(c:Nat):List Vbbhal.Entry:=b.entries.filter λa=>a.month==c&&!Vbbhal.isOverhead a
def l_(b:State)(c:Nat):List Vbbhal.Entry:=b.entries.filter λa=>a.month==c&&Vbbhal.isOverhead a
inductive Hb(F:State→Nat→List Vbbhal.Entry)(vs:List V)(H:Hp)(Q:VK)(E:XK):Prop|mk(p:Addr)(s:State)(h:HA)(m:Nat):vs=[.ref p,.int m]→aH H p s h→Good s→(∀H' d,au H H'→H d=none→H' d=some (.dT (enc (Mm.sums (pairs (F s m)))))→Q (.ref d) H')→Hb F vs H Q E
theorem jr(c:Tx):Oz "owns_in" 2 ["house","month"] (Hb qi):=by f_assign(
 have f:=c.lq.fs ["house","month","entry"];refine c.lq.ok f (by walk_at"l") (λM N O Q R A S T U B C=>?_);obtain⟨X,p,Y,b,rfl,d,q,k⟩:=C;have r:=d.tre.ob;unfold hf at r;refine⟨_,(ai (aq (ag (jA c) B (aa (hG rfl f.nd (bE (pe_fld (pv 0) rfl)) (bS (l:=[("entry",2)]) f) (λ_ _ _ _ _=>gN 2 f.nd) (λ_ _ _ _ _=>(mV (AB (pt_cmpR bg (jq (K:=K) rfl (pv 2) rfl) (pv 1) (aD _)) (pt_cmpR xq (jq (K:=K) rfl (pv 2) rfl) (aJ c.mJ) (aD _))))) (λ_ _ _ _ _=>(pv 2))) af)))),?_⟩;simp_arith[r,c.az];have Z:=d.re.enA.len;have ac:=q.elen;have ah:=q.capE;have s:∀a e:Vbbhal.Entry,Vbbhal.kindNum a.kind=Vbbhal.kindNum e.kind→a.month=e.month→(a.month==b&&!Vbbhal.isOverhead a)=(e.month==b&&!Vbbhal.isOverhead e):=λa e j m=>by rw[lE,lE,j,m]
 refine⟨⟨_,SqL.of d.re.en⟩,fD (uM A λa=>a.month==b&&!Vbbhal.isOverhead a) id (SqL.of d.re.en) (by rw[Ln];show _≤2^24;lia) (λx D u al am n o g=>?_) (λE h=>?_)⟩
 ·obtain⟨y,F,rfl⟩:=LX.mp D;obtain⟨a,an,v⟩:=d.re.enA.mem y F;rw[qN s v]at o g;obtain⟨ap,ar,z,G,av,ax⟩:=v;have H:=n _ _ G;rw[lE]at o g;simp_arith[H,c.bw];by_cases w:(a.month:Int)=(b:Int)
  ·rw[Mj w];have I:a.month=b:=by lia
   by_cases i:Vbbhal.kindNum a.kind=3;·rw[Mi (by simp[i])];exact g (by simp[i])
   ·rw[Mj (by lia)];exact o (by simp[I,i])
  ·rw[Mi w];exact g (by simp;intro i;lia)
 ·obtain⟨J,j,m⟩:=kD s d.re.enA;rw[j];refine⟨E,J,qi p b,rfl,aj,m.keep (λaA aE a=>au.new h _ _ a) (λx _ aI a=>au.new h _ _ a),?_,λu z n L a=>k u z ((au.new h).trans n) ((au.new h).free L) a⟩;have:=JV (λa:Vbbhal.Entry=>a.month==b&&!Vbbhal.isOverhead a) p.entries;unfold qi;lia)
theorem gx(c:Tx):Oz "overheads_in" 2 ["house","month"] (Hb l_):=by f_assign(
 have f:=c.fi.fs ["house","month","entry"];refine c.fi.ok f (by walk_at"l") (λM N O Q R A S T U B C=>?_);obtain⟨X,p,Y,b,rfl,d,q,k⟩:=C;have r:=d.tre.ob;unfold hf at r;refine⟨_,(ai (aq (ag (jA c) B (aa (hG rfl f.nd (bE (pe_fld (pv 0) rfl)) (bS (l:=[("entry",2)]) f) (λ_ _ _ _ _=>gN 2 f.nd) (λ_ _ _ _ _=>(mV (AB (pt_cmpR bg (jq (K:=K) rfl (pv 2) rfl) (pv 1) (aD _)) (pt_cmpR bg (jq (K:=K) rfl (pv 2) rfl) (aJ c.mJ) (aD _))))) (λ_ _ _ _ _=>(pv 2))) af)))),?_⟩;simp_arith[r,c.az];have Z:=d.re.enA.len;have ac:=q.elen;have ah:=q.capE;have s:∀a e:Vbbhal.Entry,Vbbhal.kindNum a.kind=Vbbhal.kindNum e.kind→a.month=e.month→(a.month==b&&Vbbhal.isOverhead a)=(e.month==b&&Vbbhal.isOverhead e):=λa e i j=>by rw[lE,lE,i,j]
 refine⟨⟨_,SqL.of d.re.en⟩,fD (uM A λa=>a.month==b&&Vbbhal.isOverhead a) id (SqL.of d.re.en) (by rw[Ln];show _≤2^24;lia) (λx D u al am m n g=>?_) (λE h=>?_)⟩
 ·obtain⟨y,F,rfl⟩:=LX.mp D;obtain⟨a,an,v⟩:=d.re.enA.mem y F;rw[qN s v]at n g;obtain⟨ap,ar,z,G,av,ax⟩:=v;have H:=m _ _ G;rw[lE]at n g;simp_arith[H,c.bw];by_cases w:(a.month:Int)=(b:Int)
  ·rw[Mj w];have I:a.month=b:=by lia
   by_cases o:Vbbhal.kindNum a.kind=3;·rw[Mj (by lia)];exact n (by simp[I,o])
   ·rw[Mi (by lia)];exact g (by simp[o])
  ·rw[Mi w];exact g (by simp;intro o;lia)
 ·obtain⟨J,i,j⟩:=kD s d.re.enA;rw[i];refine⟨E,J,l_ p b,rfl,aj,j.keep (λaA aE a=>au.new h _ _ a) (λx _ aI a=>au.new h _ _ a),?_,λu z m L a=>k u z ((au.new h).trans m) ((au.new h).free L) a⟩;have:=JV (λa:Vbbhal.Entry=>a.month==b&&Vbbhal.isOverhead a) p.entries;unfold l_;lia)
theorem fF:∀{as:List Addr}{d:List (List Int)}{i:Nat}{a:Addr},aY H as d→as[i]?=some a→∃c,d[i]?=some c∧H a=some (.tup (c.map V.int))|_,_,i,a,.nil,b=>by simp at b|_,_,0,a,.cons (c:=c) e t,b=>by have:=Lv b;subst this;exact⟨c,rfl,e⟩|_,_,i+1,a,.cons e t,b=>by obtain⟨c,f,g⟩:=fF t (i:=i) (a:=a) (by simpa using b);exact⟨c,by simpa using f,g⟩
theorem bY{a b:Hp}(k:∀c d,a c=some (.tup d)→b c=some (.tup d)):∀{as:List Addr}{e:List (List Int)},aY a as e→aY b as e|_,_,.nil=>.nil|_,_,.cons f t=>.cons (k _ _ f) (bY k t)
theorem Tre.IV{h:Addr}{i:State}{f:HA}(c:Tre H h i f)(m:H d=some (.dT e))(j:d≠f.aA)(l:Obj):Tre (upd H d (.frz l (.dT e))) h i f:=by f_assign(
 have ne:∀g b,H g=some b→(∀e,b≠.dT e)→upd H d (.frz l (.dT e)) g=some b:=λg b a n=>by rw[ak (λw=>by rw[w,m]at a;exact n _ (Lv a).symm)];exact a
 refine⟨ne _ _ c.ob nofun,?_,c.acR,λy o=>?_⟩
 ·rcases c.ac with a|⟨b,a⟩;·exact .inl (by rw[ak j.symm];exact a)
  ·exact .inr ⟨b,by rw[ak j.symm];exact a⟩
 ·obtain⟨p,a,q,r⟩:=c.acA y o;exact⟨p,a,ne _ _ q nofun,ne _ _ r nofun⟩)
theorem Tre.but{f:Hp}{i:Addr}{j:State}{g:HA}(e:Tre H i j g)(n:H d=some (.dT l))(m:d≠g.aA)(h:∀c a,H c=some a→c≠d→f c=some a):Tre f i j g:=by
 have ne:∀c a,H c=some a→(∀l,a≠.dT l)→f c=some a:=λc a b o=>h c a b (λw=>by rw[w,n]at b;exact o _ (Lv b).symm);refine⟨ne _ _ e.ob nofun,?_,e.acR,λy p=>?_⟩
 ·rcases e.ac with b|⟨a,b⟩;·exact .inl (h _ _ b m.symm)
  ·exact .inr ⟨a,h _ _ b m.symm⟩
 ·obtain⟨q,b,r,s⟩:=e.acA y p;exact⟨q,b,ne _ _ r nofun,ne _ _ s nofun⟩
def c_(a:State)(b:Mm.Mp):Mm.Mp:=b.flatMap λx=>(Vbbhal.pathOf a x.1).map λc=>(c,x.2)
inductive AD(vs:List V)(H:Hp)(Q:VK)(E:XK):Prop|mk(p:Addr)(s:State)(h:HA)(am:Addr)(m:Mm.Mp):vs=[.ref p,.ref am]→aH H p s h→Good s→H am=some (.dT (enc m))→am≠h.aA→((∀x∈m,∃a,Vbbhal.accountAt s x.1=some a))→m.length≤500→(∀H' d,au H H'→H d=none→H' d=some (.dT (enc (Mm.sums (c_ s m))))→Q (.ref d) H')→AD vs H Q E
theorem sI{b:State}(c:Good b):∀{m:Mm.Mp},(∀x∈m,∃a,Vbbhal.accountAt b x.1=some a)→(c_ b m).length≤8*m.length|[],_=>L6 _|x::m,d=>by have e:=sI c (m:=m) λy f=>d y (J0 _ f);obtain⟨a,g⟩:=d x (Ks ..);have:=(c.tree.wf.chain g).2;unfold c_ at e⊢;rw[KJ,Kr,Ln,K9];lia
theorem iu(U:Tx):Oz "with_all_below" 2 ["house","amounts"] (AD):=by f_assign(
 have D:=U.dF.fs ["house","amounts","sums","code","amount","upper"];refine U.dF.ok D (by walk_at"l") (λbn bv bP bT b1 n b2 b3 b4 ax c=>?_);obtain⟨I,f,X,h,m,rfl,aA,Y,Z,a5,aE,b5,k⟩:=c;have aI:=bN ax;refine⟨_,(ae (sT 2 D.nd cX) (ae (k_ (bW Lw rfl (uu (pv 1)) (ot rfl (cU (gN 3 D.nd) (cU (gN 4 D.nd) kW))) (ai (bW Lw rfl (bE (ag (fT U) ax (aa (pv 0) (aa (pv 3) af)))) (gN 5 D.nd) (ai (df aI (pv 2) (pv 5) (aS op_add (bC aI (pv 2) (pv 5) ao ⟨rfl,rfl,rfl,rfl⟩) (pv 4)) rfl)))))) (ai (aq (pv 2))))),?_⟩;walk_at"rd";intro d z;have aK:au n (upd n d (.dT (enc []))):=au.new z;have b6:upd n d (.dT (enc [])) d=some (.dT (enc [])):=aj;have aM:=aK _ _ Z;have E:h≠d:=ay Z z;refine⟨h,_,aM,trivial,λr=>?_⟩;have J:=(aA.tre.same aK).IV aM a5 r;simp_arith[vi,aj];refine⟨r,enc m,rfl,?_⟩;have ac:upd (upd n d (.dT [])) h (.frz r (.dT (enc m))) d=some (.dT []):=by rw[ak E.symm];exact aj
 have L:upd (upd n d (.dT [])) h (.frz r (.dT (enc m))) h=some (.frz r (.dT (enc m))):=aj;have J:Tre (upd (upd n d (.dT [])) h (.frz r (.dT (enc m)))) I f X:=J;have a6:d≠X.aA:=λs=>by rw[s,aA.ac]at z;cases z
 have aN:∀b e,n b=some e→b≠h→upd (upd n d (.dT [])) h (.frz r (.dT (enc m))) b=some e:=λb e i s=>by rw[ak s,ak (ay i z)];exact i
 have a7:∀b,upd (upd n d (.dT [])) h (.frz r (.dT (enc m))) b=none→n b=none:=λb i=>(aW (aW i).1).1;generalize upd (upd n d (.dT [])) h (.frz r (.dT (enc m)))=ah at ac L J aN a7⊢;obtain⟨M,A⟩:∃M:Nat→L2.St→Hp→Prop,M=λl p g=>∃F G o,p=[some (V.ref I),some (V.ref h),some (V.ref d),F,G,o]∧(∀b e,ah b=some e→b≠d→g b=some e)∧g d=some (.dT (enc (Mm.sums (c_ f (m.take l))))):=⟨_,rfl⟩;refine nB m.length M ?_ ?_ ?_ ?_ ?_;·rw[A];exact⟨none,none,none,rfl,λb e i _=>i,ac⟩
 ·rintro l p g aP c;rw[A]at c;obtain⟨F,G,o,rfl,kp,i⟩:=c;exact⟨kp _ _ L E,by rw[fE];exact aP⟩
 ·rintro p g c;rw[A]at c;obtain⟨F,G,o,rfl,kp,i⟩:=c;exact⟨kp _ _ L E,by rw[fE];exact L6 _⟩
 ·rintro l y p g H'' aP c⟨t,kk,v,q,hkv,rfl,ht,hq,rfl⟩;rw[A]at c;obtain⟨F,G,o,rfl,kp,i⟩:=c;obtain⟨x,aR,a8⟩:∃x,m[l]?=some x∧(ck x.1,V.int x.2)=(kk,v):=by unfold enc at hkv;rw[KL]at hkv;exact JQ.mp hkv
  cases a8;rw[cK]at hq;obtain⟨a,aT⟩:=aE x (J_ aR);refine⟨t,_,rfl,SqT.of aj,rfl,?_⟩;have al:au g (upd g t (.tup [.ref q,.int x.2])):=au.new ht;have am:=al _ _ i;have aU:=al _ _ hq;have an:∀b e,ah b=some e→b≠d→upd g t (.tup [.ref q,.int x.2]) b=some e:=λb e eb B=>al _ _ (kp b e eb B);generalize upd g t (.tup [.ref q,.int x.2])=b7 at am aU an⊢;simp_arith[mP,wD];refine⟨I,f,X,q,x.1,rfl,J.but ac a6 an,Y,aU,.inr ⟨a,aT⟩,λb8 ap as a0 a1 a2 a3=>?_⟩;refine⟨ap,rfl,⟨_,SqL.of a2⟩,?_⟩;have a9:ap≠d:=λs=>by rw[s,am]at a1;cases a1
  have b9:=(Y.tree.wf.chain aT).2;obtain⟨ar,H⟩:∃ar:Nat→L2.St→Hp→Prop,ar=λC p g=>∃o,p=[some (V.ref I),some (V.ref h),some (V.ref d),some (V.ref q),some (V.int x.2),o]∧(∀b e,ah b=some e→b≠d→g b=some e)∧g ap=some (.lst (as.map V.ref))∧aY g as ((Vbbhal.pathOf f x.1).map ci)∧g d=some (.dT (enc (Mm.sums (c_ f (m.take l)++((Vbbhal.pathOf f x.1).take C).map λj=>(j,x.2))))):=⟨_,rfl⟩;refine dZ (xs:=as.map V.ref) ar ?_ ?_ ?_ ?_;·rw[H];refine⟨o,rfl,λb e eb B=>a0 _ _ (an b e eb B),a2,a3,?_⟩;rw[LD,LW,Lj];exact a0 _ _ am
  ·rintro C p N ca c;rw[H]at c;obtain⟨o,rfl,O,Q,R,u⟩:=c;exact SqL.of Q
  ·rintro C y p N S c;rw[H]at c;obtain⟨o,rfl,O,Q,R,u⟩:=c;rw[KL]at S;obtain⟨b,bd,rfl⟩:=JQ.mp S;obtain⟨cc,a4,av⟩:=fF R bd;rw[KL]at a4;obtain⟨j,bi,rfl⟩:=JQ.mp a4;rw[bO]at av;walk_at"rd";refine⟨.inr ⟨_,.inl u⟩,_,cn (.inl u) av,_,c8 _ _,_,iA.t (k:=ck j) u (by rw[cK];exact av) ?_,?_⟩;·rw[fE];have bj:=Mm.qV (c_ f (m.take l)++((Vbbhal.pathOf f x.1).take C).map λj=>(j,x.2));have bl:=sI Y (m:=m.take l) λy S=>aE y (List.mem_of_mem_take S);rw[Kr,Ln,K_]at bj;rw[K_]at bl;show _<2^24;lia
   ·rw[H];have bm:∀T xs,N T=some (.tup xs)→upd N d (.dT (putK (enc (Mm.sums (c_ f (m.take l)++((Vbbhal.pathOf f x.1).take C).map λj=>(j,x.2)))) (ck j) (.int (Mm.lk (Mm.sums (c_ f (m.take l)++((Vbbhal.pathOf f x.1).take C).map λj=>(j,x.2))) j+x.2)))) T=some (.tup xs):=λT xs eb=>by rw[ak (λw=>by rw[w,u]at eb;cases eb)];exact eb
    refine⟨some (V.ref b),rfl,λT cd eb B=>?_,?_,bY bm R,?_⟩;·rw[ak B];exact O _ _ eb B
    ·rw[ak a9];exact Q
    ·rw[aj,jo,take_snoc bi,Lp,←KH,LM,LW,Mm.fO];rfl
  ·rintro p N c;rw[H]at c;obtain⟨o,rfl,O,Q,R,u⟩:=c;show M (l+1) _ _;rw[A];refine⟨_,_,_,rfl,O,?_⟩;rw[Ln,a3.len,Ln,Lb]at u;rw[take_snoc aR];have:c_ f (m.take l++[x])=c_ f (m.take l)++(Vbbhal.pathOf f x.1).map λj=>(j,x.2):=by unfold c_;rw[List.flatMap_append];simp
   rw[this];exact u
 ·rintro p g c;rw[A]at c;obtain⟨F,G,o,rfl,kp,i⟩:=c;refine⟨kp _ _ L E,?_⟩;rw[Lb]at i;walk_at"rd";refine k _ d (λb e eb=>?_) z ?_
  ·by_cases s:b=h;·rw[s]at eb⊢;rw[Z]at eb;rw[aj];exact eb
   ·rw[ak s];exact kp _ _ (aN b e eb s) (ay eb z)
  ·rw[ak E.symm];exact i)
def vL(a:State)(b:Nat):Mm.Mp:=Mm.sums (c_ a (Mm.sums (pairs (qi a b))))
theorem vM{c:State}(e:Good c){d:List Vbbhal.Entry}(f:∀b∈d,b∈c.entries):∀x∈Mm.sums (pairs d),∃a,Vbbhal.accountAt c x.1=some a:=λx g=>by have:=(Mm.Cd (pairs d) x.1).mp (LX.mpr ⟨x,g,rfl⟩);obtain⟨y,h,i⟩:=LX.mp this;obtain⟨b,j,l⟩:=LX.mp h;rw[←i,←l];exact e.ec b (f b j)
theorem vN{b:State}(c:Good b){a:List Vbbhal.Entry}(d:a.length≤b.entries.length):(Mm.sums (pairs a)).length≤500:=by have e:=Mm.qV (pairs a);have f:(pairs a).length=a.length:=Ln ..;have g:=c.elen;have h:=c.capE;lia
theorem kE(a:State)(b:Nat):(∀c∈qi a b,c∈a.entries)∧(qi a b).length≤a.entries.length:=⟨λc d=>(Lr.mp d).1,JV ..⟩
theorem BU(a:State)(b:Nat):(∀c∈l_ a b,c∈a.entries)∧(l_ a b).length≤a.entries.length:=⟨λc d=>(Lr.mp d).1,JV ..⟩
inductive uN(vs:List V)(H:Hp)(Q:VK)(E:XK):Prop|mk(p:Addr)(s:State)(h:HA)(m:Nat):vs=[.ref p,.int m]→aH H p s h→Good s→(∀H' d,au H H'→H d=none→H' d=some (.dT (enc (vL s m)))→Q (.ref d) H')→uN vs H Q E
theorem pR(a:Tx):Oz "spent_in" 3 ["house","month"] (uN):=by f_assign(have l:=a.jf.fs ["house","month"];refine a.jf.ok l (by walk_at"l") (λx y z A B C D E F g m=>?_);obtain⟨h,b,i,d,rfl,e,c,k⟩:=m;refine⟨_,(ai (aq (ag (iu a) g (aa (pv 0) (aa (ag (jr a) g (aa (pv 0) (aa (pv 1) af))) af))))),?_⟩;walk_at"rd";refine⟨h,b,i,d,rfl,e,c,λG n f j o=>⟨h,b,i,n,_,rfl,e.same f,c,o,λp=>?_,vM c (kE b d).1,vN c (kE b d).2,λq r s u v=>k q r (f.trans s) (f.free u) v⟩⟩;rw[p,e.ac]at j;cases j)
theorem xJ{b:State}(h:Good b)(d:Bytes):∀{c:Mm.Mp},(∀x∈c,∃a,Vbbhal.accountAt b x.1=some a)→Mm.lk (Mm.sums (c_ b c)) d=(c.map λx=>if decide (d∈Vbbhal.pathOf b x.1)=true then x.2 else 0).sum:=by f_assign(intro c f;rw[Mm.uT];induction c with|nil=>rfl|cons x c i=>
 have j:c_ b (x::c)=(Vbbhal.pathOf b x.1).map (λd=>(d,x.2))++c_ b c:=by unfold c_;rw[KJ]
 rw[j,Lp,Lu,i λy l=>f y (J0 _ l),LM,LO,LV];congr 1;obtain⟨a,m⟩:=f x (Ks ..);have nd:=(h.tree.wf.chain m).1.nodup;show((Vbbhal.pathOf b x.1).map λg=>if g=d then x.2 else 0).sum=_;by_cases e:d∈Vbbhal.pathOf b x.1;·rw[Tr.kN _ _ _ nd e,Mj (LF e)]
 ·rw[Tr.dY,Mi (λw=>e (KU w))];intro g n;exact Mi λw=>e (by rw[←w];exact n))
theorem xK{b:State}(f:Good b)(e:Nat){c:Bytes}(g:Vbbhal.accountAt b c=some a):Mm.lk (vL b e) c=Vbbhal.spent b e c:=by unfold vL;rw[xJ f c (vM f (kE b e).1),Mm.we (λx=>decide (c∈Vbbhal.pathOf b x)),Em.B_ f g];unfold pairs qi;rw[LV,Em.sum_filter,Em.sum_filter];apply Tr.dC;intro d _;show(if(d.month==e&&!Vbbhal.isOverhead d)=true then(if decide (c∈Vbbhal.pathOf b d.code)=true then d.amount else 0)else 0)=_;cases d.month==e<;>cases Vbbhal.isOverhead d<;>simp
theorem DY(d:State)(b:Nat)(c:Bytes):Mm.lk (Mm.sums (pairs (qi d b))) c=Vbbhal.own d b c:=by
 rw[Mm.uT];unfold pairs qi Vbbhal.own;rw[LV,Em.sum_filter,Em.sum_filter];apply Tr.dC;intro a _;show(if(a.month==b&&!Vbbhal.isOverhead a)=true then(if a.code=c then a.amount else 0)else 0)=_;by_cases e:a.code=c;·cases a.month==b<;>cases Vbbhal.isOverhead a<;>simp[e]
 ·cases a.month==b<;>cases Vbbhal.isOverhead a<;>simp[e]
theorem AE{c:State}(i:Good c)(d:Nat)(e:Bytes):Mm.lk (Mm.sums (pairs (l_ c d))) e=(Vbbhal.overheadOf c d e:Nat):=by f_assign(
 rw[Mm.uT];unfold pairs l_ Vbbhal.overheadOf;have:∀b:List Vbbhal.Entry,(∀a∈b,a∈c.entries)→(((b.filter λa=>a.month==d&&Vbbhal.isOverhead a).map λa=>(a.code,a.amount)).map λx=>if x.1=e then x.2 else 0).sum=((((b.filter λa=>a.month==d&&(a.code==e&&Vbbhal.isOverhead a)).map λa=>a.amount.toNat).sum:Nat):Int):=by intro b;induction b with|nil=>intro _;rfl|cons a b f=>intro g;have f:=f λx j=>g x (J0 _ j);have o:Vbbhal.isOverhead a=true→0<a.amount:=λh=>(i.eo a (g a (Ks ..)) (by unfold Vbbhal.isOverhead at h;exact eq_of_beq h)).1;rw[K8,K8];by_cases l:a.month=d<;>by_cases m:a.code=e<;>cases z3:Vbbhal.isOverhead a<;>simp[l,m,z3]at*<;>omega
 exact this c.entries λa n=>n)
def iw(b:State)(d:List Bytes):List Int:=d.filterMap λc=>(Vbbhal.accountAt b c).bind λa=>a.budget.map λe:Nat=>(e:Int)-Vbbhal.spent b (Vbbhal.monthOf b.today) c
theorem sJ(b:State)(e:List Bytes){c:Bytes}{a:Account}(f:Vbbhal.accountAt b c=some a):iw b (e++[c])=iw b e++(match a.budget with|none=>[]|some d=>[(d:Int)-Vbbhal.spent b (Vbbhal.monthOf b.today) c]):=by unfold iw;rw[List.filterMap_append];congr 1;rw[Kd,List.filterMap_nil,f];obtain⟨_,_,_,d⟩:=a;cases d<;>rfl
theorem BV(b:State)(a:List Bytes):(iw b a).length≤a.length:=List.length_filterMap_le ..
inductive Iy(vs:List V)(H:Hp)(Q:VK)(E:XK):Prop|mk(p:Addr)(s:State)(h:HA)(l:Addr)(as:List Addr)(cs:List Bytes):vs=[.ref p,.ref l]→aH H p s h→Good s→H l=some (.lst (as.map V.ref))→aY H as (cs.map ci)→((∀c∈cs,∃a,Vbbhal.accountAt s c=some a))→cs.length≤8→(∀H' r,au H H'→H r=none→H' r=some (.lst ((iw s cs).map V.int))→Q (.ref r) H')→Iy vs H Q E
theorem qj(f:Tx):Oz "amounts_left" 6 ["house","path"] (Iy):=by f_assign(
 have l:=f.fj.fs ["house","path","spent","left","code","budget"];refine f.fj.ok l (by walk_at"l") (λaE aI aK aM aN H aP aR aT v b=>?_);obtain⟨I,c,al,am,as,J,rfl,x,m,L,M,an,aU,k⟩:=b;have N:=bN v;have O:=x.tre.ob;unfold hf at O;refine⟨_,(ae (sT 2 l.nd (ag (pR f) v (aa (pv 0) (aa (ag (dw f) v (aa (pe_fld (pv 0) rfl) af)) af)))) (ae (sT 3 l.nd (aC af)) (ae (bW Lw rfl (bE (pv 1)) (gN 4 l.nd) (ae (sT 5 l.nd (pe_fld (d6 N (pe_fld (pv 0) rfl) (pv 4) (λ_ _=>rfl)) rfl)) (ai (aG (pt_cmpR EB (pv 5) uW (aD _)) (ai (de (iG JH JB JC dE (pv 3) (aa (aS op_sub (pv 5) (bC N (pv 2) (pv 4) ao ⟨rfl,rfl,rfl,rfl⟩)) af)))) aw)))) (ai (aq (pv 3)))))),?_⟩;simp_arith[O,f.az];refine⟨c.today,rfl,m.today.1,m.today.2,λa0 z=>⟨I,c,al,Vbbhal.monthOf c.today,rfl,x.same z,m,λA p Q a1 R=>⟨by decide,λd B=>?_⟩⟩⟩;have C:=z.trans (Q.trans (au.new B (o:=.lst [])));have S:H d=none:=z.free (Q.free B);have T:p≠d:=ay R B;have U:upd A d (.lst []) p=_:=(ak T).trans R;have X:upd A d (.lst []) d=some (.lst []):=aj;generalize upd A d (.lst [])=a2 at C U X⊢;refine⟨⟨_,SqL.of (C _ _ L)⟩,?_⟩;obtain⟨D,i⟩:∃D:Nat→L2.St→Hp→Prop,D=λq r g=>∃s u,r=[some (V.ref I),some (V.ref am),some (V.ref p),some (V.ref d),s,u]∧au H g∧g p=some (.dT (enc (vL c (Vbbhal.monthOf c.today))))∧g d=some (.lst ((iw c (J.take q)).map V.int)):=⟨_,rfl⟩;refine dZ (xs:=as.map V.ref) D ?_ ?_ ?_ ?_;·rw[i];exact⟨none,none,rfl,C,U,X⟩
 ·rintro q r g a3 b;rw[i]at b;obtain⟨s,u,rfl,e,j,h⟩:=b;exact SqL.of (e _ _ L)
 ·rintro q y r g hy b;rw[i]at b;obtain⟨s,u,rfl,e,j,h⟩:=b;rw[KL]at hy;obtain⟨a4,ap,rfl⟩:=JQ.mp hy;obtain⟨a5,Y,E⟩:=fF M ap;rw[KL]at Y;obtain⟨ar,F,rfl⟩:=JQ.mp Y;rw[bO]at E;obtain⟨a,n⟩:=an ar (J_ F);have G:=x.same e;have Z:=G.tre.ob;unfold hf at Z;have ac:=eK G.tre m (e _ _ E);rw[n]at ac;obtain⟨av,ax⟩:=Tr.bb n;obtain⟨a6,a7,ah,a8⟩:=G.tre.acA a ax;rw[av]at ah;simp_arith[Z,f.az];refine⟨_,ac,_,rfl,?_⟩;simp_arith[ah,f.bG];cases hb':a.budget with|none=>rw[i];refine⟨_,_,rfl,e,j,?_⟩;rw[take_snoc F,sJ c _ n,hb',Lj];exact h|some a9=>
  have aA:=BV c (J.take q);rw[K_]at aA;refine⟨tyL h,.inr ⟨_,.inl j⟩,_,cn (.inl j) (e _ _ E),_,rfl,_,c8 _ _,_,h,by rw[Ln];exact bq (by lia),?_⟩;rw[i];refine⟨_,_,rfl,λbd bi eb=>?_,?_,?_⟩;·rw[ak (ay eb S)];exact e _ _ eb
  ·rw[ak T];exact j
  ·rw[aj,take_snoc F,sJ c _ n,hb',Lp,xK m _ n];rfl
 ·rintro r g b;rw[i]at b;obtain⟨s,u,rfl,e,j,h⟩:=b;have:=M.len;rw[Ln]at this;rw[Ln,this,Lb]at h;walk_at"rd";exact k g d e S h)
theorem fold_min:∀(c:List Int)(x:Int),∃b,c.foldl (λ(b:Option Int)x=>some (match b with|none=>x|some y=>min x y)) (some x)=some b∧(b=x∨b∈c)∧b≤x∧∀y∈c,b≤y
 |[],x=>⟨x,rfl,.inl rfl,Int.le_refl _,λy d=>by cases d⟩|a::c,x=>by
  obtain⟨b,e,f,i,g⟩:=fold_min c (min a x);refine⟨b,e,?_,by lia,λy h=>?_⟩
  ·rcases f with z|z
   ·rcases Int.le_total a x with w|w;·exact .inr (by rw[z,Int.min_eq_left w];exact Ks ..)
    ·exact .inl (by rw[z,Int.min_eq_right w])
   ·exact .inr (J0 _ z)
  ·rcases LN.mp h with z|z;·lia
   ·exact g y z
theorem DZ(b:State)(c:Bytes):(iw b (Vbbhal.pathOf b c)=[]∧Vbbhal.leastLeft b c=none)∨(iw b (Vbbhal.pathOf b c)≠[]∧∀d,d∈iw b (Vbbhal.pathOf b c)→(∀y∈iw b (Vbbhal.pathOf b c),d≤y)→Vbbhal.leastLeft b c=some d):=by f_assign(
 have i:Vbbhal.leastLeft b c=(iw b (Vbbhal.pathOf b c)).foldl (λ(d:Option Int)x=>some (match d with|none=>x|some y=>min x y)) none:=by unfold Vbbhal.leastLeft iw;congr 1;congr 1;funext p;cases Vbbhal.accountAt b p with|none=>rfl|some a=>obtain⟨_,_,_,j⟩:=a;cases j<;>rfl
 rw[i];cases iw b (Vbbhal.pathOf b c)with|nil=>exact .inl ⟨rfl,rfl⟩|cons a e=>
  refine .inr ⟨by simp,λd f g=>?_⟩;obtain⟨l,m,n,o,h⟩:=fold_min e a;show e.foldl _ (some a)=some d;rw[m];have q:=g a (Ks ..);congr 1;rcases n with z|z
  ·rcases LN.mp f with w|w;·lia
   ·have:=h d w;lia
  ·have:=g l (J0 _ z);rcases LN.mp f with w|w;·lia
   ·have:=h d w;lia)
open Classical in
noncomputable def AF(c:State)(d:Hp)(e:V):V:=.bl (decide (∃x b a,e=.ref x∧d x=some (.tup (cv b))∧Vbbhal.accountAt c b=some a∧a.shut=true))
open Classical in
theorem AG{c:State}{d:Hp}{b:Bytes}{a:Account}(e:d x=some (.tup (cv b)))(f:Vbbhal.accountAt c b=some a):AF c d (.ref x)=.bl a.shut:=by
 unfold AF;cases z:a.shut;·rw[Lx];rintro⟨y,l,m,j,g,h,i⟩;cases j;rw[e]at g;have:=DE (HO.tup.inj (Lv g));rw[←this,f]at h;cases h;rw[z]at i;cases i
 ·rw[LF ⟨x,b,a,rfl,e,f,z⟩]
theorem uO{d:State}:∀{as:List Addr}{c:List Bytes},aY H as (c.map ci)→(∀b∈c,∃a,Vbbhal.accountAt d b=some a)→(((as.map V.ref).filter λ_=>true).map (AF d H))=(c.map λb=>(Vbbhal.accountAt d b).any λa=>a.shut).map V.bl|as,[],e,_=>by cases e;rfl|as,b::c,e,f=>by cases e with|cons g t=>rename_i a as';obtain⟨l,h⟩:=f b (Ks ..);rw[bO]at g;rw[LM,K8,Mj rfl,LM,uO t λi j=>f i (J0 _ j),AG g h,LM,LM,h];rfl
theorem aB.onA{d:Addr}{b:State}{c:Bytes}(e:aB H d b h (Vbbhal.onAccount b c F) Q):((if Vbbhal.isCode c=false then(-2:Int)else if(Vbbhal.accountAt b c).isNone=true then-4 else 0)=-2∧aB H d b h (Vbbhal.no b 2) Q)∨((if Vbbhal.isCode c=false then(-2:Int)else if(Vbbhal.accountAt b c).isNone=true then-4 else 0)=-4∧aB H d b h (Vbbhal.no b 4) Q)∨∃a,Vbbhal.accountAt b c=some a∧(if Vbbhal.isCode c=false then(-2:Int)else if(Vbbhal.accountAt b c).isNone=true then-4 else 0)=0∧aB H d b h (F a) Q:=by
 rcases nM b c F with⟨z1,z2⟩|⟨z1,z2⟩|⟨a,z0,z1,z2⟩;·exact .inl ⟨z2,by rw[←z1];exact e⟩
 ·exact .inr (.inl ⟨z2,by rw[←z1];exact e⟩)
 ·exact .inr (.inr ⟨a,z0,z2,by rw[←z1];exact e⟩)
theorem qk(e:Tx):Oz "answer_admit" 7 ["house","estimate","code"] (Aq λb m d=>Vbbhal.step b (.admit_ m d)):=by f_assign(
 have g:=e.fk.fs ["house","estimate","code","refusal","path","each","left","least"];refine e.fk.ok g (by walk_at"l") (λa7 a8 a9 bd bi H bj am bl i an=>?_);obtain⟨h,b,p,m,I,d,rfl,f,j,J,c⟩:=an;have ap:=bN i;refine⟨_,(ae (aG (ba (pt_val (ag (dQ e) i (aa (pv 1) (aa ao af))))) (ai (aq (aC (aa (aJ e.aN) af)))) aw) (ae (sT 3 g.nd (ag (bo e) i (aa (pv 0) (aa (pv 2) af)))) (ae (aG (pt_cmpR op_lt (pv 3) ao (aD _)) (ai (aq (aC (aa (pv 3) af)))) aw) (ae (sT 4 g.nd (ag (fT e) i (aa (pv 0) (aa (pv 2) af)))) (ae (aG (pt_val (aF (GK rfl) (by rfl) e.IQ G3 (aa (hG rfl g.nd (bE (pv 4)) (bS (l:=[("each",5)]) g) (λ_ _ _ _ _=>gN 5 g.nd) (λ_ _ _ _ _=>fb) (λ_ _ _ _ _=>(jq (K:=K) rfl (d6 ap (jq (K:=K) rfl (pv 0) rfl) (pv 5) (λ_ _=>rfl)) rfl))) af))) (ai (aq (aC (aa (aJ e.d5) af)))) aw) (ae (sT 6 g.nd (ag (qj e) i (aa (pv 0) (aa (pv 4) af)))) (ae (aG (pt_cmpR bg (aF bF (by rfl) e.bT bh (aa (pv 6) af)) ao (aD _)) (ai (aq (aC (aa ao af)))) aw) (ae (sT 7 g.nd (aF (GJ rfl) (by rfl) e.AS vh (aa (pv 6) af))) (ae (aG (pt_cmpR op_lt (pv 7) (pv 1) (aD _)) (ai (aq (aC (aa (aJ e.qv) af)))) aw) (ai (aq (ag (bx e) i (aa ao (aa (aC (aa (pv 7) af)) af)))))))))))))),?_⟩;walk_at"rd";have c:aB H h b p (Vbbhal.doAdmit b m d) am:=c;unfold Vbbhal.doAdmit at c;by_cases L:Vbbhal.isAmount m 0=false;·rw[Mj L]at c⊢;exact⟨by decide,c.one f rfl (au.refl H)⟩
 rw[Mi L]at c⊢;refine⟨h,b,p,I,d,rfl,f,j,J,λbm n=>?_⟩;rcases c.onA with⟨z2,c⟩|⟨z2,c⟩|⟨a,z0,z2,c⟩;·rw[z2];exact⟨_,rfl,by rw[Mj (by decide)];exact⟨by decide,c.one f rfl n⟩⟩
 ·rw[z2];exact⟨_,rfl,by rw[Mj (by decide)];exact⟨by decide,c.one f rfl n⟩⟩
 rw[z2];refine⟨_,rfl,?_⟩;rw[Mi (by decide)];have M:=f.same n;refine⟨h,b,p,I,d,rfl,M.tre,j,n _ _ J,.inr ⟨a,z0⟩,λN l as O bn z q=>?_⟩;have ar:=(j.tree.wf.chain z0).1;have av:=(j.tree.wf.chain z0).2;have A:∀r∈Vbbhal.pathOf b d,∃a,Vbbhal.accountAt b r=some a:=λr B=>ar.acc B;have ax:=M.same O;have aA:=q.len;rw[Ln]at aA;refine⟨l,rfl,⟨_,SqL.of z⟩,?_⟩;refine fD (λ_=>true) (AF b N) (SqL.of z) (by rw[Ln];show _≤2^24;lia) (λx aE bv bP bT Q s b1=>?_) (λR aI=>?_);·obtain⟨y,aK,rfl⟩:=LX.mp aE;obtain⟨b2,aM⟩:=JX.mp aK;obtain⟨b3,S,C⟩:=fF q aM;rw[KL]at S;obtain⟨r,B,rfl⟩:=JQ.mp S;rw[bO]at C;obtain⟨ad,D⟩:=A r (J_ B);have s:=s rfl;rw[AG C D]at s;have E:=ax.same Q;have T:=E.tre.ob;unfold hf at T;have U:=eK E.tre j (Q _ _ C);rw[D]at U;obtain⟨aN,aP⟩:=Tr.bb D;obtain⟨b4,b5,X,b6⟩:=E.tre.acA ad aP;rw[aN]at X;simp_arith[T,e.az];refine⟨_,U,_,rfl,?_⟩;simp_arith[X,e.bG];exact s
 ·rw[uO q A];refine⟨R,rfl,_,SqL.of aj,?_⟩;have aR:(((Vbbhal.pathOf b d).map λd=>(Vbbhal.accountAt b d).any λa=>a.shut).any id)=(Vbbhal.pathOf b d).any λh=>(Vbbhal.accountAt b h).any λa=>a.shut:=by rw[List.any_map];rfl
  rw[aR];have u:=au.new aI (o:=.lst (((Vbbhal.pathOf b d).map λd=>(Vbbhal.accountAt b d).any λa=>a.shut).map V.bl));generalize upd N R (.lst (((Vbbhal.pathOf b d).map λd=>(Vbbhal.accountAt b d).any λa=>a.shut).map V.bl))=b7 at u⊢;have F:=n.trans (O.trans u);by_cases Y:((Vbbhal.pathOf b d).any λh=>(Vbbhal.accountAt b h).any λa=>a.shut)=true;·rw[Mj Y]at c⊢;exact⟨by decide,c.one f rfl F⟩
  rw[Mi Y]at c⊢;refine⟨h,b,p,l,as,Vbbhal.pathOf b d,rfl,f.same F,j,u _ _ z,bY (λb8 b9 aT=>u _ _ aT) q,A,av,λca Z aU cc ac=>?_⟩;have v:=F.trans aU;refine⟨Z,rfl,_,ac,?_⟩;rw[Ln];rcases DZ b d with⟨y1,y2⟩|⟨y1,y2⟩;·rw[y1];rw[Mj (show((([]:List Int).length:Nat):Int)=0 from rfl)];rw[y2]at c;exact⟨by decide,c.one f rfl v⟩
  ·have a0:0<(iw b (Vbbhal.pathOf b d)).length:=List.length_pos_iff.mpr y1;rw[Mi (by lia)];refine⟨Z,rfl,_,SqL.of ac,a0,λG a1 a2=>?_⟩;rw[y2 G a1 a2]at c;dsimp only at c;by_cases ah:G<m;·rw[Mj ah]at c⊢;exact⟨by decide,c.one f rfl v⟩
   ·rw[Mi ah]at c⊢;refine⟨by decide,λa3 al=>⟨1,a3,[G],rfl,.inl aj,by simp,λcd ce a4 a5 a6=>?_⟩⟩;exact c.read f (v.trans ((au.new al).trans a4)) (v.free ((au.new al).free a5)) a6)
inductive D0(F:State→Int→Bytes→State×Ans)(vs:List V)(H:Hp)(Q:VK)(E:XK):Prop|mk(p:Addr)(s:State)(h:HA)(m:Int)(q:Addr)(c:Bytes):vs=[.ref p,.int m,.ref q]→aH H p s h→Good s→H q=some (.tup (cv c))→(aB H p s h (F s m c) Q)→D0 F vs H Q E
theorem aB.onM{f:Addr}{c:State}{d:Int}{e:Bytes}(b:aB H f c h (if Vbbhal.isMonth d=false then Vbbhal.no c 1 else Vbbhal.onAccount c e F) Q):(∃k:Nat,0<k∧(if Vbbhal.isMonth d=false then(-1:Int)else if Vbbhal.isCode e=false then-2 else if(Vbbhal.accountAt c e).isNone=true then-4 else 0)=-(k:Int)∧aB H f c h (Vbbhal.no c k) Q)∨∃a,Vbbhal.accountAt c e=some a∧0≤d∧d≤11999∧(if Vbbhal.isMonth d=false then(-1:Int)else if Vbbhal.isCode e=false then-2 else if(Vbbhal.accountAt c e).isNone=true then-4 else 0)=0∧aB H f c h (F a) Q:=by
 by_cases g:Vbbhal.isMonth d=false;·rw[Mj g]at b⊢;exact .inl ⟨1,by lia,rfl,b⟩
 ·rw[Mi g]at b⊢;have:=Gm.aX.mp (Gm.tof g);rcases b.onA with⟨z2,b⟩|⟨z2,b⟩|⟨a,z0,z2,b⟩;·exact .inl ⟨2,by lia,z2,b⟩
  ·exact .inl ⟨4,by lia,z2,b⟩
  ·exact .inr ⟨a,z0,this.1,this.2,z2,b⟩
theorem ql(e:Tx):Oz "answer_spent" 6 ["house","month","code"] (D0 λb c d=>Vbbhal.step b (.spent c d)):=by f_assign(
 have m:=e.fq.fs ["house","month","code","refusal","own","spent"];refine e.fq.ok m (by walk_at"l") (λO Q R S T C U D X g E=>?_);obtain⟨j,b,l,c,F,d,rfl,h,i,n,f⟩:=E;have p:=bN g;refine⟨_,(ae (sT 3 m.nd (ag (cZ e) g (aa (pv 0) (aa (pv 1) (aa (pv 2) af))))) (ae (aG (pt_cmpR op_lt (pv 3) ao (aD _)) (ai (aq (aC (aa (pv 3) af)))) aw) (ae (sT 4 m.nd (bC p (ag (jr e) g (aa (pv 0) (aa (pv 1) af))) (pv 2) ao ⟨rfl,rfl,rfl,rfl⟩)) (ae (sT 5 m.nd (bC p (ag (pR e) g (aa (pv 0) (aa (pv 1) af))) (pv 2) ao ⟨rfl,rfl,rfl,rfl⟩)) (ai (aq (ag (bx e) g (aa ao (aa (aC (aa (pv 4) (aa (pv 5) (aa (bC p (ag (gx e) g (aa (pv 0) (aa (pv 1) af))) (pv 2) ao ⟨rfl,rfl,rfl,rfl⟩) af)))) af))))))))),?_⟩;walk_at"rd";refine⟨j,b,l,c,F,d,rfl,h,i,n,λY o=>⟨_,rfl,?_⟩⟩;have f:aB C j b l (if Vbbhal.isMonth c=false then Vbbhal.no b 1 else Vbbhal.onAccount b d λ_=>Vbbhal.yes b 0 [[Vbbhal.own b c.toNat d,Vbbhal.spent b c.toNat d,(Vbbhal.overheadOf b c.toNat d:Int)]]) D:=f;rcases f.onM with⟨k,hk,z2,f⟩|⟨a,z0,m1,m2,z2,f⟩;·rw[z2,Mj (by lia)];exact⟨by decide,f.one h rfl o⟩
 rw[z2,Mi (by decide)];obtain⟨c,rfl⟩:=JF m1;refine⟨j,b,l,c,rfl,h.same o,i,λZ G s ac u=>⟨G,rfl,.inr ⟨_,.inl u⟩,_,cn (.inl u) (s _ _ (o _ _ n)),?_⟩⟩;have q:=o.trans s;refine⟨j,b,l,c,rfl,h.same q,i,λah H v al x=>⟨H,rfl,.inr ⟨_,.inl x⟩,_,cn (.inl x) (v _ _ (q _ _ n)),?_⟩⟩;have r:=q.trans v;refine⟨j,b,l,c,rfl,h.same r,i,λam I y an z=>⟨I,rfl,.inr ⟨_,.inl z⟩,_,cn (.inl z) (y _ _ (r _ _ n)),by decide,λJ A=>?_⟩⟩;have B:=r.trans y;rw[c8,c8,c8,DY,xK i c z0,AE i];refine⟨0,J,[Vbbhal.own b c d,Vbbhal.spent b c d,(Vbbhal.overheadOf b c d:Int)],rfl,.inl aj,by simp,λap ar L M N=>?_⟩;exact f.read h (B.trans ((au.new A).trans L)) (B.free ((au.new A).free M)) N)
theorem AH{f:Addr}{g:State}{b:HA}(d:aH H f g b)(a:Nat):bt b.kI (ki a)=if a∈b.ms then some (.ref (b.im a))else none:=by f_assign(
 have nd:(b.ms.map λa=>ki a).Nodup:=by have:=d.re.msN;unfold List.Nodup at this⊢;rw[KO];exact this.imp λ{x y}h e=>h (cw e)
 by_cases c:a∈b.ms;·rw[Mj c];exact qK (key:=λa:Nat=>ki a) (val:=λa=>V.ref (b.im a)) d.re.ivR nd c
 ·rw[Mi c,Km.oU d.re.ivR nd,Kq.mpr];·rfl
  ·intro x hx e;exact c (by rw[←cw (KU e)];exact hx))
theorem Iz{b:State}(f:Good b)(e:Nat):((b.invoices.filter λa=>a.month==e).map λa=>ck a.code).Nodup:=by have c:((b.invoices.filter λa=>a.month==e).map Gm.B7).Nodup:=Kn (List.Sublist.map _ Kf) f.ik;unfold List.Nodup at c⊢;rw[KO]at c⊢;refine(List.Pairwise.and_mem.mp c).imp λ{x y}d g=>?_;have h:=(Lr.mp d.1).2;have i:=(Lr.mp d.2.1).2;exact d.2.2 (by unfold Gm.B7;rw[eq_of_beq h,eq_of_beq i,fS g])
theorem nQ(i:Tx):Oz "answer_invoice" 6 ["house","month","code"] (D0 λe c f=>Vbbhal.step e (.invoice c f)):=by f_assign(
 have q:=i.dM.fs ["house","month","code","refusal","invoice"];refine i.dM.ok q (by walk_at"l") (λac ah al am an C ap D ar r O=>?_);obtain⟨s,e,g,c,u,f,rfl,h,E,v,d⟩:=O;have F:=bN r;refine⟨_,(ae (sT 3 q.nd (ag (cZ i) r (aa (pv 0) (aa (pv 1) (aa (pv 2) af))))) (ae (aG (pt_cmpR op_lt (pv 3) ao (aD _)) (ai (aq (aC (aa (pv 3) af)))) aw) (ae (aG (pt_cmpR op_ge (pv 1) (pe_fld (pv 0) rfl) (aD _)) (ai (aq (aC (aa (aJ i.d5) af)))) aw) (ae (sT 4 q.nd (CS F (bC F (pe_fld (pv 0) rfl) (pv 1) cX ⟨rfl,rfl,rfl,rfl⟩) (pv 2) ⟨rfl,rfl,rfl,rfl⟩)) (ae (aG (pt_cmpR Gz (pv 4) uW (aD _)) (ai (aq (aC (aa ao af)))) aw) (ai (aq (ag (bx i) r (aa ao (aa (pv 4) af)))))))))),?_⟩;walk_at"rd";refine⟨s,e,g,c,u,f,rfl,h,E,v,λG m=>⟨_,rfl,?_⟩⟩;have d:=d.onM;rcases d with⟨k,hk,z2,d⟩|⟨a,z0,m1,m2,z2,d⟩;·rw[z2,Mj (by lia)];exact⟨by decide,d.one h rfl m⟩
 rw[z2,Mi (by decide)];obtain⟨c,rfl⟩:=JF m1;have x:=h.same m;have H:=x.tre.ob;unfold hf at H;simp_arith[H,i.az];by_cases I:e.closed≤c;·rw[Mj (by lia)];have d:aB C s e g (if e.closed≤c then Vbbhal.no e 6 else _) D:=d;rw[Mj I]at d;exact⟨by decide,d.one h rfl m⟩
 rw[Mi (by lia)];have d:aB C s e g (if e.closed≤c then Vbbhal.no e 6 else _) D:=d;rw[Mi I]at d;refine⟨.inl ⟨_,.inl x.re.iv⟩,λn Q=>?_⟩;have z:=au.new Q (o:=.dT ([]:List (List Key×V)));have A:upd G n (.dT []) n=some (.dT ([]:List (List Key×V))):=aj;generalize upd G n (.dT [])=av at z A⊢;have B:=x.same z;have j:=m.trans z;refine⟨bt g.kI (ki c),.inl ⟨g.kI,ki c,.inl B.re.iv,rfl,rfl⟩,?_⟩;rw[AH h c];by_cases p:c∈g.ms
 · rw[Mj p];obtain⟨J,R⟩:=B.re.ivD c p;refine⟨g.im c,rfl,.inr ⟨_,.inl J⟩,bt (g.kM c) (ck f),.inr ⟨g.kM c,ck f,u,.inl J,rfl,by rw[cK];exact j _ _ v,rfl⟩,?_⟩;have S:bt (g.kM c) (ck f)=(e.invoices.find? λb=>b.month==c&&b.code==f).map λb=>V.ref (g.ia c b.code):=by
     rw[Km.oU R (Iz E c),List.find?_filter];congr 1;congr 1;funext b;by_cases L:b.month=c<;>by_cases y:b.code=f;·simp[y,L]
     ·have:¬ck b.code=ck f:=λw=>y (fS w);simp[y,this]
     ·simp[y,L]
     ·have:¬ck b.code=ck f:=λw=>y (fS w);simp[y,this]
   rw[S];cases y:e.invoices.find? λb=>b.month==c&&b.code==f with|none=>have l:(e.invoices.find? λb=>b.month==((c:Int)).toNat&&b.code==f)=none:=y;rw[l]at d;show if(V.non:V)=V.non then _ else _;rw[Mj rfl];exact⟨by decide,d.one h rfl j⟩|some b=>have l:(e.invoices.find? λb=>b.month==((c:Int)).toNat&&b.code==f)=some b:=y;rw[l]at d;rw[Mi nofun];have T:=Jy y;have M:=Lm y;simp only[Bool.and_eq_true,beq_iff_eq]at M;have N:=B.re.ivT b T;rw[M.1]at N;refine⟨1,g.ia c b.code,[b.own,(b.discount:Int),(b.share:Int),Vbbhal.invoiceTotal b],rfl,.inr N,by simp,λax aA U X Y=>?_⟩;exact d.read h (j.trans U) (j.free X) Y
 ·rw[Mi p];refine⟨n,rfl,.inr ⟨_,.inl A⟩,none,.inr ⟨_,ck f,u,.inl A,rfl,by rw[cK];exact j _ _ v,rfl⟩,?_⟩;have l:(e.invoices.find? λb=>b.month==((c:Int)).toNat&&b.code==f)=none:=by refine Kq.mpr λb Z w=>p ?_;simp only[Bool.and_eq_true,beq_iff_eq]at w;have:=h.re.ivM b Z;rw[w.1]at this;exact this
  rw[l]at d;show if(V.non:V)=V.non then _ else _;rw[Mj rfl];exact⟨by decide,d.one h rfl j⟩)
theorem D1:∀{a c:Bytes},Vbbhal.before a c=true→dO (ci a) (ci c)=true
 |[],[],b=>by cases b|[],_::_,_=>rfl|_::_,[],b=>by cases b|a::e,c::f,b=>by
  rw[Sm.qz]at b;show(decide ((a.toNat:Int)<(c.toNat:Int))||((a.toNat:Int)==(c.toNat:Int)&&dO (ci e) (ci f)))=true;by_cases d:a=c;·rw[Mj d]at b;subst d;simp[D1 b]
  ·rw[Mi d]at b;have:=KU b;simp;omega
theorem BW{a b:List (List Int)}(c:a.Perm b)(g:a.Pairwise λx y=>dO x y=true)(h:b.Pairwise λx y=>dO x y=true):a=b:=by apply List.ext_getElem?;intro i;cases e:a[i]? with|none=>exact(JU (by rw[←c.length_eq];exact List.getElem?_eq_none_iff.mp e)).symm|some x=>obtain⟨l,d⟩:=JX.mp (c.mem_iff.mp (J_ e));have f:=Pm.iP g e;have j:=Pm.iP h d;rw[(c.filter _).length_eq]at f;rw[←f,j,d]
theorem Fh(a:List (List Key×V))(k:List Key)(b:V):(putK a k b).length≤a.length+1:=by
 unfold putK;split;·rw[Ln];lia
 ·rw[Kr];exact L6 _
def kids(b:List Account)(c:Bytes):List Bytes:=(b.filter λa=>a.parent.getD []==c).map λa=>a.code
theorem BX(c:List Account)(a:Account)(b:Bytes):kids (c++[a]) b=kids c b++if a.parent.getD []=b then[a.code]else[]:=by
 unfold kids;rw[Ko,Lp];by_cases d:a.parent.getD []=b;·simp[d]
 ·simp[d]
def kG(d:Hp)(f:Addr)(b:List Account):Prop:=∃c:List (List Key×V),d f=some (.dT c)∧c.length≤b.length∧∀a,(kids b a=[]∧bt c (ck a)=none)∨∃e as,bt c (ck a)=some (.ref e)∧d e=some (.lst (as.map V.ref))∧aY d as ((kids b a).map ci)∧kids b a≠[]
inductive D3(vs:List V)(H:Hp)(Q:VK)(E:XK):Prop|mk(p:Addr)(s:State)(h:HA):vs=[.ref p]→aH H p s h→Good s→(∀H' d,au H H'→H d=none→kG H' d s.accounts→Q (.ref d) H')→D3 vs H Q E
theorem fN(u:Tx):Oz "children_by_parent" 1 ["house"] (D3):=by f_assign(
 have E:=u.cb.fs ["house","children","code","parent"];refine u.cb.ok E (by walk_at"l") (λcp cr cs ct cL v cT c0 c1 bP h=>?_);obtain⟨bT,d,c2,rfl,X,i,k⟩:=h;have Y:=bN bP;refine⟨_,(ae (sT 1 E.nd cX) (ae (bW Lw rfl (bE (aF (yV rfl) (by rfl) u.oh lg (aa (pe_fld (pv 0) rfl) af))) (gN 2 E.nd) (ae (sT 3 E.nd (pe_fld (d6 Y (pe_fld (pv 0) rfl) (pv 2) (λ_ _=>rfl)) rfl)) (ai (df Y (pv 1) (pv 3) (aS GI (bC Y (pv 1) (pv 3) (aC af) ⟨rfl,rfl,rfl,rfl⟩) (aC (aa (pv 2) af))) rfl)))) (ai (aq (pv 1))))),?_⟩;walk_at"rd";intro e Z;have F:au v (upd v e (.dT ([]:List (List Key×V)))):=au.new Z;have ac:upd v e (.dT []) e=some (.dT ([]:List (List Key×V))):=aj;generalize upd v e (.dT [])=ah at F ac⊢;have aN:=X.same F;have aP:=aN.tre.ob;unfold hf at aP;simp_arith[aP,u.az,xo];obtain⟨xs,aR,b1⟩:=perm_unmap X.tre.acR;have b2:∀G:Bytes,ck G=(ci G).map Sum.inl:=λG=>by unfold ck ci;rw[LV];rfl
 refine⟨_,.inl aN.ac,xs.map λa=>ci a.code,?_,λG b3=>?_,λas al m b4 b5 am H=>?_⟩;·rw[b1,LV,LV];exact Kh λa _=>b2 a.code
 ·obtain⟨a,I,rfl⟩:=LX.mp b3;have b6:=qL i (i.tree.wf.at_ (aR.mem_iff.mp I));intro A;exact b6 (List.map_eq_nil_iff.mp A)
 have b7:al=d.accounts.map λa=>ci a.code:=by
  have aT:al.Perm (d.accounts.map λa=>ci a.code):=b4.trans (aR.map _);have aU:(d.accounts.map λa=>ci a.code).Pairwise λx y=>dO x y=true:=by rw[KO];exact i.tree.srt.imp λJ=>D1 J
  have nd:al.Nodup:=by rw[aT.nodup_iff];unfold List.Nodup;exact aU.imp λ{x y}J f=>by rw[f,Pm.vD]at J;cases J
  exact BW aT (Pm.sg nd b5) aU
 rw[b7]at am;have b8:e≠m:=ay ac H;have a0:=F.trans (au.new H (o:=.lst (as.map V.ref)));have a1:=bY (λb xs f=>au.new H (o:=.lst (as.map V.ref)) _ _ f) am;have a2:upd ah m (.lst (as.map V.ref)) e=_:=(ak b8).trans ac;have an:upd ah m (.lst (as.map V.ref)) m=some (.lst (as.map V.ref)):=aj;have fr:v m=none:=F.free H;generalize upd ah m (.lst (as.map V.ref))=c3 at a0 a1 a2 an⊢;refine⟨⟨_,SqL.of an⟩,?_⟩;obtain⟨ap,B⟩:∃ap:Nat→L2.St→Hp→Prop,ap=λj L c=>∃M N,L=[some (V.ref bT),some (V.ref e),M,N]∧au v c∧c m=some (.lst (as.map V.ref))∧aY c as (d.accounts.map λa=>ci a.code)∧kG c e (d.accounts.take j):=⟨_,rfl⟩;refine dZ (xs:=as.map V.ref) ap ?_ ?_ ?_ ?_;·rw[B];exact⟨none,none,rfl,a0,an,a1,[],a2,L7 _,λar=>.inl ⟨rfl,rfl⟩⟩
 ·rintro j L c c4 h;rw[B]at h;obtain⟨M,N,rfl,C,O,Q,av⟩:=h;exact SqL.of O
 ·rintro j y L c hy h;rw[B]at h;obtain⟨M,N,rfl,C,O,Q,n,D,c5,a3⟩:=h;rw[KL]at hy;obtain⟨b,b9,rfl⟩:=JQ.mp hy;obtain⟨c6,a4,ax⟩:=fF Q b9;rw[KL]at a4;obtain⟨a,I,rfl⟩:=JQ.mp a4;rw[bO]at ax;have a5:=J_ I;have ca:=i.tree.wf.at_ a5;have aA:=X.same C;have a6:=aA.tre.ob;unfold hf at a6;have a7:=eK aA.tre i ax;rw[ca]at a7;obtain⟨c7,cc,cd,a8⟩:=aA.tre.acA a a5;simp_arith[a6,u.az];refine⟨_,a7,_,rfl,?_⟩;simp_arith[cd,u.bG];refine⟨.inr ⟨_,.inl D⟩,L7 _,λp aE=>⟨bt n (ck (a.parent.getD [])),?_,?_⟩⟩;·exact .inr ⟨n,ck (a.parent.getD []),cc,.inl (au.new aE _ _ D),rfl,by rw[cK];exact au.new aE _ _ a8,rfl⟩
  refine⟨by decide,λz a9=>?_⟩;have sm3:au c (upd (upd c p (.lst [])) z (.lst [.ref b])):=(au.new aE).trans (au.new a9);have bd:upd (upd c p (.lst [])) z (.lst [.ref b]) z=some (.lst [.ref b]):=aj;have bi:upd (upd c p (.lst [])) z (.lst [.ref b]) p=some (.lst []):=au.new a9 _ _ aj;generalize upd (upd c p (.lst [])) z (.lst [.ref b])=R at sm3 bd bi⊢;obtain⟨S,g,ce,ch,bj⟩:∃S g,(bt n (ck (a.parent.getD []))).getD (V.ref p)=.ref S∧R S=some (.lst (g.map V.ref))∧aY R g ((kids (d.accounts.take j) (a.parent.getD [])).map ci):=by
   rcases a3 (a.parent.getD [])with⟨q,r⟩|⟨aI,aK,q,r,aM,bl⟩;·rw[q,r];exact⟨p,[],rfl,bi,.nil⟩
   ·rw[q];exact⟨aI,aK,rfl,sm3 _ _ r,bY (λb xs f=>sm3 _ _ f) aM⟩
  rw[ce];have c9:g.length≤200:=by
   have cj:=bj.len;rw[Ln]at cj;have da:(kids (d.accounts.take j) (a.parent.getD [])).length≤(d.accounts.take j).length:=by unfold kids;rw[Ln];exact JV ..
   have cl:(d.accounts.take j).length≤d.accounts.length:=by rw[K_];lia
   have cm:=i.alen;have co:=i.capA;lia
  refine⟨S,z,_,_,rfl,rfl,ch,bd,by rw[Ln];show g.length+1≤2^24;lia,λs bm=>?_⟩;have sm4:=sm3.trans (au.new bm (o:=.lst (g.map V.ref++[.ref b])));have bn:=au.new bm (o:=.lst (g.map V.ref++[.ref b]));have bv:upd R s (.lst (g.map V.ref++[.ref b])) s=some (.lst (g.map V.ref++[.ref b])):=aj;generalize upd R s (.lst (g.map V.ref++[.ref b]))=T at sm4 bn bv⊢;have db:n.length≤200:=by
   have cl:(d.accounts.take j).length≤d.accounts.length:=by rw[K_];lia
   have cm:=i.alen;have co:=i.capA;lia
  refine⟨_,iA.t (k:=ck (a.parent.getD [])) (sm4 _ _ D) (by rw[cK];exact sm4 _ _ a8) (bq (by lia)),?_⟩;have U:∀l xs,T l=some (.tup xs)→upd T e (.dT (putK n (ck (a.parent.getD [])) (.ref s))) l=some (.tup xs):=λl xs eb=>by rw[ak (λw=>by rw[w,sm4 _ _ D]at eb;cases eb)];exact eb
  have kl:∀l xs,T l=some (.lst xs)→upd T e (.dT (putK n (ck (a.parent.getD [])) (.ref s))) l=some (.lst xs):=λl xs eb=>by rw[ak (λw=>by rw[w,sm4 _ _ D]at eb;cases eb)];exact eb
  rw[B];refine⟨_,_,rfl,λl dd eb=>?_,kl _ _ (sm4 _ _ O),bY (λb xs f=>U _ _ (sm4 _ _ f)) Q,?_⟩;·rw[ak (ay eb Z)];exact sm4 _ _ (C _ _ eb)
  ·rw[take_snoc I];refine⟨_,aj,?_,λar=>?_⟩;·have:=Fh n (ck (a.parent.getD [])) (.ref s);rw[Kr,List.length_singleton];lia
   ·rw[CI,BX];by_cases w:ar=a.parent.getD []
    ·right;subst w;rw[Mj rfl,Mj rfl];refine⟨s,g++[b],rfl,?_,?_,by simp⟩;·rw[Lp];exact kl _ _ bv
     ·rw[Lp];exact aY.snoc (by rw[bO];exact U _ _ (sm4 _ _ ax)) (bY (λb xs f=>U _ _ (bn _ _ f)) bj)
    ·rw[Mi (λA=>w (fS A)),Mi (λA=>w A.symm),Lj];rcases a3 ar with⟨q,r⟩|⟨aI,aK,q,r,aM,bl⟩;·exact .inl ⟨q,r⟩
     ·exact .inr ⟨aI,aK,q,kl _ _ (sm4 _ _ r),bY (λb xs f=>U _ _ (sm4 _ _ f)) aM,bl⟩
 ·rintro L c h;rw[B]at h;obtain⟨M,N,rfl,C,O,Q,av⟩:=h;have:=am.len;rw[Ln]at this;rw[Ln,this,Lb]at av;walk_at"rd";exact k c e C Z av)
theorem D4{g:State}(b:Good g){a:Account}(e:a∈g.accounts)(f:a.parent=some q):q≠[]:=by have:=(uH b (b.tree.wf.at_ e)).2;rw[f]at this;intro i;obtain⟨o,j,_⟩:=b.tree.ch a e;cases j with|@top _ l c d=>rw[b.tree.wf.at_ e]at c;cases c;rw[f]at d;cases d|@up _ p l r c d h=>rw[b.tree.wf.at_ e]at c;cases c;rw[f]at d;cases d;obtain⟨t,m⟩:=h.ne;obtain⟨s,n⟩:=h.acc (x:=q) (by rw[m];simp);exact qL b n i
theorem D5{b:State}(d:Good b):kids b.accounts []=(b.accounts.filter λa=>a.parent==none).map λa=>a.code:=by unfold kids;congr 1;apply KI;intro a ha;cases z:a.parent with|none=>rfl|some c=>have:=D4 d ha z;show(c==[])=(some c==none);simp[this]
theorem AI{c:State}(f:Good c){b:Bytes}(e:b≠[]):kids c.accounts b=Vbbhal.children c b:=by unfold kids Vbbhal.children;congr 1;apply KI;intro a ha;cases z:a.parent with|none=>show(([]:Bytes)==b)=(none==some b);simp;exact e|some d=>show(d==b)=(some d==some b);simp
theorem D6{b:State}{d x:Bytes}(c:x∈kids b.accounts d):∃a∈b.accounts,a.code=x:=by unfold kids at c;obtain⟨a,e,f⟩:=LX.mp c;exact⟨a,(Lr.mp e).1,f⟩
theorem mG(f:Tx):Oz "answer_children" 5 ["house","code"] (xy λc b=>Vbbhal.step c (.children b)):=by f_assign(
 have C:=f.dh.fs ["house","code","children"];refine f.dh.ok C (by walk_at"l") (λaI aK aM aN aP D aR E aT j O=>?_);obtain⟨s,c,p,Q,b,rfl,q,h,u,d⟩:=O;have R:=bN j;refine⟨_,(ae (aG (ba (pt_val (ag (dU f) j (aa (pv 1) af)))) (ai (aq (aC (aa (aJ f.cT) af)))) aw) (ae (aG (ba (pt_val (ag (kq f) j (aa (pv 0) (aa (pv 1) af))))) (ai (aq (aC (aa (aJ f.dA) af)))) aw) (ae (sT 2 C.nd (bC R (ag (fN f) j (aa (pv 0) af)) (pv 1) (aC af) ⟨rfl,rfl,rfl,rfl⟩)) (ai (aq (ag (gH f) j (aa (aF bF (by rfl) f.bT bh (aa (pv 2) af)) (aa (pv 2) af)))))))),?_⟩;walk_at"rd";have d:aB D s c p (if b=[]then Vbbhal.yes c ((c.accounts.filter λa=>a.parent==none).map λa=>a.code).length (((c.accounts.filter λa=>a.parent==none).map λa=>a.code).map Vbbhal.ints)else Vbbhal.onAccount c b λ_=>Vbbhal.yes c (Vbbhal.children c b).length ((Vbbhal.children c b).map Vbbhal.ints)) E:=d;refine⟨b,u,λaU l=>?_⟩;have F:=q.same l;by_cases i:(decide (b=[])||Vbbhal.isCode b)=false;·rw[Mj i];simp only[Bool.or_eq_false_iff,decide_eq_false_iff_not]at i;rw[Mi i.1,lC i.2]at d;exact⟨by decide,d.one q rfl l⟩
 rw[Mi i];refine⟨c,⟨p,F⟩,h,b,l _ _ u,?_⟩;by_cases g:(decide (b=[])||(Vbbhal.accountAt c b).isSome)=false
 ·rw[Mj g];simp only[Bool.or_eq_false_iff,decide_eq_false_iff_not]at i g;have e:Vbbhal.accountAt c b=none:=by cases e:Vbbhal.accountAt c b with|none=>rfl|some a=>rw[e]at g;cases g.2
  rw[Mi g.1,jm (λw=>i ⟨g.1,w⟩) e]at d;exact⟨by decide,d.one q rfl l⟩
 rw[Mi g];have d:aB D s c p (Vbbhal.yes c (kids c.accounts b).length ((kids c.accounts b).map Vbbhal.ints)) E:=by
  by_cases e:b=[];·rw[Mj e]at d;rw[e,D5 h];exact d
  ·rw[Mi e]at d;rw[AI h e];have S:¬Vbbhal.isCode b=false:=λw=>i (by rw[w,Lx e];rfl);cases y:Vbbhal.accountAt c b with|none=>rw[y,Lx e]at g;exact absurd rfl g|some a=>rw[jn S y]at d;exact d
 refine⟨s,c,p,rfl,F,h,λG T U a0 X=>?_⟩;obtain⟨v,H,a1,Y⟩:=X;have z:=l.trans U;refine⟨T,rfl,.inr ⟨_,.inl H⟩,L7 _,λm Z=>?_⟩;have sm3:=au.new Z (o:=.lst []);have I:upd G m (.lst []) m=some (.lst []):=aj;generalize upd G m (.lst [])=J at sm3 I⊢;refine⟨bt v (ck b),.inr ⟨v,ck b,Q,.inl (sm3 _ _ H),rfl,by rw[cK];exact sm3 _ _ (z _ _ u),rfl⟩,?_⟩;obtain⟨n,r,ac,L,M⟩:∃n r,(bt v (ck b)).getD (V.ref m)=.ref n∧J n=some (.lst (r.map V.ref))∧aY J r ((kids c.accounts b).map ci):=by
  rcases Y b with⟨A,B⟩|⟨ah,al,A,B,am,a2⟩;·rw[A,B];exact⟨m,[],rfl,I,.nil⟩
  ·rw[A];exact⟨ah,al,rfl,sm3 _ _ B,bY (λa3 a4 an=>sm3 _ _ an) am⟩
 rw[ac];have a5:(kids c.accounts b).length≤200:=by
  have a6:(kids c.accounts b).length≤c.accounts.length:=by unfold kids;rw[Ln];exact JV ..
  have a7:=h.alen;have a8:=h.capA;lia
 refine⟨n,rfl,_,L,_,n,r,(kids c.accounts b).map ci,rfl,L,M.rows,mB (k:=8) (λa9 j=>?_) (by rw[Ln];lia),λbd bi ap ar av=>?_⟩;·obtain⟨x,ax,rfl⟩:=LX.mp j;obtain⟨a,aA,rfl⟩:=D6 ax;rw[o5];exact sC h (h.tree.wf.at_ aA)
 ·have aE:=z.trans (sm3.trans ap);refine d.read q aE (z.free (sm3.free ar)) ?_;have N:=M.len;rw[Ln]at N;rw[av,Ln,N];rfl)
inductive F9(vs:List V)(H:Hp)(Q:VK)(E:XK):Prop|mk(p:Addr)(s:State)(h:HA)(m:Int):vs=[.ref p,.int m]→aH H p s h→Good s→(aB H p s h (Vbbhal.step s (.total m)) Q)→F9 vs H Q E
theorem xQ(a:Mm.Mp):(enc a).map (·.2)=(a.map (·.2)).map V.int:=by unfold enc;rw[LV,LV];rfl
def Fi:List V→Hp→VK→Prop:=λf a g=>∃(b e:Addr)(c:List (List Key×V)),f=[.ref b]∧a b=some (gn b e)∧Rd a e (.dT c)∧(c.length≤sizeLine→∀d,a d=none→g (.ref d) (upd a d (.lst (c.map (·.2)))))
theorem BY{a:Cx}(d:a.calm=true):cx a (.type "list") Fi:=by intro e f g h r i j b rv l;obtain⟨m,n,o,rfl,p,c,q⟩:=l;exact C6 d e f g h _ i j b rv ⟨m,n,o,rfl,p,c,q (c.ok b.hok).1⟩
theorem sL{a b:List Int}(c:a.Perm b):a.sum=b.sum:=by induction c with|nil=>rfl|cons x _ d=>rw[LO,LO,d]|swap x y a=>simp only[List.sum_cons];lia|trans _ _ e f=>rw[e,f]
def jB(b:Hp)(k:Nat):V→V
 |.ref a=>match b a with|some (.tup c)=>c.getD k .non|_=>.non
 |_=>.non
theorem qm(g:Tx):Oz "answer_total" 6 ["house","month"] (F9):=by f_assign(
 have h:=g.fu.fs ["house","month","size","entry","owns","overheads","invoices","discounts","invoice"];refine g.fu.ok h (by walk_at"l") (λdL dT dV dW dX A d0 b8 d1 B b9=>?_);obtain⟨S,n,e,b,rfl,i,G,s⟩:=b9;have ca:=bN B;refine⟨_,(ae (aG (ba (pt_val (ag (kr g) B (aa (pv 1) af)))) (ai (aq (aC (aa (aJ g.aN) af)))) aw) (ae (sT 2 h.nd (aF bF (by rfl) g.bT bh (aa (hG rfl h.nd (bE (pe_fld (pv 0) rfl)) (bS (l:=[("entry",3)]) h) (λ_ _ _ _ _=>gN 3 h.nd) (λ_ _ _ _ _=>(mV (pt_cmpR bg (jq (K:=K) rfl (pv 3) rfl) (pv 1) (aD _)))) (λ_ _ _ _ _=>(pv 3))) af))) (ae (sT 4 h.nd (aF (Ag rfl) (by rfl) g.nX ja (aa (oK (ag (jr g) B (aa (pv 0) (aa (pv 1) af)))) af))) (ae (sT 5 h.nd (aF (Ag rfl) (by rfl) g.nX ja (aa (oK (ag (gx g) B (aa (pv 0) (aa (pv 1) af)))) af))) (ae (sT 6 h.nd (uf (BY rfl) (by rfl) g.Hj E1 (aa (oK (bC ca (pe_fld (pv 0) rfl) (pv 1) cX ⟨rfl,rfl,rfl,rfl⟩)) af))) (ae (sT 7 h.nd (aF (oz rfl) (by rfl) g.nX ja (aa (hG rfl h.nd (bE (pv 6)) (bS (l:=[("invoice",8)]) h) (λ_ _ _ _ _=>gN 8 h.nd) (λ_ _ _ _ _=>fb) (λ_ _ _ _ _=>(iX (pv 8)))) af))) (ai (aq (ag (bx g) B (aa (pv 2) (aa (aC (aa (pv 4) (aa (pv 5) (aa (pv 7) (aa (aF (oz rfl) (by rfl) g.nX ja (aa (hG rfl h.nd (bE (pv 6)) (bS (l:=[("invoice",8)]) h) (λ_ _ _ _ _=>gN 8 h.nd) (λ_ _ _ _ _=>fb) (λ_ _ _ _ _=>(iX (pv 8)))) af)) af))))) af))))))))))),?_⟩;have aM:=i.tre.ob;unfold hf at aM;simp_arith[aM,g.az,FT];have s:aB A S n e (if Vbbhal.isMonth b=false then Vbbhal.no n 1 else _) b8:=s;by_cases T:Vbbhal.isMonth b=false;·rw[Mj T]at s⊢;exact⟨by decide,s.one i rfl (au.refl A)⟩
 rw[Mi T]at s⊢;have cc:=Gm.aX.mp (Gm.tof T);obtain⟨b,rfl⟩:=JF cc.1;have d2:=i.re.enA.len;have d3:=G.elen;have d4:=G.capE;have aN:∀c H:Vbbhal.Entry,Vbbhal.kindNum c.kind=Vbbhal.kindNum H.kind→c.month=H.month→(c.month==b)=(H.month==b):=λc H aP U=>by rw[U]
 refine⟨⟨_,SqL.of i.re.en⟩,fD (uM A λc=>c.month==b) id (SqL.of i.re.en) (by rw[Ln];show _≤2^24;lia) (λx C aR aT aU D j I=>?_) (λJ cd=>?_)⟩
 ·obtain⟨y,ce,rfl⟩:=LX.mp C;obtain⟨c,d5,a0⟩:=i.re.enA.mem y ce;rw[qN aN a0]at j I;obtain⟨d9,ea,m,ch,ec,ed⟩:=a0;have cj:=D _ _ ch;simp_arith[cj,g.bw];by_cases w:(c.month:Int)=(b:Int);·rw[Mj w];exact j (by simp;lia)
  ·rw[Mi w];exact I (by simp;lia)
 · obtain⟨L,aP,U⟩:=kD aN i.re.enA;rw[aP];have cl:=U.len;have X:=au.new cd (o:=.lst (L.map V.ref));have a1:upd A J (.lst (L.map V.ref)) J=some (.lst (L.map V.ref)):=aj;generalize upd A J (.lst (L.map V.ref))=ee at X a1⊢;refine⟨J,rfl,_,a1,S,n,e,b,rfl,i.same X,G,λa2 u cm ef M=>⟨u,rfl,⟨_,.inl M⟩,λp co=>?_⟩⟩;have a3:=au.new co (o:=gn p u);have a4:=a3 _ _ M;have a5:upd a2 p (gn p u) p=some (gn p u):=aj;have Y:=X.trans (cm.trans a3);generalize upd a2 p (gn p u)=ej at a4 a5 Y⊢;refine⟨p,u,_,_,rfl,a5,.inl a4,xQ _,?_⟩;rw[Mm.wg];refine⟨S,n,e,b,rfl,i.same Y,G,λa6 v cp ek a7=>⟨v,rfl,⟨_,.inl a7⟩,λq cr=>?_⟩⟩;have a8:=au.new cr (o:=gn q v);have a9:=a8 _ _ a7;have bd:upd a6 q (gn q v) q=some (gn q v):=aj;have Z:=Y.trans (cp.trans a8);generalize upd a6 q (gn q v)=bi at a9 bd Z⊢;refine⟨q,v,_,_,rfl,bd,.inl a9,xQ _,?_⟩;rw[Mm.wg];have ac:=i.same Z;have bj:=ac.tre.ob;unfold hf at bj;simp_arith[bj,g.az];refine⟨.inl ⟨_,.inl ac.re.iv⟩,λE cs=>?_⟩;have ah:=au.new cs (o:=.dT ([]:List (List Key×V)));have bl:upd bi E (.dT []) E=some (.dT ([]:List (List Key×V))):=aj;generalize upd bi E (.dT [])=al at ah bl⊢;have bm:=ac.same ah;have ct:=Z.trans ah;refine⟨bt e.kI (ki b),.inl ⟨e.kI,ki b,.inl bm.re.iv,rfl,rfl⟩,?_⟩;rw[AH i b];obtain⟨is,N⟩:∃is,is=n.invoices.filter λa=>a.month==b:=⟨_,rfl⟩;have cL:∃(m:Addr)(O:List (List Key×V))(d:List Vbbhal.Invoice),(if b∈e.ms then some (V.ref (e.im b))else none).getD (V.ref E)=V.ref m∧al m=some (.dT O)∧d.Perm is∧O.map (·.2)=d.map λa=>V.ref (e.ia b a.code):=by
     by_cases Q:b∈e.ms;·rw[Mj Q];obtain⟨cT,c0⟩:=bm.re.ivD b Q;obtain⟨d,c1,c2⟩:=perm_unmap c0;refine⟨e.im b,_,d,rfl,cT,by rw[N];exact c1,?_⟩;rw[c2,LV];rfl
     ·rw[Mi Q];refine⟨E,[],[],rfl,bl,?_,rfl⟩;rw[N,JM.mpr];intro a f w;have:=i.re.ivM a f;rw[eq_of_beq w]at this;exact Q this
   obtain⟨m,O,d,c3,bn,am,bv⟩:=cL;rw[c3];refine⟨m,rfl,⟨_,.inl bn⟩,λr c4=>?_⟩;have bP:=au.new c4 (o:=gn r m);have bT:=bP _ _ bn;have b1:upd al r (gn r m) r=some (gn r m):=aj;have b2:=ct.trans bP;generalize upd al r (gn r m)=b3 at bT b1 b2⊢;refine⟨r,m,O,rfl,b1,.inl bT,λc5 l c6=>?_⟩;rw[bv];have b4:(d.map λa=>V.ref (e.ia b a.code)).length≤sizeLine:=by have:=Me List.length bv;rw[Ln]at this;rw[←this];exact c5
   have c7:=au.new c6 (o:=.lst (d.map λa=>V.ref (e.ia b a.code)));have R:upd b3 l (.lst (d.map λa=>V.ref (e.ia b a.code))) l=some (.lst (d.map λa=>V.ref (e.ia b a.code))):=aj;have an:=b2.trans c7;generalize upd b3 l (.lst (d.map λa=>V.ref (e.ia b a.code)))=z at R an⊢;have ap:∀a∈d,z (e.ia b a.code)=some (.tup (lL a)):=λa f=>by have ar:=am.mem_iff.mp f;rw[N]at ar;have:=(i.same an).re.ivT a (Lr.mp ar).1;rw[eq_of_beq (Lr.mp ar).2]at this;exact this
   have F:∀a∈d,∀k,jB z k (V.ref (e.ia b a.code))=(lL a).getD k .non:=λa f k=>by simp only[jB,ap a f]
   refine⟨l,rfl,⟨_,SqL.of R⟩,fD (λ_=>true) (jB z 1) (SqL.of R) b4 (λx C aR aT aU D j I=>?_) (λav c9=>?_)⟩;·obtain⟨a,f,rfl⟩:=LX.mp C;have j:=j rfl;rw[F a f]at j;have ax:=D _ _ (ap a f);simp_arith[ax];exact⟨_,rfl,j⟩
   have da:(((d.map λa=>V.ref (e.ia b a.code)).filter λ_=>true).map (jB z 1))=(d.map λa=>(a.discount:Int)).map V.int:=by rw[Ke.mpr (λ_ _=>rfl),LV,LV];apply Kh;intro a f;exact F a f 1
   rw[da];refine⟨av,_,rfl,SqL.of aj,l,rfl,?_⟩;have aA:=au.new c9 (o:=.lst ((d.map λa=>(a.discount:Int)).map V.int));have aE:=aA _ _ R;have b5:=an.trans aA;have aI:∀a∈d,upd z av (.lst ((d.map λa=>(a.discount:Int)).map V.int)) (e.ia b a.code)=some (.tup (lL a)):=λa f=>aA _ _ (ap a f);generalize upd z av (.lst ((d.map λa=>(a.discount:Int)).map V.int))=aK at aE b5 aI⊢;have F:∀a∈d,∀k,jB aK k (V.ref (e.ia b a.code))=(lL a).getD k .non:=λa f k=>by simp only[jB,aI a f]
   refine⟨⟨_,SqL.of aE⟩,fD (λ_=>true) (jB aK 3) (SqL.of aE) b4 (λx C aR aT aU D j I=>?_) (λL2 db=>?_)⟩;·obtain⟨a,f,rfl⟩:=LX.mp C;have j:=j rfl;rw[F a f]at j;have ax:=D _ _ (aI a f);simp_arith[ax];exact⟨_,rfl,j⟩
   have M:(((d.map λa=>V.ref (e.ia b a.code)).filter λ_=>true).map (jB aK 3))=(d.map Vbbhal.invoiceTotal).map V.int:=by rw[Ke.mpr (λ_ _=>rfl),LV,LV];apply Kh;intro a f;exact F a f 3
   rw[M];refine⟨L2,_,rfl,SqL.of aj,by decide,λdd b6=>?_⟩;have b7:=b5.trans ((au.new db (o:=.lst ((d.map Vbbhal.invoiceTotal).map V.int))));have dn:(d.map λa=>(a.discount:Int)).sum=(is.map λa=>(a.discount:Int)).sum:=sL (am.map _);have dr:(d.map Vbbhal.invoiceTotal).sum=(is.map Vbbhal.invoiceTotal).sum:=sL (am.map _);rw[dn,dr,Ln,cl];refine⟨_,dd,[_,_,_,_],rfl,.inl aj,by simp,λHA em ds dx dy=>?_⟩;refine s.read i (b7.trans ((au.new b6).trans ds)) (b7.free ((au.new b6).free dx)) ?_;rw[dy];have dA:((pairs (qi n b)).map λx=>x.snd)=((n.entries.filter λc=>c.month==b).filter λc=>!Vbbhal.isOverhead c).map λc=>c.amount:=by unfold pairs qi;rw[LV,List.filter_filter];congr 1;apply KI;intro c _;cases c.month==b<;>cases Vbbhal.isOverhead c<;>rfl
   have dK:((pairs (l_ n b)).map λx=>x.snd)=((n.entries.filter λc=>c.month==b).filter Vbbhal.isOverhead).map λc=>c.amount:=by unfold pairs l_;rw[LV,List.filter_filter];congr 1;apply KI;intro c _;cases c.month==b<;>cases Vbbhal.isOverhead c<;>rfl
   rw[dA,dK,N];rfl)
def wi(a:List Nat):List Int:=List.map (λw:Nat=>(w:Int)) a
theorem sN:∀a:List Nat,(wi a).sum=(a.sum:Nat)|[]=>rfl|w::a=>by have:=sN a;unfold wi at this⊢;rw[LM,LO,LO,this];lia
inductive AJ(vs:List V)(H:Hp)(Q:VK)(E:XK):Prop|mk(a:Nat)(q:Addr)(ws:List Nat):vs=[.int a,.ref q]→h8 H q (wi ws)→a<2^64→0<ws.sum→ws.sum<2^8000→ws.length≤1000→(∀H' l,au H H'→H l=none→H' l=some (.lst ((wi (Vbbhal.split a ws)).map V.int))→Q (.ref l) H')→AJ vs H Q E
theorem D7{c:Cx}{K:PySem.W.Frag}{k:Nat}{d:Pos}(e:c.K=K)(f:c.calm=true)(g:PG c a ga)(h:PG c b gb)(i:(assignEach [a,b] c.env).map (·.2)=assign a c.env::(assignEach [b] c.env).map (·.2))(j:(assignEach [b] c.env).map (·.2)=assign b c.env::(assignEach [] c.env).map (·.2))(l:(assignEach [a,b] c.env).length=2)(m:(assignEach [a,b] c.env).findIdx? (·.1)=none):PG c (.Tuple [a,b] k d) (HC K 2 (mP ga (mP gb wD))):=by subst e;exact ot f (cU g (cU h kW j) i) l m
structure IA(J:It)(xs:List V)(H1:Hp):Prop where
 go:∀i H,i<xs.length→au H1 H→J.go i H
 stop:∀H,au H1 H→J.stop xs.length H
 yld:∀i H x H',au H1 H→J.yld i H x H'→H'=H∧xs[i]?=some x
structure IB(J:It)(xs:List V)(H1:Hp):Prop where
 go:∀i H,i<xs.length→au H1 H→J.go i H
 stop:∀H,au H1 H→J.stop xs.length H
 yld:∀i H v H',au H1 H→J.yld i H v H'→∃T x,v=.ref T∧H T=none∧H'=upd H T (.tup [.int (i:Nat),x])∧xs[i]?=some x
theorem Fj{K:PySem.W.Frag}{a:List Int}{b:VK}(e:h8 H q a)(d:b (.int a.sum) H):HQ K [.ref q] H b∨FY K [.ref q] H b:=e.imp (λc=>⟨q,a,rfl,SqL.of c,d⟩) (λc=>⟨q,a,rfl,c,d⟩)
theorem Hc{K:PySem.W.Frag}{j:List Int}{d:List Nat}(m:h8 H q j)(h:∀l,IA l (j.map V.int) H→Lc l g tt te d Q σ H):((∃e,SqL K H q e)∧Lc (Itl K q) g tt te d Q σ H)∨((∃e,SqT K H q e)∧Lc (Itt K q) g tt te d Q σ H):=by f_assign(
 rcases m with b|b;·exact .inl ⟨⟨_,SqL.of b⟩,h _ ⟨λf c i a=>⟨_,_,SqL.of (a _ _ b),JA i⟩,λc a=>⟨_,SqL.of (a _ _ b),L6 _⟩,λf c x n a y=>⟨y.1,y.2 _ (SqL.of (a _ _ b))⟩⟩⟩
 ·exact .inr ⟨⟨_,SqT.of b⟩,h _ ⟨λf c i a=>⟨_,_,SqT.of (a _ _ b),JA i⟩,λc a=>⟨_,SqT.of (a _ _ b),L6 _⟩,λf c x n a y=>⟨y.1,y.2 _ (SqT.of (a _ _ b))⟩⟩⟩)
theorem Hd{K:PySem.W.Frag}{n:List Int}{d:L2.St}{e:It→Hp→Prop}(o:d[1]?=some (some (.ref q)))(r:h8 H q n)(h:∀p,IB p (n.map V.int) H→e p H):Aa K (rA (nF 1) rq) d H e∨yY (rA (nF 1) rq) d H e:=by f_assign(
 rcases r with b|b;·refine .inl ?_;simp only[Aa,rA,rq,nF,eV,o,Option.some.injEq,exists_eq_left',List.cons.injEq,V.ref.injEq,and_true];exact⟨_,_,rfl,SqL.of b,h _ ⟨λf c g a=>⟨_,_,SqL.of (a _ _ b),JA g⟩,λc a=>⟨_,SqL.of (a _ _ b),L6 _⟩,λf c x s a⟨t,y,i,j,l,m⟩=>⟨t,y,i,j,l,m _ (SqL.of (a _ _ b))⟩⟩⟩
 ·refine .inr ?_;simp only[yY,rA,rq,nF,eV,o,Option.some.injEq,exists_eq_left',List.cons.injEq,V.ref.injEq,and_true];exact⟨_,_,rfl,b,h _ ⟨λf c g a=>⟨_,_,(a _ _ b),JA g⟩,λc a=>⟨_,(a _ _ b),L6 _⟩,λf c x s a⟨t,y,i,j,l,m⟩=>⟨t,y,i,j,l,m _ (a _ _ b)⟩⟩⟩)
theorem nS(B:Tx):Oz "share_out" 1 ["amount","weights"] AJ:=by f_assign(
 have m:=B.ij.fs ["amount","weights","whole","shares","weight","order","place","left","chosen"];refine B.ij.ok m (by walk_at"l") (λcL cT c0 c1 c2 X c3 c4 c5 c6 r=>?_);obtain⟨a,Y,b,rfl,Z,c7,bv,bP,c9,k⟩:=r;refine⟨_,(ae (yn (i:=2) m.nd rfl (Or.inr rfl) (aF (Ik (oz rfl) (Aj rfl)) (by rfl) B.nX ja (aa (pv 1) af))) (ae (wN (i:=3) rfl m.nd rfl rfl (zW rfl rfl rfl rfl) (FW (bE (pv 1)) (rh (pv 1))) (bS (l:=[("weight",4)]) m) (λ_ _ _ _ _=>gN 4 m.nd) (λ_ _ _ _ _=>fb) (λ_ _ _ _ _=>(aS Dk (aS op_mul (pv 0) (pv 4)) (pv 2)))) (ae (sT 5 m.nd (aF yT (by rfl) B.oh lg (aa (hG rfl m.nd (FW (Ab rfl B.kK (aa (pv 1) af)) (Dl rfl B.kK (aa (pv 1) af))) (bS (l:=[("place",6),("weight",4)]) m) (λ_ _ _ _ _=>(D7 (K:=K) rfl rfl (uZ (i:=6) m.nd rfl (Or.inl rfl) (Or.inr rfl)) (uZ (i:=4) m.nd rfl (Or.inl rfl) (Or.inr rfl)) rfl rfl rfl rfl)) (λ_ _ _ _ _=>fb) (λ_ _ _ _ _=>(fQ (aa (zK un_neg (aS op_mod (aS op_mul (pv 0) (pv 4)) (pv 2))) (aa (pv 6) af))))) af))) (ae (sT 7 m.nd (aS op_sub (pv 0) (aF (oz rfl) (by rfl) B.nX ja (aa (pv 3) af)))) (ae (bW Lw rfl (bE (mT u9 (pv 5) u6 (mS (pv 7)))) (gN 8 m.nd) (ai (Ez (pv 3) (iX (pv 8)) Dr ao i6 set_list))) (ai (aq (pv 3)))))))),?_⟩;walk_at"rd";have a3:∀n:Int,yq (a:Int) n:=λn=>.inl ⟨by lia,by lia⟩;have a4:(0:Int)<(b.sum:Nat):=by lia
 have bT:∀n:Int,FX n (b.sum:Nat):=λn=>⟨a4,by rw[two_pow_cast];exact Int.ofNat_lt.mpr bP⟩;have ac:((wi b).map V.int).length=b.length:=by unfold wi;rw[Ln,Ln]
 refine Fj Z ?_;rw[sN];refine Hc Z λda ah=>nE ((wi b).map V.int) (λ_=>true) (λA=>.int (a*vInt A/(b.sum:Nat))) ah.go ah.stop ah.yld (by rw[ac];show _≤2^24;lia) (λx C c db b1 dd al dn=>?_) (λh am=>?_);·obtain⟨n,dr,rfl⟩:=LX.mp C;have al:b1 (.int (a*n/(b.sum:Nat))) c:=al rfl;walk_at"rd";exact⟨a3 n,bT _,al⟩
 have b2:(((wi b).map V.int).filter λ_=>true).map (λA=>V.int (a*vInt A/(b.sum:Nat)))=(wi (b.map λw=>a*w/b.sum)).map V.int:=by rw[Ke.mpr (λ_ _=>rfl)];unfold wi;rw[LV,LV,LV,LV];apply Kh;intro w _;show V.int ((a:Int)*(w:Int)/(b.sum:Nat))=V.int ((a*w/b.sum:Nat):Int);push_cast;rfl
 rw[b2];have an:=au.new am (o:=.lst ((wi (b.map λw=>a*w/b.sum)).map V.int));have a5:upd X h (.lst ((wi (b.map λw=>a*w/b.sum)).map V.int)) h=some (.lst ((wi (b.map λw=>a*w/b.sum)).map V.int)):=aj;generalize upd X h (.lst ((wi (b.map λw=>a*w/b.sum)).map V.int))=b3 at an a5⊢;obtain⟨ap,E⟩:∃ap:Addr→Nat→Hp→Prop,ap=λv i c=>au b3 c∧∃as:List Addr,c v=some (.lst (as.map V.ref))∧aY c as ((List.range i).map (Pm.pairOf a b)):=⟨_,rfl⟩;refine Hd rfl (Z.same an) λds ar=>Dj b.length ap (λv F=>?_) (λv i c F D p=>?_) (λv c F p=>?_) (λv i x c b4 F D p Q=>?_) (λv c F p=>?_);·rw[E];exact⟨au.new F,[],aj,.nil⟩
 ·rw[E]at p;exact ar.go i c (by rw[ac];exact D) p.1
 ·rw[E]at p;have:=ar.stop c p.1;rw[ac]at this;exact this
 ·rw[E]at p;obtain⟨I,as,av,R⟩:=p;obtain⟨t,b5,rfl,b6,rfl,ax⟩:=ar.yld i c x b4 I Q;have b7:b5=V.int (b.getD i 0:Nat):=by unfold wi at ax;rw[LV,KL,JA D]at ax;rw[Jt,JA D];exact(Lv ax).symm
  subst b7;refine⟨t,_,rfl,SqT.of aj,rfl,?_⟩;have aA:=au.new b6 (o:=.tup [.int (i:Nat),.int (b.getD i 0:Nat)]);have J:=aA _ _ av;have S:=R.same aA;have aE:=I.trans aA;generalize upd c t (.tup [.int (i:Nat),.int (b.getD i 0:Nat)])=a6 at J S aE⊢;simp_arith[mP,wD];refine⟨a3 _,a4,by decide,λz L=>⟨_,(ak (ay J L)).trans J,?_,?_⟩⟩;·rw[Ln,R.len,Ln,List.length_range];show _<2^24;lia
  ·rw[E];refine⟨λs o eb=>?_,as++[z],?_,?_⟩;·rw[ak (ay eb F),ak (ay (aE _ _ eb) L)];exact aE _ _ eb
   ·rw[aj,Lp];rfl
   ·rw[List.range_succ,Lp];refine aY.snoc ?_ (bY (λs xs eb=>?_) S)
    ·have b8:z≠v:=λd=>by rw[d,J]at L;cases L
     rw[ak b8,aj];unfold Pm.pairOf;push_cast;rfl
    ·have b9:s≠v:=λd=>by rw[d,J]at eb;cases eb
     rw[ak b9,ak (ay eb L)];exact eb
 ·rw[E]at p;obtain⟨I,as,av,R⟩:=p;obtain⟨a7,ca⟩:=R.all (λcc M=>by obtain⟨e,_,rfl⟩:=LX.mp M;unfold Pm.pairOf;simp);refine⟨v,as,rfl,SqL.of av,a7,λf z a8 a9 aI=>?_⟩;obtain⟨j,T⟩:∃j,j=f.map (cOf c):=⟨_,rfl⟩;rw[←T]at a9;have aK:j.Perm ((List.range b.length).map (Pm.pairOf a b)):=by rw[T,←ca];exact a8.map _
  have S:aY c f j:=by rw[T];exact lB λx C=>a7 x (a8.mem_iff.mp C)
  have aM:upd c z (.lst (f.map V.ref)) h=some (.lst ((wi (b.map λw=>a*w/b.sum)).map V.int)):=au.new aI _ _ (I _ _ a5);refine⟨h,wi (b.map λw=>a*w/b.sum),rfl,SqL.of aM,_,rfl,z,rfl,f.map V.ref,SqL.of aj,λN aN=>?_⟩;rw[sN];have dx:=Pm.y8 a b bv;rw[show(a:Int)-((b.map λw=>a*w/b.sum).sum:Nat)=((a-(b.map λw=>a*w/b.sum).sum:Nat):Int)by lia,xH];have bd:=λi(D:i<b.length)=>Pm.DA a b aK a9 D;generalize a-(b.map λw=>a*w/b.sum).sum=left at bd⊢;have cd:j.Nodup:=by rw[aK.nodup_iff];unfold List.Nodup;rw[KO];exact(List.nodup_range (n:=b.length)).imp λ{x y}Y g=>Y (by unfold Pm.pairOf at g;simp only[List.cons.injEq,and_true]at g;lia)
  have aP:=au.new aN (o:=.lst ((f.map V.ref).take left));have aR:upd (upd c z (.lst (f.map V.ref))) N (.lst ((f.map V.ref).take left)) N=some (.lst ((f.map V.ref).take left)):=aj;have aT:=aP _ _ aM;have bi:=(S.same (au.new aI (o:=.lst (f.map V.ref)))).same aP;have bj:au X (upd (upd c z (.lst (f.map V.ref))) N (.lst ((f.map V.ref).take left))):=an.trans (I.trans ((au.new aI).trans aP));generalize upd (upd c z (.lst (f.map V.ref))) N (.lst ((f.map V.ref).take left))=a6 at aR aT bi bj⊢;have ce:N≠h:=λd=>by rw[d,aM]at aN;cases aN
  refine⟨⟨_,SqL.of aR⟩,?_⟩;obtain⟨u,G⟩:∃u:Nat→List Int,u=λi=>(List.range b.length).map λe=>((a*b.getD e 0/b.sum+if Pm.pairOf a b e∈j.take i then 1 else 0:Nat):Int):=⟨_,rfl⟩;obtain⟨aU,O⟩:∃aU:Nat→L2.St→Hp→Prop,aU=λi U c=>∃A,U=[some (V.int a),some (V.ref Y),some (V.int (b.sum:Nat)),some (V.ref h),none,some (V.ref z),none,some (V.int (left:Nat)),A]∧(∀s o,a6 s=some o→s≠h→c s=some o)∧c h=some (.lst ((u i).map V.int)):=⟨_,rfl⟩;have ch:f.length=j.length:=by rw[T,Ln]
  refine dZ (xs:=(f.map V.ref).take left) aU ?_ ?_ ?_ ?_
  ·rw[O];refine⟨none,rfl,λs o g _=>g,?_⟩;rw[aT,G];congr 2;congr 1;unfold wi;rw[LV];apply List.ext_getElem?;intro e;rw[KL,KL];by_cases q:e<b.length;·rw[JA q,Kg q];simp[List.getD_eq_getElem?_getD,List.getElem?_eq_getElem q]
   ·rw[JU (by lia),JU (by rw[List.length_range];lia)];rfl
  ·rintro i U a0 D r;rw[O]at r;obtain⟨A,rfl,kp,g⟩:=r;exact SqL.of (kp _ _ aR ce)
  ·rintro i y U a0 Q r;rw[O]at r;obtain⟨A,rfl,kp,g⟩:=r;rw[←List.map_take,KL]at Q;obtain⟨x,C,rfl⟩:=JQ.mp Q;have cj:i<left:=by have:=(Jx.mp C).1;rw[K_]at this;lia
   rw[List.getElem?_take,Mj cj]at C;obtain⟨cc,M,a1⟩:=fF bi C;obtain⟨e,q,rfl⟩:=LX.mp (aK.mem_iff.mp (J_ M));have q:=LC.mp q;have cl:x≠h:=λd=>by rw[d,aT]at a1;cases a1
   have cm:=kp _ _ a1 cl;have co:(u i)[e]?=some ((a*b.getD e 0/b.sum+if Pm.pairOf a b e∈j.take i then 1 else 0:Nat):Int):=by rw[G];simp only;rw[KL,Kg q];rfl
   have a2:(u i).length=b.length:=by rw[G];simp
   simp_arith[FI];refine⟨_,cm,.int e,rfl,h,_,e,_,rfl,rfl,g,by rw[KL,co];rfl,_,rfl,h,_,e,e,rfl,rfl,g,?_,?_⟩;·unfold ixN;rw[Mj (by lia),Mj (by rw[Ln,a2];lia)];simp
   ·rw[O];refine⟨_,rfl,λs o eb bl=>by rw[ak bl];exact kp _ _ eb bl,?_⟩;rw[aj];congr 2;have cp:¬Pm.pairOf a b e∈j.take i:=λd=>by obtain⟨dy,dA,cr⟩:=Tr.cF.mp d;have:=Tr.jv cd cr M;lia
    rw[Mi cp];apply List.ext_getElem?;intro H;rw[List.getElem?_set];have cs:(u (i+1)).length=b.length:=by rw[G];simp
    by_cases bm:H<b.length
    ·have bn:∀t,(u t)[H]?=some ((a*b.getD H 0/b.sum+if Pm.pairOf a b H∈j.take t then 1 else 0:Nat):Int):=λt=>by rw[G];simp only;rw[KL,Kg bm];rfl
     rw[KL,KL,bn,bn,take_snoc M];by_cases d:e=H;·subst d;rw[Mj rfl,Mj (by rw[Ln,a2];exact q),Mj (by simp)];simp
     ·rw[Mi d];have:¬Pm.pairOf a b H=Pm.pairOf a b e:=λg=>d (by unfold Pm.pairOf at g;simp only[List.cons.injEq,and_true]at g;lia);simp[this]
    ·rw[JU (l:=(u (i+1)).map V.int) (by rw[Ln,cs];lia),JU (l:=(u i).map V.int) (by rw[Ln,a2];lia)];rw[Mi (λd=>bm (by lia))]
  · rintro U a0 r;rw[O]at r;obtain⟨A,rfl,kp,g⟩:=r;walk_at"rd";have ct:u ((f.map V.ref).take left).length=wi (Vbbhal.split a b):=by
      rw[G];simp only;unfold wi;apply List.ext_getElem?;intro e;rw[KL,KL];by_cases q:e<b.length
      · rw[Kg q,bd e q];show some _=some _;have:j.take ((f.map V.ref).take left).length=j.take left:=by
          rw[K_,Ln,ch];rcases Nat.le_total left j.length with d|d;·rw[Nat.min_eq_left d]
          ·rw[Nat.min_eq_right d,JP d,JP (L6 _)]
        rw[this]
      ·rw[JU (by rw[List.length_range];lia),JU (by rw[Pm.split_len];lia)];rfl
    rw[ct]at g;exact k a0 h (λs o eb=>kp s o (bj _ _ eb) (ay eb am)) am g)
inductive D8(vs:List V)(H:Hp)(Q:VK)(E:XK):Prop|mk(p:Addr)(s:State)(h:HA)(own:Int):vs=[.ref p,.int own]→aH H p s h→Good s→(∀H',au H H'→Q (.int (Vbbhal.discountOf s own:Nat)) H')→D8 vs H Q E
theorem zi{b:State}(d:Good b){c:List Int}(e:c.Perm (b.tiers.map λt=>(t.1:Int)))(f:c.Pairwise (·≥·)):c=(b.tiers.map λt=>(t.1:Int)).reverse:=by refine List.Perm.eq_of_pairwise (le:=(·≥·)) (λa g _ _ h i=>Int.le_antisymm i h) f ?_ (e.trans (List.reverse_perm _).symm);rw[List.pairwise_reverse,KO];exact d.tk.imp λ{a g}j=>by lia
theorem sO(e:Tx):Oz "discount_of" 2 ["house","own"] (D8):=by f_assign(
 have g:=e.f7.fs ["house","own","exact","rest","limit"];refine e.f7.ok g (by walk_at"l") (λal am an ap ar I av ax aA z c=>?_);obtain⟨J,b,j,own,rfl,h,n,k⟩:=c;have L:=bN z;refine⟨_,(ae (sT 2 g.nd ao) (ae (sT 3 g.nd (pv 1)) (ae (bW Lw rfl (bE (uA (yW rfl) (by rfl) e.oh lg (aa (pe_fld (pv 0) rfl) af) rf)) (gN 4 g.nd) (ae (iz (i:=2) g.nd rfl (Or.inl rfl) (aS op_mul (aF (fP rfl) (by rfl) e.pS j4 (aa ao (aa (aS op_sub (pv 3) (pv 4)) af))) (d6 L (pe_fld (pv 0) rfl) (pv 4) (λ_ _=>rfl))) i6) (ai (sT 3 g.nd (aF (ou rfl) (by rfl) e.AS vh (aa (pv 3) (aa (pv 4) af))))))) (ai (aq (ag (eY e) z (aa (pv 2) af))))))),?_⟩;have A:=h.tre.ob;unfold hf at A;simp_arith[A,e.az,G5];obtain⟨M,N,O⟩:=perm_unmap h.tiR;have Q:(b.tiers.map λt=>ki t.1).Nodup:=by unfold List.Nodup;rw[KO];exact n.tk.imp λ{a B}j d=>by have:=cw d;lia
 refine⟨j.aT,j.kT,M.map λt=>(t.1:Int),rfl,rfl,.inl h.ti,?_,λaE l R S C=>?_⟩;·rw[O,LV,LV];rfl
 have T:=zi n (R.trans (N.map _)) S;subst T;refine⟨l,rfl,⟨_,SqL.of aj⟩,?_⟩;obtain⟨s,m⟩:∃s:Nat→L2.St→Hp→Prop,s=λi p q=>∃(f:Nat)(rest:Int)(r:Option V),p=[some (V.ref J),some (V.int own),some (V.int f),some (V.int rest),r]∧q=upd I l (.lst ((b.tiers.map λt=>(t.1:Int)).reverse.map V.int))∧f+Vbbhal.offFrom rest.toNat (b.tiers.take (b.tiers.length-i))=Vbbhal.offFrom own.toNat b.tiers:=⟨_,rfl⟩;refine dZ (xs:=(b.tiers.map λt=>(t.1:Int)).reverse.map V.int) s ?_ ?_ ?_ ?_;·rw[m];exact⟨0,own,none,rfl,rfl,by rw[Nat.sub_zero,Lb,Nat.zero_add]⟩
 ·rintro i p q D c;rw[m]at c;obtain⟨f,rest,r,rfl,rfl,d⟩:=c;exact SqL.of aj
 ·rintro i y p q hy c;rw[m]at c;obtain⟨f,rest,r,rfl,rfl,d⟩:=c;have D:i<b.tiers.length:=by have:=(Jx.mp hy).1;simpa using this
  have u:b.tiers.length-1-i<b.tiers.length:=by lia
  have U:y=V.int (b.tiers[b.tiers.length-1-i].1:Nat):=by rw[KL,List.getElem?_reverse (by rw[Ln];exact D),Ln,KL,JA u]at hy;exact(Lv hy).symm
  subst U;obtain⟨t,v⟩:∃t,t=b.tiers[b.tiers.length-1-i]:=⟨_,rfl⟩;rw[←v];have E:t∈b.tiers:=by rw[v];exact List.getElem_mem u
  have F:b.tiers.take (b.tiers.length-i)=b.tiers.take (b.tiers.length-(i+1))++[t]:=by have:=take_snoc (l:=b.tiers) (i:=b.tiers.length-1-i) (x:=t) (by rw[v];exact JA u);rw[show b.tiers.length-1-i+1=b.tiers.length-i by lia]at this;rw[this,show b.tiers.length-(i+1)=b.tiers.length-1-i by lia]
  have X:((b.tiers.take (b.tiers.length-(i+1))++[t]).Pairwise λa B=>a.1<B.1):=by rw[←F];exact n.tk.sublist (List.take_sublist ..)
  rw[F,Cm.wj _ _ _ X]at d;have Y:bt j.kT (ki t.1)=some (.int t.2):=qK (key:=λt:Nat×Nat=>ki t.1) (val:=λt=>V.int t.2) h.tiR Q E;have G:=au.new C (o:=.lst ((b.tiers.map λt=>(t.1:Int)).reverse.map V.int));have H:=(h.same G).tre.ob;unfold hf at H;have Z:=(h.same G).ti;have aI:=n.tb t E;simp_arith[H,e.az];refine⟨.int t.2,.inl ⟨j.kT,ki t.1,.inl Z,rfl,Y.symm⟩,_,rfl,.inr ⟨by lia,by lia⟩,?_⟩;rw[m];have ac:(if rest-(t.1:Int)>0 then rest-(t.1:Int)else 0)=((rest.toNat-t.1:Nat):Int):=by split<;>lia
  have ah:(if(t.1:Int)<rest then(t.1:Int)else rest).toNat=min rest.toNat t.1:=by split<;>lia
  refine⟨f+t.2*(rest.toNat-t.1),if(t.1:Int)<rest then(t.1:Int)else rest,some (V.int t.1),?_,rfl,?_⟩;·rw[ac,Lh,Int.natCast_mul,Int.mul_comm ((rest.toNat-t.1:Nat):Int)]
  ·rw[ah];generalize t.2*(rest.toNat-t.1)=y at d⊢;lia
 ·rintro p q c;rw[m]at c;obtain⟨f,rest,r,rfl,rfl,d⟩:=c;rw[Ln,List.length_reverse,Ln,Nat.sub_self,LD]at d;have d:f=Vbbhal.offFrom own.toNat b.tiers:=d;subst d;walk_at"rd";exact⟨_,rfl,k _ (au.new C)⟩)
def wts(c:Bytes→Int)(a:List Bytes):List Nat:=if(a.map λb=>(c b).toNat).sum=0 then a.map λ_=>1 else a.map λb=>(c b).toNat
inductive F_(vs:List V)(H:Hp)(Q:VK)(E:XK):Prop|mk(l d:Addr)(as:List Addr)(cs:List Bytes)(m:Mm.Mp):vs=[.ref l,.ref d]→H l=some (.lst (as.map V.ref))→aY H as (cs.map ci)→H d=some (.dT (enc m))→cs.length≤1000→(∀H' r,au H H'→H r=none→H' r=some (.lst ((wi (wts (Mm.lk m) cs)).map V.int))→Q (.ref r) H')→F_ vs H Q E
theorem Fk(b:Bytes→Int)(c:List Bytes):(wi (c.map λa=>(b a).toNat))=c.map λa=>if b a>0 then b a else 0:=by unfold wi;rw[LV];apply Kh;intro a _;show(((b a).toNat:Nat):Int)=_;split<;>lia
open Classical in
noncomputable def sP(b:Hp):V→Bytes|.ref a=>if h:∃c,b a=some (.tup (cv c))then Classical.choose h else[]|_=>[]
theorem AK{c:Hp}{b:Bytes}(d:c a=some (.tup (cv b))):sP c (.ref a)=b:=by have e:∃b,c a=some (.tup (cv b)):=⟨b,d⟩;have f:=d.symm.trans (Classical.choose_spec e);simp only[sP,dif_pos e];exact DE (HO.tup.inj (Lv f)).symm
theorem xS{e:Type}(a:Bytes→e):∀{as:List Addr}{b:List Bytes},aY H as (b.map ci)→(as.map V.ref).map (λf=>a (sP H f))=b.map a|as,[],c=>by cases c;rfl|_,g::b,c=>by cases c with|cons d t=>rw[bO]at d;rw[LM,LM,LM,AK d,xS a t]
theorem tQ(j:Tx):Oz "weights_of" 1 ["codes","nets"] F_:=by f_assign(
 have d:=j.gE.fs ["codes","nets","weights","code"];refine j.gE.ok d (by walk_at"l") (λR S T U X m Y Z ac E F=>?_);obtain⟨l,ah,as,g,b,rfl,n,r,u,al,k⟩:=F;have G:=bN E;refine⟨_,(ae (wN (i:=2) rfl d.nd rfl rfl (zW rfl rfl rfl rfl) (bE (pv 0)) (bS (l:=[("code",3)]) d) (λ_ _ _ _ _=>gN 3 d.nd) (λ_ _ _ _ _=>fb) (λ_ _ _ _ _=>(aF (fP rfl) (by rfl) j.pS j4 (aa ao (aa (bC G (pv 1) (pv 3) ao ⟨rfl,rfl,rfl,rfl⟩) af))))) (ae (aG (pt_cmpR bg (aF (oz rfl) (by rfl) j.nX ja (aa (pv 2) af)) ao (aD _)) (ai (aq (hG rfl d.nd (bE (pv 0)) (bS (l:=[("code",3)]) d) (λ_ _ _ _ _=>gN 3 d.nd) (λ_ _ _ _ _=>fb) (λ_ _ _ _ _=>ao)))) aw) (ai (aq (pv 2))))),?_⟩;walk_at"rd";have v:as.length=g.length:=by rw[r.len,Ln]
 have y:(as.map V.ref).length≤sizeLine:=by rw[Ln,v];show _≤2^24;lia
 refine⟨⟨_,SqL.of n⟩,fD (λ_=>true) (λe=>.int (if Mm.lk b (sP m e)>0 then Mm.lk b (sP m e)else 0)) (SqL.of n) y (λx z H I J p f L=>?_) (λA B=>?_)⟩;·obtain⟨a,M,rfl⟩:=LX.mp z;obtain⟨i,N⟩:=JX.mp M;obtain⟨am,C,s⟩:=fF r N;rw[KL]at C;obtain⟨c,an,rfl⟩:=JQ.mp C;rw[bO]at s;have f:=f rfl;rw[AK s]at f;walk_at"rd";refine⟨.inr ⟨_,.inl (p _ _ u)⟩,_,cn (.inl (p _ _ u)) (p _ _ s),_,?_,f⟩;rw[c8]
 have O:((((as.map V.ref).filter λ_=>true)).map λe=>V.int (if Mm.lk b (sP m e)>0 then Mm.lk b (sP m e)else 0))=(wi (g.map λc=>(Mm.lk b c).toNat)).map V.int:=by rw[Ke.mpr (λ_ _=>rfl),Fk,LV (l:=g)];exact xS (λc=>V.int (if Mm.lk b c>0 then Mm.lk b c else 0)) r
 rw[O];refine⟨A,_,rfl,SqL.of aj,?_⟩;rw[sN];walk_at"rd";have h:=au.new B (o:=.lst ((wi (g.map λc=>(Mm.lk b c).toNat)).map V.int));by_cases q:(g.map λc=>(Mm.lk b c).toNat).sum=0
 ·rw[Mj (by rw[q];rfl)];refine⟨⟨_,SqL.of (h _ _ n)⟩,fD (λ_=>true) (λe=>.int 1) (SqL.of (h _ _ n)) y (λx z H I J p f L=>?_) (λQ D=>?_)⟩;·walk_at"rd";exact f rfl
  ·refine k _ Q (h.trans (au.new D)) (h.free D) ?_;rw[aj];unfold wts;rw[Mj q,Ke.mpr (λ_ _=>rfl),LV];unfold wi;rw[LV,LV];congr 2;apply List.ext_getElem (by simpa using v);intro i ap ar;simp
 ·rw[Mi (by intro av;exact q (by lia))];refine k _ A h B ?_;rw[aj];unfold wts;rw[Mi q])
inductive AL(vs:List V)(H:Hp)(Q:VK)(E:XK):Prop|mk(p:Addr)(s:State)(h:HA)(a:Int)(q:Addr)(ws:List Int):vs=[.int a,.ref q]→aH H p s h→Good s→H q=some (.tup (ws.map V.int))→(aB H p s h (Vbbhal.step s (.split a ws)) Q)→AL vs H Q E
theorem lF:∀{ws:List Nat}{n:Nat},(∀w∈ws,w≤n)→ws.sum≤ws.length*n|[],n,_=>by simp|w::ws,n,a=>by have c:=lF (ws:=ws) (n:=n) λx b=>a x (J0 _ b);have d:=a w (Ks ..);rw[LO,K9,L5,Nat.one_mul];lia
theorem vO:∀{a:List Nat}{w:Nat},w∈a→w≤a.sum
 |x::a,w,b=>by
  rw[LO];rcases LN.mp b with z|z;·lia
  ·have:=vO z;lia
theorem qo(c:Tx):Oz "answer_split" 5 ["amount","weights"] (AL):=by f_assign(
 have u:=c.fw.fs ["amount","weights","weight"];refine c.fw.ok u (by walk_at"l") (λaA aE aI aK aM v aN M aP i N=>?_);obtain⟨O,j,Q,a,G,b,rfl,q,aR,g,d⟩:=N;have aT:=bN i;refine⟨_,(ae (aG (ba (pt_val (ag (dQ c) i (aa (pv 0) (aa ao af))))) (ai (aq (aC (aa (aJ c.aN) af)))) aw) (ae (aG (ba (pt_val (ag (aL c) i (aa (aF fR (by rfl) c.bT bh (aa (pv 1) af)) (aa ao (aa (aJ c.sX) af)))))) (ai (aq (aC (aa (aJ c.cT) af)))) aw) (ae (aG (ba (pt_val (aF (yE rfl) (by rfl) c.Eh yK (aa (hG rfl u.nd (rh (pv 1)) (bS (l:=[("weight",2)]) u) (λ_ _ _ _ _=>gN 2 u.nd) (λ_ _ _ _ _=>fb) (λ_ _ _ _ _=>(ag (aL c) i (aa (pv 2) (aa ao (aa (aJ c.n_) af)))))) af)))) (ai (aq (aC (aa (aJ c.aN) af)))) aw) (ae (aG (pt_cmpR bg (aF (Aj rfl) (by rfl) c.nX ja (aa (pv 1) af)) ao (aD _)) (ai (aq (aC (aa (aJ c.d5) af)))) aw) (ai (aq (ag (bx c) i (aa (aF fR (by rfl) c.bT bh (aa (pv 1) af)) (aa (ag (nS c) i (aa (pv 0) (aa (pv 1) af))) af))))))))),?_⟩;walk_at"rd";have d:aB v O j Q (if Vbbhal.isAmount a 0=false then Vbbhal.no j 1 else if b=[]∨50<b.length then Vbbhal.no j 2 else if(b.all λx=>Vbbhal.inside x 0 1000000000)=false then Vbbhal.no j 1 else if(b.all λx=>x==0)=true then Vbbhal.no j 6 else Vbbhal.yes j b.length [(Vbbhal.split a.toNat (b.map Int.toNat)).map Int.ofNat]) M:=d;by_cases A:Vbbhal.isAmount a 0=false;·rw[Mj A]at d⊢;exact⟨by decide,d.one q rfl (au.refl v)⟩
 rw[Mi A]at d⊢;have R:=Gm.aX.mp (Gm.tof A);refine⟨_,g,?_⟩;rw[Ln];by_cases r:b=[]∨50<b.length
 · have:Vbbhal.inside (b.length:Nat) 1 50=false:=by
     cases m:Vbbhal.inside (b.length:Nat) 1 50;·rfl
     ·have:=Gm.aX.mp m;rcases r with y|y;·rw[y]at this;simp at this
      ·lia
   rw[Mj this];rw[Mj r]at d;exact⟨by decide,d.one q rfl (au.refl v)⟩
 have S:b≠[]:=λm=>r (.inl m);have aU:b.length≤50:=by apply Jw;intro m;exact r (.inr (by lia))
 have a0:1≤b.length:=by cases b with|nil=>exact absurd rfl S|cons _ _=>simp
 rw[Mi (by rw[Gm.aX.mpr ⟨by lia,by lia⟩];decide)];rw[Mi r]at d;refine⟨⟨_,SqT.of g⟩,nE (b.map V.int) (λ_=>true) (λB=>.bl (Vbbhal.inside (vInt B) 0 1000000000)) (λT C U n=>⟨_,_,SqT.of (n _ _ g),JA U⟩) (λC n=>⟨_,SqT.of (n _ _ g),L6 _⟩) (λT C x a1 n y=>⟨y.1,y.2 _ (SqT.of (n _ _ g))⟩) (by rw[Ln];show _≤2^24;lia) (λx f C a2 a3 n X a4=>?_) (λH Y=>?_)⟩;·obtain⟨a5,a6,rfl⟩:=LX.mp f;walk_at"rd";exact X rfl
 have Z:((b.map V.int).filter λ_=>true).map (λB=>V.bl (Vbbhal.inside (vInt B) 0 1000000000))=(b.map λx=>Vbbhal.inside x 0 1000000000).map V.bl:=by rw[Ke.mpr (λ_ _=>rfl),LV,LV];rfl
 rw[Z];refine⟨H,rfl,_,SqL.of aj,?_⟩;have h:=au.new Y (o:=.lst ((b.map λx=>Vbbhal.inside x 0 1000000000).map V.bl));generalize upd v H (.lst ((b.map λx=>Vbbhal.inside x 0 1000000000).map V.bl))=a7 at h⊢;have D:(b.map λx=>Vbbhal.inside x 0 1000000000).all id=b.all λx=>Vbbhal.inside x 0 1000000000:=by rw[List.all_map];rfl
 rw[D];by_cases E:(b.all λx=>Vbbhal.inside x 0 1000000000)=false;·rw[Mj E]at d⊢;exact⟨by decide,d.one q rfl h⟩
 rw[Mi E]at d⊢;have F:∀x∈b,0≤x∧x≤1000000000:=λx f=>Gm.aX.mp (K7.mp (Gm.tof E) x f);obtain⟨e,p⟩:∃e:List Nat,e=b.map Int.toNat:=⟨_,rfl⟩;have I:b=wi e:=by
  rw[p];unfold wi;rw[LV];conv=>lhs;rw[←L4 b]
  apply Kh;intro x f;have:=F x f;show x=((x.toNat:Nat):Int);lia
 refine⟨G,b,rfl,h _ _ g,?_⟩;have ac:b.sum=(e.sum:Nat):=by rw[I,sN]
 have ah:∀w∈e,w≤1000000000:=λw s=>by rw[p]at s;obtain⟨x,f,rfl⟩:=LX.mp s;have:=F x f;lia
 have a8:e.length=b.length:=by rw[p,Ln]
 have al:=lF ah;rw[ac];walk_at"rd";by_cases z:(b.all λx=>x==0)=true
 · rw[Mj z]at d;have:e.sum=0:=by
     have am:∀w∈e,w≤0:=λw s=>by rw[p]at s;obtain⟨x,f,rfl⟩:=LX.mp s;have:=eq_of_beq (K7.mp z x f);lia
     have:=lF am;lia
   rw[Mj (by rw[this];rfl)];exact⟨by decide,d.one q rfl h⟩
 rw[Mi z]at d;have an:0<e.sum:=by
  apply Jw;intro m;apply z;rw[K7];intro x f;have ap:x.toNat∈e:=by rw[p];exact LX.mpr ⟨x,f,rfl⟩
  have a9:=vO ap;have bd:=F x f;have:x=0:=by lia
  rw[this];rfl
 rw[Mi (by intro m;lia)];refine⟨_,h _ _ g,?_⟩;obtain⟨a,rfl⟩:=JF R.1;refine⟨a,G,e,rfl,.inr (by rw[←I];exact h _ _ g),by lia,an,?_,by lia,λbi l J bj D=>?_⟩;·refine Kv al ?_;refine Kv (Nat.mul_le_mul_right _ (show e.length≤50 by lia)) ?_;exact Kw (show 50*1000000000<2^64 by decide) (Nat.pow_le_pow_right (by decide) (by decide))
 ·have bl:(wi (Vbbhal.split a e)).length=e.length:=by unfold wi;rw[Ln,Pm.split_len]
  refine⟨_,l,wi (Vbbhal.split a e),rfl,.inl D,by lia,λbm bn ar av ax=>?_⟩;refine d.read q (h.trans (J.trans ar)) (h.free (J.free av)) ?_;rw[ax,Ln];show _=some (HO.lst (((b.length:Int)::([(Vbbhal.split a (b.map Int.toNat)).map Int.ofNat].flatMap λL=>(L.length:Int)::L)).map V.int));rw[←p];simp[wi])
theorem IC(a:Bytes):ck a=(ci a).map Sum.inl:=by unfold ck ci;rw[LV];rfl
def unc(a:List Int):Bytes:=a.map λb=>UInt8.ofNat b.toNat
theorem zj(a:Bytes):unc (ci a)=a:=by
 unfold unc ci;rw[LV];conv=>rhs;rw[←L4 a]
 apply Kh;intro b _;show UInt8.ofNat ((b.toNat:Int)).toNat=b;simp
theorem cz.kp{t:Addr}(st:cz t H H')(d:cy H t)(a:H b=some o)(e:∀c,o≠.tbl c):H' b=some o:=st b o a λf=>by obtain⟨c,g,_⟩:=d;rw[f,g]at a;exact e c (Lv a).symm
theorem aH.A1{l:Addr}{m:State}(b:aH H l m h)(st:cz TP H H')(r:cy H' TP):aH H' l m h:=by f_assign(have kp:∀{c e},H c=some e→(∀s,e≠.tbl s)→H' c=some e:=λd u=>cz.kp st b.re.tab d u;have f:∀c i,H c=some (.tup i)→H' c=some (.tup i):=λc i d=>kp d nofun;exact{b with
 tre:=⟨kp b.tre.ob nofun,.inl (kp b.ac nofun),b.tre.acR,λa v=>by obtain⟨n,o,g,y⟩:=b.tre.acA a v;exact⟨n,o,kp g nofun,f _ _ y⟩⟩
 ac:=kp b.ac nofun
 pr:=kp b.pr nofun
 prA:=λx j=>f _ _ (b.prA x j)
 ra:=kp b.ra nofun
 ti:=kp b.ti nofun
 re:={b.re with
  tab:=r
  en:=kp b.re.en nofun
  enA:=b.re.enA.keep f λx j e d=>by obtain⟨B,_,n,o,C,g,_⟩:=b.re.enA.mem x j;rw[g]at d;cases d;exact kp g nofun
  iv:=kp b.re.iv nofun
  ivD:=λp q=>⟨kp (b.re.ivD p q).1 nofun,(b.re.ivD p q).2⟩
  ivT:=λz A=>f _ _ (b.re.ivT z A)}})
inductive Ga(vs:List V)(H:Hp)(Q:VK)(E:XK):Prop|mk(p:Addr)(s:State)(h:HA):vs=[.ref p]→aH H p s h→Good s→(∀H' l(as:List Addr)(L:List Bytes),cz TP H H'→cy H' TP→H l=none→H' l=some (.lst (as.map V.ref))→aY H' as (L.map ci)→L.Perm (s.accounts.map (·.code))→(L.Pairwise λx y=>(Vbbhal.pathOf s x).length≤(Vbbhal.pathOf s y).length)→Q (.ref l) H')→Ga vs H Q E
theorem o9(v:Tx)(aR:L2.BMain base mg):Oz "from_top_down" 5 ["house"] (Ga):=by f_assign(
 have U:=v.jC.fs ["house","depths","code"];refine v.jC.ok U (by walk_at"l") (λf J b5 b6 q m b7 b8 b9 aT X l=>?_);obtain⟨L,n,b,rfl,z,C,k⟩:=l;have aU:=bN X;have a0:(envOfC "from_top_down" (aO bH) q.heap.objs.size f (.ref J)).cells.lookup ("depths":Str)=some (q.heap.objs.size+1):=rfl;have a1:closureFor (bA "each" "depths") (envOfC "from_top_down" (aO bH) q.heap.objs.size f (.ref J))=pure [(("depths":Str),q.heap.objs.size+1)]:=by
  refine(rF ?_).trans ?_
  ·intro y Y hf;refine⟨q.heap.objs.size+1,?_⟩;have Y:y=(("each":Str),NameKind.local)∨y=(("depths":Str),NameKind.free):=by simpa[bA]using Y
   rcases Y with rfl|rfl;·cases hf
   ·rfl
  ·rfl
 have a2:(envOfC "from_top_down" (aO bH) q.heap.objs.size f (.ref J)).kindOf "depths"=some .cell:=rfl;have a3:Vis (envOfC "from_top_down" (aO bH) q.heap.objs.size f (.ref J)).scope "depths":=Or.inr (Or.inl rfl);refine⟨_,(ae (yn (i:=1) U.nd rfl (Or.inr rfl) cX) (ae (k_ (bW Lw rfl (mY (pe_fld (pv 0) rfl)) (gN 2 U.nd) (ai (df aU (pv 1) (pv 2) (ag (kn v) X (aa (pv 0) (aa (pv 2) af))) rfl)))) (ai (aq (Dg (i:=1) (cc:=q.heap.objs.size+1) (k':=4) aR rfl aT rfl a1 a0 a2 rfl a3 rfl X (by omega) (by rfl) v.oh (pe_fld (pv 0) rfl) rfl))))),?_⟩;obtain⟨x,M,N⟩:=perm_unmap z.tre.acR;have a4:=z.tre.ob;unfold hf at a4;walk_at"rd";intro e O;have Z:au m (upd m e (.dT (enc []))):=au.new O;have av:upd m e (.dT (enc [])) e=some (.dT (enc [])):=aj;have D:=z.same Z;have E:=D.tre.ob;unfold hf at E;have F:e≠b.aA:=λd=>by rw[d,z.ac]at O;cases O
 have a5:∀c,upd m e (.dT (enc [])) c=none→m c=none:=λc g=>(aW g).1;have a6:upd m e (.dT [])=upd m e (.dT (enc [])):=rfl;rw[a6];generalize upd m e (.dT (enc []))=r at Z av D E a5⊢;have a7:L≠b.aA:=fJ E D.ac nofun;simp_arith[E,v.az,wQ];refine⟨b.aA,_,D.ac,trivial,λo=>?_⟩;have ax:=D.lock o;have aA:upd r b.aA (.frz o (.dT b.kA)) L=_:=(ak a7).trans E;have ac:upd r b.aA (.frz o (.dT b.kA)) e=some (.dT (enc [])):=by rw[ak F];exact av
 have Q:upd r b.aA (.frz o (.dT b.kA)) b.aA=some (.frz o (.dT b.kA)):=aj;have aE:∀c h,r c=some h→c≠b.aA→upd r b.aA (.frz o (.dT b.kA)) c=some h:=λc h g d=>by rw[ak d];exact g
 have a8:∀c,upd r b.aA (.frz o (.dT b.kA)) c=none→r c=none:=λc g=>(aW g).1;generalize upd r b.aA (.frz o (.dT b.kA))=a9 at ax aA ac Q aE a8⊢;simp_arith[uj,aA,v.az];refine⟨o,.inr ⟨b.kA,Q,?_⟩⟩;have ca:x.length≤200:=by have ah:=M.length_eq;have cd:=C.alen;have ce:=C.capA;lia
 obtain⟨al,G⟩:∃al:Nat→L2.St→Hp→Prop,al=λi R s=>∃(H:Option V)(p:Mm.Mp),R=[some (V.ref L),some (V.ref e),H]∧(∀c h,a9 c=some h→c≠e→s c=some h)∧s e=some (.dT (enc p))∧p.length≤i∧∀a∈x.take i,Mm.lk? p a.code=some (((Vbbhal.pathOf n a.code).length:Nat):Int):=⟨_,rfl⟩;refine ls al ?_ ?_ ?_ ?_;·rw[G];exact⟨none,[],rfl,λc h g _=>g,ac,L6 _,λa j=>by rw[LD]at j;cases j⟩
 ·rintro i R s _ l;rw[G]at l;obtain⟨H,p,rfl,kp,g,aI,I⟩:=l;exact kp _ _ Q (Mg F)
 ·rintro i bd H bi R s A am l;rw[G]at l;obtain⟨ch,p,rfl,kp,g,aI,I⟩:=l;have cj:i<x.length:=by have:=(Jx.mp A).1;rw[N,Ln]at this;exact this
  obtain⟨a,j,bj⟩:∃a,x[i]?=some a∧(bd,H)=(ck a.code,V.ref (b.ad a.code)):=by rw[N,KL]at A;cases d:x[i]? with|none=>rw[d]at A;cases A|some bl=>rw[d]at A;exact⟨bl,rfl,(Lv A).symm⟩
  cases bj;rw[cK]at am;have bm:=M.mem_iff.mp (J_ j);have bn:=C.tree.wf.at_ bm;walk_at"rd";refine⟨L,n,b,bi,a.code,rfl,ax.but ac F kp,C,am,.inr ⟨a,bn⟩,λaK an=>?_⟩;have bv:=an _ _ g;refine⟨_,iA.t (k:=ck a.code) bv (by rw[cK];exact an _ _ am) (by rw[fE];exact bq (by lia)),?_⟩;rw[G];refine⟨_,Mm.put p a.code ((Vbbhal.pathOf n a.code).length:Nat),rfl,λc h eb S=>by rw[ak S];exact an _ _ (kp c h eb S),by rw[aj,jo],?_,λc aM=>?_⟩;·have:=Mm.qB p a.code ((Vbbhal.pathOf n a.code).length:Nat);lia
  ·rw[Mm.zu];by_cases d:c.code=a.code;·rw[Mj d,d]
   ·rw[Mi d];rw[take_snoc j]at aM;rcases Lq.mp aM with y|y;·exact I c y
    ·rw[Kt.mp y]at d;exact absurd rfl d
 · rintro R s l;rw[G]at l;obtain⟨H,p,rfl,kp,g,aI,I⟩:=l;rw[N,Ln,Lb]at I;refine⟨kp _ _ Q (Mg F),?_⟩;have T:au m (upd s b.aA (.dT b.kA)):=λc h eb=>by
     by_cases d:c=b.aA;·rw[d]at eb⊢;rw[aj,←z.ac];exact eb
     ·rw[ak d];exact kp _ _ (aE _ _ (Z _ _ eb) d) (ay eb O)
   have aN:upd s b.aA (.dT b.kA) e=some (.dT (enc p)):=by rw[ak F];exact g
   generalize upd s b.aA (.dT b.kA)=cl at T aN⊢;have B:=z.same T;have aP:=B.tre.ob;unfold hf at aP;simp_arith[Df,aP,v.az];have bP:∀a∈x,a∈n.accounts:=λa j=>M.mem_iff.mp j;refine⟨e,b.kA,.inl B.ac,?_,x.map λa=>ci a.code,?_,?_,rfl,λap=>(((Vbbhal.pathOf n (unc ap)).length:Nat):Int),?_,B.re.tab,?_⟩;·intro d;obtain⟨cm,u,_⟩:=B.re.tab;rw[←d,B.ac]at u;cases u
   ·rw[N,LV,LV];apply Kh;intro a _;exact IC a.code
   ·intro bT ar;obtain⟨a,j,rfl⟩:=LX.mp ar;have ah:=C.codes a (bP a j);unfold Vbbhal.isCode at ah;rw[K3,KS]at ah;intro d;have:=Me List.length d;unfold ci at this;rw[Ln,Lo]at this;lia
   ·intro bT ar u aK st hq2;obtain⟨a,j,rfl⟩:=LX.mp ar;have b1:=cz.kp st B.re.tab aN nofun;rw[bO]at hq2;have:=cn (.inl b1) hq2;rw[I a j]at this;show gm aK e (V.ref u) (some (V.int (((Vbbhal.pathOf n (unc (ci a.code))).length:Nat):Int)));rw[zj];exact this
   ·intro b2 as cs' ap st tk hcs hsr tu hl e3;obtain⟨bs,b3,b4⟩:=perm_unmap (f:=λa:Account=>ci a.code) hcs;subst b4;refine k b2 ap as (bs.map (·.code)) (λc h eb S=>st _ _ (T _ _ eb) S) tk (T.free hl) e3 (by rw[LV];exact tu) ((b3.trans M).map _) ?_;rw[LV,KO]at hsr;rw[KO];refine hsr.imp λ{a c}u=>?_;have u:(((Vbbhal.pathOf n (unc (ci a.code))).length:Nat):Int)≤((Vbbhal.pathOf n (unc (ci c.code))).length:Nat):=u;rw[zj,zj]at u;lia)
theorem He(c:State)(d:Nat)(g:Bytes→Int)(b:List Bytes)(j:∀a∈b,g a=Vbbhal.below c (Vbbhal.net c d) Vbbhal.DEEP a):wts g b=Vbbhal.weightsOf c d b:=by f_assign(
 have h:(b.map λa=>(g a).toNat)=b.map λa=>(Vbbhal.below c (Vbbhal.net c d) Vbbhal.DEEP a).toNat:=Kh λa l=>by rw[j a l]
 unfold wts Vbbhal.weightsOf;rw[h];simp only;generalize(b.map λa=>(Vbbhal.below c (Vbbhal.net c d) Vbbhal.DEEP a).toNat)=e at h;have m:e.length=b.length:=by rw[←h,Ln]
 have n:(b.map λ_=>1)=e.map λ_=>1:=by apply List.ext_getElem (by simp[m]);intro o p q;simp
 rw[n];by_cases f:e.all (λw=>w==0)=true
 ·rw[Mj f,Mj];have:∀w∈e,w≤0:=λw i=>by have:=eq_of_beq (K7.mp f w i);lia
  have:=lF this;lia
 ·rw[Mi f,Mi];intro y;apply f;rw[K7];intro w i;have:=vO i;have:w=0:=by lia
  rw[this];rfl)
inductive sQ(vs:List V)(H:Hp)(Q:VK)(E:XK):Prop|mk(p:Addr)(s:State)(h:HA)(m:Nat)(nd:Addr)(N:Mm.Mp):vs=[.ref p,.int m,.ref nd]→aH H p s h→Good s→H nd=some (.dT (enc N))→nd≠h.aA→((∀x∈N,∃a,Vbbhal.accountAt s x.1=some a))→N.length≤500→((∀c a,Vbbhal.accountAt s c=some a→Mm.lk (Mm.sums (c_ s N)) c=Vbbhal.below s (Vbbhal.net s m) Vbbhal.DEEP c))→(∀H' d(S:Mm.Mp),cz TP H H'→cy H' TP→H d=none→H' d=some (.dT (enc S))→(∀c a,Vbbhal.accountAt s c=some a→Mm.lk S c=(Vbbhal.shareOf (Vbbhal.shares s m) c:Nat))→Q (.ref d) H')→sQ vs H Q E
theorem kG.A1{t:Addr}{b:List Account}(k:kG H d b)(st:cz t H H')(a:cy H t):kG H' d b:=by obtain⟨c,e,f,g⟩:=k;refine⟨c,cz.kp st a e nofun,f,λh=>(g h).imp id ?_⟩;rintro⟨i,as,j,l,m,n⟩;exact⟨i,as,j,cz.kp st a l nofun,bY (λp q o=>cz.kp st a o nofun) m,n⟩
theorem kG.same{b:List Account}(k:kG H d b)(a:au H H'):kG H' d b:=by obtain⟨c,e,f,g⟩:=k;refine⟨c,a _ _ e,f,λh=>(g h).imp id ?_⟩;rintro⟨i,as,j,l,m,n⟩;exact⟨i,as,j,a _ _ l,m.same a,n⟩
theorem vP(G:Tx)(d0:L2.BMain base mg):Oz "shares_in" 6 ["house","month","nets"] (sQ):=by f_assign(
 have n:=G.il.fs ["house","month","nets","children","nets_with_below","laid","shares","code","amount","under","child","part"];refine G.il.ok n (by walk_at"l") (λe5 e6 e7 e8 e9 bT fa fd fl M f=>?_);obtain⟨T,s,a3,m,b1,cp,rfl,a4,g,d1,d2,d3,d4,d5,k⟩:=f;have U:=bN M;refine⟨_,(ae (sT 3 n.nd (ag (fN G) M (aa (pv 0) af))) (ae (sT 4 n.nd (ag (iu G) M (aa (pv 0) (aa (pv 2) af)))) (ae (sT 5 n.nd (ag (gx G) M (aa (pv 0) (aa (pv 1) af)))) (ae (sT 6 n.nd cX) (ae (bW Lw rfl (bE (ag (o9 G d0) M (aa (pv 0) af))) (gN 7 n.nd) (ae (sT 8 n.nd (bC U (pv 5) (pv 7) ao ⟨rfl,rfl,rfl,rfl⟩)) (ae (aG (rg (oE U (pv 7) (pv 3))) (ae (df U (pv 6) (pv 7) (pv 8) rfl) (ai wC)) aw) (ae (sT 9 n.nd (d6 U (pv 3) (pv 7) (λ_ _=>rfl))) (ai (bW Lw rfl (GX rfl G.Gf (aa (pv 9) (aa (ag (nS G) M (aa (pv 8) (aa (ag (tQ G) M (aa (pv 9) (aa (pv 4) af))) af))) af))) (ot rfl (cU (gN 10 n.nd) (cU (gN 11 n.nd) kW))) (ai (df U (pv 5) (pv 10) (aS op_add (bC U (pv 5) (pv 10) ao ⟨rfl,rfl,rfl,rfl⟩) (pv 11)) rfl)))))))) (ai (aq (pv 6)))))))),?_⟩;walk_at"rd";refine⟨T,s,a3,rfl,a4,g,λd9 a5 N fn cr=>⟨T,s,a3,b1,cp,rfl,a4.same N,g,N _ _ d1,d2,d3,d4,λfp p O ft Q=>⟨T,s,a3,m,rfl,a4.same (N.trans O),g,λv i X I cs=>?_⟩⟩⟩;walk_at"rd";intro h u;have a6:au v (upd v h (.dT (enc []))):=au.new u;have ct:upd v h (.dT (enc [])) h=some (.dT (enc [])):=aj;have ea:upd v h (.dT [])=upd v h (.dT (enc [])):=rfl;rw[ea];have cL:i≠h:=λc=>by rw[←c,cs]at u;cases u
 have b2:au d9 (upd v h (.dT (enc []))):=O.trans (X.trans a6);have a7:au bT (upd v h (.dT (enc []))):=N.trans b2;have cT:=cr.same b2;have c0:upd v h (.dT (enc [])) p=some (.dT (enc (Mm.sums (c_ s cp)))):=a6 _ _ (X _ _ Q);have c1:upd v h (.dT (enc [])) i=some (.dT (enc (Mm.sums (pairs (l_ s m))))):=a6 _ _ cs;have ec:p≠i:=λc=>by rw[←c]at I;rw[Q]at I;cases I
 have ed:p≠h:=λc=>by rw[←c]at u;rw[X _ _ Q]at u;cases u
 have c2:a5≠i∧a5≠h:=by obtain⟨Y,D,_⟩:=cr;exact⟨(λc=>by rw[←c]at I;rw[O _ _ D]at I;cases I),(λc=>by rw[←c]at u;rw[X _ _ (O _ _ D)]at u;cases u)⟩
 have ee:∀d,upd v h (.dT (enc [])) d=none→bT d=none:=λd e=>a7.free e;generalize upd v h (.dT (enc []))=fv at a6 ct b2 a7 cT c0 c1 ee⊢;have c3:=a4.same a7;have a8:=c3.re.tab;refine⟨T,s,a3,rfl,c3,g,λc4 b3 as l st c5 fx Z c6 a9 ef=>⟨b3,rfl,⟨_,SqL.of Z⟩,?_⟩⟩;have ej:=cT.A1 st a8;have ek:=cz.kp st a8 c0 nofun;have aE:=cz.kp st a8 c1 nofun;have aI:=cz.kp st a8 ct nofun;have em:l.Nodup:=a9.nodup_iff.mpr g.tree.wf.nd;have c7:∀x d,Vbbhal.accountAt s x=some d→x∈l:=λx d b4=>by obtain⟨b5,Q⟩:=Tr.bb b4;exact a9.mem_iff.mpr (LX.mpr ⟨d,Q,b5⟩)
 have en:∀x∈l,∃a,Vbbhal.accountAt s x=some a:=λx z=>by obtain⟨a,R,e⟩:=LX.mp (a9.mem_iff.mp z);exact⟨a,by rw[←e];exact g.tree.wf.at_ R⟩
 have fy:l.length≤200:=by have c9:=a9.length_eq;rw[Ln]at c9;have eo:=g.alen;have ep:=g.capA;lia
 have eq:as.length=l.length:=by rw[c6.len,Ln]
 obtain⟨aK,ac⟩:∃aK:Nat→L2.St→Hp→Prop,aK=λj E A=>∃(bd bi bj ah al:Option V)(q n:Mm.Mp),E=[some (V.ref T),some (V.int m),some (V.ref b1),some (V.ref a5),some (V.ref p),some (V.ref i),some (V.ref h),bd,bi,bj,ah,al]∧(∀d o,c4 d=some o→d≠i→d≠h→A d=some o)∧A i=some (.dT (enc q))∧A h=some (.dT (enc n))∧q.length≤500+200*j∧n.length≤j∧(∀b a,Vbbhal.accountAt s b=some a→Mm.lk q b=(Hm.i4 s m (l.take j) b:Nat))∧(∀b a,Vbbhal.accountAt s b=some a→Mm.lk n b=((if b∈l.take j∧Vbbhal.children s b=[]then Hm.arr s m b else 0:Nat):Int)):=⟨_,rfl⟩;refine dZ (xs:=as.map V.ref) aK ?_ ?_ ?_ ?_
 ·rw[ac];refine⟨none,none,none,none,none,_,_,rfl,λd o e _ _=>e,aE,aI,vN g (BU s m).2,L6 _,λb a _=>?_,λb a _=>?_⟩;·rw[LD,Hm.Ci,AE g]
  ·rw[LD,Mi (by simp)];rfl
 ·rintro j E A fG f;rw[ac]at f;obtain⟨bd,bi,bj,ah,al,q,am,rfl,kp,an,aM,da,db,aN,aP⟩:=f;have J:b3≠i:=λc=>by rw[c,aE]at Z;cases Z
  have L:b3≠h:=λc=>by rw[c,aI]at Z;cases Z
  exact SqL.of (kp _ _ Z J L)
 ·rintro j y E A hy f;rw[ac]at f;obtain⟨bd,bi,bj,ah,al,q,am,rfl,kp,an,aM,da,db,aN,aP⟩:=f;rw[KL]at hy;obtain⟨d,b4,rfl⟩:=JQ.mp hy;obtain⟨fU,dd,dn⟩:=fF c6 b4;rw[KL]at dd;obtain⟨b,F,rfl⟩:=JQ.mp dd;rw[bO]at dn;have fV:j<l.length:=(Jx.mp F).1;obtain⟨a,R⟩:=en b (J_ F);have b6:∀d o,c4 d=some o→(∀Y,o≠.dT Y)→A d=some o:=λd o e B=>kp d o e (λc=>by rw[c,aE]at e;exact B _ (Lv e).symm) (λc=>by rw[c,aI]at e;exact B _ (Lv e).symm);have aR:=b6 _ _ dn nofun;have er:¬b∈l.take j:=λc=>by obtain⟨fW,f0,es⟩:=Tr.cF.mp c;have:=Tr.jv em es F;lia
  have et:Mm.lk q b=(Hm.arr s m b:Nat):=by rw[aN b a R,Hm.Cj g.tree.wf R λD ev=>Hm.wt g.tree.wf ef R F c7 ev]
  have dr:Vbbhal.isCode b=true:=by obtain⟨b5,Q⟩:=Tr.bb R;rw[←b5];exact g.codes a Q
  have ew:b≠[]:=λc=>by rw[c]at dr;exact absurd dr (by decide)
  obtain⟨Y,ex,f1,ey⟩:=ej;have b7:=kp _ _ ex c2.1 c2.2;have b8:=λx=>Hm.Bb (m:=m) g.tree.wf er x;rw[←take_snoc F]at b8;walk_at"rd";refine⟨.inr ⟨_,.inl an⟩,_,cn (.inl an) aR,?_⟩;rw[c8,et];have ds:=AI g ew;have b9:∀x,x∈l.take (j+1)↔x∈l.take j∨x=b:=λx=>by rw[take_snoc F];simp
  rcases ey b with⟨kz,vz⟩|⟨lu,bs,vz,elu,tuu,knz⟩
  ·rw[ds]at kz;refine⟨none,.inr ⟨Y,ck b,d,.inl b7,rfl,by rw[cK];exact aR,vz.symm⟩,?_⟩;rw[Mj (by rfl)];refine⟨_,iA.t (k:=ck b) aM (by rw[cK];exact aR) (by rw[fE];exact bq (by lia)),?_⟩;show aK (j+1) _ _;rw[ac];refine⟨_,_,_,_,_,q,Mm.put am b (Hm.arr s m b:Nat),rfl,λbl dx eb J L=>by rw[ak L];exact kp _ _ eb J L,by rw[ak cL];exact an,by rw[aj,jo],by lia,?_,λx H z=>?_,λx H z=>?_⟩;·have:=Mm.qB am b (Hm.arr s m b:Nat);lia
   ·have:Vbbhal.shareOf (Hm.parts s m b) x=0:=Hm.iZ (by rw[Hm.eN,kz];simp);rw[b8 x,this,Nat.add_zero];exact aN x H z
   ·rw[Mm.Cb];by_cases c:x=b;·rw[Mj c,Mj ⟨(b9 x).mpr (.inr c),by rw[c];exact kz⟩,c]
    ·rw[Mi c,aP x H z];have:(x∈l.take (j+1)∧Vbbhal.children s x=[])↔(x∈l.take j∧Vbbhal.children s x=[]):=by rw[b9 x];simp[c]
     simp only[this]
  ·rw[ds]at tuu knz;refine⟨some (.ref lu),.inr ⟨Y,ck b,d,.inl b7,rfl,by rw[cK];exact aR,vz.symm⟩,?_⟩;rw[Mi nofun];refine⟨.ref lu,.inr ⟨Y,ck b,d,.inl b7,rfl,by rw[cK];exact aR,vz.symm⟩,?_⟩;have dy:=b6 _ _ elu nofun;have dA:=bY (λbl xs e=>b6 bl _ e nofun) tuu;have ez:=kp _ _ ek ec ed;have f2:(Vbbhal.children s b).length≤200:=by have c9:=Hm.qX (s:=s) b;have eo:=g.alen;have ep:=g.capA;lia
   have eA:=Hm.wu (m:=m) g b;simp_arith[H_];refine⟨lu,p,bs,Vbbhal.children s b,_,rfl,dy,dA,ez,by lia,λf3 eD eF f4 dK=>?_⟩;rw[He s m _ _ (λx z=>by obtain⟨H,eH,_⟩:=Hm.eU g.tree.wf z;exact d5 x H eH)]at dK;refine⟨Hm.arr s m b,eD,Vbbhal.weightsOf s m (Vbbhal.children s b),rfl,.inl dK,Hm.Gp g R,Hm.wx b knz,?_,by rw[Hm.Es];lia,λdL dT eL f5 ap=>?_⟩;·exact Kv eA (Kw (show 200000000000000000000000000<2^128 by decide) (Nat.pow_le_pow_right (by decide) (by decide)))
   have aT:=eF.trans eL;have ar:=aT _ _ dy;have eM:=dA.same aT;have bm:=aT _ _ an;have eP:=aT _ _ aM;have ca:lu≠i:=λc=>by rw[c,bm]at ar;cases ar
   have cc:dT≠i:=λc=>by rw[c,bm]at ap;cases ap
   have dV:bs.length=(Vbbhal.children s b).length:=by rw[tuu.len,Ln]
   have eQ:(Vbbhal.split (Hm.arr s m b) (Vbbhal.weightsOf s m (Vbbhal.children s b))).length=(Vbbhal.children s b).length:=by rw[Hm.Gj,Hm.Es]
   have eS:(Hm.parts s m b).length=(Vbbhal.children s b).length:=by have:=Me List.length (Hm.eN (s:=s) (m:=m) b);rw[Ln]at this;exact this
   refine⟨dT,rfl,⟨_,SqL.of ar⟩,⟨_,SqL.of ap⟩,?_⟩;obtain⟨cd,av⟩:∃cd:Nat→L2.St→Hp→Prop,cd=λaU E A=>∃(ah al:Option V)(C:Mm.Mp),E=[some (V.ref T),some (V.int m),some (V.ref b1),some (V.ref a5),some (V.ref p),some (V.ref i),some (V.ref h),some (V.ref d),some (V.int (Hm.arr s m b:Nat)),some (V.ref lu),ah,al]∧(∀d o,dL d=some o→d≠i→A d=some o)∧A i=some (.dT (enc C))∧C.length≤q.length+aU∧C=((Hm.parts s m b).take aU).foldl (λq y=>Mm.acc q y.1 (y.2:Int)) q:=⟨_,rfl⟩;refine nB (Vbbhal.children s b).length cd ?_ ?_ ?_ ?_ ?_;·rw[av];exact⟨_,_,q,rfl,λd o e _=>e,bm,L6 _,rfl⟩
   ·rintro aU E S ce f;rw[av]at f;obtain⟨ch,cj,C,rfl,r,a0,cl,ax⟩:=f;exact⟨_,_,_,_,SqL.of (r _ _ ar ca),SqL.of (r _ _ ap cc),JA (by rw[Ln,dV];exact ce),JA (by unfold wi;rw[Ln,Ln,eQ];exact ce)⟩
   ·rintro E S f;rw[av]at f;obtain⟨ch,cj,C,rfl,r,a0,cl,ax⟩:=f;exact⟨_,_,SqL.of (r _ _ ar ca),SqL.of (r _ _ ap cc),.inl (by rw[Ln,dV];exact L6 _)⟩
   ·rintro aU y E S H9 ce f⟨t,x1,x2,rfl,ht,rfl,bn,a1⟩;rw[av]at f;obtain⟨ch,cj,C,rfl,r,a0,cl,ax⟩:=f;have bn:=bn _ (SqL.of (r _ _ ar ca));have a1:=a1 _ (SqL.of (r _ _ ap cc));rw[KL]at bn;obtain⟨aA,eT,rfl⟩:=JQ.mp bn;obtain⟨f8,dW,bv⟩:=fF eM eT;rw[KL]at dW;obtain⟨a2,eW,rfl⟩:=JQ.mp dW;rw[bO]at bv;unfold wi at a1;rw[LV,KL]at a1;obtain⟨B,e0,rfl⟩:=JQ.mp a1;have e1:(Hm.parts s m b)[aU]?=some (a2,B):=by unfold Hm.parts;rw[List.getElem?_zip_eq_some];exact⟨eW,e0⟩
    have e2:aA≠i:=λc=>by rw[c,bm]at bv;cases bv
    have cm:=au.new ht (o:=.tup [.ref aA,.int (B:Nat)]);have co:=cm _ _ (r _ _ bv e2);have bP:=cm _ _ a0;have dX:∀d o,dL d=some o→d≠i→upd S t (.tup [.ref aA,.int (B:Nat)]) d=some o:=λd o e p=>cm _ _ (r d o e p);refine⟨t,_,rfl,SqT.of aj,rfl,?_⟩;have e3:upd S t (.tup [.ref aA,((V.int∘λw:Nat=>(w:Int)) B)])=upd S t (.tup [.ref aA,.int (B:Nat)]):=rfl;rw[e3];generalize upd S t (.tup [.ref aA,.int (B:Nat)])=f9 at co bP dX⊢;simp_arith[mP,wD];refine⟨.inr ⟨_,.inl bP⟩,_,cn (.inl bP) co,_,c8 _ _,_,rfl,_,iA.t (k:=ck a2) bP (by rw[cK];exact co) ?_,?_⟩;·rw[fE];show _<2^24;lia
    ·rw[av];refine⟨_,_,Mm.acc C a2 (B:Nat),rfl,λbl dx eb p=>by rw[ak p];exact dX _ _ eb p,by rw[aj,jo];rfl,?_,?_⟩;·have:=Mm.qB C a2 (Mm.lk C a2+(B:Nat));unfold Mm.acc;lia
     ·rw[take_snoc e1,List.foldl_append,←ax];rfl
   ·rintro E S f;rw[av]at f;obtain⟨ch,cj,C,rfl,r,a0,cl,ax⟩:=f;rw[←eS,Lb]at ax;show aK (j+1) _ _;rw[ac];refine⟨_,_,_,_,_,C,am,rfl,λbl dx eb J L=>r _ _ (aT _ _ (kp _ _ eb J L)) J,a0,r _ _ eP (Mg cL),by lia,by lia,λx H z=>?_,λx H z=>?_⟩;·rw[ax,Hm.zx _ _ _ (Hm.wm g.tree.wf b),aN x H z,b8 x];lia
    · rw[aP x H z];have:(x∈l.take (j+1)∧Vbbhal.children s x=[])↔(x∈l.take j∧Vbbhal.children s x=[]):=by
        rw[b9 x];constructor
        ·rintro⟨c|c,y⟩;·exact⟨c,y⟩
         ·rw[c]at y;exact absurd y knz
        ·rintro⟨c,y⟩;exact⟨.inl c,y⟩
      simp only[this]
 ·rintro E A f;rw[ac]at f;obtain⟨bd,bi,bj,ah,al,q,am,rfl,kp,an,aM,da,db,aN,aP⟩:=f;walk_at"rd";have e4:∀d o,bT d=some o→d≠i∧d≠h:=λd o e=>⟨(λc=>by rw[c]at e;rw[O _ _ (N _ _ e)]at I;cases I),(λc=>by rw[c]at e;rw[X _ _ (O _ _ (N _ _ e))]at u;cases u)⟩;refine k A h am (λd o eb p=>?_) ?_ (N.free (O.free (X.free u))) aM (λb a F=>?_);·obtain⟨J,L⟩:=e4 d o eb;exact kp _ _ (st _ _ (a7 _ _ eb) p) J L
  ·refine c5.keep ?_ λd ga e=>kp _ _ e (λc=>by rw[c,aE]at e;cases e) (λc=>by rw[c,aI]at e;cases e);obtain⟨gb,D,_⟩:=c5;rw[D];exact kp _ _ D (λc=>by rw[c,aE]at D;cases D) (λc=>by rw[c,aI]at D;cases D)
  ·rw[aP b a F,Hm.Cg g.tree.wf F,Ln,eq,Lb];simp[c7 b a F])
theorem putK_new{a:List (List Key×V)}{k:List Key}(b:¬k∈a.map (·.1)):putK a k v=a++[(k,v)]:=by unfold putK;rw[Mi];intro c;obtain⟨x,d,e⟩:=List.any_eq_true.mp c;exact b (LX.mpr ⟨x,d,KU e⟩)
def eZ(a:State)(b:Mm.Mp):Mm.Mp:=Im.vals (λc=>((Vbbhal.discountOf a c:Nat):Int)) b
def nU(b:State)(c:Mm.Mp):Mm.Mp:=Im.vals (λa=>a-((Vbbhal.discountOf b a:Nat):Int)) c
inductive D9(vs:List V)(H:Hp)(Q:VK)(E:XK):Prop|mk(p:Addr)(s:State)(h:HA)(m:Nat):vs=[.ref p,.int m]→aH H p s h→Good s→(∀H' d(kvs:List (List Key×V))(ia:Bytes→Addr),cz TP H H'→cy H' TP→H d=none→H' d=some (.dT kvs)→kvs.Perm ((Vbbhal.invoicesOf s m).map λi=>(ck i.code,V.ref (ia i.code)))→(∀i∈Vbbhal.invoicesOf s m,H' (ia i.code)=some (.tup (lL i)))→Q (.ref d) H')→D9 vs H Q E
theorem sR(ah:Tx)(es:L2.BMain base mg):Oz "invoices_in" 7 ["house","month"] (D9):=by f_assign(
 have A:=ah.f_.fs ["house","month","owns","discounts","nets","code","own","shares","invoices","discount","share"];refine ah.f_.ok A (by walk_at"l") (λfW f0 f1 f2 f3 H f4 f5 f8 a7 q=>?_);obtain⟨N,b,g,h,rfl,Q,C,k⟩:=q;have T:=bN a7;refine⟨_,(ae (sT 2 A.nd (ag (jr ah) a7 (aa (pv 0) (aa (pv 1) af)))) (ae (sT 3 A.nd cX) (ae (sT 4 A.nd cX) (ae (k_ (bW Lw rfl (uu (pv 2)) (ot rfl (cU (gN 5 A.nd) (cU (gN 6 A.nd) kW))) (ae (df T (pv 3) (pv 5) (ag (sO ah) a7 (aa (pv 0) (aa (pv 6) af))) rfl) (ai (df T (pv 4) (pv 5) (aS op_sub (pv 6) (d6 T (pv 3) (pv 5) (λ_ _=>rfl))) rfl))))) (ae (sT 7 A.nd (ag (vP ah es) a7 (aa (pv 0) (aa (pv 1) (aa (pv 4) af))))) (ae (sT 8 A.nd cX) (ae (k_ (bW Lw rfl (mY (pe_fld (pv 0) rfl)) (gN 5 A.nd) (ae (sT 6 A.nd (bC T (pv 2) (pv 5) ao ⟨rfl,rfl,rfl,rfl⟩)) (ae (sT 9 A.nd (bC T (pv 3) (pv 5) ao ⟨rfl,rfl,rfl,rfl⟩)) (ae (sT 10 A.nd (bC T (pv 7) (pv 5) ao ⟨rfl,rfl,rfl,rfl⟩)) (ai (aG (PW.pt (Fz (pt_cmpR xq (pv 6) ao (aD _)) (Cr (pt_cmpR xq (pv 10) ao (aD _))))) (ai (df T (pv 8) (pv 5) (fQ (aa (pv 6) (aa (pv 9) (aa (pv 10) (aa (aS op_add (aS op_sub (pv 6) (pv 9)) (pv 10)) af))))) rfl)) aw))))))) (ai (aq (pv 8)))))))))),?_⟩;walk_at"rd";refine⟨N,b,g,h,rfl,Q,C,λU p b1 et a8=>?_⟩;obtain⟨e,aE⟩:∃e,e=Mm.sums (pairs (qi b h)):=⟨_,rfl⟩;rw[←aE]at a8;have b2:(e.map (·.1)).Nodup:=by rw[aE];exact Mm.zw _
 have ev:∀x∈e,∃a,Vbbhal.accountAt b x.1=some a:=by rw[aE];exact vM C (kE b h).1
 have ew:e.length≤500:=by rw[aE];exact vN C (kE b h).2
 have b3:∀c,Mm.lk e c=Vbbhal.own b h c:=λc=>by rw[aE,DY]
 intro n a9 s al;have ex:upd (upd U n (.dT [])) s (.dT [])=upd (upd U n (.dT (enc []))) s (.dT (enc [])):=rfl;rw[ex];have b4:n≠s:=λd=>by rw[d,aj]at al;cases al
 have bd:p≠n:=ay a8 a9;have b5:p≠s:=λd=>by rw[←d,ak bd,a8]at al;cases al
 have b6:au U (upd (upd U n (.dT (enc []))) s (.dT (enc []))):=(au.new a9).trans (au.new al);have c0:upd (upd U n (.dT (enc []))) s (.dT (enc [])) s=some (.dT (enc [])):=aj;have c1:upd (upd U n (.dT (enc []))) s (.dT (enc [])) n=some (.dT (enc [])):=by rw[ak b4,aj]
 have c2:=b6 _ _ a8;have b7:H n=none:=b1.free a9;have b8:H s=none:=b1.free ((au.new a9).free al);have c3:=b1.trans b6;generalize upd (upd U n (.dT (enc []))) s (.dT (enc []))=aI at b6 c0 c1 c2 c3⊢;simp_arith[wQ];refine⟨p,_,c2,trivial,λO=>?_⟩;simp_arith[vi,aj];refine⟨O,enc e,rfl,?_⟩;have bi:H p=none:=et;have c4:au H (upd aI p (.frz O (.dT (enc e)))):=λf o m=>by rw[ak (ay m bi)];exact c3 _ _ m
 have c5:upd aI p (.frz O (.dT (enc e))) p=some (.frz O (.dT (enc e))):=aj;have c6:upd aI p (.frz O (.dT (enc e))) n=some (.dT (enc [])):=by rw[ak (Mg bd)];exact c1
 have c7:upd aI p (.frz O (.dT (enc e))) s=some (.dT (enc [])):=by rw[ak (Mg b5)];exact c0
 generalize upd aI p (.frz O (.dT (enc e)))=f9 at c4 c5 c6 c7⊢;obtain⟨b9,am⟩:∃b9:Nat→L2.St→Hp→Prop,b9=λi I l=>∃(R S:Option V),I=[some (V.ref N),some (V.int h),some (V.ref p),some (V.ref n),some (V.ref s),R,S,none,none,none,none]∧au H l∧l p=some (.frz O (.dT (enc e)))∧l n=some (.dT (enc (eZ b (e.take i))))∧l s=some (.dT (enc (nU b (e.take i)))):=⟨_,rfl⟩;refine nB e.length b9 ?_ ?_ ?_ ?_ ?_;·rw[am];exact⟨none,none,rfl,c4,c5,c6,c7⟩
 ·rintro i I l D q;rw[am]at q;obtain⟨R,S,rfl,aK,X,an,ap⟩:=q;exact⟨X,by rw[fE];exact D⟩
 ·rintro I l q;rw[am]at q;obtain⟨R,S,rfl,aK,X,an,ap⟩:=q;exact⟨X,by rw[fE];exact L6 _⟩
 ·rintro i y I l H'' D q⟨t,ca,cc,B,hkv,rfl,ht,hq,rfl⟩;rw[am]at q;obtain⟨R,S,rfl,aK,X,an,ap⟩:=q;obtain⟨x,aM,ey⟩:∃x,e[i]?=some x∧(ck x.1,V.int x.2)=(ca,cc):=by unfold enc at hkv;rw[KL]at hkv;exact JQ.mp hkv
  cases ey;rw[cK]at hq;refine⟨t,_,rfl,SqT.of aj,rfl,?_⟩;have E:au l (upd l t (.tup [.ref B,.int x.2])):=au.new ht;have cd:=aK.trans E;have c9:=E _ _ X;have da:=E _ _ an;have db:=E _ _ ap;have dd:=E _ _ hq;generalize upd l t (.tup [.ref B,.int x.2])=ga at cd c9 da db dd⊢;have hnew:¬x.1∈(e.take i).map (·.1):=λd=>by obtain⟨y,ce,m⟩:=LX.mp d;obtain⟨j,ez,eA⟩:=Tr.cF.mp ce;have:=Tr.jv b2 (i:=j) (j:=i) (x:=x.1) (by rw[KL,eA,←m];rfl) (by rw[KL,aM];rfl);lia
  have gb:(e.take i).length≤500:=by rw[K_];lia
  simp_arith[mP,wD];refine⟨N,b,g,x.2,rfl,Q.same cd,C,λar aN=>?_⟩;have aP:=aN _ _ c9;have aR:=aN _ _ da;have bj:=aN _ _ db;have bl:=aN _ _ dd;have eD:=cd.trans aN;have eF:(enc (eZ b (e.take i))).length<sizeLine:=by rw[fE];unfold eZ Im.vals;rw[Ln];exact bq (by lia)
  have eH:(enc (nU b (e.take i))).length<sizeLine:=by rw[fE];unfold nU Im.vals;rw[Ln];exact bq (by lia)
  refine⟨_,iA.t (k:=ck x.1) aR (by rw[cK];exact bl) eF,?_⟩;rw[jo,Im.zF (by unfold eZ;rw[Im.kQ];exact hnew)];have dn:eZ b (e.take i)++[(x.1,((Vbbhal.discountOf b x.2:Nat):Int))]=eZ b (e.take (i+1)):=by rw[take_snoc aM];unfold eZ Im.vals;rw[Lp];rfl
  rw[dn];have ch:upd ar n (.dT (enc (eZ b (e.take (i+1))))) B=some (.tup (cv x.1)):=by rw[ak (λd=>by rw[d,aR]at bl;cases bl)];exact bl
  have cj:upd ar n (.dT (enc (eZ b (e.take (i+1))))) n=some (.dT (enc (eZ b (e.take (i+1))))):=aj;have dr:upd ar n (.dT (enc (eZ b (e.take (i+1))))) s=some (.dT (enc (nU b (e.take i)))):=by rw[ak (Mg b4)];exact bj
  have ds:upd ar n (.dT (enc (eZ b (e.take (i+1))))) p=some (.frz O (.dT (enc e))):=by rw[ak bd];exact aP
  have dx:au H (upd ar n (.dT (enc (eZ b (e.take (i+1)))))):=λf o m=>by rw[ak (ay m b7)];exact eD _ _ m
  generalize upd ar n (.dT (enc (eZ b (e.take (i+1)))))=ge at ch ds cj dr dx⊢;have eL:Mm.lk? (eZ b (e.take (i+1))) x.1=some ((Vbbhal.discountOf b x.2:Nat):Int):=by
   refine Mm.Ca ?_ ?_;·unfold eZ;rw[Im.kQ];have:((e.take (i+1)).map (·.1)).Sublist (e.map (·.1)):=(List.take_sublist ..).map _;exact this.nodup b2
   ·rw[←dn];simp
  have dy:=cn (c:=x.1) (.inl cj) ch;rw[eL]at dy;refine⟨_,dy,_,rfl,_,iA.t (k:=ck x.1) dr (by rw[cK];exact ch) eH,?_⟩;rw[am];refine⟨_,_,rfl,λf o m=>by rw[ak (ay m b8)];exact dx _ _ m,by rw[ak b5];exact ds,by rw[ak b4];exact cj,?_⟩;rw[aj,jo,Im.zF (by unfold nU;rw[Im.kQ];exact hnew),take_snoc aM];congr 3;unfold nU Im.vals;rw[Lp];rfl
 ·rintro I l q;rw[am]at q;obtain⟨R,S,rfl,aK,X,an,ap⟩:=q;rw[Lb]at an ap;refine⟨X,_,rfl,_,rfl,_,rfl,?_⟩;have bm:au H (upd l p (.dT (enc e))):=λf o m=>by rw[ak (ay m bi)];exact aK _ _ m
  have aP:upd l p (.dT (enc e)) p=some (.dT (enc e)):=aj;have aR:upd l p (.dT (enc e)) n=some (.dT (enc (eZ b e))):=by rw[ak (Mg bd)];exact an
  have bj:upd l p (.dT (enc e)) s=some (.dT (enc (nU b e))):=by rw[ak (Mg b5)];exact ap
  generalize upd l p (.dT (enc e))=gg at bm aP aR bj⊢;have aT:=Q.same bm;have eM:∀c,Mm.lk (nU b e) c=Vbbhal.net b h c:=λc=>by unfold nU;rw[Im.zG _ (by rw[Im.oo];rfl),b3];rfl
  have eP:∀c,Mm.lk (eZ b e) c=(Vbbhal.discountOf b (Vbbhal.own b h c):Nat):=λc=>by unfold eZ;rw[Im.zG _ (by rw[Im.oo];rfl),b3]
  have cl:∀x∈nU b e,∃a,Vbbhal.accountAt b x.1=some a:=λx aM=>by obtain⟨y,ce,m⟩:=LX.mp aM;rw[←m];exact ev y ce
  have eQ:((nU b e).map (·.1)).Nodup:=by unfold nU;rw[Im.kQ];exact b2
  refine⟨N,b,g,h,s,nU b e,rfl,aT,C,bj,(λd=>by rw[d,Q.ac]at b8;cases b8),cl,?_,λc a eS=>?_,λbn Y eT st dA bv dK eW=>?_⟩;·unfold nU Im.vals;rw[Ln];exact ew
  ·rw[xJ C c cl];exact Im.yk C eQ cl eM eS
  have dL:=aT.A1 st dA;have dT:=cz.kp st aT.re.tab aP nofun;have dV:=cz.kp st aT.re.tab aR nofun;have gl:Y≠p:=λd=>by rw[d,aP]at bv;cases bv
  intro r v;have av:=au.new v (o:=.dT ([]:List (List Key×V)));have ax:=dL.same av;have cm:upd bn r (.dT ([]:List (List Key×V))) r=some (.dT []):=aj;have dW:=av _ _ dT;have dX:=av _ _ dV;have d0:=av _ _ dK;have co:cy (upd bn r (.dT ([]:List (List Key×V)))) TP:=ax.re.tab;have aU:r≠g.aA:=λd=>by rw[d,dL.ac]at v;cases v
  have d1:cz TP H (upd bn r (.dT ([]:List (List Key×V)))):=λf o m e0=>av _ _ (st _ _ (bm _ _ m) e0);have d2:H r=none:=by cases d:H r with|none=>rfl|some o=>
   by_cases y:r=TP;·obtain⟨e1,B,_⟩:=dA;rw[y,B]at v;cases v
   ·rw[st _ _ (bm _ _ d) y]at v;cases v
  generalize upd bn r (.dT ([]:List (List Key×V)))=J at av ax cm dW dX d0 co d1⊢;refine⟨g.aA,_,ax.ac,trivial,λL=>?_⟩;have cp:=ax.tre.ob;unfold hf at cp;have e2:N≠g.aA:=fJ cp ax.ac nofun;have e3:p≠g.aA:=λd=>by rw[d,Q.ac]at bi;cases bi
  have e4:n≠g.aA:=λd=>by rw[d,Q.ac]at b7;cases b7
  have e5:Y≠g.aA:=λd=>by rw[d,aT.ac]at bv;cases bv
  have e6:p≠r:=λd=>by rw[←d,dT]at v;cases v
  have e7:n≠r:=λd=>by rw[←d,dV]at v;cases v
  have e8:Y≠r:=λd=>by rw[←d,dK]at v;cases v
  have d3:upd J g.aA (.frz L (.dT g.kA)) N=_:=(ak e2).trans cp;have a0:upd J g.aA (.frz L (.dT g.kA)) g.aA=some (.frz L (.dT g.kA)):=aj;have d4:upd J g.aA (.frz L (.dT g.kA)) r=some (.dT []):=by rw[ak aU];exact cm
  have d5:upd J g.aA (.frz L (.dT g.kA)) p=some (.dT (enc e)):=by rw[ak e3];exact dW
  have d9:upd J g.aA (.frz L (.dT g.kA)) n=some (.dT (enc (eZ b e))):=by rw[ak e4];exact dX
  have ea:upd J g.aA (.frz L (.dT g.kA)) Y=some (.dT (enc eT)):=by rw[ak e5];exact d0
  have cr:∀f o,J f=some o→f≠g.aA→upd J g.aA (.frz L (.dT g.kA)) f=some o:=λf o m d=>by rw[ak d];exact m
  generalize upd J g.aA (.frz L (.dT g.kA))=e9 at d3 a0 d4 d5 d9 ea cr⊢;simp_arith[uj,d3,ah.az];refine⟨L,.inr ⟨g.kA,a0,?_⟩⟩;obtain⟨M,a1,cs⟩:=perm_unmap Q.tre.acR;have gr:M.length≤200:=by have ct:=a1.length_eq;have cL:=C.alen;have gs:=C.capA;lia
  have fa:(M.map (·.code)).Nodup:=(a1.map _).nodup_iff.mpr C.tree.wf.nd;obtain⟨a2,aA⟩:∃a2:Nat→L2.St→Hp→Prop,a2=λi I l=>∃(R S fd fl:Option V)(z:Bytes→Addr),I=[some (V.ref N),some (V.int h),some (V.ref p),some (V.ref n),some (V.ref s),R,S,some (V.ref Y),some (V.ref r),fd,fl]∧(∀f o,e9 f=some o→f≠r→l f=some o)∧l r=some (.dT (((M.take i).filter (Im.iF b h)).map λa=>(ck a.code,V.ref (z a.code))))∧∀a∈M.take i,Im.iF b h a=true→l (z a.code)=some (.tup (lL (Im.yl b h a))):=⟨_,rfl⟩;refine ls a2 ?_ ?_ ?_ ?_;·rw[aA];exact⟨R,S,none,none,λ_=>0,rfl,λf o m _=>m,d4,λa F=>by rw[LD]at F;cases F⟩
  ·rintro i I l _ q;rw[aA]at q;obtain⟨ec,ed,ee,ef,z,rfl,kp,m,hall⟩:=q;exact kp _ _ a0 (Mg aU)
  ·rintro i ca cc cT I l D a3 q;rw[aA]at q;obtain⟨ec,ed,ee,ef,z,rfl,kp,m,hall⟩:=q;have gt:i<M.length:=by have:=(Jx.mp D).1;rw[cs,Ln]at this;exact this
   obtain⟨a,F,a4⟩:∃a,M[i]?=some a∧(ca,cc)=(ck a.code,V.ref (g.ad a.code)):=by rw[cs,KL]at D;cases d:M[i]? with|none=>rw[d]at D;cases D|some fn=>rw[d]at D;exact⟨fn,rfl,(Lv D).symm⟩
   cases a4;rw[cK]at a3;have fp:=a1.mem_iff.mp (J_ F);have ft:=C.tree.wf.at_ fp;have ej:=kp _ _ d5 e6;have ek:=kp _ _ d9 e7;have em:=kp _ _ ea e8;walk_at"rd";refine⟨.inr ⟨_,.inl ej⟩,_,cn (.inl ej) a3,.inr ⟨_,.inl ek⟩,_,cn (.inl ek) a3,.inr ⟨_,.inl em⟩,_,cn (.inl em) a3,?_⟩;rw[c8,c8,c8,b3,eP,eW a.code a ft];have hnew:∀f∈M.take i,f.code≠a.code:=λf G d=>by obtain⟨j,ez,fv⟩:=Tr.cF.mp G;have:=Tr.jv fa (i:=j) (j:=i) (x:=a.code) (by rw[KL,fv,←d];rfl) (by rw[KL,F];rfl);lia
   have en:∀u,l u=none→Im.iF b h a=true→∃eo,iA (upd l u (.tup (lL (Im.yl b h a)))) r (V.ref cT) (V.ref u) eo∧a2 (i+1) [some (V.ref N),some (V.int h),some (V.ref p),some (V.ref n),some (V.ref s),some (V.ref cT),some (V.int (Vbbhal.own b h a.code)),some (V.ref Y),some (V.ref r),some (V.int (Vbbhal.discountOf b (Vbbhal.own b h a.code):Nat)),some (V.int (Vbbhal.shareOf (Vbbhal.shares b h) a.code:Nat))] eo:=λu Z bP=>by
    have E:=au.new Z (o:=.tup (lL (Im.yl b h a)));have a4:=E _ _ m;have fx:u≠r:=λd=>by rw[d,m]at Z;cases Z
    have ep:upd l u (.tup (lL (Im.yl b h a))) u=some (.tup (lL (Im.yl b h a))):=aj;have eq:=E _ _ a3;generalize upd l u (.tup (lL (Im.yl b h a)))=fy at E a4 ep eq⊢;refine⟨_,iA.t (k:=ck a.code) a4 (by rw[cK];exact eq) ?_,?_⟩;·rw[Ln];have ct:=JV (Im.iF b h) (M.take i);have cL:=List.length_take_le i M;exact bq (by lia)
    ·rw[aA];refine⟨_,_,_,_,λc=>if c=a.code then u else z c,rfl,λf o eb ac=>by rw[ak ac];exact E _ _ (kp _ _ eb ac),?_,λf G a5=>?_⟩
     ·rw[aj,putK_new,take_snoc F,Ko,Lp]
      ·congr 2;congr 1;·apply Kh;intro f G;show _=(ck f.code,V.ref (if f.code=a.code then u else z f.code));rw[Mi (hnew f (Lr.mp G).1)]
       ·rw[K8,Mj bP,List.filter_nil,LM,LW];show _=[(ck a.code,V.ref (if a.code=a.code then u else z a.code))];rw[Mj rfl]
      ·intro d;rw[LV]at d;obtain⟨f,G,eb⟩:=LX.mp d;exact hnew f (Lr.mp G).1 (fS eb)
     ·rw[take_snoc F]at G;show upd fy r _ (if f.code=a.code then u else z f.code)=_;rcases Lq.mp G with y|y;·rw[Mi (hnew f y)];have:=E _ _ (hall f y a5);rw[ak (λd=>by rw[d,a4]at this;cases this)];exact this
      ·rw[Kt.mp y,Mj rfl,ak fx];exact ep
   have fG:Im.iF b h a=false→a2 (i+1) [some (V.ref N),some (V.int h),some (V.ref p),some (V.ref n),some (V.ref s),some (V.ref cT),some (V.int (Vbbhal.own b h a.code)),some (V.ref Y),some (V.ref r),some (V.int (Vbbhal.discountOf b (Vbbhal.own b h a.code):Nat)),some (V.int (Vbbhal.shareOf (Vbbhal.shares b h) a.code:Nat))] l:=λbP=>by
    rw[aA];refine⟨_,_,_,_,z,rfl,kp,?_,λf G a5=>?_⟩;·rw[take_snoc F,Ko,K8,Mi (by rw[bP];decide),List.filter_nil,Lj];exact m
    ·rw[take_snoc F]at G;rcases Lq.mp G with y|y;·exact hall f y a5
     ·rw[Kt.mp y,bP]at a5;cases a5
   by_cases a6:Vbbhal.own b h a.code=0
   ·refine⟨_,rfl,?_⟩;rw[Mi (by simp[a6])];refine⟨_,rfl,?_⟩;by_cases bT:Vbbhal.shareOf (Vbbhal.shares b h) a.code=0;·rw[Mi (by simp[bT])];exact fG (by unfold Im.iF;simp[a6,bT])
    ·rw[Mj (by simp[bT])];exact⟨_,rfl,_,rfl,_,rfl,by decide,λu Z=>en u Z (by unfold Im.iF;simp[a6,bT])⟩
   ·refine⟨_,rfl,?_⟩;rw[Mj (by simp[a6])];exact⟨_,rfl,_,rfl,_,rfl,by decide,λu Z=>en u Z (by unfold Im.iF;simp[a6])⟩
  ·rintro I l q;rw[aA]at q;obtain⟨ec,ed,ee,ef,z,rfl,kp,m,hall⟩:=q;rw[cs,Ln,Lb]at m hall;refine⟨kp _ _ a0 (Mg aU),_,rfl,?_⟩;refine k _ r _ z (λf o eb ac=>?_) ?_ d2 (by rw[ak aU];exact m) ?_ ?_
   ·by_cases d:f=g.aA;·rw[d]at eb⊢;rw[aj,←Q.ac];exact eb
    ·rw[ak d];exact kp _ _ (cr _ _ (d1 _ _ eb ac) d) (ay eb d2)
   · have er:∀f o,J f=some o→(∀fU,o≠.dT fU)→upd l g.aA (.dT g.kA) f=some o:=λf o eb ac=>by
       have d:f≠g.aA:=λd=>by rw[d,ax.ac]at eb;exact ac _ (Lv eb).symm
       rw[ak d];exact kp _ _ (cr _ _ eb d) (λy=>by rw[y,cm]at eb;exact ac _ (Lv eb).symm)
     refine co.keep ?_ λf gu B=>er _ _ B nofun;obtain⟨e1,B,_⟩:=co;rw[B];exact er _ _ B nofun
   ·rw[Im.qE,LV];exact(a1.filter _).map _
   ·rw[Im.qE];intro i D;obtain⟨a,F,rfl⟩:=LX.mp D;obtain⟨ct,cL⟩:=Lr.mp F;have:=hall a (a1.mem_iff.mpr ct) cL;show upd l g.aA (.dT g.kA) (z a.code)=_;have fV:z a.code≠g.aA:=λd=>by have B:=kp _ _ a0 (Mg aU);rw[d,B]at this;cases this
    rw[ak fV];exact this)
open Vbbhal (State Bytes Rate Prime Account Ans Invoice)
open Gm (Good)
theorem D_:∀(c:Nat)(b:List Nat),b.Nodup→(∀x∈b,x<c)→b.length≤c
 |0,b,_,d=>by cases b with|nil=>exact L6 _|cons a b=>have:=d a (Ks ..);lia
 |c+1,b,nd,d=>by
  have e:=D_ c (b.erase c) (nd.erase c) (λx g=>by have:=(nd.mem_erase_iff).mp g;have h:=d x this.2;have i:=this.1;lia);by_cases f:c∈b;·rw[List.length_erase_of_mem f]at e;lia
  ·rw[List.erase_of_not_mem f]at e;lia
theorem Ea{a b:Addr}(f:a≠b):upd (upd H a x) b y=upd (upd H b y) a x:=by
 funext c;by_cases d:c=a;·subst d;rw[ak f,aj,aj]
 ·by_cases e:c=b;·subst e;rw[aj,ak d,aj]
  ·rw[ak e,ak d,ak d,ak e]
theorem aH.inv{C:Addr}{h:State}{e:HA}(c:aH i C h e){m:Nat}{is:List Invoice}{kvs:List (List Key×V)}{ia:Bytes→Addr}(I:m<h.closed)(z:¬m∈e.ms)(D:∀b∈h.invoices,b.month≠m)(u:∀b∈is,b.month=m)(J:i d=some (.dT kvs))(L:kvs.Perm (is.map λb=>(ck b.code,V.ref (ia b.code))))(M:∀b∈is,i (ia b.code)=some (.tup (lL b)))(N:d≠e.aR)(O:d≠e.aA):aH (upd i e.aI (.dK (putK e.kI (ki m) (.ref d)))) C {h with invoices:=h.invoices++is} {e with kI:=putK e.kI (ki m) (.ref d),ms:=e.ms++[m],im:=λk=>if k=m then d else e.im k,kM:=λk=>if k=m then kvs else e.kM k,ia:=λk E=>if k=m then ia E else e.ia k E}:=by f_assign(
 have ne:∀j o,i j=some o→(∀kvs,o≠.dK kvs)→upd i e.aI (.dK (putK e.kI (ki m) (.ref d))) j=some o:=λj o g f=>by rw[ak (λw=>by rw[w,c.re.iv]at g;exact f _ (Lv g).symm)];exact g
 have net:∀j A,i j=some (.tup A)→upd i e.aI (.dK (putK e.kI (ki m) (.ref d))) j=some (.tup A):=λj A g=>ne _ _ g nofun;refine⟨⟨ne _ _ c.tre.ob nofun,.inl (ne _ _ c.ac nofun),c.tre.acR,λy B=>?_⟩,ne _ _ c.ac nofun,c.acI,by rw[ak c.re.nIP.symm];exact c.pr,c.prR,λy B=>net _ _ (c.prA y B),ne _ _ c.ra nofun,c.raR,by rw[ak c.re.nIT.symm];exact c.ti,c.tiR,c.nPT,c.nRA,?_⟩;·obtain⟨F,g,Q,R⟩:=c.tre.acA y B;exact⟨F,g,ne _ _ Q nofun,net _ _ R⟩
 have nd:(e.ms.map λm=>ki m).Nodup:=by have:=c.re.msN;unfold List.Nodup at this⊢;rw[KO];exact this.imp λ{x y}g p=>g (cw p)
 refine{tbE:=c.re.tbE,tab:=?_,en:=ne _ _ c.re.en nofun,enA:=?_,iv:=aj,ivR:=?_,msN:=?_,msB:=?_,ivM:=?_,ivD:=?_,ivT:=?_,nIP:=c.re.nIP,nIT:=c.re.nIT,nMR:=?_};·refine c.re.tab.keep ?_ λj U g=>ne _ _ g nofun;obtain⟨X,g,_⟩:=c.re.tab;rw[g];exact ne _ _ g nofun
 ·refine c.re.enA.keep net λx q o g=>?_;obtain⟨p,_,F,a,Y,G,_⟩:=c.re.enA.mem x q;rw[G]at g;cases g;exact ne _ _ G nofun
 ·refine(Km.iO (k:=ki m) (v:=V.ref d) c.re.ivR nd).trans ?_;rw[Lp];have r:(e.ms.filter λx=>decide (ki x≠ki m))=e.ms:=by rw[Ke];intro x q;exact LF λw=>z (by rw[←cw w];exact q)
  rw[r];refine List.Perm.append (Li ?_) (Li ?_);·apply Kh;intro x q;have:¬x=m:=λw=>z (by rw[←w];exact q);show _=(ki x,V.ref (if x=m then d else e.im x));rw[Mi this]
  ·show _=[(ki m,V.ref (if m=m then d else e.im m))];rw[Mj rfl]
 ·rw[KN];refine⟨c.re.msN,by simp,λa S j T p=>?_⟩;rw[Kt.mp T]at p;exact z (by rw[←p];exact S)
 ·intro k s;rcases Lq.mp s with f|f;·exact c.re.msB k f
  ·rw[Kt.mp f];exact I
 ·intro b n;rcases Lq.mp n with f|f;·exact List.mem_append_left _ (c.re.ivM b f)
  ·rw[u b f];simp
 ·intro k s;show upd i e.aI _ (if k=m then d else e.im k)=some (.dT (if k=m then kvs else e.kM k))∧(if k=m then kvs else e.kM k).Perm (((h.invoices++is).filter λb=>b.month==k).map λb=>(ck b.code,V.ref (if k=m then ia b.code else e.ia k b.code)));by_cases f:k=m
  ·subst f;simp only[if_true];refine⟨ne _ _ J nofun,?_⟩;have r:((h.invoices++is).filter λb=>b.month==k)=is:=by rw[Ko,JM.mpr (λb n g=>D b n (eq_of_beq g)),List.nil_append,Ke];intro b n;rw[u b n];simp
   rw[r];exact L
  · simp only[f,if_false];have H:k∈e.ms:=by
      rcases Lq.mp s with y|y;·exact y
      ·exact absurd (Kt.mp y) f
    have r:((h.invoices++is).filter λb=>b.month==k)=h.invoices.filter λb=>b.month==k:=by rw[Ko,(JM (l:=is)).mpr (λb n g=>f (by rw[←eq_of_beq g];exact u b n)),Lj]
    rw[r];exact⟨ne _ _ (c.re.ivD k H).1 nofun,(c.re.ivD k H).2⟩
 ·intro b n;show upd i e.aI _ (if b.month=m then ia b.code else e.ia b.month b.code)=_;rcases Lq.mp n with f|f;·rw[Mi (D b f)];exact net _ _ (c.re.ivT b f)
  ·rw[Mj (u b f)];exact net _ _ (M b f)
 ·intro k s;show(if k=m then d else e.im k)≠e.aR∧(if k=m then d else e.im k)≠e.aA;by_cases f:k=m;·rw[Mj f];exact⟨N,O⟩
  ·rw[Mi f];rcases Lq.mp s with y|y;·exact c.re.nMR k y
   ·exact absurd (Kt.mp y) f)
inductive AM(vs:List V)(H:Hp)(Q:VK)(E:XK):Prop|mk(p:Addr)(s:State)(h:HA):vs=[.ref p]→aH H p s h→Good s→(aB H p s h (Vbbhal.step s .month) Q)→AM vs H Q E
theorem qt(j:Tx)(a4:L2.BMain base mg):Oz "answer_month" 8 ["house"] (AM):=by f_assign(
 have B:=j.fo.fs ["house","month","invoices","invoice"];refine j.fo.ok B (by walk_at"l") (λcd ce ch cj cl R cm a5 co S a6=>?_);obtain⟨i,b,c,rfl,r,s,C⟩:=a6;have a7:=bN S;refine⟨_,(ae (sT 1 B.nd (pe_fld (pv 0) rfl)) (ae (aG (pt_cmpR op_ge (pv 1) (ag (dw j) S (aa (pe_fld (pv 0) rfl) af)) (aD _)) (ai (aq (aC (aa (aJ j.d5) af)))) aw) (ae (sT 2 B.nd (ag (sR j a4) S (aa (pv 0) (aa (pv 1) af)))) (ae (df a7 (pe_fld (pv 0) rfl) (pv 1) (pv 2) rfl) (ae (bf (pv 0) (aS op_add (pv 1) ao) rfl) (ai (aq (ag (bx j) S (aa (aF gQ (by rfl) j.bT bh (aa (pv 2) af)) (aa (aC (aa (pv 1) (aa (aF (oz rfl) (by rfl) j.nX ja (aa (z_ (hG rfl B.nd (yO (pv 2)) (bS (l:=[("invoice",3)]) B) (λ_ _ _ _ _=>gN 3 B.nd) (λ_ _ _ _ _=>fb) (λ_ _ _ _ _=>(iX (pv 3))))) af)) af))) af)))))))))),?_⟩;have am:=r.tre.ob;unfold hf at am;simp_arith[am,j.az];refine⟨b.today,rfl,s.today.1,s.today.2,λcp T=>?_⟩;have C:aB R i b c (if Vbbhal.monthOf b.today≤b.closed then Vbbhal.no b 6 else Vbbhal.yes {b with closed:=b.closed+1,invoices:=b.invoices++Vbbhal.invoicesOf b b.closed} (Vbbhal.invoicesOf b b.closed).length [[(b.closed:Int),((Vbbhal.invoicesOf b b.closed).map Vbbhal.invoiceTotal).sum]]) a5:=C;by_cases an:Vbbhal.monthOf b.today≤b.closed;·rw[Mj an]at C;rw[Mj (by lia)];exact⟨by decide,C.one r rfl T⟩
 rw[Mi an]at C;rw[Mi (by lia)];have D:=r.same T;refine⟨i,b,c,b.closed,rfl,D,s,λp d kvs ia st ap u ar av ax=>?_⟩;have L:=D.A1 st ap;have E:=L.tre.ob;unfold hf at E;have aA:i≠c.aI:=fJ E L.re.iv nofun;have cr:b.closed<12000:=by have:=Gm.B8 s.today.1 s.today.2;lia
 have cs:c.ms.length≤12000:=D_ 12000 c.ms r.re.msN (λx U=>by have:=r.re.msB x U;lia);have a8:c.kI.length<sizeLine:=by have:=r.re.ivR.length_eq;rw[Ln]at this;show _<2^24;lia
 simp_arith[E,j.az];refine⟨_,iA.k (k:=ki b.closed) L.re.iv a8,?_⟩;have a9:upd p c.aI (.dK (putK c.kI (ki b.closed) (.ref d))) i=_:=(ak aA).trans E;simp_arith[a9,j.az];have aE:d≠i:=λe=>by rw[e,D.tre.ob]at u;cases u
 have bd:d≠c.aI:=λe=>by rw[e,D.re.iv]at u;cases u
 obtain⟨n,M⟩:∃n:State,n={b with closed:=b.closed+1}:=⟨_,rfl⟩;have bi:aH (upd p i (.ins CH c.dp (hf n c))) i n c:=by subst M;exact L.num rfl rfl rfl rfl rfl rfl (Nat.le_succ _)
 have bj:∀f∈Vbbhal.invoicesOf b b.closed,f.month=b.closed:=λf h=>by rw[Im.qE]at h;obtain⟨a,_,rfl⟩:=LX.mp h;rfl
 have X:=bi.inv (d:=d) (m:=b.closed) (is:=Vbbhal.invoicesOf b b.closed) (kvs:=kvs) (ia:=ia) (by rw[M];exact Le _) (λe=>by have:=r.re.msB _ e;lia) (λf h e=>by rw[M]at h;have:=s.ib f h;lia) bj (by rw[ak aE];exact ar) av (λf h=>by have:=ax f h;rw[ak (λe=>by rw[e,E]at this;cases this)];exact this) (λe=>by rw[e,D.ra]at u;cases u) (λe=>by rw[e,D.ac]at u;cases u);rw[Ea aA]at X;have N:upd (upd p c.aI (.dK (putK c.kI (ki b.closed) (.ref d)))) i (.ins CH c.dp (hf n c)) d=some (.dT kvs):=by rw[ak aE,ak bd];exact ar
 have aI:∀f∈Vbbhal.invoicesOf b b.closed,upd (upd p c.aI (.dK (putK c.kI (ki b.closed) (.ref d)))) i (.ins CH c.dp (hf n c)) (ia f.code)=some (.tup (lL f)):=λf h=>by have:=ax f h;rw[ak (λe=>by rw[e,E]at this;cases this),ak (λe=>by rw[e,L.re.iv]at this;cases this)];exact this
 have bl:upd (upd p c.aI (.dK (putK c.kI (ki b.closed) (.ref d)))) i (.ins CH c.dp (aV (.int b.today) (.int b.capA) (.int b.capE) (.int ((b.closed:Int)+1)) (.int b.last) (.ref c.aP) (.ref c.aR) (.ref c.aT) (.ref c.aA) (.ref c.aE) (.ref c.aI)))=upd (upd p c.aI (.dK (putK c.kI (ki b.closed) (.ref d)))) i (.ins CH c.dp (hf n c)):=by rw[M];unfold hf;rfl
 rw[bl];have kept:Kept i b c R (upd (upd p c.aI (.dK (putK c.kI (ki b.closed) (.ref d)))) i (.ins CH c.dp (hf n c))):=λg v eb Y=>by have F:g≠i:=λe=>Y (by unfold fI;simp[e]);have aK:g≠c.aI:=λe=>Y (by unfold fI;simp[e]);have bm:g≠TP:=λe=>Y (by unfold fI;rw[r.re.tbE];simp[e]);rw[ak F,ak aK];exact st _ _ (T _ _ eb) bm
 have aM:∀g,upd (upd p c.aI (.dK (putK c.kI (ki b.closed) (.ref d)))) i (.ins CH c.dp (hf n c)) g=none→R g=none:=λg q=>by obtain⟨bn,_⟩:=aW q;obtain⟨G,_⟩:=aW bn;cases e:R g with|none=>rfl|some v=>
  by_cases y:g=TP;·obtain⟨ct,bv,_⟩:=ap;rw[y,bv]at G;cases G
  ·rw[st _ _ (T _ _ e) y]at G;cases G
 generalize upd (upd p c.aI (.dK (putK c.kI (ki b.closed) (.ref d)))) i (.ins CH c.dp (hf n c))=z at X N aI kept aM⊢;refine⟨kvs,.inl N,d,_,N,trivial,λA=>?_⟩;simp_arith[C4,aj];refine⟨A,kvs,rfl,?_⟩;have O:upd z d (.frz A (.dT kvs)) d=some (.frz A (.dT kvs)):=aj;have Z:∀f∈Vbbhal.invoicesOf b b.closed,upd z d (.frz A (.dT kvs)) (ia f.code)=some (.tup (lL f)):=λf h=>by have:=aI f h;rw[ak (λe=>by rw[e,N]at this;cases this)];exact this
 have aN:∀g v,z g=some v→g≠d→upd z d (.frz A (.dT kvs)) g=some v:=λg v q e=>by rw[ak e];exact q
 have bP:∀g,upd z d (.frz A (.dT kvs)) g=none→z g=none:=λg q=>(aW q).1;generalize upd z d (.frz A (.dT kvs))=H at O Z aN bP⊢;obtain⟨o,Q,aP⟩:=perm_unmap av;have aR:kvs.map (·.2)=o.map λf=>V.ref (ia f.code):=by rw[aP,LV];rfl
 have aT:∀f∈o,∀k,jB H k (V.ref (ia f.code))=(lL f).getD k .non:=λf h k=>by simp only[jB,Z f (Q.mem_iff.mp h)]
 have cL:o.length≤200:=by rw[Q.length_eq,Im.qE,Ln];have cT:=JV (Im.iF b b.closed) b.accounts;have c0:=s.alen;have c1:=s.capA;lia
 have aU:kvs.length=o.length:=by rw[aP,Ln]
 refine nE (kvs.map (·.2)) (λ_=>true) (jB H 3) (λf ac h I=>?_) (λac I=>?_) (λf ac x c2 I y=>?_) (by rw[Ln,aU];show _≤2^24;lia) (λx U ac c3 c4 I F aK=>?_) (λJ ah=>?_);·exact⟨I _ _ O,by rw[Ln]at h;exact h⟩
 ·exact⟨I _ _ O,by rw[Ln];exact L6 _⟩
 ·obtain⟨bT,c5,b1⟩:=y;exact⟨bT,by rw[KL,b1];rfl⟩
 ·rw[aR]at U;obtain⟨f,h,rfl⟩:=LX.mp U;have F:=F rfl;rw[aT f h]at F;have b2:=I _ _ (Z f (Q.mem_iff.mp h));simp_arith[b2];exact⟨_,rfl,F⟩
 have G:((kvs.map (·.2)).filter λ_=>true).map (jB H 3)=(o.map Vbbhal.invoiceTotal).map V.int:=by rw[Ke.mpr (λ_ _=>rfl),aR,LV,LV];apply Kh;intro f h;exact aT f h 3
 rw[G];have a0:d≠J:=λe=>by rw[←e,O]at ah;cases ah
 refine⟨(ak a0).trans O,?_⟩;have al:au z (upd (upd H J (.lst ((o.map Vbbhal.invoiceTotal).map V.int))) d (.dT kvs)):=λg v q=>by
  by_cases e:g=d;·rw[e]at q⊢;rw[aj,←N];exact q
  ·have:=aN _ _ q e;rw[ak e,ak (ay this ah)];exact this
 have a1:upd (upd H J (.lst ((o.map Vbbhal.invoiceTotal).map V.int))) d (.dT kvs) J=some (.lst ((o.map Vbbhal.invoiceTotal).map V.int)):=by rw[ak (Mg a0),aj]
 generalize upd (upd H J (.lst ((o.map Vbbhal.invoiceTotal).map V.int))) d (.dT kvs)=c6 at al a1⊢;refine⟨J,_,rfl,SqL.of a1,by decide,λb3 a2=>?_⟩;have b4:(o.map Vbbhal.invoiceTotal).sum=((Vbbhal.invoicesOf b b.closed).map Vbbhal.invoiceTotal).sum:=sL (Q.map _);rw[b4,aU,Q.length_eq];refine⟨_,b3,[(b.closed:Int),((Vbbhal.invoicesOf b b.closed).map Vbbhal.invoiceTotal).sum],rfl,.inl aj,by simp,λb5 b6 b7 b8 b9=>?_⟩;have a3:=al.trans ((au.new a2).trans b7);subst M;refine C b5 _ b6 (X.same a3) (λg v eb ca=>a3 _ _ (kept g v eb ca)) (λg cc=>.inl cc) (aM _ (al.free ((au.new a2).free b8))) ?_;rw[b9];rfl)
def HF(fs:List (Str×V)):Prop:=fs=[]∨∃a b c d e f g h i j l,fs=aV a b c d e f g h i j l
theorem HF.len{fs:List (Str×V)}(a:HF fs):fs.length<900:=by
 rcases a with a|⟨_,_,_,_,_,_,_,_,_,_,_,a⟩;·rw[a];decide
 ·rw[a];simp[aV]
theorem HF.new{fs:List (Str×V)}(a:HF fs)(b c d e f g h i j l m:V):a_ "invoices" m (a_ "entries" l (a_ "accounts" j (a_ "tiers" i (a_ "rates" h (a_ "prime_hours" g (a_ "last_day_charged" f (a_ "closed_months" e (a_ "entry_cap" d (a_ "account_cap" c (a_ "today" b fs))))))))))=aV b c d e f g h i j l m:=by
 rcases a with a|⟨_,_,_,_,_,_,_,_,_,_,_,a⟩;·rw[a,xi]
 ·rw[a];simp only[ip,iK,jE,dR,cY,iL,nr,nu,j8,lI,j9]
inductive AN(vs:List V)(H:Hp)(Q:VK)(E:XK):Prop|mk(p dx:Addr)(fs:List (Str×V))(d a e:Nat):vs=[.ref p,.int d,.int a,.int e]→H p=some (.ins CH dx fs)→HF fs→cy H TP→1≤d→d≤365243→(∀H' h',aH H' p (Vbbhal.newHouse d a e) h'→(∀b o,H b=some o→b≠p→H' b=some o)→(∀b,fI p (Vbbhal.newHouse d a e) h' b→b=p∨b=TP∨H b=none)→Q .non H')→AN vs H Q E
def Kp(e:Addr)(b c:Hp):Prop:=(∀a d,b a=some d→a≠e→c a=some d)∧∀a,c a=none→b a=none
theorem Kp.tr{c:Addr}(a:Kp c J J1)(e:Kp c J1 J2):Kp c J J2:=⟨λb f d g=>e.1 b f (a.1 b f d g) g,λb d=>a.2 b (e.2 b d)⟩
section
variable {p dx : Addr} {g : List (Str × V)} {J : Hp} {f : Str} {v : V} {o : HO} {tv : TE} {D : Ends} {t : TS} {σ : L2.St} {m : Nat}
theorem stV(h:g.length≤m)(j:J p=some (.ins CH dx g))(l:Cls K CH)(n:aQ K CH f)(q:∀i:VK,(∀a,au J a→i v a)→tv (some (.ref p)::σ) J i)(r:∀b c,c=a_ f v g→c.length≤m+1→b p=some (.ins CH dx c)→Kp p J b→t D (some (.ref p)::σ) b)(s:m<1000:=by decide):Ex (Cy K (nF 0) tv f) t D (some (.ref p)::σ) J:=q _ λa d=>⟨p,CH,dx,g,rfl,d _ _ j,l,n,Kv h s,r _ _ rfl (LY (Ar f v g) (Nat.succ_le_succ h)) aj ⟨λu o e x=>(ak x).trans (d _ _ e),λu e=>d.free (aW e).1⟩⟩
theorem stE(e:g.length≤m)(h:J p=some (.ins CH dx g))(j:Cls K CH)(l:aQ K CH f)(n:∀i:VK,(∀x,J x=none→i (.ref x) (upd J x o))→tv (some (.ref p)::σ) J i)(q:∀x a c,c=a_ f (.ref x) g→c.length≤m+1→a p=some (.ins CH dx c)→Kp p J a→J x=none→x≠p→a x=some o→D.nx (some (.ref p)::σ) a)(r:m<1000:=by decide):Cy K (nF 0) tv f D (some (.ref p)::σ) J:=n _ λx d=>have ne:=ay h d;⟨p,CH,dx,g,rfl,(ak ne).trans h,j,l,Kv e r,q x _ _ rfl (LY (Ar f _ g) (Nat.succ_le_succ e)) aj ⟨λs o b u=>(ak u).trans ((ak (ay b d)).trans b),λs b=>(aW (aW b).1).1⟩ d (Mg ne) ((ak (Mg ne)).trans aj)⟩
theorem stD(d:g.length≤m)(e:J p=some (.ins CH dx g))(h:Cls K CH)(i:aQ K CH f)(j:∀c:VK,(∀x,J x=none→c (.ref x) (upd J x o))→tv (some (.ref p)::σ) J c)(l:∀x a b,b=a_ f (.ref x) g→b.length≤m+1→a p=some (.ins CH dx b)→Kp p J a→J x=none→x≠p→a x=some o→t D (some (.ref p)::σ) a)(n:m<1000:=by decide):Ex (Cy K (nF 0) tv f) t D (some (.ref p)::σ) J:=stE (D:={D with nx:=t D}) d e h i j l n
end
theorem kH(i:Tx):OzM CH "renew" 6 ["self","today","account_cap","entry_cap"] (AN):=by f_assign(
 have a0:=i.md.fs ["self","today","account_cap","entry_cap"];refine i.md.ok a0 (by walk_at"l") (λd1 d2 d3 d4 d5 D d9 d ea a1 a2=>?_);obtain⟨E,F,fs,g,a,G,rfl,m,H,n,a3,a4,k⟩:=a2;obtain⟨e,a5,a6,a7,a8,a9,bd,bi,bj,bl,bm,bn⟩:=i.az;refine⟨_,(ae (bf (pv 0) (pv 1) rfl) (ae (bf (pv 0) (pv 2) rfl) (ae (bf (pv 0) (pv 3) rfl) (ae (bf (pv 0) (ag (dw i) a1 (aa (pv 1) af)) rfl) (ae (bf (pv 0) ao rfl) (ae (bf (pv 0) rG rfl) (ae (bf (pv 0) cX rfl) (ae (bf (pv 0) rG rfl) (ae (bf (pv 0) cX rfl) (ae (bf (pv 0) (aC af) rfl) (ai (bf (pv 0) rG rfl)))))))))))),?_⟩;refine stV (v:=.int g) (Nat.le_of_lt H.len) m e a5 (λd b=>b D (au.refl D)) λec ed bv bP bT b1=>?_;refine stV (v:=.int a) bP bT e a6 (λd b=>b _ (au.refl _)) λee ef b2 b3 b4 b5=>?_;refine stV (v:=.int G) b3 b4 e a7 (λd b=>b _ (au.refl _)) λej ek b6 b7 b8 b9=>?_;refine stV (v:=.int (Vbbhal.monthOf g)) b7 b8 e a8 (λd b=>⟨g,rfl,a3,a4,λca cc=>b ca cc⟩) λem eo cd ce ch cj=>?_;refine stV (v:=.int 0) ce ch e a9 (λd b=>b _ (au.refl _)) λep eq cl cm co cp=>?_;refine stD cm co e bd (λd b=>b) λI er et cr cs ct J cL p q=>?_;refine stD cs ct e bi (λd b=>b) λL ev ew cT c0 c1 j c2 M N=>?_;refine stD c0 c1 e bj (λd b=>b) λO ex ey c3 c4 c5 k8 Q R S=>?_;refine stD c4 c5 e bl (λd b=>b) λT ez eA c6 c7 c9 k9 U X Y=>?_;refine stD c7 c9 e bm (λd b=>⟨by decide,b⟩) λZ eD eF da db dd l dn dr ds=>?_;refine stE db dd e bn (λd b=>b) λac ah eH dx _ dy al r eL dA=>?_;have s:=b1.tr (b5.tr (b9.tr (cj.tr cp)));have u:=l.tr al;have am:=k9.tr u;have an:=k8.tr am;have ap:=j.tr an;have dK:ah E=some (.ins CH F (aV (.int g) (.int a) (.int G) (.int (Vbbhal.monthOf g)) (.int 0) (.ref I) (.ref L) (.ref O) (.ref T) (.ref Z) (.ref ac))):=by rw[dy,dx,da,c6,c3,cT,cr,cl,cd,b6,b2,bv,H.new]
 have z:=s.tr (J.tr ap);have ne:∀{ar:Hp}{x y o},ar x=some o→ar y=none→x≠y:=λa A=>ay a A;have dL:=ap.1 _ _ q p;have dT:=am.1 _ _ S R;have dV:TP≠E:=λc=>by obtain⟨dW,b,_⟩:=n;rw[c,m]at b;cases b
 obtain⟨B,av⟩:∃B:HA,B={dp:=F,aP:=I,aR:=L,aT:=O,aA:=T,aE:=Z,aI:=ac,kP:=[],kR:=[],kT:=[],kA:=[],pa:=λ_=>0,ad:=λ_=>0,es:=[],kI:=[],ms:=[],im:=λ_=>0,kM:=λ_=>[],ia:=λ_ _=>0,tb:=TP}:=⟨_,rfl⟩;refine k ah B ?_ z.1 ?_;·subst av;refine⟨⟨dK,.inl (u.1 _ _ Y X),List.Perm.refl _,(λa f=>by cases f)⟩,u.1 _ _ Y X,(λa f=>by cases f),dL,List.Perm.refl _,(λa f=>by cases f),an.1 _ _ N M,List.Perm.refl _,dT,List.Perm.refl _,ne (j.1 _ _ q p) Q,ne (k8.1 _ _ N M) U,?_⟩;refine{tbE:=rfl,tab:=?_,en:=al.1 _ _ ds dr,enA:=.nil,iv:=dA,ivR:=List.Perm.refl _,msN:=List.nodup_nil,msB:=(λax h=>by cases h),ivM:=(λdX C=>by cases C),ivD:=(λax h=>by cases h),ivT:=(λdX C=>by cases C),nIP:=Mg (ne ((j.tr (k8.tr (k9.tr l))).1 _ _ q p) r),nIT:=Mg (ne ((k9.tr l).1 _ _ S R) r),nMR:=(λax h=>by cases h)};refine n.keep ?_ λA eM b=>z.1 _ _ b (λc=>by rw[c,m]at b;cases b);obtain⟨dW,b,_⟩:=n;rw[b];exact z.1 _ _ b dV
 ·intro A d0;subst av;have aK:=s.tr J;have aM:=aK.tr j;have aN:=aM.tr k8;have aU:=aN.tr k9;rcases d0 with c|c|c|c|c|c|c|c|⟨a,f,_⟩;·exact .inl c
  ·rw[c];exact .inr (.inr (s.2 _ cL))
  ·rw[c];exact .inr (.inr (aK.2 _ c2))
  ·rw[c];exact .inr (.inr (aM.2 _ Q))
  ·rw[c];exact .inr (.inr (aN.2 _ U))
  ·rw[c];exact .inr (.inr (aU.2 _ dn))
  ·rw[c];exact .inr (.inr ((aU.tr l).2 _ r))
  ·exact .inr (.inl c)
  ·cases f)
inductive xU(vs:List V)(H:Hp)(Q:VK)(E:XK):Prop|mk(p dx:Addr):vs=[.ref p]→H p=some (.ins CH dx [])→cy H TP→(∀H' h',aH H' p Vbbhal.start h'→(∀b o,H b=some o→b≠p→H' b=some o)→(∀b,fI p Vbbhal.start h' b→b=p∨b=TP∨H b=none)→Q .non H')→xU vs H Q E
theorem Eb(a:Tx):OzI "House" CH 7 ["self"] (xU):=by f_assign(have c:=a.AR.fs ["self"];refine a.AR.ok c (by walk_at"l") (λo p q r s u v x y d e=>?_);obtain⟨f,g,rfl,b,h,k⟩:=e;refine⟨_,(ai (de (iJ a.vT (kH a) d (pv 0) (aa ao (aa ao (aa ao af)))))),?_⟩;simp_arith[b,a.az];exact⟨rfl,f,g,[],1,200,500,rfl,b,.inl rfl,h,by decide,by decide,λi j l m n=>k i j l m n⟩)
inductive AO(vs:List V)(H:Hp)(Q:VK)(E:XK):Prop|mk(p:Addr)(s:State)(h:HA)(d a e:Int):vs=[.ref p,.int d,.int a,.int e]→aH H p s h→Good s→(aB H p s h (Vbbhal.step s (.begin d a e)) Q)→AO vs H Q E
theorem qu(d:Tx):Oz "answer_begin" 7 ["house","day","accounts","entries"] (AO):=by f_assign(
 have A:=d.fB.fs ["house","day","accounts","entries"];refine d.fB.ok A (by walk_at"l") (λF G H I J j L B M p C=>?_);obtain⟨q,u,v,f,a,g,rfl,h,N,c⟩:=C;refine⟨_,(ae (aG (ba (PW.pt (cq (pt_val (ag (iR d) p (aa (pv 1) af))) (cq (pt_val (ag (aL d) p (aa (pv 2) (aa ao (aa ao af))))) (bZ (pt_val (ag (aL d) p (aa (pv 3) (aa ao (aa ao af)))))))))) (ai (aq (aC (aa (aJ d.aN) af)))) aw) (ae (de (iJ d.vT (kH d) p (pv 0) (aa (pv 1) (aa (pv 2) (aa (pv 3) af))))) (ai (aq (aC (aa ao af)))))),?_⟩;have r:=h.tre.ob;unfold hf at r;simp_arith[r,d.az];have c:aB j q u v (if Vbbhal.isDay f=false∨Vbbhal.inside a 1 200=false∨Vbbhal.inside g 1 500=false then Vbbhal.no u 1 else Vbbhal.yes (Vbbhal.newHouse f.toNat a.toNat g.toNat) 0) B:=c;by_cases m:Vbbhal.isDay f=true;case neg=>rw[Mi m];rw[Mj (.inl (KD.mpr m))]at c;exact⟨by decide,c.one h rfl (au.refl j)⟩
 rw[Mj m];by_cases n:Vbbhal.inside a 1 200=true;case neg=>rw[Mi n];rw[Mj (.inr (.inl (KD.mpr n)))]at c;exact⟨by decide,c.one h rfl (au.refl j)⟩
 rw[Mj n];by_cases o:Vbbhal.inside g 1 500=false;·rw[Mj o];rw[Mj (.inr (.inr o))]at c;exact⟨by decide,c.one h rfl (au.refl j)⟩
 rw[Mi o];rw[Mi (by rw[m,n];rintro(b|b|b);cases b;cases b;exact o b)]at c;have O:=Gm.aX.mp m;have Q:=Gm.aX.mp n;have R:=Gm.aX.mp (Gm.tof o);obtain⟨f,rfl⟩:=JF (show 0≤f by lia);obtain⟨a,rfl⟩:=JF (show 0≤a by lia);obtain⟨g,rfl⟩:=JF (show 0≤g by lia);refine⟨q,v.dp,_,f,a,g,rfl,r,.inr ⟨_,_,_,_,_,_,_,_,_,_,_,rfl⟩,h.re.tab,by lia,by lia,λS T x z D=>⟨by decide,?_⟩⟩;refine c.wrote (l:=[0]) rfl x (λe s eb E=>z e s eb (λb=>E (.inl b))) (λe i=>?_) (λe i=>?_)
 ·rcases D e i with b|b|b;·exact .inl (.inl b)
  ·refine .inl ?_;unfold fI;rw[h.re.tbE];simp[b]
  ·exact .inr b
 ·cases b:j e with|none=>rfl|some s=>
  by_cases y:e=q;·rw[y,x.tre.ob]at i;cases i
  ·rw[z e s b y]at i;cases i)
inductive bp(ns:List Int)(xs:List (List Int)):Int→Vbbhal.Call→Prop|k0{xa xb xc:Int}:ns=[xa,xb,xc]→xs=[]→bp ns xs 0 (.begin xa xb xc)|k1{xa:Int}:ns=[xa]→xs=[]→bp ns xs 1 (.day xa)|k2{xa:Int}:ns=[xa]→xs=[]→bp ns xs 2 (.date xa)|k3{xa xb xc:Int}:ns=[xa,xb,xc]→xs=[]→bp ns xs 3 (.dayof xa xb xc)|k4{xa xb xc:Int}:ns=[xa,xb,xc]→xs=[]→bp ns xs 4 (.prime xa xb xc)|k5{xa xb xc xd xe:Int}:ns=[xa,xb,xc,xd,xe]→xs=[]→bp ns xs 5 (.rate xa xb xc xd xe)|k6{xa xb xc xd:Int}:ns=[xa,xb,xc,xd]→xs=[]→bp ns xs 6 (.rateof xa xb xc xd)|k7{xa xb:Int}:ns=[xa,xb]→xs=[]→bp ns xs 7 (.tier xa xb)|k8{r0:Bytes}{r1:Bytes}:ns=[]→xs=[ci r0,ci r1]→bp ns xs 8 (.account r0 r1)|k9{r0:Bytes}{r1:Bytes}:ns=[]→xs=[ci r0,ci r1]→bp ns xs 9 (.move r0 r1)|k10{r0:Bytes}:ns=[]→xs=[ci r0]→bp ns xs 10 (.shut r0)|k11{r0:Bytes}:ns=[]→xs=[ci r0]→bp ns xs 11 (.reopen r0)|k12{xa:Int}{r0:Bytes}:ns=[xa]→xs=[ci r0]→bp ns xs 12 (.budget xa r0)|k13{xa:Int}{r0:Bytes}:ns=[xa]→xs=[ci r0]→bp ns xs 13 (.admit_ xa r0)|k14{xa xb xc xd:Int}{r0:List Int}:ns=[xa,xb,xc,xd]→xs=[r0]→bp ns xs 14 (.price xa xb xc xd r0)|k15{xa xb xc xd:Int}{r0:Bytes}{r1:List Int}:ns=[xa,xb,xc,xd]→xs=[ci r0,r1]→bp ns xs 15 (.charge xa xb xc xd r0 r1)|k16{xa xb:Int}:ns=[xa,xb]→xs=[]→bp ns xs 16 (.credit xa xb)|k17{xa:Int}{r0:Bytes}:ns=[xa]→xs=[ci r0]→bp ns xs 17 (.overhead xa r0)|k18:ns=[]→xs=[]→bp ns xs 18 (.month)|k19{xa:Int}{r0:Bytes}:ns=[xa]→xs=[ci r0]→bp ns xs 19 (.spent xa r0)|k20{xa:Int}{r0:Bytes}:ns=[xa]→xs=[ci r0]→bp ns xs 20 (.invoice xa r0)|k21{xa:Int}:ns=[xa]→xs=[]→bp ns xs 21 (.total xa)|k22{xa:Int}:ns=[xa]→xs=[]→bp ns xs 22 (.entry xa)|k23{xa xb xc:Int}{r0:Bytes}:ns=[xa,xb,xc]→xs=[ci r0]→bp ns xs 23 (.statement xa xb xc r0)|k24{r0:Bytes}:ns=[]→xs=[ci r0]→bp ns xs 24 (.children r0)|k25{r0:Bytes}:ns=[]→xs=[ci r0]→bp ns xs 25 (.path r0)|k26{xa:Int}{r0:List Int}:ns=[xa]→xs=[r0]→bp ns xs 26 (.split xa r0)|k27:ns=[]→xs=[]→bp ns xs 27 (.when_)
theorem Fl{b:Int}{c:UInt8}(a:VbbhalNeutral.byte? b=some c):b=(c.toNat:Int):=by
 unfold VbbhalNeutral.byte? at a;split at a
 ·rename_i e;have:=Lv a;rw[←this];have d:b.toNat<256:=by lia
  rw[UInt8.toNat_ofNat_of_lt' d];lia
 ·cases a
theorem nV:∀{l:List Int}{c:Bytes},VbbhalNeutral.bytes? l=some c→l=ci c|[],c,a=>by have:c=[]:=(Lv a).symm;rw[this];rfl|d::l,c,a=>by unfold VbbhalNeutral.bytes? at a;rw[List.mapM_cons]at a;cases hb:VbbhalNeutral.byte? d with|none=>rw[hb]at a;cases a|some e=>rw[hb]at a;cases hl:List.mapM VbbhalNeutral.byte? l with|none=>rw[hl]at a;cases a|some b=>rw[hl]at a;have:c=e::b:=(Lv a).symm;rw[this,Fl hb,nV (l:=l) (c:=b) hl];rfl
theorem len0{b:Type}{a:List b}(c:0=a.length):a=[]:=JG.mp c.symm
theorem ln0{c:Type}{P:List c→Prop}(d:P []):∀b:List c,b.length=0→P b:=by intro b e;cases b with|nil=>exact d|cons a f=>cases e
theorem lnS{c:Type}{d:Nat}{P:List c→Prop}(f:∀a(b:List c),b.length=d→P (a::b)):∀b:List c,b.length=d+1→P b:=by intro b e;cases b with|nil=>cases e|cons a g=>exact f a g (Nat.succ.inj e)
theorem ln1{b:Type}{P:List b→Prop}(d:∀a,P [a]):∀c:List b,c.length=1→P c:=lnS λa=>ln0 (P:=λe=>P (a::e)) (d a)
theorem ln2{b:Type}{P:List b→Prop}(d:∀a e,P [a,e]):∀c:List b,c.length=2→P c:=lnS λa=>ln1 (P:=λf=>P (a::f)) (d a)
theorem ln3{b:Type}{P:List b→Prop}(d:∀a e f,P [a,e,f]):∀c:List b,c.length=3→P c:=lnS λa=>ln2 (P:=λg=>P (a::g)) (d a)
theorem ln4{b:Type}{P:List b→Prop}(d:∀a e f g,P [a,e,f,g]):∀c:List b,c.length=4→P c:=lnS λa=>ln3 (P:=λh=>P (a::h)) (d a)
theorem ln5{b:Type}{P:List b→Prop}(d:∀a e f g h,P [a,e,f,g,h]):∀c:List b,c.length=5→P c:=lnS λa=>ln4 (P:=λi=>P (a::i)) (d a)
theorem ln6{b:Type}{P:List b→Prop}(d:∀a e f g h i,P [a,e,f,g,h,i]):∀c:List b,c.length=6→P c:=lnS λa=>ln5 (P:=λj=>P (a::j)) (d a)
theorem gW{c:Type}{b:List c}(d:1=b.length):∃a,b=[a]:=ln1 (P:=λb=>∃a,b=[a]) (λa=>⟨a,rfl⟩) b d.symm
theorem Ec{d:Type}{b:List d}(e:2=b.length):∃a c,b=[a,c]:=ln2 (P:=λb=>∃a c,b=[a,c]) (λa c=>⟨a,c,rfl⟩) b e.symm
theorem Fm{e:Type}{b:List e}(f:3=b.length):∃a c d,b=[a,c,d]:=ln3 (P:=λb=>∃a c d,b=[a,c,d]) (λa c d=>⟨a,c,d,rfl⟩) b f.symm
theorem Hh{f:Type}{b:List f}(g:4=b.length):∃a c d e,b=[a,c,d,e]:=ln4 (P:=λb=>∃a c d e,b=[a,c,d,e]) (λa c d e=>⟨a,c,d,e,rfl⟩) b g.symm
theorem Jh{g:Type}{b:List g}(h:5=b.length):∃a c d e f,b=[a,c,d,e,f]:=ln5 (P:=λb=>∃a c d e f,b=[a,c,d,e,f]) (λa c d e f=>⟨a,c,d,e,f,rfl⟩) b h.symm
theorem js:∀{b:List Int},(b.all λg=>VbbhalNeutral.natural g 8)=true→∃c,VbbhalNeutral.bytes? b=some c|[],_=>⟨[],rfl⟩|d::b,e=>by f_assign(
 rw[List.all_cons,K3]at e;obtain⟨c,f⟩:=js e.2;have a:=e.1;unfold VbbhalNeutral.natural at a;rw[K3,KS,KS]at a;refine⟨UInt8.ofNat d.toNat::c,?_⟩;unfold VbbhalNeutral.bytes? at f⊢;rw[List.mapM_cons,f];have:VbbhalNeutral.byte? d=some (UInt8.ofNat d.toNat):=by unfold VbbhalNeutral.byte?;rw[Mj ⟨a.1,by have:=a.2;lia⟩]
 rw[this];rfl)
theorem ck0{c:Option Vbbhal.Call}{P:Vbbhal.Call→Prop}{f:Prop}{a:Vbbhal.Call}(d:c=some a)(g:P a):(∀b,c=some b→P b)∧(f→∃b,c=some b):=⟨λb e=>by rw[d]at e;rw[←Lv e];exact g,λ_=>⟨a,d⟩⟩
theorem ck1{d:Option Vbbhal.Call}{P:Vbbhal.Call→Prop}{f:Prop}{y:List Int}{g:Bytes→Vbbhal.Call}(h:d=(VbbhalNeutral.bytes? y).map g)(i:∀b,y=ci b→P (g b))(a:f→(y.all λj=>VbbhalNeutral.natural j 8)=true):(∀c,d=some c→P c)∧(f→∃c,d=some c):=by
 subst h;refine⟨λc e=>?_,λe=>?_⟩;·obtain⟨b,l,m⟩:=JQ.mp e;rw[←m];exact i b (nV l)
 ·obtain⟨b,n⟩:=js (a e);exact⟨_,by rw[n];rfl⟩
theorem ck2{f:Option Vbbhal.Call}{P:Vbbhal.Call→Prop}{h:Prop}{y c:List Int}{i:Bytes→Bytes→Vbbhal.Call}(l:f=(VbbhalNeutral.bytes? y).bind λb=>(VbbhalNeutral.bytes? c).map λg=>i b g)(g:∀d b,y=ci d→c=ci b→P (i d b))(a:h→(y.all λc=>VbbhalNeutral.natural c 8)=true∧(c.all λc=>VbbhalNeutral.natural c 8)=true):(∀b,f=some b→P b)∧(h→∃b,f=some b):=by
 subst l;refine⟨λb e=>?_,λe=>?_⟩;·obtain⟨d,m,n⟩:=Option.bind_eq_some_iff.mp e;obtain⟨j,o,p⟩:=JQ.mp n;rw[←p];exact g d j (nV m) (nV o)
 ·obtain⟨d,q⟩:=js (a e).1;obtain⟨j,r⟩:=js (a e).2;exact⟨_,by rw[q,r];rfl⟩
theorem bL{a b:Bool}(c:(a&&b)=true):a=true:=(K3 _ _▸c).1
theorem bR{b a:Bool}(c:(b&&a)=true):a=true:=(K3 _ _▸c).2
theorem cA{c k:Int}{a h d e:Nat}{i:Option (Nat×Nat)}{f:Prop}(j:c=k→a=d→h=e→f)(l:i=some (d,e)→f)(b:(if c=k then some (a,h)else i)=some (d,e)):f:=by
 by_cases g:c=k;·rw[Mj g]at b;obtain⟨x,y⟩:=Prod.mk.inj (Lv b);exact j g x y
 ·rw[Mi g]at b;exact l b
theorem sS{f:Int}{g:List Int}{h:List (List Int)}:PyVbbhal.shape f=some (g.length,h.length)→PyVbbhal.whole ((f::g)::h)=(f::g)::h∧(∀i,VbbhalNeutral.callOf ((f::g)::h)=some i→bp g h f i)∧(VbbhalNeutral.asked1 ((f::g)::h)=true→∃i,VbbhalNeutral.callOf ((f::g)::h)=some i):=by f_assign(unfold PyVbbhal.shape;refine cA (λa b c=>by subst a;obtain⟨_,_,_,rfl⟩:=Fm b;obtain rfl:=len0 c;exact⟨rfl,ck0 rfl (.k0 rfl rfl)⟩) ?_;refine cA (λa b c=>by subst a;obtain⟨_,rfl⟩:=gW b;obtain rfl:=len0 c;exact⟨rfl,ck0 rfl (.k1 rfl rfl)⟩) ?_;refine cA (λa b c=>by subst a;obtain⟨_,rfl⟩:=gW b;obtain rfl:=len0 c;exact⟨rfl,ck0 rfl (.k2 rfl rfl)⟩) ?_;refine cA (λa b c=>by subst a;obtain⟨_,_,_,rfl⟩:=Fm b;obtain rfl:=len0 c;exact⟨rfl,ck0 rfl (.k3 rfl rfl)⟩) ?_;refine cA (λa b c=>by subst a;obtain⟨_,_,_,rfl⟩:=Fm b;obtain rfl:=len0 c;exact⟨rfl,ck0 rfl (.k4 rfl rfl)⟩) ?_;refine cA (λa b c=>by subst a;obtain⟨_,_,_,_,_,rfl⟩:=Jh b;obtain rfl:=len0 c;exact⟨rfl,ck0 rfl (.k5 rfl rfl)⟩) ?_;refine cA (λa b c=>by subst a;obtain⟨_,_,_,_,rfl⟩:=Hh b;obtain rfl:=len0 c;exact⟨rfl,ck0 rfl (.k6 rfl rfl)⟩) ?_;refine cA (λa b c=>by subst a;obtain⟨_,_,rfl⟩:=Ec b;obtain rfl:=len0 c;exact⟨rfl,ck0 rfl (.k7 rfl rfl)⟩) ?_;refine cA (λa b c=>by subst a;obtain rfl:=len0 b;obtain⟨_,_,rfl⟩:=Ec c;exact⟨rfl,ck2 rfl (λe i d j=>.k8 rfl (by rw[d,j])) λd=>⟨bL (bL d),bL (bR d)⟩⟩) ?_;refine cA (λa b c=>by subst a;obtain rfl:=len0 b;obtain⟨_,_,rfl⟩:=Ec c;exact⟨rfl,ck2 rfl (λe i d j=>.k9 rfl (by rw[d,j])) λd=>⟨bL (bL d),bL (bR d)⟩⟩) ?_;refine cA (λa b c=>by subst a;obtain rfl:=len0 b;obtain⟨_,rfl⟩:=gW c;exact⟨rfl,ck1 rfl (λe d=>.k10 rfl (by rw[d])) λd=>bL (d)⟩) ?_;refine cA (λa b c=>by subst a;obtain rfl:=len0 b;obtain⟨_,rfl⟩:=gW c;exact⟨rfl,ck1 rfl (λe d=>.k11 rfl (by rw[d])) λd=>bL (d)⟩) ?_;refine cA (λa b c=>by subst a;obtain⟨_,rfl⟩:=gW b;obtain⟨_,rfl⟩:=gW c;exact⟨rfl,ck1 rfl (λe d=>.k12 rfl (by rw[d])) λd=>bL (bR d)⟩) ?_;refine cA (λa b c=>by subst a;obtain⟨_,rfl⟩:=gW b;obtain⟨_,rfl⟩:=gW c;exact⟨rfl,ck1 rfl (λe d=>.k13 rfl (by rw[d])) λd=>bL (bR d)⟩) ?_;refine cA (λa b c=>by subst a;obtain⟨_,_,_,_,rfl⟩:=Hh b;obtain⟨_,rfl⟩:=gW c;exact⟨rfl,ck0 rfl (.k14 rfl rfl)⟩) ?_;refine cA (λa b c=>by subst a;obtain⟨_,_,_,_,rfl⟩:=Hh b;obtain⟨_,_,rfl⟩:=Ec c;exact⟨rfl,ck1 rfl (λe d=>.k15 rfl (by rw[d])) λd=>bL (bR (bL d))⟩) ?_;refine cA (λa b c=>by subst a;obtain⟨_,_,rfl⟩:=Ec b;obtain rfl:=len0 c;exact⟨rfl,ck0 rfl (.k16 rfl rfl)⟩) ?_;refine cA (λa b c=>by subst a;obtain⟨_,rfl⟩:=gW b;obtain⟨_,rfl⟩:=gW c;exact⟨rfl,ck1 rfl (λe d=>.k17 rfl (by rw[d])) λd=>bL (bR d)⟩) ?_;refine cA (λa b c=>by subst a;obtain rfl:=len0 b;obtain rfl:=len0 c;exact⟨rfl,ck0 rfl (.k18 rfl rfl)⟩) ?_;refine cA (λa b c=>by subst a;obtain⟨_,rfl⟩:=gW b;obtain⟨_,rfl⟩:=gW c;exact⟨rfl,ck1 rfl (λe d=>.k19 rfl (by rw[d])) λd=>bL (bR d)⟩) ?_;refine cA (λa b c=>by subst a;obtain⟨_,rfl⟩:=gW b;obtain⟨_,rfl⟩:=gW c;exact⟨rfl,ck1 rfl (λe d=>.k20 rfl (by rw[d])) λd=>bL (bR d)⟩) ?_;refine cA (λa b c=>by subst a;obtain⟨_,rfl⟩:=gW b;obtain rfl:=len0 c;exact⟨rfl,ck0 rfl (.k21 rfl rfl)⟩) ?_;refine cA (λa b c=>by subst a;obtain⟨_,rfl⟩:=gW b;obtain rfl:=len0 c;exact⟨rfl,ck0 rfl (.k22 rfl rfl)⟩) ?_;refine cA (λa b c=>by subst a;obtain⟨_,_,_,rfl⟩:=Fm b;obtain⟨_,rfl⟩:=gW c;exact⟨rfl,ck1 rfl (λe d=>.k23 rfl (by rw[d])) λd=>bL (bR d)⟩) ?_;refine cA (λa b c=>by subst a;obtain rfl:=len0 b;obtain⟨_,rfl⟩:=gW c;exact⟨rfl,ck1 rfl (λe d=>.k24 rfl (by rw[d])) λd=>bL (d)⟩) ?_;refine cA (λa b c=>by subst a;obtain rfl:=len0 b;obtain⟨_,rfl⟩:=gW c;exact⟨rfl,ck1 rfl (λe d=>.k25 rfl (by rw[d])) λd=>bL (d)⟩) ?_;refine cA (λa b c=>by subst a;obtain⟨_,rfl⟩:=gW b;obtain⟨_,rfl⟩:=gW c;exact⟨rfl,ck0 rfl (.k26 rfl rfl)⟩) ?_;refine cA (λa b c=>by subst a;obtain rfl:=len0 b;obtain rfl:=len0 c;exact⟨rfl,ck0 rfl (.k27 rfl rfl)⟩) ?_;nofun)
def o_(a:Hp)(e:Addr)(b:List (List Int)):Prop:=∃as:List Addr,a e=some (.lst (as.map V.ref))∧as.length=b.length∧∀(d:Nat)x c,b[d]?=some x→as[d]?=some c→a c=some (.tup (x.map V.int))
theorem o_.one{x:List Int}(b:o_ H qr [x]):∃a,H qr=some (.lst [.ref a])∧H a=some (.tup (x.map V.int)):=by obtain⟨as,c,d,e⟩:=b;match as,d with|[a],_=>exact⟨a,c,e 0 x a rfl rfl⟩
theorem o_.two{x y:List Int}(d:o_ H qr [x,y]):∃a b,H qr=some (.lst [.ref a,.ref b])∧H a=some (.tup (x.map V.int))∧H b=some (.tup (y.map V.int)):=by obtain⟨as,e,f,c⟩:=d;match as,f with|[a,b],_=>exact⟨a,b,e,c 0 x a rfl rfl,c 1 y b rfl rfl⟩
theorem aB.mono{c:Addr}{d:State}(e:aB H c d h x Q)(a:au H H1):aB H1 c d h x Q:=λf g i j kp l m n=>e f g i j (λb o eb nf=>kp b o (a _ _ eb) nf) (λb p=>(l b p).imp id a.free) (a.free m) n
inductive Gb(vs:List V)(H:Hp)(Q:VK)(E:XK):Prop|mk(p:Addr)(s:State)(h:HA)(n:Int)(qn:Addr)(ns:List Int)(xs:List (List Int))(c:Vbbhal.Call):vs=[.ref p,.int n,.ref qn]→aH H p s h→Good s→H qn=some (.tup (ns.map V.int))→bp ns xs n c→n∈([0,1,2,3,27]:List Int)→(aB H p s h (Vbbhal.step s c) Q)→Gb vs H Q E
inductive Ed(ks:List Int)(vs:List V)(H:Hp)(Q:VK)(E:XK):Prop|mk(p:Addr)(s:State)(h:HA)(n:Int)(qn qr:Addr)(ns:List Int)(xs:List (List Int))(c:Vbbhal.Call):vs=[.ref p,.int n,.ref qn,.ref qr]→aH H p s h→Good s→H qn=some (.tup (ns.map V.int))→o_ H qr xs→bp ns xs n c→n∈ks→(aB H p s h (Vbbhal.step s c) Q)→Ed ks vs H Q E
theorem nW(a:Tx):Oz "answer_on_time" 9 ["house","call","numbers"] (Gb):=by f_assign(
 have j:=a.dN.fs ["house","call","numbers"];refine a.dN.ok j (by walk_at"l") (λu v x y z A B C D b l=>?_);obtain⟨i,c,d,E,F,G,H,I,rfl,e,f,g,m,n,h⟩:=l;refine⟨_,(ae (aG (pt_cmpR bg (pv 1) ao (aD _)) (ai (aq (ag (qu a) b (aa (pv 0) (aa (iX (pv 2)) (aa (iX (pv 2)) (aa (iX (pv 2)) af))))))) aw) (ae (aG (pt_cmpR bg (pv 1) ao (aD _)) (ai (aq (ag (tO a) b (aa (pv 0) (aa (iX (pv 2)) af))))) aw) (ae (aG (pt_cmpR bg (pv 1) ao (aD _)) (ai (aq (ag (sv a) b (aa (iX (pv 2)) af)))) aw) (ae (aG (pt_cmpR bg (pv 1) ao (aD _)) (ai (aq (ag (qf a) b (aa (iX (pv 2)) (aa (iX (pv 2)) (aa (iX (pv 2)) af)))))) aw) (ai (aq (ag (sE a) b (aa (pv 0) af)))))))),?_⟩;cases m<;>first|exact absurd n (by decide)|(rename_i o p;subst o p)
 case k0 q r s=>simp_arith[g,Int.reduceEq];exact⟨i,c,d,q,r,s,rfl,e,f,h⟩
 case k1=>simp_arith[g,Int.reduceEq];exact⟨c,d,e,f,h⟩
 case k2|k3=>simp_arith[g,Int.reduceEq];exact⟨i,c,d,e,f,h⟩
 case k27=>simp_arith[g,Int.reduceEq];exact⟨i,c,d,rfl,e,f,h⟩)
theorem mH(a:Tx):Oz "answer_on_rates" 9 ["house","call","numbers","rows"] (Ed [4,5,6,7,14]):=by f_assign(
 have m:=a.dv.fs ["house","call","numbers","rows"];refine a.dv.ok m (by walk_at"l") (λC D E F G n H I J b o=>?_);obtain⟨p,e,f,L,M,N,O,Q,R,rfl,g,h,i,q,r,s,j⟩:=o;refine⟨_,(ae (aG (pt_cmpR bg (pv 1) ao (aD _)) (ai (aq (ag (qd a) b (aa (pv 0) (aa (iX (pv 2)) (aa (iX (pv 2)) (aa (iX (pv 2)) af))))))) aw) (ae (aG (pt_cmpR bg (pv 1) ao (aD _)) (ai (aq (ag (sr a) b (aa (pv 0) (aa (iX (pv 2)) (aa (iX (pv 2)) (aa (iX (pv 2)) (aa (iX (pv 2)) (aa (iX (pv 2)) af))))))))) aw) (ae (aG (pt_cmpR bg (pv 1) ao (aD _)) (ai (aq (ag (oY a) b (aa (pv 0) (aa (iX (pv 2)) (aa (iX (pv 2)) (aa (iX (pv 2)) (aa (iX (pv 2)) af)))))))) aw) (ae (aG (pt_cmpR bg (pv 1) ao (aD _)) (ai (aq (ag (su a) b (aa (pv 0) (aa (iX (pv 2)) (aa (iX (pv 2)) af)))))) aw) (ai (aq (ag (qh a) b (aa (pv 0) (aa (gP (Av a) b (aa (iX (pv 2)) (aa (iX (pv 2)) (aa (iX (pv 2)) (aa (iX (pv 2)) (aa (b0 ix_listH (pv 3) ao (λ_ _=>rfl)) af)))))) af))))))))),?_⟩;cases r<;>first|exact absurd s (by decide)|(rename_i u c;subst u c)
 case k4|k5|k6|k7=>simp_arith[i,Int.reduceEq];exact⟨e,f,g,h,j⟩
 case k14 xa xb xc xd r0=>obtain⟨l,v,y⟩:=q.one;simp_arith[i,Int.reduceEq,v];intro x dx hx hdx ndx;have z:upd (upd n dx (.own x)) x (.ins CW dx []) x=some (.ins CW dx []):=aj;refine⟨x,dx,l,xa,xb,xc,xd,rfl,z,λS c A B=>⟨rfl,?_⟩⟩;obtain⟨d,T⟩:=made hx hdx A B;exact⟨p,e,f,x,xa,xb,xc,xd,l,r0,rfl,g.same d,h,⟨⟨dx,c⟩,d _ _ y⟩,j.mono d⟩)
theorem jH(e:Tx):Oz "answer_on_accounts" 9 ["house","call","numbers","rows"] (Ed [8,9,10,11,12,13,24,25]):=by f_assign(
 have s:=e.cf.fs ["house","call","numbers","rows"];refine e.cf.ok s (by walk_at"l") (λA B C D E F G H I f u=>?_);obtain⟨g,h,i,J,L,M,N,O,Q,rfl,j,l,m,n,v,x,o⟩:=u;refine⟨_,(ae (aG (pt_cmpR bg (pv 1) ao (aD _)) (ai (aq (ag (nJ e) f (aa (pv 0) (aa (b0 ix_listH (pv 3) ao (λ_ _=>rfl)) (aa (b0 ix_listH (pv 3) ao (λ_ _=>rfl)) af)))))) aw) (ae (aG (pt_cmpR bg (pv 1) ao (aD _)) (ai (aq (ag (sA e) f (aa (pv 0) (aa (b0 ix_listH (pv 3) ao (λ_ _=>rfl)) (aa (b0 ix_listH (pv 3) ao (λ_ _=>rfl)) af)))))) aw) (ae (aG (pt_cmpR bg (pv 1) ao (aD _)) (ai (aq (ag (sy e) f (aa (pv 0) (aa (b0 ix_listH (pv 3) ao (λ_ _=>rfl)) af))))) aw) (ae (aG (pt_cmpR bg (pv 1) ao (aD _)) (ai (aq (ag (oZ e) f (aa (pv 0) (aa (b0 ix_listH (pv 3) ao (λ_ _=>rfl)) af))))) aw) (ae (aG (pt_cmpR bg (pv 1) ao (aD _)) (ai (aq (ag (o4 e) f (aa (pv 0) (aa (iX (pv 2)) (aa (b0 ix_listH (pv 3) ao (λ_ _=>rfl)) af)))))) aw) (ae (aG (pt_cmpR bg (pv 1) ao (aD _)) (ai (aq (ag (qk e) f (aa (pv 0) (aa (iX (pv 2)) (aa (b0 ix_listH (pv 3) ao (λ_ _=>rfl)) af)))))) aw) (ae (aG (pt_cmpR bg (pv 1) ao (aD _)) (ai (aq (ag (mG e) f (aa (pv 0) (aa (b0 ix_listH (pv 3) ao (λ_ _=>rfl)) af))))) aw) (ai (aq (ag (sF e) f (aa (pv 0) (aa (b0 ix_listH (pv 3) ao (λ_ _=>rfl)) af)))))))))))),?_⟩;cases v<;>first|exact absurd x (by decide)|(rename_i y z;subst y z)
 case k8 b q=>obtain⟨c,r,d,a,p⟩:=n.two;rw[bO]at a;rw[bO]at p;simp_arith[m,Int.reduceEq,d];exact⟨g,h,i,c,b,r,q,rfl,j,l,a,p,o⟩
 case k9 b q=>obtain⟨c,r,d,a,p⟩:=n.two;rw[bO]at a;rw[bO]at p;simp_arith[m,Int.reduceEq,d];exact⟨g,h,i,c,b,r,q,rfl,j,l,a,p,o⟩
 case k10 b=>obtain⟨c,d,a⟩:=n.one;rw[bO]at a;simp_arith[m,Int.reduceEq,d];exact⟨g,h,i,c,b,rfl,j,l,a,o⟩
 case k11 b=>obtain⟨c,d,a⟩:=n.one;rw[bO]at a;simp_arith[m,Int.reduceEq,d];exact⟨g,h,i,c,b,rfl,j,l,a,o⟩
 case k12 xa b=>obtain⟨c,d,a⟩:=n.one;rw[bO]at a;simp_arith[m,Int.reduceEq,d];exact⟨g,h,i,xa,c,b,rfl,j,l,a,o⟩
 case k13 xa b=>obtain⟨c,d,a⟩:=n.one;rw[bO]at a;simp_arith[m,Int.reduceEq,d];exact⟨g,h,i,xa,c,b,rfl,j,l,a,o⟩
 case k24 b=>obtain⟨c,d,a⟩:=n.one;rw[bO]at a;simp_arith[m,Int.reduceEq,d];exact⟨g,h,i,c,b,rfl,j,l,a,o⟩
 case k25 b=>obtain⟨c,d,a⟩:=n.one;rw[bO]at a;simp_arith[m,Int.reduceEq,d];exact⟨g,h,i,c,b,rfl,j,l,a,o⟩)
theorem kJ(b:Tx):Oz "answer_on_entries" 9 ["house","call","numbers","rows"] (Ed [15,16,17,22,23]):=by f_assign(
 have z:=b.cE.fs ["house","call","numbers","rows"];refine b.cE.ok z (by walk_at"l") (λL M N O Q A R S T d B=>?_);obtain⟨h,i,j,U,X,Y,Z,ac,ah,rfl,l,m,n,s,C,D,o⟩:=B;refine⟨_,(ae (aG (pt_cmpR bg (pv 1) ao (aD _)) (ai (aq (ag (o8 b) d (aa (pv 0) (aa (gP (Av b) d (aa (iX (pv 2)) (aa (iX (pv 2)) (aa (iX (pv 2)) (aa (iX (pv 2)) (aa (b0 ix_listH (pv 3) ao (λ_ _=>rfl)) af)))))) (aa (b0 ix_listH (pv 3) ao (λ_ _=>rfl)) af)))))) aw) (ae (aG (pt_cmpR bg (pv 1) ao (aD _)) (ai (aq (ag (o6 b) d (aa (pv 0) (aa (iX (pv 2)) (aa (iX (pv 2)) af)))))) aw) (ae (aG (pt_cmpR bg (pv 1) ao (aD _)) (ai (aq (ag (mD b) d (aa (pv 0) (aa (iX (pv 2)) (aa (b0 ix_listH (pv 3) ao (λ_ _=>rfl)) af)))))) aw) (ae (aG (pt_cmpR bg (pv 1) ao (aD _)) (ai (aq (ag (qg b) d (aa (pv 0) (aa (iX (pv 2)) af))))) aw) (ai (aq (ag (lN b) d (aa (pv 0) (aa (iX (pv 2)) (aa (iX (pv 2)) (aa (iX (pv 2)) (aa (b0 ix_listH (pv 3) ao (λ_ _=>rfl)) af)))))))))))),?_⟩;cases C<;>first|exact absurd D (by decide)|(rename_i E u;subst E u)
 case k15 a e r v p F=>obtain⟨f,y,g,c,G⟩:=s.two;rw[bO]at c;simp_arith[n,Int.reduceEq,g];intro x dx hx hdx ndx;have H:upd (upd A dx (.own x)) x (.ins CW dx []) x=some (.ins CW dx []):=aj;refine⟨x,dx,y,a,e,r,v,rfl,H,λal u I J=>⟨rfl,?_⟩⟩;obtain⟨q,am⟩:=made hx hdx I J;exact⟨_,q _ _ g,.ref f,rfl,h,i,j,x,a,e,r,v,y,F,f,p,rfl,l.same q,m,⟨⟨dx,u⟩,q _ _ G⟩,q _ _ c,o.mono q⟩
 case k16 a e=>simp_arith[n,Int.reduceEq];exact⟨h,i,j,a,e,rfl,l,m,o⟩
 case k17 a p=>obtain⟨f,g,c⟩:=s.one;rw[bO]at c;simp_arith[n,Int.reduceEq,g];exact⟨h,i,j,a,f,p,rfl,l,m,c,o⟩
 case k22 a=>simp_arith[n,Int.reduceEq];exact⟨h,i,j,a,rfl,l,m,o⟩
 case k23 a e r p=>obtain⟨f,g,c⟩:=s.one;rw[bO]at c;simp_arith[n,Int.reduceEq,g];exact⟨h,i,j,a,e,r,f,p,rfl,l,m,c,o⟩)
theorem lO(a:Tx)(o:L2.BMain base mg):Oz "answer_on_months" 9 ["house","call","numbers","rows"] (Ed [18,19,20,21,26]):=by f_assign(
 have p:=a.cS.fs ["house","call","numbers","rows"];refine a.cS.ok p (by walk_at"l") (λx y z A B C D E F c q=>?_);obtain⟨d,e,f,G,H,I,J,L,M,rfl,g,h,i,n,r,s,j⟩:=q;refine⟨_,(ae (aG (pt_cmpR bg (pv 1) ao (aD _)) (ai (aq (ag (qt a o) c (aa (pv 0) af)))) aw) (ae (aG (pt_cmpR bg (pv 1) ao (aD _)) (ai (aq (ag (ql a) c (aa (pv 0) (aa (iX (pv 2)) (aa (b0 ix_listH (pv 3) ao (λ_ _=>rfl)) af)))))) aw) (ae (aG (pt_cmpR bg (pv 1) ao (aD _)) (ai (aq (ag (nQ a) c (aa (pv 0) (aa (iX (pv 2)) (aa (b0 ix_listH (pv 3) ao (λ_ _=>rfl)) af)))))) aw) (ae (aG (pt_cmpR bg (pv 1) ao (aD _)) (ai (aq (ag (qm a) c (aa (pv 0) (aa (iX (pv 2)) af))))) aw) (ai (aq (ag (qo a) c (aa (iX (pv 2)) (aa (b0 ix_listH (pv 3) ao (λ_ _=>rfl)) af))))))))),?_⟩;cases r<;>first|exact absurd s (by decide)|(rename_i u v;subst u v)
 case k18=>simp_arith[i,Int.reduceEq];exact⟨d,e,f,rfl,g,h,j⟩
 case k19 xa r0=>obtain⟨l,m,b⟩:=n.one;rw[bO]at b;simp_arith[i,Int.reduceEq,m];exact⟨d,e,f,xa,l,r0,rfl,g,h,b,j⟩
 case k20 xa r0=>obtain⟨l,m,b⟩:=n.one;rw[bO]at b;simp_arith[i,Int.reduceEq,m];exact⟨d,e,f,xa,l,r0,rfl,g,h,b,j⟩
 case k21 xa=>simp_arith[i,Int.reduceEq];exact⟨d,e,f,xa,rfl,g,h,j⟩
 case k26 xa r0=>obtain⟨l,m,b⟩:=n.one;simp_arith[i,Int.reduceEq,m];exact⟨d,e,f,xa,l,r0,rfl,g,h,b,j⟩)
def isR(a:HO):Prop:=∃b x y,a=.ins CR b (bQ x y)
theorem aH.butR{q:Hp}{v:Addr}{s:State}{j:HO}(b:aH H v s h)(R:H r=some j)(S:isR j)(T:∀g j,H g=some j→g≠r→q g=some j):aH q v s h∧¬fI v s h r:=by f_assign(
 have kp:∀{g j},H g=some j→¬isR j→q g=some j∧r≠g:=λ{g al}d C=>by
  have D:g≠r:=λe=>by rw[e,R]at d;rw[←Lv d]at C;exact C S
  exact⟨T _ _ d D,Mg D⟩
 have U:∀{f},¬isR (.tup f):=by rintro f⟨_,_,_,d⟩;cases d
 have E:∀{f},¬isR (.lst f):=by rintro f⟨_,_,_,d⟩;cases d
 have n:∀{f},¬isR (.dK f):=by rintro f⟨_,_,_,d⟩;cases d
 have o:∀{f},¬isR (.dT f):=by rintro f⟨_,_,_,d⟩;cases d
 have F:∀{f},¬isR (.tbl f):=by rintro f⟨_,_,_,d⟩;cases d
 have X:∀{f},¬isR (.ext f):=by rintro f⟨_,_,_,d⟩;cases d
 have z:∀{m i fs},fs.length≠2→¬isR (.ins m i fs):=by rintro m i fs G⟨_,_,_,d⟩;injection d with _ _ e3;rw[e3]at G;exact G (by simp[bQ])
 have I:∀{m i},¬isR (.ins m i (hf s h)):=z (by simp[hf,aV]);have J:∀{m i x y e},¬isR (.ins m i (bc x y e)):=z (by simp[bc]);have ne:∀{m i a g c L d},¬isR (.ins m i (cg a g c L d)):=z (by simp[cg]);have u:∀g f,H g=some (.tup f)→q g=some (.tup f):=λg f d=>(kp d U).1;refine⟨{b with
  tre:=⟨(kp b.tre.ob I).1,.inl (kp b.ac o).1,b.tre.acR,λa A=>by obtain⟨i,l,p,M⟩:=b.tre.acA a A;exact⟨i,l,(kp p J).1,u _ _ M⟩⟩
  ac:=(kp b.ac o).1
  pr:=(kp b.pr n).1
  prA:=λx B=>u _ _ (b.prA x B)
  ra:=(kp b.ra o).1
  ti:=(kp b.ti n).1
  re:={b.re with
   tab:=by refine b.re.tab.keep ?_ λg am l=>(kp l X).1;obtain⟨Y,l,_⟩:=b.re.tab;rw[l];exact(kp l F).1
   en:=(kp b.re.en E).1
   enA:=b.re.enA.keep u λx B j d=>by obtain⟨an,_,i,l,L,p,_⟩:=b.re.enA.mem x B;rw[p]at d;cases d;exact(kp p ne).1
   iv:=(kp b.re.iv n).1
   ivD:=λN O=>⟨(kp (b.re.ivD N O).1 o).1,(b.re.ivD N O).2⟩
   ivT:=λZ ah=>u _ _ (b.re.ivT Z ah)}},?_⟩;intro Q;unfold fI at Q;rcases Q with e|e|e|e|e|e|e|e|⟨a,A,e⟩;·exact(kp b.tre.ob I).2 e
 ·exact(kp b.pr n).2 e
 ·exact(kp b.ra o).2 e
 ·exact(kp b.ti n).2 e
 ·exact(kp b.ac o).2 e
 ·exact(kp b.re.en E).2 e
 ·exact(kp b.re.iv n).2 e
 ·obtain⟨Y,l,_⟩:=b.re.tab;rw[b.re.tbE]at e;exact(kp l F).2 e
 ·obtain⟨i,l,p,M⟩:=b.tre.acA a A;exact(kp p J).2 e)
inductive Ee(K:PySem.W.Frag)(vs:List V)(H:Hp)(Q:VK)(E:XK):Prop|mk(p r:Addr)(s:State)(h:HA)(a:Addr)(l:List Int)(pl:Nat)(n:Int)(ns:List Int)(xs:List (List Int))(t:List Int)(c:Vbbhal.Call):vs=[.ref p,.ref r]→aH H p s h→Good s→qb H r a pl→SqL K H a (l.map V.int)→l.length≤16000→l.drop pl=n::(ns++(PyFlat.putRows xs++t))→PyVbbhal.shape n=some (ns.length,xs.length)→VbbhalNeutral.callOf ((n::ns)::xs)=some c→(∀H' h' q,aH H' p (Vbbhal.step s c).1 h'→(∀b o,H b=some o→b≠r→¬fI p s h b→H' b=some o)→(∀b,fI p (Vbbhal.step s c).1 h' b→fI p s h b∨H b=none)→qb H' r a (pl+(1+ns.length+(PyFlat.putRows xs).length))→H q=none→H' q=some (.lst ((mz (Vbbhal.step s c).2).map V.int))→Q (.ref q) H')→Ee K vs H Q E
theorem AQ(a:Int):∀b:List Int,L2.inV (.int a) (b.map V.int)=decide (a∈b)
 |[]=>rfl|k::b=>by
  have:=AQ a b;unfold L2.inV at this⊢;rw[LM,LJ,this];show(decide (k=a)||decide (a∈b))=_;by_cases c:k=a;·subst c;simp
  ·have:¬a=k:=λd=>c d.symm;simp[c,this]
theorem qO{K:PySem.W.Frag}{c:Int}{d:VK}(b:List Int)(e:SqT K H a (b.map V.int))(f:d (.bl (decide (c∈b))) H):rIn K false (.int c) (.ref a) H d:=by
 refine⟨a,b.map V.int,rfl,.inr e,rfl,?_,?_⟩;·rw[List.all_map];exact K7.mpr λ_ _=>rfl
 ·rw[AQ];exact f
theorem sM{a k:Int}{g b c:Option (Nat×Nat)}{d:List Int}(h:b=c→a∈d)(e:(if a=k then g else b)=c):a∈k::d:=by
 by_cases f:a=k;·rw[f];exact Ks
 ·rw[Mi f]at e;exact J0 _ (h e)
theorem pd{a:Int}{x y:Nat}:PyVbbhal.shape a=some (x,y)→a∈([0,1,2,3,4,5,6,7,8,9,10,11,12,13,14,15,16,17,18,19,20,21,22,23,24,25,26,27]:List Int):=by
 unfold PyVbbhal.shape;iterate 28 refine sM ?_
 nofun
theorem Fo:∀a∈([0,1,2,3,4,5,6,7,8,9,10,11,12,13,14,15,16,17,18,19,20,21,22,23,24,25,26,27]:List Int),((PyVbbhal.shape a).map (·.2)).getD 0≤2:=by decide
theorem Hi:∀a∈([0,1,2,3,4,5,6,7,8,9,10,11,12,13,14,15,16,17,18,19,20,21,22,23,24,25,26,27]:List Int),a∉([0,1,2,3,27]:List Int)→a∉([4,5,6,7,14]:List Int)→a∉([8,9,10,11,12,13,24,25]:List Int)→a∉([15,16,17,22,23]:List Int)→a∈([18,19,20,21,26]:List Int):=by decide
theorem sU(b:Tx)(aN:L2.BMain base mg)(aP:GC mg "FORMS" (.ref FA))(aR:vE K kF)(aT:uB P w base FA kF):Oz "answer_next" 10 ["house","reader"] (Ee K):=by f_assign(
 have u:=b.gj.fs ["house","reader","call","form","numbers","rows"];obtain⟨co,aU,a0⟩:=b.gz;obtain⟨cp,a1,a2⟩:=b.fW;obtain⟨cr,a3,a4⟩:=b.dW;obtain⟨cs,a5,a6⟩:=b.eQ;refine b.gj.ok u (by walk_at"l") (λct cL cT c0 c1 L c2 a7 c3 g a8=>?_);obtain⟨o,p,j,q,a,h,l,c,e,f,t,i,rfl,a9,v,Y,Z,M,N,z,bd,k⟩:=a8;have bi:=bN g;refine⟨_,(ae (sT 2 u.nd (oH b.gu (fL b) g (pv 1))) (ae (sT 3 u.nd (Ds aT bi (aJ aP) (pv 2) (λ_ _=>rfl))) (ae (sT 4 u.nd (iJ b.gu (gS b) g (pv 1) (aa (b0 oy (pv 3) ao (λ_ _=>rfl)) af))) (ae (sT 5 u.nd (iJ b.gu (lK b) g (pv 1) (aa (b0 oy (pv 3) ao (λ_ _=>rfl)) af))) (ae (aG (pt_cmpR kY (pv 2) (aJ aU) (by with_unfolding_all rfl)) (ai (aq (ag (nW b) g (aa (pv 0) (aa (pv 2) (aa (pv 4) af)))))) aw) (ae (aG (pt_cmpR kY (pv 2) (aJ a1) (by with_unfolding_all rfl)) (ai (aq (ag (mH b) g (aa (pv 0) (aa (pv 2) (aa (pv 4) (aa (pv 5) af))))))) aw) (ae (aG (pt_cmpR kY (pv 2) (aJ a3) (by with_unfolding_all rfl)) (ai (aq (ag (jH b) g (aa (pv 0) (aa (pv 2) (aa (pv 4) (aa (pv 5) af))))))) aw) (ae (aG (pt_cmpR kY (pv 2) (aJ a5) (by with_unfolding_all rfl)) (ai (aq (ag (kJ b) g (aa (pv 0) (aa (pv 2) (aa (pv 4) (aa (pv 5) af))))))) aw) (ai (aq (ag (lO b aN) g (aa (pv 0) (aa (pv 2) (aa (pv 4) (aa (pv 5) af))))))))))))))),?_⟩;obtain⟨c4,O⟩:=id Y;simp_arith[O,b.gv,F0];have bj:h[l]?=some c:=by rw[←List.head?_drop,N];rfl
 refine⟨a,h,l,Y,Z,c,bj,M,λac ah al=>?_⟩;obtain⟨Q,bl,am⟩:=aR c _ _ z;obtain⟨bm,R⟩:=id ah;have an:SqL K ac a (h.map V.int):=SqL.fr Z al ⟨_,_,_,O⟩;have ap:h.drop (l+1)=e++(PyFlat.putRows f++t):=by rw[←LB,N];rfl
 have c5:h.length=l+(1+e.length+(PyFlat.putRows f).length+t.length):=by have:=Me List.length N;rw[List.length_drop,K9,Kr,Kr]at this;lia
 refine⟨Sum.inl c,rfl,.ref Q,bl,CR,bm,_,R,rfl,iM,Q,_,0,.int e.length,rfl,rfl,am ac,rfl,?_⟩;refine⟨p,a,h,l+1,e.length,rfl,ah,an,by lia,M,λar m av ax aA aE=>?_⟩;rw[ap,List.take_left]at aE;obtain⟨bn,bv⟩:=id av;have bP:SqL K ar a (h.map V.int):=SqL.fr an ax ⟨_,_,_,R⟩;have bT:f.length≤2:=by have:=Fo c (pd z);rw[z]at this;exact this
 refine⟨CR,bn,_,bv,rfl,fK,Q,_,1,.int f.length,rfl,rfl,am ar,rfl,?_⟩;refine⟨p,a,h,l+1+e.length,f,t,rfl,av,bP,by rw[←LB,ap,List.drop_left],M,bT,λr A as b1 aI c6 b2 b3 b4=>?_⟩;have S:∀d s,L d=some s→d≠p→r d=some s:=λd s T B=>aI _ _ (ax _ _ (al _ _ T B) B) B;have b5:m≠p:=λU=>by rw[U,R]at aA;cases aA
 have C:r m=some (.tup (e.map V.int)):=aI _ _ aE b5;obtain⟨D,b6⟩:=a9.butR O ⟨_,_,_,rfl⟩ S;have F:o_ r A f:=⟨as,b2,b3,λb7 x i b8 n=>(b4 b7 x i b8 n).1⟩;have n:=(sS z).2.1 _ bd;have b9:∃X,r p=some (.ins CR X (bQ (.ref a) (.int (l+1+e.length+(PyFlat.putRows f).length:Nat)))):=b1;obtain⟨X,aK⟩:=b9;have E:aB r o j q (Vbbhal.step j i) a7:=λca cc cd ce kp ch cj T=>by
  have aM:∀d,r d=none→L d=none:=λd eb=>by cases U:L d with|none=>rfl|some s=>
   by_cases y:d=p;·rw[y,aK]at eb;cases eb
   ·rw[S d s U y]at eb;cases eb
  refine k ca cc cd ce (λd s eb B nf=>kp _ _ (S _ _ eb B) nf) (λd cl=>(ch d cl).imp id (aM d)) ⟨X,?_⟩ (aM _ cj) T;rw[kp _ _ aK b6];congr 4;lia
 refine qO [0,1,2,3,27] (a0 _) ⟨_,rfl,?_⟩;by_cases G:c∈([0,1,2,3,27]:List Int);·rw[Mj (LF G)];exact⟨o,j,q,c,m,e,f,i,rfl,D,v,C,n,G,E⟩
 rw[Mi (by simp only[decide_eq_true_eq];exact G)];refine qO [4,5,6,7,14] (a2 _) ⟨_,rfl,?_⟩;by_cases H:c∈([4,5,6,7,14]:List Int);·rw[Mj (LF H)];exact⟨o,j,q,c,m,A,e,f,i,rfl,D,v,C,F,n,H,E⟩
 rw[Mi (by simp only[decide_eq_true_eq];exact H)];refine qO [8,9,10,11,12,13,24,25] (a4 _) ⟨_,rfl,?_⟩;by_cases I:c∈([8,9,10,11,12,13,24,25]:List Int);·rw[Mj (LF I)];exact⟨o,j,q,c,m,A,e,f,i,rfl,D,v,C,F,n,I,E⟩
 rw[Mi (by simp only[decide_eq_true_eq];exact I)];refine qO [15,16,17,22,23] (a6 _) ⟨_,rfl,?_⟩;by_cases J:c∈([15,16,17,22,23]:List Int);·rw[Mj (LF J)];exact⟨o,j,q,c,m,A,e,f,i,rfl,D,v,C,F,n,J,E⟩
 rw[Mi (by simp only[decide_eq_true_eq];exact J)];have cm:=Hi c (pd z) G H I J;exact⟨o,j,q,c,m,A,e,f,i,rfl,D,v,C,F,n,cm,E⟩)
theorem SqL.kp{K:PySem.W.Frag}{f:Hp}{t:Addr}(b:SqL K H a xs)(h:cy H t)(kk:∀d c,H d=some c→d≠t→f d=some c):SqL K f a xs:=by
 obtain⟨i,g,_⟩:=h;rcases b with(b|⟨c,b⟩)|b;·exact .inl (.inl (kk _ _ b λe=>by rw[e,g]at b;cases b))
 ·exact .inl (.inr ⟨c,kk _ _ b λe=>by rw[e,g]at b;cases b⟩)
 ·exact .inr b
theorem xV{e:List Int}(a:PyVbbhal.answers_asked e=true):∃b,e=PyFlat.put b∧(∀d∈b,PyFlat.okCall PyVbbhal.shape d∧VbbhalNeutral.asked1 d=true)∧b.length≤400∧PyVbbhal.answers e=PyFlat.told (PyFlat.played VbbhalNeutral.step VbbhalNeutral.start b):=by f_assign(unfold PyVbbhal.answers_asked at a;unfold PyVbbhal.answers;cases c:PyVbbhal.calls e with|none=>rw[c]at a;cases a|some g=>rw[c]at a;have a:(PyFlat.atMost 400 g&&VbbhalNeutral.asked g)=true:=a;unfold PyVbbhal.calls at c;cases e2:PyFlat.calls PyVbbhal.shape e.length e with|none=>rw[e2]at c;cases c|some b=>
 rw[e2]at c;have c:b.map PyVbbhal.whole=g:=Lv c;obtain⟨i,h⟩:=PyFlat.put_calls _ _ _ e2;have j:b.map PyVbbhal.whole=b:=by
  conv=>rhs;rw[←L4 b]
  apply Kh;intro d f;obtain⟨m,n,o,rfl,l⟩:=h d f;exact(sS l).1
 rw[j]at c;subst c;unfold PyFlat.atMost VbbhalNeutral.asked at a;rw[K3,K3,K7,KS]at a;exact⟨b,i,λd f=>⟨h d f,a.2.1 d f⟩,a.1,rfl⟩)
theorem ID{a:State}{b:List (List Int)}{k:Vbbhal.Call}(c:VbbhalNeutral.callOf b=some k):VbbhalNeutral.step a b=((Vbbhal.step a k).1,mz (Vbbhal.step a k).2):=by unfold VbbhalNeutral.step;rw[c];rfl
theorem aH.B1{e:Addr}{f:State}(d:aH H e f h)(g:fI e f h b):H b≠none:=by f_assign(
 unfold fI at g;rcases g with z|z|z|z|z|z|z|z|⟨a,ha,z⟩;·rw[z,d.tre.ob];intro c;cases c
 ·rw[z,d.pr];intro c;cases c
 ·rw[z,d.ra];intro c;cases c
 ·rw[z,d.ti];intro c;cases c
 ·rw[z,d.ac];intro c;cases c
 ·rw[z,d.re.en];intro c;cases c
 ·rw[z,d.re.iv];intro c;cases c
 ·obtain⟨j,c,_⟩:=d.re.tab;rw[z,d.re.tbE,c];intro c;cases c
 ·obtain⟨l,c,i,_⟩:=d.tre.acA a ha;rw[z,i];intro c;cases c)
theorem aH.butQ{i:Hp}{m:Addr}{n:State}(b:aH H m n h)(v:H f=some (.lst ys))(y:¬fI m n h f)(q:∀d e,H d=some e→d≠f→i d=some e):aH i m n h:=by f_assign(
 have kp:∀{d e},H d=some e→(∀g,e≠.lst g)→i d=some e:=λ{d e}c z=>q _ _ c λo=>by rw[o,v]at c;exact z _ (Lv c).symm
 have j:∀d g,H d=some (.tup g)→i d=some (.tup g):=λd g c=>kp c nofun;exact{b with
  tre:=⟨kp b.tre.ob nofun,.inl (kp b.ac nofun),b.tre.acR,λa A=>by obtain⟨r,f,l,B⟩:=b.tre.acA a A;exact⟨r,f,kp l nofun,j _ _ B⟩⟩
  ac:=kp b.ac nofun
  pr:=kp b.pr nofun
  prA:=λx p=>j _ _ (b.prA x p)
  ra:=kp b.ra nofun
  ti:=kp b.ti nofun
  re:={b.re with
   tab:=by refine b.re.tab.keep ?_ λd E c=>kp c nofun;obtain⟨F,c,_⟩:=b.re.tab;rw[c];exact kp c nofun
   en:=q _ _ b.re.en λo=>y (by unfold fI;simp[o])
   enA:=b.re.enA.keep j λx p e c=>by obtain⟨G,_,r,f,I,l,_⟩:=b.re.enA.mem x p;rw[l]at c;cases c;exact kp l nofun
   iv:=kp b.re.iv nofun
   ivD:=λs u=>⟨kp (b.re.ivD s u).1 nofun,(b.re.ivD s u).2⟩
   ivT:=λC D=>j _ _ (b.re.ivT C D)}})
theorem Fp(a:Ans):(mz a).length=1+Qm.rl a:=by unfold mz Qm.rl;rw[K9];omega
theorem zk(q:Tx)(a5:L2.BMain base mg)(a6:GC mg "FORMS" (.ref FA))(a7:vE K kF)(a8:uB P w base FA kF)(a9:Fun K "answers" "answers" gK fa fd):jR P w K mg base CX0 11 fa fd ["calls"] (gL K TP):=by f_assign(
 have C:=q.gK.fs ["calls","house","reader","answered","answer"];refine a9.ok C (by walk_at"l") (λc0 c1 c2 c3 j c4 c5 c6 D G=>?_);obtain⟨a,l,rfl,bd,bi,bj,ac,k⟩:=G;have c7:=bN D;refine⟨_,(ae (sT 1 C.nd (Bv (Eb q) D)) (ae (sT 2 C.nd (gP (BN q) D (aa (pv 0) af))) (ae (sT 3 C.nd (aC af)) (ae (jQ Lw (ba (pt_val (oH q.gu (lJ q) D (pv 2)))) (ae (sT 4 C.nd (ag (sU q a5 a6 a7 a8) D (aa (pv 1) (aa (pv 2) af)))) (ae (de (iG JH JB JC dE (pv 3) (aa (aF bF (by rfl) q.bT bh (aa (pv 4) af)) af))) (ai (de (iG JH PySem.F.slot_list_extend PySem.F.type_list_extend ml (pv 3) (aa (pv 4) af))))))) (ai (aq (pv 3))))))),?_⟩;walk_at"rd";intro x dx hx hdx ndx;obtain⟨ah,bl,bm,c9,bn⟩:=xV bj;have bv:cy (upd (upd j dx (.own x)) x (.ins CH dx [])) TP:=L2.cy.new (L2.cy.new ac hdx) (by rw[ak (Mg ndx)];exact hx);refine⟨x,dx,rfl,aj,bv,λH bP al bT b1=>⟨rfl,λm da I b2 db E b3 b4=>⟨by decide,λd J=>?_⟩⟩⟩;have am:au H E:=λb o e=>by refine b4 b o ?_ (ay e I);rw[ak (ay e I),ak (ay e b2)];exact e
 have L:∀b o,j b=some o→H b=some o:=λb o e=>by have n:=ay e hx;refine bT b o ?_ n;rw[ak n,ak (ay e hdx)];exact e
 have an:=au.new J (o:=.lst []);have M:au H (upd E d (.lst [])):=am.trans an;obtain⟨ap,N⟩:=b3;have ar:upd E d (.lst []) m=some (.ins CR ap (bQ (.ref a) (.int (0:Nat)))):=an _ _ N;have av:upd E d (.lst []) d=some (.lst []):=aj;have b5:j m=none:=by cases c:j m with|none=>rfl|some o=>rw[L _ _ c]at I;cases I
 have O:H d=none:=am.free J;have ax:j d=none:=by cases c:j d with|none=>rfl|some o=>rw[L _ _ c]at O;cases O
 have aA:m≠d:=λc=>by rw[c]at N;rw[N]at J;cases J
 generalize upd E d (.lst [])=dd at M ar av⊢;have b6:=al.same M;obtain⟨W,Q⟩:∃W:Nat→L2.St→Hp→Prop,W=λaE aI r=>∃(s:List (List (List Int)))(f:State)(z:HA)(p:Nat)(acc:List Int)(aK:Option V),s.length=aE∧aI=[some (V.ref a),some (V.ref x),some (V.ref m),some (V.ref d),aK]∧aH r x f z∧Good f∧qb r m a p∧l.drop p=PyFlat.put s∧(∀A∈s,PyFlat.okCall PyVbbhal.shape A∧VbbhalNeutral.asked1 A=true)∧r d=some (.lst (acc.map V.int))∧¬fI x f z d∧acc.length+4000*s.length≤1600000∧acc++PyFlat.told (PyFlat.played VbbhalNeutral.step f s)=PyVbbhal.answers l∧(∀b o,j b=some o→b≠TP→r b=some o)∧(∀b,fI x f z b→b=TP∨j b=none):=⟨_,rfl⟩;refine⟨W,⟨ah.length,?_⟩,?_⟩
 ·rw[Q];refine⟨ah,Vbbhal.start,bP,0,[],none,rfl,rfl,b6,Gm.yd,⟨ap,ar⟩,by rw[List.drop_zero];exact bl,bm,av,λc=>al.B1 c O,?_,?_,λb o e _=>M _ _ (L b o e),λb R=>?_⟩;·simp only[List.length_nil];lia
  ·rw[List.nil_append,bn];rfl
  ·rcases b1 b R with y|y|y;·rw[y];exact .inr hx
   ·exact .inl y
   ·exact .inr (aW (aW y).1).1
 rintro aE aI r G;rw[Q]at G;obtain⟨s,f,z,p,acc,aK,rfl,rfl,aM,S,T,u,aN,B,U,b7,F,kp,aP⟩:=G;obtain⟨dn,b8⟩:=id T;have aR:SqL K r a (l.map V.int):=SqL.kp bd ac kp;simp_arith[b8,q.gv];refine⟨a,l,p,T,aR,?_⟩;cases s with|nil=>have b9:l.length≤p:=List.drop_eq_nil_iff.mp u;rw[Mi (λc=>c b9)];have F:acc++[]=PyVbbhal.answers l:=F;rw[Lj]at F;rw[F]at B;exact k r d kp ax B|cons A rest=>
  obtain⟨⟨v,h,i,rfl,aT⟩,ca⟩:=aN A (Ks ..);have u:l.drop p=v::(h++(PyFlat.putRows i++PyFlat.put rest)):=by rw[u];show(v::h++PyFlat.putRows i)++PyFlat.put rest=_;simp
  have cc:¬l.length≤p:=λc=>by rw[List.drop_eq_nil_iff.mpr c]at u;cases u
  rw[Mj cc];obtain⟨g,aU⟩:=(sS aT).2.2 ca;refine⟨W rest.length,λdr ds w=>⟨_,by simp,w⟩,?_⟩;refine⟨x,m,f,z,a,l,p,v,h,i,PyFlat.put rest,g,rfl,aM,S,T,aR,bi,u,aT,aU,λcd a0 X ce a1 Y R2 a2 a3=>?_⟩;have ch:d≠m:=Mg aA;have Z:=a1 _ _ B ch U;have cj:X≠d:=λc=>by rw[c,B]at a2;cases a2
  have dy:=Qm.Et S g;have dA:=Fp (Vbbhal.step f g).2;have dK:((v::h)::i)=((v::h)::i):=rfl;rw[K9]at b7;refine⟨tyL Z,X,rfl,_,a3,_,Z,?_,tyL aj,X,rfl,_,.inl ((ak cj).trans a3),?_,?_⟩;·rw[Ln];show _<2^24;lia
  ·rw[Kr,Ln];simp only[List.length_cons,List.length_nil];show _≤2^24;lia
  · rw[Q];have cl:∀b,j b≠none→b≠TP→¬fI x f z b∧b≠m∧b≠d:=λb e n=>⟨λc=>by rcases aP b c with y|y;exact n y;exact e y,λc=>e (by rw[c];exact b5),λc=>e (by rw[c];exact ax)⟩;rw[kU,Ln];have cm:aH (upd cd d (.lst (acc.map V.int++[.int (mz (Vbbhal.step f g).2).length]++(mz (Vbbhal.step f g).2).map V.int))) x (Vbbhal.step f g).1 a0:=by
      refine ce.butQ Z (λc=>?_) λb o e n=>by rw[ak n];exact e
      rcases Y d c with y|y;·exact U y
      ·rw[B]at y;cases y
    refine⟨rest,(Vbbhal.step f g).1,a0,p+(1+h.length+(PyFlat.putRows i).length),acc++((mz (Vbbhal.step f g).2).length:Int)::mz (Vbbhal.step f g).2,_,rfl,rfl,cm,Gm.A6 S g,?_,?_,λA co=>aN A (J0 _ co),?_,?_,?_,?_,λb o e n=>?_,λb R=>?_⟩;·obtain⟨cp,cr⟩:=R2;exact⟨cp,by rw[ak aA];exact cr⟩
    ·rw[←LB,u];rw[show 1+h.length+(PyFlat.putRows i).length=1+(h.length+(PyFlat.putRows i).length)by lia,←LB];show((h++(PyFlat.putRows i++PyFlat.put rest))).drop _=_;rw[←KH,List.drop_left' (by rw[Kr])]
    ·rw[aj];congr 2;simp
    ·intro c;rcases Y d c with y|y;·exact U y
     ·rw[B]at y;cases y
    ·rw[Kr,K9];lia
    ·rw[←F];show _=acc++PyFlat.told ((VbbhalNeutral.step f ((v::h)::i)).2::PyFlat.played VbbhalNeutral.step (VbbhalNeutral.step f ((v::h)::i)).1 rest);rw[ID aU];show _=acc++(((mz (Vbbhal.step f g).2).length:Int)::mz (Vbbhal.step f g).2++PyFlat.told _);simp
    ·obtain⟨cs,ct,cL⟩:=cl b (by rw[e];intro c;cases c) n;rw[ak cL];exact a1 _ _ (kp _ _ e n) ct cs
    ·rcases Y b R with y|y;·exact aP b y
     ·refine .inr ?_;cases c:j b with|none=>rfl|some o=>
      by_cases a4:b=TP;·obtain⟨dL,cT,_⟩:=aM.re.tab;rw[a4,cT]at y;cases y
      ·rw[kp _ _ c a4]at y;cases y)
end
section
variable {K : PySem.W.Frag} {h : Heap} {mg : Str → Option Value}
theorem IE{a:Int}{t:Tok}(b:K.In h)(c:h.Ns mainGlobals mg)(d:PySem.W.nsIn K mainGlobals x=some (some (.int a t))):GC mg x (.int a):=⟨_,PySem.W.mg_of b c d,t,rfl⟩
theorem Gc(b:K.In h)(c:h.Ns mainGlobals mg)(d:PySem.W.nsIn K mainGlobals x=some (some (.ref a))):GC mg x (.ref a):=⟨_,PySem.W.mg_of b c d,rfl⟩
theorem Gd{e:Option Addr}{b:Array Value}{c:Nat}{f:Array (Option Value)}(g:K.lookup a=some ⟨.type "tuple",e,.seq b c,f⟩)(i:b.size≤sizeLine)(j:aZ xs b.toList):∀d,SqT K d a xs:=λd=>.inr ⟨_,b,c,g,rfl,rfl,i,j⟩
theorem IF{a:Addr}{c:Option Addr}{b:Array Value}{d:Nat}{e:Array (Option Value)}(f:K.In h)(g:h.Ns mainGlobals mg)(i:PySem.W.nsIn K mainGlobals x=some (some (.ref a)))(j:K.lookup a=some ⟨.type "tuple",c,.seq b d,e⟩)(l:b.size≤sizeLine)(m:aZ xs b.toList):∃a,GC mg x (.ref a)∧∀n,SqT K n a xs:=⟨a,Gc f g i,Gd j l m⟩
theorem IG{st:Stmt}{c:List Str}{a:Addr}{m:Value}{n d:Option Addr}{o:Array (Option Value)}{kV e f b g:Value}(p:K.In h)(q:h.Ns mainGlobals mg)(r:PySem.W.nsIn K mainGlobals x=some (some (.ref a)))(j:K.lookup a=some ⟨m,n,.func (PySem.W.fnOf x x (d7 st) (b_ st) (aO st) .none kV e f d b g),o⟩)(l:PySem.W.codeIn K b x=true)(k:PySem.W.keepIn K (.ref a)=true)(s:∀(kV e f:Value)(d:Option Addr)(b g:Value)(i:List Value),i.length=c.length→bindArgs (PySem.W.fnOf x x (d7 st) (b_ st) (aO st) .none kV e f d b g) ⟨i,[]⟩=pure (c.zip i)):Dx K mg x st c:=⟨a,_,j3 j l k,PySem.W.mg_of p q r,(j3 j l k).binds s⟩
theorem IH{st:Stmt}{b:List Str}{a t:Addr}{l:Value}{m c:Option Addr}{n:Array (Option Value)}{kV d e f:Value}(o:K.In h)(p:h.Ns mainGlobals mg)(q:PySem.W.nsIn K mainGlobals x=some (some (.ref a)))(i:K.lookup a=some ⟨l,m,.func (PySem.W.fnOf x x (d7 st) (b_ st) (aO st) .none kV d e c (.ref c0) f),n⟩)(j:PySem.W.codeIn K (.ref c0) x=true)(k:PySem.W.keepIn K (.ref a)=true)(r:PySem.W.codeHdIn K c0 t=true)(s:∀(kV d e:Value)(c:Option Addr)(u f:Value)(g:List Value),g.length=b.length→bindArgs (PySem.W.fnOf x x (d7 st) (b_ st) (aO st) .none kV d e c u f) ⟨g,[]⟩=pure (b.zip g)):DxT K mg x st b t:=⟨a,_,c0,j3 i j k,PySem.W.mg_of o p q,(j3 i j k).binds s,rfl,r⟩
theorem II{st:Stmt}{c:List Str}{a:Addr}{n:Value}{o d:Option Addr}{p:Array (Option Value)}{kV e f b g:Value}(q:PySem.W.findIn K (.ref C) m=some (some (.ref a)))(r:PySem.W.isFn K (.ref a)=true)(j:K.lookup a=some ⟨n,o,.func (PySem.W.fnOf m qual (d7 st) (b_ st) (aO st) .none kV e f d b g),p⟩)(l:PySem.W.codeIn K b qual=true)(k:PySem.W.keepIn K (.ref a)=true)(s:∀(kV e f:Value)(d:Option Addr)(b g:Value)(i:List Value),i.length=c.length→bindArgs (PySem.W.fnOf m qual (d7 st) (b_ st) (aO st) .none kV e f d b g) ⟨i,[]⟩=pure (c.zip i)):DxM K C m qual st c:=⟨a,_,j3 j l k,⟨q,r,k⟩,(j3 j l k).binds s⟩
theorem IJ{c:Str}{st:Stmt}{e:List Str}{b:Addr}{o:Value}{p f:Option Addr}{q:Array (Option Value)}{kV g i d j:Value}(r:K.In h)(s:h.Ns mainGlobals mg)(a:PySem.W.nsIn K mainGlobals x=some (some (.ref C)))(u:PySem.W.makesIn K C=true)(v:PySem.W.keepIn K (.ref C)=true)(y:PySem.W.findIn K (.ref C) "__init__"=some (some (.ref b)))(z:PySem.W.isFn K (.ref b)=true)(m:K.lookup b=some ⟨o,p,.func (PySem.W.fnOf "__init__" c (d7 st) (b_ st) (aO st) .none kV g i f d j),q⟩)(n:PySem.W.codeIn K d c=true)(k:PySem.W.keepIn K (.ref b)=true)(A:∀(kV g i:Value)(f:Option Addr)(d j:Value)(l:List Value),l.length=e.length→bindArgs (PySem.W.fnOf "__init__" c (d7 st) (b_ st) (aO st) .none kV g i f d j) ⟨l,[]⟩=pure (e.zip l)):DxI K mg x c C st e:=⟨⟨b,_,j3 m n k,⟨u,y,z,v⟩,(j3 m n k).binds A⟩,PySem.W.mg_of r s a⟩
inductive FE:List DictEntry→List (Int×Addr)→Prop|nil:FE [] []|cons{e:DictEntry}{es:List DictEntry}{n:Int}{t:Tok}{a:Addr}{l:List (Int×Addr)}:e.key=.int n t→e.val=.ref a→e.hash=hashInt n→FE es l→FE (e::es) ((n,a)::l)
inductive FF(K:PySem.W.Frag):List (Int×Addr)→Prop|nil:FF K []|cons{n:Int}{x y:Nat}{a:Addr}{l:List (Int×Addr)}:PyVbbhal.shape n=some (x,y)→(∀H,SqT K H a [.int x,.int y])→FF K l→FF K ((n,a)::l)
def kFl(a:List (Int×Addr)):List (Key×V):=a.map λx=>(Sum.inl x.1,V.ref x.2)
def vFl(a:List (Int×Addr)):List (Key×Value):=a.map λx=>(Sum.inl x.1,Value.ref x.2)
theorem Ge:∀a:List (Int×Addr),KV (kFl a) (vFl a)|[]=>.nil|x::a=>.cons ⟨rfl,rfl⟩ (Ge a)
theorem Fq{P:Program}{w:World}:∀{b:List DictEntry}{d:List (Int×Addr)},FE b d→(∀c∈b,∃k,(bz P w).is k c.key=true∧c.hash=(bz P w).hash k)∧Pairs (bz P w) b (vFl d):=by intro b d h;induction h with|nil=>exact⟨λc e=>(nomatch e),.nil⟩|@cons o b f t a d g i j p l=>
 obtain⟨m,n⟩:=l;refine⟨λc e=>?_,.cons (by have:=L2.oq f t;rw[←g]at this;exact this) i n⟩;rcases LN.mp e with z|z;·subst z;exact⟨Sum.inl f,by have:=L2.oq f t;rw[←g]at this;exact this,j⟩
 ·exact m c z
theorem Fs{P:Program}{w:World}{base:Heap}{c:Array DictEntry}{e:Nat}{b:List (Int×Addr)}(f:K.In base)(lk:K.lookup FA=some ⟨.type "dict",none,.dict c e,#[]⟩)(g:FE c.toList b)(nd:(b.map (·.1)).Nodup):uB P w base FA (kFl b):=by obtain⟨i,j⟩:=Fq (P:=P) (w:=w) g;refine⟨vFl b,Ge b,_,c,e,f _ _ lk,⟨rfl,rfl,rfl⟩,rfl,λd l=>i d (Array.mem_toList_iff.mpr l),j,?_⟩;unfold vFl;rw[LV];unfold List.Nodup at nd⊢;rw[KO]at nd⊢;exact nd.imp λ{a n}m d=>m (Sum.inl.inj d)
theorem Ef:∀{b:List (Int×Addr)}{c:Int}{x y:Nat},FF K b→PyVbbhal.shape c=some (x,y)→c∈b.map (·.1)→∃t,bt (kFl b) (Sum.inl c)=some (.ref t)∧∀j,SqT K j t [.int x,.int y]:=by f_assign(intro b c x y h;induction h with|nil=>exactλ_ d=>nomatch d|@cons l p r a b f m s n=>
 intro g d;by_cases e:l=c;·subst e;rw[g]at f;cases f;refine⟨a,?_,m⟩;unfold kFl bt;rw[LM,JO (by simp)];rfl
 · have d:c∈b.map (·.1):=by
     rcases LN.mp d with q|q;·exact absurd q.symm e
     ·exact q
   obtain⟨t,i,o⟩:=n g d;refine⟨t,?_,o⟩;unfold kFl bt at i⊢;rw[LM,JN (by simp;exact e)];exact i)
end
open PySem.W (Codec)
theorem IK{w:World}{K:PySem.W.Frag}{mg:Str→Option Value}{P:Program}{l:List (Int×Addr)}{TP:Addr}{CA CE CH CR CW:Addr}(d:Txt K mg CA CE CH CR CW TP)(f:GC mg "FORMS" (.ref FA))(i:FF K l)(j:∀base,K.In base→uB P w base FA (kFl l))(m:l.map (·.1)=[0,1,2,3,4,5,6,7,8,9,10,11,12,13,14,15,16,17,18,19,20,21,22,23,24,25,26,27])(n:mg "answers"=some (.ref fa)):∃c:FuncData,(∀(g:Shared)(b:List Value),b.length=(["calls"]:List Str).length→BindsTo g c ⟨b,[]⟩ ((["calls"]:List Str).zip b))∧∀base:Heap,K.In base→base.Ns mainGlobals mg→L2.BMain base mg→jR P w K mg base CX0 11 fa c ["calls"] (gL K TP):=by f_assign(obtain⟨y,c,e,o,z⟩:=d.gK.ex;have p:=n.symm.trans o;cases p;refine⟨c,λg b q=>?_,λbase r A s=>BK (λ_ _ _ _ d u f v x e=>zk d u f v x e) ⟨P,w,K,mg,base,CA,CE,CH,CR,CW,TP⟩ FA _ fa c d s f (λB a C h=>Ef i h (by rw[m];exact pd h)) (j base r) e⟩;obtain⟨D,E,kV,F,G,H,I,J,L,rfl,lk,M⟩:=e.ex;exact ln1 (P:=λb=>BindsTo g _ ⟨b,[]⟩ (((["calls"]:List Str)).zip b)) (λ_=>.of_eq rfl) b q)
theorem IL(a:Codec.denoteAll PySem.Challenge.rw_monthsclosed_s01_answers.args):L2.pV (Codec.encAll PySem.Challenge.rw_monthsclosed_s01_answers.args a)=true:=by show(L2.pV (a.1.map _)&&true)=true;rw[L2.wU λ_=>rfl];rfl
theorem IM{K:PySem.W.Frag}{TP:Addr}(b:Hp)(c:List V)(a:Codec.denoteAll PySem.Challenge.rw_monthsclosed_s01_answers.args)(r:wV b)(f:Codec.withinAll PySem.Challenge.rw_monthsclosed_s01_answers.args a=true)(g:Codec.app PySem.Challenge.rw_monthsclosed_s01_answers.args PySem.Challenge.rw_monthsclosed_s01_answers.asked a=true)(h:jX K b c (Codec.encAll PySem.Challenge.rw_monthsclosed_s01_answers.args a))(i:b TP=none):gL K TP c (upd b TP (.tbl #[])) (λj d=>Dw K d j (PySem.Challenge.rw_monthsclosed_s01_answers.ret.enc (Codec.app PySem.Challenge.rw_monthsclosed_s01_answers.args PySem.Challenge.rw_monthsclosed_s01_answers.f a))) λ_ _ _=>False:=by f_assign(cases h with|cons l m=>cases m;cases l with|lst n o=>have p:=L2.Ad a.1 _ o;subst p;have e:((Codec.inLen 0 16000 a.1&&a.1.all (Codec.inInt (Int.negSucc 9223372036854775807) (Int.ofNat 9223372036854775807)))&&true)=true:=f;rw[K3,K3]at e;exact⟨_,a.1,rfl,au.seqL (au.new i) n,(Codec.inNat_iff.mp e.1.1).2,g,⟨#[],aj,trivial,.inl rfl⟩,λd s _ _ q=>.lst (L2.SqL.of q) (L2.Ac _)⟩)
theorem IP{b:ExcName→Option Value}{K:PySem.W.Frag}{a:Heap}{mg:Str→Option Value}(TT:Top q loose b mg mb a)(c:K.In a)(d:((recsOf q).find? (λe=>e.name==("from_top_down":Str))).isSome=true){c0 TP:Addr}(f:PySem.W.tabIn K "from_top_down"=some (c0,TP)):PySem.W.CodeHd a c0 TP∧a.get? TP=some (PySem.W.tabObj #[])∧L2.BMain a mg:=by obtain⟨j,g⟩:=Option.isSome_iff_exists.mp d;obtain⟨h,i⟩:=PySem.W.tab_of TT c g f;exact⟨h,i,TT.bmain⟩
end Mc
def PySem.W.Fast:=Nat where tw10724271867704769780:=Nat;tw9198469642031253181:=Nat;tw1709199805865015559:=Nat;tw918241489776934173:=Nat;tw11305941494243515364:=Nat;tw12820849303067695148:=Nat;tw6421374637343105724:=Nat;tw8567910738164316565:=Nat;tw1849283730566976571:=Nat;tw13937636480834773569:=Nat;tw18343109176595668576:=Nat;tw10169936388230030384:=Nat;tw17672385172241701922:=Nat;tw1625084001664501334:=Nat;tw6611018928921791240:=Nat;tw14344249696413789597:=Nat;tw3918298162731489672:=Nat;tw8846275122093312160:=Nat;tw12726493006679901748:=Nat;tw11852441984671181367:=Nat;tw6778197285910442994:=Nat;tw14807890559520769537:=Nat;tw13392816736904873460:=Nat;tw2775929492990786863:=Nat;tw6554284869640749719:=Nat;tw2089785746736801636:=Nat;tw4420062325571031146:=Nat;tw616341605707371126:=Nat;tw62806429587769461:=Nat;tw2826352128624136467:=Nat;tw6430499742039376367:=Nat;tw5157668598085631457:=Nat;tw14896106233481503473:=Nat;tw8828521554297607907:=Nat;tw10877817200019505760:=Nat;tw8084520269978725124:=Nat;tw8306959467642024964:=Nat;tw11130435733258513867:=Nat;tw8231185275700294437:=Nat;tw1287902222199838726:=Nat;tw15361879065208433622:=Nat;tw15169594291034463852:=Nat;tw324191456630009146:=Nat;tw685723928183122:=Nat;tw3880107529777671064:=Nat;tw17111945823081535953:=Nat;tw13422580243574163291:=Nat;tw8170378323789439559:=Nat;tw10609120897220170528:=Nat;tw11438630836414785837:=Nat;tw11862853840749132177:=Nat;tw15344428719464229232:=Nat;tw9949420749208722717:=Nat;tw15834650488281347808:=Nat;tw12894290893997184195:=Nat;tw2444951884983336308:=Nat;tw16528955693113391074:=Nat;tw15886443797426121535:=Nat;tw3110322412667052736:=Nat;tw4001456007603871474:=Nat;tw1061292800344903470:=Nat;tw17803481151438278761:=Nat;tw11323768138789379986:=Nat;tw6658839073865408915:=Nat;tw12382889923701080222:=Nat;tw9147675196524304694:=Nat;tw5961261550708937868:=Nat;tw4227609104041535025:=Nat;tw10702019549643691724:=Nat;tw10756236105667823199:=Nat;tw4354630793376408443:=Nat;tw10130806349552919578:=Nat;tw7424486483292455738:=Nat;tw1442654447781983599:=Nat;tw5324313366736656181:=Nat;tw10886786978258073379:=Nat;tw17395610799312286810:=Nat;tw14870726781625050075:=Nat;tw1208703860379571105:=Nat;tw7217910857711497508:=Nat;tw3990100930398704383:=Nat;tw2744741718504084670:=Nat;tw13566825350770016398:=Nat;tw2393003917636273059:=Nat;tw10549451419988560591:=Nat;tw12293558812400200088:=Nat;tw4662573994881348086:=Nat;tw1640902406710807559:=Nat;tw5277833120460104709:=Nat;tw13220843903909798077:=Nat;tw6298956496588442212:=Nat;tw9231284911746300218:=Nat;tw7292202109935965433:=Nat;tw13658213981824045748:=Nat;tw4483173362880282637:=Nat;tw7085576738454226511:=Nat;tw4937923705708397656:=Nat;tw1412203698389571342:=Nat;tw1665383277146471055:=Nat;tw13534942717701802442:=Nat;tw15691051158614893531:=Nat;tw9438523079103951378:=Nat;tw11477915363645730712:=Nat;tw5171667469223643104:=Nat;tw9030701508303451914:=Nat;tw2785082995056920142:=Nat;tw3848202245070290108:=Nat;tw2380564857650230720:=Nat;tw8589963066656080546:=Nat;tw11871047083798691375:=Nat;tw10555382180925953131:=Nat;tw13426028596311639514:=Nat;tw13574292442218188066:=Nat;tw14263926608034077916:=Nat;tw5310544777558312060:=Nat;tw15101467818691648078:=Nat;tw15178251647413459840:=Nat;tw5286879748734636217:=Nat;tw15610513431251656899:=Nat;tw1356642032319573029:=Nat;tw1343598706189046273:=Nat;tw13892374311908708103:=Nat;tw12668355855026680131:=Nat;tw7341762027148086284:=Nat;tw11009525669613923699:=Nat;tw16228179117428189454:=Nat;tw9795436829041538472:=Nat;tw10045442006190380271:=Nat;tw18206103208998877162:=Nat;tw16015239817105604205:=Nat;tw6580506377834906303:=Nat;tw11420877718797912737:=Nat;tw10707996785269278541:=Nat;tw5112960269124711218:=Nat;tw12593794206384776117:=Nat;tw9670924904060363712:=Nat;tw1523575060477486184:=Nat;tw15331730658935512092:=Nat;tw2354964819608014550:=Nat;tw10140083822594607145:=Nat;tw12881195739006655878:=Nat;tw17042551237053736565:=Nat;tw5342298308125235765:=Nat;tw14628943575151824936:=Nat;tw6580551506895280010:=Nat;tw5064173380758301584:=Nat;tw2505465986378852274:=Nat;tw15878106674936064750:=Nat;tw10084410213386392025:=Nat;tw3126127795311075644:=Nat;tw12248458735461825490:=Nat;tw8493557825849983654:=Nat;tw192435136141383298:=Nat;tw5328776393738646516:=Nat;tw17616817596677946580:=Nat;tw4007116618418270732:=Nat;tw12853985794618194990:=Nat;tw4466952881463664982:=Nat;tw70742578422417344:=Nat;tw17092604926888221564:=Nat;tw7728336516239560015:=Nat;tw7531482907230170966:=Nat;tw13497740906737428208:=Nat;tw8559603135075154430:=Nat;tw18405394021068945619:=Nat;tw3674488689966880771:=Nat;tw3733073426069278223:=Nat;tw13726505358423035607:=Nat;tw5276161324553542159:=Nat;tw12879166227053291965:=Nat;tw10017899722702605722:=Nat;tw13862943346277974180:=Nat;tw14633449781214235659:=Nat;tw10741298189161720851:=Nat;tw9703873516107409735:=Nat;tw3442126296265568168:=Nat;tw7077820247321888142:=Nat;tw12775937422506586347:=Nat;tw130266399377788898:=Nat;tw2265151286632725086:=Nat;tw10708959936355013791:=Nat;tw6578935895390205215:=Nat;tw6457928015430971055:=Nat;tw34118889054411854:=Nat;tw14145118998979986689:=Nat;tw17299323724321315311:=Nat;tw4138559513325799207:=Nat;tw104230644464101192:=Nat;tw15884790042048166567:=Nat;tw18152431512827230348:=Nat;tw17334238067661151262:=Nat;tw6231647356530979784:=Nat;tw4024530592072668482:=Nat;tw14892783587320302690:=Nat;tw3715584533704687116:=Nat;tw12602690528856955528:=Nat;tw7911209220014261731:=Nat;tw9951140538006076746:=Nat;tw14438670978378811582:=Nat;tw1071671592063169117:=Nat;tw10125467006628936632:=Nat;tw16713577091988908725:=Nat;tw9069917969225599624:=Nat;tw2384373892883164782:=Nat;tw9684181484305420988:=Nat;tw12147417315864872942:=Nat;tw8763134941224824331:=Nat;tw10123284244416353328:=Nat;tw3621408313763703867:=Nat;tw11814275284470652035:=Nat;tw1686966207299548107:=Nat;tw2657726325636282993:=Nat;tw13460346777273974282:=Nat;tw6462102096727175021:=Nat;tw1226279853299556535:=Nat;tw18370039455288090204:=Nat;tw6403436851416026849:=Nat;tw4469338217701609584:=Nat;tw6430997274362300785:=Nat;tw11687816585089934763:=Nat;tw4778299009673745085:=Nat;tw16135684547377080346:=Nat;tw13969022398869548887:=Nat;tw5453232055294093297:=Nat;tw2333904547082333295:=Nat;tw607098819540561413:=Nat;tw13718374610982566386:=Nat;tw17589394784732590352:=Nat;tw9927862947352834607:=Nat;tw15129132790117411491:=Nat;tw3452904214005654445:=Nat;tw7674492573249089387:=Nat;tw3887320656184760681:=Nat;tw7113369815715913968:=Nat;tw6001931551043043247:=Nat;tw6985997940609374995:=Nat;tw15065314251005329739:=Nat;tw13296011508523988648:=Nat;tw4236420956037611066:=Nat;tw15029704451702608016:=Nat;tw5974246486582554607:=Nat;tw8786305132493093004:=Nat;tw4791666566035458256:=Nat;tw11640436081076451276:=Nat;tw14465066419587252409:=Nat;tw10602043434328291801:=Nat;tw8699315403197094931:=Nat;tw9109177800204401596:=Nat;tw1755561689508857666:=Nat;tw16806824820333112025:=Nat;tw1077978573192374778:=Nat;tw6186700115120834293:=Nat;tw3461669159270004421:=Nat;tw545486153998947895:=Nat;tw17212265466754457995:=Nat;tw16131129493311626398:=Nat;tw16806547677574958664:=Nat;tw5057301797949964067:=Nat;tw4514347428114145702:=Nat;tw9209813031533077851:=Nat;tw6689063089615388150:=Nat;tw5308786342001789118:=Nat;tw1615831883490543313:=Nat;tw17576468419140547538:=Nat;tw14905128012476884340:=Nat;tw3399871119548502594:=Nat;tw11122320015613223027:=Nat;tw5523106497275003774:=Nat;tw5423946657208947596:=Nat;tw14603183627926116743:=Nat;tw17042653750175003698:=Nat;tw9874428183081792250:=Nat;tw3115136763101927606:=Nat;tw11336911828846880726:=Nat;tw7249779896098395291:=Nat;tw17235522133300324653:=Nat;tw16765962446944355540:=Nat;tw1240923188225655686:=Nat;tw953876285961883388:=Nat;tw10769852836673033502:=Nat;tw5987865565523021897:=Nat;tw9234002326503843140:=Nat;tw8547266164563824735:=Nat;tw8925688984656672373:=Nat;tw10985986431895453977:=Nat;tw11046233398650693666:=Nat;tw1790548530609629929:=Nat;tw2552837015661130906:=Nat;tw17130158540731432707:=Nat;tw7830803999721041006:=Nat;tw2240004110972976249:=Nat;tw6506723613828520618:=Nat;tw424952569369453583:=Nat;tw10377290547359531398:=Nat;tw14658305551677573750:=Nat;tw5046737821557216991:=Nat;tw15276053773896457196:=Nat;tw235769531067543452:=Nat;tw17862296663531326771:=Nat;tw9799103517623697519:=Nat;tw13842054348091193217:=Nat;tw13291266988446560687:=Nat;tw2046299714763929064:=Nat;tw9839419606495047724:=Nat;tw16803737416995370720:=Nat;tw13314548199842452779:=Nat;tw6827337817940553042:=Nat;tw11800613455299013699:=Nat;tw18315696831157385694:=Nat;tw10177388622535557240:=Nat;tw13288556691998876675:=Nat;tw1465425403124664075:=Nat;tw1286627186627230278:=Nat;tw16230548815525460831:=Nat;tw14785930745103562220:=Nat;tw4822566479605906007:=Nat;tw204288948357311477:=Nat;tw4086624523095959541:=Nat;tw4335268241332534734:=Nat;tw4156700489447436163:=Nat;tw11656010148391076579:=Nat;tw17224780146132667456:=Nat;tw15058750502595988598:=Nat;tw15248955373532330339:=Nat;tw6136903509315655640:=Nat;tw6154784001524565280:=Nat;tw8287370832175806855:=Nat;tw16512111398919763450:=Nat;tw15909464339871791374:=Nat;tw3925163167084019239:=Nat;tw14220358017304559235:=Nat;tw14750878600836238892:=Nat;tw4662440169982705437:=Nat;tw12761438945647751795:=Nat;tw3748100988120585011:=Nat;tw6813987442180590454:=Nat;tw7217243824319647036:=Nat;tw16283036000070538287:=Nat;tw1940842980032523131:=Nat;tw4491011972990003438:=Nat;tw15763595923718628888:=Nat;tw15323407418038623477:=Nat;tw7393330613112318753:=Nat;tw9541897976533281022:=Nat;tw11435458531435110481:=Nat;tw14000706508611265715:=Nat;tw16938973109046718062:=Nat;tw5165928183734581606:=Nat;tw10918744445013461236:=Nat;tw13623219297625183696:=Nat
open PySem PySem.W PyProof.Rows L2 Mc
set_option hygiene false
local macro_rules | `(tactic| walk_at "mk_b") => `(tactic| first | exact fun _ _ _ _ _ _ => ln1 fun _ => rfl | exact fun _ _ _ _ _ _ => ln2 fun _ _ => rfl | exact fun _ _ _ _ _ _ => ln3 fun _ _ _ => rfl | exact fun _ _ _ _ _ _ => ln4 fun _ _ _ _ => rfl | exact fun _ _ _ _ _ _ => ln5 fun _ _ _ _ _ => rfl | exact fun _ _ _ _ _ _ => ln6 fun _ _ _ _ _ _ => rfl)
local macro_rules | `(tactic| walk_at "mk_v") => `(tactic| repeat (first | exact .nil | refine .cons ⟨_, rfl⟩ ?_))
local macro_rules | `(tactic| walk_at "mk_f") => `(tactic| repeat (first | exact .nil | refine .cons rfl rfl rfl ?_))
local macro_rules | `(tactic| walk_at "mkg") => `(tactic| (refine' IE KX G ?e9; (case e9 => k_is)))
local macro_rules | `(tactic| walk_at "mkd") => `(tactic| (refine' IG KX G ?e9 ?l9 ?c9 ?k9 ?b9; (case e9 => k_is); (case l9 => k_is); (case c9 => k_is); (case k9 => k_is); (case b9 => walk_at "mk_b")))
local macro_rules | `(tactic| walk_at "mka") => `(tactic| (show PySem.W.findIn _ _ _ = _; k_is))
local macro_rules | `(tactic| walk_at "mkn") => `(tactic| (refine' PySem.W.mg_none_of KX G ?e9; (case e9 => k_is)))
local macro_rules | `(tactic| walk_at "mks") => `(tactic| (refine' Gd ?l9 ?z9 ?v9; (case l9 => k_is); (case z9 => decide); (case v9 => walk_at "mk_v")))
local macro_rules | `(tactic| walk_at "mkt") => `(tactic| (refine' IF KX G ?e9 ?l9 ?z9 ?v9; (case e9 => k_is); (case l9 => k_is); (case z9 => decide); (case v9 => walk_at "mk_v")))
local macro_rules | `(tactic| walk_at "mkc") => `(tactic| (refine' Cls.mk ?a9 ?b9 ?c9 ?d9; (case a9 => k_is); (case b9 => k_is); (case c9 => k_is); (case d9 => k_is)))
local macro_rules | `(tactic| walk_at "mkm") => `(tactic| (refine' II ?e9 ?i9 ?l9 ?c9 ?k9 ?b9; (case e9 => k_is); (case i9 => k_is); (case l9 => k_is); (case c9 => k_is); (case k9 => k_is); (case b9 => walk_at "mk_b")))
local macro_rules | `(tactic| walk_at "mki") => `(tactic| (refine' IJ KX G ?a9 ?m9 ?n9 ?e9 ?i9 ?l9 ?c9 ?k9 ?b9; (case a9 => k_is); (case m9 => k_is); (case n9 => k_is); (case e9 => k_is); (case i9 => k_is); (case l9 => k_is); (case c9 => k_is); (case k9 => k_is); (case b9 => walk_at "mk_b")))
local macro_rules | `(tactic| walk_at "mkz") => `(tactic| (refine' IH KX G ?e9 ?l9 ?c9 ?k9 ?q9 ?b9; (case e9 => k_is); (case l9 => k_is); (case c9 => k_is); (case k9 => k_is); (case q9 => kernel_rfl); (case b9 => walk_at "mk_b")))
set_option maxRecDepth 100000 in
set_option maxHeartbeats 0 in
theorem PySem.Challenge.cw_monthsclosed_s01_answers_holds : PySem.Challenge.rw_monthsclosed_s01_answers.Holds := by
  have k : (2:Nat) < 3 := by decide +kernel
  have k := kW9
  w_on; k_headS; (case hw => exact ⟨[.list [.int 27]], by decide +kernel, by decide +kernel⟩)
  k_fillS
  refine L2.y6 (r := PySem.Challenge.rw_monthsclosed_s01_answers) (k := 11) (K := PySem.Challenge.cw_monthsclosed_s01_answers_holds.heap_1) (ps := ["calls"]) (sp := fun w TP => Mc.gL (PySem.Challenge.cw_monthsclosed_s01_answers_holds.heap_1 w.params) TP) (by decide +kernel) rfl ⟨rfl, by decide, by decide⟩ Mc.IL (fun w h Y => PySem.W.kIn_of Y) ?F ?S
  case F =>
    intro w mg mb mean fa h Y KX TT hmg
    have G := TT.g
    have T : Txt (PySem.Challenge.cw_monthsclosed_s01_answers_holds.heap_1 w.params) mg 156 177 205 254 463 302 := by constructor <;> first | walk_at "mkd" | walk_at "mkg" | walk_at "mkn" | walk_at "mka" | walk_at "mkt" | walk_at "mkc" | walk_at "mkm" | walk_at "mki" | walk_at "mkz" | kernel_rfl
    obtain ⟨fd, hb, hF⟩ := Mc.IK (P := PySem.Challenge.rw_monthsclosed_s01_answers.prog) (w := w) (FA := 743) (l := [(0, 744), (1, 745), (2, 746), (3, 747), (4, 748), (5, 749), (6, 750), (7, 751), (8, 752), (9, 753), (10, 754), (11, 755), (12, 756), (13, 757), (14, 758), (15, 759), (16, 760), (17, 762), (18, 763), (19, 764), (20, 765), (21, 766), (22, 767), (23, 768), (24, 769), (25, 770), (26, 771), (27, 772)]) T (by refine' Gc KX G ?e9; (case e9 => k_is)) (by repeat (first | exact .nil | refine .cons rfl (by walk_at "mks") ?_)) (fun base X => by refine' Fs X ?l9 ?f9 ?n9; (case l9 => k_is); (case f9 => walk_at "mk_f"); (case n9 => decide)) rfl hmg
    obtain ⟨e1, e2, e3⟩ := Mc.IP (c0 := 306) (TP := 302) TT KX (by kernel_rfl) (by kernel_rfl)
    exact ⟨fd, 306, 302, e1, e2, T.tp, e3, hb, hF⟩
  case S => exact fun w TP H xs a hO hwi hask hx hT => Mc.IM H xs a hO hwi hask hx hT
