import PyProof.Rows.All
import Wide.All
import OpenK.AllK
import Wide.FinOn
import Lean
import PyProof.EqAt
import PyProof.EqKinds
import PyProof.TupleCall
import KE.KSortTup
import OpenK.KRaise
import OpenK.KOwn
import PyProof.ExcBaseAll.ValueError
import KE.KIsAll
import PyProof.ExcAttrAll.ValueError
import PyProof.NsDelKeeps
import PyProof.RulesAs
import KE.KTryMore
import KE.KLam
import KE.KNestM
import OpenK.KEqL
import PyProof.Rows.EqDataRows
import PyProof.NeKinds
import PyProof.FactsAll.dict
import PyProof.FactsAll.subtypes
import PyProof.ListRange
import PyProof.TupleOfGen
import PyProof.TupleOfSeq
import KE.KTupSum
import PyProof.Rows.SumAny
import PyProof.Rows.SetFrom
import KE.KRevSl
import PyProof.WalksMore
import PyProof.SetRoads
import PySem.Challenge.RW_tiechances_k43_whole_cases
local macro_rules
|`(command|def $i:declId $s:optDeclSig $v)=>`(noncomputable def $i:declId $s:optDeclSig $v)
|`(command|abbrev $i:declId $s:optDeclSig $v)=>`(noncomputable abbrev $i:declId $s:optDeclSig $v)
open PySem.W (methodObj hideAll hideAll_get of_hideAll fnOf kia_one kitx_none kitx_bool kitx_int kitx_str kitx_tuple kitx_list kitx_dict kitAny kia_tup mg_of view)
open PySem.Heap (lt_size size_push)
open List (range filterMap_cons mem_cons_self mem_cons_of_mem mem_append_left mem_append_right append_nil of_mem_zip replicate length_take mem_of_getElem? length_append length_map size_toArray length_drop map_nil map_cons length_set reverse_cons replicate_succ flatten_cons foldl append_assoc lookup_cons forIn_cons toArray forIn_nil mem_cons not_mem_nil ext_getElem range' map_toArray length_nil nil_append take_of_length_le length_range zip_cons_cons length_cons mem_filter mem_range map_congr_left length_filter_le getElem_mem length_eraseIdx_of_lt isEmpty_nil map_id all_nil mapM_cons all_map all_eq_true pairwise_lt_range all_cons range_eq_range' range_succ filter_congr contains_iff_mem drop_length cons_append mem_append mem_singleton nodup_range map_id' filter_map contains_eq_mem)
open Array (length_toList toList getD size_map map_extract push extract setIfInBounds toArray_toList)
open Nat (ne_of_gt le_succ succ_le_succ zero_le le_add_right ble beq lt_succ_of_lt lt_succ_self zero_add mul_add)
open PyProof.Rows (lt_int)
open Int (toNat_natCast toNat_of_nonneg emod_nonneg emod_lt_of_pos gcd gcd_comm natCast_pow eq_ofNat_of_zero_le le_of_dvd mul_nonneg mul_le_mul mul_pos pow_add natAbs_mul mul_assoc add_mul one_mul)
open PySem.Builtin.Slice (sliceAdjust slicePlaces sliceApplied sliceFields)
open PySem.Builtin.Tuple (tupleItemsOf tupleExact tupleCompareSizes tupleTooMany tupleIsExact)
open Bool (and_eq_true false_eq_true not_eq_true' or_eq_true not_eq_false' not_inj_iff)
open Option (getD_none map_some map_eq_some_iff)
open PySem.Builtin.SmallTypes (nextOf ownedTupleIsFree ownedTupleHandOut)
set_option bootstrap.genMatcherCode false
set_option compiler.extract_closed false
set_option genInjectivity false
set_option genSizeOf false
set_option autoImplicit true
set_option relaxedAutoImplicit true
set_option Elab.async false
set_option linter.all false
set_option maxRecDepth 100000
namespace L2
open PySem PySem.Spec PyProof.Rows
abbrev Key:=Sum Int Str
def i82:Key→Value→Bool
 |.inl k,v=>Value.isInt k v
 |.inr x,v=>Value.isStrOf x v
def M62(w:World):Key→Int
 |.inl k=>hashInt k
 |.inr x=>hashStr w x
theorem d20:∀ {k:Key}{v:Value},i82 k v=true→(∃ i t,k=Sum.inl i∧v=Value.int i t)∨(∃ x t,k=Sum.inr x∧v=Value.str x t)
 |.inl i,v,h=>by
  obtain⟨t,e⟩:=Value.isInt_shape (k:=i) (v:=v) h
  exact .inl ⟨i,t,rfl,e⟩
 |.inr x,v,h=>by
  obtain⟨t,e⟩:=Value.isStrOf_shape (x:=x) (v:=v) h
  exact .inr ⟨x,t,rfl,e⟩
theorem i92(a b:Int):decide ((Sum.inl a:Key)=Sum.inl b)=(a == b):=by
 by_cases e:a=b
 ·subst e;simp
 ·have h:¬ (Sum.inl a:Key)=Sum.inl b:=λq=>e (Sum.inl.inj q)
  rw[decide_eq_false h]
  exact(beq_eq_false_iff_ne.mpr e).symm
theorem j02(a b:Str):decide ((Sum.inr a:Key)=Sum.inr b)=decide (a=b):=by
 by_cases e:a=b
 ·subst e;simp
 ·have h:¬ (Sum.inr a:Key)=Sum.inr b:=λq=>e (Sum.inr.inj q)
  rw[decide_eq_false h,decide_eq_false e]
theorem j12(a:Int)(b:Str):decide ((Sum.inl a:Key)=Sum.inr b)=false:=decide_eq_false (λq=>nomatch q)
theorem j22(a:Str)(b:Int):decide ((Sum.inr a:Key)=Sum.inl b)=false:=decide_eq_false (λq=>nomatch q)
def q71(prog:Program)(w:World):PySem.KeyKind prog w Key where
 is:=i82
 hash:=M62 w
 inj:=λv a b ha hb=>by
  rcases d20 ha with ⟨i,t,rfl,rfl⟩ | ⟨x,t,rfl,rfl⟩
  ·rcases d20 hb with ⟨j,u,rfl,e⟩ | ⟨y,u,rfl,e⟩
   ·injection e with e1 _;rw[e1]
   ·exact nomatch e
  ·rcases d20 hb with ⟨j,u,rfl,e⟩ | ⟨y,u,rfl,e⟩
   ·exact nomatch e
   ·injection e with e1 _;rw[e1]
 byValue:=λk v h=>by
  rcases d20 h with ⟨i,t,rfl,rfl⟩ | ⟨x,t,rfl,rfl⟩ <;> rfl
 pyHash:=λhv h=>by
  rcases d20 hv with ⟨i,t,rfl,rfl⟩ | ⟨x,t,rfl,rfl⟩
  ·exact wpAny_pyHash_int h
  ·exact wpAny_pyHash_str h
 eqBool:=λhu hv h=>by
  rcases d20 hu with ⟨i,t,rfl,rfl⟩ | ⟨x,t,rfl,rfl⟩
  ·rcases d20 hv with ⟨j,u,rfl,rfl⟩ | ⟨y,u,rfl,rfl⟩
   ·rw[i92] at h;exact wpAny_eqBool_int h
   ·rw[j12] at h;exact SeqAt.EqAt.int_str i t y u _ _ _ _ h
  ·rcases d20 hv with ⟨j,u,rfl,rfl⟩ | ⟨y,u,rfl,rfl⟩
   ·rw[j22] at h;exact SeqAt.EqAt.str_int x t j u _ _ _ _ h
   ·rw[j02] at h;exact wpAny_eqBool_str h
 «strs»:=λk x t v h=>by
  rcases d20 h with ⟨i,u,rfl,e⟩ | ⟨y,u,rfl,e⟩
  ·exact nomatch e
  ·injection e with e1 _
   subst e1
   cases v <;> rfl
inductive V where
 |non | bl (b:Bool) | int (i:Int) | str (x:Str) | byt (b:Array UInt8) | flt (b:UInt64) | ref (a:Addr) | ty (n:String)
 deriving DecidableEq
def RelV:V→Value→Prop
 |.non,u=>u=Value.none
 |.bl b,u=>u=Value.bool b
 |.int i,u=>∃ t,u=Value.int i t
 |.str x,u=>∃ t,u=Value.str x t
 |.byt b,u=>∃ t,u=Value.bytes b t
 |.flt b,u=>∃ t,u=Value.float b t
 |.ref a,u=>u=Value.ref a
 |.ty n,u=>u=Value.type n
abbrev Vals:List V→List Value→Prop:=Paired RelV
theorem Vals.length{xs:List V}{us:List Value}(r:Vals xs us):xs.length=us.length:=Paired.length r
theorem Vals.get:∀ {xs:List V}{us:List Value}{i:Nat}{x:V},Vals xs us→xs[i]?=some x→∃ u,us[i]?=some u∧RelV x u
 |_,_,_,_,.nil,e=>by simp at e
 |_,_,0,_,.cons r _,e=>by simp at e;subst e;exact⟨_,rfl,r⟩
 |_,_,i + 1,x,.cons _ t,e=>by
  obtain⟨u,h1,h2⟩:=Vals.get (i:=i) (x:=x) t (by simpa using e)
  exact⟨u,by simpa using h1,h2⟩
theorem Vals.set(r:RelV x u):∀ {xs:List V}{us:List Value} (i:Nat),Vals xs us→Vals (xs.set i x) (us.set i u)
 |_,_,_,.nil=>.nil
 |_,_,0,.cons _ t=>.cons r t
 |_,_,i + 1,.cons q t=>.cons q (Vals.set r i t)
theorem Vals.append:∀ {xs ys:List V}{us ws:List Value},Vals xs us→Vals ys ws→Vals (xs++ys) (us++ws)
 |_,_,_,_,.nil,s=>s
 |_,_,_,_,.cons r t,s=>.cons r (Vals.append t s)
theorem Vals.take:∀ {xs:List V}{us:List Value} (n:Nat),Vals xs us→Vals (xs.take n) (us.take n)
 |_,_,0,_=>.nil
 |_,_,_ + 1,.nil=>.nil
 |_,_,n + 1,.cons r t=>.cons r (Vals.take n t)
theorem Vals.drop:∀ {xs:List V}{us:List Value} (n:Nat),Vals xs us→Vals (xs.drop n) (us.drop n)
 |_,_,0,r=>r
 |_,_,_ + 1,.nil=>.nil
 |_,_,n + 1,.cons _ t=>Vals.drop n t
def J42:Option V→Option Value→Prop
 |some v,some u=>RelV v u
 |none,none=>True
 |_,_=>False
def KV{κ:Type}:List (κ × V)→List (κ × Value)→Prop:=Paired λ(p:κ × V) (q:κ × Value)=>p.1=q.1∧RelV p.2 q.2
def kV:Key→V
 |.inl i=>.int i
 |.inr x=>.str x
inductive HO where
 |lst (xs:List V)
 |tup (xs:List V)
 |dK (kvs:List (Key × V)) | dT (kvs:List (List Key × V))
 |set (S:Int→Bool) (n:Nat)
 |ins (C dx:Addr) (fs:List (Str × V))
 |own (x:Addr)
 |xd (fs:List (Str × V))
 |met (f x:Addr)
 |rng (lo hi:Int)
 |frz (o:Obj) (u:HO)
 |tbl (ps:Array Value)
 |ext (φ:Heap→Prop)
abbrev Hp:=Addr→Option HO
def upd(H:Hp)(a:Addr)(o:HO):Hp:=λb=>if b=a then some o else H b
theorem c70:upd H a o a=some o:=by unfold upd;rw[if_pos rfl]
theorem a50(h:b≠a):upd H a o b=H b:=by unfold upd;rw[if_neg h]
theorem b60{H:Hp}{a b:Addr}{o:HO}(h:H a=some o)(h':H b=none):a≠b:=by
 intro e;subst e;rw[h] at h';cases h'
section
variable (P:Program) (w:World)
def j20(H:Hp)(h:Heap)(a:Addr):HO→Prop
 |.lst xs=>xs.length≤sizeLine∧∃ (its:List Value) (n:Nat),Vals xs its∧h.get? a=some { cls:=.type "list",data:=.seq its.toArray n }
 |.tup xs=>xs.length≤sizeLine∧∃ its:List Value,Vals xs its∧IsTup h a its.toArray
 |.dK kvs=>kvs.length≤sizeLine∧(a == sysModules)=false∧∃ vs,KV kvs vs∧h.DictOf (q71 P w) a vs
 |.dT kvs=>kvs.length≤sizeLine∧(a == sysModules)=false∧∃ xs:List (List Key × Addr × Value),
   Paired (λ(p:List Key × V) (q:List Key × Addr × Value)=>p.1=q.1∧H q.2.1=some (.tup (p.1.map kV))∧RelV p.2 q.2.2) kvs xs ∧
   ∃ o es ep,h.get? a=some o∧o.ExactDict∧o.data=.dict es ep∧es.toList=xs.map (entryOfKey (tupleKind (q71 P w)))∧(xs.map (·.1)).Nodup
 |.set S n=>h.SetOf (intKind P w) a S n
 |.ins C dx fs=>H dx=some (.own a)∧fs.length≤1000∧dx≠a∧h.get? a=some (PySem.W.instObj C dx) ∧
   ∃ mA,h.Ns1 dx mA∧(∀ f,J42 (fs.lookup f) (mA f))∧PySem.Within mA (fs.map (·.1))
 |.own _=>∃ o,h.get? a=some o
 |.xd fs=>∃ mA,h.Ns1 a mA∧∀ f,J42 (fs.lookup f) (mA f)
 |.rng lo hi=>∃ t u v,h.get? a=some { cls:=.type "range",data:=.fields #[.int lo t,.int hi u,.int 1 v] }
 |.frz o u=>h.get? a=some o∧j20 H h a u
 |.tbl ps=>h.get? a=some { cls:=.none,data:=.fields ps }
 |.met f x=>h.get? a=some (methodObj (.ref f) (.ref x))
 |.ext φ=>φ h∧(∃ o,h.get? a=some o)∧∀ h1 h2:Heap,φ h1→(∀ o,h1.get? a=some o→h2.get? a=some o)→φ h2
def HOk(H:Hp)(h:Heap):Prop:=∀ a o,H a=some o→j20 P w H h a o
end
section
variable {P:Program}{w:World}{H H':Hp}{h h':Heap}{a:Addr}{o:HO}
theorem j20.lt(x:j20 P w H h a o):a < h.objs.size:=by
 cases o with
 |lst xs=>obtain⟨_,_,_,_,e⟩:=x;exact lt_size e
 |tup xs=>obtain⟨_,_,_,p⟩:=x;exact p.lt
 |dK kvs=>obtain⟨_,_,_,_,o,_,_,e,_⟩:=x;exact lt_size e
 |dT kvs=>obtain⟨_,_,_,_,o,_,_,e,_⟩:=x;exact lt_size e
 |set S n=>obtain⟨o,_,_,_,e,_⟩:=x;exact lt_size e
 |ins C dx fs=>obtain⟨_,_,_,e,_⟩:=x;exact lt_size e
 |own y=>obtain⟨_,e⟩:=x;exact lt_size e
 |xd fs=>obtain⟨_,⟨_,_,_,e,_⟩,_⟩:=x;exact lt_size e
 |rng lo hi=>obtain⟨_,_,_,e⟩:=x;exact lt_size e
 |frz ob u=>obtain⟨e,_⟩:=x;exact lt_size e
 |tbl ps=>exact lt_size (show h.get? a=some _ from x)
 |met f y=>exact lt_size (show h.get? a=some _ from x)
 |ext φ=>obtain⟨_,⟨_,e⟩,_⟩:=x;exact lt_size e
theorem Paired.h32{α β:Type}{F G:α→β→Prop}:∀ {l₁:List α}{l₂:List β},Paired F l₁ l₂→(∀ a b,F a b→G a b)→Paired G l₁ l₂
 |_,_,.nil,_=>.nil
 |_,_,.cons r t,f=>.cons (f _ _ r) (Paired.h32 t f)
theorem j20.u90(x:j20 P w H h a o)(k:∀ b u,(b=a∨H b=some (.own a))→h.get? b=some u→h'.get? b=some u)
  (ho:∀ b,H b=some (.own a)→H' b=some (.own a)) (ht:∀ b xs,H b=some (.tup xs)→H' b=some (.tup xs)):j20 P w H' h' a o:=by
 induction o with
 |lst xs=>obtain⟨z,its,n,r,e⟩:=x;exact⟨z,its,n,r,k _ _ (.inl rfl) e⟩
 |tup xs=>obtain⟨z,its,r,ob,e,c⟩:=x;exact⟨z,its,r,ob,k _ _ (.inl rfl) e,c⟩
 |dK kvs=>obtain⟨z,y,vs,r,ob,es,ep,e,c⟩:=x;exact⟨z,y,vs,r,ob,es,ep,k _ _ (.inl rfl) e,c⟩
 |dT kvs =>
  obtain⟨z,y,xs,r,ob,es,ep,e,c⟩:=x
  exact⟨z,y,xs,Paired.h32 r λp q z=>⟨z.1,ht _ _ z.2.1,z.2.2⟩,ob,es,ep,k _ _ (.inl rfl) e,c⟩
 |set S n=>obtain⟨ob,es,ep,t,e,c⟩:=x;exact⟨ob,es,ep,t,k _ _ (.inl rfl) e,c⟩
 |ins C dx fs =>
  obtain⟨d,z,ne,e,mA,⟨od,es,ep,e2,c⟩,r⟩:=x
  exact⟨ho _ d,z,ne,k _ _ (.inl rfl) e,mA,⟨od,es,ep,k _ _ (.inr d) e2,c⟩,r⟩
 |own y=>obtain⟨ob,e⟩:=x;exact⟨ob,k _ _ (.inl rfl) e⟩
 |xd fs=>obtain⟨mA,⟨od,es,ep,e,c⟩,r⟩:=x;exact⟨mA,⟨od,es,ep,k _ _ (.inl rfl) e,c⟩,r⟩
 |rng lo hi=>obtain⟨t,u,v,e⟩:=x;exact⟨t,u,v,k _ _ (.inl rfl) e⟩
 |frz ob u ih=>obtain⟨e,q⟩:=x;exact⟨k _ _ (.inl rfl) e,ih q⟩
 |tbl ps =>
  have e:h.get? a=some { cls:=.none,data:=.fields ps }:=x
  show h'.get? a=some { cls:=.none,data:=.fields ps }
  exact k a _ (.inl rfl) e
 |met f y =>
  have e:h.get? a=some (methodObj (.ref f) (.ref y)):=x
  show h'.get? a=some (methodObj (.ref f) (.ref y))
  exact k a _ (.inl rfl) e
 |ext φ=>obtain⟨p,⟨o,e⟩,st⟩:=x;exact⟨st _ _ p λo q=>k _ _ (.inl rfl) q,⟨o,k _ _ (.inl rfl) e⟩,st⟩
theorem HOk.lt(x:HOk P w H h)(e:H a=some o):a < h.objs.size:=(x a o e).lt
theorem HOk.fresh(x:HOk P w H h)(e:h.objs.size≤a):H a=none:=by
 cases q:H a with
 |none=>rfl
 |some u=>exact absurd (Nat.lt_of_lt_of_le (x.lt q) e) (Nat.lt_irrefl _)
theorem HOk.kept(x:HOk P w H h)(k:∀ b u,h.get? b=some u→h'.get? b=some u):HOk P w H h':=λa o e =>
 (x a o e).u90 (λb u _ q=>k b u q) (λ_ q=>q) λ_ _ q=>q
theorem HOk.laid(x:HOk P w H h)(k:∀ b u,h.get? b=some u→h'.get? b=some u)(hp:h.objs.size≤a)(new:j20 P w (upd H a o) h' a o):HOk P w (upd H a o) h':=λb u e=>by
 have hn:=x.fresh hp
 by_cases hb:b=a
 ·subst hb;rw[c70] at e;cases e;exact new
 ·rw[a50 hb] at e
  exact(x b u e).u90 (λc v _ q=>k c v q) (λc q=>by rw[a50 (b60 q hn)];exact q) λc xs q=>by rw[a50 (b60 q hn)];exact q
end
def Rd(H:Hp)(a:Addr)(u:HO):Prop:=H a=some u∨∃ o,H a=some (.frz o u)
theorem Rd.ok(r:Rd H a u)(x:HOk P w H h):j20 P w H h a u:=by
 rcases r with r | ⟨o,r⟩
 ·exact x a u r
 ·obtain⟨_,q⟩:=x a _ r
  exact q
def Mut:Option HO→Prop
 |some (.lst _)=>True
 |some (.dK _)=>True
 |some (.dT _)=>True
 |some (.set _ _)=>True
 |some (.ins _ _ _)=>True
 |some (.ext _)=>True
 |_=>False
section
variable {P:Program}{w:World}{H:Hp}{h h':Heap}{x e:Addr}{o':HO}
theorem HOk.write(ok:HOk P w H h)(mu:Mut (H x))(he:e=x∨H e=some (.own x))(k:∀ b u,b≠e→h.get? b=some u→h'.get? b=some u)(heo:∃ u,h'.get? e=some u)
  (new:j20 P w (upd H x o') h' x o'):HOk P w (upd H x o') h':=λb u q=>by
 have nown:∀ c y,H c=some (.own y)→c≠x:=λc y r z=>by subst z;rw[r] at mu;exact mu
 have ntup:∀ c xs,H c=some (.tup xs)→c≠x:=λc xs r z=>by subst z;rw[r] at mu;exact mu
 by_cases hb:b=x
 ·subst hb;rw[c70] at q;cases q;exact new
 ·rw[a50 hb] at q
  by_cases hbe:b=e
  ·have q':H b=some (.own x):=by
    rcases he with z | z
    ·exact absurd (hbe.trans z) hb
    ·rw[hbe];exact z
   rw[q] at q';cases q'
   obtain⟨v,hv⟩:=heo
   exact⟨v,by rw[hbe];exact hv⟩
  ·refine(ok b u q).u90 (λc v hc r=>k c v ?_ r) (λc r=>by rw[a50 (nown c b r)];exact r) λc xs r=>by rw[a50 (ntup c xs r)];exact r
   rcases hc with rfl | hc
   ·exact hbe
   ·rintro rfl
    rcases he with z | z
    ·exact nown c b hc z
    ·rw[hc] at z;cases z;exact hb rfl
end
structure Un(fs ex:List Addr)(H H':Hp)(h h':Heap):Prop where
 keep:∀ b o,h.get? b=some o→H b=none→b ∉ fs→b ∉ ex→h'.get? b=some o
 slot:∀ b o,h.get? b=some o→H b=none→b∈fs→b ∉ ex→∃ sl,h'.get? b=some { o with slots:=sl }
 free:∀ b o,h.get? b=some o→H b=none→b ∉ ex→H' b=none
 there:∀ b o,h.get? b=some o→b ∉ ex→∃ o',h'.get? b=some o'
 tups:∀ b xs,H b=some (.tup xs)→H' b=some (.tup xs)
 frzs:∀ b o u,H b=some (.frz o u)→H' b=some (.frz o u)
 tbls:∀ b ps,H b=some (.tbl ps)→∃ more,H' b=some (.tbl (ps++more))
section
variable {fs fs' ex ex':List Addr}{H H1 H2:Hp}{h h1 h2 h':Heap}{a x e:Addr}{o:HO}
theorem Un.any(u:Un fs ex H H1 h h1){b:Addr}{ob:Obj}(q:h.get? b=some ob)(n:H b=none)(hx:b ∉ ex):∃ sl,h1.get? b=some { ob with slots:=sl }:=by
 by_cases hb:b∈fs
 ·exact u.slot b ob q n hb hx
 ·exact⟨ob.slots,u.keep b ob q n hb hx⟩
theorem Un.trans(a:Un fs ex H H1 h h1)(b:Un fs ex H1 H2 h1 h2):Un fs ex H H2 h h2 where
 keep:=λc ob q n hc hx=>b.keep c ob (a.keep c ob q n hc hx) (a.free c ob q n hx) hc hx
 slot:=λc ob q n hc hx=>by
  obtain⟨sl,e1⟩:=a.slot c ob q n hc hx
  obtain⟨sl',e2⟩:=b.slot c _ e1 (a.free c ob q n hx) hc hx
  exact⟨sl',e2⟩
 free:=λc ob q n hx=>by
  obtain⟨o',e1⟩:=a.there c ob q hx
  exact b.free c o' e1 (a.free c ob q n hx) hx
 there:=λc ob q hx=>by
  obtain⟨o',e1⟩:=a.there c ob q hx
  exact b.there c o' e1 hx
 tups:=λc xs q=>b.tups c xs (a.tups c xs q)
 frzs:=λc ob xs q=>b.frzs c ob xs (a.frzs c ob xs q)
 tbls:=λc ps q=>by
  obtain⟨m1,e1⟩:=a.tbls c ps q
  obtain⟨m2,e2⟩:=b.tbls c _ e1
  exact⟨m1++m2,by rw[e2,Array.append_assoc]⟩
theorem Un.kept(k:∀ b u,h.get? b=some u→h'.get? b=some u):Un fs ex H H h h' :=
 ⟨λb ob q _ _ _=>k b ob q,λb ob q _ _ _=>⟨ob.slots,k b ob q⟩,λ_ _ _ n _=>n,λb ob q _=>⟨ob,k b ob q⟩,λ_ _ q=>q,λ_ _ _ q=>q,λ_ ps q=>⟨#[],by rw[q];simp⟩⟩
theorem Un.refl:Un fs ex H H h h:=Un.kept λ_ _ q=>q
theorem Un.laid(k:∀ b u,h.get? b=some u→h'.get? b=some u)(hp:h.objs.size≤a)(hn:H a=none):Un fs ex H (upd H a o) h h' where
 keep:=λb u q _ _ _=>k b u q
 slot:=λb u q _ _ _=>⟨u.slots,k b u q⟩
 free:=λb u q n _=>by rw[a50 (Nat.ne_of_lt (Nat.lt_of_lt_of_le (lt_size q) hp))];exact n
 there:=λb u q _=>⟨u,k b u q⟩
 tups:=λb xs q=>by rw[a50 (b60 q hn)];exact q
 frzs:=λb u xs q=>by rw[a50 (b60 q hn)];exact q
 tbls:=λb ps q=>⟨#[],by rw[a50 (b60 q hn),q];simp⟩
theorem Un.write(mu:Mut (H x))(he:e=x∨H e=some (.own x))(k:∀ b u,b≠e→h.get? b=some u→h'.get? b=some u)(heo:∃ u,h'.get? e=some u):Un fs ex H (upd H x o) h h':=by
 have hx:∀ b,H b=none→b≠x:=λb n z=>by subst z;rw[n] at mu;exact mu
 have hb:∀ b,H b=none→b≠e:=λb n z=>by
  subst z
  rcases he with r | r
  ·exact hx b n r
  ·rw[n] at r;cases r
 have hm:∀ b u,H b=some u→¬ Mut (some u)→b≠x:=λb u q nm z=>by subst z;rw[q] at mu;exact nm mu
 refine⟨λb u q n _ _=>k b u (hb b n) q,λb u q n _ _=>⟨u.slots,k b u (hb b n) q⟩,λb u q n _=>by rw[a50 (hx b n)];exact n,λb u q _=>?_,
  λb xs q=>by rw[a50 (hm b _ q λz=>z)];exact q,λb u xs q=>by rw[a50 (hm b _ q λz=>z)];exact q,λb ps q=>⟨#[],by rw[a50 (hm b _ q λz=>z),q];simp⟩⟩
 by_cases hbe:b=e
 ·subst hbe;exact heo
 ·exact⟨u,k b u hbe q⟩
theorem Un.mono(u:Un fs ex H H1 h h1)(hs:∀ b∈fs,b∈fs')(hx:∀ b∈ex,b∈ex'):Un fs' ex' H H1 h h1 :=
 ⟨λb ob q n hb he=>u.keep b ob q n (λz=>hb (hs b z)) λz=>he (hx b z),λ_ _ q n _ he=>u.any q n λz=>he (hx _ z),λb ob q n he=>u.free b ob q n λz=>he (hx b z),λb ob q he=>u.there b ob q λz=>he (hx b z),u.tups,u.frzs,u.tbls⟩
end
def trk(h:Heap)(H:Hp):List Addr:=(range h.objs.size).filter λa=>(H a).isSome
def G71(h:Heap)(H:Hp):Heap:=hideAll h (trk h H)
theorem q81(h:Heap)(H:Hp):(G71 h H).objs.size=h.objs.size:=PySem.W.hideAll_size _ _
theorem K00(e:h.get? b=some o)(n:H b=none):(G71 h H).get? b=some o :=
 hideAll_get _ e λhm=>by
  have q:(H b).isSome=true:=(List.mem_filter.mp hm).2
  rw[n] at q;simp at q
theorem U21(e:(G71 h H).get? b=some o):h.get? b=some o∧H b=none:=by
 have e':h.get? b=some o:=of_hideAll (trk h H) e
 refine⟨e',?_⟩
 cases q:H b with
 |none=>rfl
 |some x =>
  have hm:b∈trk h H:=List.mem_filter.mpr ⟨List.mem_range.mpr (lt_size e'),by simp[q]⟩
  have z:(G71 h H).get? b=none:=PySem.W.hideAll_none (trk h H) hm
  rw[z] at e;cases e
structure Mod(K:PySem.W.Frag)(mg:Str→Option Value)(base:Heap):Prop where
 kin:K.In base
 glob:base.Ns mainGlobals mg
 blt:∃ mb,base.Ns builtinsNs mb∧∀ x:Str,x≠"__name__"→mb x=bootBuiltins x
 nolimit:base.NoLimit
structure Cx where
 prog:Program
 w:World
 K:PySem.W.Frag
 mg:Str→Option Value
 base:Heap
 A:Around
 N:List Str
 s₀:Shared
 H₀:Hp
 env:Env
 outer:List Env
 stack:List Env
 ex:List Addr
 fn:Str→Bool
 calm:Bool
 pn:List (Addr × Obj)
 xe:Value→Shared→Prop
def frs(l:List Env):List Addr:=l.filterMap (·.frame)
abbrev Cx.fs(X:Cx):List Addr:=frs X.outer
def Vis(sc:Scope)(x:Str):Prop:=sc.names.lookup x=some .local∨sc.names.lookup x=some .cell∨sc.names.lookup x=some .free
def Loc(sc:Scope)(x:Str):Prop:=sc.names.lookup x=some .local∨sc.names.lookup x=some .cell
def Look(env:Env)(h:Heap)(m:Str→Option Value)(x:Str)(u:Value):Prop :=
 (env.kindOf x=some .local∧m x=some u)∨((env.kindOf x=some .cell∨env.kindOf x=some .free)∧∃ c,env.cells.lookup x=some c∧h.IsCell c (some u))
structure Cx.Ok(X:Cx):Prop where
 mod:Mod X.K X.mg X.base
 kind:X.env.scope.kind=.function
 glob:X.env.globals=mainGlobals
 blt:X.env.builtins=builtinsNs
 above:X.s₀.heap.objs.size≤X.env.locals
 inj:∀ x y c,X.env.cells.lookup x=some c→X.env.cells.lookup y=some c→x=y
 has:∀ x,(X.env.kindOf x=some .cell∨X.env.kindOf x=some .free)→∃ c,X.env.cells.lookup x=some c
 cab:∀ x c,X.fn x=true→X.env.cells.lookup x=some c→X.s₀.heap.objs.size≤c
 hd:X.calm=true→X.A.handled=none
 frames:X.A.frames=some X.stack
 stk:X.stack=X.outer∨(X.stack=X.env::X.outer∧X.env.frame=some X.env.locals)
 exf:∀ b∈X.ex,b≠X.env.locals∧∀ x c,X.env.cells.lookup x=some c→c≠b
 bs:∀ b o,X.base.get? b=some o→X.s₀.heap.get? b=some o∧X.H₀ b=none
 bsz:X.base.objs.size≤X.s₀.heap.objs.size
 noex:∀ b o,X.base.get? b=some o→b ∉ X.ex
 exfs:∀ b∈X.ex,b ∉ X.fs
 G31:X.s₀.heap.FunFrames X.base X.outer
 frf:∀ b∈X.fs,X.H₀ b=none
structure Inv(X:Cx)(pins:List (Addr × Obj))(σ:List (Option V))(H:Hp)(s:Shared):Prop where
 ok:X.Ok
 os:s.os=X.s₀.os
 bare:AllBare s.gens
 base:Un X.fs X.ex X.H₀ H X.s₀.heap s.heap
 loc:∃ m,s.heap.Ns X.env.locals m∧∀ (i:Nat) (x:Str) (v:V),X.N[i]?=some x→σ[i]?=some (some v)→Vis X.env.scope x→∃ u,RelV v u∧Look X.env s.heap m x u
 cell:∀ x c,X.env.cells.lookup x=some c→∃ v,s.heap.IsCell c v
 free:H X.env.locals=none
 freeC:∀ x c,X.env.cells.lookup x=some c→H c=none
 pin:∀ p∈X.pn++pins,s.heap.get? p.1=some p.2∧H p.1=none∧p.1≠X.env.locals∧p.1 ∉ X.fs∧∀ v,p.2.data≠.cell v
 hok:HOk X.prog X.w H s.heap
 len:σ.length=X.N.length
section
variable {X:Cx}{pins:List (Addr × Obj)}{σ:List (Option V)}{H H':Hp}{s:Shared}{h':Heap}
theorem Cx.Ok.M72(ok:X.Ok)(e:X.base.get? b=some o):b ∉ X.fs:=λhb=>by
 have:=(ok.G31.mem hb).1
 rw[e] at this;cases this
theorem Inv.bs(I:Inv X pins σ H s):∀ b o,X.base.get? b=some o→s.heap.get? b=some o∧H b=none:=λb o e =>
 ⟨I.base.keep b o (I.ok.bs b o e).1 (I.ok.bs b o e).2 (I.ok.M72 e) (I.ok.noex b o e),I.base.free b o (I.ok.bs b o e).1 (I.ok.bs b o e).2 (I.ok.noex b o e)⟩
theorem Inv.bk(I:Inv X pins σ H s):∀ b o,X.base.get? b=some o→s.heap.get? b=some o:=λb o e=>(I.bs b o e).1
theorem Inv.mod(I:Inv X pins σ H s):Mod X.K X.mg X.base:=I.ok.mod
theorem Inv.kIn(I:Inv X pins σ H s):X.K.In s.heap:=I.ok.mod.kin.keeps I.bk
theorem Inv.lt(I:Inv X pins σ H s):X.env.locals < s.heap.objs.size:=let ⟨_,hn,_⟩:=I.loc;hn.lt
theorem Inv.sz(I:Inv X pins σ H s):X.s₀.heap.objs.size≤s.heap.objs.size:=Nat.le_trans I.ok.above (Nat.le_of_lt I.lt)
theorem Inv.M82(I:Inv X pins σ H s)(h:s.heap.objs.size≤a):a ∉ X.fs:=λhb=>by
 obtain⟨_,o,ho,_⟩:=I.ok.G31.mem hb
 exact absurd (Nat.lt_of_lt_of_le (lt_size ho) (Nat.le_trans I.sz h)) (Nat.lt_irrefl _)
theorem Inv.cne(I:Inv X pins σ H s):∀ x c,X.env.cells.lookup x=some c→c≠X.env.locals:=λx c e z=>by
 obtain⟨v,o,ho,hd⟩:=I.cell x c e
 obtain⟨m,⟨o',es,ep,ho',hd',_⟩,_⟩:=I.loc
 rw[z,ho'] at ho;cases ho;rw[hd'] at hd;cases hd
theorem Inv.G31(I:Inv X pins σ H s):s.heap.FunFrames X.base X.outer:=by
 have all:∀ (l:List Env),(∀ b∈frs l,b∈X.fs)→X.s₀.heap.FunFrames X.base l→s.heap.FunFrames X.base l:=by
  intro l
  induction l with
  |nil=>intro _ _;trivial
  |cons env r ih =>
   intro hs hl
   obtain⟨hk,⟨L,o,hf,hn,ho,hd⟩,hr⟩:=hl
   have hL:L∈X.fs:=hs L (by unfold frs;rw[filterMap_cons,hf];exact mem_cons_self)
   obtain⟨sl,e⟩:=I.base.slot L o ho (I.ok.frf L hL) hL λz=>I.ok.exfs L z hL
   exact⟨hk,⟨L,_,hf,hn,e,hd⟩,ih (λb hb=>hs b (by unfold frs;rw[filterMap_cons,hf];exact mem_cons_of_mem _ hb)) hr⟩
 exact all X.outer (λ_ hb=>hb) I.ok.G31
theorem Inv.stack(I:Inv X pins σ H s):s.heap.FunFrames X.base X.stack:=by
 rcases I.ok.stk with e | ⟨e,hf⟩
 ·rw[e];exact I.G31
 ·rw[e]
  obtain⟨m,hn,_⟩:=I.loc
  refine .cons (by rw[I.ok.kind];decide) hf hn ?_ I.G31
  exact Heap.get?_none_of_le (Nat.le_trans I.ok.bsz I.ok.above)
theorem Inv.q91(I:Inv X pins σ H s):∀ b∈frs X.stack,b∈X.env.locals::X.fs:=λb hb=>by
 rcases I.ok.stk with e | ⟨e,hf⟩
 ·rw[e] at hb;exact mem_cons_of_mem _ hb
 ·rw[e] at hb
  unfold frs at hb
  rw[filterMap_cons,hf] at hb
  exact hb
theorem Inv.Z20(I:Inv X pins σ H s):∀ b∈frs X.stack,H b=none:=λb hb=>by
 rcases List.mem_cons.mp (I.q91 b hb) with e | hb
 ·rw[e];exact I.free
 ·obtain⟨_,o,ho,_⟩:=I.ok.G31.mem hb
  exact I.base.free b o ho (I.ok.frf b hb) λz=>I.ok.exfs b z hb
theorem Inv.step{g':Array GenState}{t':Nat}{d':Drawn}{ch:List Addr}(I:Inv X pins σ H s)
  (hch:∀ b∈ch,(b∈X.ex∨X.s₀.heap.objs.size≤b)∧b≠X.env.locals∧(∀ x c,X.env.cells.lookup x=some c→c≠b)∧∀ p∈X.pn++pins,p.1≠b)
  (keep:∀ b o,b≠X.env.locals→b ∉ X.fs→b ∉ ch→s.heap.get? b=some o→H b=none→h'.get? b=some o)
  (slot:∀ b o,b≠X.env.locals→b∈X.fs→b ∉ ch→s.heap.get? b=some o→H b=none→∃ sl,h'.get? b=some { o with slots:=sl }) (free:∀ b o,b ∉ ch→s.heap.get? b=some o→H b=none→H' b=none)
  (there:∀ b o,b ∉ ch→s.heap.get? b=some o→∃ o',h'.get? b=some o')
  (tups:∀ b xs,H b=some (.tup xs)→H' b=some (.tup xs)) (frzs:∀ b o u,H b=some (.frz o u)→H' b=some (.frz o u)) (tbls:∀ b ps,H b=some (.tbl ps)→∃ more,H' b=some (.tbl (ps++more)))
  (ns:∀ m,s.heap.Ns X.env.locals m→h'.Ns X.env.locals m) (hok:HOk X.prog X.w H' h') (hg:AllBare g') :
  Inv X pins σ H' { s with heap:=h',gens:=g',drawn:=d',toks:=t' }:=by
 have neL:∀ b o,X.s₀.heap.get? b=some o→b≠X.env.locals:=λb o e=>Nat.ne_of_lt (Nat.lt_of_lt_of_le (lt_size e) I.ok.above)
 have neC:∀ b o,X.s₀.heap.get? b=some o→b ∉ X.ex→b ∉ ch:=λb o e hx hb=>by
  rcases (hch b hb).1 with z | z
  ·exact hx z
  ·exact absurd (Nat.lt_of_lt_of_le (lt_size e) z) (Nat.lt_irrefl _)
 have cellK:∀ x c,X.env.cells.lookup x=some c→∀ v,s.heap.IsCell c v→h'.IsCell c v:=λx c e v ⟨o,ho,hd⟩=>by
  have nch:c ∉ ch:=λz=>(hch c z).2.2.1 x c e rfl
  by_cases hc:c∈X.fs
  ·obtain⟨sl,q⟩:=slot c o (I.cne x c e) hc nch ho (I.freeC x c e)
   exact⟨_,q,hd⟩
  ·exact⟨o,keep c o (I.cne x c e) hc nch ho (I.freeC x c e),hd⟩
 refine⟨I.ok,I.os,hg,⟨λb o e n hb hx=>?_,λb o e n hb hx=>?_,λb o e n hx=>?_,λb o e hx=>?_,λb xs e=>tups b xs (I.base.tups b xs e),λb o xs e=>frzs b o xs (I.base.frzs b o xs e),λb ps e=>?_⟩,?_,λx c e=>?_,?_,λx c e=>?_,λp hp=>?_,hok,I.len⟩
 ·exact keep b o (neL b o e) hb (neC b o e hx) (I.base.keep b o e n hb hx) (I.base.free b o e n hx)
 ·obtain⟨sl,e1⟩:=I.base.slot b o e n hb hx
  obtain⟨sl',e2⟩:=slot b _ (neL b o e) hb (neC b o e hx) e1 (I.base.free b o e n hx)
  exact⟨sl',e2⟩
 ·obtain⟨o',e1⟩:=I.base.there b o e hx
  exact free b o' (neC b o e hx) e1 (I.base.free b o e n hx)
 ·obtain⟨o',e1⟩:=I.base.there b o e hx
  exact there b o' (neC b o e hx) e1
 ·obtain⟨m1,e1⟩:=I.base.tbls b ps e
  obtain⟨m2,e2⟩:=tbls b _ e1
  exact⟨m1++m2,by rw[e2,Array.append_assoc]⟩
 ·obtain⟨m,hn,hl⟩:=I.loc
  refine⟨m,ns m hn,λi x v e1 e2 e3=>?_⟩
  obtain⟨u,r,l⟩:=hl i x v e1 e2 e3
  refine⟨u,r,?_⟩
  rcases l with l | ⟨k,c,e,z⟩
  ·exact .inl l
  ·exact .inr ⟨k,c,e,cellK x c e _ z⟩
 ·obtain⟨v,z⟩:=I.cell x c e
  exact⟨v,cellK x c e v z⟩
 ·obtain⟨m,⟨o,_,_,ho,_⟩,_⟩:=I.loc
  exact free _ o (λz=>(hch _ z).2.1 rfl) ho I.free
 ·obtain⟨v,o,ho,hd⟩:=I.cell x c e
  exact free c o (λz=>(hch c z).2.2.1 x c e rfl) ho (I.freeC x c e)
 ·obtain⟨e,n,ne,nf,d⟩:=I.pin p hp
  have nch:p.1 ∉ ch:=λz=>(hch p.1 z).2.2.2 p hp rfl
  exact⟨keep p.1 p.2 ne nf nch e n,free p.1 p.2 nch e n,ne,nf,d⟩
theorem Inv.un{t':Nat}(I:Inv X pins σ H s)(u:Un X.fs [] H H' s.heap h')(hok:HOk X.prog X.w H' h'):Inv X pins σ H' { s with heap:=h',toks:=t' }:=by
 obtain⟨m,⟨o,es,ep,ho,r⟩,_⟩:=id I.loc
 obtain⟨sl,hL⟩:=u.any ho I.free (by simp)
 exact I.step (g':=s.gens) (d':=s.drawn) (ch:=[]) (λ_ z=>nomatch z) (λb o _ hb _ e n=>u.keep b o e n hb (by simp)) (λb o _ hb _ e n=>u.slot b o e n hb (by simp)) (λb o _ e n=>u.free b o e n (by simp)) (λb o _ e=>u.there b o e (by simp)) u.tups u.frzs u.tbls (λm' hm=>by
  obtain⟨o',es',ep',ho',r'⟩:=hm
  rw[ho] at ho';cases ho'
  exact⟨_,es',ep',hL,r'⟩) hok I.bare
theorem Inv.call{g':Array GenState}{t':Nat}{d':Drawn}{ch:List Addr}(I:Inv X pins σ H s)(u:Un (frs X.stack) ch H H' s.heap h')(hok:HOk X.prog X.w H' h')(hg:AllBare g')
  (hch:∀ b∈ch,(b∈X.ex∨X.s₀.heap.objs.size≤b)∧b≠X.env.locals∧(∀ x c,X.env.cells.lookup x=some c→c≠b)∧∀ p∈X.pn++pins,p.1≠b) :
  Inv X pins σ H' { s with heap:=h',gens:=g',drawn:=d',toks:=t' }:=by
 obtain⟨m,⟨o,es,ep,ho,r⟩,_⟩:=id I.loc
 obtain⟨sl,hL⟩:=u.any ho I.free λz=>(hch _ z).2.1 rfl
 exact I.step (ch:=ch) hch (λb o hL hb hc e n=>u.keep b o e n (λz=>(List.mem_cons.mp (I.q91 b z)).elim hL hb) hc) (λb o _ _ hc e n=>u.any e n hc) (λb o hc e n=>u.free b o e n hc) (λb o hc e=>u.there b o e hc) u.tups u.frzs u.tbls (λm' hm=>by
  obtain⟨o',es',ep',ho',r'⟩:=hm
  rw[ho] at ho';cases ho'
  exact⟨_,es',ep',hL,r'⟩) hok hg
theorem Inv.turned{t':Nat}{it:Addr}(I:Inv X pins σ H s)(k:∀ b o,b≠it→s.heap.get? b=some o→h'.get? b=some o)(hn:H it=none)(hL:it≠X.env.locals)
  (h1:it∈X.ex∨X.s₀.heap.objs.size≤it) (h2:∀ x c,X.env.cells.lookup x=some c→c≠it) (h3:∀ p∈X.pn++pins,p.1≠it):Inv X pins σ H { s with heap:=h',toks:=t' }:=by
 have nit:∀ b u,H b=some u→b≠it:=λb u e z=>by rw[z,hn] at e;cases e
 refine I.step (g':=s.gens) (d':=s.drawn) (ch:=[it]) (λb hb=>?_) (λb o _ _ hc e _=>k b o (λz=>hc (by simp[z])) e) (λb o _ _ hc e _=>⟨o.slots,k b o (λz=>hc (by simp[z])) e⟩) (λ_ _ _ _ n=>n)
  (λb o hc e=>⟨o,k b o (λz=>hc (by simp[z])) e⟩) (λ_ _ e=>e) (λ_ _ _ e=>e) (λb ps e=>⟨#[],by rw[e];simp⟩) (λm hm=>?_) (λb u e=>?_) I.bare
 ·have e:b=it:=by simpa using hb
  subst e
  exact⟨h1,hL,h2,h3⟩
 ·obtain⟨o,es,ep,ho,r⟩:=hm
  exact⟨o,es,ep,k _ o (Ne.symm hL) ho,r⟩
 ·refine(I.hok b u e).u90 (λc v hc q=>k c v ?_ q) (λ_ q=>q) λ_ _ q=>q
  rcases hc with z | z
  ·rw[z];exact nit b u e
  ·exact nit c _ z
theorem Inv.tok(I:Inv X pins σ H s)(t:Nat):Inv X pins σ H { s with toks:=t }:=I.un (h':=s.heap) (t':=t) Un.refl I.hok
theorem Inv.kept{t':Nat}(I:Inv X pins σ H s)(k:∀ b u,s.heap.get? b=some u→h'.get? b=some u):Inv X pins σ H { s with heap:=h',toks:=t' }:=I.un (Un.kept k) (I.hok.kept k)
theorem Inv.laid{t':Nat}(I:Inv X pins σ H s)(k:∀ b u,s.heap.get? b=some u→h'.get? b=some u)(hp:s.heap.objs.size≤a)(new:j20 X.prog X.w (upd H a o) h' a o) :
  Inv X pins σ (upd H a o) { s with heap:=h',toks:=t' }:=I.un (Un.laid k hp (I.hok.fresh hp)) (I.hok.laid k hp new)
theorem Inv.write{x e:Addr}{o:HO}{t':Nat}(I:Inv X pins σ H s)(mu:Mut (H x))(he:e=x∨H e=some (.own x))(k:∀ b u,b≠e→s.heap.get? b=some u→h'.get? b=some u)(heo:∃ u,h'.get? e=some u)
  (new:j20 X.prog X.w (upd H x o) h' x o):Inv X pins σ (upd H x o) { s with heap:=h',toks:=t' }:=I.un (Un.write mu he k heo) (I.hok.write mu he k heo new)
theorem Inv.C60(I:Inv X pins σ H s)(h:∀ p∈pins',s.heap.get? p.1=some p.2∧H p.1=none∧p.1≠X.env.locals∧p.1 ∉ X.fs∧∀ v,p.2.data≠.cell v):Inv X pins' σ H s :=
 ⟨I.ok,I.os,I.bare,I.base,I.loc,I.cell,I.free,I.freeC,λp hp=>(List.mem_append.mp hp).elim (λz=>I.pin p (mem_append_left _ z)) (h p),I.hok,I.len⟩
theorem g01{N:List Str}(hN:N.Nodup){i j:Nat}{x:Str}(a:N[i]?=some x)(b:N[j]?=some x):i=j:=by
 obtain⟨h1,e1⟩:=List.getElem?_eq_some_iff.mp a
 obtain⟨h2,e2⟩:=List.getElem?_eq_some_iff.mp b
 exact(List.getElem_inj hN).mp (e1.trans e2.symm)
theorem R00{M:Model}{A:Around}{E:Value→Shared→Prop}{i:Nat}{x:Str}{v:V}{u:Value}{Q:Unit→Shared→Prop}(I:Inv X pins σ H s)(hN:X.N.Nodup)(hi:X.N[i]?=some x)(hx:Loc X.env.scope x)(r:RelV v u)
  (h:∀ s',Inv X pins (σ.set i (some v)) H s'→(∃ a,Heap.SameBut a s.heap s'.heap∧(a=X.env.locals∨X.env.cells.lookup x=some a))→Q () s') (hf:X.fn x=true∨X.env.scope.names.lookup x=some .local:=by first | exact .inl rfl | exact .inr rfl | assumption):wpAny M A (storeName X.env x u) Q E s:=by
 obtain⟨m,hn,hl⟩:=id I.loc
 have hcls:(X.env.scope.kind == .class || (X.env.scope.kind == .module&&X.env.locals != X.env.globals))=false:=by rw[I.ok.kind];rfl
 have hiσ:i < σ.length:=by rw[I.len];exact(List.getElem?_eq_some_iff.mp hi).1
 have cne:=I.cne
 have tracked:∀ {a:Addr}{h':Heap},(∃ o,s.heap.get? a=some o∧H a=none)→Heap.SameBut a s.heap h'→HOk X.prog X.w H h':=λ{a h'} ha hs b ob e=>by
  obtain⟨_,_,hfree⟩:=ha
  refine(I.hok b ob e).u90 (λc w' hc q=>(hs.2 c ?_).trans q) (λ_ q=>q) λ_ _ q=>q
  rintro rfl
  rcases hc with rfl | hc
  ·rw[hfree] at e;cases e
  ·rw[hfree] at hc;cases hc
 rcases hx with hk | hk
 ·refine wpAny_storeName_local hk hn (λh' hn' hs=>?_) hcls
  obtain⟨oL,_,_,hoL,_⟩:=id hn
  refine h _ ⟨I.ok,I.os,I.bare,⟨λb o e n hb hx=>?_,λb o e n hb hx=>?_,I.base.free,λb o e hx=>?_,I.base.tups,I.base.frzs,I.base.tbls⟩,⟨_,hn',λj y v' e1 e2 e3=>?_⟩,λy c e=>?_,I.free,I.freeC,λp hp=>?_,tracked ⟨oL,hoL,I.free⟩ hs,by simpa using I.len⟩ ⟨_,hs,.inl rfl⟩
  ·exact(hs.2 b (Nat.ne_of_lt (Nat.lt_of_lt_of_le (lt_size e) I.ok.above))).trans (I.base.keep b o e n hb hx)
  ·obtain⟨sl,e1⟩:=I.base.slot b o e n hb hx
   exact⟨sl,(hs.2 b (Nat.ne_of_lt (Nat.lt_of_lt_of_le (lt_size e) I.ok.above))).trans e1⟩
  ·obtain⟨o',e1⟩:=I.base.there b o e hx
   exact⟨o',(hs.2 b (Nat.ne_of_lt (Nat.lt_of_lt_of_le (lt_size e) I.ok.above))).trans e1⟩
  ·by_cases hj:j=i
   ·subst hj
    rw[hi] at e1;cases e1
    rw[List.getElem?_set_self hiσ] at e2
    cases e2
    exact⟨u,r,.inl ⟨hk,by simp⟩⟩
   ·rw[List.getElem?_set_ne (Ne.symm hj)] at e2
    obtain⟨u',r',q⟩:=hl j y v' e1 e2 e3
    refine⟨u',r',?_⟩
    rcases q with ⟨k,e⟩ | ⟨k,c,e,z⟩
    ·refine .inl ⟨k,?_⟩
     have:y≠x:=λe=>hj (g01 hN e1 (e ▸ hi))
     simp[this,e]
    ·exact .inr ⟨k,c,e,z.sameBut hs (cne y c e)⟩
  ·obtain⟨w',z⟩:=I.cell y c e
   exact⟨w',z.sameBut hs (cne y c e)⟩
  ·obtain⟨e,n,ne,nf,d⟩:=I.pin p hp
   exact⟨(hs.2 p.1 ne).trans e,n,ne,nf,d⟩
 ·have hfn:X.fn x=true:=by
   rcases hf with z | z
   ·exact z
   ·rw[z] at hk;cases hk
  obtain⟨c,hc⟩:=I.ok.has x (.inl hk)
  obtain⟨w',z⟩:=I.cell x c hc
  refine wpAny_storeName_cell I.ok.kind hk hc z (λh' hc' hs=>?_)
  obtain⟨oc,hoc,hocd⟩:=id z
  refine h { s with heap:=h' } ⟨I.ok,I.os,I.bare,⟨λb o e n hb hx=>?_,λb o e n hb hx=>?_,I.base.free,λb o e hx=>?_,I.base.tups,I.base.frzs,I.base.tbls⟩,⟨m,hn.sameBut hs (Ne.symm (cne x c hc)),λj y v' e1 e2 e3=>?_⟩,λy c' e=>?_,I.free,I.freeC,λp hp=>?_,tracked ⟨oc,hoc,I.freeC x c hc⟩ hs,by simpa using I.len⟩ ⟨c,hs,.inr hc⟩
  ·exact(hs.2 b (Nat.ne_of_lt (Nat.lt_of_lt_of_le (lt_size e) (I.ok.cab x c hfn hc)))).trans (I.base.keep b o e n hb hx)
  ·obtain⟨sl,e1⟩:=I.base.slot b o e n hb hx
   exact⟨sl,(hs.2 b (Nat.ne_of_lt (Nat.lt_of_lt_of_le (lt_size e) (I.ok.cab x c hfn hc)))).trans e1⟩
  ·obtain⟨o',e1⟩:=I.base.there b o e hx
   exact⟨o',(hs.2 b (Nat.ne_of_lt (Nat.lt_of_lt_of_le (lt_size e) (I.ok.cab x c hfn hc)))).trans e1⟩
  ·by_cases hj:j=i
   ·subst hj
    rw[hi] at e1;cases e1
    rw[List.getElem?_set_self hiσ] at e2
    cases e2
    exact⟨u,r,.inr ⟨.inl hk,c,hc,hc'⟩⟩
   ·rw[List.getElem?_set_ne (Ne.symm hj)] at e2
    obtain⟨u',r',q⟩:=hl j y v' e1 e2 e3
    refine⟨u',r',?_⟩
    rcases q with q | ⟨k,c',e,z'⟩
    ·exact .inl q
    ·refine .inr ⟨k,c',e,z'.sameBut hs ?_⟩
     rintro rfl
     exact hj (g01 hN e1 (I.ok.inj _ _ _ e hc ▸ hi))
  ·by_cases hcc:c'=c
   ·subst hcc;exact⟨_,hc'⟩
   ·obtain⟨w2,z2⟩:=I.cell y c' e
    exact⟨w2,z2.sameBut hs hcc⟩
  ·obtain⟨e,n,ne,nf,d⟩:=I.pin p hp
   refine⟨(hs.2 p.1 ?_).trans e,n,ne,nf,d⟩
   intro q
   rw[q,hoc] at e
   have q':oc=p.2:=Option.some.inj e
   exact d w' (by rw[← q'];exact hocd)
theorem v00{M:Model}{A:Around}{E:Value→Shared→Prop}{i:Nat}{x:Str}{v:V}{u:Value}{Q:Unit→Shared→Prop}(I:Inv X pins σ H s)(hN:X.N.Nodup)(hi:X.N[i]?=some x)(hx:Loc X.env.scope x)(r:RelV v u)
  (h:∀ s',Inv X pins (σ.set i (some v)) H s'→Q () s') (hf:X.fn x=true∨X.env.scope.names.lookup x=some .local:=by first | exact .inl rfl | exact .inr rfl | assumption):wpAny M A (storeName X.env x u) Q E s :=
 R00 I hN hi hx r (λs' I' _=>h s' I') hf
theorem Inv.y62(I:Inv X pins σ H s)(ho:s'.os=s.os)(u:Un (frs X.stack) ch H H' s.heap s'.heap)(hok:HOk X.prog X.w H' s'.heap)(hg:AllBare s'.gens)
  (hch:∀ b∈ch,(b∈X.ex∨X.s₀.heap.objs.size≤b)∧b≠X.env.locals∧(∀ x c,X.env.cells.lookup x=some c→c≠b)∧∀ p∈X.pn++pins,p.1≠b):Inv X pins σ H' s':=by
 obtain⟨h',g',d',t',o'⟩:=s'
 have e:o'=s.os:=ho
 subst e
 exact I.call (g':=g') (t':=t') (d':=d') u hok hg hch
end
abbrev XK:=Value→Option Addr→Hp→Prop
abbrev St:=List (Option V)
abbrev VK:=V→Hp→Prop
abbrev TE:=St→Hp→VK→Prop
abbrev TT:=St→Hp→(Bool→Hp→Prop)→Prop
abbrev TA:=St→Hp→(List V→Hp→Prop)→Prop
structure Ends where
 nx:St→Hp→Prop
 rt:VK
 bk:St→Hp→Prop:=λ_ _=>False
 ct:St→Hp→Prop:=λ_ _=>False
abbrev TS:=Ends→St→Hp→Prop
def EP(X:Cx)(pins:List (Addr × Obj))(σ:St)(Q:VK)(u:Value)(s':Shared):Prop:=∃ v H',Inv X pins σ H' s'∧RelV v u∧Q v H'
def TP(X:Cx)(pins:List (Addr × Obj))(σ:St)(Q:Bool→Hp→Prop)(b:Bool)(s':Shared):Prop:=∃ H',Inv X pins σ H' s'∧Q b H'
def AP(X:Cx)(pins:List (Addr × Obj))(σ:St)(Q:List V→Hp→Prop)(us:List Value)(s':Shared):Prop:=∃ vs H',Inv X pins σ H' s'∧Vals vs us∧Q vs H'
def SP(X:Cx)(pins:List (Addr × Obj))(D:Ends)(f:Flow)(s':Shared):Prop :=
 match f with
 |.next=>∃ σ' H',Inv X pins σ' H' s'∧D.nx σ' H'
 |.brk=>∃ σ' H',Inv X pins σ' H' s'∧D.bk σ' H'
 |.cont=>∃ σ' H',Inv X pins σ' H' s'∧D.ct σ' H'
 |.ret u=>∃ v σ' H',Inv X pins σ' H' s'∧RelV v u∧D.rt v H'
def PE(X:Cx)(e:Expr)(t:TE):Prop :=
 ∀ (pins:List (Addr × Obj)) (s:Shared) (σ:St) (H:Hp) (Q:VK),Inv X pins σ H s→t σ H Q→wpAny (model X.prog X.w) X.A (eval e X.env) (EP X pins σ Q) X.xe s
def PT(X:Cx)(e:Expr)(t:TT):Prop :=
 ∀ (pins:List (Addr × Obj)) (s:Shared) (σ:St) (H:Hp) (Q:Bool→Hp→Prop),Inv X pins σ H s→t σ H Q→wpAny (model X.prog X.w) X.A (isTrue e X.env (eval e X.env)) (TP X pins σ Q) X.xe s
def PW(X:Cx)(e:Expr)(t:TT):Prop :=
 ∀ (whole:Sem Value) (pins:List (Addr × Obj)) (s:Shared) (σ:St) (H:Hp) (Q:Bool→Hp→Prop),Inv X pins σ H s→t σ H Q→wpAny (model X.prog X.w) X.A (isTrue e X.env whole) (TP X pins σ Q) X.xe s
theorem PW.pt(h:PW X e t):PT X e t:=h _
def PA(X:Cx)(es:List Expr)(t:TA):Prop :=
 ∀ (pos:Pos) (pins:List (Addr × Obj)) (s:Shared) (σ:St) (H:Hp) (Q:List V→Hp→Prop),Inv X pins σ H s→t σ H Q→wpAny (model X.prog X.w) X.A (spliced (backTo pos (starEach es X.env))) (AP X pins σ Q) X.xe s
def PS(X:Cx)(st:Stmt)(t:TS):Prop :=
 ∀ (pins:List (Addr × Obj)) (s:Shared) (σ:St) (H:Hp) (D:Ends),Inv X pins σ H s→t D σ H→wpAny (model X.prog X.w) X.A (exec st X.env) (SP X pins D) X.xe s
def PSs(X:Cx)(st:List Stmt)(t:TS):Prop :=
 ∀ (pins:List (Addr × Obj)) (s:Shared) (σ:St) (H:Hp) (D:Ends),Inv X pins σ H s→t D σ H→wpAny (model X.prog X.w) X.A (execs st X.env) (SP X pins D) X.xe s
theorem thn{α:Type}{t:Sem α}{Q Q':α→Shared→Prop}{M:Model}{A:Around}{E:Value→Shared→Prop}{s:Shared}(h:wpAny M A t Q E s)(hQ:∀ a s,Q a s→Q' a s):wpAny M A t Q' E s:=wpAny_mono h hQ λ_ _ x=>x
section
variable {X:Cx}
def x52(i:Nat):TE:=λσ H Q=>∃ v,σ[i]?=some (some v)∧Q v H
def tC(v:V):TE:=λ_ H Q=>Q v H
theorem y90{i:Nat}{x:Str}{pos:Pos}(hN:X.N[i]?=some x)(hv:Vis X.env.scope x)(hd:(x == ("__debug__":Str))=false:=by decide)(hcd:(x == ("__classdict__":Str))=false:=by decide):PE X (.Name x pos) (x52 i):=by
 intro pins s σ H Q I h
 obtain⟨v,e,h⟩:=h
 obtain⟨m,hn,hl⟩:=I.loc
 obtain⟨u,r,l⟩:=hl i x v hN e hv
 have fin:EP X pins σ Q u s:=⟨v,H,I,r,h⟩
 rcases l with ⟨hk,hm⟩ | ⟨hk,c,hc,hcell⟩
 ·exact wpAny_Name (wpAny_loadName_local I.ok.kind hk hn hm fin) hd
 ·rcases hk with hk | hk
  ·exact wpAny_Name (wpAny_loadName_cell I.ok.kind hk hc hcell fin) hd
  ·exact wpAny_Name (wpAny_loadName_free I.ok.kind hk hc hcell fin hcd) hd
theorem r01{i j pos}:PE X (.Constant (.int i) j pos) (tC (.int i)):=λ_ _ _ H _ I h=>wpAny_Constant_int ⟨.int i,H,I.tok _,⟨_,rfl⟩,h⟩
theorem y72{b j pos}:PE X (.Constant (.bool b) j pos) (tC (.bl b)):=λ_ _ _ H _ I h=>Constant_bool ⟨.bl b,H,I,rfl,h⟩
theorem j32{j pos}:PE X (.Constant .none j pos) (tC .non):=λ_ _ _ H _ I h=>Constant_none ⟨.non,H,I,rfl,h⟩
theorem P71{x j pos}:PE X (.Constant (.str x) j pos) (tC (.str x)):=λ_ _ _ H _ I h=>Calls.Constant_str ⟨.str x,H,I.tok _,⟨_,rfl⟩,h⟩
def Gl(X:Cx)(x:Str):Prop:=X.env.kindOf x=some .globalImplicit
theorem Z30{E:Value→Shared→Prop}{pins:List (Addr × Obj)}{s:Shared}{σ:St}{H:Hp}{x:Str}{u:Value}{pos:Pos}{Q:Value→Shared→Prop}(I:Inv X pins σ H s)(hg:Gl X x)(hm:X.mg x=some u)(h:Q u s)
  (hd:(x == ("__debug__":Str))=false:=by decide):wpAny (model X.prog X.w) X.A (eval (.Name x pos) X.env) Q E s :=
 Calls.Name_function_global I.ok.kind hg (Calls.loadGlobal_global (by rw[I.ok.glob];exact I.mod.glob.keeps I.bk) hm h) hd
theorem v40{E:Value→Shared→Prop}{pins:List (Addr × Obj)}{s:Shared}{σ:St}{H:Hp}{x:Str}{u:Value}{pos:Pos}{Q:Value→Shared→Prop}(I:Inv X pins σ H s)(hg:Gl X x)(hm:X.mg x=none)(hv:bootBuiltins x=some u)(h:Q u s)
  (hn:x≠"__name__":=by decide) (hd:(x == ("__debug__":Str))=false:=by decide):wpAny (model X.prog X.w) X.A (eval (.Name x pos) X.env) Q E s:=by
 obtain⟨mb,h1,h2⟩:=I.mod.blt
 exact Calls.Name_function_global I.ok.kind hg (Calls.loadGlobal_builtin (by rw[I.ok.glob];exact I.mod.glob.keeps I.bk) hm (by rw[I.ok.blt];exact h1.keeps I.bk) ((h2 x hn).trans hv) h) hd
theorem U31{x:Str}{v:V}{u:Value}{pos:Pos}(hg:Gl X x)(hm:X.mg x=some u)(r:RelV v u)(hd:(x == ("__debug__":Str))=false:=by decide):PE X (.Name x pos) (tC v) :=
 λ_ _ _ H _ I h=>Z30 I hg hm ⟨v,H,I,r,h⟩ hd
theorem Z40{x:Str}{v:V}{u:Value}{pos:Pos}(hg:Gl X x)(hm:X.mg x=none)(hv:bootBuiltins x=some u)(r:RelV v u)(hn:x≠"__name__":=by decide)(hd:(x == ("__debug__":Str))=false:=by decide):PE X (.Name x pos) (tC v) :=
 λ_ _ _ H _ I h=>v40 I hg hm hv ⟨v,H,I,r,h⟩ hn hd
variable {a b:Expr}{ta tb:TE}{pos:Pos}
def tB(t:TE):TT:=λσ H Q=>t σ H λx H1=>∃ c,x=.bl c∧Q c H1
theorem j42(h:PE X e t)(he:∀ whole,isTrue e X.env whole=(do let v ← whole;standAt e.pos;holding [v] (truthy v)):=by intro _;rfl):PT X e (tB t):=by
 intro pins s σ H Q I hw
 refine isTrue_plain (thn (h pins s σ H _ I hw) λv s1 ⟨x,H1,I1,r1,q1⟩=>?_) (he _)
 obtain⟨d,rfl,q⟩:=q1
 cases r1
 exact wpAny_truthy_bool ⟨H1,I1,q⟩
variable {tA tB':TT}{rest:List Expr}
def M92(t u:TT):TT:=λσ H Q=>t σ H λc H1=>if c=true then u σ H1 Q else Q false H1
def tOr(t u:TT):TT:=λσ H Q=>t σ H λc H1=>if c=true then Q true H1 else u σ H1 Q
def N02(t:TT):TT:=λσ H Q=>t σ H λc H1=>Q (!c) H1
theorem U41(ha:PT X a tA):PW X (.BoolOp .And [a] pos) tA:=by
 intro wh pins s σ H Q I h
 refine isTrue_and (thn (ha pins s σ H Q I h) λc s1 e=>?_)
 cases c with
 |true=>exact isTrue_and_nil e
 |false=>exact e
theorem j52(ha:PT X a tA):PW X (.BoolOp .Or [a] pos) tA:=by
 intro wh pins s σ H Q I h
 refine isTrue_or (thn (ha pins s σ H Q I h) λc s1 e=>?_)
 cases c with
 |false=>exact isTrue_or_nil e
 |true=>exact e
theorem j62(ha:PT X a tA)(hb:PW X (.BoolOp .And (b::rest) pos) tB'):PW X (.BoolOp .And (a::b::rest) pos) (M92 tA tB'):=by
 intro wh pins s σ H Q I h
 refine isTrue_and (thn (ha pins s σ H _ I h) λc s1 ⟨H1,I1,q1⟩=>?_)
 cases c with
 |true=>exact hb wh pins s1 σ H1 Q I1 q1
 |false=>exact⟨H1,I1,q1⟩
theorem y82(ha:PT X a tA)(hb:PW X (.BoolOp .Or (b::rest) pos) tB'):PW X (.BoolOp .Or (a::b::rest) pos) (tOr tA tB'):=by
 intro wh pins s σ H Q I h
 refine isTrue_or (thn (ha pins s σ H _ I h) λc s1 ⟨H1,I1,q1⟩=>?_)
 cases c with
 |true=>exact⟨H1,I1,q1⟩
 |false=>exact hb wh pins s1 σ H1 Q I1 q1
theorem j72(ha:PT X a tA):PT X (.UnaryOp .Not a pos) (N02 tA):=by
 intro pins s σ H Q I h
 exact isTrue_not (ha pins s σ H (λc H1=>Q (!c) H1) I h)
def y92(ta tb:TE):TE:=λσ H Q=>ta σ H λx H1=>∃ c,x=.bl c∧if c=true then tb σ H1 Q else Q (.bl false) H1
def N12(ta tb:TE):TE:=λσ H Q=>ta σ H λx H1=>∃ c,x=.bl c∧if c=true then Q (.bl true) H1 else tb σ H1 Q
def z02(ta:TE):TE:=λσ H Q=>ta σ H λx H1=>∃ c,x=.bl c∧Q (.bl (!c)) H1
theorem j82(h:PE X a t):PE X (.BoolOp op [a] pos) t:=λpins s σ H Q I hw=>BoolOp_one (h pins s σ H Q I hw)
theorem j92(ha:PE X a ta)(hb:PE X (.BoolOp .And (b::rest) pos) tb):PE X (.BoolOp .And (a::b::rest) pos) (y92 ta tb):=by
 intro pins s σ H Q I h
 refine BoolOp_and (thn (ha pins s σ H _ I h) λv s1 ⟨x,H1,I1,r1,q1⟩=>?_)
 obtain⟨c,rfl,q1⟩:=q1
 cases r1
 refine wpAny_truthy_bool ?_
 cases c with
 |true=>exact hb pins s1 σ H1 Q I1 q1
 |false=>exact⟨.bl false,H1,I1,rfl,q1⟩
theorem z12(ha:PE X a ta)(hb:PE X (.BoolOp .Or (b::rest) pos) tb):PE X (.BoolOp .Or (a::b::rest) pos) (N12 ta tb):=by
 intro pins s σ H Q I h
 refine BoolOp_or (thn (ha pins s σ H _ I h) λv s1 ⟨x,H1,I1,r1,q1⟩=>?_)
 obtain⟨c,rfl,q1⟩:=q1
 cases r1
 refine wpAny_truthy_bool ?_
 cases c with
 |false=>exact hb pins s1 σ H1 Q I1 q1
 |true=>exact⟨.bl true,H1,I1,rfl,q1⟩
theorem k02(ha:PE X a ta):PE X (.UnaryOp .Not a pos) (z02 ta):=by
 intro pins s σ H Q I h
 refine UnaryOp_ (thn (ha pins s σ H _ I h) λv s1 ⟨x,H1,I1,r1,q1⟩=>?_)
 obtain⟨c,rfl,q1⟩:=q1
 cases r1
 exact not_of (wpAny_truthy_bool ⟨.bl (!c),H1,I1,rfl,q1⟩)
def tIf(t:TT)(ta tb:TE):TE:=λσ H Q=>t σ H λc H1=>if c=true then ta σ H1 Q else tb σ H1 Q
theorem G81(hc:PT X c tA)(ha:PE X a ta)(hb:PE X b tb):PE X (.IfExp c a b pos) (tIf tA ta tb):=by
 intro pins s σ H Q I h
 refine wpAny_IfExp (thn (hc pins s σ H _ I h) λd s1 ⟨H1,I1,q1⟩=>?_)
 cases d with
 |true=>exact ha pins s1 σ H1 Q I1 q1
 |false=>exact hb pins s1 σ H1 Q I1 q1
end
def SqL(K:PySem.W.Frag)(H:Hp)(a:Addr)(xs:List V):Prop :=
 Rd H a (.lst xs) ∨
  ∃ (o:Obj) (its:Array Value) (n:Nat),K.lookup a=some o∧o.cls=.type "list"∧o.dict=none∧o.data=.seq its n∧its.size≤sizeLine∧Vals xs its.toList
def SqT(K:PySem.W.Frag)(H:Hp)(a:Addr)(xs:List V):Prop :=
 Rd H a (.tup xs) ∨
  ∃ (o:Obj) (its:Array Value) (n:Nat),K.lookup a=some o∧o.cls=.type "tuple"∧o.data=.seq its n∧its.size≤sizeLine∧Vals xs its.toList
def N22:Value→Option V
 |.none=>some .non
 |.bool b=>some (.bl b)
 |.int i _=>some (.int i)
 |.str x _=>some (.str x)
 |.bytes b _=>some (.byt b)
 |.float b _=>some (.flt b)
 |.ref a=>some (.ref a)
 |.type n=>some (.ty n)
 |_=>none
theorem RelV.abs(r:RelV x u):N22 u=some x:=by
 cases x with
 |non=>cases r;rfl
 |bl _=>cases r;rfl
 |int _=>obtain⟨t,rfl⟩:=r;rfl
 |str _=>obtain⟨t,rfl⟩:=r;rfl
 |byt _=>obtain⟨t,rfl⟩:=r;rfl
 |flt _=>obtain⟨t,rfl⟩:=r;rfl
 |ref _=>cases r;rfl
 |ty _=>cases r;rfl
theorem RelV.inj(r:RelV x u)(q:RelV y u):x=y:=Option.some.inj (r.abs.symm.trans q.abs)
theorem Vals.inj:∀ {xs ys:List V}{us:List Value},Vals xs us→Vals ys us→xs=ys
 |_,_,_,.nil,.nil=>rfl
 |_,_,_,.cons r t,.cons r' t'=>by rw[r.inj r',Vals.inj t t']
section
variable {X:Cx}{pins:List (Addr × Obj)}{σ:St}{H:Hp}{s:Shared}{a:Addr}{xs ys:List V}
theorem SqL.of{K:PySem.W.Frag}(h:H a=some (.lst xs)):SqL K H a xs:=.inl (.inl h)
theorem SqT.of{K:PySem.W.Frag}(h:H a=some (.tup xs)):SqT K H a xs:=.inl (.inl h)
theorem Inv.list(I:Inv X pins σ H s)(h:SqL X.K H a xs):∃ its:List Value,Vals xs its∧PlainL s.heap a its.toArray∧xs.length≤sizeLine:=by
 rcases h with h | ⟨o,its,n,hk,hc,hd,hs,hz,r⟩
 ·obtain⟨z,its,n,r,e⟩:=h.ok I.hok
  exact⟨its,r,⟨_,n,e,rfl,rfl,rfl⟩,z⟩
 ·refine⟨its.toList,r,⟨o,n,I.kIn a o hk,hc,hd,by simpa using hs⟩,?_⟩
  have e:=r.length
  simp only[length_toList] at e
  omega
theorem Inv.tuple(I:Inv X pins σ H s)(h:SqT X.K H a xs):∃ its:List Value,Vals xs its∧IsTup s.heap a its.toArray∧xs.length≤sizeLine:=by
 rcases h with h | ⟨o,its,n,hk,hc,hs,hz,r⟩
 ·obtain⟨z,its,r,p⟩:=h.ok I.hok
  exact⟨its,r,p,z⟩
 ·refine⟨its.toList,r,⟨o,I.kIn a o hk,hc,n,by simpa using hs⟩,?_⟩
  have e:=r.length
  simp only[length_toList] at e
  omega
theorem Inv.g21(I:Inv X pins σ H s)(h:SqL X.K H a xs)(h':SqL X.K H a ys):xs=ys:=by
 obtain⟨its,r,⟨o,n,e,_,_,d⟩,_⟩:=I.list h
 obtain⟨its',r',⟨o',n',e',_,_,d'⟩,_⟩:=I.list h'
 rw[e] at e';cases e'
 rw[d] at d'
 injection d' with d1 _
 have:its=its':=by simpa using congrArg toList d1
 subst this
 exact r.inj r'
theorem Inv.R10(I:Inv X pins σ H s)(h:SqT X.K H a xs)(h':SqT X.K H a ys):xs=ys:=by
 obtain⟨its,r,⟨o,e,_,n,d⟩,_⟩:=I.tuple h
 obtain⟨its',r',⟨o',e',_,n',d'⟩,_⟩:=I.tuple h'
 rw[e] at e';cases e'
 rw[d] at d'
 injection d' with d1 _
 have:its=its':=by simpa using congrArg toList d1
 subst this
 exact r.inj r'
end
section
variable {X:Cx}{st:Stmt}{rest:List Stmt}{t u:TS}{e:Expr}{te:TE}{pos:Pos}
def z22:TS:=λD σ H=>D.nx σ H
def N32(t u:TS):TS:=λD σ H=>t { D with nx:=u D } σ H
theorem U51:PSs X [] z22:=λ_ _ σ H _ I h=>wpAny_execs_nil ⟨σ,H,I,h⟩
theorem G91(h1:PS X st t)(h2:PSs X rest u):PSs X (st::rest) (N32 t u):=by
 intro pins s σ H D I h
 refine wpAny_execs_cons (thn (h1 pins s σ H { D with nx:=u D } I h) λf s1 q=>?_)
 cases f with
 |next =>
  obtain⟨σ',H',I',q⟩:=q
  exact h2 pins s1 σ' H' D I' q
 |ret v=>exact q
 |brk=>exact q
 |cont=>exact q
theorem Inv.quiet(I:Inv X pins σ H s):interactive X.env=false:=by simp[interactive,I.ok.kind]
def k12(te:TE):TS:=λD σ H=>te σ H λ_ H1=>D.nx σ H1
theorem Z50(he:PE X e te)(hs:swapsWith e none pos.line X.env=pure false:=by rfl):PS X (.Expr e pos) (k12 te):=by
 intro pins s σ H D I h
 exact wpAny_Expr_any (thn (he pins s σ H _ I h) λv s1 ⟨x,H1,I1,r1,q1⟩=>⟨σ,H1,I1,q1⟩) I.quiet hs
def N42(te:TE):TS:=λD σ H=>te σ H D.rt
theorem P81(he:PE X e te):PS X (.Return (some e) pos) (N42 te):=by
 intro pins s σ H D I h
 exact wpAny_Return_some (thn (he pins s σ H _ I h) λv s1 ⟨x,H1,I1,r1,q1⟩=>⟨x,σ,H1,I1,r1,q1⟩)
def z32:TS:=λD _ H=>D.rt .non H
theorem U61:PS X (.Return none pos) z32:=λ_ _ σ H _ I h=>wpAny_Return_none ⟨.non,σ,H,I,rfl,h⟩
def N52(c:TT)(t u:TS):TS:=λD σ H=>c σ H λb H1=>if b=true then t D σ H1 else u D σ H1
theorem z42(hc:PT X c tc)(ha:PSs X a t)(hb:PSs X b u):PS X (.If c a b pos) (N52 tc t u):=by
 intro pins s σ H D I h
 refine wpAny_If (thn (hc pins s σ H _ I h) λd s1 ⟨H1,I1,q1⟩=>?_)
 cases d with
 |true=>exact ha pins s1 σ H1 D I1 q1
 |false=>exact hb pins s1 σ H1 D I1 q1
end
abbrev TG:=V→St→Hp→(St→Hp→Prop)→Prop
abbrev TGs:=List V→St→Hp→(St→Hp→Prop)→Prop
def PG(X:Cx)(target:Expr)(t:TG):Prop :=
 ∀ (pins:List (Addr × Obj)) (s:Shared) (σ:St) (H:Hp) (v:V) (u:Value) (Q:St→Hp→Prop),Inv X pins σ H s→RelV v u→t v σ H Q →
  wpAny (model X.prog X.w) X.A (assign target X.env u) (λ_ s'=>∃ σ' H',Inv X pins σ' H' s'∧Q σ' H') X.xe s
def PGs(X:Cx)(ts:List Expr)(t:TGs):Prop :=
 ∀ (pins:List (Addr × Obj)) (s:Shared) (σ:St) (H:Hp) (vs:List V) (us:List Value) (Q:St→Hp→Prop),Inv X pins σ H s→Vals vs us→t vs σ H Q →
  wpAny (model X.prog X.w) X.A (assignInOrder ((assignEach ts X.env).map (·.2)) us) (λ_ s'=>∃ σ' H',Inv X pins σ' H' s'∧Q σ' H') X.xe s
abbrev x62:=V→V→V→Hp→(Hp→Prop)→Prop
def z52(X:Cx)(t:x62):Prop :=
 ∀ (pins:List (Addr × Obj)) (s:Shared) (σ:St) (H:Hp) (o i v:V) (ov iv u:Value) (Q:Hp→Prop),Inv X pins σ H s→RelV o ov→RelV i iv→RelV v u→t o i v H Q →
  wpAny (model X.prog X.w) X.A (setItem ov iv u) (λ_ s'=>∃ H',Inv X pins σ H' s'∧Q H') X.xe s
abbrev TIp:=V→V→Hp→VK→Prop
def PIp(X:Cx)(op:Operator)(t:TIp):Prop :=
 ∀ (pins:List (Addr × Obj)) (s:Shared) (σ:St) (H:Hp) (x y:V) (v u:Value) (Q:VK),Inv X pins σ H s→RelV x v→RelV y u→t x y H Q →
  wpAny (model X.prog X.w) X.A (inplaceOp op v u) (EP X pins σ Q) X.xe s
section
variable {X:Cx}{pos:Pos}
def m51(i:Nat):TG:=λv σ H Q=>Q (σ.set i (some v)) H
theorem U71{i:Nat}{x:Str}(hN:X.N.Nodup)(hi:X.N[i]?=some x)(hx:Loc X.env.scope x)(hf:X.fn x=true∨X.env.scope.names.lookup x=some .local:=by first | exact .inl rfl | exact .inr rfl | assumption):PG X (.Name x pos) (m51 i):=by
 intro pins s σ H v u Q I r h
 exact wpAny_assign_Name (v00 I hN hi hx r (λs' I'=>⟨_,H,I',h⟩) hf)
def J52:TGs:=λvs σ H Q=>vs=[]∧Q σ H
def k22(t:TG)(u:TGs):TGs:=λvs σ H Q=>∃ v r,vs=v::r∧t v σ H λσ' H'=>u r σ' H' Q
theorem U81:PGs X [] J52:=by
 intro pins s σ H vs us Q I r h
 obtain⟨e,h⟩:=h
 subst e
 cases r
 exact assignInOrder_nil ⟨σ,H,I,h⟩
theorem H01(h1:PG X e t)(h2:PGs X es u)
  (hs:(assignEach (e::es) X.env).map (·.2)=assign e X.env::(assignEach es X.env).map (·.2):=by rfl):PGs X (e::es) (k22 t u):=by
 intro pins s σ H vs us Q I r h
 obtain⟨v,vr,e1,h⟩:=h
 subst e1
 cases r with
 |cons r rr =>
  rw[hs]
  refine assignInOrder_cons (thn (h1 pins s σ H _ _ _ I r h) λ_ s1 ⟨σ1,H1,I1,q1⟩=>?_)
  exact h2 pins s1 σ1 H1 _ _ Q I1 rr q1
def J62(K:PySem.W.Frag)(n:Nat)(t:TGs):TG:=λv σ H Q=>∃ a xs,v=.ref a∧SqT K H a xs∧xs.length=n∧t xs σ H Q
theorem k32{k:Nat}{n:Nat}(hc:X.calm=true)(h:PGs X es t)
  (hn:(assignEach es X.env).length=n:=by rfl) (hst:(assignEach es X.env).findIdx? (·.1)=none:=by rfl):PG X (.Tuple es k pos) (J62 X.K n t):=by
 intro pins s σ H v u Q I r hw
 obtain⟨a,xs,e1,hq,hl,hw⟩:=hw
 subst e1
 cases r
 obtain⟨its,rv,ht,hz⟩:=I.tuple hq
 refine assign_Tuple_tuple (I.ok.hd hc) ht (by simp[hn,← hl,rv.length]) hst λh' hx=>?_
 have I1:Inv X pins σ H { s with heap:=h' }:=I.kept (t':=s.toks) λb o e=>hx b o (Nat.ne_of_lt (lt_size e)) e
 exact h pins _ σ H xs _ Q I1 (by simpa using rv) hw
def N62(to ti:TE)(t:x62):TG:=λv σ H Q=>to σ H λo H1=>ti σ H1 λi H2=>t o i v H2 λH3=>Q σ H3
theorem k42(ho:PE X o to)(hi:PE X i ti)(hs:z52 X t)
  (ha:∀ v,assign (.Subscript o i pos) X.env v=(do
   let ov ← holding [v] (eval o X.env)
   let iv ← holding [v,ov] (eval i X.env)
   standAt pos
   holding [v,ov,iv] (setItem ov iv v)
   release [v,ov,iv] []):=by intro _;rfl):PG X (.Subscript o i pos) (N62 to ti t):=by
 intro pins s σ H v u Q I r h
 rw[ha]
 refine wpAny_bind (wpAny_holding (thn (ho pins s σ H _ I h) λov s1 ⟨x,H1,I1,r1,q1⟩=>?_))
 refine wpAny_bind (wpAny_holding (thn (hi pins s1 σ H1 _ I1 q1) λiv s2 ⟨y,H2,I2,r2,q2⟩=>?_))
 refine wpAny_bind (wpAny_standAt (wpAny_bind (wpAny_holding (thn (hs pins s2 σ H2 x y v ov iv u _ I2 r1 r2 r q2) λ_ s3 ⟨H3,I3,q3⟩=>?_))))
 exact wpAny_release ⟨σ,H3,I3,q3⟩
def k52(te:TE)(g:TG):TS:=λD σ H=>te σ H λx H1=>g x σ H1 D.nx
theorem P91(he:PE X e te)(hg:PG X tg g)(hs:swapsWithSole [tg] e pos.line X.env=pure false:=by rfl)(hw:swappedStores [tg] e X.env=pure none:=by rfl)
  (h1:(assignEach [tg] X.env).map (·.2)=[assign tg X.env]:=by rfl):PS X (.Assign [tg] e pos) (k52 te g):=by
 intro pins s σ H D I h
 refine wpAny_Assign_stores (thn (he pins s σ H _ I h) λv s1 ⟨x,H1,I1,r1,q1⟩=>?_) hs hw
 rw[h1]
 exact thn (hg pins s1 σ H1 x v _ I1 r1 q1) λ_ s2 q=>q
theorem r11{i:Nat}{x:Str}{e:Expr}{te:TE}{pos':Pos}(hN:X.N.Nodup)(hi:X.N[i]?=some x)(hx:Loc X.env.scope x)(he:PE X e te)(hs:swapsWith e (some (.Name x pos')) pos.line X.env=pure false:=by rfl)(hf:X.fn x=true∨X.env.scope.names.lookup x=some .local:=by first | exact .inl rfl | exact .inr rfl | assumption) :
  PS X (.Assign [.Name x pos'] e pos) (k52 te (m51 i)):=by
 intro pins s σ H D I h
 refine wpAny_Assign_Name (thn (he pins s σ H _ I h) λv s1 ⟨y,H1,I1,r1,q1⟩=>?_) hs
 exact v00 I1 hN hi hx r1 (λs2 I2=>⟨_,H1,I2,q1⟩) hf
def N72(i j:Nat)(ta:TA):TS:=λD σ H=>ta σ H λvs H1=>∃ v w,vs=[v,w]∧D.nx ((σ.set i (some v)).set j (some w)) H1
theorem k62{i j:Nat}{x y:Str}{a b:Expr}{ta:TA}{px py pt:Pos}{kt k2 pt2}(hc:X.calm=true)(hN:X.N.Nodup)(hi:X.N[i]?=some x)(hj:X.N[j]?=some y)(hij:i≠j)
  (hx:X.env.scope.names.lookup x=some .local) (hy:X.env.scope.names.lookup y=some .local) (ha:PA X [a,b] ta)
  (hw:swappedStores [.Tuple [.Name x px,.Name y py] kt pt] (.Tuple [a,b] k2 pt2) X.env=pure (some [x,y]))
  (hs:swapsWithSole [.Tuple [.Name x px,.Name y py] kt pt] (.Tuple [a,b] k2 pt2) pos.line X.env=pure false:=by rfl) :
  PS X (.Assign [.Tuple [.Name x px,.Name y py] kt pt] (.Tuple [a,b] k2 pt2) pos) (N72 i j ta):=by
 intro pins s σ H D I h
 rw[exec_Assign_arm]
 refine wpAny_bind (wpAny_standAt ?_)
 rw[hs]
 refine wpAny_bind (wpAny_pure ?_)
 rw[if_neg (by decide)]
 refine wpAny_bind (Tuple_ (thn (ha _ pins s σ H _ I h) λus s1 ⟨vs,H1,I1,r1,q1⟩=>?_))
 obtain⟨v,w,e1,q1⟩:=q1
 subst e1
 obtain⟨u1,u2,rfl,rv,rw'⟩:∃ u1 u2,us=[u1,u2]∧RelV v u1∧RelV w u2:=by
  cases r1 with
  |cons p q =>
   cases q with
   |cons p' q' =>
    cases q'
    exact⟨_,_,rfl,p,p'⟩
 refine wpAny_newObj_type ?_ (by show 2≤sizeLine;decide)
 have I2:Inv X pins σ H1 { s1 with heap:=s1.heap.push { cls:=.type "tuple",data:=.seq [u1,u2].toArray } }:=I1.kept (t':=s1.toks) λb o e=>Heap.get?_push_of_some _ e
 rw[hw]
 refine wpAny_bind (wpAny_pure ?_)
 show wpAny (model X.prog X.w) X.A (do rule "assign.swapped-stores";let items ← unpackItems (.ref s1.heap.objs.size) 2 none;assignInOrder [λv=>bindName X.env y v,λv=>bindName X.env x v] items.reverse;pure Flow.next) _ _ _
 refine wpAny_bind (wpAny_rule (wpAny_bind (unpackItems_tuple (items:=#[u1,u2]) (I.ok.hd hc) (IsTup.new s1.heap _) λh' hx'=>?_)))
 have I3:=I2.kept (h':=h') (t':=s1.toks) λb o e=>hx' b o (Nat.ne_of_lt (lt_size e)) e
 show wpAny _ _ (assignInOrder [λv=>bindName X.env y v,λv=>bindName X.env x v] [u2,u1] >>= λ_=>pure Flow.next) _ _ _
 refine wpAny_bind (assignInOrder_cons (wpAny_bindName (v00 I3 hN hj (.inl hy) rw' (λs2 I4=>?_) (.inr hy))))
 refine assignInOrder_cons (wpAny_bindName (v00 I4 hN hi (.inl hx) rv (λs3 I5=>assignInOrder_nil (wpAny_pure ?_)) (.inr hx)))
 rw[List.set_comm _ _ (Ne.symm hij)] at I5
 exact⟨_,H1,I5,q1⟩
def N82(i:Nat)(te:TE)(ti:TIp):TS:=λD σ H=>∃ x,σ[i]?=some (some x)∧te σ H λy H1=>ti x y H1 λz H2=>D.nx (σ.set i (some z)) H2
theorem k72{i:Nat}{x:Str}{e:Expr}{te:TE}{op:Operator}{ti:TIp}{pos':Pos}(hN:X.N.Nodup)(hi:X.N[i]?=some x)(hx:Loc X.env.scope x)(he:PE X e te)(ho:PIp X op ti)(hf:X.fn x=true∨X.env.scope.names.lookup x=some .local:=by first | exact .inl rfl | exact .inr rfl | assumption) :
  PS X (.AugAssign (.Name x pos') op e pos) (N82 i te ti):=by
 intro pins s σ H D I h
 obtain⟨v,e1,h⟩:=h
 obtain⟨m,hn,hl⟩:=I.loc
 have vis:Vis X.env.scope x:=by rcases hx with k | k;exact .inl k;exact .inr (.inl k)
 obtain⟨u,r,l⟩:=hl i x v hi e1 vis
 refine wpAny_AugAssign_Name ?_
 have go:wpAny (model X.prog X.w) X.A (eval e X.env) (λw s₂=>wpAny (model X.prog X.w) X.A (inplaceOp op u w) (λr s₃=>wpAny (model X.prog X.w) X.A (storeName X.env x r) (λ_=>SP X pins D .next) X.xe s₃) X.xe s₂) X.xe s:=by
  refine thn (he pins s σ H _ I h) λw s1 ⟨y,H1,I1,r1,q1⟩=>?_
  refine thn (ho pins s1 σ H1 v y u w _ I1 r r1 q1) λz s2 ⟨zv,H2,I2,r2,q2⟩=>?_
  exact v00 I2 hN hi hx r2 (λs3 I3=>⟨_,H2,I3,q2⟩) hf
 rcases l with ⟨hk,hm⟩ | ⟨hk,c,hc,hcell⟩
 ·exact wpAny_loadName_local I.ok.kind hk hn hm go
 ·rcases hk with hk | hk
  ·exact wpAny_loadName_cell I.ok.kind hk hc hcell go
  ·rcases hx with k | k
   ·have:X.env.scope.names.lookup x=some .free:=hk
    rw[k] at this;cases this
   ·have:X.env.scope.names.lookup x=some .free:=hk
    rw[k] at this;cases this
def z62(to ti te:TE)(tget:V→V→Hp→VK→Prop)(tip:TIp)(tset:x62):TS:=λD σ H=>to σ H λo H1=>ti σ H1 λi H2=>tget o i H2 λx H3=>te σ H3 λy H4=>tip x y H4 λz H5=>tset o i z H5 λH6=>D.nx σ H6
def N92(X:Cx)(t:V→V→Hp→VK→Prop):Prop :=
 ∀ (pins:List (Addr × Obj)) (s:Shared) (σ:St) (H:Hp) (o i:V) (ov iv:Value) (Q:VK),Inv X pins σ H s→RelV o ov→RelV i iv→t o i H Q →
  wpAny (model X.prog X.w) X.A (getItem ov iv) (EP X pins σ Q) X.xe s
theorem z72{o i e:Expr}{to ti te:TE}{tget:V→V→Hp→VK→Prop}{tip:TIp}{tset:x62}{op:Operator}{tpos:Pos}(ho:PE X o to)(hi:PE X i ti)(hg:N92 X tget)(he:PE X e te)(hp:PIp X op tip)(hs:z52 X tset)
  (ha:∀ ov iv new,augStore i ov iv new=(do holding [new,ov,iv] (setItem ov iv new);release [new,ov,iv] [];pure .next):=by intros;rfl):PS X (.AugAssign (.Subscript o i tpos) op e pos) (z62 to ti te tget tip tset):=by
 intro pins s σ H D I h
 refine wpAny_AugAssign_SubscriptAny (thn (ho pins s σ H _ I h) λov s1 ⟨x1,H1,I1,r1,q1⟩=>?_) ha
 refine thn (hi pins s1 σ H1 _ I1 q1) λiv s2 ⟨x2,H2,I2,r2,q2⟩=>?_
 refine thn (hg pins s2 σ H2 x1 x2 ov iv _ I2 r1 r2 q2) λold s3 ⟨x3,H3,I3,r3,q3⟩=>?_
 refine thn (he pins s3 σ H3 _ I3 q3) λv s4 ⟨x4,H4,I4,r4,q4⟩=>?_
 refine thn (hp pins s4 σ H4 x3 x4 old v _ I4 r3 r4 q4) λnew s5 ⟨x5,H5,I5,r5,q5⟩=>?_
 exact thn (hs pins s5 σ H5 x1 x2 x5 ov iv new _ I5 r1 r2 r5 q5) λ_ s6 ⟨H6,I6,q6⟩=>⟨σ,H6,I6,q6⟩
def ipI(f:Int→Int→Int):TIp:=λx y H Q=>∃ i j,x=.int i∧y=.int j∧Q (.int (f i j)) H
theorem J72:PIp X .Add (ipI λi j=>i + j):=by
 intro pins s σ H x y v u Q I r1 r2 h
 obtain⟨i,j,e1,e2,q⟩:=h
 subst e1;subst e2
 obtain⟨t,rfl⟩:=r1
 obtain⟨t',rfl⟩:=r2
 exact iadd_int ⟨.int _,H,I.tok _,⟨_,rfl⟩,q⟩
def k82(c:TT)(tb:TS):TS:=λD σ H=>∃ W:Nat→St→Hp→Prop,(∃ m,W m σ H)∧∀ m σ H,W m σ H →
 c σ H λb H1=>if b=true then ∃ N:St→Hp→Prop,(∀ σ' H',N σ' H'→∃ m',m' < m∧W m' σ' H')∧tb { D with nx:=N,ct:=N,bk:=D.nx } σ H1 else D.nx σ H1
theorem H11(hp:PassesOwn (model X.prog X.w) X.A X.env X.xe)(hc:PT X c tc)(hb:PSs X body tb):PS X (.While c body [] pos) (k82 tc tb):=by
 intro pins s σ H D I h
 obtain⟨W,⟨m0,w0⟩,turn⟩:=h
 refine wpAny_While (codeAny_whileLoop (λn s'=>∃ σ' H',Inv X pins σ' H' s'∧W n σ' H') ?_ m0 ⟨σ,H,I,w0⟩)
 rintro n s1 ⟨σ1,H1,I1,w1⟩
 refine wpAny_passesOwn hp (thn (hc pins s1 σ1 H1 _ I1 (turn n σ1 H1 w1)) λb s2 ⟨H2,I2,q2⟩=>?_)
 cases b with
 |true =>
  obtain⟨N,hN,q2⟩:=q2
  rw[if_pos rfl]
  refine wpAny_passesOwn hp (thn (hb pins s2 σ1 H2 _ I2 q2) λf s3 q3=>?_)
  cases f with
  |next =>
   obtain⟨σ3,H3,I3,n3⟩:=q3
   obtain⟨m',hm,w3⟩:=hN σ3 H3 n3
   exact⟨m',hm,σ3,H3,I3,w3⟩
  |cont =>
   obtain⟨σ3,H3,I3,n3⟩:=q3
   obtain⟨m',hm,w3⟩:=hN σ3 H3 n3
   exact⟨m',hm,σ3,H3,I3,w3⟩
  |brk=>exact q3
  |ret v=>exact q3
 |false =>
  rw[if_neg Bool.false_ne_true]
  exact wpAny_execs_nil ⟨σ1,H2,I2,q2⟩
end
structure It where
 go:Nat→Hp→Prop
 yld:Nat→Hp→V→Hp→Prop
 stop:Nat→Hp→Prop
def m61(X:Cx)(pins:List (Addr × Obj))(H:Hp)(b:Addr):Prop :=
 H b=none∧b≠X.env.locals∧b ∉ X.fs∧(b∈X.ex∨X.s₀.heap.objs.size≤b)∧(∀ x c,X.env.cells.lookup x=some c→c≠b)∧∀ p∈X.pn++pins,p.1≠b
theorem Inv.q31(I:Inv X pins σ H s)(hb:s.heap.objs.size≤b)(hn:H' b=none):m61 X pins H' b:=by
 refine⟨hn,ne_of_gt (Nat.lt_of_lt_of_le I.lt hb),I.M82 hb,.inr (Nat.le_trans I.sz hb),λx c e z=>?_,λp hp z=>?_⟩
 ·obtain⟨v,q⟩:=I.cell x c e
  exact absurd (Nat.lt_of_lt_of_le q.lt (by rw[z];exact hb)) (Nat.lt_irrefl _)
 ·exact absurd (Nat.lt_of_lt_of_le (lt_size (I.pin p hp).1) (by rw[z];exact hb)) (Nat.lt_irrefl _)
structure Turn(P:Program)(w:World)(K:PySem.W.Frag)(tg:Expr)(J:It)(fp:List Addr)(it:Addr)(tn:Nat→Heap→Prop):Prop where
 mem:it∈fp
 obj:∀ i h,tn i h→∀ b∈fp,∃ o,h.get? b=some o∧∀ v,o.data≠.cell v
 keep:∀ i h h',tn i h→(∀ b∈fp,∀ o,h.get? b=some o→h'.get? b=some o)→tn i h'
 item:∀ (X:Cx),X.prog=P→X.w=w→X.K=K→X.calm=true→∀ (i:Nat) (pins:List (Addr × Obj)) (s:Shared) (σ:St) (H:Hp) (E:Value→Shared→Prop),Inv X pins σ H s→(∀ b∈fp,m61 X pins H b)→tn i s.heap→J.go i H →
  wpAny (model P w) X.A (pyNext (.ref it)) (λr s1=>∃ u,r=some u ∧
   wpAny (model P w) X.A (letOwnedTupleGo tg (.ref it) u) (λ_ s2=>∃ x H',Inv X pins σ H' s2∧RelV x u∧J.yld i H x H'∧tn (i + 1) s2.heap∧∀ b∈fp,H' b=none) E s1) E s
 done:∀ (X:Cx),X.prog=P→X.w=w→X.K=K→X.calm=true→∀ (i:Nat) (pins:List (Addr × Obj)) (s:Shared) (σ:St) (H:Hp) (E:Value→Shared→Prop),Inv X pins σ H s→(∀ b∈fp,m61 X pins H b)→tn i s.heap→J.stop i H →
  wpAny (model P w) X.A (pyNext (.ref it)) (λr s1=>r=none∧Inv X pins σ H s1) E s
 self:∀ (A:Around) (i:Nat) (s:Shared) (Q:Value→Shared→Prop) (E:Value→Shared→Prop),tn i s.heap→Q (.ref it) s→wpAny (model P w) A (pyIter (.ref it)) Q E s
abbrev TI:=St→Hp→(It→Hp→Prop)→Prop
def PIE(X:Cx)(pins:List (Addr × Obj))(σ:St)(tg:Expr)(R:It→Hp→Prop)(itv:Value)(s2:Shared):Prop :=
 ∃ (it:Addr) (fp:List Addr) (tn:Nat→Heap→Prop) (J:It) (H':Hp),itv=.ref it∧Inv X pins σ H' s2∧Turn X.prog X.w X.K tg J fp it tn∧tn 0 s2.heap∧(∀ b∈fp,m61 X pins H' b)∧R J H'
def PI(X:Cx)(tg iter:Expr)(wi:TI):Prop :=
 ∀ (pins:List (Addr × Obj)) (s:Shared) (σ:St) (H:Hp) (R:It→Hp→Prop),Inv X pins σ H s→wi σ H R →
  wpAny (model X.prog X.w) X.A (eval iter X.env) (λv s1=>wpAny (model X.prog X.w) X.A (pyIter v) (PIE X pins σ tg R) X.xe s1) X.xe s
theorem U91{M:Model}{A:Around}{E:Value→Shared→Prop}{s:Shared}{tg:Expr}{it:Addr}{u:Value}{o:Obj}{n:String}{vs:Array Value}{Q:Unit→Shared→Prop}(ho:s.heap.get? it=some o)(hc:o.cls=.type n)(hd:o.data=.fields vs)
  (hn:["enumerate","zip","dict_itemiterator","dict_reverseitemiterator","odict_iterator","itertools.zip_longest","itertools.pairwise"].contains n=false) (hQ:Q () s):wpAny M A (letOwnedTupleGo tg (.ref it) u) Q E s:=by
 unfold letOwnedTupleGo
 cases tg <;> first
  |exact wpAny_pure hQ
  |(cases u <;> first
    |exact wpAny_pure hQ
    |(refine wpAny_bind (wpAny_load ho ?_)
      rw[hc,hd]
      show wpAny M A (if (["enumerate","zip","dict_itemiterator","dict_reverseitemiterator","odict_iterator","itertools.zip_longest","itertools.pairwise"].contains n&&vs[0]? == some (rawInt _))=true then _ else _) Q E s
      rw[if_neg (by intro h;rw[hn,Bool.false_and] at h;cases h)]
      exact wpAny_pure hQ))
def Itl(K:PySem.W.Frag)(a:Addr):It :=
 ⟨λi H=>∃ xs x,SqL K H a xs∧xs[i]?=some x,λi H x H'=>H'=H∧∀ xs,SqL K H a xs→xs[i]?=some x,λi H=>∃ xs,SqL K H a xs∧xs.length≤i⟩
def Itt(K:PySem.W.Frag)(a:Addr):It :=
 ⟨λi H=>∃ xs x,SqT K H a xs∧xs[i]?=some x,λi H x H'=>H'=H∧∀ xs,SqT K H a xs→xs[i]?=some x,λi H=>∃ xs,SqT K H a xs∧xs.length≤i⟩
def Itr(lo:Int)(n:Nat):It:=⟨λi _=>i < n,λi H x H'=>H'=H∧x=.int (lo + i),λi _=>n≤i⟩
theorem r21{P:Program}{w:World}{K:PySem.W.Frag}{tg:Expr}(a it:Addr):Turn P w K tg (Itl K a) [it] it (λi h=>h.IsListIter it a i) where
 mem:=by simp
 obj:=λi h st b hb=>by
  have e:b=it:=by simpa using hb
  subst e
  obtain⟨o,e,c,d⟩:=st
  exact⟨o,e,λv z=>by rw[d] at z;cases z⟩
 keep:=λi h h' st k=>st.at λo e=>k it (by simp) o e
 item:=by
  intro X hP hw hK hc i pins s σ H E I hf st hg
  subst hP hw hK
  obtain⟨xs,x,hq,hx⟩:=hg
  obtain⟨its,rv,p,hz⟩:=I.list hq
  obtain⟨u,hu,ru⟩:=rv.get hx
  obtain⟨f0,f1,f2,f3,f4,f5⟩:=hf it (by simp)
  refine wpAny_pyNext_list_item st p.isList (x:=u) (by simpa using hu) λh' st' sb=>?_
  have I1:Inv X pins σ H { s with heap:=h' }:=I.turned (t':=s.toks) (λb o hb e=>(sb.2 b hb).trans e) f0 f1 f3 f4 f5
  obtain⟨o,e,c,d⟩:=id st'
  exact⟨u,rfl,U91 (s:={ s with heap:=h' }) e c d (by decide) ⟨x,H,I1,ru,⟨rfl,λys hy=>by rw[I.g21 hy hq];exact hx⟩,st',λb hb=>(hf b hb).1⟩⟩
 done:=by
  intro X hP hw hK hc i pins s σ H E I hf st hg
  subst hP hw hK
  obtain⟨xs,hq,hx⟩:=hg
  obtain⟨its,rv,p,hz⟩:=I.list hq
  obtain⟨f0,f1,f2,f3,f4,f5⟩:=hf it (by simp)
  have hl:=rv.length
  exact wpAny_pyNext_list_end (I.ok.hd hc) st p.isList (by simp;omega) λh' eb=>⟨rfl,I.turned (t':=s.toks) (λb o hb e=>eb b o hb e) f0 f1 f3 f4 f5⟩
 self:=λ_ _ _ _ _ st h=>wpAny_pyIter_listiter st h
theorem m71{P:Program}{w:World}{K:PySem.W.Frag}{tg:Expr}(a it:Addr):Turn P w K tg (Itt K a) [it] it (λi h=>h.IsTupleIter it a i) where
 mem:=by simp
 obj:=λi h st b hb=>by
  have e:b=it:=by simpa using hb
  subst e
  obtain⟨o,e,c,d⟩:=st
  exact⟨o,e,λv z=>by rw[d] at z;cases z⟩
 keep:=λi h h' st k=>st.at λo e=>k it (by simp) o e
 item:=by
  intro X hP hw hK hc i pins s σ H E I hf st hg
  subst hP hw hK
  obtain⟨xs,x,hq,hx⟩:=hg
  obtain⟨its,rv,p,hz⟩:=I.tuple hq
  obtain⟨u,hu,ru⟩:=rv.get hx
  obtain⟨f0,f1,f2,f3,f4,f5⟩:=hf it (by simp)
  refine wpAny_pyNext_tuple_item st (show s.heap.IsTuple a its.toArray from p) (x:=u) (by simpa using hu) λh' st' sb=>?_
  have I1:Inv X pins σ H { s with heap:=h' }:=I.turned (t':=s.toks) (λb o hb e=>(sb.2 b hb).trans e) f0 f1 f3 f4 f5
  obtain⟨o,e,c,d⟩:=id st'
  exact⟨u,rfl,U91 (s:={ s with heap:=h' }) e c d (by decide) ⟨x,H,I1,ru,⟨rfl,λys hy=>by rw[I.R10 hy hq];exact hx⟩,st',λb hb=>(hf b hb).1⟩⟩
 done:=by
  intro X hP hw hK hc i pins s σ H E I hf st hg
  subst hP hw hK
  obtain⟨xs,hq,hx⟩:=hg
  obtain⟨its,rv,p,hz⟩:=I.tuple hq
  obtain⟨f0,f1,f2,f3,f4,f5⟩:=hf it (by simp)
  have hl:=rv.length
  exact wpAny_pyNext_tuple_end (I.ok.hd hc) st (show s.heap.IsTuple a its.toArray from p) (by simp;omega) λh' eb=>⟨rfl,I.turned (t':=s.toks) (λb o hb e=>eb b o hb e) f0 f1 f3 f4 f5⟩
 self:=λ_ _ _ _ _ st h=>wpAny_pyIter_tupleiter st h
theorem m81{P:Program}{w:World}{K:PySem.W.Frag}{tg:Expr}(it:Addr)(lo:Int)(n:Nat):Turn P w K tg (Itr lo n) [it] it (λi h=>IsRangeIter h it (lo + (i:Nat) * 1) ((n:Int) - (i:Nat)) 1) where
 mem:=by simp
 obj:=λi h st b hb=>by
  have e:b=it:=by simpa using hb
  subst e
  exact⟨_,st,λv z=>by
   have z':Data.fields _=Data.cell v:=z
   cases z'⟩
 keep:=λi h h' st k=>k it (by simp) _ st
 item:=by
  intro X hP hw hK hc i pins s σ H E I hf st hg
  subst hP hw hK
  obtain⟨f0,f1,f2,f3,f4,f5⟩:=hf it (by simp)
  have W:=Walks.range (prog:=X.prog) (w:=X.w) (I.ok.hd hc) it lo 1 n
  refine W.item i s _ _ hg st λv h' tk hv st' kk=>?_
  obtain⟨t,rfl⟩:=hv
  have I1:Inv X pins σ H { s with heap:=h',toks:=tk }:=I.turned (λb o hb e=>kk b o (by simpa using hb) e) f0 f1 f3 f4 f5
  refine⟨_,rfl,U91 (s:={ s with heap:=h',toks:=tk }) (n:="range_iterator") st' rfl rfl (by decide) ⟨.int (lo + i),H,I1,⟨t,?_⟩,⟨rfl,rfl⟩,st',λb hb=>(hf b hb).1⟩⟩
  rw[Int.mul_one]
 done:=by
  intro X hP hw hK hc i pins s σ H E I hf st hg
  subst hP hw hK
  obtain⟨f0,f1,f2,f3,f4,f5⟩:=hf it (by simp)
  exact wpAny_pyNext_range_end (I.ok.hd hc) st (by have:n≤i:=hg;omega) λh' eb=>⟨rfl,I.turned (t':=s.toks) (λb o hb e=>eb b o hb e) f0 f1 f3 f4 f5⟩
 self:=λ_ _ _ _ _ st h=>wpAny_pyIter_rangeiter st h
section
variable {X:Cx}{tg:Expr}
def z82(K:PySem.W.Frag)(tl:TE):TI:=λσ H R=>tl σ H λx H1=>∃ a,x=.ref a∧(∃ xs,SqL K H1 a xs)∧R (Itl K a) H1
def O02(K:PySem.W.Frag)(tl:TE):TI:=λσ H R=>tl σ H λx H1=>∃ a,x=.ref a∧(∃ xs,SqT K H1 a xs)∧R (Itt K a) H1
theorem Z60{l:Expr}{tl:TE}(hl:PE X l tl):PI X tg l (z82 X.K tl):=by
 intro pins s σ H R I h
 refine thn (hl pins s σ H _ I h) λv s1 ⟨x,H1,I1,r1,q1⟩=>?_
 obtain⟨a,e,⟨xs,hq⟩,q⟩:=q1
 subst e
 cases r1
 obtain⟨its,rv,p,hz⟩:=I1.list hq
 refine wpAny_pyIter_list p.isList ?_
 refine⟨s1.heap.objs.size,[s1.heap.objs.size],_,_,H1,rfl,I1.kept (t':=s1.toks) λb o e=>Heap.get?_push_of_some _ e,r21 a _,⟨_,Heap.get?_push_size _ rfl,rfl,rfl⟩,λb hb=>?_,q⟩
 have e:b=s1.heap.objs.size:=by simpa using hb
 subst e
 exact I1.q31 (Nat.le_refl _) (I1.hok.fresh (Nat.le_refl _))
theorem Q01{l:Expr}{tl:TE}(hl:PE X l tl):PI X tg l (O02 X.K tl):=by
 intro pins s σ H R I h
 refine thn (hl pins s σ H _ I h) λv s1 ⟨x,H1,I1,r1,q1⟩=>?_
 obtain⟨a,e,⟨xs,hq⟩,q⟩:=q1
 subst e
 cases r1
 obtain⟨its,rv,p,hz⟩:=I1.tuple hq
 refine wpAny_pyIter_tuple (show s1.heap.IsTuple a its.toArray from p) ?_
 refine⟨s1.heap.objs.size,[s1.heap.objs.size],_,_,H1,rfl,I1.kept (t':=s1.toks) λb o e=>Heap.get?_push_of_some _ e,m71 a _,⟨_,Heap.get?_push_size _ rfl,rfl,rfl⟩,λb hb=>?_,q⟩
 have e:b=s1.heap.objs.size:=by simpa using hb
 subst e
 exact I1.q31 (Nat.le_refl _) (I1.hok.fresh (Nat.le_refl _))
theorem g31{pins:List (Addr × Obj)}{σ:St}{H:Hp}{s:Shared}{R:It→Hp→Prop}{E:Value→Shared→Prop}{lo hi:Int}{t u v:Tok}{tk:Nat}(I:Inv X pins σ H s)(h1:-(2 ^ 62)≤lo)(h2:lo < 2 ^ 62)(h3:-(2 ^ 62)≤hi)(h4:hi < 2 ^ 62)
  (q:R (Itr lo (hi - lo).toNat) H):wpAny (model X.prog X.w) X.A (pyIter (.ref s.heap.objs.size)) (PIE X pins σ tg R) E { s with heap:=s.heap.push { cls:=.type "range",data:=.fields #[.int lo t,.int hi u,.int 1 v] },toks:=tk }:=by
 refine wpAny_pyIter_range (IsRange.new ..) (small_one h1 h2 h3 h4) ?_
 have I1:Inv X pins σ H { s with heap:=s.heap.push { cls:=.type "range",data:=.fields #[.int lo t,.int hi u,.int 1 v] },toks:=tk }:=I.kept λb o e=>Heap.get?_push_of_some _ e
 refine⟨(s.heap.push { cls:=.type "range",data:=.fields #[.int lo t,.int hi u,.int 1 v] }).objs.size,[(s.heap.push { cls:=.type "range",data:=.fields #[.int lo t,.int hi u,.int 1 v] }).objs.size],_,_,H,rfl,
  I1.kept (t':=tk) λb o e=>Heap.get?_push_of_some _ e,m81 _ lo (hi - lo).toNat,?_,λb hb=>?_,q⟩
 ·have e1:lo + ((0:Nat):Int) * 1=lo:=by simp
  have e2:(((hi - lo).toNat:Nat):Int) - ((0:Nat):Int)=Builtin.Range.rangeSize lo hi 1:=by rw[rangeSize_one];split <;> omega
  show IsRangeIter _ _ (lo + ((0:Nat):Int) * 1) ((((hi - lo).toNat:Nat):Int) - ((0:Nat):Int)) 1
  rw[e1,e2]
  exact Heap.get?_push_size _ rfl
 ·have e:b=(s.heap.push { cls:=.type "range",data:=.fields #[.int lo t,.int hi u,.int 1 v] }).objs.size:=by simpa using hb
  subst e
  exact I1.q31 (Nat.le_refl _) (I1.hok.fresh (Nat.le_refl _))
def z92(ta:TA):TI:=λσ H R=>ta σ H λvs H1=>∃ j:Int,vs=[.int j]∧-(2 ^ 62)≤j∧j < 2 ^ 62∧R (Itr 0 j.toNat) H1
def A02(ta:TA):TI:=λσ H R=>ta σ H λvs H1=>∃ i j:Int,vs=[.int i,.int j]∧(-(2 ^ 62)≤i∧i < 2 ^ 62∧-(2 ^ 62)≤j∧j < 2 ^ 62)∧R (Itr i (j - i).toNat) H1
theorem r31{a:Expr}{ta:TA}{p pos:Pos}(hg:Gl X "range")(hm:X.mg "range"=none)(ha:PA X [a] ta)(hs:starEach [a] X.env=[(false,eval a X.env)]:=by rfl):PI X tg (.Call (.Name "range" p) [a] [] pos) (z92 ta):=by
 intro pins s σ H R I h
 refine Call_ (v40 I hg hm boot_range (PyProof.Rows.callWith_type1 (thn (ha pos pins s σ H _ I h) λus s1 ⟨vs,H1,I1,r1,q1⟩=>?_) hs rfl))
 obtain⟨j,e,q1,q2,q⟩:=q1
 subst e
 cases r1 with
 |cons r rr =>
  cases rr
  obtain⟨t,rfl⟩:=r
  exact call_range_1 (g31 I1 (by omega) (by omega) q1 q2 (by simpa using q))
theorem r41{a b:Expr}{ta:TA}{p pos:Pos}(hg:Gl X "range")(hm:X.mg "range"=none)(ha:PA X [a,b] ta)(hs:starEach [a,b] X.env=[(false,eval a X.env),(false,eval b X.env)]:=by rfl)(hs2:starEach [b] X.env=[(false,eval b X.env)]:=by rfl) :
  PI X tg (.Call (.Name "range" p) [a,b] [] pos) (A02 ta):=by
 intro pins s σ H R I h
 refine Call_ (v40 I hg hm boot_range (PyProof.Rows.callWith_type1 (thn (ha pos pins s σ H _ I h) λus s1 ⟨vs,H1,I1,r1,q1⟩=>?_) (by rw[hs,hs2]) (by rw[hs2];rfl)))
 obtain⟨i,j,e,⟨q1,q2,q3,q4⟩,q⟩:=q1
 subst e
 cases r1 with
 |cons r rr =>
  cases rr with
  |cons r' rr =>
   cases rr
   obtain⟨t,rfl⟩:=r
   obtain⟨t',rfl⟩:=r'
   exact call_range_2 (g31 I1 q1 q2 q3 q4 q)
def O12(wi:TI)(g:TG)(tb:TS):TS:=λD σ H=>wi σ H λJ H1=>∃ W:Nat→Nat→St→Hp→Prop,(∃ m,W 0 m σ H1)∧∀ i m σ H,W i m σ H →
 (J.stop i H∧D.nx σ H)∨(J.go i H∧∃ N:St→Hp→Prop,(∀ σ' H',N σ' H'→∃ m',m' < m∧W (i + 1) m' σ' H')∧∀ x H',J.yld i H x H'→g x σ H' λσ2 H2=>tb { D with nx:=N,ct:=N,bk:=D.nx } σ2 H2)
def C70(fp:List Addr)(h:Heap):List (Addr × Obj):=fp.filterMap λb=>(h.get? b).map λo=>(b,o)
theorem l10(hb:b∈fp)(e:h.get? b=some o):(b,o)∈C70 fp h:=List.mem_filterMap.mpr ⟨b,hb,by rw[e];rfl⟩
theorem R20(hp:p∈C70 fp h):p.1∈fp∧h.get? p.1=some p.2:=by
 obtain⟨b,hb,e⟩:=List.mem_filterMap.mp hp
 cases q:h.get? b with
 |none=>rw[q] at e;cases e
 |some o =>
  rw[q] at e
  have e':(b,o)=p:=Option.some.inj e
  subst e'
  exact⟨hb,q⟩
theorem Inv.pinned(I:Inv X pins σ H s)(hf:∀ b∈fp,m61 X pins H b)(ho:∀ b∈fp,∃ o,s.heap.get? b=some o∧∀ v,o.data≠.cell v):Inv X (pins++C70 fp s.heap) σ H s :=
 I.C60 λp hp=>(List.mem_append.mp hp).elim (λz=>I.pin p (mem_append_right _ z)) λz=>by
  obtain⟨hb,e⟩:=R20 z
  obtain⟨f0,f1,f2,_⟩:=hf p.1 hb
  obtain⟨o,e',d⟩:=ho p.1 hb
  rw[e] at e';cases e'
  exact⟨e,f0,f1,f2,d⟩
theorem Inv.K10{pins pl:List (Addr × Obj)}{σ:St}{H:Hp}{s:Shared}(I:Inv X (pins++pl) σ H s):Inv X pins σ H s:=I.C60 λp hp=>I.pin p (mem_append_right _ (mem_append_left _ hp))
theorem Q11{iter:Expr}{body:List Stmt}{wi:TI}{g:TG}{tb:TS}{pos:Pos}(hp:PassesOwn (model X.prog X.w) X.A X.env X.xe)(hc:X.calm=true)(hi:PI X tg iter wi)(hg:PG X tg g)(hb:PSs X body tb)
  (hs:∀ x,foldedSetIterable iter X.env x=pure x:=by intro _;rfl):PS X (.For tg iter body [] pos) (O12 wi g tb):=by
 intro pins s σ H D I h
 refine wpAny_For (thn (hi pins s σ H _ I h) λv s1 h1=>thn h1 λitv s2 h2=>?_) hs
 obtain⟨it,fp,tn,J,H2,e,I2,T,st2,f2,W,⟨m0,w0⟩,turn⟩:=h2
 subst e
 have stat:∀ {H':Hp},(∀ b∈fp,H' b=none)→∀ b∈fp,m61 X pins H' b:=λhn b hb=>⟨hn b hb,(f2 b hb).2⟩
 refine codeAny_forLoop_any (λn s'=>∃ i σ' H',Inv X pins σ' H' s'∧tn i s'.heap∧(∀ b∈fp,H' b=none)∧W i n σ' H') ?_ m0 ⟨0,σ,H2,I2,st2,λb hb=>(f2 b hb).1,w0⟩
 rintro n s3 ⟨i,σ3,H3,I3,st3,fr3,w3⟩
 rcases turn i n σ3 H3 w3 with ⟨stop,qn⟩ | ⟨go,N,hN,step⟩
 ·refine wpAny_passesOwn hp (thn (T.done X rfl rfl rfl hc i pins s3 σ3 H3 X.xe I3 (stat fr3) st3 stop) λr s4 ⟨hr,I4⟩=>?_)
  subst hr
  exact wpAny_execs_nil ⟨σ3,H3,I4,qn⟩
 ·refine wpAny_passesOwn hp (thn (T.item X rfl rfl rfl hc i pins s3 σ3 H3 X.xe I3 (stat fr3) st3 go) λr s4 ⟨u,hr,h4⟩=>?_)
  subst hr
  refine wpAny_passesOwn hp (thn h4 λ_ s5 ⟨x,H5,I5,r5,y5,st5,fr5⟩=>?_)
  have I5':=I5.pinned (stat fr5) (T.obj _ _ st5)
  refine wpAny_passesOwn hp (thn (hg _ s5 σ3 H5 x u _ I5' r5 (step x H5 y5)) λ_ s6 ⟨σ6,H6,I6,q6⟩=>?_)
  refine wpAny_passesOwn hp (thn (hb _ s6 σ6 H6 _ I6 q6) λf s7 q7=>?_)
  have again:∀ {σ7:St}{H7:Hp},Inv X (pins++C70 fp s5.heap) σ7 H7 s7→N σ7 H7→∃ m,m < n∧∃ i σ' H',Inv X pins σ' H' s7∧tn i s7.heap∧(∀ b∈fp,H' b=none)∧W i m σ' H':=λ{σ7 H7} I7 n7=>by
   obtain⟨m',hm,w7⟩:=hN σ7 H7 n7
   refine⟨m',hm,i + 1,σ7,H7,I7.K10,T.keep _ _ _ st5 λb hb o e=>(I7.pin (b,o) (mem_append_right _ (mem_append_right _ (l10 hb e)))).1,λb hb=>?_,w7⟩
   obtain⟨o,e,d⟩:=T.obj _ _ st5 b hb
   exact(I7.pin (b,o) (mem_append_right _ (mem_append_right _ (l10 hb e)))).2.1
  cases f with
  |next=>obtain⟨σ7,H7,I7,n7⟩:=q7;exact again I7 n7
  |cont=>obtain⟨σ7,H7,I7,n7⟩:=q7;exact again I7 n7
  |brk=>obtain⟨σ7,H7,I7,q7⟩:=q7;exact⟨σ7,H7,I7.K10,q7⟩
  |ret v=>obtain⟨x7,σ7,H7,I7,r7,q7⟩:=q7;exact⟨x7,σ7,H7,I7.K10,r7,q7⟩
end
abbrev R2:=V→V→Hp→VK→Prop
def OpR(X:Cx)(f:Value→Value→Sem Value)(r:R2):Prop :=
 ∀ (pins:List (Addr × Obj)) (s:Shared) (σ:St) (H:Hp) (x y:V) (v u:Value) (Q:VK),Inv X pins σ H s→RelV x v→RelV y u→r x y H Q →
  wpAny (model X.prog X.w) X.A (f v u) (EP X pins σ Q) X.xe s
def UnR(X:Cx)(f:Value→Sem Value)(r:V→Hp→VK→Prop):Prop :=
 ∀ (pins:List (Addr × Obj)) (s:Shared) (σ:St) (H:Hp) (x:V) (v:Value) (Q:VK),Inv X pins σ H s→RelV x v→r x H Q →
  wpAny (model X.prog X.w) X.A (f v) (EP X pins σ Q) X.xe s
def f80(X:Cx)(f:Value)(r:List V→Hp→VK→Prop):Prop :=
 ∀ (pins:List (Addr × Obj)) (s:Shared) (σ:St) (H:Hp) (xs:List V) (us:List Value) (Q:VK),Inv X pins σ H s→Vals xs us→r xs H Q →
  wpAny (model X.prog X.w) X.A (call f us) (EP X pins σ Q) X.xe s
def tOp(r:R2)(ta tb:TE):TE:=λσ H Q=>ta σ H λx H1=>tb σ H1 λy H2=>r x y H2 Q
def tUn(r:V→Hp→VK→Prop)(ta:TE):TE:=λσ H Q=>ta σ H λx H1=>r x H1 Q
def rI(C:Int→Int→Prop)(g:Int→Int→V):R2:=λx y H Q=>∃ i j,x=.int i∧y=.int j∧C i j∧Q (g i j) H
def rI0(g:Int→Int→V):R2:=λx y H Q=>∃ i j,x=.int i∧y=.int j∧Q (g i j) H
def rU(g:Int→V):V→Hp→VK→Prop:=λx H Q=>∃ i,x=.int i∧Q (g i) H
section
variable {X:Cx}{a b c:Expr}{ta tb tc:TE}{pos:Pos}
theorem A12(ha:PE X a ta)(hb:PE X b tb){pins:List (Addr × Obj)}{s:Shared}{σ:St}{H:Hp}{R:V→V→Hp→Prop}(I:Inv X pins σ H s)
  (h:ta σ H λx H1=>tb σ H1 λy H2=>R x y H2) {Q:Value→Shared→Prop}{f:Value→Value→Sem Value}
  (hf:∀ v u s2 x y H2,Inv X pins σ H2 s2→RelV x v→RelV y u→R x y H2→wpAny (model X.prog X.w) X.A (f v u) Q X.xe s2) :
  wpAny (model X.prog X.w) X.A (eval a X.env) (λv s₁=>wpAny (model X.prog X.w) X.A (eval b X.env) (λu s₂=>wpAny (model X.prog X.w) X.A (f v u) Q X.xe s₂) X.xe s₁) X.xe s:=by
 refine thn (ha pins s σ H _ I h) λv s1 ⟨x,H1,I1,r1,q1⟩=>?_
 refine thn (hb pins s1 σ H1 _ I1 q1) λu s2 ⟨y,H2,I2,r2,q2⟩=>?_
 exact hf v u s2 x y H2 I2 r1 r2 q2
theorem A22{op:Operator}{r:R2}(ho:OpR X (binaryOp op) r)(ha:PE X a ta)(hb:PE X b tb):PE X (.BinOp a op b pos) (tOp r ta tb):=by
 intro pins s σ H Q I h
 exact wpAny_BinOp (A12 ha hb I h λv u s2 x y H2 I2 rx ry q=>ho pins s2 σ H2 x y v u Q I2 rx ry q)
theorem A32(ho:UnR X (unaryOp op) r)(ha:PE X a ta):PE X (.UnaryOp op a pos) (tUn r ta):=by
 intro pins s σ H Q I h
 exact UnaryOp_ (thn (ha pins s σ H _ I h) λv s1 ⟨x,H1,I1,r1,q1⟩=>ho pins s1 σ H1 x v Q I1 r1 q1)
theorem opI{f:Value→Value→Sem Value}{C:Int→Int→Prop}{g:Int→Int→Int}
  (rule:∀ (i j:Int) (t u:Tok) (s:Shared) (Q:Value→Shared→Prop) (E:Value→Shared→Prop),C i j→Q (.int (g i j) s.toks) { s with toks:=s.toks + 1 }→wpAny (model X.prog X.w) X.A (f (.int i t) (.int j u)) Q E s) :
  OpR X f (rI C λi j=>.int (g i j)):=by
 intro pins s σ H x y v u Q I rx ry h
 obtain⟨i,j,rfl,rfl,hc,q⟩:=h
 obtain⟨t,rfl⟩:=rx
 obtain⟨t',rfl⟩:=ry
 exact rule i j t t' s _ _ hc ⟨.int (g i j),H,I.tok _,⟨_,rfl⟩,q⟩
theorem A42{f:Value→Value→Sem Value}{g:Int→Int→Int}
  (rule:∀ (i j:Int) (t u:Tok) (s:Shared) (Q:Value→Shared→Prop) (E:Value→Shared→Prop),Q (.int (g i j) s.toks) { s with toks:=s.toks + 1 }→wpAny (model X.prog X.w) X.A (f (.int i t) (.int j u)) Q E s) :
  OpR X f (rI0 λi j=>.int (g i j)):=by
 intro pins s σ H x y v u Q I rx ry h
 obtain⟨i,j,rfl,rfl,q⟩:=h
 obtain⟨t,rfl⟩:=rx
 obtain⟨t',rfl⟩:=ry
 exact rule i j t t' s _ _ ⟨.int (g i j),H,I.tok _,⟨_,rfl⟩,q⟩
theorem A52{f:Value→Value→Sem Value}{g:Int→Int→Bool}
  (rule:∀ (i j:Int) (t u:Tok) (s:Shared) (Q:Value→Shared→Prop) (E:Value→Shared→Prop),Q (.bool (g i j)) s→wpAny (model X.prog X.w) X.A (f (.int i t) (.int j u)) Q E s) :
  OpR X f (rI0 λi j=>.bl (g i j)):=by
 intro pins s σ H x y v u Q I rx ry h
 obtain⟨i,j,rfl,rfl,q⟩:=h
 obtain⟨t,rfl⟩:=rx
 obtain⟨t',rfl⟩:=ry
 exact rule i j t t' s _ _ ⟨.bl (g i j),H,I,rfl,q⟩
def J82(i j:Int):Prop:=0≤j∧j≤1000000∧i.natAbs < 2 ^ 64
theorem k92:OpR X (binaryOp .Add) (rI0 λi j=>.int (i + j)):=A42 λ_ _ _ _ _ _ _ q=>add_int q
theorem l02:OpR X (binaryOp .Sub) (rI0 λi j=>.int (i - j)):=A42 λ_ _ _ _ _ _ _ q=>sub_int q
theorem l12:OpR X (binaryOp .Mod) (rI (λ_ j=>0 < j) λi j=>.int (i % j)):=opI λi j _ _ _ _ _ hc q=>by
 have h1:(0:Int) < j:=hc
 exact mod_int' (by omega) (by rw[Int.fmod_eq_emod_of_nonneg i (by omega)];exact q)
theorem l22:OpR X (binaryOp .Pow) (rI J82 λi j=>.int (i ^ j.toNat)):=opI λ_ _ _ _ _ _ _ hc q=>pow_int_small hc.1 hc.2.1 hc.2.2 q
theorem J92:OpR X (binaryOp .LShift) (rI J82 λi j=>.int (i * 2 ^ j.toNat)):=opI λ_ _ _ _ _ _ _ hc q=>lshift_int_small hc.1 hc.2.1 hc.2.2 q
theorem K02:OpR X (binaryOp .BitAnd) (rI0 λi j=>.int (Builtin.bitAnd i j)):=A42 λ_ _ _ _ _ _ _ q=>and_int q
theorem unI{f:Value→Sem Value}{g:Int→Int}
  (rule:∀ (i:Int) (t:Tok) (s:Shared) (Q:Value→Shared→Prop) (E:Value→Shared→Prop),Q (.int (g i) s.toks) { s with toks:=s.toks + 1 }→wpAny (model X.prog X.w) X.A (f (.int i t)) Q E s) :
  UnR X f (rU λi=>.int (g i)):=by
 intro pins s σ H x v Q I rx h
 obtain⟨i,rfl,q⟩:=h
 obtain⟨t,rfl⟩:=rx
 exact rule i t s _ _ ⟨.int (g i),H,I.tok _,⟨_,rfl⟩,q⟩
theorem l32:UnR X (unaryOp .USub) (rU λi=>.int (-i)):=unI λ_ _ _ _ _ q=>neg_int q
theorem g41{k k':Bool}(I:Inv X pins σ H s)(q:Q (.bl k) H)(e:k=k'):EP X pins σ Q (.bool k') s:=by
 subst e
 exact⟨.bl k,H,I,rfl,q⟩
theorem A62:OpR X (compareOp .LtE) (rI0 λi j=>.bl (decide (i≤j))):=A52 λ_ _ _ _ _ _ _ q=>le_int q
theorem A72:OpR X (compareOp .Gt) (rI0 λi j=>.bl (decide (j < i))):=A52 λ_ _ _ _ _ _ _ q=>gt_int q
theorem A82:OpR X (compareOp .GtE) (rI0 λi j=>.bl (decide (j≤i))):=A52 λ_ _ _ _ _ _ _ q=>ge_int q
theorem l42:OpR X (compareOp .Is) (λx y H Q=>y=.non∧Q (.bl (decide (x=.non))) H):=by
 intro pins s σ H x y v u Q I rx ry h
 obtain⟨rfl,q⟩:=h
 cases ry
 refine is_none_gen (g41 I q ?_)
 cases x <;> first
  |(cases rx;rfl)
  |(obtain⟨t,rfl⟩:=rx;rfl)
theorem V01:OpR X (compareOp .IsNot) (λx y H Q=>y=.non∧Q (.bl (!decide (x=.non))) H):=by
 intro pins s σ H x y v u Q I rx ry h
 obtain⟨rfl,q⟩:=h
 cases ry
 refine isnot_none_gen (g41 I q ?_)
 cases x <;> first
  |(cases rx;rfl)
  |(obtain⟨t,rfl⟩:=rx;rfl)
theorem V11(ho:OpR X (compareOp op) r)(ha:PE X a ta)(hb:PE X b tb)(hm:behindInMarks op b=false):PE X (.Compare a [op] [b] pos) (tOp r ta tb):=by
 intro pins s σ H Q I h
 exact wpAny_Compare1 (A12 ha hb I h λv u s2 x y H2 I2 rx ry q=>ho pins s2 σ H2 x y v u Q I2 rx ry q) hm
def l52(t:TE):TT:=λσ H Q=>t σ H λx H'=>∃ k,x=.bl k∧Q k H'
theorem V21(ho:OpR X (compareOp op) r)(ha:PE X a ta)(hb:PE X b tb)(hm:behindInMarks op b=false):PT X (.Compare a [op] [b] pos) (l52 (tOp r ta tb)):=by
 intro pins s σ H Q I h
 refine wpAny_isTrue_Compare1 (thn (ha pins s σ H _ I h) λv s1 ⟨x,H1,I1,r1,q1⟩=>thn (hb pins s1 σ H1 _ I1 q1) λu s2 ⟨y,H2,I2,r2,q2⟩ =>
  thn (ho pins s2 σ H2 x y v u _ I2 r1 r2 q2) λc s3 ⟨z,H3,I3,r3,k,e,q3⟩=>?_) hm
 subst e
 cases r3
 exact wpAny_truthy_bool ⟨H3,I3,q3⟩
def r51(r r':R2)(ta tb tc:TE):TE:=λσ H Q=>ta σ H λx H1=>tb σ H1 λy H2=>r x y H2 λz H3=>∃ k,z=.bl k ∧
 (if k=true then tc σ H3 λw' H4=>r' y w' H4 Q else Q (.bl false) H3)
theorem H21(ho:OpR X (compareOp op) r)(ho':OpR X (compareOp op') r')(ha:PE X a ta)(hb:PE X b tb)(hc:PE X c tc)
  (hm:lastMarks [op,op'] [b,c]=false:=by with_unfolding_all rfl):PE X (.Compare a [op,op'] [b,c] pos) (r51 r r' ta tb tc):=by
 intro pins s σ H Q I h
 refine Compare_chain (thn (ha pins s σ H _ I h) λv s1 ⟨x,H1,I1,r1,q1⟩=>chain_link (thn (hb pins s1 σ H1 _ I1 q1) λu s2 ⟨y,H2,I2,r2,q2⟩ =>
  thn (ho pins s2 σ H2 x y v u _ I2 r1 r2 q2) λd s3 ⟨z,H3,I3,r3,k,e,q3⟩=>?_)) hm
 subst e
 cases r3
 refine wpAny_truthy_bool ?_
 cases k with
 |false=>exact ite_ff ⟨.bl false,H3,I3,rfl,q3⟩
 |true=>exact ite_tt (chain_last (thn (hc pins s3 σ H3 _ I3 q3) λw' s4 ⟨z',H4,I4,r4,q4⟩=>ho' pins s4 σ H4 y z' u w' Q I4 r2 r4 q4))
theorem H31(ho:OpR X (compareOp op) r)(ho':OpR X (compareOp op') r')(ha:PE X a ta)(hb:PE X b tb)(hc:PE X c tc)
  (hm:lastMarks [op,op'] [b,c]=false:=by with_unfolding_all rfl):PT X (.Compare a [op,op'] [b,c] pos) (l52 (r51 r r' ta tb tc)):=by
 intro pins s σ H Q I h
 refine isTrue_chain (thn (ha pins s σ H _ I h) λv s1 ⟨x,H1,I1,r1,q1⟩=>test_link (thn (hb pins s1 σ H1 _ I1 q1) λu s2 ⟨y,H2,I2,r2,q2⟩ =>
  thn (ho pins s2 σ H2 x y v u _ I2 r1 r2 q2) λd s3 ⟨z,H3,I3,r3,k,e,q3⟩=>?_)) hm
 subst e
 cases r3
 refine wpAny_truthy_bool ?_
 cases k with
 |false =>
  obtain⟨k',e',q'⟩:=q3
  cases e'
  exact ite_ff ⟨H3,I3,q'⟩
 |true =>
  refine ite_tt (test_last (thn (hc pins s3 σ H3 _ I3 q3) λw' s4 ⟨z',H4,I4,r4,q4⟩=>thn (ho' pins s4 σ H4 y z' u w' _ I4 r2 r4 q4) λd' s5 ⟨z2,H5,I5,r5,k2,e2,q5⟩=>?_))
  subst e2
  cases r5
  exact wpAny_truthy_bool ⟨H5,I5,q5⟩
theorem g51:(sizeLine:Nat) < 2 ^ 63:=by rw[sizeLine_eq];decide
theorem vals1(r:Vals [x] us):∃ u,us=[u]∧RelV x u:=by
 cases r with
 |cons r1 r2=>cases r2;exact⟨_,rfl,r1⟩
theorem vals2(r:Vals [x,y] us):∃ u w',us=[u,w']∧RelV x u∧RelV y w':=by
 cases r with
 |cons r1 r2 =>
  cases r2 with
  |cons r3 r4=>cases r4;exact⟨_,_,rfl,r1,r3⟩
theorem H41:f80 X (.builtin "abs") (λxs H Q=>∃ i,xs=[.int i]∧Q (.int (if i < 0 then -i else i)) H):=by
 intro pins s σ H xs us Q I r h
 obtain⟨i,rfl,q⟩:=h
 obtain⟨u,rfl,t,rfl⟩:=vals1 r
 exact call_abs_int λu tk=>⟨.int (if i < 0 then -i else i),H,I.tok _,⟨_,rfl⟩,q⟩
theorem r61(hc:X.calm=true):f80 X (.builtin "max") (λxs H Q=>∃ i j,xs=[.int i,.int j]∧Q (.int (if j > i then j else i)) H):=by
 intro pins s σ H xs us Q I r h
 obtain⟨i,j,rfl,q⟩:=h
 obtain⟨u,w',rfl,⟨t,rfl⟩,⟨t',rfl⟩⟩:=vals2 r
 refine max_two_ints (I.ok.hd hc) λh' tk k=>⟨_,H,I.kept k,?_,q⟩
 by_cases hj:j > i
 ·rw[if_pos hj,if_pos hj];exact⟨_,rfl⟩
 ·rw[if_neg hj,if_neg hj];exact⟨_,rfl⟩
theorem r71(hc:X.calm=true):f80 X (.builtin "min") (λxs H Q=>∃ i j,xs=[.int i,.int j]∧Q (.int (if j < i then j else i)) H):=by
 intro pins s σ H xs us Q I r h
 obtain⟨i,j,rfl,q⟩:=h
 obtain⟨u,w',rfl,⟨t,rfl⟩,⟨t',rfl⟩⟩:=vals2 r
 refine min_two_ints (I.ok.hd hc) λh' tk k=>⟨_,H,I.kept k,?_,q⟩
 by_cases hj:j < i
 ·rw[if_pos hj,if_pos hj];exact⟨_,rfl⟩
 ·rw[if_neg hj,if_neg hj];exact⟨_,rfl⟩
theorem R30:f80 X (.type "int") (λxs H Q=>(∃ i,xs=[.int i]∧Q (.int i) H)∨∃ k,xs=[.bl k]∧Q (.int (if k then 1 else 0)) H):=by
 intro pins s σ H xs us Q I r h
 rcases h with ⟨i,rfl,q⟩ | ⟨k,rfl,q⟩
 ·obtain⟨u,rfl,t,rfl⟩:=vals1 r
  exact call_int_int ⟨.int i,H,I,⟨_,rfl⟩,q⟩
 ·obtain⟨u,rfl,r1⟩:=vals1 r
  cases r1
  exact call_int_bool ⟨.int (if k then 1 else 0),H,I.tok _,⟨_,rfl⟩,q⟩
end
structure Y90(k:Nat)(A:Around):Prop where
 hd:A.handled=none
 dp:A.depth + 3 * k + 5 < recursionLimit
 un:A.units + 16 * k + 200 < cLine
theorem Y90.deeper{k:Nat}(r:Y90 (k + 1) A)(env:Env):Y90 k (A.deeper env) :=
 ⟨r.hd,by have:=r.dp;show A.depth + 1 + 3 * k + 5 < _;omega,by have:=r.un;show A.units + 3 + 16 * k + 200 < _;omega⟩
theorem Y90.depth{k:Nat}(r:Y90 k A):A.depth < recursionLimit:=by have:=r.dp;omega
theorem Y90.units{k:Nat}(r:Y90 k A):A.units + 64 < cLine:=by have:=r.un;omega
def K12:TA:=λ_ H Q=>Q [] H
def l62(ta:TE)(tr:TA):TA:=λσ H Q=>ta σ H λx H1=>tr σ H1 λxs H2=>Q (x::xs) H2
section
variable {X:Cx}{e:Expr}{es:List Expr}{te:TE}{t:TA}{pos:Pos}
theorem C80:PA X [] K12:=λ_ _ _ _ H Q I h=>Calls.spliced_nil ⟨[],H,I,.nil,h⟩
theorem j80(ha:PE X e te)(hr:PA X es t)(hs:starEach (e::es) X.env=(false,eval e X.env)::starEach es X.env:=by rfl):PA X (e::es) (l62 te t):=by
 intro pos pins s σ H Q I h
 rw[hs]
 show wpAny _ _ (spliced ((false,eval e X.env)::backTo pos (starEach es X.env))) _ _ s
 refine Calls.spliced_cons (thn (ha pins s σ H _ I h) λu s1 ⟨x,H1,I1,r1,q1⟩=>?_)
 exact thn (hr pos pins s1 σ H1 _ I1 q1) λus s2 ⟨xs,H2,I2,r2,q2⟩=>⟨x::xs,H2,I2,.cons r1 r2,q2⟩
def O22(t:TA):TE:=λσ H Q=>t σ H λxs H1=>xs.length≤sizeLine∧∀ p,H1 p=none→Q (.ref p) (upd H1 p (.tup xs))
def O32(t:TA):TE:=λσ H Q=>t σ H λxs H1=>xs.length≤sizeLine∧∀ p,H1 p=none→Q (.ref p) (upd H1 p (.lst xs))
theorem Q21(h:PA X es t):PE X (.Tuple es x1 pos) (O22 t):=by
 intro pins s σ H Q I hq
 refine wpAny_Tuple_spliced (thn (h pos pins s σ H _ I hq) λus s1 ⟨xs,H1,I1,r,z,q⟩=>⟨by rw[← r.length];exact z,?_⟩)
 have hf:H1 s1.heap.objs.size=none:=I1.hok.fresh (Nat.le_refl _)
 refine⟨.ref s1.heap.objs.size,upd H1 s1.heap.objs.size (.tup xs),I1.laid (t':=s1.toks) (λb u e=>Heap.get?_push_of_some _ e) (Nat.le_refl _) ?_,rfl,q _ hf⟩
 exact⟨z,us,r,⟨_,Heap.get?_push_size _ rfl,rfl,_,rfl⟩⟩
theorem l72(h:PA X es t):PE X (.List es pos) (O32 t):=by
 intro pins s σ H Q I hq
 refine wpAny_List_spliced (thn (h pos pins s σ H _ I hq) λus s1 ⟨xs,H1,I1,r,z,q⟩=>⟨by rw[← r.length];exact z,?_⟩)
 have hf:H1 s1.heap.objs.size=none:=I1.hok.fresh (Nat.le_refl _)
 refine⟨.ref s1.heap.objs.size,upd H1 s1.heap.objs.size (.lst xs),I1.laid (t':=s1.toks) (λb u e=>Heap.get?_push_of_some _ e) (Nat.le_refl _) ?_,rfl,q _ hf⟩
 exact⟨z,us,0,r,Heap.get?_push_size _ rfl⟩
end
abbrev Sp:=List V→Hp→VK→XK→Prop
abbrev CXT:=List Env→Hp→Shared→XK→Value→Shared→Prop
structure x72(P:Program)(w:World)(K:PySem.W.Frag)(mg:Str→Option Value)(base:Heap)(A:Around)(outer:List Env)(s:Shared)(H:Hp):Prop where
 frames:A.frames=some outer
 mod:Mod K mg base
 bs:∀ b o,base.get? b=some o→s.heap.get? b=some o∧H b=none
 bsz:base.objs.size≤s.heap.objs.size
 G31:s.heap.FunFrames base outer
 frf:∀ b∈frs outer,H b=none
 hok:HOk P w H s.heap
 bare:AllBare s.gens
def CE(outer:List Env)(P:Program)(w:World)(H:Hp)(s:Shared)(Q:VK)(u:Value)(s':Shared):Prop :=
 ∃ v H',s'.os=s.os∧AllBare s'.gens∧Un (frs outer) [] H H' s.heap s'.heap∧HOk P w H' s'.heap∧RelV v u∧Q v H'
def CR(CX:CXT)(outer:List Env)(P:Program)(w:World)(H:Hp)(s:Shared)(Q:VK)(E:XK)(r:Result)(s':Shared):Prop :=
 match r with
 |.ok (.ret u)=>CE outer P w H s Q u s'
 |.ok _=>False
 |.error e=>CX outer H s E e s'
structure m91(P:Program)(w:World)(K:PySem.W.Frag)(mg:Str→Option Value)(base:Heap)(CX:CXT)(k:Nat)(f:Addr)(fd:FuncData)(ps:List Str)(sp:Sp):Prop where
 len:∀ vs H Q E,sp vs H Q E→vs.length=ps.length
 run:∀ (A:Around) (outer:List Env) (s:Shared) (H:Hp) (args:Args) (us:List Value) (vs:List V) (Q:VK) (E:XK),Y90 k A→x72 P w K mg base A outer s H→BindsTo s fd args (ps.zip us)→Vals vs us→sp vs H Q E →
  codeAny (model P w) A (.call (.ref f) args) (CR CX outer P w H s Q E) s
section
variable {X:Cx}{pins:List (Addr × Obj)}{σ:St}{H:Hp}{s s':Shared}
theorem Inv.O42(I:Inv X pins σ H s):x72 X.prog X.w X.K X.mg X.base X.A X.stack s H :=
 ⟨I.ok.frames,I.ok.mod,I.bs,Nat.le_trans I.ok.bsz I.sz,I.stack,I.Z20,I.hok,I.bare⟩
theorem Inv.after(I:Inv X pins σ H s)(h:CE X.stack X.prog X.w H s Q u s'):EP X pins σ Q u s':=by
 obtain⟨v,H',os,bare,un,hok,r,q⟩:=h
 obtain⟨hh,g,d,t,os'⟩:=s'
 obtain rfl:os'=s.os:=os
 exact⟨v,H',I.call (h':=hh) (g':=g) (d':=d) (t':=t) (ch:=[]) un hok bare (λb z=>absurd z (by simp)),r,q⟩
end
def A92(sp:Sp)(dvs:List V)(E:XK)(t:TA):TE:=λσ H Q=>t σ H λvs H1=>sp (vs++dvs) H1 Q E
def Binds(K:PySem.W.Frag)(fd:FuncData)(ps:List Str)(ds:List Value):Prop :=
 ∀ (s:Shared) (us:List Value),K.In s.heap→(us++ds).length=ps.length→BindsTo s fd ⟨us,[]⟩ (ps.zip (us++ds))
theorem Binds.all{K:PySem.W.Frag}{fd:FuncData}{ps:List Str}(h:∀ us:List Value,us.length=ps.length→bindArgs fd ⟨us,[]⟩=pure (ps.zip us)):Binds K fd ps []:=λs us _ hl=>by
 rw[append_nil] at hl ⊢
 exact .of_eq (h us hl)
def Passes(CX:CXT)(X:Cx)(E:XK):Prop:=∀ (pins:List (Addr × Obj)) (σ:St) (H:Hp) (s:Shared) (e:Value) (s':Shared),Inv X pins σ H s→CX X.stack H s E e s'→X.xe e s'
section
variable {X:Cx}{CX:CXT}{k:Nat}{f C:Addr}{fd:FuncData}{ps:List Str}{sp:Sp}{dvs:List V}{ds:List Value}{E:XK}{x m:Str}{p pos apos:Pos}{e o:Expr}{es:List Expr}{ta:TE}{t:TA}
theorem l82{pins:List (Addr × Obj)}{σ:St}{H:Hp}{s:Shared}{Q:VK}{us:List Value}{vs:List V}(F:m91 X.prog X.w X.K X.mg X.base CX k f fd ps sp)(hr:Y90 k X.A)(hb:Binds X.K fd ps ds)(hd:Vals dvs ds)(hx:Passes CX X E)
  (I:Inv X pins σ H s) (r:Vals vs us) (h:sp (vs++dvs) H Q E):wpAny (model X.prog X.w) X.A (call (.ref f) us) (EP X pins σ Q) X.xe s:=by
 have r2:Vals (vs++dvs) (us++ds):=r.append hd
 have hl:(us++ds).length=ps.length:=by rw[← r2.length];exact F.len _ _ _ _ h
 refine wpAny_call (codeAny_mono (F.run X.A X.stack s H ⟨us,[]⟩ (us++ds) (vs++dvs) Q E hr I.O42 (hb s us I.kIn hl) r2 h) λr s' hq=>?_)
 cases r with
 |error e=>exact hx pins σ H s e s' I hq
 |ok fl =>
  cases fl with
  |ret u=>exact I.after hq
  |next=>exact False.elim hq
  |brk=>exact False.elim hq
  |cont=>exact False.elim hq
theorem V31(F:m91 X.prog X.w X.K X.mg X.base CX k f fd ps sp)(hr:Y90 k X.A)(hg:Gl X x)(hm:X.mg x=some (.ref f))(hk:PySem.W.keepIn X.K (.ref f)=true)(hb:Binds X.K fd ps ds)(hd:Vals dvs ds)(hx:Passes CX X E)
  (ha:PA X (e::es) t) (hdb:(x == ("__debug__":Str))=false:=by decide) (he:starEach (e::es) X.env=(false,eval e X.env)::starEach es X.env:=by rfl) (hpl:(backTo pos (starEach es X.env)).any (·.1)=false:=by rfl) :
  PE X (.Call (.Name x p) (e::es) [] pos) (A92 sp dvs E t):=by
 intro pins s σ H Q I h
 refine wpAny_Call_Name_kw (Z30 I hg hm ?_ hdb)
 refine PySem.W.callWith_K (h₀:=X.base) I.ok.mod.kin hk (thn (ha pos pins s σ H _ I h) λus s1 ⟨vs,H1,I1,r,q⟩=>⟨I1.kIn,?_⟩) he hpl
 exact l82 F hr hb hd hx I1 r q
end
structure s90(N P:List Str)(sc:Scope):Prop where
 kind:sc.kind=.function
 co:sc.isCoroutine=false
 gen:sc.isGenerator=false
 nd:N.Nodup
 pre:N.take P.length=P
 par:∀ x∈P,sc.names.lookup x=some .local∨sc.names.lookup x=some .cell
 nofree:∀ y∈sc.names,y.2≠.free
theorem R40{kindOf:Str→Option NameKind}{x:Str}:∀ {binds:List (Str × Value)}{m:Str→Option Value},(∀ v,(x,v) ∉ binds)→bindL kindOf binds m x=m x
 |[],_,_=>rfl
 |(n,v)::r,m,h=>by
  unfold bindL
  rw[R40 λw hw=>h w (mem_cons_of_mem _ hw)]
  split
  ·have:x≠n:=by rintro rfl;exact h v mem_cons_self
   simp[this]
  ·rfl
theorem R50{kindOf:Str→Option NameKind}{x:Str}:∀ {binds:List (Str × Value)}{m:Str→Option Value},(∀ v,(x,v) ∉ binds)→bindC kindOf binds m x=m x
 |[],_,_=>rfl
 |(n,v)::r,m,h=>by
  unfold bindC
  rw[R50 λw hw=>h w (mem_cons_of_mem _ hw)]
  split
  ·rfl
  ·have:x≠n:=by rintro rfl;exact h v mem_cons_self
   simp[this]
theorem R60{kindOf:Str→Option NameKind}{x:Str}{v:Value}:∀ {P:List Str}{vs:List Value}{i:Nat}{m:Str→Option Value},P.Nodup→P[i]?=some x→vs[i]?=some v→kindOf x=some .local →
  bindL kindOf (P.zip vs) m x=some v
 |[],_,_,_,_,h,_,_=>by simp at h
 |_::_,[],_,_,_,_,h,_=>by simp at h
 |p::P,w::vs,0,m,nd,h1,h2,hk=>by
  simp at h1 h2;subst h1;subst h2
  show bindL kindOf ((p,w)::P.zip vs) m p=_
  unfold bindL
  rw[R40 λv hv=>(List.nodup_cons.mp nd).1 (of_mem_zip hv).1,if_pos hk]
  simp
 |p::P,w::vs,i + 1,m,nd,h1,h2,hk=>by
  show bindL kindOf ((p,w)::P.zip vs) m x=_
  unfold bindL
  exact R60 (i:=i) (List.nodup_cons.mp nd).2 (by simpa using h1) (by simpa using h2) hk
theorem R70{kindOf:Str→Option NameKind}{x:Str}{v:Value}:∀ {P:List Str}{vs:List Value}{i:Nat}{m:Str→Option Value},P.Nodup→P[i]?=some x→vs[i]?=some v→kindOf x≠some .local →
  bindC kindOf (P.zip vs) m x=some v
 |[],_,_,_,_,h,_,_=>by simp at h
 |_::_,[],_,_,_,_,h,_=>by simp at h
 |p::P,w::vs,0,m,nd,h1,h2,hk=>by
  simp at h1 h2;subst h1;subst h2
  show bindC kindOf ((p,w)::P.zip vs) m p=_
  unfold bindC
  rw[R50 λv hv=>(List.nodup_cons.mp nd).1 (of_mem_zip hv).1,if_neg hk]
  simp
 |p::P,w::vs,i + 1,m,nd,h1,h2,hk=>by
  show bindC kindOf ((p,w)::P.zip vs) m x=_
  unfold bindC
  exact R70 (i:=i) (List.nodup_cons.mp nd).2 (by simpa using h1) (by simpa using h2) hk
def start(N:List Str)(vs:List V):St:=vs.map some++replicate (N.length - vs.length) none
def R80(CX:CXT)(P:Program)(w:World)(K:PySem.W.Frag)(mg:Str→Option Value)(base:Heap)(N:List Str)(qual:Str)(scope:Scope)(f:Addr)(cd:Value)(A:Around)(outer:List Env)(s:Shared)(H:Hp)(E:XK):Cx where
 prog:=P
 w:=w
 K:=K
 mg:=mg
 base:=base
 A:=A.deeper (envOfC qual scope s.heap.objs.size f cd)
 N:=N
 s₀:=s
 H₀:=H
 env:=envOfC qual scope s.heap.objs.size f cd
 outer:=outer
 stack:=envOfC qual scope s.heap.objs.size f cd::outer
 ex:=[]
 calm:=true
 fn:=λ_=>true
 pn:=[]
 xe:=λe s'=>wpAny (model P w) (A.deeper (envOfC qual scope s.heap.objs.size f cd)) (leaving (envOfC qual scope s.heap.objs.size f cd) e) (λ_ s''=>CX outer H s E e s'') (λe' s''=>CX outer H s E e' s'') s'
theorem g61{sc:Scope}{n:Nat}{x:Str}(h:sc.names.lookup x=some .cell):∃ c,(cellsFrom n sc.names []).lookup x=some c:=by
 have q:=PySem.W.cellsFrom_some sc.names n [] (.inl h)
 exact Option.isSome_iff_exists.mp q
theorem r81{CX:CXT}{P:Program}{w:World}{K:PySem.W.Frag}{mg:Str→Option Value}{base:Heap}{N ps:List Str}{qual:Str}{scope:Scope}{f:Addr}{cd:Value}{A:Around}{outer:List Env}{s s1:Shared}{H:Hp}{E:XK}{us:List Value}{vs:List V}
  (S:s90 N ps scope) (hd:A.handled=none) (e0:x72 P w K mg base A outer s H) (hl:vs.length=ps.length) (r:Vals vs us)
  (x:InCallC s s.heap.objs.size (bindL (envOfC qual scope s.heap.objs.size f cd).kindOf (ps.zip us) λ_=>none) (cellsFrom (s.heap.objs.size + 1) scope.names []) (bindC (envOfC qual scope s.heap.objs.size f cd).kindOf (ps.zip us) λ_=>none) s1) :
  Inv (R80 CX P w K mg base N qual scope f cd A outer s H E) [] (start N vs) H s1:=by
 have hpl:ps.length≤N.length:=by have:=congrArg List.length S.pre;rw[length_take] at this;omega
 obtain⟨h1,tk,rfl,hk⟩:=x.done
 have noA:∀ b:Addr,b ∉ (R80 CX P w K mg base N qual scope f cd A outer s H E).ex:=λb z=>absurd (show b∈([]:List Addr) from z) (by simp)
 refine⟨⟨e0.mod,S.kind,rfl,rfl,Nat.le_refl _,λy z c h1 h2=>?_,λy hy=>?_,λy c _ h=>?_,λ_=>hd,Around.frames_deeper e0.frames,.inr ⟨rfl,rfl⟩,λb z=>absurd z (noA b),e0.bs,e0.bsz,λb _ _=>noA b,λb z=>absurd z (noA b),e0.G31,e0.frf⟩,
  rfl,e0.bare,Un.kept hk,⟨_,x.toInCall.ns,λi y v h1 h2 h3=>?_⟩,λy c h=>⟨_,x.cell y c h⟩,e0.hok.fresh (Nat.le_refl _),λy c h=>?_,λp hp=>absurd (show p∈([]:List (Addr × Obj)) from hp) (by simp),e0.hok.kept hk,?_⟩
 ·exact name_of_addr x.apart (PySem.mem_of_lookup h1) (PySem.mem_of_lookup h2)
 ·have hy:scope.names.lookup y=some .cell∨scope.names.lookup y=some .free:=hy
  rcases hy with hy | hy
  ·exact g61 hy
  ·exact absurd rfl (S.nofree _ (PySem.mem_of_lookup hy))
 ·exact Nat.le_of_lt (x.above y c (PySem.mem_of_lookup h))
 ·have hi:i < vs.length:=by
   unfold start at h2
   by_cases hi:i < vs.length
   ·exact hi
   ·rw[List.getElem?_append_right (by simpa using hi)] at h2
    rw[List.getElem?_replicate] at h2
    split at h2 <;> cases h2
  have ha:vs[i]?=some v:=by
   unfold start at h2
   rw[List.getElem?_append_left (by simpa using hi),List.getElem?_map] at h2
   cases e:vs[i]? with
   |none=>rw[e] at h2;cases h2
   |some a=>rw[e] at h2;cases h2;rfl
  obtain⟨u,hu,rv⟩:=r.get ha
  have hp:ps[i]?=some y:=by
   rw[← S.pre,List.getElem?_take_of_lt (by omega)];exact h1
  have ndP:ps.Nodup:=by rw[← S.pre];exact S.nd.sublist (List.take_sublist _ _)
  refine⟨u,rv,?_⟩
  rcases S.par y (mem_of_getElem? hp) with k | k
  ·exact .inl ⟨k,R60 ndP hp hu k⟩
  ·obtain⟨c,e⟩:=g61 (n:=s.heap.objs.size + 1) k
   refine .inr ⟨.inl k,c,e,?_⟩
   have q:=x.cell y c e
   rw[R70 ndP hp hu (by show scope.names.lookup y≠_;rw[k];decide)] at q
   exact q
 ·exact e0.hok.fresh (Nat.le_of_lt (x.above y c (PySem.mem_of_lookup h)))
 ·unfold start
  show _=N.length
  rw[length_append,length_map,List.length_replicate]
  omega
theorem B02{CX:CXT}{P:Program}{w:World}{K:PySem.W.Frag}{mg:Str→Option Value}{base:Heap}{k:Nat}{f:Addr}{name qual:Str}{params:Arguments}{body:List Stmt}{scope:Scope}{dV kV doc pm cdv ct oc:Value}{an od:Option Addr}
  {osl:Array (Option Value)}{N ps:List Str}{sp:Sp} (lk:K.lookup f=some ⟨oc,od,.func (fnOf name qual params body scope dV kV doc pm an cdv ct),osl⟩) (hcd:PySem.W.codeIn K cdv qual=true) (S:s90 N ps scope)
  (len:∀ vs H Q E,sp vs H Q E→vs.length=ps.length)
  (hbody:∀ (A:Around) (outer:List Env) (s:Shared) (H:Hp) (vs:List V) (Q:VK) (E:XK),Y90 k (A.deeper (envOfC qual scope s.heap.objs.size f cdv))→sp vs H Q E →
   ∃ t,PSs (R80 CX P w K mg base N qual scope f cdv A outer s H E) body t∧t { nx:=λ_ H'=>Q .non H',rt:=Q } (start N vs) H) :
  m91 P w K mg base CX (k + 1) f (fnOf name qual params body scope dV kV doc pm an cdv ct) ps sp:=by
 refine⟨len,λA outer s H args us vs Q E hr e0 hb r hsp=>?_⟩
 have hl:=len _ _ _ _ hsp
 have KX:K.In s.heap:=e0.mod.kin.keeps λb o e=>(e0.bs b o e).1
 have lim:s.heap.NoLimit:=e0.mod.nolimit.keeps λb o e=>(e0.bs b o e).1
 have hkind:∀ y∈ps.zip us,scope.names.lookup y.1=some .local∨(scope.names.lookup y.1=some .cell∧((cellsFrom (s.heap.objs.size + 1) scope.names []).lookup y.1).isSome=true):=λ⟨n,v⟩ hy=>by
  rcases S.par n (of_mem_zip hy).1 with q | q
  ·exact .inl q
  ·exact .inr ⟨q,PySem.W.cellsFrom_some _ _ _ (.inl q)⟩
 refine codeAny_call_function hr.depth (KX _ _ lk) rfl S.co S.gen rfl (PySem.W.codeRec_of KX hcd) (hb _ _ _ _ ?_)
 refine wpAny_newFunctionEnv_cells S.kind hkind λenv he s1 x=>?_
 subst he
 refine⟨lim.keeps x.toInCall.keep,codeAny_func ?_⟩
 obtain⟨t,ht,hq⟩:=hbody A outer s H vs Q E (hr.deeper _) hsp
 have I:Inv (R80 CX P w K mg base N qual scope f cdv A outer s H E) [] (start N vs) H s1:=r81 S hr.hd e0 hl r x
 refine wpAny_mono (ht [] s1 (start N vs) H _ I hq) (λfl s' hs=>?_) λe s' hs=>hs
 have fin:∀ {σ':St}{H':Hp}{v:V}{u:Value},Inv (R80 CX P w K mg base N qual scope f cdv A outer s H E) [] σ' H' s'→RelV v u→Q v H'→CE outer P w H s Q u s' :=
  λ{σ' H' v u} J rv q=>⟨v,H',J.os,J.bare,J.base,J.hok,rv,q⟩
 cases fl with
 |ret u =>
  obtain⟨v,σ',H',J,rv,q⟩:=hs
  exact fin J rv q
 |next =>
  obtain⟨σ',H',J,q⟩:=hs
  exact fin (v:=V.non) (u:=Value.none) J rfl q
 |brk =>
  obtain⟨_,_,_,q⟩:=hs
  exact False.elim q
 |cont =>
  obtain⟨_,_,_,q⟩:=hs
  exact False.elim q
section
variable {X:Cx}{x:Str}{p pos:Pos}{e:Expr}{es:List Expr}{t:TA}{id T:String}{r:List V→Hp→VK→Prop}
def tCB(r:List V→Hp→VK→Prop)(t:TA):TE:=λσ H Q=>t σ H λvs H1=>r vs H1 Q
theorem B00(hc:f80 X (.builtin id) r)(hg:Gl X x)(hm:X.mg x=none)(hv:bootBuiltins x=some (.builtin id))(ha:PA X (e::es) t)(hn:x≠"__name__":=by decide)(hdb:(x == ("__debug__":Str))=false:=by decide)
  (he:starEach (e::es) X.env=(false,eval e X.env)::starEach es X.env:=by rfl) (hpl:(backTo pos (starEach es X.env)).any (·.1)=false:=by rfl):PE X (.Call (.Name x p) (e::es) [] pos) (tCB r t):=by
 intro pins s σ H Q I h
 refine wpAny_Call_Name_kw (v40 I hg hm hv ?_ hn hdb)
 exact PyProof.Rows.callWith_builtin1 (thn (ha pos pins s σ H _ I h) λus s1 ⟨vs,H1,I1,r1,q1⟩=>hc pins s1 σ H1 vs us Q I1 r1 q1) he hpl
theorem R90(hc:f80 X (.type T) r)(hg:Gl X x)(hm:X.mg x=none)(hv:bootBuiltins x=some (.type T))(ha:PA X (e::es) t)(hn:x≠"__name__":=by decide)(hdb:(x == ("__debug__":Str))=false:=by decide)
  (he:starEach (e::es) X.env=(false,eval e X.env)::starEach es X.env:=by rfl) (hpl:(backTo pos (starEach es X.env)).any (·.1)=false:=by rfl):PE X (.Call (.Name x p) (e::es) [] pos) (tCB r t):=by
 intro pins s σ H Q I h
 refine wpAny_Call_Name_kw (v40 I hg hm hv ?_ hn hdb)
 exact PyProof.Rows.callWith_type1 (thn (ha pos pins s σ H _ I h) λus s1 ⟨vs,H1,I1,r1,q1⟩=>hc pins s1 σ H1 vs us Q I1 r1 q1) he hpl
end
end L2
namespace HT
open PySem PyProof.Rows
theorem H51(A:Around)(s:Shared)(a:Int)(t:Tok)(c:Int)(u:Tok):∃ e,SeqAt.EqAt A s (.int a t) (.int c u) e∧(e=true↔a=c) :=
 ⟨(a == c),SeqAt.EqAt.int_int a t c u,by simp⟩
theorem g71(A:Around)(s:Shared)(a:Int)(t:Tok)(c:Int)(u:Tok)(prog:Program)(w:World)(E:Value→Shared→Prop)(Q:Value→Shared→Prop)(h:Q (.bool (decide (a < c))) s) :
  wpAny (model prog w) A (richCompare .Lt (.int a t) (.int c u)) Q E s :=
 (lt_int h:wpAny (model prog w) A (compareOp .Lt (.int a t) (.int c u)) Q E s)
section
variable {prog:Program}{w:World}{A:Around}{E:Value→Shared→Prop}{s:Shared}
theorem V41{t b:Addr}{vs ws:List Value}{Q:Value→Shared→Prop}(ht:IsTup s.heap t vs.toArray)(hb:IsTup s.heap b ws.toArray)(hv:vs≠[])
  (h1:ws=[]→Q (.ref t) s) (h2:ws≠[]→Q (.ref s.heap.objs.size) { s with heap:=s.heap.push { cls:=.type "tuple",data:=.seq (vs++ws).toArray } })
  (hsz:vs.length + ws.length≤sizeLine):wpAny (model prog w) A (binaryOp .Add (.ref t) (.ref b)) Q E s:=by
 obtain⟨⟨cls,dd,data,sl⟩,ho,hc,n,hd⟩:=id ht
 obtain⟨⟨cls2,dd2,data2,sl2⟩,ho2,hc2,n2,hd2⟩:=id hb
 simp only at hc hd hc2 hd2
 subst hc hd hc2 hd2
 have e:vs.toArray++ws.toArray=(vs++ws).toArray:=by simp
 by_cases hw:ws=[]
 ·exact concat_meets ⟨_,ho,rfl⟩ ⟨_,ho2,rfl⟩ noFill_tuple_add seq_tuple_add PySem.F.slot_tuple_add PySem.F.entry_tuple_add (PySem.F.args_tuple_add_2 _ _)
   (tuple_addW1 t b vs.toArray ws.toArray n n2 dd dd2 sl sl2 (by simpa using hv) (by simp[hw])) ⟨ho,ho2,h1 hw⟩
 ·refine concat_meets ⟨_,ho,rfl⟩ ⟨_,ho2,rfl⟩ noFill_tuple_add seq_tuple_add PySem.F.slot_tuple_add PySem.F.entry_tuple_add (PySem.F.args_tuple_add_2 _ _)
   (tuple_addW2 t b vs.toArray ws.toArray n n2 dd dd2 sl sl2 (by simpa using hv) (by simpa using hw) (by rw[size_toArray,size_toArray];exact hsz)) ⟨ho,ho2,?_⟩
  rw[e]
  exact h2 hw
def sIx(n d:Nat):Option Int→Nat
 |none=>d
 |some v=>if v < 0 then(v + (n:Int)).toNat else min v.toNat n
theorem r91(n d k:Nat):sIx n d (some (k:Int))=min k n:=by
 show(if (k:Int) < 0 then((k:Int) + (n:Int)).toNat else min (k:Int).toNat n)=min k n
 rw[if_neg (by omega),toNat_natCast]
theorem l92(n d:Nat)(hd:d≤n)(o:Option Int):sIx n d o≤n:=by
 cases o with
 |none=>exact hd
 |some v =>
  show(if v < 0 then(v + (n:Int)).toNat else min v.toNat n)≤n
  by_cases hv:v < 0
  ·rw[if_pos hv];omega
  ·rw[if_neg hv];exact Nat.min_le_right _ _
theorem s01(v:Int)(n d:Nat):(if v < 0 then max (v + (n:Int)) 0 else min v (n:Int))=((sIx n d (some v):Nat):Int):=by
 show(if v < 0 then max (v + (n:Int)) 0 else min v (n:Int))=(((if v < 0 then(v + (n:Int)).toNat else min v.toNat n):Nat):Int)
 by_cases hv:v < 0
 ·simp only[if_pos hv];omega
 ·simp only[if_neg hv];omega
theorem n01(lo hi:Option Int)(n:Nat):sliceAdjust lo hi 1 (n:Int)=(((sIx n 0 lo:Nat):Int),((sIx n n hi:Nat):Int)):=by
 have h1:¬ ((1:Int) < 0):=by omega
 unfold sliceAdjust
 simp only[h1,if_false]
 refine Prod.ext ?_ ?_
 ·cases lo with
  |none=>rfl
  |some v=>exact s01 v n 0
 ·cases hi with
  |none=>rfl
  |some v=>exact s01 v n n
theorem n11(i j:Nat):slicePlaces (i:Int) (j:Int) 1=j - i:=by
 unfold slicePlaces
 have h1:(1:Int) > 0:=by omega
 simp only[h1,if_true,Int.ediv_one]
 split <;> omega
theorem H80(p:IsPart v o)(h:Q o s):wpAny (model prog w) A (Builtin.Slice.slicePartIndex v) Q E s:=by
 cases p with
 |none=>exact slicePart_none h
 |int i t=>exact slicePart_int h
theorem n20{sl:Addr}{vl vu:Value}{lo hi:Option Int}{n:Nat}{Q:Int × Int × Nat→Shared→Prop}(hs:s.heap.IsSliceOf sl vl vu .none)(pl:IsPart vl lo)(pu:IsPart vu hi)
  (h:Q (((sIx n 0 lo:Nat):Int),1,sIx n n hi - sIx n 0 lo) s):wpAny (model prog w) A (sliceApplied (.ref sl) (pure (n:Int))) Q E s:=by
 obtain⟨os,hos,hcs,hds⟩:=id hs
 unfold sliceApplied sliceFields
 refine wpAny_bind (wpAny_bind (wpAny_field hos hds (x:=vl) rfl (wpAny_bind (wpAny_field hos hds (x:=vu) rfl (wpAny_bind (wpAny_field hos hds (x:=.none) rfl (wpAny_pure ?_)))))))
 refine wpAny_bind (slicePart_none ?_)
 show wpAny _ _ (if ((1:Int) == 0)=true then _ else _) _ _ s
 rw[if_neg (by decide)]
 refine wpAny_bind (H80 pl (wpAny_bind (H80 pu (wpAny_bind (wpAny_pure ?_)))))
 show wpAny _ _ (match sliceAdjust lo hi 1 (n:Int) with | (lo,hi)=>pure (lo,(1:Int),slicePlaces lo hi 1)) _ _ s
 rw[n01 lo hi n]
 show wpAny _ _ (pure (((sIx n 0 lo:Nat):Int),(1:Int),slicePlaces ((sIx n 0 lo:Nat):Int) ((sIx n n hi:Nat):Int) 1)) _ _ s
 rw[n11]
 exact wpAny_pure h
theorem H61(xs:Array Value)(i k:Nat):((range k).filterMap λ(m:Nat)=>xs[((i:Int) + (m:Int) * 1).toNat]?).toArray=((xs.toList.drop i).take k).toArray:=by
 have e:(λ(m:Nat)=>xs[((i:Int) + (m:Int) * 1).toNat]?)=λm=>xs[i + m]?:=by
  funext m
  have:((i:Int) + (m:Int) * 1).toNat=i + m:=by omega
  rw[this]
 rw[e]
 have:=pick_run xs i k
 rw[List.filterMap_map] at this
 have e2:((λx=>xs[x]?) ∘ λx=>i + x)=λm=>xs[i + m]?:=rfl
 rw[e2] at this
 rw[this]
theorem x60{t sl:Addr}{items:Array Value}{vl vu:Value}{lo hi:Option Int}{Q:Value→Shared→Prop}(ht:IsTup s.heap t items)(hs:s.heap.IsSliceOf sl vl vu .none)(pl:IsPart vl lo)(pu:IsPart vu hi)
  (hw:¬ (sIx items.size 0 lo=0∧sIx items.size items.size hi=items.size))
  (h:Q (.ref s.heap.objs.size) { s with heap:=s.heap.push { cls:=.type "tuple",data:=.seq ((items.toList.drop (sIx items.size 0 lo)).take (sIx items.size items.size hi - sIx items.size 0 lo)).toArray } })
  (hsz:items.size≤sizeLine):wpAny (model prog w) A (getItem (.ref t) (.ref sl)) Q E s:=by
 have htake:sizeOk (.seq ((items.toList.drop (sIx items.size 0 lo)).take (sIx items.size items.size hi - sIx items.size 0 lo)).toArray):=by
  show((items.toList.drop (sIx items.size 0 lo)).take (sIx items.size items.size hi - sIx items.size 0 lo)).toArray.size≤sizeLine
  rw[size_toArray,length_take,length_drop,length_toList]
  omega
 have hj:sIx items.size items.size hi≤items.size:=l92 _ _ (Nat.le_refl _) hi
 obtain⟨os,hos,hcs,hds⟩:=id hs
 have hTs:s.TypeIs (.ref sl) "slice":=⟨os,hos,hcs⟩
 unfold getItem
 try with_reducible refine wpAny_holding ?_
 first | refine wpAny_bind (wpAny_pure ?_) | skip
 refine wpAny_bind (wpAny_sequenceKey ht.typeIs (by decide) ?_)
 refine wpAny_bind (wpAny_callSpecial?_slot (name:=Str.ofString "__getitem__") ht.typeIs PyProof.Rows.slot_tuple_getitem
  (wpAny_call_entry PyProof.Rows.slot_tuple_getitem ht.typeIs entry_tuple_getitem ?_ (args_tuple_getitem _ _)))
 show wpAny _ _ (tupleItemsOf (.ref t) >>= _) _ _ s
 refine wpAny_bind (tupleItemsOf_ ht ?_)
 refine wpAny_bind (wpAny_typeOf hTs ?_)
 rw[if_pos (by decide)]
 refine wpAny_bind (n20 hs pl pu ?_)
 have hno:¬ ((((sIx items.size 0 lo:Nat):Int) == 0&&(1:Int) == 1&&(sIx items.size items.size hi - sIx items.size 0 lo) == items.size)=true):=by
  intro q
  rw[and_eq_true,and_eq_true] at q
  have q1:((sIx items.size 0 lo:Nat):Int)=0:=eq_of_beq q.1.1
  have q2:sIx items.size items.size hi - sIx items.size 0 lo=items.size:=eq_of_beq q.2
  exact hw ⟨by omega,by omega⟩
 show wpAny _ _ (if (((sIx items.size 0 lo:Nat):Int) == 0&&(1:Int) == 1&&(sIx items.size items.size hi - sIx items.size 0 lo) == items.size)=true then _ else _) _ _ s
 rw[if_neg hno,H61]
 first
  |exact wpAny_bind (m:=tupleExact _) (wpAny_newObj_type (wpAny_pure ⟨_,rfl,wpAny_pure h⟩) htake)
  |exact wpAny_bind (m:=tupleExact _) (wpAny_newObj_type (wpAny_bind (wpAny_pure (wpAny_pure ⟨_,rfl,wpAny_pure h⟩))) htake)
  |exact wpAny_bind (wpAny_bind (m:=tupleExact _) (wpAny_newObj_type (wpAny_pure (wpAny_pure ⟨_,rfl,wpAny_pure h⟩)) htake))
  |exact wpAny_bind (wpAny_bind (m:=tupleExact _) (wpAny_newObj_type (wpAny_pure ⟨_,rfl,wpAny_pure h⟩) htake))
end
end HT
namespace L2
open PySem PySem.Spec PyProof.Rows
abbrev TO:=St→Hp→(Option Int→Hp→Prop)→Prop
def PO(X:Cx)(e:Option Expr)(t:TO):Prop :=
 ∀ (pins:List (Addr × Obj)) (s:Shared) (σ:St) (H:Hp) (Q:Option Int→Hp→Prop),Inv X pins σ H s→t σ H Q →
  wpAny (model X.prog X.w) X.A (evalPart e X.env) (λu s'=>∃ o H',Inv X pins σ H' s'∧IsPart u o∧Q o H') X.xe s
def V51:TO:=λ_ H Q=>Q none H
def B12(t:TE):TO:=λσ H Q=>t σ H λx H1=>∃ i,x=.int i∧Q (some i) H1
theorem intsAre_of:∀ {us:List Value},Vals (ns.map V.int) us→IntsAre us ns:=by
 induction ns with
 |nil=>intro us r;rw[map_nil] at r;cases r;exact .nil
 |cons n ns ih =>
  intro us r
  rw[map_cons] at r
  cases r with
  |cons r1 r2 =>
   obtain⟨t,e⟩:=r1
   subst e
   exact .cons n t (ih r2)
section
variable {X:Cx}{e:Expr}{te:TE}{lo hi:Option Expr}{tl th:TO}{pos p2:Pos}
theorem V61:PO X none V51:=by
 intro pins s σ H Q I h
 rw[evalPart_none]
 exact wpAny_pure ⟨none,H,I,.none,h⟩
theorem V71(h:PE X e te):PO X (some e) (B12 te):=by
 intro pins s σ H Q I hw
 rw[evalPart_some]
 refine thn (h pins s σ H _ I hw) λu s1 ⟨x,H1,I1,r1,q1⟩=>?_
 obtain⟨i,rfl,q⟩:=q1
 obtain⟨t,rfl⟩:=r1
 exact⟨some i,H1,I1,.int i t,q⟩
def SlR(X:Cx)(r:V→Option Int→Option Int→Hp→VK→Prop):Prop :=
 ∀ (pins:List (Addr × Obj)) (s:Shared) (σ:St) (H:Hp) (x:V) (v vl vu:Value) (lo hi:Option Int) (sl:Addr) (Q:VK),Inv X pins σ H s→RelV x v→s.heap.IsSliceOf sl vl vu .none→IsPart vl lo→IsPart vu hi→r x lo hi H Q →
  ∃ T id,typeLookup (.type T) "__getitem__"=pure (some (.builtin id))∧s.TypeIs v T∧wpAny (model X.prog X.w) X.A (getItem v (.ref sl)) (EP X pins σ Q) X.xe s
def tSl(r:V→Option Int→Option Int→Hp→VK→Prop)(te:TE)(tl th:TO):TE:=λσ H Q=>te σ H λx H1=>tl σ H1 λl H2=>th σ H2 λu H3=>r x l u H3 Q
theorem H71(hr:SlR X r)(he:PE X e te)(hl:PO X lo tl)(hu:PO X hi th):PE X (.Subscript e (.Slice lo hi none p2) pos) (tSl r te tl th):=by
 intro pins s σ H Q I h
 refine Subscript_ (thn (he pins s σ H _ I h) λv s1 ⟨x,H1,I1,r1,q1⟩=>?_)
 refine wpAny_Slice (thn (hl pins s1 σ H1 _ I1 q1) λvl s2 ⟨l,H2,I2,pl,q2⟩=>thn (hu pins s2 σ H2 _ I2 q2) λvu s3 ⟨u,H3,I3,pu,q3⟩=>?_)
 rw[evalPart_none]
 refine wpAny_pure ?_
 have I4:Inv X pins σ H3 { s3 with heap:=s3.heap.push { cls:=.type "slice",data:=.fields #[vl,vu,.none] } }:=I3.kept (t':=s3.toks) λb ob q=>Heap.get?_push_of_some _ q
 obtain⟨T,id,hT,ht,hg⟩:=hr pins { s3 with heap:=s3.heap.push { cls:=.type "slice",data:=.fields #[vl,vu,.none] } } σ H3 x v vl vu l u s3.heap.objs.size Q I4 r1 (Heap.IsSliceOf.new ..) pl pu q3
 show wpAny (model X.prog X.w) X.A (subscriptTail e (.Slice lo hi none p2) v (.ref s3.heap.objs.size)) (EP X pins σ Q) X.xe { s3 with heap:=s3.heap.push { cls:=.type "slice",data:=.fields #[vl,vu,.none] } }
 exact tail_any (ops:=[.ref s3.heap.objs.size,v]) ht hT hg (by with_unfolding_all rfl)
def H81(xs:List V)(lo hi:Option Int):List V:=(xs.drop (HT.sIx xs.length 0 lo)).take (HT.sIx xs.length xs.length hi - HT.sIx xs.length 0 lo)
theorem C90(xs:List V)(lo hi:Option Int):(H81 xs lo hi).length≤xs.length:=by
 unfold H81
 rw[length_take,length_drop]
 omega
theorem Vals.K20(r:Vals xs us):us=[]↔xs=[]:=by
 cases r with
 |nil=>simp
 |cons _ _=>simp
end
def ixN(n:Nat)(i:Int):Option Nat:=if 0≤i then(if i < n then some i.toNat else none) else if -(n:Int)≤i then some (i + n).toNat else none
def atI{α:Type}(xs:List α)(i:Int):Option α:=(ixN xs.length i).bind λj=>xs[j]?
theorem s11{n:Nat}{i:Int}{j:Nat}(h:ixN n i=some j):seqIndex? i n=some j∧j < n∧-(n:Int)≤i∧i < n:=by
 unfold ixN at h
 by_cases h0:0≤i
 ·rw[if_pos h0] at h
  by_cases h1:i < n
  ·rw[if_pos h1] at h
   have e:i.toNat=j:=Option.some.inj h
   exact⟨by rw[seqIndex_of h0 h1,e],by omega,by omega,h1⟩
  ·rw[if_neg h1] at h;cases h
 ·rw[if_neg h0] at h
  by_cases h1:-(n:Int)≤i
  ·rw[if_pos h1] at h
   have e:(i + n).toNat=j:=Option.some.inj h
   exact⟨by rw[seqIndex_neg (by omega) h1,e],by omega,h1,by omega⟩
  ·rw[if_neg h1] at h;cases h
theorem s21{α:Type}{xs:List α}{i:Int}{v:α}(h:atI xs i=some v):∃ j,seqIndex? i xs.length=some j∧xs[j]?=some v∧j < xs.length∧-(xs.length:Int)≤i∧i < xs.length:=by
 unfold atI at h
 cases e:ixN xs.length i with
 |none=>rw[e] at h;cases h
 |some j =>
  rw[e] at h
  obtain⟨h1,h2,h3,h4⟩:=s11 e
  exact⟨j,h1,h,h2,h3,h4⟩
theorem Z70{α:Type}{xs:List α}{j:Nat}{v:α}(h:xs[j]?=some v):atI xs (j:Int)=some v:=by
 have hj:j < xs.length:=(List.getElem?_eq_some_iff.mp h).1
 have e:ixN xs.length (j:Int)=some j:=by
  unfold ixN
  rw[if_pos (by omega),if_pos (by omega)];simp
 unfold atI;rw[e];exact h
def s31(b:Expr):Prop:=∀ o i,subscripted b false o i=operate [o,i] (getItem o i)
def IxR(X:Cx)(r:R2):Prop :=
 ∀ (value slice:Expr) (pins:List (Addr × Obj)) (s:Shared) (σ:St) (H:Hp) (x y:V) (v u:Value) (Q:VK),Inv X pins σ H s→RelV x v→RelV y u→r x y H Q →
  subscripted slice false v u=operate [v,u] (getItem v u)→wpAny (model X.prog X.w) X.A (subscriptTail value slice v u) (EP X pins σ Q) X.xe s
def MtR(X:Cx)(id:String)(r:V→List V→Hp→VK→Prop):Prop :=
 ∀ (pins:List (Addr × Obj)) (s:Shared) (σ:St) (H:Hp) (x:V) (xs:List V) (v:Value) (us:List Value) (Q:VK),Inv X pins σ H s→RelV x v→Vals xs us→r x xs H Q →
  wpAny (model X.prog X.w) X.A (call (.builtin id) (v::us)) (EP X pins σ Q) X.xe s
section
variable {X:Cx}{a b:Expr}{ta tb:TE}{pos:Pos}
theorem m02(hr:IxR X r)(ha:PE X a ta)(hb:PE X b tb)(hs:s31 b):PE X (.Subscript a b pos) (tOp r ta tb):=by
 intro pins s σ H Q I h
 exact Subscript_ (A12 ha hb I h λv u s2 x y H2 I2 rx ry q=>hr a b pins s2 σ H2 x y v u Q I2 rx ry q (hs _ _))
def O52(K:PySem.W.Frag):R2:=λx y H Q=>∃ p xs i v,x=.ref p∧y=.int i∧SqL K H p xs∧atI xs i=some v∧Q v H
def O62(K:PySem.W.Frag):R2:=λx y H Q=>∃ p xs i v,x=.ref p∧y=.int i∧SqT K H p xs∧atI xs i=some v∧Q v H
theorem s41:IxR X (O52 X.K):=by
 intro value slice pins s σ H x y v u Q I rx ry h hs
 obtain⟨p,xs,i,z,rfl,rfl,hq,he,q⟩:=h
 cases rx
 obtain⟨t,rfl⟩:=ry
 obtain⟨its,r,pl,hz⟩:=I.list hq
 obtain⟨j,h1,h2,h3,h4,h5⟩:=s21 he
 obtain⟨w,ew,rw'⟩:=r.get h2
 have hl:=r.length
 have hn:=g51
 have fin:EP X pins σ Q w s:=⟨z,H,I,rw',q⟩
 by_cases h0:0≤i
 ·have hj:i.toNat=j:=by
   rw[seqIndex_of h0 h5] at h1
   exact Option.some.inj h1
  exact item_listR pl.isList h0 (by omega) (by rw[hj];simpa using ew) fin hs
 ·have hj:(i + (its.toArray.size:Int)).toNat=j:=by
   rw[seqIndex_neg (by omega) h4] at h1
   rw[size_toArray,← hl]
   exact Option.some.inj h1
  exact subscriptTail_builtinR (x:=w) pl.isList.typeIs slot_list_getitem.lookup
   (wpAny_getItem_list_neg (Q:=λr s'=>r=w∧EP X pins σ Q r s') pl.isList (by omega) (by rw[size_toArray] <;> omega) (by omega) (by rw[hj];simpa using ew) ⟨rfl,fin⟩) hs
theorem m12:IxR X (O62 X.K):=by
 intro value slice pins s σ H x y v u Q I rx ry h hs
 obtain⟨p,xs,i,z,rfl,rfl,hq,he,q⟩:=h
 cases rx
 obtain⟨t,rfl⟩:=ry
 obtain⟨its,r,pl,hz⟩:=I.tuple hq
 obtain⟨j,h1,h2,h3,h4,h5⟩:=s21 he
 obtain⟨w,ew,rw'⟩:=r.get h2
 have hl:=r.length
 have hn:=g51
 have fin:EP X pins σ Q w s:=⟨z,H,I,rw',q⟩
 exact subscriptTail_builtinR (x:=w) pl.typeIs slot_tuple_getitem.lookup
  (getItem_tuple (j:=j) (Q:=λr s'=>r=w∧EP X pins σ Q r s') pl (by omega) (by omega) (by rw[size_toArray,← hl];exact h1) (by simpa using ew) ⟨rfl,fin⟩) hs
theorem n21(its:List Value)(n j:Nat)(u:Value):Obj.mapSeq (·.setIfInBounds j u) { cls:=.type "list",data:=.seq its.toArray n }={ cls:=.type "list",data:=.seq (its.set j u).toArray n }:=by
 simp[Obj.mapSeq]
theorem Inv.lst{pins:List (Addr × Obj)}{σ:St}{H:Hp}{s:Shared}{p:Addr}{xs:List V}(I:Inv X pins σ H s)(h:H p=some (.lst xs)) :
  ∃ (its:List Value) (n:Nat),Vals xs its∧s.heap.get? p=some { cls:=.type "list",data:=.seq its.toArray n }∧xs.length≤sizeLine:=by
 obtain⟨z,its,n,r,e⟩:=I.hok p _ h
 exact⟨its,n,r,e,z⟩
theorem Inv.m22{pins:List (Addr × Obj)}{σ:St}{H:Hp}{s:Shared}{p:Addr}{xs ys:List V}{its its':List Value}{n n':Nat}{f:Obj→Obj}(I:Inv X pins σ H s)(h:H p=some (.lst xs))
  (ho:s.heap.get? p=some { cls:=.type "list",data:=.seq its.toArray n }) (hf:f { cls:=.type "list",data:=.seq its.toArray n }={ cls:=.type "list",data:=.seq its'.toArray n' }) (r:Vals ys its') (hz:ys.length≤sizeLine) (t:Nat) :
  Inv X pins σ (upd H p (.lst ys)) { s with heap:=s.heap.update p f,toks:=t }:=by
 have e:(s.heap.update p f).get? p=some { cls:=.type "list",data:=.seq its'.toArray n' }:=by
  rw[Heap.get?_update_self f ho (by rw[hf] <;> rfl),hf]
 refine I.write (x:=p) (e:=p) (by rw[h];trivial) (.inl rfl) (λb u hb q=>(Heap.get?_update_other _ _ (Ne.symm hb)).trans q) ⟨_,e⟩ ?_
 exact⟨hz,its',n',r,e⟩
def B22:V→V→V→Hp→(Hp→Prop)→Prop:=λo i v H Q=>∃ p xs k j,o=.ref p∧i=.int k∧H p=some (.lst xs)∧ixN xs.length k=some j∧Q (upd H p (.lst (xs.set j v)))
theorem set_list:z52 X B22:=by
 intro pins s σ H o i v ov iv u Q I ro ri rv h
 obtain⟨p,xs,k,j,rfl,rfl,hp,hj,q⟩:=h
 cases ro
 obtain⟨t,rfl⟩:=ri
 obtain⟨its,n,r,ho,hz⟩:=I.lst hp
 obtain⟨h1,h2,h3,h4⟩:=s11 hj
 have hl:=r.length
 have hn:=g51
 have I':Inv X pins σ (upd H p (.lst (xs.set j v))) { s with heap:=s.heap.update p (Obj.mapSeq (·.setIfInBounds j u)) } :=
  I.m22 hp ho (n21 its n j u) (r.set rv j) (by rw[length_set];exact hz) s.toks
 by_cases h0:0≤k
 ·have hk:k.toNat=j:=by
   rw[seqIndex_of h0 h4] at h1
   exact Option.some.inj h1
  exact PySem.W.ki_setAt ho h0 (by omega) (by rw[size_toArray,← hl];exact h4) (by rw[hk];exact⟨_,I',q⟩)
 ·have hk:(k + (its.toArray.size:Int)).toNat=j:=by
   rw[seqIndex_neg (by omega) h3] at h1
   rw[size_toArray,← hl]
   exact Option.some.inj h1
  exact PySem.W.ki_setBack ho (by omega) (by rw[size_toArray,← hl];exact h3) (by omega) (by rw[hk];exact⟨_,I',q⟩)
theorem S00(lo hi:Option Int)(n:Nat):(sliceBounds lo hi none n).1=((HT.sIx n 0 lo:Nat):Int)∧(sliceBounds lo hi none n).2.1=((HT.sIx n n hi:Nat):Int)∧(sliceBounds lo hi none n).2.2=1:=by
 refine⟨?_,?_,rfl⟩
 ·cases lo with
  |none=>simp[sliceBounds,HT.sIx]
  |some i =>
   simp only[sliceBounds,HT.sIx,getD_none,show(1:Int) > 0 by decide,if_true]
   by_cases h:i < 0
   ·simp only[h,if_true] <;> omega
   ·simp only[h,if_false] <;> omega
 ·cases hi with
  |none=>simp[sliceBounds,HT.sIx]
  |some i =>
   simp only[sliceBounds,HT.sIx,getD_none,show(1:Int) > 0 by decide,if_true]
   by_cases h:i < 0
   ·simp only[h,if_true] <;> omega
   ·simp only[h,if_false] <;> omega
theorem K30(its:List Value)(lo hi:Option Int):slicePick its.toArray lo hi none=((its.drop (HT.sIx its.length 0 lo)).take (HT.sIx its.length its.length hi - HT.sIx its.length 0 lo)).toArray:=by
 obtain⟨h1,h2,h3⟩:=S00 lo hi its.toArray.size
 unfold slicePick
 rw[h1,h2,h3]
 simp only[sliceRange_one,pick_run,size_toArray] <;> rfl
def O72(K:PySem.W.Frag):V→Option Int→Option Int→Hp→VK→Prop:=λx lo hi H Q=>∃ a xs,x=.ref a∧SqL K H a xs∧∀ p,H p=none→Q (.ref p) (upd H p (.lst (H81 xs lo hi)))
theorem V81:SlR X (O72 X.K):=by
 intro pins s σ H x v vl vu lo hi sl Q I rx hs pl pu h
 obtain⟨a,xs,rfl,hx,q⟩:=h
 cases rx
 obtain⟨its,r,ht,hz⟩:=I.list hx
 have hlen:=r.length
 refine⟨"list",_,slot_list_getitem.lookup,ht.isList.typeIs,?_⟩
 refine wpAny_getItem_list_slice ht.isList hs pl pu .none (by simp) ?_ (by rw[size_toArray] <;> omega)
 rw[K30,← hlen]
 refine⟨.ref s.heap.objs.size,_,I.laid (t':=s.toks) (o:=.lst (H81 xs lo hi)) (λb ob q=>Heap.get?_push_of_some _ q) (Nat.le_refl _) ?_,rfl,q _ (I.hok.fresh (Nat.le_refl _))⟩
 exact⟨Nat.le_trans (C90 xs lo hi) hz,_,0,(r.drop (HT.sIx xs.length 0 lo)).take (HT.sIx xs.length xs.length hi - HT.sIx xs.length 0 lo),Heap.get?_push_size _ rfl⟩
theorem S10:f80 X (.builtin "len") (λxs H Q=>∃ p ys,xs=[.ref p]∧(SqL X.K H p ys∨SqT X.K H p ys)∧Q (.int ys.length) H):=by
 intro pins s σ H xs us Q I r h
 obtain⟨p,ys,rfl,hq,q⟩:=h
 obtain⟨u,rfl,rx⟩:=vals1 r
 cases rx
 have hn:=g51
 rcases hq with hq | hq
 ·obtain⟨its,r',pl,hz⟩:=I.list hq
  have hlen:=r'.length
  exact Calls.call_len_list pl.isList (by simp only[size_toArray] <;> omega) ⟨.int ys.length,H,I.tok _,⟨s.toks + 1,by rw[size_toArray,hlen]⟩,q⟩
 ·obtain⟨its,r',pl,hz⟩:=I.tuple hq
  have hlen:=r'.length
  exact len_tuple pl (by simp only[size_toArray] <;> omega) ⟨.int ys.length,H,I.tok _,⟨s.toks + 1,by rw[size_toArray,hlen]⟩,q⟩
theorem S20:f80 X (.type "list") (λxs H Q=>∃ p ys,xs=[.ref p]∧(SqL X.K H p ys∨SqT X.K H p ys)∧∀ l,H l=none→Q (.ref l) (upd H l (.lst ys))):=by
 intro pins s σ H xs us Q I r h
 obtain⟨p,ys,rfl,hq,q⟩:=h
 obtain⟨u,rfl,rx⟩:=vals1 r
 cases rx
 have fin:∀ (its:List Value),Vals ys its→ys.length≤sizeLine→∀ (h':Heap) (c':Nat),(∀ b o',s.heap.get? b=some o'→h'.get? b=some o') →
   h'.get? s.heap.objs.size=some { cls:=.type "list",dict:=none,data:=.seq its.toArray c',slots:=#[] }→EP X pins σ Q (.ref s.heap.objs.size) { s with heap:=h' }:=λits r' hz h' c' kp e =>
  ⟨.ref s.heap.objs.size,_,I.laid (t':=s.toks) kp (Nat.le_refl _) (show j20 X.prog X.w _ h' _ (.lst ys) from⟨hz,its,c',r',e⟩),rfl,q _ (I.hok.fresh (Nat.le_refl _))⟩
 rcases hq with hq | hq
 ·obtain⟨its,r',pl,hz⟩:=I.list hq
  have hlen:=r'.length
  obtain⟨o,ho,hc,n,hd⟩:=pl.isList
  exact call_list_seq p (.inl rfl) ho hc hd (λh' c' kp e=>fin its r' hz h' c' kp e) (by simp only[size_toArray] <;> omega)
 ·obtain⟨its,r',pl,hz⟩:=I.tuple hq
  have hlen:=r'.length
  obtain⟨o,ho,hc,n,hd⟩:=pl
  exact call_list_seq p (.inr rfl) ho hc hd (λh' c' kp e=>fin its r' hz h' c' kp e) (by simp only[size_toArray] <;> omega)
theorem K40:f80 X (.type "tuple") (λxs H Q=>∃ p ys,xs=[.ref p]∧((SqL X.K H p ys∧∀ l,H l=none→Q (.ref l) (upd H l (.tup ys)))∨(SqT X.K H p ys∧Q (.ref p) H))):=by
 intro pins s σ H xs us Q I r h
 obtain⟨p,ys,rfl,h⟩:=h
 obtain⟨u,rfl,rx⟩:=vals1 r
 cases rx
 rcases h with ⟨hq,q⟩ | ⟨hq,q⟩
 ·obtain⟨its,r',pl,hz⟩:=I.list hq
  have hlen:=r'.length
  refine call_tuple_list pl.isList (λh' kp=>?_) (by simp only[size_toArray] <;> omega)
  have I1:Inv X pins σ H { s with heap:=h' }:=I.kept (t':=s.toks) kp
  have I2:Inv X pins σ (upd H h'.objs.size (.tup ys)) { s with heap:=h'.push { cls:=.type "tuple",data:=.seq its.toArray } } :=
   I1.laid (t':=s.toks) (λb o e=>Heap.get?_push_of_some _ e) (Nat.le_refl _) (show j20 X.prog X.w _ _ _ (.tup ys) from⟨hz,its,r',IsTup.new _ _⟩)
  exact⟨.ref h'.objs.size,_,I2,rfl,q _ (I1.hok.fresh (Nat.le_refl _))⟩
 ·obtain⟨its,r',pl,hz⟩:=I.tuple hq
  exact call_tuple_same pl ⟨.ref p,H,I,rfl,q⟩
def tyV(K:PySem.W.Frag)(T:String)(x:V)(H:Hp):Prop:=match x with
 |.str _=>T="str"
 |.int _=>T="int"
 |.ref p=>(T="list"∧∃ xs,SqL K H p xs)∨(T="tuple"∧∃ o,K.lookup p=some o∧o.cls=.type "tuple"∧o.dict=none) ∨
   (T="dict"∧((∃ kvs,H p=some (.dK kvs))∨∃ kvs,H p=some (.dT kvs)))∨(T="set"∧∃ S n,H p=some (.set S n))
 |_=>False
theorem m32{pins:List (Addr × Obj)}{σ:St}{H:Hp}{s:Shared}{T:String}{x:V}{v:Value}(I:Inv X pins σ H s)(r:RelV x v)(ty:tyV X.K T x H) :
  s.TypeIs v T∧∀ a,v=.ref a→∃ ob,s.heap.get? a=some ob∧ob.dict=none:=by
 cases x with
 |str z =>
  obtain⟨t,rfl⟩:=r
  cases (show T="str" from ty)
  exact⟨typeIs_str s z t,λ_ e=>nomatch e⟩
 |int i =>
  obtain⟨t,rfl⟩:=r
  cases (show T="int" from ty)
  exact⟨typeIs_int s i t,λ_ e=>nomatch e⟩
 |ref p =>
  cases r
  rcases ty with ⟨rfl,xs,hq⟩ | ⟨rfl,o,hk,hc,hd⟩ | ⟨rfl,hk⟩ | ⟨rfl,S,n,hk⟩
  ·obtain⟨its,_,pl,_⟩:=I.list hq
   refine⟨pl.isList.typeIs,λa e=>?_⟩
   cases e
   obtain⟨o,n,e,c,hd,_⟩:=pl
   exact⟨o,e,hd⟩
  ·refine⟨⟨o,I.kIn p o hk,hc⟩,λa e=>?_⟩
   cases e
   exact⟨o,I.kIn _ o hk,hd⟩
  ·have z:∃ o,s.heap.get? p=some o∧o.ExactDict:=by
    rcases hk with ⟨kvs,hk⟩ | ⟨kvs,hk⟩
    ·obtain⟨_,_,_,_,o,_,_,e,ex,_⟩:=I.hok p _ hk
     exact⟨o,e,ex⟩
    ·obtain⟨_,_,_,_,o,_,_,e,ex,_⟩:=I.hok p _ hk
     exact⟨o,e,ex⟩
   obtain⟨o,e,ex⟩:=z
   refine⟨⟨o,e,ex.1⟩,λa e2=>?_⟩
   cases e2
   exact⟨o,e,ex.2.1⟩
  ·obtain⟨o,_,_,_,e,ex,_⟩:=I.hok p _ hk
   refine⟨⟨o,e,ex.1⟩,λa e2=>?_⟩
   cases e2
   exact⟨o,e,ex.2.1⟩
 |_=>exact False.elim ty
def tBM(K:PySem.W.Frag)(T:String)(r:V→List V→Hp→VK→Prop)(to:TE)(t:TA):TE:=λσ H Q=>to σ H λx H1=>tyV K T x H1∧t σ H1 λxs H2=>r x xs H2 Q
variable {o e:Expr}{es:List Expr}{to:TE}{t:TA}{name:Str}{apos cpos:Pos}{T id:String}{r:V→List V→Hp→VK→Prop}
theorem V91(pa:PlainAttrs T)(slot:Slot T name id)(hty:typeOf (.builtin id)=pure (.type "method_descriptor"))(hm:MtR X id r)(ho:PE X o to)(ha:PA X (e::es) t)
  (hbase:attributeBase o name X.env (eval o X.env)=eval o X.env:=by rfl)
  (hfew:((backTo cpos (starEach (e::es) X.env)).all (λx=>!x.1)&&(backToKw cpos (keywordEach [] X.env)).all (λx=>x.1.isSome)
   &&decide ((e::es).length + ([]:List Keyword).length + (if ([]:List Keyword).isEmpty then 0 else 1) < 30))=true:=by rfl)
  (hline:(apos.endLine == cpos.line)=true:=by rfl) (hs:starEach (e::es) X.env=(false,eval e X.env)::starEach es X.env:=by rfl) (hplain:(backTo cpos (starEach es X.env)).any (·.1)=false:=by rfl) :
  PE X (.Call (.Attribute o name apos) (e::es) [] cpos) (tBM X.K T r to t):=by
 intro pins s σ H Q I h
 refine wpAny_Call_method_late hbase hfew hline rfl (thn (ho pins s σ H _ I h) λv s1 ⟨x,H1,I1,r1,ty,q1⟩=>?_)
 obtain⟨h1,h2⟩:=m32 I1 r1 ty
 refine⟨T,id,pa,slot,hty,h1,h2,?_⟩
 have hA:=ha cpos pins s1 σ H1 _ I1 q1
 rw[hs] at hA ⊢
 refine Calls.callWith_builtin (by show(false || (backTo cpos (starEach es X.env)).any (·.1))=false;rw[hplain] <;> rfl) (Calls.evalArgs_plain ?_)
 exact thn hA λus s2 ⟨vs,H2,I2,r2,q2⟩=>hm pins s2 σ H2 x vs v us Q I2 r1 r2 q2
end
def MtM(X:Cx)(id:String)(r:V→List V→Hp→VK→Prop):Prop :=
 ∀ (pins:List (Addr × Obj)) (s:Shared) (σ:St) (H:Hp) (x:V) (xs:List V) (v:Value) (us:List Value) (Q:VK),Inv X pins σ H s→RelV x v→Vals xs us→r x xs H Q →
  wpAny (model X.prog X.w) X.A (call (.builtin id) (v::us)) (EP X pins σ Q) X.xe s
theorem Vals.one:∀ {x:V}{us:List Value},Vals [x] us→∃ u,us=[u]∧RelV x u
 |_,_,.cons r .nil=>⟨_,rfl,r⟩
theorem Vals.eraseIdx:∀ {xs:List V}{us:List Value} (i:Nat),Vals xs us→Vals (xs.eraseIdx i) (us.eraseIdx i)
 |_,_,_,.nil=>.nil
 |_,_,0,.cons _ t=>t
 |_,_,i + 1,.cons r t=>.cons r (Vals.eraseIdx i t)
theorem Vals.reverse(h:Vals xs us):Vals xs.reverse us.reverse:=by
 induction h with
 |nil=>exact .nil
 |cons r t ih=>rw[reverse_cons,reverse_cons];exact Vals.append ih (.cons r .nil)
theorem Vals.rep(h:Vals xs us):∀ k:Nat,Vals (replicate k xs).flatten (replicate k us).flatten
 |0=>.nil
 |k + 1=>by
  rw[replicate_succ,replicate_succ,flatten_cons,flatten_cons]
  exact Vals.append h (Vals.rep h k)
theorem S30{α:Type}:∀ (l:List α) (i:Nat),(l.eraseIdx i).length≤l.length
 |[],_=>Nat.le_refl _
 |_::_,0=>le_succ _
 |_::r,i + 1=>succ_le_succ (S30 r i)
theorem foldl_rep(its:List Value):∀ (k:Nat) (acc:List Value),
  foldl (λx1 x2=>x1++x2) acc.toArray (replicate k its.toArray)=(acc++(replicate k its).flatten).toArray
 |0,acc=>by simp
 |k + 1,acc=>by
  have e:acc.toArray++its.toArray=(acc++its).toArray:=by simp
  have e2:(acc++its)++(replicate k its).flatten=acc++(replicate (k + 1) its).flatten:=by
   rw[replicate_succ,flatten_cons,append_assoc]
  rw[← e2,← foldl_rep its k (acc++its),← e,replicate_succ,List.foldl_cons]
section
variable {X:Cx}{pins:List (Addr × Obj)}{σ:St}{H:Hp}{s:Shared}{l b:Addr}{xs ys zs:List V}
theorem Inv.x82{its its':List Value}{n:Nat}{f:Array Value→Array Value}{t':Nat}(I:Inv X pins σ H s)(hH:H l=some (.lst xs))
  (e:s.heap.get? l=some { cls:=.type "list",data:=.seq its.toArray n }) (hf:f its.toArray=its'.toArray) (hv:Vals ys its') (hz:ys.length≤sizeLine) :
  Inv X pins σ (upd H l (.lst ys)) { s with heap:=s.heap.update l (Obj.mapSeq f),toks:=t' }:=by
 have q:=PySem.IsL.update e f
 rw[hf] at q
 refine I.write (x:=l) (e:=l) (by rw[hH];exact trivial) (.inl rfl) (λb' u hb hu=>(Heap.get?_update_other s.heap (Obj.mapSeq f) (Ne.symm hb)).trans hu) ⟨_,q⟩ ?_
 exact⟨hz,its',_,hv,q⟩
theorem Inv.K22{t':Nat}(I:Inv X pins σ H s)(hv:Vals ys its)(hz:ys.length≤sizeLine) :
  Inv X pins σ (upd H s.heap.objs.size (.lst ys)) { s with heap:=s.heap.push { cls:=.type "list",data:=.seq its.toArray },toks:=t' } :=
 I.laid (λ_ _ q=>Heap.get?_push_of_some _ q) (Nat.le_refl _) ⟨hz,its,0,hv,Heap.get?_push_size _ rfl⟩
theorem Inv.fresh(I:Inv X pins σ H s):H s.heap.objs.size=none:=I.hok.fresh (Nat.le_refl _)
theorem Inv.B32(I:Inv X pins σ H s)(hH:H l=some (.lst xs)):xs.length≤sizeLine∧∃ (its:List Value) (n:Nat),Vals xs its∧xs.length=its.length∧s.heap.get? l=some { cls:=.type "list",data:=.seq its.toArray n }:=by
 obtain⟨z,its,n,r,e⟩:=I.hok l _ hH
 exact⟨z,its,n,r,r.length,e⟩
theorem H91{n:Nat}(h:n≤sizeLine):Builtin.List.listTooLong n=false:=by
 unfold Builtin.List.listTooLong
 exact decide_eq_false (by omega)
end
section
variable {X:Cx}
def s51:V→List V→Hp→VK→Prop:=λx vs H Q=>∃ l xs y,x=.ref l∧vs=[y]∧H l=some (.lst xs)∧xs.length < sizeLine∧Q .non (upd H l (.lst (xs++[y])))
theorem S40:MtM X "list.append" s51:=by
 intro pins s σ H x vs v us Q I rx rv h
 obtain⟨l,xs,y,rfl,rfl,hH,hz,q⟩:=h
 cases rx
 obtain⟨u,rfl,ru⟩:=rv.one
 obtain⟨z,its,n,r,hl,e⟩:=I.B32 hH
 refine call_meets F.slot_list_append ⟨_,e,rfl⟩ F.entry_list_append (F.args_list_append_2 _ _) (PySem.list_append l its.toArray n u (by rw[size_toArray];omega)) ⟨e,?_⟩
 refine⟨.non,_,I.x82 (its':=its++[u]) hH e (by simp) (r.append (.cons ru .nil)) ?_,rfl,q⟩
 rw[length_append,List.length_singleton]
 omega
def Q31:V→List V→Hp→VK→Prop:=λx vs H Q=>∃ l xs i k y,x=.ref l∧vs=[.int i]∧H l=some (.lst xs)∧-(2 ^ 63)≤i∧i < 2 ^ 63∧seqIndex? i xs.length=some k∧xs[k]?=some y∧Q y (upd H l (.lst (xs.eraseIdx k)))
theorem I01:MtM X "list.pop" Q31:=by
 intro pins s σ H x vs v us Q I rx rv h
 obtain⟨l,xs,i,k,y,rfl,rfl,hH,h1,h2,hk,hy,q⟩:=h
 cases rx
 obtain⟨u,rfl,ru⟩:=rv.one
 obtain⟨t,rfl⟩:=ru
 obtain⟨z,its,n,r,hl,e⟩:=I.B32 hH
 obtain⟨w,hw,rw'⟩:=r.get hy
 refine call_meets F.slot_list_pop ⟨_,e,rfl⟩ F.entry_list_pop (F.args_list_pop_2 _ _)
  (MeetsSeq.list_pop_at l its.toArray n i t k w (fitsIndex_both h1 h2) (by rw[size_toArray,← hl];exact hk) (by rw[← Array.getElem?_toList];exact hw) (by rw[size_toArray];omega)) ⟨e,?_⟩
 refine⟨y,_,I.x82 (its':=its.eraseIdx k) hH e ?_ (r.eraseIdx k) ?_,rw',q⟩
 ·show its.toArray.eraseIdxIfInBounds k=(its.eraseIdx k).toArray
  rw[List.eraseIdxIfInBounds_toArray]
 ·have:=S30 xs k
  omega
theorem len_rep{α:Type}(xs:List α)(k:Nat):(replicate k xs).flatten.length=k * xs.length:=by
 induction k with
 |zero=>simp
 |succ k ih=>rw[replicate_succ,flatten_cons,length_append,ih,Nat.succ_mul,Nat.add_comm]
end
end L2
namespace Att
open PySem PySem.W PySem.Calls PyProof.Rows
theorem D00:∀ (ns:List Int) (vs:List Value),WellAll P h vs (ns.map WData.int)→IntsAre vs ns:=by
 intro ns
 induction ns with
 |nil =>
  intro vs w
  rw[map_nil] at w
  cases w
  exact .nil
 |cons n ns ih =>
  intro vs w
  rw[map_cons] at w
  cases w with
  |cons a b =>
   cases a
   exact .cons _ _ (ih _ b)
theorem s61{l:OpenLaw}{n:Nat}(hn:l.most=some n){P:Params}{h:Heap}{args:List WData}{vals:List Value}
  (hpre:l.row.toRowW.claim.pre args=true) (hwl:WellAll P h vals args) :
  ∃ a vs ns,vals=[Value.ref a]∧args=[WData.list (ns.map WData.int)]∧h.get? a=some { cls:=.type "list",data:=.seq vs.toArray }∧IntsAre vs ns∧ns.length≤n:=by
 have hsh:WShape.hasAll [] args [.list .int]=true:=(pre_splitW hpre).1
 have hc:l.pre.holds [] { args:=args }=true:=(pre_splitW hpre).2
 obtain⟨d,r,rfl,h1,h2⟩:=hasAllW_cons hsh
 obtain rfl:=hasAllW_nil h2
 obtain⟨xs,rfl,h3⟩:=hasW_list h1
 obtain⟨ns,rfl⟩:=items_int h3
 have hlen:ns.length≤n:=by
  unfold OpenLaw.pre at hc
  have h4:(WTm.not (.lt (.lit (.int (n:Int))) (.len (.arg 0)))).holds [] { args:=[.list (ns.map .int)] }=true:=by
   have h4:=(holds_andW hc).1
   rw[hn] at h4
   exact h4
  have h5:=condW_of h4 (w_not (w_lt w_lit (w_len_list (w_arg rfl))))
  rw[length_map] at h5
  refine Nat.le_of_not_lt λq=>?_
  have q':(n:Int) < ((ns.length:Nat):Int):=by omega
  first
   |(rw[decide_eq_true q'] at h5;exact absurd h5 (by decide))
   |(simp at h5;omega)
 cases hwl with
 |cons w1 w2 =>
  cases w2
  cases w1 with
  |list ho hall=>exact⟨_,_,ns,rfl,rfl,ho,D00 ns _ hall,hlen⟩
theorem s71(l:OpenLaw)(args:List WData):l.row.toRowW.claim.post args (.bool true) args=true :=
 postW_of (r:=l.row.toRowW) (X:=(true == true))
  (show WShape.has [] (.bool true) .bool=true by first | rfl | decide | simp[WShape.has,WShape.arms,WShape.armsAll])
  (show(WTm.eq .res (.lit (.bool true))).value [] { args:=args,res:=some (.bool true),after:=args }=some (.bool (true == true)) from w_eq_bool (w_res rfl) w_lit) rfl
theorem Z80{l:OpenLaw}{n:Nat}{q:Program}{loose:List Str}{XP:(Str→Option Value)→Heap→Prop}{YP:World→Heap→Prop}{d:DefRec}
  (hn:l.most=some n) (hdf:d.params.defaults=[])
  (call:∀ (w:World) (s₀ s₁:Shared) (mg mb:Str→Option Value) (fa:Addr) (o:Obj) (pm cd doc:Value) (a:Addr) (vs:List Value) (ns:List Int),
   Ground q loose [] XP w s₀ mg mb s₁.heap→YP w s₁.heap →
   s₁.heap.get? fa=some o→o.data=.func (docDef d.name d.params d.body d.scope pm cd doc)→s₁.heap.CodeRec cd d.name→mg d.name=some (.ref fa) →
   s₁.heap.get? a=some { cls:=.type "list",data:=.seq vs.toArray }→IntsAre vs ns→ns.length≤n→s₁.gens=#[] →
   codeAny (model l.prog w) callerA (.call (.ref fa) ⟨[.ref a],[]⟩) (λr s'=>r=.ok (.ret (.bool true))∧OldK s₁.heap s'.heap∧s'.os=s₁.os∧AllBare s'.gens) s₁) :
  WalkO q loose XP YP l.row.toRowW d [] (λf vs=>PySem.call f vs):=by
 intro w s₀ s₁ mg mb G Y fa o pm cd doc dV kV ho hd hcd hD hmg hg args vals as hpre hlay hrd hwl hlo
 obtain rfl:dV=.none:=Dflts.none hD hdf
 obtain rfl:kV=.none:=Dflts.noKw hD
 obtain⟨a,vs,ns,rfl,rfl,hobj,hints,hlen⟩:=s61 hn hpre hwl
 refine enter_call (codeAny_mono (call w s₀ s₁ mg mb fa o pm cd doc a vs ns G Y ho (fd_plain hd) hcd hmg hobj hints hlen hg) λr s' hq=>?_)
 obtain⟨rfl,h2,h3,h4⟩:=hq
 exact⟨.inl ⟨.bool true,.bool true,[],rfl,λ_=>rfl,.bool true,s71 l _,λ_=>⟨List.Pairwise.nil,λ_ hm=>(nomatch hm)⟩⟩,h2,h3,h4⟩
end Att
namespace L2
open PySem PySem.Spec PyProof.Rows
theorem S50:∀ {vs:List Value}{ns:List Int},IntsAre vs ns→Vals (ns.map V.int) vs
 |_,_,.nil=>.nil
 |_,_,.cons n t h=>.cons ⟨t,rfl⟩ (S50 h)
def K50(s:Stmt):Arguments:=match s with
 |.FunctionDef _ a _ _ _ _ _ _ _ _=>a
 |_=>{ posonlyargs:=[],args:=[],vararg:=none,kwonlyargs:=[],kw_defaults:=[],kwarg:=none,defaults:=[] }
def o40(s:Stmt):List Stmt:=match s with
 |.FunctionDef _ _ b _ _ _ _ _ _ _=>b
 |_=>[]
def c80(s:Stmt):Scope:=match s with
 |.FunctionDef _ _ _ _ _ _ sc _ _ _=>sc
 |_=>{ kind:=.function,names:=[],isGenerator:=false,isCoroutine:=false }
abbrev CX0:CXT:=λ_ _ _ _ _ _=>False
structure Fun(K:PySem.W.Frag)(x qual:Str)(st:Stmt)(f:Addr)(fd:FuncData):Prop where
 ex:∃ (oc:Value) (od:Option Addr) (kV doc pm:Value) (an:Option Addr) (cdv ct:Value) (osl:Array (Option Value)),
  fd=fnOf x qual (K50 st) (o40 st) (c80 st) .none kV doc pm an cdv ct∧K.lookup f=some ⟨oc,od,.func fd,osl⟩∧PySem.W.codeIn K cdv qual=true
 kp:PySem.W.keepIn K (.ref f)=true
section
variable {P:Program}{w:World}{K:PySem.W.Frag}{mg:Str→Option Value}{base:Heap}
theorem Fun.binds{x qual:Str}{st:Stmt}{f:Addr}{fd:FuncData}{ps:List Str}(F:Fun K x qual st f fd)
  (h:∀ (kV doc pm:Value) (an:Option Addr) (cdv ct:Value) (us:List Value),us.length=ps.length→bindArgs (fnOf x qual (K50 st) (o40 st) (c80 st) .none kV doc pm an cdv ct) ⟨us,[]⟩=pure (ps.zip us)):Binds K fd ps []:=by
 obtain⟨oc,od,kV,doc,pm,an,cdv,ct,osl,rfl,lk,hcd⟩:=F.ex
 exact .all (h kV doc pm an cdv ct)
end
def a30(H H':Hp):Prop:=∀ b o,H b=some o→H' b=some o
theorem a30.refl(H:Hp):a30 H H:=λ_ _ h=>h
theorem a30.trans(a:a30 H H1)(b:a30 H1 H2):a30 H H2:=λc o h=>b c o (a c o h)
end L2
set_option maxHeartbeats 4000000
namespace L2
open PySem
abbrev NoX:Value→Shared→Prop:=λ_ _=>False
theorem Z90(env:Env):∀ (names:List (Str × NameKind)) (acc:List (Str × Addr)),(∀ y∈names,y.2=.free→∃ c,env.cells.lookup y.1=some c)→(∀ x c,acc.lookup x=some c→env.cells.lookup x=some c) →
  ∃ cl:List (Str × Addr),(forIn names acc λ(x:Str × NameKind) (r:List (Str × Addr))=>(if (x.2 == .free)=true then do let c ← cellOf env x.1;pure (ForInStep.yield ((x.1,c)::r)) else pure (ForInStep.yield r):Sem (ForInStep (List (Str × Addr)))))=pure cl ∧
   (∀ x c,cl.lookup x=some c→env.cells.lookup x=some c)∧(∀ x c,acc.lookup x=some c→∃ c',cl.lookup x=some c')∧(∀ y∈names,y.2=.free→∃ c,cl.lookup y.1=some c)
 |[],acc,_,ha=>⟨acc,by simp,ha,λx c e=>⟨c,e⟩,λy hy=>absurd hy (by simp)⟩
 |(n,k)::r,acc,hf,ha=>by
  by_cases hk:k=.free
  ·subst hk
   obtain⟨c,hc⟩:=hf (n,.free) mem_cons_self rfl
   have hcell:cellOf env n=pure c:=by unfold cellOf;rw[hc]
   obtain⟨cl,e,h1,h2,h3⟩:=Z90 env r ((n,c)::acc) (λy hy=>hf y (mem_cons_of_mem _ hy)) (λx c' e=>by
    rw[lookup_cons] at e
    by_cases hx:(x == n)=true
    ·rw[hx] at e
     have:x=n:=by simpa using hx
     subst this
     cases e
     exact hc
    ·rw[show(x == n)=false by simpa using hx] at e
     exact ha x c' e)
   refine⟨cl,?_,h1,λx c' e'=>?_,λy hy hyk=>?_⟩
   ·rw[forIn_cons]
    simp only[beq_self_eq_true,if_true,hcell,pure_bind]
    exact e
   ·by_cases hx:(x == n)=true
    ·exact h2 x c (by rw[lookup_cons,hx])
    ·exact h2 x c' (by rw[lookup_cons,show(x == n)=false by simpa using hx];exact e')
   ·rcases List.mem_cons.mp hy with rfl | hy
    ·exact h2 n c (by simp[lookup_cons])
    ·exact h3 y hy hyk
  ·obtain⟨cl,e,h1,h2,h3⟩:=Z90 env r acc (λy hy=>hf y (mem_cons_of_mem _ hy)) ha
   refine⟨cl,?_,h1,h2,λy hy hyk=>?_⟩
   ·rw[forIn_cons]
    have hb:((k == NameKind.free)=true)=False:=by simpa using hk
    simp only[hb,if_false,pure_bind]
    exact e
   ·rcases List.mem_cons.mp hy with rfl | hy
    ·exact absurd hyk hk
    ·exact h3 y hy hyk
theorem s81(hf:∀ y∈scope.names,y.2=.free→∃ c,env.cells.lookup y.1=some c) :
  ∃ cl:List (Str × Addr),closureFor scope env=pure cl∧(∀ x c,cl.lookup x=some c→env.cells.lookup x=some c)∧(∀ y∈scope.names,y.2=.free→∃ c,cl.lookup y.1=some c):=by
 obtain⟨cl,e,h1,_,h3⟩:=Z90 env scope.names [] hf (λx c e=>by simp at e)
 refine⟨cl,?_,h1,h3⟩
 simp only[closureFor]
 exact(congrArg (λt=>t >>= λr=>(pure r:Sem _)) e).trans (by simp)
section
variable {P:Program}{w:World}{A:Around}{R:Result→Shared→Prop}{s:Shared}
theorem s91{el tg src:Expr}{tests:List Expr}{sc:Scope}{ps:Pos}{itv av:Value}{en:Env}(J:Nat→Shared→Prop)
  (turn:∀ n s,J n s→wpAny (model P w) A (pyNext itv) (λr s1=>match r with
   |none=>R (.ok .next) s1
   |some v=>wpAny (model P w) A (letOwnedTupleGo tg itv v) (λ_ s2=>wpAny (model P w) A (assign tg en v) (λ_ s3 =>
     wpAny (model P w) A (forIn tests true λc r=>if r=true then do let ok ← isTrue c en (eval c en);pure (ForInStep.yield ok) else pure (ForInStep.yield r)) (λok s4 =>
      if ok=true then wpAny (model P w) A (eval el en) (λx s5 =>
       wpAny (model P w) A (call (.builtin "list.append") [av,x]) (λ_ s6=>∃ m,m < n∧J m s6) NoX s5) NoX s4
      else ∃ m,m < n∧J m s4) NoX s3) NoX s2) NoX s1) NoX s)
  (n:Nat) (h:J n s) :
  codeAny (model P w) A (.compLoop (.ListComp el [⟨tg,src,tests,0⟩] sc ps) 0 itv av en) R s:=by
 refine codeAny_loop rfl J (λn s hI=>?_) n h
 show wpAny _ A ((compTurn (.ListComp el [⟨tg,src,tests,0⟩] sc ps) 0 itv av en).onRaise (λx=>do noteFrame x en;theTreesLotGoes x)) _ _ s
 refine wpAny_noted ?_
 rw[compTurn_list]
 refine wpAny_bind (wpAny_standAt (wpAny_bind (wpAny_mono (turn n s hI) (λr s1 h1=>?_) λ_ _ x=>x.elim)))
 cases r with
 |none=>exact wpAny_pure h1
 |some v =>
  refine wpAny_bind (wpAny_mono h1 (λ_ s2 h2=>?_) λ_ _ x=>x.elim)
  refine wpAny_bind (wpAny_mono h2 (λ_ s3 h3=>wpAny_bind (wpAny_mono h3 (λok s4 h4=>?_) λ_ _ x=>x.elim)) λ_ _ x=>x.elim)
  cases ok with
  |false=>exact wpAny_pure ⟨rfl,h4⟩
  |true=>exact wpAny_bind (wpAny_bind (wpAny_mono h4 (λx s5 h5=>wpAny_bind (wpAny_mono h5 (λ_ s6 h6=>wpAny_pure (wpAny_pure ⟨rfl,h6⟩)) λ_ _ x=>x.elim)) λ_ _ x=>x.elim))
end
open PySem PySem.Spec PyProof.Rows
abbrev c60(X:Cx)(N':List Str)(sc:Scope)(cl:List (Str × Addr))(C:Addr)(s:Shared)(H:Hp)(fp:List Addr):Cx :=
 { X with N:=N',s₀:=s,H₀:=H,env:=compEnvC sc cl C X.env,outer:=X.stack,stack:=X.stack,ex:=fp,fn:=λ_=>false,pn:=[],xe:=NoX }
def e20(own:List Str)(capt:List (Str × Nat)):List Str:=own++capt.map (·.1)
def t00(own:List Str)(capt:List (Str × Nat))(σ:St):St:=own.map (λ_=>none)++capt.map λp=>(σ[p.2]?).getD none
structure H90(X:Cx)(sc:Scope)(own:List Str)(capt:List (Str × Nat)):Prop where
 kind:sc.kind=.function
 nocell:∀ y∈sc.names,y.2≠.cell
 locs:∀ y∈sc.names,y.2=.local→sc.names.lookup y.1=some .local
 frees:∀ y∈sc.names,y.2=.free→X.env.kindOf y.1=some .cell∨X.env.kindOf y.1=some .free
 captd:∀ p∈capt,X.N[p.2]?=some p.1∧sc.names.lookup p.1=some .free
theorem K60{env:Env}:∀ {names:List (Str × NameKind)}{x:Str}{k:NameKind},
  (names.map λ(n,k)=>if (k == NameKind.free&&env.scope.kind == .function&&env.kindOf n == some .cell) then(n,NameKind.cell) else(n,k)).lookup x=some k→(k=.cell∨k=.free)→(∀ y∈names,y.2≠.cell)→(x,NameKind.free)∈names
 |[],_,_,h,_,_=>by simp at h
 |(n,k0)::r,x,k,h,hk,hn=>by
  have h:List.lookup x ((if (k0 == NameKind.free&&env.scope.kind == .function&&env.kindOf n == some .cell)=true then(n,NameKind.cell) else(n,k0))::_)=some k:=h
  have hn0:k0≠.cell:=hn (n,k0) mem_cons_self
  cases hx:x == n with
  |true =>
   have e:x=n:=by simpa using hx
   subst e
   by_cases hc:(k0 == NameKind.free&&env.scope.kind == .function&&env.kindOf x == some .cell)=true
   ·have:k0=.free:=by
     cases k0 <;> simp_all
    subst this
    exact mem_cons_self
   ·rw[if_neg hc] at h
    simp only[lookup_cons,hx] at h
    cases h
    rcases hk with hk | hk
    ·exact absurd hk hn0
    ·subst hk;exact mem_cons_self
  |false =>
   have h':(r.map λ(n,k)=>if (k == NameKind.free&&env.scope.kind == .function&&env.kindOf n == some .cell) then(n,NameKind.cell) else(n,k)).lookup x=some k:=by
    by_cases hc:(k0 == NameKind.free&&env.scope.kind == .function&&env.kindOf n == some .cell)=true
    ·rw[if_pos hc] at h;simp only[lookup_cons,hx] at h;exact h
    ·rw[if_neg hc] at h;simp only[lookup_cons,hx] at h;exact h
   exact mem_cons_of_mem _ (K60 h' hk λy hy=>hn y (mem_cons_of_mem _ hy))
theorem q70{env:Env}:∀ {names:List (Str × NameKind)}{x:Str},names.lookup x=some .free →
  (names.map λ(n,k)=>if (k == NameKind.free&&env.scope.kind == .function&&env.kindOf n == some .cell) then(n,NameKind.cell) else(n,k)).lookup x=some .cell ∨
  (names.map λ(n,k)=>if (k == NameKind.free&&env.scope.kind == .function&&env.kindOf n == some .cell) then(n,NameKind.cell) else(n,k)).lookup x=some .free
 |[],_,h=>by simp at h
 |(n,k)::r,x,h=>by
  have ih:=@q70 env r x
  show List.lookup x ((if (k == NameKind.free&&env.scope.kind == .function&&env.kindOf n == some .cell)=true then(n,NameKind.cell) else(n,k))::_)=_∨List.lookup x ((if (k == NameKind.free&&env.scope.kind == .function&&env.kindOf n == some .cell)=true then(n,NameKind.cell) else(n,k))::_)=_
  cases hx:x == n with
  |true =>
   simp only[lookup_cons,hx] at h
   cases h
   by_cases hc:(NameKind.free == NameKind.free&&env.scope.kind == .function&&env.kindOf n == some .cell)=true
   ·rw[if_pos hc];left;simp only[lookup_cons,hx]
   ·rw[if_neg hc];right;simp only[lookup_cons,hx]
  |false =>
   simp only[lookup_cons,hx] at h
   by_cases hc:(k == NameKind.free&&env.scope.kind == .function&&env.kindOf n == some .cell)=true
   ·rw[if_pos hc];simp only[lookup_cons,hx];exact ih h
   ·rw[if_neg hc];simp only[lookup_cons,hx];exact ih h
theorem HOk.I11{P:Program}{w:World}{H:Hp}{h:Heap}{D:Addr}{ys:List V}{its:List Value}{n:Nat}(x:HOk P w H h)(hn:H D=none)(hv:Vals ys its)(hz:ys.length≤sizeLine)
  (ho:h.get? D=some { cls:=.type "list",data:=.seq its.toArray n }):HOk P w (upd H D (.lst ys)) h:=λb u e=>by
 by_cases hb:b=D
 ·subst hb;rw[c70] at e;cases e;exact⟨hz,its,n,hv,ho⟩
 ·rw[a50 hb] at e
  exact(x b u e).u90 (λc v _ q=>q) (λc q=>by rw[a50 (b60 q hn)];exact q) λc xs q=>by rw[a50 (b60 q hn)];exact q
def PTs(X:Cx)(tests:List Expr)(t:TT):Prop :=
 ∀ (pins:List (Addr × Obj)) (s:Shared) (σ:St) (H:Hp) (Q:Bool→Hp→Prop),Inv X pins σ H s→t σ H Q →
  wpAny (model X.prog X.w) X.A (forIn tests true λc r=>if r=true then do let ok ← isTrue c X.env (eval c X.env);pure (ForInStep.yield ok) else pure (ForInStep.yield r)) (TP X pins σ Q) X.xe s
def I21:TT:=λ_ H Q=>Q true H
theorem W01:PTs X [] I21:=λ_ _ _ H _ I h=>wpAny_tests_nil ⟨H,I,h⟩
theorem W11(hc:PT X c t):PTs X [c] t:=λpins s σ H Q I h=>wpAny_tests_one (hc pins s σ H Q I h)
section
variable {X:Cx}{pins:List (Addr × Obj)}{σ:St}{H2:Hp}{s2:Shared}{sc:Scope}{own:List Str}{capt:List (Str × Nat)}{cl:List (Str × Addr)}{fp:List Addr}{C:Addr}
theorem S60(I:Inv X pins σ H2 s2)(S:H90 X sc own capt)(hcl:∀ x c,cl.lookup x=some c→X.env.cells.lookup x=some c)(hcf:∀ y∈sc.names,y.2=.free→∃ c,cl.lookup y.1=some c)
  (hx:∀ x c,X.env.cells.lookup x=some c→c ∉ fp) {h':Heap} (un:∀ c o,s2.heap.get? c=some o→H2 c=none→c ∉ fp→∃ sl,h'.get? c=some { o with slots:=sl }) (m:Str→Option Value) :
  ∀ (i:Nat) (x:Str) (v:V),(e20 own capt)[i]?=some x→(t00 own capt σ)[i]?=some (some v)→∃ u,RelV v u∧Look (compEnvC sc cl C X.env) h' m x u:=by
 intro i x v e1 e2
 unfold e20 at e1
 unfold t00 at e2
 by_cases hi:i < own.length
 ·rw[List.getElem?_append_left (by simpa using hi),List.getElem?_map] at e2
  cases q:own[i]? with
  |none=>rw[q] at e2;cases e2
  |some y=>rw[q] at e2;cases e2
 ·rw[List.getElem?_append_right (by simpa using hi),length_map,List.getElem?_map] at e2
  rw[List.getElem?_append_right (by simpa using hi),List.getElem?_map] at e1
  cases q:capt[i - own.length]? with
  |none=>rw[q] at e1;cases e1
  |some p =>
   rw[q] at e1 e2
   obtain rfl:p.1=x:=Option.some.inj e1
   have e3:(σ[p.2]?).getD none=some v:=Option.some.inj e2
   have e4:σ[p.2]?=some (some v):=by
    cases z:σ[p.2]? with
    |none=>rw[z] at e3;cases e3
    |some w=>rw[z] at e3;exact congrArg some e3
   obtain⟨hN,hf⟩:=S.captd p (mem_of_getElem? q)
   have hmem:(p.1,NameKind.free)∈sc.names:=PySem.mem_of_lookup hf
   have hk:=S.frees _ hmem rfl
   obtain⟨m0,_,hl⟩:=I.loc
   have vis:Vis X.env.scope p.1:=.inr hk
   obtain⟨u,r,lk⟩:=hl p.2 p.1 v hN e4 vis
   refine⟨u,r,.inr ⟨?_,?_⟩⟩
   ·exact q70 hf
   ·rcases lk with ⟨hl0,_⟩ | ⟨_,c,hc,o,ho,hd⟩
    ·rcases hk with hk | hk <;> (rw[hk] at hl0;cases hl0)
    ·obtain⟨c',hc'⟩:=hcf _ hmem rfl
     have:=hcl _ _ hc'
     rw[hc] at this
     cases this
     obtain⟨sl,q'⟩:=un c o ho (I.freeC _ _ hc) (hx _ _ hc)
     exact⟨c,hc',_,q',hd⟩
end
def W21(X:Cx)(pins:List (Addr × Obj))(σ:St)(R:V→Hp→Prop)(acc:Value)(C:Addr)(s':Shared):Prop :=
 ∃ D H' m',acc=.ref D∧Inv X pins σ H' s'∧m61 X pins H' C∧s'.heap.Ns C m'∧R (.ref D) H'
def W31(J:It)(σ0:St)(H1:Hp)(g:TG)(tt:TT)(te:TE)(Q:VK):Prop:=∃ W:Nat→Nat→List V→Hp→Prop,(∃ m,W 0 m [] H1)∧∀ i m ys H,W i m ys H →
 (J.stop i H∧∀ p,H p=none→Q (.ref p) (upd H p (.lst ys))) ∨
 (J.go i H∧ys.length < sizeLine∧∃ N:List V→Hp→Prop,(∀ zs H',N zs H'→∃ m',m' < m∧W (i + 1) m' zs H')∧∀ x H',J.yld i H x H'→g x σ0 H' λσ2 H2=>tt σ2 H2 λb H3 =>
  if b=true then te σ2 H3 (λy H4=>N (ys++[y]) H4) else N ys H3)
def W41(own:List Str)(capt:List (Str × Nat))(wi:TI)(g:TG)(tt:TT)(te:TE):TE:=λσ H Q=>wi σ H λJ H1=>W31 J (t00 own capt σ) H1 g tt te Q
section
variable {X:Cx}{pins:List (Addr × Obj)}{σ:St}{H2:Hp}{s2:Shared}{sc:Scope}{own:List Str}{capt:List (Str × Nat)}{cl:List (Str × Addr)}{el tg src:Expr}{tests:List Expr}{ps:Pos}{g:TG}{tt:TT}{te:TE}
theorem I00(hc:X.calm=true)(S:H90 X sc own capt)(hcl:∀ x c,cl.lookup x=some c→X.env.cells.lookup x=some c)(hcf:∀ y∈sc.names,y.2=.free→∃ c,cl.lookup y.1=some c)
  (hg:∀ C s H fp,PG (c60 X (e20 own capt) sc cl C s H fp) tg g) (ht:∀ C s H fp,PTs (c60 X (e20 own capt) sc cl C s H fp) tests tt) (he:∀ C s H fp,PE (c60 X (e20 own capt) sc cl C s H fp) el te)
  {it:Addr}{fp:List Addr}{tn:Nat→Heap→Prop}{J:It} (I2:Inv X pins σ H2 s2) (T:Turn X.prog X.w X.K tg J fp it tn) (st2:tn 0 s2.heap) (f2:∀ b∈fp,m61 X pins H2 b)
  {R:VK} (h:W31 J (t00 own capt σ) H2 g tt te R) {RR:Value→Addr→Result→Shared→Prop} (hRR:∀ acc C s',W21 X pins σ R acc C s'→RR acc C (.ok .next) s') {E:Value→Shared→Prop} :
  wpAny (model X.prog X.w) X.A (newList []) (λacc s3=>wpAny (model X.prog X.w) X.A (newFunctionEnv sc X.env.globals cl [] X.env.qual none .none (some X.env)) (λce s4 =>
   codeAny (model X.prog X.w) X.A (.compStart (.ListComp el [⟨tg,src,tests,0⟩] sc ps) 0 (.ref it) acc { ce with scope:=relabel sc X.env }) (RR acc ce.locals) s4) E s3) E s2:=by
 obtain⟨W,⟨m0,w0⟩,turn⟩:=h
 refine wpAny_newObj_type (wpAny_newFunctionEnv S.nocell (by intro y hy;simp at hy) (λh1 hns1 hsb1=>?_) S.kind)
 dsimp only at hns1 hsb1 ⊢
 generalize hH3:s2.heap.push { cls:=.type "list",dict:=none,data:=.seq ([]:List Value).toArray }=h3 at hns1 hsb1 ⊢
 have hC:h3.objs.size=s2.heap.objs.size + 1:=by rw[← hH3,size_push]
 have below:∀ b,b < s2.heap.objs.size→b≠h3.objs.size∧b≠s2.heap.objs.size:=λb hb=>⟨by omega,by omega⟩
 have hDC:s2.heap.objs.size≠h3.objs.size:=by omega
 have old:∀ b o,s2.heap.get? b=some o→h1.get? b=some o:=λb o e=>hsb1.extBut b o (below b (lt_size e)).1 (Heap.get?_push_of_some _ (hH3 ▸ Heap.get?_push_of_some _ e))
 have hacc:h1.get? s2.heap.objs.size=some { cls:=.type "list",data:=.seq ([]:List Value).toArray 0 }:=hsb1.extBut _ _ hDC (Heap.get?_push_of_some _ (hH3 ▸ Heap.get?_push_size _ rfl))
 have fpLt:∀ b∈fp,b < s2.heap.objs.size:=λb hb=>by
  obtain⟨o,e,_⟩:=T.obj _ _ st2 b hb
  exact lt_size e
 have celLt:∀ x c,X.env.cells.lookup x=some c→c < s2.heap.objs.size:=λx c e=>by
  obtain⟨v,o,q,_⟩:=I2.cell x c e
  exact lt_size q
 have frLt:∀ b∈frs X.stack,b < s2.heap.objs.size:=λb hb=>by
  obtain⟨_,o,q,_⟩:=I2.stack.mem hb
  exact lt_size q
 have celFp:∀ x c,X.env.cells.lookup x=some c→c ∉ fp:=λx c e hb=>(f2 c hb).2.2.2.2.1 x c e rfl
 have fpFr:∀ b∈fp,b ∉ frs X.stack:=λb hb hf=>by
  rcases List.mem_cons.mp (I2.q91 b hf) with z | z
  ·exact(f2 b hb).2.1 z
  ·exact(f2 b hb).2.2.1 z
 have okX:(c60 X (e20 own capt) sc cl h3.objs.size s2 H2 fp).Ok:=by
  refine⟨I2.ok.mod,S.kind,I2.ok.glob,I2.ok.blt,(by show s2.heap.objs.size≤h3.objs.size;omega),λx y c e1 e2=>I2.ok.inj x y c (hcl x c e1) (hcl y c e2),λx hx=>?_,λx c hx=>(by cases hx),I2.ok.hd,I2.ok.frames,.inl rfl,
   λb hb=>⟨(below b (fpLt b hb)).1,λx c e z=>celFp x c (hcl x c e) (z ▸ hb)⟩,I2.bs,Nat.le_trans I2.ok.bsz I2.sz,λb o e hb=>?_,fpFr,I2.stack,I2.Z20⟩
  ·have hx':(x,NameKind.free)∈sc.names:=by
    rcases hx with hx | hx
    ·exact K60 hx (.inl rfl) S.nocell
    ·exact K60 hx (.inr rfl) S.nocell
   exact hcf _ hx' rfl
  ·rcases (f2 b hb).2.2.2.1 with z | z
   ·exact I2.ok.noex b o e z
   ·have l1:b < X.base.objs.size:=lt_size e
    have l2:X.base.objs.size≤X.s₀.heap.objs.size:=I2.ok.bsz
    have l3:X.s₀.heap.objs.size≤b:=z
    exact absurd l1 (Nat.not_lt.mpr (Nat.le_trans l2 l3))
 have reset:∀ {pl:List (Addr × Obj)}{σ':St}{H':Hp}{s':Shared},Inv (c60 X (e20 own capt) sc cl h3.objs.size s2 H2 fp) pl σ' H' s'→Inv (c60 X (e20 own capt) sc cl h3.objs.size s2 H2 fp) pl (t00 own capt σ) H' s':=λ{pl σ' H' s'} I'=>by
  obtain⟨m,hn,_⟩:=I'.loc
  refine⟨I'.ok,I'.os,I'.bare,I'.base,⟨m,hn,λi x v e1 e2 _=>S60 I2 S hcl hcf celFp (λc o q n hx=>I'.base.any q n hx) m i x v e1 e2⟩,I'.cell,I'.free,I'.freeC,I'.pin,I'.hok,?_⟩
  show(t00 own capt σ).length=(e20 own capt).length
  simp[t00,e20]
 have start:Inv (c60 X (e20 own capt) sc cl h3.objs.size s2 H2 fp) [(s2.heap.objs.size,{ cls:=.type "list",data:=.seq ([]:List Value).toArray 0 })] (t00 own capt σ) H2 { s2 with heap:=h1,toks:=s2.toks + ([]:List (Str × Value)).length }:=by
  refine⟨okX,rfl,I2.bare,Un.kept old,⟨_,hns1,λi x v e1 e2 _=>S60 I2 S hcl hcf celFp (λc o q _ _=>⟨o.slots,old c o q⟩) _ i x v e1 e2⟩,λx c e=>?_,?_,λx c e=>I2.freeC x c (hcl x c e),λp hp=>?_,I2.hok.kept old,?_⟩
  ·obtain⟨v,q⟩:=I2.cell x c (hcl x c e)
   exact⟨v,q.keeps old⟩
  ·exact I2.hok.fresh (by show s2.heap.objs.size≤h3.objs.size;omega)
  ·have hp':p=(s2.heap.objs.size,{ cls:=.type "list",data:=.seq ([]:List Value).toArray 0 }):=by simpa using hp
   subst hp'
   exact⟨hacc,I2.hok.fresh (Nat.le_refl _),hDC,λz=>Nat.lt_irrefl _ (frLt _ z),λv z=>by cases z⟩
  ·show(t00 own capt σ).length=(e20 own capt).length
   simp[t00,e20]
 have q31:∀ {pl:List (Addr × Obj)}{H':Hp},(∀ p∈pl,p.1 ∉ fp)→(∀ b∈fp,H' b=none)→∀ b∈fp,m61 (c60 X (e20 own capt) sc cl h3.objs.size s2 H2 fp) pl H' b:=λ{pl H'} hp hn b hb =>
  ⟨hn b hb,(below b (fpLt b hb)).1,fpFr b hb,.inl hb,λx c e z=>celFp x c (hcl x c e) (z ▸ hb),λp hpp z=>hp p (by simpa using hpp) (z ▸ hb)⟩
 have hDfp:s2.heap.objs.size ∉ fp:=λz=>Nat.lt_irrefl _ (fpLt _ z)
 have loop:∀ s3:Shared,s3={ s2 with heap:=h1,toks:=s2.toks + ([]:List (Str × Value)).length } →
   codeAny (model X.prog X.w) X.A (.compLoop (.ListComp el [⟨tg,src,tests,0⟩] sc ps) 0 (.ref it) (.ref s2.heap.objs.size) (compEnvC sc cl h3.objs.size X.env)) (RR (.ref s2.heap.objs.size) h3.objs.size) s3:=by
  rintro s3 rfl
  refine s91 (λn s'=>∃ i ys H' its k,Inv (c60 X (e20 own capt) sc cl h3.objs.size s2 H2 fp) [(s2.heap.objs.size,{ cls:=.type "list",data:=.seq (toArray its) k })] (t00 own capt σ) H' s'∧tn i s'.heap∧(∀ b∈fp,H' b=none)∧Vals ys its∧ys.length≤sizeLine∧W i n ys H') ?_ m0
   ⟨0,[],H2,[],0,start,T.keep _ _ _ st2 λb _ o e=>old b o e,λb hb=>(f2 b hb).1,.nil,zero_le _,w0⟩
  rintro n s' ⟨i,ys,H',its,k,I',st',fr',hv,hz,w'⟩
  have pinD:∀ p∈[((s2.heap.objs.size:Addr),({ cls:=.type "list",data:=.seq (toArray its) k }:Obj))],p.1 ∉ fp:=λp hp=>by
   have hp':p=(s2.heap.objs.size,{ cls:=.type "list",data:=.seq (toArray its) k }):=by simpa using hp
   subst hp'
   exact hDfp
  rcases turn i n ys H' w' with ⟨stop,q⟩ | ⟨go,hlt,N,hN,step⟩
  ·refine thn (T.done (c60 X (e20 own capt) sc cl h3.objs.size s2 H2 fp) rfl rfl rfl hc i _ s' _ H' NoX I' (q31 pinD fr') st' stop) λr s1 hr=>?_
   obtain⟨hr,I1⟩:=hr
   subst hr
   obtain⟨gD,nD,_,_,_⟩:=I1.pin _ (mem_append_right _ mem_cons_self)
   obtain⟨m',hn',_⟩:=id I1.loc
   have un:Un (frs X.stack) fp H2 (upd H' s2.heap.objs.size (.lst ys)) s2.heap s1.heap:=by
    have u:=I1.base
    have nD2:H2 s2.heap.objs.size=none:=I2.hok.fresh (Nat.le_refl _)
    refine⟨u.keep,u.slot,λb o e n hx=>?_,u.there,λb xs e=>?_,λb o xs e=>?_,λb ps' e=>?_⟩
    ·rw[a50 (below b (lt_size e)).2];exact u.free b o e n hx
    ·rw[a50 (b60 e nD2)];exact u.tups b xs e
    ·rw[a50 (b60 e nD2)];exact u.frzs b o xs e
    ·obtain⟨more,e'⟩:=u.tbls b ps' e
     exact⟨more,by rw[a50 (b60 e nD2)];exact e'⟩
   have IX:Inv X pins σ (upd H' s2.heap.objs.size (.lst ys)) s1:=I2.y62 I1.os un (I1.hok.I11 nD hv hz gD) I1.bare λb hb=>⟨(f2 b hb).2.2.2.1,(f2 b hb).2.1,(f2 b hb).2.2.2.2.1,(f2 b hb).2.2.2.2.2⟩
   refine hRR _ _ _ ⟨_,_,m',rfl,IX,?_,hn',q _ nD⟩
   exact I2.q31 (by omega) (by rw[a50 hDC.symm];exact I1.free)
  ·refine thn (T.item (c60 X (e20 own capt) sc cl h3.objs.size s2 H2 fp) rfl rfl rfl hc i _ s' _ H' NoX I' (q31 pinD fr') st' go) λr s1 hr=>?_
   obtain⟨u,hr,h4⟩:=hr
   subst hr
   refine thn h4 λ_ s5 hr5=>?_
   obtain⟨x,H5,I5,r5,y5,st5,fr5⟩:=hr5
   have I5p:=I5.pinned (q31 pinD fr5) (T.obj _ _ st5)
   refine thn (hg _ _ _ _ _ s5 _ H5 x u _ I5p r5 (step x H5 y5)) λ_ s6 hr6=>?_
   obtain⟨σ6,H6,I6,q6⟩:=hr6
   refine thn (ht _ _ _ _ _ s6 σ6 H6 _ I6 q6) λok s7 hr7=>?_
   obtain⟨H7,I7,q7⟩:=hr7
   have memFp:∀ {pl:List (Addr × Obj)}{b:Addr}{o:Obj},b∈fp→s5.heap.get? b=some o→(b,o)∈([]:List (Addr × Obj))++(pl++C70 fp s5.heap):=λhb e=>mem_append_right _ (mem_append_right _ (l10 hb e))
   cases ok with
   |false =>
    rw[if_neg Bool.false_ne_true] at q7 ⊢
    obtain⟨m',hm,w7⟩:=hN _ _ q7
    refine⟨m',hm,i + 1,ys,H7,its,k,reset (I7.C60 λp hp=>I7.pin p (mem_append_right _ (mem_append_left _ hp))),T.keep _ _ _ st5 λb hb o e=>(I7.pin (b,o) (memFp hb e)).1,λb hb=>?_,hv,hz,w7⟩
    obtain⟨o,e,_⟩:=T.obj _ _ st5 b hb
    exact(I7.pin (b,o) (memFp hb e)).2.1
   |true =>
    rw[if_pos rfl] at q7 ⊢
    refine thn (he _ _ _ _ _ s7 σ6 H7 _ I7 q7) λuv s8 hr8=>?_
    obtain⟨y,H8,I8,r8,q8⟩:=hr8
    obtain⟨m',hm,w8⟩:=hN _ _ q8
    obtain⟨gD,nD,dC,dF,_⟩:=I8.pin _ (mem_append_right _ (mem_append_left _ mem_cons_self))
    refine append_at gD (λh9 sb hD9=>?_) (by show(toArray its).size≤sizeLine;rw[size_toArray,← hv.length];exact hz)
    have I8a:Inv (c60 X (e20 own capt) sc cl h3.objs.size s2 H2 fp) (C70 fp s5.heap) σ6 H8 s8:=I8.C60 λp hp=>I8.pin p (mem_append_right _ (mem_append_right _ hp))
    have I9:Inv (c60 X (e20 own capt) sc cl h3.objs.size s2 H2 fp) (C70 fp s5.heap) σ6 H8 { s8 with heap:=h9 }:=I8a.turned (t':=s8.toks) (λb o hb e=>(sb.2 b hb).trans e) nD dC (.inr (Nat.le_refl _))
     (λx c e z=>Nat.lt_irrefl s2.heap.objs.size (by have:=celLt x c (hcl x c e);rw[z] at this;exact this)) (λp hp z=>hDfp (z ▸ (R20 (by simpa using hp)).1))
    rw[List.push_toArray] at hD9
    refine⟨m',hm,i + 1,ys++[y],H8,its++[uv],k + 1,(reset I9).C60 λp hp=>?_,T.keep _ _ _ st5 λb hb o e=>?_,λb hb=>?_,hv.append (.cons r8 .nil),by rw[length_append];exact hlt,w8⟩
    ·have hp':p=(s2.heap.objs.size,{ cls:=.type "list",data:=.seq (toArray (its++[uv])) (k + 1) }):=by simpa using hp
     subst hp'
     exact⟨hD9,nD,dC,dF,λv z=>by cases z⟩
    ·exact(I9.pin (b,o) (mem_append_right _ (l10 hb e))).1
    ·obtain⟨o,e,_⟩:=T.obj _ _ st5 b hb
     exact(I9.pin (b,o) (mem_append_right _ (l10 hb e))).2.1
 exact codeAny_compStart_list (loop _ rfl) (T.self _ 0 _ _ _ (T.keep _ _ _ st2 λb _ o e=>old b o e) (loop _ rfl))
end
section
variable {X:Cx}{sc:Scope}{own:List Str}{capt:List (Str × Nat)}{el tg src:Expr}{tests:List Expr}{ps pos:Pos}{wi:TI}{g:TG}{tt:TT}{te:TE}
theorem W51(hc:X.calm=true)(S:H90 X sc own capt)(hi:PI X tg src wi)(hg:∀ cl C s H fp,PG (c60 X (e20 own capt) sc cl C s H fp) tg g)
  (ht:∀ cl C s H fp,PTs (c60 X (e20 own capt) sc cl C s H fp) tests tt) (he:∀ cl C s H fp,PE (c60 X (e20 own capt) sc cl C s H fp) el te)
  (hs:∀ x,foldedSetIterable src X.env x=pure x:=by intro _;rfl):PE X (.ListComp el [⟨tg,src,tests,0⟩] sc ps) (W41 own capt wi g tt te):=by
 intro pins s σ H Q I h
 obtain⟨cl,hclos,hcl,hcf⟩:=s81 (scope:=sc) (env:=X.env) λy hy hk=>I.ok.has y.1 (S.frees y hy hk)
 rw[eval_ListComp]
 refine wpAny_comprehension_free (use:=none) rfl hs hclos S.kind S.locs (thn (hi pins s σ H _ I h) λv s1 h1=>thn h1 λitv s2 h2=>?_)
 obtain⟨it,fp,tn,J,H2,e,I2,T,st2,f2,hw⟩:=h2
 subst e
 refine I00 hc S hcl hcf (hg cl) (ht cl) (he cl) I2 T st2 f2 hw (RR:=λacc C=>compPost (model X.prog X.w) X.A X.xe none (EP X pins σ Q) acc C) λacc C s' hf=>?_
 obtain⟨D,H',m',rfl,I',f',ns',r⟩:=hf
 exact⟨m',ns',λh' sb=>⟨.ref D,H',I'.turned (t':=s'.toks) (λb o hb e=>(sb.2 b hb).trans e) f'.1 f'.2.1 f'.2.2.2.1 f'.2.2.2.2.1 f'.2.2.2.2.2,rfl,r⟩⟩
theorem W61{i:Nat}{y:Str}{py:Pos}(hN:X.N.Nodup)(hiN:X.N[i]?=some y)(hy:Loc X.env.scope y)(hsw:swapsWith (.ListComp el [⟨tg,src,tests,0⟩] sc ps) (some (.Name y py)) pos.line X.env=pure true)
  (hc:X.calm=true) (S:H90 X sc own capt) (hi:PI X tg src wi) (hg:∀ cl C s H fp,PG (c60 X (e20 own capt) sc cl C s H fp) tg g)
  (ht:∀ cl C s H fp,PTs (c60 X (e20 own capt) sc cl C s H fp) tests tt) (he:∀ cl C s H fp,PE (c60 X (e20 own capt) sc cl C s H fp) el te)
  (hs:∀ x,foldedSetIterable src X.env x=pure x:=by intro _;rfl) (hf:X.fn y=true∨X.env.scope.names.lookup y=some .local:=by first | exact .inl rfl | exact .inr rfl | assumption) :
  PS X (.Assign [.Name y py] (.ListComp el [⟨tg,src,tests,0⟩] sc ps) pos) (k52 (W41 own capt wi g tt te) (m51 i)):=by
 intro pins s σ H D I h
 obtain⟨cl,hclos,hcl,hcf⟩:=s81 (scope:=sc) (env:=X.env) λy hy hk=>I.ok.has y.1 (S.frees y hy hk)
 rw[exec_Assign_Name_used _ _ _ _ hsw]
 refine wpAny_bind (wpAny_standAt (wpAny_bind ?_))
 show wpAny _ X.A (do let _ ← comprehension (.ListComp el [⟨tg,src,tests,0⟩] sc ps) sc X.env _ (newList []) false (eval src X.env) (some (assign (.Name y py) X.env))) _ _ s
 refine wpAny_bind (wpAny_mono (wpAny_comprehension_free (use:=some (assign (.Name y py) X.env)) (Q:=λ_ s'=>SP X pins D .next s') rfl hs hclos S.kind S.locs
  (thn (hi pins s σ H _ I h) λv s1 h1=>thn h1 λitv s2 h2=>?_)) (λ_ s' hq=>wpAny_pure (wpAny_pure hq)) λ_ _ e=>e)
 obtain⟨it,fp,tn,J,H2,e,I2,T,st2,f2,hw⟩:=h2
 subst e
 refine I00 hc S hcl hcf (hg cl) (ht cl) (he cl) I2 T st2 f2 hw (RR:=λacc C=>compPost (model X.prog X.w) X.A X.xe (some (assign (.Name y py) X.env)) (λ_ s'=>SP X pins D .next s') acc C) λacc C s' hfn=>?_
 obtain⟨DA,H',m',rfl,I',f',ns',r⟩:=hfn
 show wpAny _ X.A (assign (.Name y py) X.env (.ref DA)) _ _ _
 refine wpAny_assign_Name (R00 (v:=.ref DA) I' hN hiN hy rfl (λs3 I3 ha=>?_) hf)
 obtain⟨a,sb,ha⟩:=ha
 have hCa:C≠a:=λz=>by
  rcases ha with q | q
  ·exact f'.2.1 (z.trans q)
  ·exact f'.2.2.2.2.1 _ _ q z.symm
 exact⟨m',ns'.sameBut sb hCa,λh' sb'=>⟨_,H',I3.turned (t':=s3.toks) (λb o hb e=>(sb'.2 b hb).trans e) f'.1 f'.2.1 f'.2.2.2.1 f'.2.2.2.2.1 f'.2.2.2.2.2,r⟩⟩
end
end L2
namespace L2
open PySem
section
variable {P:Program}{w:World}{A:Around}{E:Value→Shared→Prop}{s:Shared}
theorem q80(hr:s.heap.IsTupleIter r t k)(ht:s.heap.IsTuple t vs)(hx:vs[k]?=some x)
  (hQ:∀ h',h'.IsTupleIter r t (k + 1)→Heap.SameBut r s.heap h'→Q x { s with heap:=h' }):wpAny (model P w) A (nextOf (.ref r)) Q E s:=by
 obtain⟨o,ho,hc,hd⟩:=id hr;obtain⟨ot,hot,_,nt,hdt⟩:=ht;unfold nextOf
 refine wpAny_bind (wpAny_callSpecial?_slot (name:=Str.ofString "__next__") hr.typeIs F.slot_tuple_iterator_next (wpAny_call_entry F.slot_tuple_iterator_next hr.typeIs F.entry_tuple_iterator_next ?_ (F.args_tuple_iterator_next_1 _)))
 show wpAny _ _ (field (.ref r) 0 >>= _) _ _ s
 refine wpAny_bind (wpAny_field ho hd (x:=.ref t) rfl ?_);show wpAny _ _ (if (Value.ref t == Value.none)=true then _ else _) _ _ s
 rw[if_neg (show ¬ ((Value.ref t == Value.none)=true) from Bool.false_ne_true)];show wpAny _ _ (field (.ref r) 1 >>= _) _ _ s
 refine wpAny_bind (wpAny_field ho hd (x:=.int k 0) rfl ?_);show wpAny _ _ (seqItems? (.ref t) >>= _) _ _ s
 refine wpAny_bind (wpAny_seqItems hot hdt ?_);simp only[toNat_natCast,hx]
 refine wpAny_bind (wpAny_setField ho hd (by simp) (wpAny_pure ⟨x,rfl,wpAny_pure (hQ _ ⟨_,Heap.get?_update_self _ ho (Obj.isFreed_of_fields (Obj.data_mapFields hd _)),(Obj.cls_mapFields ..).trans hc,by rw[Obj.data_mapFields hd];simp[rawInt]⟩ (Heap.SameBut.update ..))⟩))
theorem m20(hh:A.handled=none)(hr:s.heap.IsTupleIter r t k)(ht:s.heap.IsTuple t vs)(hx:vs[k]?=none)
  (hE:∀ h' e,Heap.ExtBut r s.heap h'→(∃ o,h'.get? e=some o∧o.cls=.type "StopIteration")→E (.ref e) { s with heap:=h' }):wpAny (model P w) A (nextOf (.ref r)) Q E s:=by
 obtain⟨o,ho,hc,hd⟩:=id hr;obtain⟨ot,hot,_,nt,hdt⟩:=ht;unfold nextOf
 refine wpAny_bind (wpAny_callSpecial?_slot (name:=Str.ofString "__next__") hr.typeIs F.slot_tuple_iterator_next (wpAny_call_entry F.slot_tuple_iterator_next hr.typeIs F.entry_tuple_iterator_next ?_ (F.args_tuple_iterator_next_1 _)))
 show wpAny _ _ (field (.ref r) 0 >>= _) _ _ s
 refine wpAny_bind (wpAny_field ho hd (x:=.ref t) rfl ?_);show wpAny _ _ (if (Value.ref t == Value.none)=true then _ else _) _ _ s
 rw[if_neg (show ¬ ((Value.ref t == Value.none)=true) from Bool.false_ne_true)];show wpAny _ _ (field (.ref r) 1 >>= _) _ _ s
 refine wpAny_bind (wpAny_field ho hd (x:=.int k 0) rfl ?_);show wpAny _ _ (seqItems? (.ref t) >>= _) _ _ s
 refine wpAny_bind (wpAny_seqItems hot hdt ?_);simp only[toNat_natCast,hx]
 refine wpAny_bind (wpAny_rule (wpAny_bind (wpAny_setField ho hd (by simp) ?_)));show wpAny _ _ (newExc (.type "StopIteration") [] >>= _) _ _ _
 refine wpAny_bind ?_;simp only[newExc,newTuple]
 refine wpAny_bind (wpAny_newObj_type ?_ (by size_fits));refine wpAny_bind (m:=firstArgMember _ _) (wpAny_of_eq (a:=Value.none) (by first | rfl | (simp only[firstArgMember];rfl)) ?_)
 refine wpAny_newObj_type ?_ (by size_fits);simp only[raiseNew];refine wpAny_bind (wpAny_handled ?_)
 first | rw[show A.in1.handled=none from hh] | rw[hh]
 refine wpAny_bind (wpAny_pure (wpAny_throw (hE _ _ (((Heap.SameBut.update ..).extBut.push _).push _) ⟨_,Heap.get?_push_size _ rfl,rfl⟩)))
theorem t01{z TI TO i1 i2 l1 l2:Addr}{k:Nat}{xs ys:Array Value}{x y a b:Value}{Q:Option Value→Shared→Prop}(D:ZipApart z TI TO i1 i2 l1 l2)(hz:IsZip s.heap z TI TO .none)
  (hTI:IsPair s.heap TI (.ref i1) (.ref i2)) (hTO:IsPair s.heap TO a b) (h1:s.heap.IsTupleIter i1 l1 k) (h2:s.heap.IsTupleIter i2 l2 k) (hl1:s.heap.IsTuple l1 xs) (hl2:s.heap.IsTuple l2 ys)
  (hx:xs[k]?=some x) (hy:ys[k]?=some y)
  (hQ:∀ h',IsZip h' z TI TO (rawInt s.heap.objs.size)→IsPair h' TO x y→h'.IsTupleIter i1 l1 (k + 1)→h'.IsTupleIter i2 l2 (k + 1)→IsPair h' s.heap.objs.size x y→h'.objs.size=s.heap.objs.size + 1 →
   (∀ c o,c≠z→c≠TO→c≠i1→c≠i2→s.heap.get? c=some o→h'.get? c=some o)→Q (some (.ref s.heap.objs.size)) { s with heap:=h' }):wpAny (model P w) A (pyNext (.ref z)) Q E s:=by
 have hT:s.TypeIs (.ref z) "zip":=⟨_,hz,rfl⟩
 unfold pyNext;refine wpAny_bind (wpAny_attempt (wpAny_callSpecial?_slot (name:=Str.ofString "__next__") hT F.slot_zip_next (wpAny_call_entry F.slot_zip_next hT F.entry_zip_next ?_ (F.args_zip_next_1 _))))
 show wpAny _ _ (field (.ref z) 2 >>= _) _ _ _;refine wpAny_bind (wpAny_field hz rfl (x:=.bool false) rfl ?_)
 show wpAny _ _ (field (.ref z) 3 >>= _) _ _ _;refine wpAny_bind (wpAny_field hz rfl (x:=.ref TI) rfl ?_)
 refine wpAny_bind (wpAny_seqItems hTI rfl ?_);show wpAny _ _ (ownedTupleIsFree (.ref z) >>= _) _ _ _
 refine wpAny_bind ?_;unfold ownedTupleIsFree;refine wpAny_bind (wpAny_field hz rfl (x:=.none) rfl (wpAny_pure ?_));simp only[if_true]
 refine wpAny_bind (wpAny_rule (wpAny_bind (wpAny_field hz rfl (x:=.ref TO) rfl (wpAny_bind (wpAny_setField_rec hz (by simp) λg1 z1 e1=>?_)))))
 replace z1:IsZip g1 z TI TO .ellipsis:=z1
 refine wpAny_bind ?_;simp only[List.zipIdx_cons,List.zipIdx_nil,forIn_cons,forIn_nil]
 refine wpAny_bind (wpAny_bind (wpAny_onRaise ?_));show wpAny _ _ (nextOf (.ref i1) >>= _) _ _ _
 refine wpAny_bind (q80 (h1.extBut e1.extBut D.i1z) (hl1.extBut e1.extBut D.l1z) hx λg2 r2 e2=>wpAny_pure ?_)
 have t2:IsPair g2 TO a b:=e2.extBut _ _ D.TOi1 (e1.extBut _ _ D.TOz hTO)
 refine wpAny_bind (wpAny_seqItems t2 rfl (wpAny_bind (wpAny_updateSeq_pair t2 λg3 t3 e3=>?_)))
 replace t3:IsPair g3 TO x b:=t3
 refine wpAny_bind (wpAny_letGo (wpAny_pure ?_));refine wpAny_bind (wpAny_bind (wpAny_onRaise ?_));show wpAny _ _ (nextOf (.ref i2) >>= _) _ _ _
 refine wpAny_bind (q80 (((h2.extBut e1.extBut D.i2z).extBut e2.extBut D.i12.symm).extBut e3.extBut D.TOi2.symm) (((hl2.extBut e1.extBut D.l2z).extBut e2.extBut D.l2i1).extBut e3.extBut D.l2TO) hy λg4 r4 e4=>wpAny_pure ?_)
 have t4:IsPair g4 TO x b:=e4.extBut _ _ D.TOi2 t3
 refine wpAny_bind (wpAny_seqItems t4 rfl (wpAny_bind (wpAny_updateSeq_pair t4 λg5 t5 e5=>?_)))
 replace t5:IsPair g5 TO x y:=t5
 refine wpAny_bind (wpAny_letGo (wpAny_pure (wpAny_pure ?_)));refine wpAny_bind (wpAny_seqItems t5 rfl (wpAny_bind (wpAny_newTuple ?_)))
 have sz:g5.objs.size=s.heap.objs.size:=by rw[e5.1,e4.1,e3.1,e2.1,e1.1]
 have z5:IsZip g5 z TI TO .ellipsis:=e5.extBut _ _ D.TOz.symm (e4.extBut _ _ D.i2z.symm (e3.extBut _ _ D.TOz.symm (e2.extBut _ _ D.i1z.symm z1)))
 have kp:∀ c o,c≠z→c≠TO→c≠i1→c≠i2→s.heap.get? c=some o→g5.get? c=some o:=λc o c1 c2 c3 c4 e=>e5.extBut _ _ c2 (e4.extBut _ _ c4 (e3.extBut _ _ c2 (e2.extBut _ _ c3 (e1.extBut _ _ c1 e))))
 have r1:g5.IsTupleIter i1 l1 (k + 1):=((r2.extBut e3.extBut D.TOi1.symm).extBut e4.extBut D.i12).extBut e5.extBut D.TOi1.symm
 have r5:g5.IsTupleIter i2 l2 (k + 1):=r4.extBut e5.extBut D.TOi2.symm
 have zl:z < g5.objs.size:=lt_size z5
 show wpAny _ _ (ownedTupleHandOut (.ref z) (.ref g5.objs.size) >>= _) _ _ _
 refine wpAny_bind ?_;unfold ownedTupleHandOut
 have z6:IsZip (g5.push { cls:=.type "tuple",data:=.seq #[x,y] }) z TI TO .ellipsis:=Heap.get?_push_of_some _ z5
 refine wpAny_bind (wpAny_setField_rec z6 (by simp) λg7 z7 e7=>?_)
 replace z7:IsZip g7 z TI TO (rawInt g5.objs.size):=z7
 refine wpAny_setField_rec z7 (by simp) λg8 z8 e8=>?_
 replace z8:IsZip g8 z TI TO (rawInt g5.objs.size):=z8
 have up:∀ c o,c≠z→g5.get? c=some o→g8.get? c=some o:=λc o c1 e=>e8.extBut _ _ c1 (e7.extBut _ _ c1 (Heap.get?_push_of_some _ e))
 have t8:IsPair g8 g5.objs.size x y:=e8.extBut _ _ (ne_of_gt zl) (e7.extBut _ _ (ne_of_gt zl) (Heap.get?_push_size _ rfl))
 have s8:g8.objs.size=g5.objs.size + 1:=by rw[e8.1,e7.1,size_push]
 rw[sz] at z8 t8 s8
 refine wpAny_pure ⟨_,rfl,?_⟩;refine wpAny_pure ?_;show Q (some (.ref g5.objs.size)) _;rw[sz]
 exact hQ g8 z8 (up _ _ D.TOz t5) (by obtain⟨o,ho,q⟩:=r1;exact⟨o,up _ o D.i1z ho,q⟩) (by obtain⟨o,ho,q⟩:=r5;exact⟨o,up _ o D.i2z ho,q⟩) t8 s8 λc o c1 c2 c3 c4 e=>up c o c1 (kp c o c1 c2 c3 c4 e)
theorem I31{z TI TO i1 i2 l1 l2:Addr}{k:Nat}{xs ys:Array Value}{a b:Value}{Q:Option Value→Shared→Prop}(hh:A.handled=none)(D:ZipApart z TI TO i1 i2 l1 l2)(hz:IsZip s.heap z TI TO .none)
  (hTI:IsPair s.heap TI (.ref i1) (.ref i2)) (hTO:IsPair s.heap TO a b) (h1:s.heap.IsTupleIter i1 l1 k) (h2:s.heap.IsTupleIter i2 l2 k) (hl1:s.heap.IsTuple l1 xs) (hl2:s.heap.IsTuple l2 ys)
  (hend:xs[k]?=none∨ys[k]?=none) (hQ:∀ h',(∀ c o,c≠z→c≠TO→c≠i1→c≠i2→s.heap.get? c=some o→h'.get? c=some o)→Q none { s with heap:=h' }):wpAny (model P w) A (pyNext (.ref z)) Q E s:=by
 have hT:s.TypeIs (.ref z) "zip":=⟨_,hz,rfl⟩
 have fin:∀ (h':Heap) (e:Addr),(∀ c o,c≠z→c≠TO→c≠i1→c≠i2→s.heap.get? c=some o→h'.get? c=some o)→(∃ o,h'.get? e=some o∧o.cls=.type "StopIteration") →
   wpAny (model P w) A (isInstance (.ref e) (.type "StopIteration") >>= λb=>if b=true then pure none else throw (.ref e)) Q E { s with heap:=h' }:=λh' e kp he=>by
  obtain⟨o,ho,hc⟩:=he
  exact wpAny_bind (wpAny_isInstance (T:="StopIteration") (b:=true) ⟨o,ho,hc⟩ isSubtype_stop (wpAny_pure (hQ _ kp)))
 unfold pyNext;refine wpAny_bind (wpAny_attempt (wpAny_callSpecial?_slot (name:=Str.ofString "__next__") hT F.slot_zip_next (wpAny_call_entry F.slot_zip_next hT F.entry_zip_next ?_ (F.args_zip_next_1 _))))
 show wpAny _ _ (field (.ref z) 2 >>= _) _ _ _;refine wpAny_bind (wpAny_field hz rfl (x:=.bool false) rfl ?_)
 show wpAny _ _ (field (.ref z) 3 >>= _) _ _ _;refine wpAny_bind (wpAny_field hz rfl (x:=.ref TI) rfl ?_)
 refine wpAny_bind (wpAny_seqItems hTI rfl ?_);show wpAny _ _ (ownedTupleIsFree (.ref z) >>= _) _ _ _
 refine wpAny_bind ?_;unfold ownedTupleIsFree;refine wpAny_bind (wpAny_field hz rfl (x:=.none) rfl (wpAny_pure ?_));simp only[if_true]
 refine wpAny_bind (wpAny_rule (wpAny_bind (wpAny_field hz rfl (x:=.ref TO) rfl (wpAny_bind (wpAny_setField_rec hz (by simp) λg1 z1 e1=>?_)))))
 replace z1:IsZip g1 z TI TO .ellipsis:=z1
 refine wpAny_bind ?_;simp only[List.zipIdx_cons,List.zipIdx_nil,forIn_cons,forIn_nil]
 refine wpAny_bind (wpAny_bind (wpAny_onRaise ?_));show wpAny _ _ (nextOf (.ref i1) >>= _) _ _ _
 cases hx:xs[k]? with
 |none =>
  refine wpAny_bind (m20 hh (h1.extBut e1.extBut D.i1z) (hl1.extBut e1.extBut D.l1z) hx λg2 e e2 he=>?_)
  obtain⟨oe,hoe,hce⟩:=he
  have z2:IsZip g2 z TI TO .ellipsis:=e2 _ _ D.i1z.symm z1
  have hez:e≠z:=λq=>by subst q;rw[z2] at hoe;cases hoe;simp at hce
  exact wpAny_setField_rec z2 (by simp) λg3 _ e3=>fin g3 e (λc o c1 _ c3 _ q=>e3.extBut _ _ c1 (e2 _ _ c3 (e1.extBut _ _ c1 q))) ⟨oe,e3.extBut _ _ hez hoe,hce⟩
 |some x =>
  have hy:ys[k]?=none:=by rcases hend with q | q;rw[hx] at q;cases q;exact q
  refine wpAny_bind (q80 (h1.extBut e1.extBut D.i1z) (hl1.extBut e1.extBut D.l1z) hx λg2 r2 e2=>wpAny_pure ?_)
  have t2:IsPair g2 TO a b:=e2.extBut _ _ D.TOi1 (e1.extBut _ _ D.TOz hTO)
  refine wpAny_bind (wpAny_seqItems t2 rfl (wpAny_bind (wpAny_updateSeq_pair t2 λg3 t3 e3=>?_)))
  refine wpAny_bind (wpAny_letGo (wpAny_pure ?_));refine wpAny_bind (wpAny_bind (wpAny_onRaise ?_));show wpAny _ _ (nextOf (.ref i2) >>= _) _ _ _
  refine wpAny_bind (m20 hh (((h2.extBut e1.extBut D.i2z).extBut e2.extBut D.i12.symm).extBut e3.extBut D.TOi2.symm) (((hl2.extBut e1.extBut D.l2z).extBut e2.extBut D.l2i1).extBut e3.extBut D.l2TO) hy λg4 e e4 he=>?_)
  obtain⟨oe,hoe,hce⟩:=he
  have z4:IsZip g4 z TI TO .ellipsis:=e4 _ _ D.i2z.symm (e3.extBut _ _ D.TOz.symm (e2.extBut _ _ D.i1z.symm z1))
  have hez:e≠z:=λq=>by subst q;rw[z4] at hoe;cases hoe;simp at hce
  exact wpAny_setField_rec z4 (by simp) λg5 _ e5=>fin g5 e (λc o c1 c2 c3 c4 q=>e5.extBut _ _ c1 (e4 _ _ c4 (e3.extBut _ _ c2 (e2.extBut _ _ c3 (e1.extBut _ _ c1 q))))) ⟨oe,e5.extBut _ _ hez hoe,hce⟩
abbrev zT1(h:Heap)(l1:Addr):Heap:=h.push { cls:=.type "tuple_iterator",data:=.fields #[.ref l1,.int 0 0] }
abbrev zT2(h:Heap)(l1 l2:Addr):Heap:=(zT1 h l1).push { cls:=.type "tuple_iterator",data:=.fields #[.ref l2,.int 0 0] }
abbrev zT3(h:Heap)(l1 l2:Addr):Heap:=(zT2 h l1 l2).push { cls:=.type "tuple",data:=.seq #[.ref h.objs.size,.ref (zT1 h l1).objs.size] }
abbrev zT4(h:Heap)(l1 l2:Addr):Heap:=(zT3 h l1 l2).push { cls:=.type "tuple",data:=.seq #[.none,.none] }
abbrev zT5(h:Heap)(l1 l2:Addr):Heap:=(zT4 h l1 l2).push { cls:=.type "zip",data:=.fields #[.none,.bool false,.bool false,.ref (zT2 h l1 l2).objs.size,.ref (zT3 h l1 l2).objs.size] }
theorem n31(l1 l2:Addr)(xs ys:Array Value) :
  Meets (Builtin.«zip.__new__» ⟨[.type "zip",.ref l1,.ref l2],[]⟩) (λ_ R s=>s.heap.IsTuple l1 xs∧s.heap.IsTuple l2 ys∧R (.ok (.ret (.ref (zT4 s.heap l1 l2).objs.size))) { s with heap:=zT5 s.heap l1 l2 }) :=
 .of_wp λP w A R s h=>by
  obtain⟨hp,g,d,tk,os⟩:=s;obtain⟨hl1,hl2,h⟩:=h
  have hsub:=sub_zip
  have hL1:Heap.IsTuple (Shared.heap ⟨hp,g,d,tk,os⟩) l1 xs:=hl1
  have hL2:Heap.IsTuple (Shared.heap ⟨hp.push { cls:=.type "tuple_iterator",data:=.fields #[.ref l1,.int 0 0] },g,d,tk,os⟩) l2 ys:=Heap.IsTuple.push hl2 _
  wp_walk using wpAny_pyIter_tuple hL1,wpAny_pyIter_tuple hL2
  exact⟨_,rfl,h⟩
theorem t11(hl1:s.heap.IsTuple l1 xs)(hl2:s.heap.IsTuple l2 ys)
  (h:∀ h',IsZip h' (s.heap.objs.size + 4) (s.heap.objs.size + 2) (s.heap.objs.size + 3) .none→IsPair h' (s.heap.objs.size + 2) (.ref s.heap.objs.size) (.ref (s.heap.objs.size + 1))→IsPair h' (s.heap.objs.size + 3) .none .none →
   h'.IsTupleIter s.heap.objs.size l1 0→h'.IsTupleIter (s.heap.objs.size + 1) l2 0→(∀ c o,s.heap.get? c=some o→h'.get? c=some o)→Q (.ref (s.heap.objs.size + 4)) { s with heap:=h' }) :
  wpAny (model P w) A (call (.type "zip") [.ref l1,.ref l2]) Q E s:=by
 refine callType_new F.called_zip (by decide) (F.typeCall_zip_2 _ _) (F.newCall_zip_2 _ _) (λobj=>F.args_object_init_3 obj _ _) F.entry_zip_new (n31 l1 l2 xs ys) ⟨hl1,hl2,?_⟩
 have n1:(zT1 s.heap l1).objs.size=s.heap.objs.size + 1:=size_push ..
 have n2:(zT2 s.heap l1 l2).objs.size=s.heap.objs.size + 2:=by rw[size_push,n1]
 have n3:(zT3 s.heap l1 l2).objs.size=s.heap.objs.size + 3:=by rw[size_push,n2]
 have n4:(zT4 s.heap l1 l2).objs.size=s.heap.objs.size + 4:=by rw[size_push,n3]
 have g5:(zT5 s.heap l1 l2).get? (zT4 s.heap l1 l2).objs.size=some _:=Heap.get?_push_size _ rfl
 have g4:(zT5 s.heap l1 l2).get? (zT3 s.heap l1 l2).objs.size=some _:=Heap.get?_push_of_some _ (Heap.get?_push_size _ rfl)
 have g3:(zT5 s.heap l1 l2).get? (zT2 s.heap l1 l2).objs.size=some _:=Heap.get?_push_of_some _ (Heap.get?_push_of_some _ (Heap.get?_push_size _ rfl))
 have g2:(zT5 s.heap l1 l2).get? (zT1 s.heap l1).objs.size=some _:=Heap.get?_push_of_some _ (Heap.get?_push_of_some _ (Heap.get?_push_of_some _ (Heap.get?_push_size _ rfl)))
 have g1:(zT5 s.heap l1 l2).get? s.heap.objs.size=some _:=Heap.get?_push_of_some _ (Heap.get?_push_of_some _ (Heap.get?_push_of_some _ (Heap.get?_push_of_some _ (Heap.get?_push_size _ rfl))))
 show _∧_;rw[n2,n3,n4] at g5;rw[n1,n2] at g3;rw[n3] at g4;rw[n1] at g2;rw[n4]
 exact⟨⟨_,g5,rfl⟩,h _ g5 g3 g4 ⟨_,g1,rfl,rfl⟩ ⟨_,g2,rfl,rfl⟩ λc o q=>Heap.get?_push_of_some _ (Heap.get?_push_of_some _ (Heap.get?_push_of_some _ (Heap.get?_push_of_some _ (Heap.get?_push_of_some _ q))))⟩
end
open PySem PySem.Spec PyProof.Rows
section
variable {X:Cx}{pins:List (Addr × Obj)}{σ:St}{H:Hp}{s:Shared}{h':Heap}
theorem Inv.K70{t':Nat}{ch:List Addr}(I:Inv X pins σ H s)(hf:∀ b∈ch,m61 X pins H b)(k:∀ b o,b ∉ ch→s.heap.get? b=some o→h'.get? b=some o):Inv X pins σ H { s with heap:=h',toks:=t' }:=by
 have nch:∀ b u,H b=some u→b ∉ ch:=λb u e z=>by rw[(hf b z).1] at e;cases e
 refine I.step (g':=s.gens) (d':=s.drawn) (ch:=ch) (λb hb=>⟨(hf b hb).2.2.2.1,(hf b hb).2.1,(hf b hb).2.2.2.2.1,(hf b hb).2.2.2.2.2⟩) (λb o _ _ hc e _=>k b o hc e) (λb o _ _ hc e _=>⟨o.slots,k b o hc e⟩) (λ_ _ _ _ n=>n)
  (λb o hc e=>⟨o,k b o hc e⟩) (λ_ _ e=>e) (λ_ _ _ e=>e) (λb ps e=>⟨#[],by rw[e];simp⟩) (λm hm=>?_) (λb u e=>?_) I.bare
 ·obtain⟨o,es,ep,ho,r⟩:=hm
  exact⟨o,es,ep,k _ o (λz=>(hf _ z).2.1 rfl) ho,r⟩
 ·refine(I.hok b u e).u90 (λc v hc q=>k c v ?_ q) (λ_ q=>q) λ_ _ q=>q
  rcases hc with z | z
  ·rw[z];exact nch b u e
  ·exact nch c _ z
theorem Inv.I11{T:Addr}{o:HO}(I:Inv X pins σ H s)(f:m61 X pins H T)(h0:X.s₀.heap.objs.size≤T)(hok:HOk X.prog X.w (upd H T o) s.heap):Inv X pins σ (upd H T o) s:=by
 have u:=I.base
 refine⟨I.ok,I.os,I.bare,⟨u.keep,u.slot,λb ob e n hx=>?_,u.there,λb xs e=>?_,λb ob xs e=>?_,λb ps e=>?_⟩,I.loc,I.cell,?_,λx c e=>?_,λp hp=>?_,hok,I.len⟩
 ·rw[a50 (Nat.ne_of_lt (Nat.lt_of_lt_of_le (lt_size e) h0))];exact u.free b ob e n hx
 ·have z:=u.tups b xs e;rw[a50 (b60 z f.1)];exact z
 ·have z:=u.frzs b ob xs e;rw[a50 (b60 z f.1)];exact z
 ·obtain⟨more,z⟩:=u.tbls b ps e
  exact⟨more,by rw[a50 (b60 z f.1)];exact z⟩
 ·rw[a50 f.2.1.symm];exact I.free
 ·rw[a50 (f.2.2.2.2.1 x c e)];exact I.freeC x c e
 ·obtain⟨e,n,r⟩:=I.pin p hp
  exact⟨e,by rw[a50 (f.2.2.2.2.2 p hp)];exact n,r⟩
theorem HOk.Q41{P:Program}{w:World}{H:Hp}{h:Heap}{D:Addr}{ys:List V}{its:List Value}(x:HOk P w H h)(hn:H D=none)(hv:Vals ys its)(hz:ys.length≤sizeLine)(ho:IsTup h D its.toArray):HOk P w (upd H D (.tup ys)) h:=λb u e=>by
 by_cases hb:b=D
 ·subst hb;rw[c70] at e;cases e;exact⟨hz,its,hv,ho⟩
 ·rw[a50 hb] at e
  exact(x b u e).u90 (λc v _ q=>q) (λc q=>by rw[a50 (b60 q hn)];exact q) λc xs q=>by rw[a50 (b60 q hn)];exact q
end
def SqB:Bool→PySem.W.Frag→Hp→Addr→List V→Prop
 |true=>SqL
 |false=>SqT
def S70:Bool→Heap→Addr→Addr→Nat→Prop
 |true=>Heap.IsListIter
 |false=>Heap.IsTupleIter
def I41:Bool→Heap→Addr→Array Value→Prop
 |true=>Heap.IsList
 |false=>Heap.IsTuple
theorem S70.obj{b:Bool}{h:Heap}{it a:Addr}{i:Nat}(st:S70 b h it a i):∃ o,h.get? it=some o∧(∀ v,o.data=.cell v→False)∧∀ h':Heap,h'.get? it=some o→S70 b h' it a i:=by
 cases b with
 |true=>obtain⟨o,g,c,d⟩:=st;exact⟨o,g,(λv e=>by rw[d] at e;cases e),λh' k=>⟨o,k,c,d⟩⟩
 |false=>obtain⟨o,g,c,d⟩:=st;exact⟨o,g,(λv e=>by rw[d] at e;cases e),λh' k=>⟨o,k,c,d⟩⟩
theorem Inv.I51(I:Inv X pins σ H s)(h:SqB b X.K H a xs):∃ its:List Value,Vals xs its∧I41 b s.heap a its.toArray∧a < s.heap.objs.size∧∀ ys,SqB b X.K H a ys→ys=xs:=by
 cases b with
 |true=>obtain⟨its,r,p,_⟩:=I.list h;exact⟨its,r,p.isList,by obtain⟨o,e,_⟩:=p.isList;exact lt_size e,λys h'=>I.g21 h' h⟩
 |false=>obtain⟨its,r,p,_⟩:=I.tuple h;exact⟨its,r,p,by obtain⟨o,e,_⟩:=p;exact lt_size e,λys h'=>I.R10 h' h⟩
section
variable {P:Program}{w:World}{A:Around}{E:Value→Shared→Prop}{s:Shared}{b:Bool}{z TI TO i1 i2 l1 l2:Addr}{k:Nat}{xs ys:Array Value}{x y p q:Value}
theorem t21(D:ZipApart z TI TO i1 i2 l1 l2)(hz:IsZip s.heap z TI TO .none)(hTI:IsPair s.heap TI (.ref i1) (.ref i2))(hTO:IsPair s.heap TO p q)(h1:S70 b s.heap i1 l1 k)(h2:S70 b s.heap i2 l2 k)(hl1:I41 b s.heap l1 xs)(hl2:I41 b s.heap l2 ys)(hx:xs[k]?=some x)(hy:ys[k]?=some y)
  (hQ:∀ h',IsZip h' z TI TO (rawInt s.heap.objs.size)→IsPair h' TO x y→S70 b h' i1 l1 (k + 1)→S70 b h' i2 l2 (k + 1)→IsPair h' s.heap.objs.size x y→h'.objs.size=s.heap.objs.size + 1 →
   (∀ c o,c≠z→c≠TO→c≠i1→c≠i2→s.heap.get? c=some o→h'.get? c=some o)→Q (some (.ref s.heap.objs.size)) { s with heap:=h' }):wpAny (model P w) A (pyNext (.ref z)) Q E s:=match b,h1,h2,hl1,hl2,hQ with
 |true,h1,h2,hl1,hl2,hQ=>wpAny_pyNext_zip_item D hz hTI hTO h1 h2 hl1 hl2 hx hy hQ
 |false,h1,h2,hl1,hl2,hQ=>t01 D hz hTI hTO h1 h2 hl1 hl2 hx hy hQ
theorem I61(hh:A.handled=none)(D:ZipApart z TI TO i1 i2 l1 l2)(hz:IsZip s.heap z TI TO .none)(hTI:IsPair s.heap TI (.ref i1) (.ref i2))(hTO:IsPair s.heap TO p q)(h1:S70 b s.heap i1 l1 k)(h2:S70 b s.heap i2 l2 k)(hl1:I41 b s.heap l1 xs)(hl2:I41 b s.heap l2 ys)
  (hend:xs[k]?=none∨ys[k]?=none) (hQ:∀ h',(∀ c o,c≠z→c≠TO→c≠i1→c≠i2→s.heap.get? c=some o→h'.get? c=some o)→Q none { s with heap:=h' }):wpAny (model P w) A (pyNext (.ref z)) Q E s:=match b,h1,h2,hl1,hl2 with
 |true,h1,h2,hl1,hl2=>wpAny_pyNext_zip_end hh D hz hTI hTO h1 h2 hl1 hl2 hend hQ
 |false,h1,h2,hl1,hl2=>I31 hh D hz hTI hTO h1 h2 hl1 hl2 hend hQ
theorem t31(hl1:I41 b s.heap l1 xs)(hl2:I41 b s.heap l2 ys)
  (h:∀ h',IsZip h' (s.heap.objs.size + 4) (s.heap.objs.size + 2) (s.heap.objs.size + 3) .none→IsPair h' (s.heap.objs.size + 2) (.ref s.heap.objs.size) (.ref (s.heap.objs.size + 1))→IsPair h' (s.heap.objs.size + 3) .none .none →
   S70 b h' s.heap.objs.size l1 0→S70 b h' (s.heap.objs.size + 1) l2 0→(∀ c o,s.heap.get? c=some o→h'.get? c=some o)→Q (.ref (s.heap.objs.size + 4)) { s with heap:=h' }):wpAny (model P w) A (call (.type "zip") [.ref l1,.ref l2]) Q E s:=match b,hl1,hl2,h with
 |true,hl1,hl2,h=>call_zip_2 hl1 hl2 λh' a1 a2 a3 a4 a5 _ a6=>h h' a1 a2 a3 a4 a5 a6
 |false,hl1,hl2,h=>t11 hl1 hl2 h
end
def Itz(b:Bool)(K:PySem.W.Frag)(a c:Addr):It :=
 ⟨λi H=>∃ xs ys x y,SqB b K H a xs∧SqB b K H c ys∧xs[i]?=some x∧ys[i]?=some y,
  λi H v H'=>∃ T,v=.ref T∧H T=none∧∀ xs ys x y,SqB b K H a xs→SqB b K H c ys→xs[i]?=some x→ys[i]?=some y→H'=upd H T (.tup [x,y]),
  λi H=>∃ xs ys,SqB b K H a xs∧SqB b K H c ys∧(xs.length≤i∨ys.length≤i)⟩
theorem I71{P:Program}{w:World}{K:PySem.W.Frag}{es:List Expr}{ek:Nat}{ep:Pos}{b:Bool}{a c z TI TO i1 i2:Addr}(D:ZipApart z TI TO i1 i2 a c) :
  Turn P w K (.Tuple es ek ep) (Itz b K a c) [z,TI,TO,i1,i2] z (λi h=>IsZip h z TI TO .none∧IsPair h TI (.ref i1) (.ref i2)∧(∃ p q,IsPair h TO p q)∧S70 b h i1 a i∧S70 b h i2 c i) where
 mem:=by simp
 obj:=λi h st c hc=>by
  obtain⟨hz,hTI,⟨p,q,hTO⟩,h1,h2⟩:=st
  obtain⟨o1,h1,d1,_⟩:=h1.obj
  obtain⟨o2,h2,d2,_⟩:=h2.obj
  simp only[mem_cons,not_mem_nil,or_false] at hc
  rcases hc with rfl | rfl | rfl | rfl | rfl
  ·exact⟨_,hz,λv e=>by cases e⟩
  ·exact⟨_,hTI,λv e=>by cases e⟩
  ·exact⟨_,hTO,λv e=>by cases e⟩
  ·exact⟨_,h1,d1⟩
  ·exact⟨_,h2,d2⟩
 keep:=λi h h' st k=>by
  obtain⟨hz,hTI,⟨p,q,hTO⟩,h1,h2⟩:=st
  obtain⟨o1,h1,_,r1⟩:=h1.obj
  obtain⟨o2,h2,_,r2⟩:=h2.obj
  exact⟨k z (by simp) _ hz,k TI (by simp) _ hTI,⟨p,q,k TO (by simp) _ hTO⟩,r1 _ (k i1 (by simp) _ h1),r2 _ (k i2 (by simp) _ h2)⟩
 item:=by
  intro X hP hw hK hc i pins s σ H E I hf st hg
  subst hP hw hK
  obtain⟨xs,ys,x,y,hq1,hq2,hx,hy⟩:=hg
  obtain⟨v1,rv1,p1,_,z1⟩:=I.I51 hq1
  obtain⟨v2,rv2,p2,_,z2⟩:=I.I51 hq2
  obtain⟨u1,hu1,ru1⟩:=rv1.get hx
  obtain⟨u2,hu2,ru2⟩:=rv2.get hy
  obtain⟨hz,hTI,⟨p,q,hTO⟩,h1,h2⟩:=st
  refine t21 D hz hTI hTO h1 h2 p1 p2 (x:=u1) (y:=u2) (by simpa using hu1) (by simpa using hu2) λg1 gz gTO g1' g2' gT gs kp=>⟨_,rfl,?_⟩
  refine wpAny_letOwnedTupleGo_zip (s:={ s with heap:=g1 }) gz λg2 gz2 sb=>?_
  have hT:H s.heap.objs.size=none:=I.hok.fresh (Nat.le_refl _)
  have kall:∀ c o,c ∉ [z,TI,TO,i1,i2]→s.heap.get? c=some o→g2.get? c=some o:=λc o hc e=>by
   simp only[mem_cons,not_mem_nil,or_false,not_or] at hc
   exact sb.extBut _ _ hc.1 (kp c o hc.1 hc.2.2.1 hc.2.2.2.1 hc.2.2.2.2 e)
  have I2:Inv X pins σ H { s with heap:=g2 }:=I.K70 (t':=s.toks) hf kall
  have fT:m61 X pins H s.heap.objs.size:=I.q31 (Nat.le_refl _) hT
  have gT2:g2.get? s.heap.objs.size=some { cls:=.type "tuple",data:=.seq #[u1,u2] }:=sb.extBut _ _ (λe=>Nat.lt_irrefl _ (by have:=lt_size hz;rw[← e] at this;exact this)) gT
  have I3:Inv X pins σ (upd H s.heap.objs.size (.tup [x,y])) { s with heap:=g2 }:=I2.I11 fT I.sz (I2.hok.Q41 hT (its:=[u1,u2]) (.cons ru1 (.cons ru2 .nil)) (by show 2≤sizeLine;rw[sizeLine_eq];decide) ⟨_,gT2,rfl,_,rfl⟩)
  have TI0:IsPair g2 TI (.ref i1) (.ref i2):=sb.extBut _ _ D.TIz (kp _ _ D.TIz D.TITO D.TIi1 D.TIi2 hTI)
  obtain⟨o1,w1,_,r1⟩:=g1'.obj
  obtain⟨o2,w2,_,r2⟩:=g2'.obj
  refine⟨.ref s.heap.objs.size,_,I3,rfl,⟨_,rfl,hT,λxs' ys' x' y' e1 e2 e3 e4=>?_⟩,⟨gz2,TI0,⟨_,_,sb.extBut _ _ D.TOz gTO⟩,r1 _ (sb.extBut _ _ D.i1z w1),r2 _ (sb.extBut _ _ D.i2z w2)⟩,λc hc=>?_⟩
  ·rw[z1 _ e1] at e3
   rw[z2 _ e2] at e4
   rw[hx] at e3;rw[hy] at e4
   cases e3;cases e4;rfl
  ·rw[a50]
   ·exact(hf c hc).1
   ·intro e
    obtain⟨o1,h1,_⟩:=h1.obj
    obtain⟨o2,h2,_⟩:=h2.obj
    have lt:c < s.heap.objs.size:=by
     simp only[mem_cons,not_mem_nil,or_false] at hc
     rcases hc with rfl | rfl | rfl | rfl | rfl
     ·exact lt_size hz
     ·exact lt_size hTI
     ·exact lt_size hTO
     ·exact lt_size h1
     ·exact lt_size h2
    rw[e] at lt
    exact Nat.lt_irrefl _ lt
 done:=by
  intro X hP hw hK hc i pins s σ H E I hf st hg
  subst hP hw hK
  obtain⟨xs,ys,hq1,hq2,hend⟩:=hg
  obtain⟨v1,rv1,p1,_⟩:=I.I51 hq1
  obtain⟨v2,rv2,p2,_⟩:=I.I51 hq2
  obtain⟨hz,hTI,⟨p,q,hTO⟩,h1,h2⟩:=st
  have l1:=rv1.length
  have l2:=rv2.length
  refine I61 (I.ok.hd hc) D hz hTI hTO h1 h2 p1 p2 (hend.elim (λe=>.inl (by simp;omega)) λe=>.inr (by simp;omega)) λg kp=>⟨rfl,I.K70 (t':=s.toks) hf λc o hcn e=>?_⟩
  simp only[mem_cons,not_mem_nil,or_false,not_or] at hcn
  exact kp c o hcn.1 hcn.2.2.1 hcn.2.2.2.1 hcn.2.2.2.2 e
 self:=λ_ _ _ _ _ st h=>wpAny_pyIter_zip st.1 h
def O82(K:PySem.W.Frag)(ta:TA):TI:=λσ H R=>ta σ H λvs H1=>∃ b a c,vs=[.ref a,.ref c]∧(∃ xs,SqB b K H1 a xs)∧(∃ ys,SqB b K H1 c ys)∧R (Itz b K a c) H1
theorem boot_zip:bootBuiltins "zip"=some (.type "zip"):=by decide +kernel
theorem m42{X:Cx}{a b:Expr}{es:List Expr}{ek:Nat}{ep:Pos}{ta:TA}{p pos:Pos}(hg:Gl X "zip")(hm:X.mg "zip"=none)(ha:PA X [a,b] ta)(hs:starEach [a,b] X.env=[(false,eval a X.env),(false,eval b X.env)]:=by rfl)(hs2:starEach [b] X.env=[(false,eval b X.env)]:=by rfl) :
  PI X (.Tuple es ek ep) (.Call (.Name "zip" p) [a,b] [] pos) (O82 X.K ta):=by
 intro pins s σ H R I h
 refine Call_ (v40 I hg hm boot_zip (PyProof.Rows.callWith_type1 (thn (ha pos pins s σ H _ I h) λus s1 ⟨vs,H1,I1,r1,q1⟩=>?_) (by rw[hs,hs2]) (by rw[hs2];rfl)))
 obtain⟨b,l1,l2,e,⟨xs,hq1⟩,⟨ys,hq2⟩,q⟩:=q1
 subst e
 obtain⟨u,w',rfl,r,r'⟩:=vals2 r1
 cases r;cases r'
 obtain⟨v1,rv1,p1,a1,_⟩:=I1.I51 hq1
 obtain⟨v2,rv2,p2,a2,_⟩:=I1.I51 hq2
 refine t31 p1 p2 λh' hz hTI hTO h1 h2 kp=>wpAny_pyIter_zip (s:={ s1 with heap:=h' }) hz ?_
 refine⟨_,[s1.heap.objs.size + 4,s1.heap.objs.size + 2,s1.heap.objs.size + 3,s1.heap.objs.size,s1.heap.objs.size + 1],_,_,H1,rfl,I1.kept (t':=s1.toks) kp,I71 (PyProof.Rows.zipApart_new a1 a2),⟨hz,hTI,⟨_,_,hTO⟩,h1,h2⟩,λc hc=>?_,q⟩
 have hc':s1.heap.objs.size≤c:=by
  simp only[mem_cons,not_mem_nil,or_false] at hc
  rcases hc with rfl | rfl | rfl | rfl | rfl
  ·exact le_add_right _ 4
  ·exact le_add_right _ 2
  ·exact le_add_right _ 3
  ·exact Nat.le_refl _
  ·exact le_add_right _ 1
 exact I1.q31 hc' (I1.hok.fresh hc')
theorem I81(hc:X.calm=true):f80 X (.builtin "all") (λxs H Q=>∃ (a:Addr) (bs:List Bool),xs=[.ref a]∧SqL X.K H a (bs.map V.bl)∧Q (.bl (bs.all id)) H):=by
 intro pins s σ H xs us Q I r h
 obtain⟨a,bs,rfl,hq,q⟩:=h
 obtain⟨u,rfl,rx⟩:=vals1 r
 cases rx
 obtain⟨its,rv,pl,hz⟩:=I.list hq
 have hlt:a < s.heap.objs.size:=by obtain⟨_,e,_⟩:=pl.isList;exact lt_size e
 have hlen:its.length=bs.length:=by have:=rv.length;simpa using this.symm
 refine call_all_walk (wpAny_pyIter_list pl.isList ⟨_,_,_,_,_,_,λi=>(bs[i]?).getD true,rfl,Walks.list (by exact I.ok.hd hc) s.heap.objs.size a (Nat.ne_of_lt hlt) its.toArray,⟨⟨_,Heap.get?_push_size _ rfl,rfl,rfl⟩,pl.isList.push _⟩,?_,?_⟩)
 ·intro i v s' Q' E' hP hQ
  have hP':its[i]?=some v:=by simpa using hP
  have hi:i < bs.length:=by rw[← hlen];exact(List.getElem?_eq_some_iff.mp hP').1
  obtain⟨v',hv',rv'⟩:=rv.get (i:=i) (x:=.bl bs[i]) (by simp[hi])
  rw[hP'] at hv';cases hv'
  cases (show v=Value.bool _ from rv')
  exact wpAny_truthy_bool (by simpa [hi] using hQ)
 ·intro h' tk kp
  refine⟨.bl (bs.all id),H,I.kept λb o e=>kp b o (by simpa using Nat.ne_of_lt (lt_size e)) (Heap.get?_push_of_some _ e),?_,q⟩
  show Value.bool _=Value.bool _
  rw[size_toArray,hlen,PyProof.Rows.LSm.range_all]
end L2
namespace MySort
open PySem PySem.W PyProof.Rows
def run{α:Type}(cmp:Nat→Nat→Bool):KasT α→α
 |.ret a=>a
 |.ask i j k=>run cmp (k (cmp i j))
theorem run_bind(cmp:Nat→Nat→Bool)(f:α→KasT β):∀ t:KasT α,run cmp (t.bind f)=run cmp (f (run cmp t))
 |.ret _=>rfl
 |.ask i j k=>run_bind cmp f (k (cmp i j))
section
variable (O:KeyOrd) (key:Nat→O.α)
def kk(p:Array Nat)(i:Nat):O.α:=key (p.getD i 0)
abbrev l00:Nat→Nat→Bool:=λi j=>O.blt (key i) (key j)
def Up(p:Array Nat)(n:Nat):Prop:=∀ i j,i≤j→j < n→O.kle (kk O key p i) (kk O key p j)
def Dn(p:Array Nat)(n:Nat):Prop:=∀ i j,i≤j→j < n→O.kle (kk O key p j) (kk O key p i)
variable {O key}
theorem v50(h:p[i]?=q[j]?):kk O key p i=kk O key q j:=by
 unfold kk;rw[Array.getD_eq_getD_getElem?,Array.getD_eq_getD_getElem?,h]
theorem t41(hj:j≤p.size)(k:Nat):kk O key (kas_rev p i j) k=if i≤k∧k < j then kk O key p (i + j - 1 - k) else kk O key p k:=by
 have e:=getElem?_mirror_all (i:=i) hj k
 unfold kas_rev
 by_cases h1:i≤k∧k < j
 ·rw[if_pos h1] at e ⊢;exact v50 e
 ·rw[if_neg h1] at e ⊢;exact v50 e
theorem m52(hs:k < p.size)(hd:d≤k)(i:Nat) :
  kk O key (bubble p k d) i=if i=k - d then kk O key p k else if k - d < i∧i≤k then kk O key p (i - 1) else kk O key p i:=by
 have e:=getElem?_bubble hs d hd i
 by_cases h1:i=k - d
 ·rw[if_pos h1] at e ⊢;exact v50 e
 ·rw[if_neg h1] at e ⊢
  by_cases h2:k - d < i∧i≤k
  ·rw[if_pos h2] at e ⊢;exact v50 e
  ·rw[if_neg h2] at e ⊢;exact v50 e
theorem Up.more(h:Up O key p n)(h1:1≤n)(hl:O.kle (kk O key p (n - 1)) (kk O key p n)):Up O key p (n + 1):=by
 intro i j hij hj
 by_cases e:j=n
 ·subst e
  by_cases e2:i=j
  ·subst e2;exact KeyOrd.kle_refl _
  ·exact KeyOrd.kle_trans (h i (j - 1) (by omega) (by omega)) hl
 ·exact h i j hij (by omega)
theorem Dn.more(h:Dn O key p n)(h1:1≤n)(hl:O.kle (kk O key p n) (kk O key p (n - 1))):Dn O key p (n + 1):=by
 intro i j hij hj
 by_cases e:j=n
 ·subst e
  by_cases e2:i=j
  ·subst e2;exact KeyOrd.kle_refl _
  ·exact KeyOrd.kle_trans hl (h i (j - 1) (by omega) (by omega))
 ·exact h i j hij (by omega)
theorem t51:∀ (f n:Nat),1≤n→Up O key p n →
  n≤run (l00 O key) (kas_asc p f n)∧run (l00 O key) (kas_asc p f n)≤n + f∧Up O key p (run (l00 O key) (kas_asc p f n)) ∧
   (run (l00 O key) (kas_asc p f n) < n + f→O.klt (kk O key p (run (l00 O key) (kas_asc p f n))) (kk O key p (run (l00 O key) (kas_asc p f n) - 1)))
 |0,n,h1,hu=>⟨Nat.le_refl _,Nat.le_refl _,hu,λh=>absurd h (Nat.lt_irrefl _)⟩
 |f + 1,n,h1,hu=>by
  show n≤run _ (if O.blt (kk O key p n) (kk O key p (n - 1))=true then KasT.ret n else kas_asc p f (n + 1))∧run _ (if O.blt (kk O key p n) (kk O key p (n - 1))=true then KasT.ret n else kas_asc p f (n + 1))≤n + (f + 1) ∧
   Up O key p (run _ (if O.blt (kk O key p n) (kk O key p (n - 1))=true then KasT.ret n else kas_asc p f (n + 1))) ∧
   (run _ (if O.blt (kk O key p n) (kk O key p (n - 1))=true then KasT.ret n else kas_asc p f (n + 1)) < n + (f + 1) →
    O.klt (kk O key p (run _ (if O.blt (kk O key p n) (kk O key p (n - 1))=true then KasT.ret n else kas_asc p f (n + 1)))) (kk O key p (run _ (if O.blt (kk O key p n) (kk O key p (n - 1))=true then KasT.ret n else kas_asc p f (n + 1)) - 1)))
  cases hb:O.blt (kk O key p n) (kk O key p (n - 1)) with
  |true =>
   simp only[if_true]
   exact⟨Nat.le_refl _,by show n≤n + (f + 1);omega,hu,λ_=>hb⟩
  |false =>
   simp only[false_eq_true,if_false]
   have ih:=t51 f (n + 1) (by omega) (hu.more h1 hb)
   refine⟨by omega,by omega,ih.2.2.1,λh=>ih.2.2.2 (by omega)⟩
theorem rev_eq(hj:j≤p.size)(he:∀ k,i≤k→k < j→kk O key p k=kk O key p (j - 1))(k:Nat):kk O key (kas_rev p i j) k=kk O key p k:=by
 rw[t41 hj]
 split
 ·rw[he _ (by omega) (by omega),he k (by omega) (by omega)]
 ·rfl
theorem K80(p:Array Nat)(i j:Nat):(kas_rev p i j).Perm p:=mirror_perm _ _ _ _
theorem K90(p:Array Nat)(i j:Nat):(kas_rev p i j).size=p.size:=mirror_size _ _ _ _
structure DnR(O:KeyOrd)(key:Nat→O.α)(p0 p:Array Nat)(n q:Nat):Prop where
 perm:p.Perm p0
 size:p.size=p0.size
 pos:q + 1≤n
 dn:Dn O key p n
 eq:∀ k,n - (q + 1)≤k→k < n→kk O key p k=kk O key p (n - 1)
theorem DnR.rev(h:DnR O key p0 p n q)(hn:n≤p0.size):DnR O key p0 (kas_rev p (n - (q + 1)) n) n q:=by
 have hz:=h.size
 have e:=rev_eq (O:=O) (key:=key) (i:=n - (q + 1)) (j:=n) (p:=p) (by omega) h.eq
 exact⟨(K80 _ _ _).trans h.perm,(K90 _ _ _).trans hz,h.pos,λi j hij hj=>by rw[e,e];exact h.dn i j hij hj,λk h1 h2=>by rw[e,e];exact h.eq k h1 h2⟩
theorem a01:∀ (f:Nat) (p:Array Nat) (n q:Nat),DnR O key p0 p n q→n + f≤p0.size →
  n≤(run (l00 O key) (kas_desc f p n q)).2.1∧(run (l00 O key) (kas_desc f p n q)).2.1≤n + f ∧
   DnR O key p0 (run (l00 O key) (kas_desc f p n q)).1 (run (l00 O key) (kas_desc f p n q)).2.1 (run (l00 O key) (kas_desc f p n q)).2.2
 |0,p,n,q,h,_=>⟨Nat.le_refl _,Nat.le_refl _,h⟩
 |f + 1,p,n,q,h,hn=>by
  have hp:=h.pos
  have hz:=h.size
  have unf:run (l00 O key) (kas_desc (f + 1) p n q)=run (l00 O key) (if O.blt (kk O key p n) (kk O key p (n - 1))=true then(if q > 0 then kas_desc f (kas_rev p (n - (q + 1)) n) (n + 1) 0 else kas_desc f p (n + 1) 0)
   else .ask (p.getD (n - 1) 0) (p.getD n 0) λd=>if d=true then .ret (p,n,q) else kas_desc f p (n + 1) (q + 1)):=rfl
  rw[unf]
  cases hb:O.blt (kk O key p n) (kk O key p (n - 1)) with
  |true =>
   simp only[if_true]
   have go:∀ p',DnR O key p0 p' n q→(∀ k,kk O key p' k=kk O key p k)→n≤(run (l00 O key) (kas_desc f p' (n + 1) 0)).2.1∧(run (l00 O key) (kas_desc f p' (n + 1) 0)).2.1≤n + (f + 1) ∧
     DnR O key p0 (run (l00 O key) (kas_desc f p' (n + 1) 0)).1 (run (l00 O key) (kas_desc f p' (n + 1) 0)).2.1 (run (l00 O key) (kas_desc f p' (n + 1) 0)).2.2:=λp' h' e=>by
    have ih:=a01 f p' (n + 1) 0 ⟨h'.perm,h'.size,by omega,h'.dn.more (by omega) (by rw[e,e];exact KeyOrd.kle_of_klt hb),λk h1 h2=>by
     have:k=n:=by omega
     subst this;rfl⟩ (by omega)
    exact⟨by omega,by omega,ih.2.2⟩
   split
   ·exact go _ (h.rev (by omega)) (rev_eq (by omega) h.eq)
   ·exact go _ h λ_=>rfl
  |false =>
   simp only[false_eq_true,if_false]
   have unf2:run (l00 O key) (KasT.ask (p.getD (n - 1) 0) (p.getD n 0) λd=>if d=true then .ret (p,n,q) else kas_desc f p (n + 1) (q + 1)) =
    run (l00 O key) (if O.blt (kk O key p (n - 1)) (kk O key p n)=true then .ret (p,n,q) else kas_desc f p (n + 1) (q + 1)):=rfl
   rw[unf2]
   cases hc:O.blt (kk O key p (n - 1)) (kk O key p n) with
   |true =>
    simp only[if_true]
    exact⟨Nat.le_refl _,by show n≤n + (f + 1);omega,h⟩
   |false =>
    simp only[false_eq_true,if_false]
    have e:kk O key p n=kk O key p (n - 1):=O.total _ _ hb hc
    have ih:=a01 f p (n + 1) (q + 1) ⟨h.perm,h.size,by omega,h.dn.more (by omega) (by rw[e];exact KeyOrd.kle_refl _),λk h1 h2=>by
     show _=kk O key p n
     by_cases hk:k=n
     ·rw[hk]
     ·rw[e];exact h.eq k (by omega) (by omega)⟩ (by omega)
    exact⟨by omega,by omega,ih.2.2⟩
structure B42(O:KeyOrd)(key:Nat→O.α)(p0:Array Nat)(nrem:Nat)(r:Nat × Array Nat):Prop where
 perm:r.2.Perm p0
 size:r.2.size=p0.size
 lo:1≤r.1
 hi:r.1≤nrem
 up:Up O key r.2 r.1
theorem g81(hp:p.Perm p0)(hz:p.size=p0.size)(hd:Dn O key p n)(h1:1≤n)(hn:n≤nrem)(hr:nrem≤p0.size):B42 O key p0 nrem (run (l00 O key) (kas_tail3 n nrem p)):=by
 unfold kas_tail3
 rw[run_bind]
 have hu:Up O key (kas_rev p 0 n) n:=λi j hij hj=>by
  rw[t41 (by omega),t41 (by omega),if_pos (by omega),if_pos (by omega)]
  exact hd _ _ (by omega) (by omega)
 have a:=t51 (O:=O) (key:=key) (p:=kas_rev p 0 n) (nrem - n) n h1 hu
 exact⟨(K80 _ _ _).trans hp,(K90 _ _ _).trans hz,by show 1≤run _ (kas_asc _ _ _);omega,by show run _ (kas_asc _ _ _)≤_;omega,a.2.2.1⟩
theorem D10(hp:p.Perm p0)(hz:p.size=p0.size)(hd:Dn O key p (n + 1))(hn:n + 1≤nrem)(hr:nrem≤p0.size):B42 O key p0 nrem (run (l00 O key) (kas_descPart n nrem p)):=by
 unfold kas_descPart
 rw[run_bind]
 have d:=a01 (O:=O) (key:=key) (p0:=p0) (nrem - (n + 1)) p (n + 1) 0 ⟨hp,hz,by omega,hd,λk h1 h2=>by
  have:k=n:=by omega
  subst this;rfl⟩ (by omega)
 obtain⟨d1,d2,d3⟩:=d
 have hpos:=d3.pos
 split
 ·have d4:=d3.rev (by omega)
  exact g81 d4.perm d4.size d4.dn (by omega) (by omega) hr
 ·exact g81 d3.perm d3.size d3.dn (by omega) (by omega) hr
theorem I91(h1:1≤nrem)(hr:nrem≤p.size):B42 O key p nrem (run (l00 O key) (kas_count nrem p)):=by
 unfold kas_count
 rw[run_bind]
 have a:=t51 (O:=O) (key:=key) (p:=p) (nrem - 1) 1 (Nat.le_refl _) (λi j hij hj=>by
  have:i=j:=by omega
  subst this;exact KeyOrd.kle_refl _)
 generalize run (l00 O key) (kas_asc p (nrem - 1) 1)=n at a ⊢
 obtain⟨a1,a2,a3,a4⟩:=a
 split
 ·exact⟨Array.Perm.refl _,rfl,a1,by show n≤nrem;omega,a3⟩
 ·rename_i hne
  have hlt:n < nrem:=by
   have:n≠nrem:=by simpa using hne
   omega
  have hl:=a4 (by omega)
  split
  ·rename_i h2
   have unf:run (l00 O key) (KasT.ask (p.getD 0 0) (p.getD (n - 1) 0) λc=>if c=true then .ret (n,p) else kas_descPart n nrem (kas_rev p 0 n)) =
    run (l00 O key) (if O.blt (kk O key p 0) (kk O key p (n - 1))=true then .ret (n,p) else kas_descPart n nrem (kas_rev p 0 n)):=rfl
   rw[unf]
   cases hb:O.blt (kk O key p 0) (kk O key p (n - 1)) with
   |true =>
    simp only[if_true]
    exact⟨Array.Perm.refl _,rfl,a1,by show n≤nrem;omega,a3⟩
   |false =>
    simp only[false_eq_true,if_false]
    have e0:kk O key p 0=kk O key p (n - 1):=O.total _ _ hb (a3 0 (n - 1) (by omega) (by omega))
    have e:∀ k,0≤k→k < n→kk O key p k=kk O key p (n - 1):=λk _ hk=>by
     refine KeyOrd.kle_antisymm (a3 k (n - 1) (by omega) (by omega)) ?_
     rw[← e0];exact a3 0 k (by omega) hk
    have er:=rev_eq (O:=O) (key:=key) (i:=0) (j:=n) (p:=p) (by omega) e
    refine D10 (K80 _ _ _) (K90 _ _ _) ?_ (by omega) hr
    have dn:Dn O key (kas_rev p 0 n) n:=λi j hij hj=>by
     rw[er,er,e i (by omega) (by omega),e j (by omega) (by omega)];exact KeyOrd.kle_refl _
    refine dn.more a1 ?_
    rw[er,er];exact KeyOrd.kle_of_klt hl
  ·have h2:n=1:=by omega
   subst h2
   refine D10 (Array.Perm.refl _) rfl ?_ (by omega) hr
   have dn:Dn O key p 1:=λi j hij hj=>by
    have:i=j:=by omega
    subst this;exact KeyOrd.kle_refl _
   exact dn.more (Nat.le_refl _) (KeyOrd.kle_of_klt hl)
theorem L00(hu:Up O key p k):∀ (f l r:Nat),l≤r→r≤k→r - l≤f→(∀ i,i < l→O.kle (kk O key p i) (kk O key p k))→(∀ i,r≤i→i < k→O.klt (kk O key p k) (kk O key p i)) →
  run (l00 O key) (kas_place p k f l r)≤k∧(∀ i,i < run (l00 O key) (kas_place p k f l r)→O.kle (kk O key p i) (kk O key p k))∧(∀ i,run (l00 O key) (kas_place p k f l r)≤i→i < k→O.klt (kk O key p k) (kk O key p i))
 |0,l,r,h1,h2,h3,h4,h5=>by
  have:l=r:=by omega
  subst this
  exact⟨h2,h4,h5⟩
 |f + 1,l,r,h1,h2,h3,h4,h5=>by
  have unf:kas_place p k (f + 1) l r=(if l ≥ r then .ret l else .ask (p.getD k 0) (p.getD ((l + r) / 2) 0) λc=>if c=true then kas_place p k f l ((l + r) / 2) else kas_place p k f ((l + r) / 2 + 1) r):=rfl
  rw[unf]
  by_cases hlr:l ≥ r
  ·rw[if_pos hlr]
   have:l=r:=by omega
   subst this
   exact⟨h2,h4,h5⟩
  ·rw[if_neg hlr]
   have unf2:run (l00 O key) (KasT.ask (p.getD k 0) (p.getD ((l + r) / 2) 0) λc=>if c=true then kas_place p k f l ((l + r) / 2) else kas_place p k f ((l + r) / 2 + 1) r) =
    run (l00 O key) (if O.blt (kk O key p k) (kk O key p ((l + r) / 2))=true then kas_place p k f l ((l + r) / 2) else kas_place p k f ((l + r) / 2 + 1) r):=rfl
   rw[unf2]
   cases hb:O.blt (kk O key p k) (kk O key p ((l + r) / 2)) with
   |true =>
    simp only[if_true]
    exact L00 hu f l ((l + r) / 2) (by omega) (by omega) (by omega) h4 λi hi hk=>KeyOrd.klt_of_klt_of_kle hb (hu _ i hi hk)
   |false =>
    simp only[false_eq_true,if_false]
    exact L00 hu f ((l + r) / 2 + 1) r (by omega) (by omega) (by omega) (λi hi=>KeyOrd.kle_trans (hu i ((l + r) / 2) (by omega) (by omega)) hb) h5
theorem Q51:∀ (f:Nat) (p:Array Nat) (k:Nat),p.Perm p0→p.size=p0.size→Up O key p k→k + f≤p0.size →
  (run (l00 O key) (kas_bin f p k)).Perm p0∧Up O key (run (l00 O key) (kas_bin f p k)) (k + f)
 |0,p,k,hp,_,hu,_=>⟨hp,hu⟩
 |f + 1,p,k,hp,hz,hu,hk=>by
  have unf:kas_bin (f + 1) p k=(kas_place p k k 0 k).bind λl=>kas_bin f (bubble p k (k - l)) (k + 1):=rfl
  rw[unf,run_bind]
  have pl:=L00 (O:=O) (key:=key) hu k 0 k (by omega) (by omega) (by omega) (λi hi=>absurd hi (Nat.not_lt_zero _)) (λi h1 h2=>absurd h2 (by omega))
  generalize run (l00 O key) (kas_place p k k 0 k)=l at pl ⊢
  obtain⟨l1,l2,l3⟩:=pl
  have hb:=m52 (O:=O) (key:=key) (p:=p) (k:=k) (d:=k - l) (by omega) (by omega)
  have hu':Up O key (bubble p k (k - l)) (k + 1):=λi j hij hj=>by
   rw[hb,hb]
   have el:k - (k - l)=l:=by omega
   rw[el]
   by_cases ei:i=l
   ·rw[if_pos ei]
    by_cases ej:j=l
    ·rw[if_pos ej];exact KeyOrd.kle_refl _
    ·rw[if_neg ej,if_pos (by omega)]
     exact KeyOrd.kle_of_klt (l3 _ (by omega) (by omega))
   ·rw[if_neg ei]
    by_cases hi:l < i∧i≤k
    ·rw[if_pos hi,if_neg (by omega),if_pos (by omega)]
     exact hu _ _ (by omega) (by omega)
    ·rw[if_neg hi]
     by_cases ej:j=l
     ·rw[if_pos ej];exact l2 _ (by omega)
     ·rw[if_neg ej]
      by_cases hj':l < j∧j≤k
      ·rw[if_pos hj'];exact hu _ _ (by omega) (by omega)
      ·rw[if_neg hj'];exact hu _ _ hij (by omega)
  have ih:=Q51 (p0:=p0) f (bubble p k (k - l)) (k + 1) ((bubble_perm _ _ _).trans hp) ((bubble_size _ _ _).trans hz) hu' (by omega)
  exact⟨ih.1,by have:=ih.2;rwa [show k + 1 + f=k + (f + 1) by omega] at this⟩
theorem W71(h1:1≤n):(run (l00 O key) (kas_sort n)).Perm (range n).toArray∧Up O key (run (l00 O key) (kas_sort n)) n:=by
 unfold kas_sort
 rw[run_bind]
 have c:=I91 (O:=O) (key:=key) (p:=(range n).toArray) h1 (by simp)
 generalize run (l00 O key) (kas_count n (range n).toArray)=r at c ⊢
 obtain⟨c1,c2,c3,c4,c5⟩:=c
 split
 ·have b:=Q51 (O:=O) (key:=key) (n - max r.1 1) r.2 (max r.1 1) c1 c2 (by rw[Nat.max_eq_left c3];exact c5) (by simp;omega)
  exact⟨b.1,by have:=b.2;rwa [show max r.1 1 + (n - max r.1 1)=n by omega] at this⟩
 ·have:r.1=n:=by omega
  rw[this] at c5
  exact⟨c1,c5⟩
end
def o20{α:Type}(n:Nat):KasT α→Prop
 |.ret _=>True
 |.ask i j k=>(i < n∧j < n)∧∀ b,o20 n (k b)
def S80{α:Type}(G:α→Prop):KasT α→Prop
 |.ret a=>G a
 |.ask _ _ k=>∀ b,S80 G (k b)
theorem o20.bind{α β:Type}{n:Nat}{f:α→KasT β}{G:α→Prop}(hf:∀ a,G a→o20 n (f a)):∀ {t:KasT α},o20 n t→S80 G t→o20 n (t.bind f)
 |.ret a,_,g=>hf a g
 |.ask _ _ _,h,g=>⟨h.1,λb=>o20.bind hf (h.2 b) (g b)⟩
theorem S80.bind{α β:Type}{f:α→KasT β}{G:α→Prop}{G':β→Prop}(hf:∀ a,G a→S80 G' (f a)):∀ {t:KasT α},S80 G t→S80 G' (t.bind f)
 |.ret a,g=>hf a g
 |.ask _ _ _,g=>λb=>S80.bind hf (g b)
def Low(n:Nat)(p:Array Nat):Prop:=∀ i,p.getD i 0 < n
theorem t61(h1:1≤n)(hp:p.Perm q)(hq:∀ x∈q.toList,x < n):Low n p:=λi=>by
 by_cases hi:i < p.size
 ·have e:p.getD i 0=p[i]:=by simp[getD,hi]
  rw[e]
  exact hq _ (hp.toList.mem_iff.mp (by simp))
 ·have e:p.getD i 0=0:=by simp[getD,hi]
  rw[e];exact h1
structure Good(n:Nat)(q p:Array Nat):Prop where
 low:Low n p
 perm:p.Perm q
theorem Good.rev(h1:1≤n)(hq:∀ x∈q.toList,x < n)(g:Good n q p)(i j:Nat):Good n q (kas_rev p i j) :=
 have e:=(mirror_perm p i j ((j - i) / 2)).trans g.perm
 ⟨t61 h1 e hq,e⟩
theorem Good.bub(h1:1≤n)(hq:∀ x∈q.toList,x < n)(g:Good n q p)(i j:Nat):Good n q (bubble p i j) :=
 have e:=(bubble_perm p i j).trans g.perm
 ⟨t61 h1 e hq,e⟩
section
variable {n:Nat}{q:Array Nat}
theorem L10(g:Low n p):∀ (f k:Nat),o20 n (kas_asc p f k)
 |0,_=>trivial
 |f + 1,k=>⟨⟨g _,g _⟩,λb=>by cases b with | true=>exact trivial | false=>exact L10 g f (k + 1)⟩
theorem v60:∀ (f k:Nat),S80 (λ_=>True) (kas_asc p f k)
 |0,_=>trivial
 |f + 1,k=>λb=>by cases b with | true=>exact trivial | false=>exact v60 f (k + 1)
theorem D20(h1:1≤n)(hq:∀ x∈q.toList,x < n):∀ (f:Nat) (p:Array Nat) (k c:Nat),Good n q p→o20 n (kas_desc f p k c)∧S80 (λr=>Good n q r.1) (kas_desc f p k c)
 |0,p,k,c,g=>⟨trivial,g⟩
 |f + 1,p,k,c,g=>by
  have a:=λp' k' c' g'=>(D20 h1 hq f p' k' c' g').1
  have r:=λp' k' c' g'=>(D20 h1 hq f p' k' c' g').2
  refine⟨⟨⟨g.low _,g.low _⟩,λb=>?_⟩,λb=>?_⟩
  ·cases b with
   |true =>
    show o20 n (if c > 0 then kas_desc f (kas_rev p (k - (c + 1)) k) (k + 1) 0 else kas_desc f p (k + 1) 0)
    split
    ·exact a _ _ _ (g.rev h1 hq _ _)
    ·exact a _ _ _ g
   |false=>exact⟨⟨g.low _,g.low _⟩,λd=>by cases d with | true=>exact trivial | false=>exact a _ _ _ g⟩
  ·cases b with
   |true =>
    show S80 _ (if c > 0 then kas_desc f (kas_rev p (k - (c + 1)) k) (k + 1) 0 else kas_desc f p (k + 1) 0)
    split
    ·exact r _ _ _ (g.rev h1 hq _ _)
    ·exact r _ _ _ g
   |false=>exact λd=>by cases d with | true=>exact g | false=>exact r _ _ _ g
theorem q90(h1:1≤n)(hq:∀ x∈q.toList,x < n)(g:Good n q p)(k m:Nat):o20 n (kas_tail3 k m p)∧S80 (λr=>Good n q r.2) (kas_tail3 k m p) :=
 have g':=g.rev h1 hq 0 k
 And.intro (o20.bind (f:=λm'=>KasT.ret (m',kas_rev p 0 k)) (λ_ _=>True.intro) (L10 g'.low (m - k) k) (v60 (m - k) k)) (S80.bind (f:=λm'=>KasT.ret (m',kas_rev p 0 k)) (G':=λr=>Good n q r.2) (λ_ _=>g') (v60 (m - k) k))
theorem h60(h1:1≤n)(hq:∀ x∈q.toList,x < n)(g:Good n q p)(k m:Nat):o20 n (kas_descPart k m p)∧S80 (λr=>Good n q r.2) (kas_descPart k m p):=by
 have d:=D20 h1 hq (m - (k + 1)) p (k + 1) 0 g
 refine⟨o20.bind (λr gr=>?_) d.1 d.2,S80.bind (λr gr=>?_) d.2⟩
 ·split
  ·exact(q90 h1 hq (gr.rev h1 hq _ _) _ _).1
  ·exact(q90 h1 hq gr _ _).1
 ·split
  ·exact(q90 h1 hq (gr.rev h1 hq _ _) _ _).2
  ·exact(q90 h1 hq gr _ _).2
theorem n41(h1:1≤n)(hq:∀ x∈q.toList,x < n)(g:Good n q p)(m:Nat):o20 n (kas_count m p)∧S80 (λr=>Good n q r.2) (kas_count m p):=by
 refine⟨o20.bind (λk _=>?_) (L10 g.low _ _) (v60 _ _),S80.bind (λk _=>?_) (v60 _ _)⟩
 ·split
  ·exact trivial
  ·split
   ·exact⟨⟨g.low _,g.low _⟩,λb=>by cases b with | true=>exact trivial | false=>exact(h60 h1 hq (g.rev h1 hq _ _) _ _).1⟩
   ·exact(h60 h1 hq g _ _).1
 ·split
  ·exact g
  ·split
   ·exact λb=>by cases b with | true=>exact g | false=>exact(h60 h1 hq (g.rev h1 hq _ _) _ _).2
   ·exact(h60 h1 hq g _ _).2
theorem h90(g:Low n p)(k:Nat):∀ (f l r:Nat),o20 n (kas_place p k f l r)∧S80 (λ_=>True) (kas_place p k f l r)
 |0,_,_=>⟨trivial,trivial⟩
 |f + 1,l,r=>by
  have e:kas_place p k (f + 1) l r=(if l ≥ r then .ret l else .ask (p.getD k 0) (p.getD ((l + r) / 2) 0) λc=>if c=true then kas_place p k f l ((l + r) / 2) else kas_place p k f ((l + r) / 2 + 1) r):=rfl
  rw[e]
  split
  ·exact⟨trivial,trivial⟩
  ·refine⟨⟨⟨g _,g _⟩,λb=>?_⟩,λb=>?_⟩
   ·cases b with
    |true=>exact(h90 g k f _ _).1
    |false=>exact(h90 g k f _ _).1
   ·cases b with
    |true=>exact(h90 g k f _ _).2
    |false=>exact(h90 g k f _ _).2
theorem g91(h1:1≤n)(hq:∀ x∈q.toList,x < n):∀ (f:Nat) (p:Array Nat) (k:Nat),Good n q p→o20 n (kas_bin f p k)
 |0,_,_,_=>trivial
 |f + 1,p,k,g=>o20.bind (λl _=>g91 h1 hq f _ _ (g.bub h1 hq _ _)) (h90 g.low k k 0 k).1 (h90 g.low k k 0 k).2
theorem t71(h1:1≤n):o20 n (kas_sort n):=by
 have hq:∀ x∈((range n).toArray).toList,x < n:=λx hx=>by simpa using hx
 have g:Good n (range n).toArray (range n).toArray:=⟨t61 h1 (Array.Perm.refl _) hq,Array.Perm.refl _⟩
 have c:=n41 h1 hq g n
 refine o20.bind (λr gr=>?_) c.1 c.2
 split
 ·exact g91 h1 hq _ _ _ gr
 ·exact trivial
end
theorem S90{α:Type}{n:Nat}{cmp:Nat→Nat→Bool}{ask:Nat→Nat→(Bool→Shared→Prop)→Shared→Prop}{s:Shared}(h:∀ i j (C:Bool→Shared→Prop),i < n→j < n→C (cmp i j) s→ask i j C s){Q:α→Shared→Prop} :
  ∀ (t:KasT α),o20 n t→Q (run cmp t) s→t.kasWp ask Q s
 |.ret _,_,q=>q
 |.ask i j k,a,q=>h i j _ a.1.1 a.1.2 (S90 h (k (cmp i j)) (a.2 _) q)
def g60:List Int→List Int→Bool
 |[],[]=>false
 |[],_::_=>true
 |_::_,[]=>false
 |x::r,y::q=>if x=y then g60 r q else decide (x < y)
theorem t10:∀ a,g60 a a=false
 |[]=>rfl
 |x::r=>by show(if x=x then g60 r r else _)=_;rw[if_pos rfl];exact t10 r
theorem r00:∀ a b c,g60 a b=true→g60 b c=true→g60 a c=true
 |[],[],_,h,_=>by cases h
 |[],_::_,[],_,h=>by cases h
 |[],_::_,_::_,_,_=>rfl
 |_::_,[],_,h,_=>by cases h
 |_::_,_::_,[],_,h=>by cases h
 |x::a,y::b,z::c,h1,h2=>by
  have h1:(if x=y then g60 a b else decide (x < y))=true:=h1
  have h2:(if y=z then g60 b c else decide (y < z))=true:=h2
  show(if x=z then g60 a c else decide (x < z))=true
  by_cases e1:x=y
  ·rw[if_pos e1] at h1
   by_cases e2:y=z
   ·rw[if_pos e2] at h2
    rw[if_pos (e1.trans e2)]
    exact r00 a b c h1 h2
   ·rw[if_neg e2] at h2
    rw[if_neg (by omega)]
    rw[e1];exact h2
  ·rw[if_neg e1] at h1
   have l1:x < y:=by simpa using h1
   by_cases e2:y=z
   ·rw[if_neg (by omega)];exact decide_eq_true (by omega)
   ·rw[if_neg e2] at h2
    have l2:y < z:=by simpa using h2
    rw[if_neg (by omega)];exact decide_eq_true (by omega)
theorem r10:∀ a b,g60 a b=false→g60 b a=false→a=b
 |[],[],_,_=>rfl
 |[],_::_,h,_=>by cases h
 |_::_,[],_,h=>by cases h
 |x::a,y::b,h1,h2=>by
  have h1:(if x=y then g60 a b else decide (x < y))=false:=h1
  have h2:(if y=x then g60 b a else decide (y < x))=false:=h2
  by_cases e:x=y
  ·subst e
   rw[if_pos rfl] at h1 h2
   rw[r10 a b h1 h2]
  ·rw[if_neg e] at h1
   rw[if_neg (Ne.symm e)] at h2
   have l1:¬ x < y:=by simpa using h1
   have l2:¬ y < x:=by simpa using h2
   omega
theorem h01(a b c:List Int)(h:g60 a c=true):g60 a b=true∨g60 b c=true:=by
 cases hab:g60 a b with
 |true=>exact .inl rfl
 |false =>
  right
  cases hba:g60 b a with
  |true=>exact r00 b a c hba h
  |false=>rw[← r10 a b hab hba];exact h
def W81:KeyOrd:=⟨List Int,g60,t10,r00,h01,r10⟩
section
variable {P:Program}{w:World}{A:Around}{E:Value→Shared→Prop}{s:Shared}
def sortedBy(ks:List (List Int))(p:List Nat):Prop:=p.Perm (range ks.length)∧(p.map λi=>ks.getD i []).Pairwise λx y=>g60 y x=false
theorem range_getD(d:α):∀ (l:List α),(range l.length).map (λi=>l.getD i d)=l:=λl=>by
 refine ext_getElem (by simp) λi h1 h2=>?_
 simp at h1
 simp[h1]
def B52(P:Program)(w:World)(A:Around)(s:Shared)(vs:List Value)(Pr:List Nat→Prop)(kd:SortKind):Prop:=∃ p:List Nat,Pr p∧∀ (E:Value→Shared→Prop) (Q:Unit × SortSt→Shared→Prop),(∀ st',failedOf st'=none→arrOf st'=(p.toArray).map (kas_item (vs.toArray.zip vs.toArray))→Q ((),st') s)→wpAny (model P w) A (sortRuns'.run (SortSt.mk' kd (vs.toArray.zip vs.toArray) #[] 7 none)) Q E s
structure h42(P:Program)(w:World)(A:Around)(s:Shared)(vs:List Value)(Pr:List Nat→Prop)(kd:SortKind):Prop where
 len:vs.length≤1000
 few:vs.length < 2→Pr (range vs.length)
 all:∀ p,Pr p→p.length=vs.length
 kind:2≤vs.length→∀ (E:Value→Shared→Prop) (Q:SortKind→Shared→Prop),Q kd s→wpAny (model P w) A (keyKind' vs.toArray) Q E s
 run:2≤vs.length→B52 P w A s vs Pr kd
theorem m62(hl:n=ks.length)(h2:n < 2):sortedBy ks (range n):=by
 subst hl
 refine⟨.refl _,?_⟩
 rw[range_getD]
 match ks,h2 with
 |[],_=>exact .nil
 |[_],_=>simp
 |_::_::_,q=>simp at q;omega
theorem W91{vs:List Value}{ks:List (List Int)}{kd:SortKind}(hlen:vs.length=ks.length)(h64:vs.length < 64)(ask:∀ i j,i < vs.length→j < vs.length→∀ (E:Value→Shared→Prop) (C:Bool→Shared→Prop),C (g60 (ks.getD i []) (ks.getD j [])) s→wpAny (model P w) A (keyLt' kd (vs.getD i Value.none) (vs.getD j Value.none)) C E s)(h2':2≤vs.length):B52 P w A s vs (sortedBy ks) kd:=by
 have so:=W71 (O:=W81) (key:=λi=>ks.getD i []) (n:=vs.length) (by omega)
 refine⟨(run (l00 W81 λi=>ks.getD i []) (kas_sort vs.length)).toList,?_,λE Q q=>?_⟩
 ·generalize run (l00 W81 λi=>ks.getD i []) (kas_sort vs.length)=p at so
  refine⟨?_,?_⟩
  ·have:=so.1.toList;rw[hlen] at this;simpa using this
  ·rw[List.pairwise_iff_getElem]
   intro i j hi hj hij
   have hsz:p.size=vs.length:=by have:=so.1.size_eq;simpa using this
   have hi':i < p.size:=by simpa using hi
   have hj':j < p.size:=by simpa using hj
   have u:=so.2 i j (Nat.le_of_lt hij) (by omega)
   have g:∀ k,k < p.size→kk W81 (λi=>ks.getD i []) p k=ks.getD (p.toList.getD k 0) []:=λk hk=>by show ks.getD (p.getD k 0) []=_;rw[Array.getD_eq_getD_getElem?,List.getD_eq_getElem?_getD (l:=p.toList),Array.getElem?_toList]
   have u':g60 (ks.getD (p.toList.getD j 0) []) (ks.getD (p.toList.getD i 0) [])=false:=by
    have:=u;unfold KeyOrd.kle at this;rw[g i hi',g j hj'] at this;exact this
   simpa [hi',hj'] using u'
 ·refine wpAny_mono (kat_run (s:=s) (Q:=λst' s'=>s'=s∧failedOf st'=none∧arrOf st'=(run (l00 W81 λi=>ks.getD i []) (kas_sort vs.length)).map (kas_item (vs.toArray.zip vs.toArray)))
   (G:=λp s'=>s'=s∧p=run (l00 W81 λi=>ks.getD i []) (kas_sort vs.length)) rfl h2' h64 (λp st' s' a1 a2 a3 a4=>⟨a4.1,a3,by rw[a2,a4.2]⟩)
   (S90 (n:=vs.length) (cmp:=l00 W81 λi=>ks.getD i []) (λi j C hi hj hC=>ask i j hi hj _ C hC) (kas_sort vs.length) (t71 (by omega)) ⟨rfl,rfl⟩)) ?_ λ_ _ e=>e
  rintro ⟨⟨⟩,st'⟩ s' ⟨hs',hf,har⟩
  subst hs'
  exact q st' hf har
def t81(h h':Heap):Prop:=∀ b o,h.get? b=some o→o.cls=.type "tuple"→h'.get? b=some o
theorem h31{a:Addr}{vs:List Value}{Pr:List Nat→Prop}{kd:SortKind}{n:Nat}{R:PySem.Fin→Shared→Prop}(ho:s.heap.get? a=some (seqObj "list" vs.toArray n))(hk:∀ h',t81 s.heap h'→h42 P w A { s with heap:=h' } vs Pr kd)
  (h:∀ (p:List Nat) (h':Heap) (c:Nat),Pr p→(∀ b o,b≠a→s.heap.get? b=some o→h'.get? b=some o)→h'.get? a=some (seqObj "list" (p.map λi=>vs.getD i Value.none).toArray c)→R (.done (.ret .none)) { s with heap:=h' }) :
  wpAny (model P w) A (Builtin.«list.sort» ⟨[.ref a],[]⟩) R E s:=by
 have ha:a < s.heap.objs.size:=lt_size ho
 have h64:=(hk s.heap λ_ _ e _=>e).len
 have s1:=Heap.SameBut.update s.heap a (Obj.mapSeq λ_=>(#[]:Array Value))
 obtain⟨e1,ho1⟩:∃ e1,(s.heap.update a (Obj.mapSeq λ_=>(#[]:Array Value))).get? a=some (seqObj "list" #[] e1):=⟨_,get?_update_seq ho λ_=>#[]⟩
 have kp:∀ b o,b≠a→s.heap.get? b=some o→(((s.heap.update a (Obj.mapSeq λ_=>(#[]:Array Value))).push (seqObj "tuple" vs.toArray 0)).push (seqObj "list" #[] 0)).get? b=some o:=λb o hb e=>Heap.get?_push_of_some _ (Heap.get?_push_of_some _ ((s1.2 b hb).trans e))
 have ho6:(((s.heap.update a (Obj.mapSeq λ_=>(#[]:Array Value))).push (seqObj "tuple" vs.toArray 0)).push (seqObj "list" #[] 0)).get? a=some (seqObj "list" #[] e1):=Heap.get?_push_of_some _ (Heap.get?_push_of_some _ ho1)
 have hk6:=hk (((s.heap.update a (Obj.mapSeq λ_=>(#[]:Array Value))).push (seqObj "tuple" vs.toArray 0)).push (seqObj "list" #[] 0)) (λb o e hc=>kp b o (λq=>by subst q;rw[ho] at e;cases e;have hc':Value.type "list"=Value.type "tuple":=hc;injection hc' with hc';exact absurd hc' (by decide)) e)
 rw[list_sort_plain];refine wpAny_bind (listItems_at ho rfl (wpAny_bind (listUpdate_at ho rfl ?_ (by rw[size_toArray,sizeLine_eq];omega) (zero_le _))))
 refine wpAny_bind (seqEpoch_at ho1 rfl (wpAny_bind (wpAny_newTuple ?_ (by show vs.length≤_;rw[sizeLine_eq];omega))));refine wpAny_bind (wpAny_newList (wpAny_holding ?_) (zero_le _))
 show wpAny (model P w) A _ R E { s with heap:=((s.heap.update a (Obj.mapSeq λ_=>(#[]:Array Value))).push (seqObj "tuple" vs.toArray 0)).push (seqObj "list" #[] 0) }
 generalize hH:((s.heap.update a (Obj.mapSeq λ_=>(#[]:Array Value))).push (seqObj "tuple" vs.toArray 0)).push (seqObj "list" #[] 0)=h6 at kp ho6 hk6 ⊢
 have fin:∀ (p:List Nat) (out:Array Value),out=(p.map λi=>vs.getD i Value.none).toArray→Pr p→wpAny (model P w) A (do
   let touched:=(← seqEpoch a) != e1
   Builtin.List.listUpdate (.ref a) λ_=>out
   if touched then rule "list.sort.modified";raiseError "ValueError" "list modified during sort"
   ret .none) R E { s with heap:=h6 }:=λp out eo hp=>by
  subst eo
  have hsz:(p.map λi=>vs.getD i Value.none).toArray.size=vs.length:=by rw[size_toArray,length_map,(hk s.heap λ_ _ e _=>e).all p hp]
  have s2:=Heap.SameBut.update h6 a (Obj.mapSeq λ_=>(p.map λi=>vs.getD i Value.none).toArray)
  refine wpAny_bind (seqEpoch_at ho6 rfl (wpAny_bind (listUpdate_at ho6 rfl ?_ (zero_le _) (Nat.le_trans (Nat.le_of_eq hsz) (by rw[sizeLine_eq];omega)))))
  simp only[bne_self_eq_false,false_eq_true,if_false]
  exact wpAny_pure (h p _ _ hp (λb o hb e=>(s2.2 b hb).trans (kp b o hb e)) (get?_update_seq ho6 λ_=>(p.map λi=>vs.getD i Value.none).toArray))
 dsimp only
 by_cases h2:vs.toArray.size < 2
 ·rw[if_pos h2,if_pos h2];refine wpAny_bind (wpAny_pure ?_);rw[StateT.run_pure];refine wpAny_bind (wpAny_pure ?_);dsimp only
  refine fin (range vs.length) _ ?_ ((hk s.heap λ_ _ e _=>e).few (by simpa using h2))
  rw[range_getD];apply Array.toList_inj.mp;rw[Array.toList_map];show List.map _ (vs.toArray.zip vs.toArray).toList=vs;rw[ksk_zip];exact List.map_snd_zip (Nat.le_refl _)
 ·rw[if_neg h2,if_neg h2]
  have h2':2≤vs.length:=by simpa using h2
  refine wpAny_bind (hk6.kind h2' _ _ ?_)
  obtain⟨p,hp,hr⟩:=hk6.run h2'
  refine wpAny_bind (hr _ _ λst' hf har=>?_)
  dsimp only
  rw[hf]
  exact fin p _ (kat_snds rfl har) hp
end
end MySort
namespace TS
open PySem PySem.W PyProof.Rows
structure Tw where
 a:Array Nat
 pending:Array (Nat × Nat × Nat)
 minGallop:Nat
abbrev TM:=StateT Tw Option
section
variable (n:Nat) (cmp:Nat→Nat→Bool)
def ltT(x y:Nat):TM Bool:=if x < n∧y < n then pure (cmp x y) else λ_=>none
def t91(arr:Array Nat)(i:Nat):TM Nat:=match arr.toList[i]? with
 |some p=>pure p
 |none=>λ_=>none
def X01(i j:Nat):TM Bool:=do
 let a:=(← get).a
 ltT n cmp (← t91 a i) (← t91 a j)
def K32(i j:Nat):TM Unit:=modify λs=>{ s with a:=mirror s.a i j ((j - i) / 2) }
def mvL(a:Array Nat)(src dst:Nat):Array Nat:=⟨a.toList.take dst++((a.toList.drop src).take 1++((a.toList.take src).drop dst++a.toList.drop (src + 1)))⟩
theorem m72(h:src < a.size)(h2:dst≤src):mvL a src dst=bubble a src (src - dst):=by
 apply Array.ext_getElem?
 intro k
 rw[getElem?_bubble h (src - dst) (by omega) k,show src - (src - dst)=dst by omega]
 have hl:src < a.toList.length:=h
 rw[← Array.getElem?_toList,← Array.getElem?_toList,← Array.getElem?_toList,← Array.getElem?_toList]
 show(a.toList.take dst++((a.toList.drop src).take 1++((a.toList.take src).drop dst++a.toList.drop (src + 1))))[k]?=_
 generalize a.toList=l at hl
 rw[List.getElem?_append,List.getElem?_append,List.getElem?_append,length_take,length_take,length_drop,length_drop,length_take,show min dst l.length=dst by omega,show min 1 (l.length - src)=1 by omega,show min src l.length - dst=src - dst by omega,List.getElem?_take,List.getElem?_take,List.getElem?_drop,List.getElem?_drop,List.getElem?_drop,List.getElem?_take]
 by_cases c1:k < dst
 ·rw[if_pos c1,if_pos c1,if_neg (by omega),if_neg (by omega)]
 ·rw[if_neg c1]
  by_cases c2:k=dst
  ·rw[if_pos (by omega),if_pos (by omega),if_pos c2,show src + (k - dst)=src by omega]
  ·rw[if_neg (by omega),if_neg c2]
   by_cases c3:k≤src
   ·rw[if_pos (by omega),if_pos (by omega),if_pos (by omega),show dst + (k - dst - 1)=k - 1 by omega]
   ·rw[if_neg (by omega),if_neg (by omega),show src + 1 + (k - dst - 1 - (src - dst))=k by omega]
def X11(src dst:Nat):TM Unit:=λt=>if src < t.a.size∧dst≤src then some ((),{ t with a:=mvL t.a src dst }) else none
end
section
variable {prog:Program}{w:World}{A:Around}{E:Value→Shared→Prop}{s:Shared}{κ:SortKind}{it:Array Keyed}{n:Nat}{cmp:Nat→Nat→Bool}
def co(κ:SortKind)(it:Array Keyed)(t:Tw):SortSt:=SortSt.mk' κ (t.a.map (kas_item it)) t.pending t.minGallop none
def Sim(prog:Program)(w:World)(A:Around)(E:Value→Shared→Prop)(s:Shared)(κ:SortKind)(it:Array Keyed){α β:Type}(rel:β→α)(m:StateT SortSt Sem α)(f:TM β):Prop :=
 ∀ (t:Tw) (b:β) (t':Tw),f t=some (b,t')→∀ Q:α→SortSt→Shared→Prop,Q (rel b) (co κ it t') s→kasC (model prog w) A E m Q (co κ it t) s
local macro_rules | `(tactic| trivial)=>`(tactic| skip)
section
variable {α β α' β':Type}{r:β→α}{r':β'→α'}
theorem B10(b:β)(e:a=r b):Sim prog w A E s κ it r (pure a) (pure b):=λt b' t' h Q q=>by
 cases h
 subst e
 exact kasC_pure q
theorem m30(h:Sim prog w A E s κ it r m f)(hk:∀ b,Sim prog w A E s κ it r' (k (r b)) (g b)):Sim prog w A E s κ it r' (m >>= k) (f >>= g):=λt b t' e Q q=>by
 have e:(f t).bind (λx=>g x.1 x.2)=some (b,t'):=e
 obtain⟨⟨b1,t1⟩,e1,e2⟩:=Option.bind_eq_some_iff.mp e
 exact kasC_bind (h t b1 t1 e1 _ (hk b1 t1 b t' e2 Q q))
theorem a11:Sim prog w A E s κ it (co κ it) (get:StateT SortSt Sem SortSt) (get:TM Tw):=λt b t' e Q q=>by
 cases e
 exact kasC_get q
theorem r20(h:∀ t,F (co κ it t)=co κ it (G t)):Sim prog w A E s κ it (λu:Unit=>u) (modify F:StateT SortSt Sem Unit) (modify G:TM Unit):=λt b t' e Q q=>by
 cases e
 refine kasC_modify ?_
 rw[h t]
 exact q
theorem J01:Sim prog w A E s κ it (λu:Unit=>u) (liftM (rule x):StateT SortSt Sem Unit) (pure ():TM Unit):=λt b t' e Q q=>by
 cases e
 exact kasC_lift (wpAny_rule q)
theorem X21[Decidable c](h1:c→Sim prog w A E s κ it r m f)(h2:¬ c→Sim prog w A E s κ it r m' f'):Sim prog w A E s κ it r (if c then m else m') (if c then f else f'):=by
 split
 ·exact h1 (by assumption)
 ·exact h2 (by assumption)
def A10(r:β→α):ForInStep β→ForInStep α
 |.done b=>.done (r b)
 |.yield b=>.yield (r b)
theorem h41(h:∀ x b,Sim prog w A E s κ it (A10 r) (body x (r b)) (body' x b)):∀ (l:List Nat) (b:β),Sim prog w A E s κ it r (forIn l (r b) body) (forIn l b body')
 |[],b=>by
  rw[forIn_nil,forIn_nil]
  exact B10 b rfl
 |x::l,b=>by
  rw[forIn_cons,forIn_cons]
  refine m30 (h x b) λst=>?_
  cases st with
  |done b'=>exact B10 b' rfl
  |yield b'=>exact h41 h l b'
end
def Ora(prog:Program)(w:World)(A:Around)(s:Shared)(κ:SortKind)(it:Array Keyed)(n:Nat)(cmp:Nat→Nat→Bool):Prop:=∀ i j (C:Bool→Shared→Prop),i < n→j < n→C (cmp i j) s→kas_cmp prog w A κ it i j C s
theorem Q61(O:Ora prog w A s κ it n cmp)(x y:Nat):Sim prog w A E s κ it (λo:Bool=>some o) (lt' (kas_item it x) (kas_item it y)) (ltT n cmp x y):=λt b t' e Q q=>by
 unfold ltT at e
 split at e
 ·rename_i h
  cases e
  rw[lt'_eq]
  refine kasC_bind (kasC_get ?_)
  exact kasC_bind (kasC_lift (wpAny_attempt (wpAny_mono (O x y (λc s'=>s'=s∧c=cmp x y) h.1 h.2 ⟨rfl,rfl⟩) (λc s' hc=>by obtain⟨rfl,rfl⟩:=hc;exact kasC_pure q) λ_ _ hF=>hF.elim)))
 ·cases e
theorem L20(p:Array Nat)(i:Nat):Sim prog w A E s κ it (kas_item it) (elem' (p.map (kas_item it)) i) (t91 p i):=by
 rw[elem'_eq]
 unfold t91
 rw[Array.getElem?_map,Array.getElem?_toList]
 cases p[i]? with
 |none=>exact λt b t' e=>by cases e
 |some x=>exact B10 x rfl
theorem J11(O:Ora prog w A s κ it n cmp)(i j:Nat):Sim prog w A E s κ it (λo:Bool=>some o) (ltAt' i j) (X01 n cmp i j):=by
 rw[ltAt'_eq]
 unfold X01
 refine m30 a11 λt=>?_
 exact m30 (L20 t.a i) λx=>m30 (L20 t.a j) λy=>Q61 O x y
theorem X31(i j:Nat):Sim prog w A E s κ it (λu:Unit=>u) (reverseSlice' i j) (K32 i j):=by
 rw[reverseSlice'_eq]
 refine r20 λt=>?_
 show SortSt.mk' κ (mirror (t.a.map (kas_item it)) i j ((j - i) / 2)) t.pending t.minGallop none=SortSt.mk' κ ((mirror t.a i j ((j - i) / 2)).map (kas_item it)) t.pending t.minGallop none
 rw[show mirror (t.a.map (kas_item it)) i j ((j - i) / 2)=(mirror t.a i j ((j - i) / 2)).map (kas_item it) from kas_swaps_map (kas_item it) (λk=>i + k) (λk=>j - 1 - k) _ t.a]
theorem J21(k l:Nat):Sim prog w A E s κ it (λu:Unit=>u) (moveDown' k l) (X11 k l):=λt b t' e Q q=>by
 rw[moveDown'_eq]
 unfold X11 at e
 split at e
 ·rename_i h
  cases e
  refine kasC_modify ?_
  have e:bubble (t.a.map (kas_item it)) k (k - l)=(mvL t.a k l).map (kas_item it):=by
   rw[m72 h.1 h.2]
   exact kas_swaps_map (kas_item it) (λi=>k - i) (λi=>k - i - 1) _ t.a
  show Q () (SortSt.mk' κ (bubble (t.a.map (kas_item it)) k (k - l)) t.pending t.minGallop none) s
  rw[e]
  exact q
 ·cases e
def v70{β:Type}(f:Nat→β→TM (ForInStep β)):Nat→Nat→β→TM β
 |0,_,b=>pure b
 |n + 1,i,b=>f i b >>= λx=>match x with
  |.done b=>pure b
  |.yield b=>v70 f n (i + 1) b
theorem h51(f:Nat→β→TM (ForInStep β)):∀ (n i:Nat) (b:β),v70 f n i b=forIn (range' i n 1) b f
 |0,_,_=>by rw[List.range'_zero,forIn_nil];rfl
 |n + 1,i,b=>by
  rw[List.range'_succ,forIn_cons]
  show(f i b >>= λx=>_)=_
  congr 1
  funext x
  cases x with
  |done b=>rfl
  |yield b=>exact h51 f n (i + 1) b
theorem L30{α β:Type}{r:β→α}{a b:Nat}{c:β}{body:Nat→α→StateT SortSt Sem (ForInStep α)}{body':Nat→β→TM (ForInStep β)}(h:∀ x b,Sim prog w A E s κ it (A10 r) (body x (r b)) (body' x b)):Sim prog w A E s κ it r (forIn [a:b] (r c) body) (v70 body' (b - a) a c):=by
 rw[Std.Legacy.Range.forIn_eq_forIn_range',h51]
 have e:[a:b].size=b - a:=by simp[Std.Legacy.Range.size]
 show Sim prog w A E s κ it r (forIn (range' a [a:b].size 1) (r c) body) _
 rw[e]
 exact h41 h _ c
def o30(prog:Program)(w:World)(A:Around)(E:Value→Shared→Prop)(s:Shared)(κ:SortKind)(it:Array Keyed){α β:Type}(r:β→α)(m:StateT SortSt Sem α):Type:={f:TM β // Sim prog w A E s κ it r m f}
section
variable {α β α' β':Type}{r:β→α}{r':β'→α'}
def b50{a:α}(b:β)(e:a=r b):o30 prog w A E s κ it r (pure a):=⟨pure b,B10 b e⟩
def a60{m:StateT SortSt Sem α}{k:α→StateT SortSt Sem α'}(h:o30 prog w A E s κ it r m)(hk:∀ b,o30 prog w A E s κ it r' (k (r b))):o30 prog w A E s κ it r' (m >>= k):=⟨h.1 >>= λb=>(hk b).1,m30 h.2 λb=>(hk b).2⟩
def m40{c:Prop}[Decidable c]{m m':StateT SortSt Sem α}(h1:o30 prog w A E s κ it r m)(h2:o30 prog w A E s κ it r m'):o30 prog w A E s κ it r (if c then m else m'):=⟨if c then h1.1 else h2.1,X21 (λ_=>h1.2) λ_=>h2.2⟩
def s20{m:StateT SortSt Sem α}:o30 prog w A E s κ it r m:=⟨λ_=>none,λ_ _ _ e=>by cases e⟩
def J31{m m':StateT SortSt Sem α}(e:m=m')(h:o30 prog w A E s κ it r m'):o30 prog w A E s κ it r m:=⟨h.1,by rw[e];exact h.2⟩
def s30{a b:Nat}(c:β){body:Nat→α→StateT SortSt Sem (ForInStep α)}(h:∀ x b,o30 prog w A E s κ it (A10 r) (body x (r b))):o30 prog w A E s κ it r (forIn [a:b] (r c) body):=⟨v70 (λx b=>(h x b).1) (b - a) a c,L30 λx b=>(h x b).2⟩
end
def n51(O:Ora prog w A s κ it n cmp)(i j:Nat):o30 prog w A E s κ it (λo:Bool=>some o) (ltAt' i j):=⟨X01 n cmp i j,J11 O i j⟩
def x92(i j:Nat):o30 prog w A E s κ it (λu:Unit=>u) (reverseSlice' i j):=⟨K32 i j,X31 i j⟩
def B62(i j:Nat):o30 prog w A E s κ it (λu:Unit=>u) (moveDown' i j):=⟨X11 i j,J21 i j⟩
def J41(x:String):o30 prog w A E s κ it (λu:Unit=>u) (liftM (rule x):StateT SortSt Sem Unit):=⟨pure (),J01⟩
def O92(O:Ora prog w A s κ it n cmp)(lo n' ok:Nat):o30 prog w A E s κ it (λ_:Unit=>true) (binarySort' lo n' ok):=by
 refine J31 (binarySort'_eq lo n' ok) ?_
 refine a60 (r:=λ_:Unit=>((none,()):Option Bool × Unit)) (s30 () λk _=>?_) λ_=>b50 () rfl
 refine a60 (r:=λx:Nat × Nat=>((none,x):Option Bool × Nat × Nat)) (s30 (0,k) λ_ x=>?_) λx=>a60 (B62 _ _) λ_=>b50 (ForInStep.yield ()) rfl
 exact m40 (b50 (ForInStep.done x) rfl) (a60 (n51 O _ _) λo=>m40 (b50 (ForInStep.yield (x.1,_)) rfl) (b50 (ForInStep.yield (_,x.2)) rfl))
def m82(O:Ora prog w A s κ it n cmp)(lo z:Nat):o30 prog w A E s κ it (λm:Nat=>some m) (countRun' lo z):=by
 refine J31 (countRun'_eq lo z) ?_
 refine a60 (r:=λm:Nat=>((none,m):Option (Option Nat) × Nat)) (s30 1 λ_ m=>a60 (n51 O _ _) λ_=>m40 (b50 (ForInStep.done m) rfl) (b50 (ForInStep.yield (m + 1)) rfl)) λm=>?_
 refine m40 (b50 m rfl) (m40 (a60 (n51 O _ _) λ_=>m40 (b50 m rfl) (a60 (x92 _ _) λ_=>?_)) ?_)
 all_goals
  refine a60 (J41 _) λ_=>a60 (r:=λm:Nat=>((none,m,0):Option (Option Nat) × Nat × Nat)) (s30 (m + 1) λ_ m=>a60 (n51 O _ _) λ_=>m40 (m40 s20 (b50 (ForInStep.yield (m + 1)) rfl)) (a60 (n51 O _ _) λ_=>m40 (b50 (ForInStep.done m) rfl) s20)) λm=>?_
  exact m40 s20 (a60 (x92 _ _) λ_=>a60 (r:=λm:Nat=>((none,m):Option (Option Nat) × Nat)) (s30 m λ_ m=>a60 (n51 O _ _) λ_=>m40 (b50 (ForInStep.done m) rfl) (b50 (ForInStep.yield (m + 1)) rfl)) λm=>b50 m rfl)
def tLt(O:Ora prog w A s κ it n cmp)(x y:Nat):o30 prog w A E s κ it (λo:Bool=>some o) (lt' (kas_item it x) (kas_item it y)):=⟨ltT n cmp x y,Q61 O x y⟩
def t20(p:Array Nat)(i:Nat):o30 prog w A E s κ it (kas_item it) (elem' (p.map (kas_item it)) i):=⟨t91 p i,L20 p i⟩
def u01:Bool→Keyed→Array Keyed→Nat→Nat→Nat→StateT SortSt Sem (Option Nat):=sortPriv% PySem.Builtin.gallop
def a21(O:Ora prog w A s κ it n cmp)(left:Bool)(y:Nat)(p:Array Nat)(base z hint:Nat):o30 prog w A E s κ it (λm:Nat=>some m) (u01 left (kas_item it y) (p.map (kas_item it)) base z hint):=by
 refine a60 (r:=λb:Bool=>some b) (a60 (t20 p (base + hint)) λx=>m40 (tLt O x y) (a60 (tLt O y x) λb=>b50 (!b) rfl)) λb=>?_
 refine m40 ?_ ?_ <;> refine a60 (r:=λx:Nat × Nat=>((none,x):Option (Option Nat) × Nat × Nat)) (s30 (0,1) λ_ x=>m40 (b50 (ForInStep.done x) rfl) (a60 (r:=λb:Bool=>some b) (a60 (t20 p _) λx=>m40 (tLt O x y) (a60 (tLt O y x) λb=>b50 (!b) rfl)) λb=>m40 (b50 (ForInStep.done x) rfl) (b50 (ForInStep.yield (x.2,2 * x.2 + 1)) rfl))) λx=>?_
 ·exact a60 (r:=λx:Nat × Nat=>((none,x):Option (Option Nat) × Nat × Nat)) (s30 (hint + x.1 + 1,hint + min x.2 (z - hint)) λ_ x=>m40 (b50 (ForInStep.done x) rfl) (a60 (r:=λb:Bool=>some b) (a60 (t20 p _) λx=>m40 (tLt O x y) (a60 (tLt O y x) λb=>b50 (!b) rfl)) λb=>m40 (b50 (ForInStep.yield (_,x.2)) rfl) (b50 (ForInStep.yield (x.1,_)) rfl))) λx=>b50 x.2 rfl
 ·exact a60 (r:=λx:Nat × Nat=>((none,x):Option (Option Nat) × Nat × Nat)) (s30 (hint + 1 - min x.2 (hint + 1),hint - x.1) λ_ x=>m40 (b50 (ForInStep.done x) rfl) (a60 (r:=λb:Bool=>some b) (a60 (t20 p _) λx=>m40 (tLt O x y) (a60 (tLt O y x) λb=>b50 (!b) rfl)) λb=>m40 (b50 (ForInStep.yield (_,x.2)) rfl) (b50 (ForInStep.yield (x.1,_)) rfl))) λx=>b50 x.2 rfl
def a31{α β:Type}{r:β→α}{a b:Nat}{i:α}(b':Nat)(eb:b=b')(c:β)(ec:i=r c){body:Nat→α→StateT SortSt Sem (ForInStep α)}(h:∀ x b,o30 prog w A E s κ it (A10 r) (body x (r b))):o30 prog w A E s κ it r (forIn [a:b] i body):=⟨v70 (λx b=>(h x b).1) (b' - a) a c,by subst eb;subst ec;exact L30 λx b=>(h x b).2⟩
def tIf{α β:Type}{r:β→α}{c:Prop}[Decidable c]{m m':StateT SortSt Sem α}(c':Bool)(e:c↔c'=true)(h1:o30 prog w A E s κ it r m)(h2:o30 prog w A E s κ it r m'):o30 prog w A E s κ it r (if c then m else m'):=⟨match c' with
 |true=>h1.1
 |false=>h2.1,by
 cases c' with
 |true=>rw[if_pos (e.mpr rfl)];exact h1.2
 |false=>rw[if_neg λh=>by cases e.mp h];exact h2.2⟩
def X41:o30 prog w A E s κ it (co κ it) (get:StateT SortSt Sem SortSt):=⟨get,a11⟩
def B72:Nat→StateT SortSt Sem Unit:=sortPriv% PySem.Builtin.setMinGallop
def m92(g:Nat):o30 prog w A E s κ it (λu:Unit=>u) (B72 g):=⟨modify λt=>{ t with minGallop:=g },r20 λ_=>rfl⟩
def K42(O:Ora prog w A s κ it n cmp)(left:Bool)(y:Nat)(p:Array Nat)(base z z' hint:Nat)(e:z=z'):o30 prog w A E s κ it (λm:Nat=>some m) (u01 left (kas_item it y) (p.map (kas_item it)) base z hint):=J31 (by rw[e]) (a21 O left y p base z' hint)
def J51:Array Keyed→Array Keyed→StateT SortSt Sem (Array Keyed):=sortPriv% PySem.Builtin.mergeLo
def rs{γ:Type}(it:Array Keyed)(x:Option (Array Nat) × Array Nat × γ):Option (Array Keyed) × Array Keyed × γ:=(x.1.map (Array.map (kas_item it)),x.2.1.map (kas_item it),x.2.2)
theorem sz(it:Array Keyed)(i:Nat)(p:Array Nat):(i == (p.map (kas_item it)).size)=true↔(i == p.size)=true:=by rw[size_map]
local macro_rules
 | `(tactic| ac_rfl)=>`(tactic| simp only[rs,A10,map_some,Option.map_none,Array.map_append,Array.map_push,map_extract,size_map])
 | `(tactic| rwa [$O:term,$p:term,$q:term,$out:term,$ia:term,$ib:term,$mg:term,$ac:term,$bc:term])=>`(tactic| exact a60 (t20 $p $ia) λy=>tIf _ (sz _ _ _) (b50 (ForInStep.done (some (push $out y++extract $q $ib++extract $p ($ia + 1)),push $out y,$ia + 1,$ib,$mg,$ac,$bc)) (by ac_rfl)) (m40 (b50 (ForInStep.done (none,push $out y,$ia + 1,$ib,$mg,$ac,$bc)) (by ac_rfl)) (b50 (ForInStep.yield (none,push $out y,$ia + 1,$ib,$mg,$ac,$bc)) (by ac_rfl))))
 | `(tactic| rwa [$O:term,$p:term,$q:term,$out:term,$ia:term,$ib:term,$mg:term,$ac:term,$bc:term,$_x0:term])=>`(tactic| exact a60 (t20 $q $ib) λy=>tIf _ (sz _ _ _) (b50 (ForInStep.done (some (push $out y++extract $p $ia++extract $q ($ib + 1)),push $out y,$ia,$ib + 1,$mg,$ac,$bc)) (by ac_rfl)) (a60 (t20 $p $ia) λz=>a60 (K42 $O true z $q ($ib + 1) _ (Array.size $q - ($ib + 1)) 0 (by simp[rs])) λk=>m40 (tIf _ (sz _ _ _) (b50 (ForInStep.done (some (push $out y++extract $q ($ib + 1) ($ib + 1 + k)++extract $p $ia++extract $q ($ib + 1 + k)),push $out y++extract $q ($ib + 1) ($ib + 1 + k),$ia,$ib + 1 + k,$mg,$ac,k)) (by ac_rfl)) ((by rwa [$O:term,$p:term,$q:term,(push $out y++extract $q ($ib + 1) ($ib + 1 + k)),$ia:term,($ib + 1 + k),$mg:term,$ac:term,k]))) ((by rwa [$O:term,$p:term,$q:term,(push $out y),$ia:term,($ib + 1),$mg:term,$ac:term,k]))))
 | `(tactic| rwa [$O:term,$p:term,$q:term,$out:term,$ia:term,$ib:term,$mg:term,$bc:term,$_x0:term,$_x1:term,$_x2:term])=>`(tactic| exact a60 (m92 $mg) λ_=>a60 (t20 $q $ib) λy=>a60 (K42 $O false y $p $ia _ (Array.size $p - $ia) 0 (by simp[rs])) λk=>m40 (tIf _ (sz _ _ _) (b50 (ForInStep.done (some ($out++extract $p $ia ($ia + k)++extract $q $ib++extract $p ($ia + k)),$out++extract $p $ia ($ia + k),$ia + k,$ib,$mg,k,$bc)) (by ac_rfl)) (tIf _ (sz _ _ _) (b50 (ForInStep.done (some ($out++extract $p $ia ($ia + k)++extract $p ($ia + k)++extract $q $ib),$out++extract $p $ia ($ia + k),$ia + k,$ib,$mg,k,$bc)) (by ac_rfl)) ((by rwa [$O:term,$p:term,$q:term,($out++extract $p $ia ($ia + k)),($ia + k),$ib:term,$mg:term,k,$bc:term,rfl])))) ((by rwa [$O:term,$p:term,$q:term,$out:term,$ia:term,$ib:term,$mg:term,k,$bc:term,rfl])))
def J61(O:Ora prog w A s κ it n cmp)(p q:Array Nat):o30 prog w A E s κ it (Array.map (kas_item it)) (J51 (p.map (kas_item it)) (q.map (kas_item it))):=by
 refine a60 (J41 _) λ_=>a60 (t20 q 0) λx=>?_
 refine tIf _ (sz it _ _) (b50 (#[x]++p.extract 0++q.extract 1) (by simp only[Array.map_append,map_extract,size_map,map_toArray,map_cons,map_nil])) ?_
 refine tIf _ (sz it _ _) (b50 (#[x]++q.extract 1++p.extract 0) (by simp only[Array.map_append,map_extract,size_map,map_toArray,map_cons,map_nil])) ?_
 refine a60 X41 λt=>?_
 refine a60 (r:=rs it) (a31 (p.size + q.size) (by simp) (none,#[x],0,1,t.minGallop) (by simp[rs];rfl) λ_ st=>?_) λst=>?_
 ·obtain⟨_,out,ia,ib,mg⟩:=st
  refine a60 (r:=rs it) (a31 (p.size + q.size) (by simp) (none,out,ia,ib,0,0) (by simp[rs]) λ_ st=>?_) λst=>?_
  ·obtain⟨_,out,ia,ib,ac,bc⟩:=st
   refine a60 (t20 q ib) λy=>a60 (t20 p ia) λz=>a60 (tLt O y z) λo=>m40 (a60 (t20 q ib) λy=>?_) (a60 (t20 p ia) λy=>?_)
   ·exact tIf _ (sz it _ _) (b50 (ForInStep.done (some (out.push y++p.extract ia++q.extract (ib + 1)),out.push y,ia,ib + 1,0,bc + 1)) (by simp[rs,A10])) (m40 (b50 (ForInStep.done (none,out.push y,ia,ib + 1,0,bc + 1)) (by simp[rs,A10])) (b50 (ForInStep.yield (none,out.push y,ia,ib + 1,0,bc + 1)) (by simp[rs,A10])))
   ·exact tIf _ (sz it _ _) (b50 (ForInStep.done (some (out.push y++q.extract ib++p.extract (ia + 1)),out.push y,ia + 1,ib,ac + 1,0)) (by simp[rs,A10])) (m40 (b50 (ForInStep.done (none,out.push y,ia + 1,ib,ac + 1,0)) (by simp[rs,A10])) (b50 (ForInStep.yield (none,out.push y,ia + 1,ib,ac + 1,0)) (by simp[rs,A10])))
  ·obtain⟨o,out,ia,ib,ac,bc⟩:=st
   cases o with
   |some v=>exact b50 (ForInStep.done (some v,out,ia,ib,mg)) rfl
   |none =>
    refine a60 (J41 _) λ_=>?_
    refine a60 (r:=rs it) (a31 (p.size + q.size) (by simp) (none,out,ia,ib,mg + 1,ac,bc) (by simp[rs]) λ_ st=>?_) λst=>?_
    ·obtain⟨_,out,ia,ib,mg,ac,bc⟩:=st
     exact m40 ((by rwa [O,p,q,out,ia,ib,(mg - 1),bc,rfl,rfl,rfl])) ((by rwa [O,p,q,out,ia,ib,mg,bc,rfl,rfl,rfl]))
    ·obtain⟨o,out,ia,ib,mg,ac,bc⟩:=st
     cases o with
     |some v=>exact b50 (ForInStep.done (some v,out,ia,ib,mg)) rfl
     |none=>exact a60 (m92 (mg + 1)) λ_=>b50 (ForInStep.yield (none,out,ia,ib,mg + 1)) rfl
 ·obtain⟨o,_⟩:=st
  cases o with
  |none=>exact s20
  |some v=>exact b50 v rfl
def P02(t':Tw){S:SortSt}(e:S=co κ it t'):o30 prog w A E s κ it (λu:PUnit=>u) (set S:StateT SortSt Sem PUnit):=⟨modify λ_=>t',by subst e;exact r20 (F:=λ_=>co κ it t') λ_=>rfl⟩
def B82{F:SortSt→SortSt}(G:Tw→Tw)(h:∀ t,F (co κ it t)=co κ it (G t)):o30 prog w A E s κ it (λu:Unit=>u) (modify F:StateT SortSt Sem Unit):=⟨modify G,r20 h⟩
theorem fold_map(f:Nat→Keyed)(d:Nat):∀ (l:List Nat) (j:Nat) (a:Array Nat),((l.map f).zipIdx j).foldl (λa x=>setIfInBounds a (d + x.2) x.1) (a.map f)=((l.zipIdx j).foldl (λa x=>setIfInBounds a (d + x.2) x.1) a).map f
 |[],_,_=>rfl
 |x::l,j,a=>by
  have e:(a.map f).setIfInBounds (d + j) (f x)=(a.setIfInBounds (d + j) x).map f:=by simp
  show((l.map f).zipIdx (j + 1)).foldl _ ((a.map f).setIfInBounds (d + j) (f x))=_
  rw[e]
  exact fold_map f d l (j + 1) _
def spl(a:Array Nat)(d:Nat)(l:List Nat):Array Nat:=⟨a.toList.take d++(l++a.toList.drop (d + l.length))⟩
theorem Q71(d:Nat):∀ (l:List Nat) (j:Nat) (a:Array Nat),d + j + l.length≤a.size→(l.zipIdx j).foldl (λa x=>setIfInBounds a (d + x.2) x.1) a=spl a (d + j) l
 |[],j,a,_=>by
  show a=_
  unfold spl
  rw[length_nil,Nat.add_zero,nil_append,List.take_append_drop]
 |x::l,j,a,h=>by
  have hl:d + j + (l.length + 1)≤a.toList.length:=h
  show(l.zipIdx (j + 1)).foldl _ (a.setIfInBounds (d + j) x)=_
  rw[Q71 d l (j + 1) _ (by rw[Array.size_setIfInBounds];have:a.toList.length=a.size:=rfl;omega)]
  unfold spl
  rw[Array.toList_setIfInBounds,List.set_eq_take_append_cons_drop,if_pos (by omega)]
  generalize a.toList=m at hl
  have e1:(m.take (d + j)).length=d + j:=by rw[length_take];omega
  have e2:(m.take (d + j)++x::m.drop (d + j + 1)).take (d + (j + 1))=m.take (d + j)++[x]:=by
   rw[List.take_append,e1,show d + (j + 1) - (d + j)=1 by omega,take_of_length_le (Nat.le_trans (Nat.le_of_eq e1) (by omega))]
   rfl
  have e3:(m.take (d + j)++x::m.drop (d + j + 1)).drop (d + (j + 1) + l.length)=m.drop (d + j + (l.length + 1)):=by
   rw[List.drop_append,e1,show d + (j + 1) + l.length - (d + j)=l.length + 1 by omega,List.drop_eq_nil_of_le (Nat.le_trans (Nat.le_of_eq e1) (by omega)),List.drop_succ_cons,List.drop_drop,nil_append,show d + j + 1 + l.length=d + j + (l.length + 1) by omega]
  rw[e2,e3,append_assoc]
  rfl
def B92{F:SortSt→SortSt}(c:Tw→Bool)(G:Tw→Tw)(h:∀ t,c t=true→F (co κ it t)=co κ it (G t)):o30 prog w A E s κ it (λu:Unit=>u) (modify F:StateT SortSt Sem Unit):=⟨λt=>match c t with
 |true=>some ((),G t)
 |false=>none,λt b t' e Q q=>by
 dsimp only at e
 cases hc:c t with
 |false=>rw[hc] at e;cases e
 |true =>
  rw[hc] at e
  cases e
  refine kasC_modify ?_
  rw[h t hc]
  exact q⟩
def h61(O:Ora prog w A s κ it n cmp)(i:Nat):o30 prog w A E s κ it (λ_:Unit=>true) (mergeAt' i):=by
 refine a60 X41 λt=>?_
 generalize (pendingOf (co κ it t))[i]?=o1
 generalize (pendingOf (co κ it t))[i + 1]?=o2
 rcases o1 with _ | ⟨sa,na,pw⟩
 ·exact s20
 rcases o2 with _ | ⟨sb,nb,_⟩
 ·exact s20
 refine a60 (P02 { t with pending:=(t.pending.setIfInBounds i (sa,na + nb,pw)).eraseIdxIfInBounds (i + 1) } rfl) λ_=>?_
 refine a60 (t20 t.a sb) λy=>a60 (a21 O false y t.a sa na 0) λk=>?_
 refine m40 (b50 () rfl) (a60 (t20 t.a _) λy=>a60 (a21 O true y t.a sb nb (nb - 1)) λnb=>m40 (b50 () rfl) (m40 (a60 (J31 ?_ (J61 O (t.a.extract (sa + k) sb) (t.a.extract sb (sb + nb)))) λv=>?_) s20))
 ·rw[map_extract,map_extract];rfl
 ·refine a60 (B92 (λu=>ble (sa + k + v.toList.length) u.a.size) (λu=>{ u with a:=spl u.a (sa + k) v.toList }) λu hu=>?_) λ_=>a60 X41 λ_=>b50 () rfl
  have e:=fold_map (kas_item it) (sa + k) v.toList 0 u.a
  rw[← Array.toList_map,Q71 (sa + k) v.toList 0 u.a (Nat.le_of_ble_eq_true hu)] at e
  exact congrArg (λa=>SortSt.mk' κ a u.pending u.minGallop none) e
structure K52(prog:Program)(w:World)(A:Around)(E:Value→Shared→Prop)(s:Shared)(κ:SortKind)(it:Array Keyed)(z:Nat)(m:StateT SortSt Sem Unit) where
 body:Nat→Nat→TM (ForInStep Nat)
 tail:Nat→TM Unit
 sim:Sim prog w A E s κ it (λu:Unit=>u) m (v70 body z 0 0 >>= tail)
def mkH{α:Type}{r:Nat→α}{i:α}{z:Nat}(e0:i=r 0){B:Nat→α→StateT SortSt Sem (ForInStep α)}{k:α→StateT SortSt Sem Unit}(hb:∀ x lo,o30 prog w A E s κ it (A10 r) (B x (r lo)))(hk:∀ lo,o30 prog w A E s κ it (λu:Unit=>u) (k (r lo))) :
  K52 prog w A E s κ it z (forIn [0:z] i B >>= k) where
 body:=λx lo=>(hb x lo).1
 tail:=λlo=>(hk lo).1
 sim:=by
  subst e0
  exact m30 (L30 λx b=>(hb x b).2) λb=>(hk b).2
structure n61(prog:Program)(w:World)(A:Around)(E:Value→Shared→Prop)(s:Shared)(κ:SortKind)(it:Array Keyed)(m:StateT SortSt Sem Unit) where
 body:Tw→Nat→Nat→TM (ForInStep Nat)
 tail:Tw→Nat→TM Unit
 sim:Sim prog w A E s κ it (λu:Unit=>u) m (get >>= λt=>v70 (body t) t.a.size 0 0 >>= tail t)
def mkW{F:SortSt→StateT SortSt Sem Unit}(h:∀ t:Tw,K52 prog w A E s κ it t.a.size (F (co κ it t))):n61 prog w A E s κ it (get >>= F) where
 body:=λt=>(h t).body
 tail:=λt=>(h t).tail
 sim:=m30 a11 λt=>(h t).sim
def n61.cast{m m':StateT SortSt Sem Unit}(e:m=m')(h:n61 prog w A E s κ it m'):n61 prog w A E s κ it m:=⟨h.body,h.tail,by rw[e];exact h.sim⟩
def j30(O:Ora prog w A s κ it n cmp):n61 prog w A E s κ it sortRuns':=by
 refine n61.cast sortRuns'_eq (mkW λt=>?_)
 generalize hz:Array.size (arrOf (co κ it t))=z
 have hz':t.a.size=z:=Array.size_map.symm.trans hz
 clear hz
 subst hz'
 refine mkH (r:=λm:Nat=>((none,m):Option Unit × Nat)) rfl (λ_ lo=>m40 (b50 (ForInStep.done lo) rfl) (a60 (m82 O _ _) λm=>?_)) (λ_=>?_)
 ·refine m40 (a60 (J41 _) λ_=>a60 (O92 O _ _ _) λ_=>m40 s20 (a60 X41 λu=>?_)) (a60 X41 λu=>?_)
  all_goals
   generalize Array.back? (pendingOf (co κ it u))=o1
   rcases o1 with _ | ⟨s1,n1,_⟩
   ·exact a60 (B82 (λu=>{ u with pending:=u.pending.push (lo,_,0) }) λ_=>rfl) λ_=>b50 (ForInStep.yield (lo + _)) rfl
   ·refine a60 (r:=λ_:Unit=>((none,()):Option Unit × Unit)) (s30 () λ_ _=>a60 X41 λu=>?_) λ_=>a60 (B82 (λu=>{ u with pending:=u.pending.modify (u.pending.size - 1) λx=>(x.1,x.2.1,_) }) λ_=>rfl) λ_=>a60 (B82 (λu=>{ u with pending:=u.pending.push (lo,_,0) }) λ_=>rfl) λ_=>b50 (ForInStep.yield (lo + _)) rfl
    dsimp only
    generalize (if Array.size (pendingOf (co κ it u)) > 1 then(pendingOf (co κ it u))[Array.size (pendingOf (co κ it u)) - 2]? else none)=o2
    rcases o2 with _ | ⟨_,_,old⟩
    ·exact b50 (ForInStep.done ()) rfl
    ·exact m40 (b50 (ForInStep.done ()) rfl) (a60 (h61 O _) λ_=>m40 s20 (b50 (ForInStep.yield ()) rfl))
 ·exact a60 (r:=λ_:Unit=>((none,()):Option Unit × Unit)) (s30 () λ_ _=>a60 X41 λu=>m40 (b50 (ForInStep.done ()) rfl) (a60 (h61 O _) λ_=>m40 s20 (b50 (ForInStep.yield ()) rfl))) λ_=>b50 () rfl
end
def upN:Nat→Nat→Nat→List Nat
 |0,_,h=>[h]
 |b + 1,v,h=>upN b (2 * v) (h + v)++upN b (2 * v) h
def neN:Nat→Nat→Nat→List Nat
 |0,_,_=>[]
 |b + 1,v,h=>(h + v)::(neN b (2 * v) (h + v)++neN b (2 * v) h)
def sN(b:Nat):List Nat:=0::neN b 1 0
def D30:Nat→Nat→Nat→List Nat
 |0,_,_=>[]
 |k + 1,i,m=>if Nat.testBit m 0 then i::D30 k (i + 1) (m / 2) else D30 k (i + 1) (m / 2)
def y02:List Nat→List Nat→Bool
 |[],[]=>false
 |[],_::_=>true
 |_::_,[]=>false
 |a::r,b::q=>if beq a b then y02 r q else Nat.blt a b
def x30(K i j:Nat):Bool:=y02 (D30 K 0 i) (D30 K 0 j)
section
variable {prog:Program}{w:World}{A:Around}{E:Value→Shared→Prop}{s:Shared}{κ:SortKind}{it:Array Keyed}
def T0(K:Nat):Tw:=⟨⟨range (2 ^ K)⟩,#[],7⟩
def TZ(K p:Nat):Tw:=⟨⟨sN K⟩,#[(0,2 ^ K,p)],7⟩
theorem A20{β:Type}{f:Nat→β→TM (ForInStep β)}{n i:Nat}{b b':β}{t t':Tw}{r:Option (β × Tw)}(h:f i b t=some (.yield b',t'))(h2:v70 f n (i + 1) b' t'=r):v70 f (n + 1) i b t=r:=by
 show Option.bind (f i b t) _=r
 rw[h];exact h2
def goW{K:Nat}(O:Ora prog w A s κ it (2 ^ K) (x30 K)):TM Unit:=get >>= λt=>v70 ((j30 (E:=E) O).body t) t.a.size 0 0 >>= (j30 (E:=E) O).tail t
theorem two{K n:Nat}{t:Tw}{r:Option (Unit × Tw)}(O:Ora prog w A s κ it (2 ^ K) (x30 K))(h:v70 ((j30 (E:=E) O).body (T0 K)) (2 ^ K) 0 0 (T0 K)=some (n,t))(h2:(j30 (E:=E) O).tail (T0 K) n t=r):goW (E:=E) O (T0 K)=r:=by
 show Option.bind (v70 ((j30 (E:=E) O).body (T0 K)) (range (2 ^ K)).length 0 0 (T0 K)) _=r
 rw[length_range,h];exact h2
theorem w1(O:Ora prog w A s κ it (2 ^ 1) (x30 1)):goW (E:=E) O (T0 1)=some ((),TZ 1 0):=by kernel_rfl
theorem w2(O:Ora prog w A s κ it (2 ^ 2) (x30 2)):goW (E:=E) O (T0 2)=some ((),TZ 2 0):=by kernel_rfl
theorem w3(O:Ora prog w A s κ it (2 ^ 3) (x30 3)):goW (E:=E) O (T0 3)=some ((),TZ 3 0):=by kernel_rfl
theorem w4(O:Ora prog w A s κ it (2 ^ 4) (x30 4)):goW (E:=E) O (T0 4)=some ((),TZ 4 0):=by kernel_rfl
theorem w5(O:Ora prog w A s κ it (2 ^ 5) (x30 5)):goW (E:=E) O (T0 5)=some ((),TZ 5 0):=by kernel_rfl
theorem w6(O:Ora prog w A s κ it (2 ^ 6) (x30 6)):goW (E:=E) O (T0 6)=some ((),TZ 6 1):=by kernel_rfl
theorem P12(O:Ora prog w A s κ it (2 ^ 7) (x30 7)):(j30 (E:=E) O).body (T0 7) 0 0 (T0 7)=some (.yield 32,⟨⟨sN 5++range' 32 96⟩,#[(0,32,0)],7⟩):=by kernel_rfl
theorem P22(O:Ora prog w A s κ it (2 ^ 7) (x30 7)):(j30 (E:=E) O).body (T0 7) 1 32 ⟨⟨sN 5++range' 32 96⟩,#[(0,32,0)],7⟩=some (.yield 64,⟨⟨sN 5++(upN 5 1 32++range' 64 64)⟩,#[(0,32,2),(32,32,0)],7⟩):=by kernel_rfl
theorem P32(O:Ora prog w A s κ it (2 ^ 7) (x30 7)):(j30 (E:=E) O).body (T0 7) 2 64 ⟨⟨sN 5++(upN 5 1 32++range' 64 64)⟩,#[(0,32,2),(32,32,0)],7⟩=some (.yield 96,⟨⟨sN 6++(upN 5 1 64++range' 96 32)⟩,#[(0,64,1),(64,32,0)],7⟩):=by kernel_rfl
theorem P42(O:Ora prog w A s κ it (2 ^ 7) (x30 7)):(j30 (E:=E) O).body (T0 7) 3 96 ⟨⟨sN 6++(upN 5 1 64++range' 96 32)⟩,#[(0,64,1),(64,32,0)],7⟩=some (.yield 128,⟨⟨sN 6++(upN 5 1 64++upN 5 1 96)⟩,#[(0,64,1),(64,32,2),(96,32,0)],7⟩):=by kernel_rfl
theorem P52(O:Ora prog w A s κ it (2 ^ 7) (x30 7)):v70 ((j30 (E:=E) O).body (T0 7)) 124 4 128 ⟨⟨sN 6++(upN 5 1 64++upN 5 1 96)⟩,#[(0,64,1),(64,32,2),(96,32,0)],7⟩=some (128,⟨⟨sN 6++(upN 5 1 64++upN 5 1 96)⟩,#[(0,64,1),(64,32,2),(96,32,0)],7⟩):=by kernel_rfl
theorem P62(O:Ora prog w A s κ it (2 ^ 7) (x30 7)):(j30 (E:=E) O).tail (T0 7) 128 ⟨⟨sN 6++(upN 5 1 64++upN 5 1 96)⟩,#[(0,64,1),(64,32,2),(96,32,0)],7⟩=some ((),TZ 7 1):=by kernel_rfl
theorem w7(O:Ora prog w A s κ it (2 ^ 7) (x30 7)):goW (E:=E) O (T0 7)=some ((),TZ 7 1):=two O (A20 (P12 O) (A20 (P22 O) (A20 (P32 O) (A20 (P42 O) (P52 O))))) (P62 O)
theorem P72(O:Ora prog w A s κ it (2 ^ 8) (x30 8)):(j30 (E:=E) O).body (T0 8) 0 0 (T0 8)=some (.yield 32,⟨⟨sN 5++range' 32 224⟩,#[(0,32,0)],7⟩):=by kernel_rfl
theorem P82(O:Ora prog w A s κ it (2 ^ 8) (x30 8)):(j30 (E:=E) O).body (T0 8) 1 32 ⟨⟨sN 5++range' 32 224⟩,#[(0,32,0)],7⟩=some (.yield 64,⟨⟨sN 5++(upN 5 1 32++range' 64 192)⟩,#[(0,32,3),(32,32,0)],7⟩):=by kernel_rfl
theorem P92(O:Ora prog w A s κ it (2 ^ 8) (x30 8)):(j30 (E:=E) O).body (T0 8) 2 64 ⟨⟨sN 5++(upN 5 1 32++range' 64 192)⟩,#[(0,32,3),(32,32,0)],7⟩=some (.yield 96,⟨⟨sN 6++(upN 5 1 64++range' 96 160)⟩,#[(0,64,2),(64,32,0)],7⟩):=by kernel_rfl
theorem Q02(O:Ora prog w A s κ it (2 ^ 8) (x30 8)):(j30 (E:=E) O).body (T0 8) 3 96 ⟨⟨sN 6++(upN 5 1 64++range' 96 160)⟩,#[(0,64,2),(64,32,0)],7⟩=some (.yield 128,⟨⟨sN 6++(upN 5 1 64++(upN 5 1 96++range' 128 128))⟩,#[(0,64,2),(64,32,3),(96,32,0)],7⟩):=by kernel_rfl
theorem Q12(O:Ora prog w A s κ it (2 ^ 8) (x30 8)):(j30 (E:=E) O).body (T0 8) 4 128 ⟨⟨sN 6++(upN 5 1 64++(upN 5 1 96++range' 128 128))⟩,#[(0,64,2),(64,32,3),(96,32,0)],7⟩=some (.yield 160,⟨⟨sN 7++(upN 5 1 128++range' 160 96)⟩,#[(0,128,1),(128,32,0)],7⟩):=by kernel_rfl
theorem Q22(O:Ora prog w A s κ it (2 ^ 8) (x30 8)):(j30 (E:=E) O).body (T0 8) 5 160 ⟨⟨sN 7++(upN 5 1 128++range' 160 96)⟩,#[(0,128,1),(128,32,0)],7⟩=some (.yield 192,⟨⟨sN 7++(upN 5 1 128++(upN 5 1 160++range' 192 64))⟩,#[(0,128,1),(128,32,3),(160,32,0)],7⟩):=by kernel_rfl
theorem Q32(O:Ora prog w A s κ it (2 ^ 8) (x30 8)):(j30 (E:=E) O).body (T0 8) 6 192 ⟨⟨sN 7++(upN 5 1 128++(upN 5 1 160++range' 192 64))⟩,#[(0,128,1),(128,32,3),(160,32,0)],7⟩=some (.yield 224,⟨⟨sN 7++(upN 6 1 128++(upN 5 1 192++range' 224 32))⟩,#[(0,128,1),(128,64,2),(192,32,0)],7⟩):=by kernel_rfl
theorem Q42(O:Ora prog w A s κ it (2 ^ 8) (x30 8)):(j30 (E:=E) O).body (T0 8) 7 224 ⟨⟨sN 7++(upN 6 1 128++(upN 5 1 192++range' 224 32))⟩,#[(0,128,1),(128,64,2),(192,32,0)],7⟩=some (.yield 256,⟨⟨sN 7++(upN 6 1 128++(upN 5 1 192++upN 5 1 224))⟩,#[(0,128,1),(128,64,2),(192,32,3),(224,32,0)],7⟩):=by kernel_rfl
theorem Q52(O:Ora prog w A s κ it (2 ^ 8) (x30 8)):v70 ((j30 (E:=E) O).body (T0 8)) 248 8 256 ⟨⟨sN 7++(upN 6 1 128++(upN 5 1 192++upN 5 1 224))⟩,#[(0,128,1),(128,64,2),(192,32,3),(224,32,0)],7⟩=some (256,⟨⟨sN 7++(upN 6 1 128++(upN 5 1 192++upN 5 1 224))⟩,#[(0,128,1),(128,64,2),(192,32,3),(224,32,0)],7⟩):=by kernel_rfl
theorem Q62(O:Ora prog w A s κ it (2 ^ 8) (x30 8)):(j30 (E:=E) O).tail (T0 8) 256 ⟨⟨sN 7++(upN 6 1 128++(upN 5 1 192++upN 5 1 224))⟩,#[(0,128,1),(128,64,2),(192,32,3),(224,32,0)],7⟩=some ((),TZ 8 1):=by kernel_rfl
theorem w8(O:Ora prog w A s κ it (2 ^ 8) (x30 8)):goW (E:=E) O (T0 8)=some ((),TZ 8 1):=two O (A20 (P72 O) (A20 (P82 O) (A20 (P92 O) (A20 (Q02 O) (A20 (Q12 O) (A20 (Q22 O) (A20 (Q32 O) (A20 (Q42 O) (Q52 O))))))))) (Q62 O)
theorem Q72{K:Nat}(h1:1≤K)(h8:K≤8)(O:Ora prog w A s κ it (2 ^ K) (x30 K)):∃ p,goW (E:=E) O (T0 K)=some ((),TZ K p):=by
 match K,h1,h8,O with
 |1,_,_,O=>exact⟨_,w1 O⟩
 |2,_,_,O=>exact⟨_,w2 O⟩
 |3,_,_,O=>exact⟨_,w3 O⟩
 |4,_,_,O=>exact⟨_,w4 O⟩
 |5,_,_,O=>exact⟨_,w5 O⟩
 |6,_,_,O=>exact⟨_,w6 O⟩
 |7,_,_,O=>exact⟨_,w7 O⟩
 |8,_,_,O=>exact⟨_,w8 O⟩
theorem runL{K:Nat}{vs:List Value}(h1:1≤K)(h8:K≤8)(hv:vs.length=2 ^ K)(O:Ora prog w A s κ (vs.toArray.zip vs.toArray) (2 ^ K) (x30 K)):MySort.B52 prog w A s vs (λp=>p=sN K) κ:=by
 refine⟨sN K,rfl,λE Q q=>?_⟩
 obtain⟨pp,e⟩:=Q72 (E:=E) h1 h8 O
 have r:=(j30 (E:=E) O).sim (T0 K) () (TZ K pp) e (λu st s'=>s'=s∧failedOf st=none∧arrOf st=((sN K).toArray).map (kas_item (vs.toArray.zip vs.toArray))) ⟨rfl,rfl,rfl⟩
 have est:SortSt.mk' κ (vs.toArray.zip vs.toArray) #[] 7 none=co κ (vs.toArray.zip vs.toArray) (T0 K):=by
  have e:=kas_range (vs.toArray.zip vs.toArray)
  rw[show(vs.toArray.zip vs.toArray).size=2 ^ K by simp[hv]] at e
  show _=SortSt.mk' κ ((toArray (range (2 ^ K))).map (kas_item (vs.toArray.zip vs.toArray))) #[] 7 none
  rw[e]
 rw[est]
 refine wpAny_mono r (λx s' h=>?_) λ_ _ e=>e
 obtain⟨rfl,h2,h3⟩:=h
 exact q x.2 h2 h3
end
end TS
namespace HT
open PySem PyProof.Rows
section
open PySem.SeqAt
open PySem.AutoSeq1 (wpAny_loadPart')
open PySem.MeetsSeq PySem.MeetsSeq2 PySem.MeetsSeq3
open MySort (g60)
def leB(ns ms:List Int):Bool:=!g60 ms ns
theorem J71(x y:Int)(r q:List Int):leB (x::r) (y::q)=if x=y then leB r q else decide (x≤y):=by
 show(!(if y=x then g60 q r else decide (y < x)))=_
 by_cases e:x=y
 ·rw[if_pos e,if_pos e.symm];rfl
 ·rw[if_neg e,if_neg (Ne.symm e)]
  by_cases l:y < x
  ·rw[decide_eq_true l,decide_eq_false (by omega)];rfl
  ·rw[decide_eq_false l,decide_eq_true (by omega)];rfl
theorem J81(A:Around)(s:Shared)(a:Int)(t:Tok)(c:Int)(u:Tok)(P:Program)(w:World)(E:Value→Shared→Prop)(Q:Value→Shared→Prop)(h:Q (.bool (decide (a≤c))) s):wpAny (model P w) A (richCompare .LtE (.int a t) (.int c u)) Q E s :=
 (PyProof.Rows.le_int h:wpAny (model P w) A (compareOp .LtE (.int a t) (.int c u)) Q E s)
theorem L40(l b:Addr)(i1 i2:Array Value)(n n2:Nat)(dd dd2:Option Addr)(sl sl2:Array (Option Value))(ns ms:List Int)(hi:IntsAre i1.toList ns)(hj:IntsAre i2.toList ms) :
  Meets (Builtin.«tuple.__le__» ⟨[.ref l,.ref b],[]⟩) (λ_ R s=>s.heap.get? l=some { cls:=.type "tuple",dict:=dd,data:=.seq i1 n,slots:=sl }∧s.heap.get? b=some { cls:=.type "tuple",dict:=dd2,data:=.seq i2 n2,slots:=sl2 }∧R (.ok (.ret (.bool (leB ns ms)))) s) :=
 .of_wp λP w A R s h=>by
  obtain⟨hp,g,d,tk,os⟩:=s;obtain⟨hl,hb,h⟩:=h
  have f2:=AutoSeq1.sub_tuple_tuple
  have z1:i1.size=ns.length:=by rw[← hi.length];simp
  have z2:i2.size=ms.length:=by rw[← hj.length];simp
  wp_walk using wpAny_loadPart' hl,wpAny_loadPart' hb,wpAny_forIn_list _ (λrest b s'=>b.1=none∧s'=⟨hp,g,d,tk,os⟩∧∃ (vs ws:List Value) (ns' ms':List Int),rest=vs.zip ws∧IntsAre vs ns'∧IntsAre ws ms'∧ns'.length + i2.size=ms'.length + i1.size∧R (.ok (.ret (.bool (leB ns' ms')))) ⟨hp,g,d,tk,os⟩) _
  case turn =>
   rintro ⟨y,x⟩ rest b s' ⟨hb',rfl,vs,ws,ns',ms',hz,hvi,hwi,hlen,hR⟩
   cases hvi with
   |nil=>rw[List.zip_nil_left] at hz;cases hz
   |cons a t hvi' =>
    cases hwi with
    |nil=>rw[List.zip_nil_right] at hz;cases hz
    |cons c u hwi' =>
     rw[zip_cons_cons] at hz;injection hz with hyx hrest;injection hyx with hy hx;subst hy hx
     rw[J71] at hR;simp only[length_cons] at hlen
     obtain⟨e,he,hiff⟩:=H51 A.in1 ⟨hp,g,d,tk,os⟩ a t c u
     refine wpAny_bind (he P w _ _ ?_)
     cases e with
     |true =>
      rw[if_pos (hiff.mp rfl)] at hR;wp_walk
      exact⟨rfl,rfl,_,_,_,_,hrest,hvi',hwi',by omega,hR⟩
     |false =>
      rw[if_neg (λq=>absurd (hiff.mpr q) Bool.false_ne_true)] at hR
      have hri:=J81 A.in1 ⟨hp,g,d,tk,os⟩ a t c u P w
      wp_walk using hri
      exact⟨_,rfl,by simpa using hR⟩
  case fin =>
   rintro ⟨b1,b2⟩ s' ⟨hb',rfl,vs,ws,ns',ms',hz,hvi,hwi,hlen,hR⟩
   simp only at hb';subst hb'
   have hv:leB ns' ms'=decide (i1.size≤i2.size):=by
    cases hvi with
    |nil =>
     cases hwi with
     |nil=>simp only[length_nil] at hlen;exact(decide_eq_true (by omega)).symm
     |cons c u hw=>simp only[length_nil,length_cons] at hlen;exact(decide_eq_true (by omega)).symm
    |cons a t hv =>
     cases hwi with
     |nil=>simp only[length_nil,length_cons] at hlen;exact(decide_eq_false (by omega)).symm
     |cons c u hw=>rw[zip_cons_cons] at hz;cases hz
   rw[hv] at hR;wp_walk
   exact⟨_,rfl,by simpa [tupleCompareSizes] using hR⟩
  case h=>exact⟨rfl,rfl,i1.toList,i2.toList,ns,ms,rfl,hi,hj,by omega,h⟩
end
section
variable {P:Program}{w:World}{A:Around}{E:Value→Shared→Prop}{s:Shared}
theorem n71(hl:IsTup s.heap l i1)(hb:IsTup s.heap b i2)(hi:IntsAre i1.toList ns)(hj:IntsAre i2.toList ms)
  (hu:A.units < cLine) (h:Q (.bool (leB ns ms)) s):wpAny (model P w) A (compareOp .LtE (.ref l) (.ref b)) Q E s:=by
 obtain⟨⟨cls,dd,data,sl⟩,ho,hc,n,hd⟩:=id hl;obtain⟨⟨cls2,dd2,data2,sl2⟩,ho2,hc2,n2,hd2⟩:=id hb
 simp only at hc hd hc2 hd2;subst hc hd hc2 hd2
 exact richCompare_meets_room (op:=.LtE) ⟨_,ho,rfl⟩ ⟨_,ho2,rfl⟩ PySem.F.slot_tuple_le PySem.F.entry_tuple_le (PySem.F.args_tuple_le_2 _ _) (L40 l b i1 i2 n n2 dd dd2 sl sl2 ns ms hi hj)
  ⟨ho,ho2,show Value.bool (leB ns ms)≠Value.notImplemented∧Q (.bool (leB ns ms)) s from⟨(λx=>nomatch x),h⟩⟩ hu
theorem X51{t b:Addr}{ws:List Value}{Q:Value→Shared→Prop}(ht:IsTup s.heap t #[])(hb:IsTup s.heap b ws.toArray)(h:Q (.ref b) s):wpAny (model P w) A (binaryOp .Add (.ref t) (.ref b)) Q E s:=by
 obtain⟨⟨cls,dd,data,sl⟩,ho,hc,n,hd⟩:=id ht;obtain⟨⟨cls2,dd2,data2,sl2⟩,ho2,hc2,n2,hd2⟩:=id hb
 simp only at hc hd hc2 hd2;subst hc hd hc2 hd2
 exact concat_meets ⟨_,ho,rfl⟩ ⟨_,ho2,rfl⟩ noFill_tuple_add seq_tuple_add PySem.F.slot_tuple_add PySem.F.entry_tuple_add (PySem.F.args_tuple_add_2 _ _) (tuple_addW0 t b #[] ws.toArray n n2 dd dd2 sl sl2 (by simp)) ⟨ho,ho2,h⟩
theorem T00:seqRepeat? (.type "tuple")=pure (some (.builtin "tuple.__mul__")):=by
 first | kernel_rfl | rfl | (unfold seqRepeat?;kernel_rfl)
theorem A30:fillsNumberSlot (.type "tuple") "mul"=pure false:=by
 first | kernel_rfl | rfl
theorem n81(a:Int)(t:Tok)(l:Addr)(xs:Array Value)(n:Nat)(dd:Option Addr)(sl:Array (Option Value)) :
  Meets (Builtin.«int.__rmul__» ⟨[.int a t,.ref l],[]⟩) (λ_ R s=>s.heap.get? l=some { cls:=.type "tuple",dict:=dd,data:=.seq xs n,slots:=sl }∧R (.ok (.ret Value.notImplemented)) s) :=
 .of_wp λP w A R s h=>by obtain⟨hp,g,d,tk,os⟩:=s;obtain⟨hl,h⟩:=h;wp_walk;exact⟨_,rfl,h⟩
theorem J91(l:Addr)(xs:Array Value)(k:Int)(u:Tok)(n:Nat)(dd:Option Addr)(sl:Array (Option Value))(h1:¬ (decide (k < -(2 ^ 63)) || decide (k ≥ 2 ^ 63))=true)(h2:(xs.isEmpty || k == 1)=true) :
  Meets (Builtin.«tuple.__mul__» ⟨[.ref l,.int k u],[]⟩) (λ_ R s=>s.heap.get? l=some { cls:=.type "tuple",dict:=dd,data:=.seq xs n,slots:=sl }∧R (.ok (.ret (.ref l))) s) :=
 .of_wp λP w A R s h=>by
  obtain⟨hp,g,d,tk,os⟩:=s;obtain⟨hl,h⟩:=h
  have f1:=AutoSeq1.idx_int
  wp_walk using AutoSeq1.wpAny_loadPart' hl
  simp only[h1,if_false]
  wp_walk using AutoSeq1.wpAny_loadPart' hl
  exact⟨_,rfl,h⟩
theorem mul_zero(l:Addr)(xs:Array Value)(k:Int)(u:Tok)(n:Nat)(dd:Option Addr)(sl:Array (Option Value))(h1:¬ (decide (k < -(2 ^ 63)) || decide (k ≥ 2 ^ 63))=true)(h2:¬ (xs.isEmpty || k == 1)=true)(h3:(decide (k≤0) || xs.isEmpty)=true) :
  Meets (Builtin.«tuple.__mul__» ⟨[.ref l,.int k u],[]⟩) (λ_ R s=>s.heap.get? l=some { cls:=.type "tuple",dict:=dd,data:=.seq xs n,slots:=sl }∧R (.ok (.ret (.ref s.heap.objs.size))) { s with heap:=s.heap.push { cls:=.type "tuple",data:=.seq #[] } }) :=
 .of_wp λP w A R s h=>by
  obtain⟨hp,g,d,tk,os⟩:=s;obtain⟨hl,h⟩:=h
  have f1:=AutoSeq1.idx_int
  wp_walk using AutoSeq1.wpAny_loadPart' hl
  simp only[h1,if_false]
  wp_walk using AutoSeq1.wpAny_loadPart' hl
  exact⟨_,rfl,h⟩
theorem K01(l:Addr)(xs:Array Value)(k:Int)(u:Tok)(n:Nat)(dd:Option Addr)(sl:Array (Option Value))(h1:¬ (decide (k < -(2 ^ 63)) || decide (k ≥ 2 ^ 63))=true)(h2:¬ (xs.isEmpty || k == 1)=true)(h3:¬ (decide (k≤0) || xs.isEmpty)=true)
  (h4:¬ (xs.size:Int) * k > (2 ^ 63 - 1) / 8) (h5:¬ tupleTooMany ((xs.size:Int) * k)=true) (h6:(foldl (λx y=>x++y) #[] (replicate k.toNat xs)).size≤sizeLine) :
  Meets (Builtin.«tuple.__mul__» ⟨[.ref l,.int k u],[]⟩) (λ_ R s=>s.heap.get? l=some { cls:=.type "tuple",dict:=dd,data:=.seq xs n,slots:=sl }∧R (.ok (.ret (.ref s.heap.objs.size))) { s with heap:=s.heap.push { cls:=.type "tuple",data:=.seq (foldl (λx y=>x++y) #[] (replicate k.toNat xs)) } }) :=
 .of_wp λP w A R s h=>by
  obtain⟨hp,g,d,tk,os⟩:=s;obtain⟨hl,h⟩:=h
  have f1:=AutoSeq1.idx_int
  wp_walk using AutoSeq1.wpAny_loadPart' hl
  simp only[h1,if_false]
  wp_walk using AutoSeq1.wpAny_loadPart' hl
  simp only[h4,h5,if_false]
  refine wpAny_bind (m:=tupleExact _) (wpAny_newObj_type (wpAny_pure ?_) h6)
  exact⟨_,rfl,h⟩
end
theorem v80(f:α→Option β)(g:α→β):∀ (l:List α),(∀ k∈l,f k=some (g k))→l.filterMap f=l.map g
 |[],_=>rfl
 |x::r,h=>by rw[filterMap_cons,h x mem_cons_self,map_cons,v80 f g r λk hk=>h k (mem_cons_of_mem _ hk)]
section
variable {P:Program}{w:World}{A:Around}{E:Value→Shared→Prop}{s:Shared}
theorem t30{t sl:Addr}{xs:Array Value}{vl vu:Value}{lo hi:Option Int}{Q:Value→Shared→Prop}(ht:IsTup s.heap t xs)(hs:s.heap.IsSliceOf sl vl vu .none)(pl:IsPart vl lo)(pu:IsPart vu hi)
  (hw:sIx xs.size 0 lo=0∧sIx xs.size xs.size hi=xs.size) (h:Q (.ref t) s):wpAny (model P w) A (getItem (.ref t) (.ref sl)) Q E s:=by
 obtain⟨os,hos,hcs,hds⟩:=id hs
 have hTs:s.TypeIs (.ref sl) "slice":=⟨os,hos,hcs⟩
 unfold getItem;try with_reducible refine wpAny_holding ?_
 first | refine wpAny_bind (wpAny_pure ?_) | skip
 refine wpAny_bind (wpAny_sequenceKey ht.typeIs (by decide) ?_);refine wpAny_bind (wpAny_callSpecial?_slot (name:=Str.ofString "__getitem__") ht.typeIs PyProof.Rows.slot_tuple_getitem (wpAny_call_entry PyProof.Rows.slot_tuple_getitem ht.typeIs entry_tuple_getitem ?_ (args_tuple_getitem _ _)))
 show wpAny _ _ (tupleItemsOf (.ref t) >>= _) _ _ s;refine wpAny_bind (tupleItemsOf_ ht (wpAny_bind (wpAny_typeOf hTs ?_)))
 rw[if_pos (by decide)];refine wpAny_bind (n20 hs pl pu ?_)
 rw[hw.1,hw.2]
 show wpAny _ _ (if (((0:Nat):Int) == 0&&(1:Int) == 1&&(xs.size - 0) == xs.size)=true then _ else _) _ _ s
 rw[if_pos (by simp)]
 refine wpAny_bind (m:=tupleIsExact _) ?_
 unfold tupleIsExact
 refine wpAny_bind (wpAny_typeOf ht.typeIs (wpAny_pure ?_))
 rw[if_pos (by decide)]
 first
  |exact wpAny_bind (wpAny_rule (wpAny_pure ⟨_,rfl,wpAny_pure h⟩))
  |exact wpAny_bind (wpAny_rule (wpAny_bind (wpAny_pure (wpAny_pure ⟨_,rfl,wpAny_pure h⟩))))
theorem x70{t sl:Addr}{xs:List Value}{u:Tok}{Q:Value→Shared→Prop}(ht:IsTup s.heap t xs.toArray)(hs:s.heap.IsSliceOf sl .none .none (.int (-1) u))
  (h:Q (.ref s.heap.objs.size) { s with heap:=s.heap.push { cls:=.type "tuple",data:=.seq xs.reverse.toArray } }) (hz:xs.length≤sizeLine):wpAny (model P w) A (getItem (.ref t) (.ref sl)) Q E s:=by
 obtain⟨os,hos,hcs,hds⟩:=id hs
 have hTs:s.TypeIs (.ref sl) "slice":=⟨os,hos,hcs⟩
 unfold getItem;try with_reducible refine wpAny_holding ?_
 first | refine wpAny_bind (wpAny_pure ?_) | skip
 refine wpAny_bind (wpAny_sequenceKey ht.typeIs (by decide) ?_);refine wpAny_bind (wpAny_callSpecial?_slot (name:=Str.ofString "__getitem__") ht.typeIs PyProof.Rows.slot_tuple_getitem (wpAny_call_entry PyProof.Rows.slot_tuple_getitem ht.typeIs entry_tuple_getitem ?_ (args_tuple_getitem _ _)))
 show wpAny _ _ (tupleItemsOf (.ref t) >>= _) _ _ s;refine wpAny_bind (tupleItemsOf_ ht (wpAny_bind (wpAny_typeOf hTs ?_)))
 rw[if_pos (by decide)]
 have app:∀ {R:Int × Int × Nat→Shared→Prop},R ((xs.length:Int) - 1,-1,xs.length) s→wpAny (model P w) A.in1 (sliceApplied (.ref sl) (pure (xs.toArray.size:Int))) R E s:=λ{R} q=>by
  unfold sliceApplied sliceFields
  refine wpAny_bind (wpAny_bind (wpAny_field hos hds (x:=.none) rfl (wpAny_bind (wpAny_field hos hds (x:=.none) rfl (wpAny_bind (wpAny_field hos hds (x:=.int (-1) u) rfl (wpAny_pure ?_)))))))
  refine wpAny_bind (slicePart_int ?_)
  show wpAny _ _ (if ((-1:Int) == 0)=true then _ else _) _ _ s
  rw[if_neg (by decide)]
  refine wpAny_bind (slicePart_none (wpAny_bind (slicePart_none (wpAny_bind (wpAny_pure ?_)))))
  have e1:sliceAdjust none none (-1) (xs.toArray.size:Int)=((xs.length:Int) - 1,-1):=by simp[sliceAdjust]
  have e2:slicePlaces ((xs.length:Int) - 1) (-1) (-1)=xs.length:=by
   unfold slicePlaces
   rw[if_neg (by decide)]
   split
   ·simp only[Int.neg_neg,Int.ediv_one];omega
   ·omega
  show wpAny _ _ (match sliceAdjust none none (-1) (xs.toArray.size:Int) with | (lo,hi)=>pure (lo,(-1:Int),slicePlaces lo hi (-1))) _ _ s
  rw[e1]
  show wpAny _ _ (pure ((xs.length:Int) - 1,(-1:Int),slicePlaces ((xs.length:Int) - 1) (-1) (-1))) _ _ s
  rw[e2]
  exact wpAny_pure q
 refine wpAny_bind (app ?_)
 show wpAny _ _ (if (((xs.length:Int) - 1) == 0&&(-1:Int) == 1&&xs.length == xs.toArray.size)=true then _ else _) _ _ s
 rw[if_neg (by simp)]
 have pick:((range xs.length).filterMap λ(k:Nat)=>xs.toArray[((xs.length:Int) - 1 + (k:Int) * -1).toNat]?)=xs.reverse:=by
  refine List.ext_getElem? λi=>?_
  have hall:∀ k∈range xs.length,xs.toArray[((xs.length:Int) - 1 + (k:Int) * -1).toNat]?=some (xs.getD (xs.length - 1 - k) Value.none):=λk hk=>by
   have hk':k < xs.length:=by simpa using hk
   have e:((xs.length:Int) - 1 + (k:Int) * -1).toNat=xs.length - 1 - k:=by omega
   rw[e]
   have:xs.length - 1 - k < xs.length:=by omega
   simp[this]
  rw[v80 _ _ _ hall,List.getElem?_map]
  by_cases hi:i < xs.length
  ·have h2:xs.length - 1 - i < xs.length:=by omega
   rw[List.getElem?_range hi,List.getElem?_reverse hi]
   simp[h2]
  ·rw[List.getElem?_eq_none (by simpa using hi),List.getElem?_eq_none (by simpa using hi)];rfl
 rw[pick]
 have hsz:sizeOk (.seq xs.reverse.toArray):=by show xs.reverse.toArray.size≤sizeLine;rw[size_toArray,List.length_reverse];exact hz
 first
  |exact wpAny_bind (m:=tupleExact _) (wpAny_newObj_type (wpAny_pure ⟨_,rfl,wpAny_pure h⟩) hsz)
  |exact wpAny_bind (m:=tupleExact _) (wpAny_newObj_type (wpAny_bind (wpAny_pure (wpAny_pure ⟨_,rfl,wpAny_pure h⟩))) hsz)
  |exact wpAny_bind (wpAny_bind (m:=tupleExact _) (wpAny_newObj_type (wpAny_pure (wpAny_pure ⟨_,rfl,wpAny_pure h⟩)) hsz))
  |exact wpAny_bind (wpAny_bind (m:=tupleExact _) (wpAny_newObj_type (wpAny_pure ⟨_,rfl,wpAny_pure h⟩) hsz))
end
end HT
namespace L2
open PySem PySem.Spec PyProof.Rows
theorem a30.sqT{K:PySem.W.Frag}{H H':Hp}{a:Addr}{xs:List V}(e:a30 H H')(h:SqT K H a xs):SqT K H' a xs:=by
 rcases h with (h | ⟨o,h⟩) | h
 ·exact .inl (.inl (e _ _ h))
 ·exact .inl (.inr ⟨o,e _ _ h⟩)
 ·exact .inr h
theorem a30.new(o:HO)(n:H p=none):a30 H (upd H p o):=λb u e=>by rw[a50 (b60 e n)];exact e
def K11(K:PySem.W.Frag)(H:Hp)(zs:List V)(Q:VK):Prop:=∀ p H',a30 H H'→SqT K H' p zs→Q (.ref p) H'
section
variable {X:Cx}{pins:List (Addr × Obj)}{σ:St}{H:Hp}{s:Shared}
theorem K11.here(q:K11 X.K H zs Q)(I:Inv X pins σ H s)(h:SqT X.K H a zs):EP X pins σ Q (.ref a) s:=⟨.ref a,H,I,rfl,q a H (a30.refl H) h⟩
theorem K11.new(q:K11 X.K H zs Q)(I:Inv X pins σ H s)(r:Vals zs us)(hz:zs.length≤sizeLine) :
  EP X pins σ Q (.ref s.heap.objs.size) { s with heap:=s.heap.push { cls:=.type "tuple",data:=.seq us.toArray } } :=
 have hn:H s.heap.objs.size=none:=I.hok.fresh (Nat.le_refl _)
 ⟨.ref s.heap.objs.size,_,I.laid (t':=s.toks) (o:=.tup zs) (λb ob q=>Heap.get?_push_of_some _ q) (Nat.le_refl _) ⟨hz,_,r,IsTup.new _ _⟩,rfl,q _ _ (a30.new _ hn) (SqT.of c70)⟩
end
section
variable {X:Cx}
def Q82(K:PySem.W.Frag):R2:=λx y H Q=>∃ a b ns ms,x=.ref a∧y=.ref b∧SqT K H a (ns.map V.int)∧SqT K H b (ms.map V.int)∧Q (.bl (HT.leB ns ms)) H
theorem n02(hu:X.A.units < cLine):OpR X (compareOp .LtE) (Q82 X.K):=by
 intro pins s σ H x y v u Q I rx ry h
 obtain⟨a,b,ns,ms,rfl,rfl,ha,hb,q⟩:=h
 cases rx;cases ry
 obtain⟨v1,r1,p1,_⟩:=I.tuple ha
 obtain⟨v2,r2,p2,_⟩:=I.tuple hb
 exact HT.n71 p1 p2 (show IntsAre v1.toArray.toList ns from intsAre_of r1) (show IntsAre v2.toArray.toList ms from intsAre_of r2) hu ⟨.bl (HT.leB ns ms),H,I,rfl,q⟩
def C02(K:PySem.W.Frag):R2:=λx y H Q=>∃ a b xs ys,x=.ref a∧y=.ref b∧SqT K H a xs∧SqT K H b ys∧xs.length + ys.length≤sizeLine∧K11 K H (xs++ys) Q
theorem X61:OpR X (binaryOp .Add) (C02 X.K):=by
 intro pins s σ H x y v u Q I rx ry h
 obtain⟨a,b,xs,ys,rfl,rfl,ha,hb,hz,q⟩:=h
 cases rx;cases ry
 obtain⟨v1,r1,p1,_⟩:=I.tuple ha
 obtain⟨v2,r2,p2,_⟩:=I.tuple hb
 by_cases hx:xs=[]
 ·subst hx
  have e:=r1.K20.mpr rfl
  subst e
  exact HT.X51 p1 p2 (q.here I hb)
 ·refine HT.V41 p1 p2 (λz=>hx (r1.K20.mp z)) (λz=>?_) (λz=>q.new I (r1.append r2) (by rw[length_append];exact hz)) (by rw[← r1.length,← r2.length];exact hz)
  have e:=r2.K20.mp z
  subst e
  rw[append_nil] at q
  exact q.here I ha
def C12(K:PySem.W.Frag):R2:=λx y H Q=>∃ a k xs,x=.ref a∧y=.int k∧SqT K H a xs∧0≤k∧k < 1000000∧k.toNat * xs.length≤sizeLine∧K11 K H (replicate k.toNat xs).flatten Q
theorem X71:OpR X (binaryOp .Mult) (C12 X.K):=by
 intro pins s σ H x y v u Q I rx ry h
 obtain⟨a,k,xs,rfl,rfl,ha,hk,hk2,hz,q⟩:=h
 cases rx
 obtain⟨t,rfl⟩:=ry
 obtain⟨v1,r1,p1,_⟩:=I.tuple ha
 have hl:=r1.length
 obtain⟨⟨cls,dd,data,sl⟩,ho,hc,n,hd⟩:=id p1
 simp only at hc hd;subst hc hd
 have h1:¬ (decide (k < -(2 ^ 63)) || decide (k ≥ 2 ^ 63))=true:=by simp;omega
 refine wpAny_binaryOp_repeat_ref (T:="tuple") (U:="int") (by decide) ⟨_,ho,rfl⟩ (λs'=>typeIs_int s' k t) HT.A30 F.fills_int_mul F.slot_int_rmul HT.T00 F.slot_int_index.lookup
  (call_meets F.slot_int_rmul (typeIs_int s k t) F.entry_int_rmul (F.args_int_rmul_2 _ _) (HT.n81 k t a v1.toArray n dd sl) ⟨ho,rfl,⟨_,ho,rfl⟩,?_⟩)
 by_cases hx:v1=[]∨k=1
 ·refine call_meets F.slot_tuple_mul ⟨_,ho,rfl⟩ F.entry_tuple_mul (F.args_tuple_mul_2 _ _) (HT.J91 a v1.toArray k t n dd sl h1 (by rcases hx with hx | hx <;> simp[hx])) ⟨ho,?_⟩
  have e2:(replicate k.toNat xs).flatten=xs:=by
   rcases hx with hx | hx
   ·rw[r1.K20.mp hx];simp
   ·rw[hx];simp
  rw[e2] at q
  exact q.here I ha
 ·have hv:v1≠[]:=λz=>hx (.inl z)
  have h2:¬ (v1.toArray.isEmpty || k == 1)=true:=by simp[hv];exact λz=>hx (.inr z)
  by_cases hk0:k=0
  ·refine call_meets F.slot_tuple_mul ⟨_,ho,rfl⟩ F.entry_tuple_mul (F.args_tuple_mul_2 _ _) (HT.mul_zero a v1.toArray k t n dd sl h1 h2 (by simp[hk0])) ⟨ho,?_⟩
   rw[show(replicate k.toNat xs).flatten=[] by rw[hk0];rfl] at q
   exact q.new I .nil (zero_le _)
  have hpos:0 < v1.length:=List.length_pos_iff.mpr hv
  have hfl:foldl (λx y=>x++y) #[] (replicate k.toNat v1.toArray)=(replicate k.toNat v1).flatten.toArray:=by
   have:=foldl_rep v1 k.toNat []
   rw[nil_append] at this
   exact this
  have hsz:v1.length * k.toNat≤sizeLine:=by rw[← hl,Nat.mul_comm];exact hz
  have hcast:((v1.toArray.size:Nat):Int) * k=((v1.length * k.toNat:Nat):Int):=by rw[size_toArray,Int.natCast_mul,toNat_of_nonneg (by omega)]
  have hline:(sizeLine:Nat)≤(2 ^ 63 - 1) / 8:=by decide
  refine call_meets F.slot_tuple_mul ⟨_,ho,rfl⟩ F.entry_tuple_mul (F.args_tuple_mul_2 _ _) (HT.K01 a v1.toArray k t n dd sl h1 h2 (by simp[hv];omega) (by rw[hcast];generalize v1.length * k.toNat=m at hsz;omega) (by rw[hcast];generalize v1.length * k.toNat=m at hsz;unfold tupleTooMany;intro z;have z':=of_decide_eq_true z;omega)
   (by rw[hfl,size_toArray,len_rep,Nat.mul_comm];exact hsz)) ⟨ho,?_⟩
  rw[hfl]
  exact q.new I (r1.rep k.toNat) (by rw[len_rep];exact hz)
def Q92(K:PySem.W.Frag):V→Option Int→Option Int→Hp→VK→Prop:=λx lo hi H Q=>∃ a xs,x=.ref a∧SqT K H a xs∧K11 K H (H81 xs lo hi) Q
theorem X81:SlR X (Q92 X.K):=by
 intro pins s σ H x v vl vu lo hi sl Q I rx hs pl pu h
 obtain⟨a,xs,rfl,hx,q⟩:=h
 cases rx
 obtain⟨its,r,ht,hz⟩:=I.tuple hx
 have hlen:its.toArray.size=xs.length:=by rw[size_toArray];exact r.length.symm
 refine⟨"tuple",_,PyProof.Rows.slot_tuple_getitem.lookup,ht.typeIs,?_⟩
 by_cases hw:HT.sIx xs.length 0 lo=0∧HT.sIx xs.length xs.length hi=xs.length
 ·refine HT.t30 ht hs pl pu (by rw[hlen];exact hw) ?_
  have e:H81 xs lo hi=xs:=by unfold H81;rw[hw.1,hw.2];simp
  rw[e] at q
  exact q.here I hx
 ·refine HT.x60 ht hs pl pu (by rw[hlen];exact hw) ?_ (by rw[hlen];exact hz)
  rw[hlen]
  exact q.new I ((r.drop (HT.sIx xs.length 0 lo)).take (HT.sIx xs.length xs.length hi - HT.sIx xs.length 0 lo)) (Nat.le_trans (C90 xs lo hi) hz)
def x92(K:PySem.W.Frag)(te ts:TE):TE:=λσ H Q=>te σ H λx H1=>ts σ H1 λy H2=>y=.int (-1)∧((∃ a xs,x=.ref a∧SqT K H2 a xs∧K11 K H2 xs.reverse Q)∨∃ a xs,x=.ref a∧SqL K H2 a xs∧∀ p,H2 p=none→Q (.ref p) (upd H2 p (.lst xs.reverse)))
theorem K62{e st:Expr}{te ts:TE}{p2 pos:Pos}(he:PE X e te)(hst:PE X st ts):PE X (.Subscript e (.Slice none none (some st) p2) pos) (x92 X.K te ts):=by
 intro pins s σ H Q I h
 refine Subscript_ (thn (he pins s σ H _ I h) λv s1 ⟨x,H1,I1,r1,q1⟩=>?_)
 refine wpAny_Slice ?_
 rw[evalPart_none]
 refine wpAny_pure (wpAny_pure ?_)
 rw[evalPart_some]
 refine thn (hst pins s1 σ H1 _ I1 q1) λw' s2 ⟨y,H2,I2,r2,q2⟩=>?_
 obtain⟨rfl,q2⟩:=q2
 obtain⟨t,rfl⟩:=r2
 have I4:Inv X pins σ H2 { s2 with heap:=s2.heap.push { cls:=.type "slice",data:=.fields #[.none,.none,.int (-1) t] } }:=I2.kept (t':=s2.toks) λb ob q=>Heap.get?_push_of_some _ q
 show wpAny (model X.prog X.w) X.A (subscriptTail e (.Slice none none (some st) p2) v (.ref s2.heap.objs.size)) (EP X pins σ Q) X.xe { s2 with heap:=s2.heap.push { cls:=.type "slice",data:=.fields #[.none,.none,.int (-1) t] } }
 rcases q2 with ⟨a,xs,rfl,hq,q⟩ | ⟨a,xs,rfl,hq,q⟩
 ·cases r1
  obtain⟨its,r,ht,hz⟩:=I4.tuple hq
  exact tail_any (ops:=[.ref a,.ref s2.heap.objs.size]) ht.typeIs PyProof.Rows.slot_tuple_getitem.lookup (HT.x70 ht (Heap.IsSliceOf.new ..) (q.new I4 r.reverse (by rw[List.length_reverse];exact hz)) (by rw[← r.length];exact hz)) (by with_unfolding_all rfl)
 ·cases r1
  obtain⟨its,r,ht,hz⟩:=I4.list hq
  have hlen:=r.length
  refine tail_any (ops:=[.ref a,.ref s2.heap.objs.size]) ht.isList.typeIs slot_list_getitem.lookup (wpAny_getItem_list_slice ht.isList (Heap.IsSliceOf.new ..) .none .none (.int (-1) t) (by simp) ?_ (by rw[size_toArray] <;> omega)) (by with_unfolding_all rfl)
  rw[PySem.W.krv_pick]
  refine⟨.ref _,_,I4.laid (t':=s2.toks) (o:=.lst xs.reverse) (λb ob q=>Heap.get?_push_of_some _ q) (Nat.le_refl _) ?_,rfl,q _ (I4.hok.fresh (Nat.le_refl _))⟩
  exact⟨by rw[List.length_reverse];exact hz,its.reverse,0,r.reverse,Heap.get?_push_size _ rfl⟩
theorem n12:OpR X (compareOp .Is) (λx y H Q=>∃ b c,x=.bl b∧y=.bl c∧Q (.bl (b == c)) H):=by
 intro pins s σ H x y v u Q I rx ry h
 obtain⟨b,c,rfl,rfl,q⟩:=h
 cases rx;cases ry
 exact is_bool (g41 I q rfl)
theorem u11:OpR X (compareOp .IsNot) (λx y H Q=>∃ b c,x=.bl b∧y=.bl c∧Q (.bl (b != c)) H):=by
 intro pins s σ H x y v u Q I rx ry h
 obtain⟨b,c,rfl,rfl,q⟩:=h
 cases rx;cases ry
 exact isnot_bool (g41 I q rfl)
theorem Inv.big(I:Inv X pins σ H s):sysModules < s.heap.objs.size:=by
 have h:mainGlobals < s.heap.objs.size:=(I.mod.glob.keeps I.bk).lt
 exact Nat.lt_trans (by decide) h
def C22:TE:=λ_ H Q=>∀ p,H p=none→Q (.ref p) (upd H p (.dK []))
theorem X91{pos:Pos}:PE X (.Dict [] [] pos) C22:=λpins s σ H Q I h =>
 wpAny_Dict_empty ⟨.ref s.heap.objs.size,_,I.laid (a:=s.heap.objs.size) (o:=.dK []) (t':=s.toks) (λ_ _ q=>Heap.get?_push_of_some _ q) (Nat.le_refl _) ⟨zero_le _,beq_eq_false_iff_ne.mpr (Ne.symm (Nat.ne_of_lt I.big)),[],.nil,Heap.DictOf.new _⟩,rfl,h _ (I.hok.fresh (Nat.le_refl _))⟩
end
end L2
namespace MySort
open PySem PySem.W PyProof.Rows
section
variable {P:Program}{w:World}{A:Around}{E:Value→Shared→Prop}{s:Shared}
theorem a41(ho:s.heap.get? l=some o)(hc:o.cls=.type "list"∨o.cls=.type "tuple")(hd:o.data=.seq vs.toArray n)
  (h:Q vs { s with heap:=(s.heap.push (seqObj "list" #[] 0)).update s.heap.objs.size (Obj.mapSeq (·++vs.toArray)) }) (hz:vs.length≤sizeLine):wpAny (model P w) A (collect (.ref l)) Q E s:=by
 unfold collect
 refine wpAny_bind (wpAny_runValue (codeAny_builtin entry_proto_collect' ?_));show wpAny _ _ (do again (.builtin "list.__iadd__" ⟨[← newList [],.ref l],[]⟩)) _ _ s
 refine wpAny_bind (wpAny_newList (wpAny_pure ⟨Code.quiet_builtin _ (by decide +kernel),codeAny_builtin entry_list_iadd' ?_⟩))
 show wpAny _ _ (Builtin.List.listExtendWith (.ref s.heap.objs.size) (.ref l) (.ref s.heap.objs.size)) _ _ { s with heap:=s.heap.push (seqObj "list" #[] 0) }
 unfold Builtin.List.listExtendWith
 have ho':(s.heap.push (seqObj "list" #[] 0)).get? l=some o:=Heap.get?_push_of_some _ ho
 have fin:wpAny (model P w) A (do
   let o ← load s.heap.objs.size
   match o.data with
   |.seq xs _=>pure xs.toList
   |_=>unsupported "internal:collect") Q E { s with heap:=(s.heap.push (seqObj "list" #[] 0)).update s.heap.objs.size (Obj.mapSeq (·++vs.toArray)) }:=by
  refine wpAny_bind (wpAny_load (get?_update_seq (Heap.get?_push_size _ rfl) _) ?_)
  show wpAny _ _ (pure ((#[]:Array Value)++vs.toArray).toList) Q E _
  rw[show((#[]:Array Value)++vs.toArray).toList=vs by simp];exact wpAny_pure h
 rcases hc with hc | hc
 ·refine wpAny_bind (wpAny_typeOf (T:="list") ⟨o,ho',hc⟩ ?_);rw[if_pos (by rw[show(Value.type "list" == Value.type "list")=true by rfl];simp)]
  refine wpAny_bind (listItems_at ho' hd (wpAny_bind (listItems_at (xs:=#[]) (n:=0) (Heap.get?_push_size _ rfl) rfl ?_)));rw[if_neg (by simp)]
  exact wpAny_bind (listUpdate_at (xs:=#[]) (n:=0) (Heap.get?_push_size _ rfl) rfl (wpAny_pure fin) (zero_le _) (by show(#[]++vs.toArray).size≤sizeLine + 1;simp only[Array.size_append,size_toArray,length_nil];omega))
 ·refine wpAny_bind (wpAny_typeOf (T:="tuple") ⟨o,ho',hc⟩ ?_);rw[if_pos (by rw[show(Value.type "tuple" == Value.type "tuple")=true by rfl];simp)]
  refine wpAny_bind (listItems_at ho' hd (wpAny_bind (listItems_at (xs:=#[]) (n:=0) (Heap.get?_push_size _ rfl) rfl ?_)));rw[if_neg (by simp)]
  exact wpAny_bind (listUpdate_at (xs:=#[]) (n:=0) (Heap.get?_push_size _ rfl) rfl (wpAny_pure fin) (zero_le _) (by show(#[]++vs.toArray).size≤sizeLine + 1;simp only[Array.size_append,size_toArray,length_nil];omega))
theorem u21(ho:s.heap.get? l=some o)(hc:o.cls=.type "list"∨o.cls=.type "tuple")(hd:o.data=.seq vs.toArray n)
  (hk:∀ h',t81 s.heap h'→h42 P w A.in1.in1 { s with heap:=h' } vs Pr kd)
  (h:∀ (p:List Nat) (h':Heap) (c:Nat),Pr p→(∀ b o,s.heap.get? b=some o→h'.get? b=some o)→h'.get? (s.heap.objs.size + 1)=some (seqObj "list" (p.map λi=>vs.getD i Value.none).toArray c)→Q (.ref (s.heap.objs.size + 1)) { s with heap:=h' }) :
  wpAny (model P w) A (call (.builtin "sorted") [.ref l]) Q E s:=by
 have h64:=(hk s.heap λ_ _ e _=>e).len
 refine Calls.call_function_entry kind_sorted plain_sorted entry_sorted (args_sorted1 _) ?_;unfold Builtin.«sorted»
 refine wpAny_bind (m:=checkCount "sorted" 1 1 _) (wpAny_pure ?_);refine wpAny_bind (a41 ho hc hd ?_ (by rw[sizeLine_eq];omega));refine wpAny_bind (wpAny_newList ?_ (by rw[sizeLine_eq];omega))
 have hsz:((s.heap.push (seqObj "list" #[] 0)).update s.heap.objs.size (Obj.mapSeq (·++vs.toArray))).objs.size=s.heap.objs.size + 1:=by rw[Heap.size_update,size_push']
 have hoL:(((s.heap.push (seqObj "list" #[] 0)).update s.heap.objs.size (Obj.mapSeq (·++vs.toArray))).push (seqObj "list" vs.toArray 0)).get? (s.heap.objs.size + 1)=some (seqObj "list" vs.toArray 0):=by rw[← hsz];exact Heap.get?_push_size _ rfl
 have keep:∀ b o,s.heap.get? b=some o→(((s.heap.push (seqObj "list" #[] 0)).update s.heap.objs.size (Obj.mapSeq (·++vs.toArray))).push (seqObj "list" vs.toArray 0)).get? b=some o:=λb o q=>by
  have hlt:b < s.heap.objs.size:=lt_size q
  rw[Heap.get?_push_ne _ _ _ (by rw[hsz];exact Nat.ne_of_lt (lt_succ_of_lt hlt)),Heap.get?_update_ne _ _ _ _ (Nat.ne_of_lt hlt),Heap.get?_push_ne _ _ _ (Nat.ne_of_lt hlt)];exact q
 show wpAny _ _ _ _ _ { s with heap:=((s.heap.push (seqObj "list" #[] 0)).update s.heap.objs.size (Obj.mapSeq (·++vs.toArray))).push (seqObj "list" vs.toArray 0) }
 rw[hsz]
 refine wpAny_bind (wpAny_holding (wpAny_call_entry slot_list_sort ⟨_,hoL,rfl⟩ entry_list_sort (h31 hoL (λh' kp=>hk h' λb o e hc=>kp b o (keep b o e) hc) λp h' c hp kp hD=>⟨_,rfl,wpAny_pure ⟨_,rfl,h p h' c hp (λb o e=>kp b o (Nat.ne_of_lt (lt_succ_of_lt (lt_size e))) (keep b o e)) hD⟩⟩) (args_list_sort _)))
end
end MySort
namespace L2
open PySem PySem.Spec PyProof.Rows
open MySort (sortedBy)
section
variable {X:Cx}
def Y01(X:Cx)(H:Hp)(xs:List V)(Pr:List Nat→Prop):Prop:=∀ (pins:List (Addr × Obj)) (σ:St) (s:Shared) (us:List Value),Inv X pins σ H s→Vals xs us→∃ kd,∀ h',MySort.t81 s.heap h'→MySort.h42 X.prog X.w X.A.in1.in1 { s with heap:=h' } us Pr kd
theorem z00:f80 X (.builtin "sorted") (λargs H Q=>∃ a xs,∃ Pr:List Nat→Prop,args=[.ref a]∧(SqL X.K H a xs∨SqT X.K H a xs)∧Y01 X H xs Pr∧(∀ p,Pr p→∀ i∈p,i < xs.length)∧∀ p l,Pr p→H l=none→Q (.ref l) (upd H l (.lst (p.map λi=>xs.getD i .non)))):=by
 intro pins s σ H args us Q I r h
 obtain⟨a,xs,Pr,rfl,hq,hk,hpr,q⟩:=h
 obtain⟨u,rfl,rx⟩:=vals1 r
 cases rx
 have go:∀ (its:List Value) (o:Obj) (n:Nat),Vals xs its→s.heap.get? a=some o→(o.cls=.type "list"∨o.cls=.type "tuple")→o.data=.seq its.toArray n→wpAny (model X.prog X.w) X.A (call (.builtin "sorted") [.ref a]) (EP X pins σ Q) X.xe s:=λits o n rv ho hc hd=>by
  obtain⟨kd,kw⟩:=hk pins σ s its I rv
  have k0:=kw s.heap λ_ _ e _=>e
  refine MySort.u21 ho hc hd kw λp h' c hp kp hD=>?_
  have hn:H (s.heap.objs.size + 1)=none:=I.hok.fresh (le_add_right _ 1)
  have hlen:(p.map λi=>xs.getD i .non).length≤sizeLine:=by rw[length_map,k0.all p hp,sizeLine_eq];have:=k0.len;omega
  have rv':Vals (p.map λi=>xs.getD i .non) (p.map λi=>its.getD i Value.none):=by
   have hall:=hpr p hp
   clear hp hD hlen
   induction p with
   |nil=>exact .nil
   |cons i r ih =>
    refine .cons ?_ (ih λj hj=>hall j (mem_cons_of_mem _ hj))
    have hi:=hall i mem_cons_self
    obtain⟨u,hu,ru⟩:=rv.get (i:=i) (x:=xs[i]) (by simp[hi])
    have e1:xs.getD i V.non=xs[i]:=by simp[hi]
    have e2:its.getD i Value.none=u:=by rw[List.getD_eq_getElem?_getD,hu];rfl
    show RelV (xs.getD i V.non) (its.getD i Value.none)
    rw[e1,e2];exact ru
  exact⟨.ref (s.heap.objs.size + 1),_,I.laid (t':=s.toks) kp (le_add_right _ 1) (show j20 X.prog X.w _ h' _ (.lst _) from⟨hlen,_,c,rv',hD⟩),rfl,q p _ hp hn⟩
 rcases hq with hq | hq
 ·obtain⟨its,rv,pl,_⟩:=I.list hq
  obtain⟨o,ho,hc,n,hd⟩:=pl.isList
  exact go its o n rv ho (.inl hc) hd
 ·obtain⟨its,rv,⟨o,ho,hc,n,hd⟩,_⟩:=I.tuple hq
  exact go its o n rv ho (.inr hc) hd
end
inductive D where
 |non | bl (b:Bool) | int (i:Int) | str (x:Str) | tup (ds:List D) | lst (ds:List D) | dct
def D.ty:D→String
 |.non=>"NoneType"
 |.bl _=>"bool"
 |.int _=>"int"
 |.str _=>"str"
 |.tup _=>"tuple"
 |.lst _=>"list"
 |.dct=>"dict"
mutual
def Has(K:PySem.W.Frag)(H:Hp):D→V→Prop
 |.non,v=>v=.non
 |.bl b,v=>v=.bl b
 |.int i,v=>v=.int i
 |.str x,v=>v=.str x
 |.tup ds,v=>∃ a xs,v=.ref a∧SqT K H a xs∧I10 K H ds xs
 |.lst ds,v=>∃ a xs,v=.ref a∧SqL K H a xs∧I10 K H ds xs
 |.dct,v=>∃ a kvs,v=.ref a∧H a=some (.dK kvs)
def I10(K:PySem.W.Frag)(H:Hp):List D→List V→Prop
 |[],xs=>xs=[]
 |d::ds,xs=>∃ x r,xs=x::r∧Has K H d x∧I10 K H ds r
end
def isB(T C:String):Bool:=T == C || (T == "bool"&&C == "int")
theorem Y11(K:PySem.W.Frag)(d:D):∀ C∈["int","bool","tuple","list","str"],PySem.W.kitOne K (.type d.ty) (.type C)=some (isB d.ty C):=by
 intro C hC
 simp only[mem_cons,not_mem_nil,or_false] at hC
 rcases hC with rfl | rfl | rfl | rfl | rfl <;> cases d <;> first | rfl | kernel_rfl | decide +kernel
section
variable {X:Cx}
theorem K21:f80 X (.builtin "isinstance") (λxs H Q=>∃ d x C,xs=[x,.ty C]∧Has X.K H d x∧C∈["int","bool","tuple","list","str"]∧Q (.bl (isB d.ty C)) H):=by
 intro pins s σ H xs us Q I r h
 obtain⟨d,x,C,rfl,hd,hC,q⟩:=h
 obtain⟨u,w',rfl,rx,rt⟩:=vals2 r
 cases (show w'=Value.type C from rt)
 have e:=Y11 X.K d C hC
 have fin:∀ tk,EP X pins σ Q (.bool (isB d.ty C)) { s with toks:=tk }:=λtk=>⟨.bl _,H,I.tok tk,rfl,q⟩
 cases d with
 |non=>unfold Has at hd;subst hd;cases rx;exact kia_one kitx_none I.kIn True.intro e (λz=>nomatch z) fin
 |bl b=>unfold Has at hd;subst hd;cases rx;exact kia_one kitx_bool I.kIn True.intro e (λz=>nomatch z) fin
 |int i=>unfold Has at hd;subst hd;obtain⟨t,rfl⟩:=rx;exact kia_one kitx_int I.kIn True.intro e (λz=>nomatch z) fin
 |str y=>unfold Has at hd;subst hd;obtain⟨t,rfl⟩:=rx;exact kia_one kitx_str I.kIn True.intro e (λz=>nomatch z) fin
 |tup ds =>
  unfold Has at hd
  obtain⟨a,ys,rfl,hq,_⟩:=hd
  cases rx
  obtain⟨its,_,⟨o,h1,h2,_⟩,_⟩:=I.tuple hq
  exact kia_one kitx_tuple I.kIn ⟨o,h1,h2⟩ e (λz=>nomatch z) fin
 |lst ds =>
  unfold Has at hd
  obtain⟨a,ys,rfl,hq,_⟩:=hd
  cases rx
  obtain⟨its,_,pl,_⟩:=I.list hq
  obtain⟨o,h1,h2,_⟩:=pl.isList
  exact kia_one kitx_list I.kIn ⟨o,h1,h2⟩ e (λz=>nomatch z) fin
 |dct =>
  unfold Has at hd
  obtain⟨a,kvs,rfl,hq⟩:=hd
  cases rx
  obtain⟨_,_,vs,_,p⟩:=(show j20 X.prog X.w H s.heap a (.dK kvs) from I.hok a _ hq)
  obtain⟨o,es,ep,h1,h2,_⟩:=p
  exact kia_one kitx_dict I.kIn ⟨o,h1,h2.1⟩ e (λz=>nomatch z) fin
end
def hide(st:Addr)(H:Hp):Hp:=λb=>if b=st then none else H b
theorem f10(st:Addr)(H:Hp):a30 (hide st H) H:=λb o e=>by
 unfold hide at e
 split at e
 ·cases e
 ·exact e
theorem D40{st:Addr}{H H':Hp}(e:∀ b o,b≠st→H b=some o→H' b=some o):a30 (hide st H) (hide st H'):=λb o h=>by
 unfold hide at h ⊢
 by_cases q:b=st
 ·rw[if_pos q] at h;cases h
 ·rw[if_neg q] at h ⊢;exact e b o q h
theorem L50{st b:Addr}{H:Hp}{o:HO}(h:H b=some o)(n:b≠st):hide st H b=some o:=by
 unfold hide;rw[if_neg n];exact h
end L2
namespace L2
open PySem PySem.Spec PyProof.Rows
theorem K31{σ:St}{H:Hp}{R:Bool→Hp→Prop}(h:R true H):I21 σ H R:=h
section
variable {X:Cx}
theorem n22(K:PySem.W.Frag)(d:D):kitAny K (.type d.ty) [.type "tuple",.type "list"]=some (isB d.ty "tuple" || isB d.ty "list"):=by
 have e1:=Y11 K d "tuple" (by simp)
 have e2:=Y11 K d "list" (by simp)
 unfold kitAny
 rw[e1]
 cases isB d.ty "tuple" with
 |true=>rfl
 |false =>
  show kitAny K (.type d.ty) [.type "list"]=_
  unfold kitAny
  rw[e2]
  cases isB d.ty "list" <;> rfl
theorem u31:f80 X (.builtin "isinstance") (λxs H Q=>∃ d x a,xs=[x,.ref a]∧Has X.K H d x∧SqT X.K H a [.ty "tuple",.ty "list"]∧Q (.bl (isB d.ty "tuple" || isB d.ty "list")) H):=by
 intro pins s σ H xs us Q I r h
 obtain⟨d,x,a,rfl,hd,hq,q⟩:=h
 obtain⟨u,w',rfl,rx,rt⟩:=vals2 r
 cases (show w'=Value.ref a from rt)
 obtain⟨its,rv,⟨⟨cls,dd,data,sl⟩,ho,hc,n,hdt⟩,_⟩:=I.tuple hq
 simp only at hc hdt;subst hc hdt
 have eits:its=[.type "tuple",.type "list"]:=by
  cases rv with
  |cons p r=>cases r with
   |cons p2 r2=>cases r2;rw[show _=Value.type "tuple" from p,show _=Value.type "list" from p2]
 subst eits
 have e:=n22 X.K d
 have fin:∀ tk,EP X pins σ Q (.bool (isB d.ty "tuple" || isB d.ty "list")) { s with toks:=tk }:=λtk=>⟨.bl _,H,I.tok tk,rfl,q⟩
 cases d with
 |non=>unfold Has at hd;subst hd;cases rx;exact kia_tup kitx_none I.kIn True.intro ho e (λz=>nomatch z) fin
 |bl b=>unfold Has at hd;subst hd;cases rx;exact kia_tup kitx_bool I.kIn True.intro ho e (λz=>nomatch z) fin
 |int i=>unfold Has at hd;subst hd;obtain⟨t,rfl⟩:=rx;exact kia_tup kitx_int I.kIn True.intro ho e (λz=>nomatch z) fin
 |str y=>unfold Has at hd;subst hd;obtain⟨t,rfl⟩:=rx;exact kia_tup kitx_str I.kIn True.intro ho e (λz=>nomatch z) fin
 |tup ds =>
  unfold Has at hd
  obtain⟨b,ys,rfl,hq',_⟩:=hd
  cases rx
  obtain⟨_,_,⟨o,h1,h2,_⟩,_⟩:=I.tuple hq'
  exact kia_tup kitx_tuple I.kIn ⟨o,h1,h2⟩ ho e (λz=>nomatch z) fin
 |lst ds =>
  unfold Has at hd
  obtain⟨b,ys,rfl,hq',_⟩:=hd
  cases rx
  obtain⟨_,_,pl,_⟩:=I.list hq'
  obtain⟨o,h1,h2,_⟩:=pl.isList
  exact kia_tup kitx_list I.kIn ⟨o,h1,h2⟩ ho e (λz=>nomatch z) fin
 |dct =>
  unfold Has at hd
  obtain⟨b,kvs,rfl,hq'⟩:=hd
  cases rx
  obtain⟨_,_,vs,_,p⟩:=(show j20 X.prog X.w H s.heap b (.dK kvs) from I.hok b _ hq')
  obtain⟨o,es,ep,h1,h2,_⟩:=p
  exact kia_tup kitx_dict I.kIn ⟨o,h1,h2.1⟩ ho e (λz=>nomatch z) fin
end
open PySem PySem.Spec PyProof.Rows PySem.SeqAt
theorem L60(l b:Addr)(es:Array DictEntry)(n:Nat)(it:Array Value)(n2:Nat)(dd dd2:Option Addr)(sl sl2:Array (Option Value)) :
  Meets (Builtin.«dict.__ne__» ⟨[.ref l,.ref b],[]⟩) (λ_ R s=>s.heap.get? l=some { cls:=.type "dict",dict:=dd,data:=.dict es n,slots:=sl }∧s.heap.get? b=some { cls:=.type "tuple",dict:=dd2,data:=.seq it n2,slots:=sl2 }∧R (.ok (.ret .notImplemented)) s) :=
 .of_wp λprog w A R s h=>by
  obtain⟨hp,g,d,tk,os⟩:=s
  obtain⟨hl,hb,h⟩:=h
  have f1:=F.sub_tuple_dict
  wp_walk using wpAny_loadPart' hl,wpAny_loadPart' hb
  exact⟨_,rfl,h⟩
theorem L70(l b:Addr)(es:Array DictEntry)(n:Nat)(it:Array Value)(n2:Nat)(dd dd2:Option Addr)(sl sl2:Array (Option Value)) :
  Meets (Builtin.«tuple.__ne__» ⟨[.ref b,.ref l],[]⟩) (λ_ R s=>s.heap.get? l=some { cls:=.type "dict",dict:=dd,data:=.dict es n,slots:=sl }∧s.heap.get? b=some { cls:=.type "tuple",dict:=dd2,data:=.seq it n2,slots:=sl2 }∧R (.ok (.ret .notImplemented)) s) :=
 .of_wp λprog w A R s h=>by
  obtain⟨hp,g,d,tk,os⟩:=s
  obtain⟨hl,hb,h⟩:=h
  have f1:=F.sub_dict_tuple
  wp_walk using wpAny_loadPart' hl,wpAny_loadPart' hb
  exact⟨_,rfl,h⟩
section
variable {X:Cx}
theorem Y21(hu:X.A.units + 64 < cLine):OpR X (compareOp .NotEq) (λx y H Q=>∃ a b kvs xs,x=.ref a∧y=.ref b∧H a=some (.dK kvs)∧SqT X.K H b xs∧Q (.bl true) H):=by
 intro pins s σ H x y v u Q I rx ry h
 obtain⟨a,b,kvs,xs,rfl,rfl,ha,hb,q⟩:=h
 cases rx;cases ry
 obtain⟨v2,r2,⟨o2,h2,c2,n2,d2⟩,_⟩:=I.tuple hb
 obtain⟨_,_,vs,_,p⟩:=(show j20 X.prog X.w H s.heap a (.dK kvs) from I.hok a _ ha)
 obtain⟨o1,es,n1,h1,c1,d1,_⟩:=p
 have c1:=c1.1
 obtain⟨cls,dd,data,sl⟩:=o1
 obtain⟨cls2,dd2,data2,sl2⟩:=o2
 simp only at c1 d1 c2 d2
 subst c1 d1 c2 d2
 have hne:a≠b:=λe=>by
  subst e
  rw[h1] at h2
  simp at h2
 have hu':X.A.units < cLine:=by omega
 refine rc_ne_decline_or (k:=false) ⟨_,h1,rfl⟩ ⟨_,h2,rfl⟩ (by decide) F.sub_tuple_dict F.slot_dict_ne F.slot_tuple_ne_refl
  (λ_ hq=>call_meets F.slot_dict_ne ⟨_,h1,rfl⟩ F.entry_dict_ne (F.args_dict_ne_2 _ _) (L60 a b es n1 v2.toArray n2 dd dd2 sl sl2) ⟨h1,h2,hq⟩)
  (λ_ hq=>call_meets F.slot_tuple_ne_refl ⟨_,h2,rfl⟩ F.entry_tuple_ne (F.args_tuple_ne_2 _ _) (L70 a b es n1 v2.toArray n2 dd dd2 sl sl2) ⟨h1,h2,hq⟩)
  (λ_ hq=>wpAny_isSame_ref_other hne h1 h2 (by simp) hq) (.inr hu') ⟨.bl true,H,I,rfl,q⟩
end
end L2
namespace L2
open PySem PySem.Spec PyProof.Rows
section
variable {P:Program}{w:World}{A:Around}{E:Value→Shared→Prop}{s:Shared}
abbrev eT1(h:Heap)(l:Addr):Heap:=h.push { cls:=.type "tuple_iterator",data:=.fields #[.ref l,.int 0 0] }
abbrev eT2(h:Heap)(l:Addr):Heap:=(eT1 h l).push { cls:=.type "enumerate",data:=.fields #[.none,.bool false,.ref h.objs.size,rawInt 0,.none,.none] }
theorem a51(l:Addr)(xs:Array Value) :
  Meets (Builtin.«enumerate.__new__» ⟨[.type "enumerate",.ref l],[]⟩) (λ_ R s=>s.heap.IsTuple l xs∧R (.ok (.ret (.ref (eT1 s.heap l).objs.size))) { s with heap:=eT2 s.heap l }) :=
 .of_wp λP w A R s h=>by
  obtain⟨hp,g,d,tk,os⟩:=s;obtain⟨hl,h⟩:=h
  have hsub:=sub_enumerate
  have hL1:Heap.IsTuple (Shared.heap ⟨hp,g,d,tk,os⟩) l xs:=hl
  wp_walk;refine wpAny_stack_any λq=>wpAny_pure ?_;split
  ·rename_i c _ _ _ _ _;cases (c == Value.type "enumerate") <;> (wp_walk using wpAny_pyIter_tuple hL1) <;> exact⟨_,rfl,h⟩
  ·wp_walk using wpAny_pyIter_tuple hL1
   exact⟨_,rfl,h⟩
theorem n91(hl:s.heap.IsTuple l xs)
  (h:∀ h',IsEnum h' (s.heap.objs.size + 1) s.heap.objs.size 0 .none→h'.IsTupleIter s.heap.objs.size l 0→(∀ c o,s.heap.get? c=some o→h'.get? c=some o)→Q (.ref (s.heap.objs.size + 1)) { s with heap:=h' }) :
  wpAny (model P w) A (call (.type "enumerate") [.ref l]) Q E s:=by
 refine callType_new F.called_enumerate (by decide) (F.typeCall_enumerate_1 _) (F.newCall_enumerate_1 _) (λobj=>F.args_object_init_2 obj _) F.entry_enumerate_new (a51 l xs) ⟨hl,?_⟩
 have n1:(eT1 s.heap l).objs.size=s.heap.objs.size + 1:=size_push ..
 have g2:(eT2 s.heap l).get? (eT1 s.heap l).objs.size=some _:=Heap.get?_push_size _ rfl
 have g1:(eT2 s.heap l).get? s.heap.objs.size=some _:=Heap.get?_push_of_some _ (Heap.get?_push_size _ rfl)
 show _∧_;rw[n1] at g2;rw[n1]
 exact⟨⟨_,g2,rfl⟩,h _ g2 ⟨_,g1,rfl,rfl⟩ λc o q=>Heap.get?_push_of_some _ (Heap.get?_push_of_some _ q)⟩
theorem u41(hh:A.handled=none){it l:Addr}{xs:Array Value}(n:l≠it):Draws P w A it [it,l] xs.size (λi x=>xs[i]?=some x) (λi h=>h.IsTupleIter it l i∧h.IsTuple l xs) where
 live:=λi h q=>by obtain⟨⟨o,e,_⟩,_⟩:=q;exact⟨o,e⟩
 frame:=λi h h' q k=>by
  obtain⟨⟨o,e,r⟩,⟨o',e',r'⟩⟩:=q
  exact⟨⟨o,k it (by simp) _ e,r⟩,⟨o',k l (by simp) _ e',r'⟩⟩
 item:=λi s Q E hi q k=>q80 q.1 q.2 (x:=xs[i]) (by simp[hi]) λh' h1 h2=>k _ h' s.toks (by simp[hi]) ⟨h1,q.2.extBut h2.extBut n⟩ h2
 done:=λs Q E q k=>m20 hh q.1 q.2 (by simp) λh' e h1 h2=>k h' e h1 h2
end
theorem Q81{P:Program}{w:World}{A:Around}(b:Bool)(hh:A.handled=none){it l:Addr}{xs:Array Value}(n:l≠it):Draws P w A it [it,l] xs.size (λi x=>xs[i]?=some x) (λi h=>S70 b h it l i∧I41 b h l xs):=match b with
 |true=>Draws.list hh it l n xs
 |false=>u41 hh n
def Ite(b:Bool)(K:PySem.W.Frag)(a:Addr):It :=
 ⟨λi H=>∃ xs x,SqB b K H a xs∧xs[i]?=some x,
  λi H v H'=>∃ T,v=.ref T∧H T=none∧∀ xs x,SqB b K H a xs→xs[i]?=some x→H'=upd H T (.tup [.int i,x]),
  λi H=>∃ xs,SqB b K H a xs∧xs.length=i⟩
theorem u51{P:Program}{w:World}{K:PySem.W.Frag}{es:List Expr}{ek:Nat}{ep:Pos}{a e it:Addr}{b:Bool}(h1:e≠it)(h2:a≠e)(h3:a≠it) :
  Turn P w K (.Tuple es ek ep) (Ite b K a) [e,it] e (λi h=>(∃ old,IsEnum h e it i old)∧S70 b h it a i) where
 mem:=by simp
 obj:=λi h st c hc=>by
  obtain⟨⟨old,he⟩,st⟩:=st
  obtain⟨o1,g1,d1,_⟩:=st.obj
  simp only[mem_cons,not_mem_nil,or_false] at hc
  rcases hc with rfl | rfl
  ·exact⟨_,he,λv e=>by cases e⟩
  ·exact⟨_,g1,d1⟩
 keep:=λi h h' st k=>by
  obtain⟨⟨old,he⟩,st⟩:=st
  obtain⟨o1,g1,_,r1⟩:=st.obj
  exact⟨⟨old,k e (by simp) _ he⟩,r1 h' (k it (by simp) _ g1)⟩
 item:=by
  intro X hP hw hK hc i pins s σ H E I hf st hg
  subst hP hw hK
  obtain⟨xs,x,hq,hx⟩:=hg
  obtain⟨v1,rv,p1,_,z1⟩:=I.I51 hq
  obtain⟨u,hu,ru⟩:=rv.get hx
  obtain⟨⟨old,he⟩,hi⟩:=st
  have hl:i < v1.toArray.size:=by simpa using (List.getElem?_eq_some_iff.mp hu).1
  refine wpAny_pyNext_enum_itemD (Q81 (A:=X.A.in1) b (by exact I.ok.hd hc) h3) he ⟨hi,p1⟩ hl h1 (by simp[h1,h2.symm]) λy g1 tk hy ge gs gT sz kp=>⟨_,rfl,?_⟩
  have hy':v1[i]?=some y:=by simpa using hy
  rw[hu] at hy';cases hy'
  refine wpAny_letOwnedTupleGo_enum (s:={ s with heap:=g1,toks:=tk + 1 }) ge λg2 ge2 sb=>?_
  have hT:H s.heap.objs.size=none:=I.hok.fresh (Nat.le_refl _)
  have kall:∀ c o,c ∉ [e,it]→s.heap.get? c=some o→g2.get? c=some o:=λc o hc q=>by
   simp only[mem_cons,not_mem_nil,or_false,not_or] at hc
   exact sb.extBut _ _ hc.1 (kp c o hc.1 hc.2 q)
  have I2:Inv X pins σ H { s with heap:=g2,toks:=tk + 1 }:=I.K70 (t':=tk + 1) hf kall
  have fT:m61 X pins H s.heap.objs.size:=I.q31 (Nat.le_refl _) hT
  have gT2:g2.get? s.heap.objs.size=some { cls:=.type "tuple",data:=.seq #[.int i tk,u] }:=sb.extBut _ _ (λq=>Nat.lt_irrefl _ (by have:=lt_size he;rw[← q] at this;exact this)) gT
  have I3:Inv X pins σ (upd H s.heap.objs.size (.tup [.int i,x])) { s with heap:=g2,toks:=tk + 1 }:=I2.I11 fT I.sz (I2.hok.Q41 hT (its:=[.int i tk,u]) (.cons ⟨_,rfl⟩ (.cons ru .nil)) (by show 2≤sizeLine;rw[sizeLine_eq];decide) ⟨_,gT2,rfl,_,rfl⟩)
  refine⟨.ref s.heap.objs.size,_,I3,rfl,⟨_,rfl,hT,λxs' x' e1 e2=>?_⟩,⟨⟨_,ge2⟩,by obtain⟨o,q1,_,q2⟩:=gs.1.obj;exact q2 _ (sb.extBut _ _ h1.symm q1)⟩,λc hc=>?_⟩
  ·rw[z1 _ e1] at e2
   rw[hx] at e2
   cases e2;rfl
  ·rw[a50]
   ·exact(hf c hc).1
   ·intro q
    simp only[mem_cons,not_mem_nil,or_false] at hc
    rcases hc with hc | hc
    ·exact Nat.lt_irrefl _ (by have:=lt_size he;rw[← hc,q] at this;exact this)
    ·obtain⟨o,ho,_⟩:=S70.obj hi;exact Nat.lt_irrefl _ (by have:=lt_size ho;rw[← hc,q] at this;exact this)
 done:=by
  intro X hP hw hK hc i pins s σ H E I hf st hg
  subst hP hw hK
  obtain⟨xs,hq,rfl⟩:=hg
  obtain⟨v1,rv,p1,_,z1⟩:=I.I51 hq
  obtain⟨⟨old,he⟩,hi⟩:=st
  refine wpAny_pyNext_enum_endD (Q81 (A:=X.A.in1) (xs:=v1.toArray) b (by exact I.ok.hd hc) h3) he ⟨by rw[show v1.toArray.size=xs.length by simpa using rv.length.symm];exact hi,p1⟩ λg kp=>⟨rfl,I.K70 (t':=s.toks) hf λc o hcn q=>?_⟩
  simp only[mem_cons,not_mem_nil,or_false,not_or] at hcn
  exact kp c o hcn.2 q
 self:=λ_ _ _ _ _ st h=>by obtain⟨⟨_,he⟩,_⟩:=st;exact wpAny_pyIter_enum he h
def C32(K:PySem.W.Frag)(ta:TA):TI:=λσ H R=>ta σ H λvs H1=>∃ b a,vs=[.ref a]∧(∃ xs,SqB b K H1 a xs)∧R (Ite b K a) H1
theorem o01(hl:I41 b s.heap l xs)
  (h:∀ h',IsEnum h' (s.heap.objs.size + 1) s.heap.objs.size 0 .none→S70 b h' s.heap.objs.size l 0→(∀ c o,s.heap.get? c=some o→h'.get? c=some o)→Q (.ref (s.heap.objs.size + 1)) { s with heap:=h' }) :
  wpAny (model P w) A (call (.type "enumerate") [.ref l]) Q E s:=match b,hl,h with
 |true,hl,h=>call_enumerate_list hl λh' a b _ c=>h h' a b c
 |false,hl,h=>n91 hl h
theorem u61:bootBuiltins "enumerate"=some (.type "enumerate"):=by decide +kernel
theorem Y31{X:Cx}{a:Expr}{es:List Expr}{ek:Nat}{ep:Pos}{ta:TA}{p pos:Pos}(hg:Gl X "enumerate")(hm:X.mg "enumerate"=none)(ha:PA X [a] ta)(hs:starEach [a] X.env=[(false,eval a X.env)]:=by rfl) :
  PI X (.Tuple es ek ep) (.Call (.Name "enumerate" p) [a] [] pos) (C32 X.K ta):=by
 intro pins s σ H R I h
 refine Call_ (v40 I hg hm u61 (PyProof.Rows.callWith_type1 (thn (ha pos pins s σ H _ I h) λus s1 ⟨vs,H1,I1,r1,q1⟩=>?_) (by rw[hs];rfl) (by rfl)))
 obtain⟨b,l1,e,⟨xs,hq1⟩,q⟩:=q1
 subst e
 obtain⟨u,rfl,r⟩:=vals1 r1
 cases r
 obtain⟨v1,rv1,p1,a1,_⟩:=I1.I51 hq1
 refine o01 p1 λh' he h1 kp=>wpAny_pyIter_enum (s:={ s1 with heap:=h' }) he ?_
 refine⟨_,[s1.heap.objs.size + 1,s1.heap.objs.size],_,_,H1,rfl,I1.kept (t':=s1.toks) kp,u51 (Nat.succ_ne_self _) (Nat.ne_of_lt (lt_succ_of_lt a1)) (Nat.ne_of_lt a1),⟨⟨_,he⟩,h1⟩,λc hc=>?_,q⟩
 have hc':s1.heap.objs.size≤c:=by
  simp only[mem_cons,not_mem_nil,or_false] at hc
  rcases hc with rfl | rfl
  ·exact le_add_right _ 1
  ·exact Nat.le_refl _
 exact I1.q31 hc' (I1.hok.fresh hc')
end L2
namespace HT
open PySem PySem.W PyProof.Rows
set_option maxRecDepth 100000
section
variable {P:Program}{w:World}{A:Around}{E:Value→Shared→Prop}{s:Shared}
theorem L80{a b c:Int}{n:Nat}(hh:A.handled=none)(hr:IsRange s.heap r a b c t u v)(hs:Builtin.Range.small a b c=true)(hn:Builtin.Range.rangeSize a b c=n)(hl:n≤2 ^ 24)
  (hQ:∀ (h':Heap) (tk:Nat) (acc:Array Value),(∀ b o,s.heap.get? b=some o→h'.get? b=some o)→s.heap.objs.size≤h'.objs.size→ItemsOf (λi v=>∃ t,v=.int (a + i * c) t) acc n→Q acc.toList { s with heap:=h',toks:=tk }):wpAny (model P w) A (collect (.ref r)) Q E s:=by
 unfold collect
 refine wpAny_bind (wpAny_runValue (codeAny_builtin PySem.F.entry_proto_collect ?_));rw[Around.under_plainId PySem.F.plain_proto_collect _]
 show wpAny _ A.in1 (newList [] >>= λl=>again (.builtin "list.__iadd__" ⟨[l,.ref r],[]⟩)) _ _ s
 refine wpAny_bind (wpAny_newObj_type (wpAny_pure ⟨plainId_quiet PySem.F.plain_list_iadd _,codeAny_builtin PySem.F.entry_list_iadd ?_⟩));rw[Around.under_plainId PySem.F.plain_list_iadd _]
 show wpAny _ A.in1 (Builtin.List.listExtendWith (.ref s.heap.objs.size) (.ref r) (.ref s.heap.objs.size)) _ _ { s with heap:=s.heap.push (seqObj "list" #[] 0) }
 have hS:(s.heap.push (seqObj "list" #[] 0)).get? s.heap.objs.size=some { cls:=.type "list",data:=.seq #[] 0 }:=Heap.get?_push_size _ rfl
 refine wpAny_mono (wpAny_extend_range (A:=A) (s:={ s with heap:=s.heap.push (seqObj "list" #[] 0) }) (R:=λx s'=>x=.ok (.ret (.ref s.heap.objs.size))∧∃ h' tk acc c',s'={ s with heap:=h',toks:=tk }∧(∀ b o,s.heap.get? b=some o→h'.get? b=some o)∧h'.get? s.heap.objs.size=some { cls:=.type "list",dict:=none,data:=.seq acc c',slots:=#[] }∧ItemsOf (λi v=>∃ t,v=.int (a + i * c) t) acc n) hh (Heap.get?_push_of_some _ hr) hs hn hl _ (.ref s.heap.objs.size) 0 hS λh' tk acc c' hk hS' hi=>⟨rfl,h',tk,acc,c',rfl,λb o e=>hk b o (Nat.ne_of_lt (lt_size e)) (Heap.get?_push_of_some _ e),hS',hi⟩) (λfin s' h=>?_) λe s' h=>?_
 ·have go:∀ s',(∃ h' tk acc c',s'={ s with heap:=h',toks:=tk }∧(∀ b o,s.heap.get? b=some o→h'.get? b=some o)∧h'.get? s.heap.objs.size=some { cls:=.type "list",dict:=none,data:=.seq acc c',slots:=#[] }∧ItemsOf (λi v=>∃ t,v=.int (a + i * c) t) acc n)→wpAny (model P w) A (match Value.ref s.heap.objs.size with
   |Value.ref a=>do
    match (← load a).data with
     |Data.seq xs _=>pure xs.toList
     |_=>unsupported "internal:collect"
   |_=>unsupported "internal:collect") Q E s':=λs' ⟨h',tk,acc,c',e,hk,hS',hi⟩=>by
   subst e
   show wpAny _ A (load s.heap.objs.size >>= _) _ _ _
   exact wpAny_bind (wpAny_load hS' (wpAny_pure (hQ h' tk acc hk (Nat.le_of_lt (lt_size hS')) hi)))
  cases fin with
  |done f =>
   obtain⟨e,h⟩:=h
   cases e
   exact go _ h
  |again c'=>exact⟨h.1,codeAny_mono h.2 λx s'' hx=>by obtain⟨rfl,hx⟩:=hx;exact go _ hx⟩
 ·exact absurd h.1 (by simp)
open AutoSeq1 (wpAny_loadPart')
theorem D50{a b c:Int}{n:Nat}(hh:A.handled=none)(hr:IsRange s.heap r a b c t u v)(hs:Builtin.Range.small a b c=true)(hn:Builtin.Range.rangeSize a b c=n)(hl:n≤200000)
  (hQ:∀ (h':Heap) (tk:Nat) (acc:Array Value),(∀ b o,s.heap.get? b=some o→h'.get? b=some o)→s.heap.objs.size≤h'.objs.size→ItemsOf (λi v=>∃ t,v=.int (a + i * c) t) acc n→Q (.ref h'.objs.size) { s with heap:=h'.push { cls:=.type "tuple",data:=.seq acc },toks:=tk }) :
  codeAny (model P w) A (.call (.builtin "tuple.__new__") ⟨[.type "tuple",.ref r],[]⟩) (wants Q E) s:=by
 refine codeAny_of_tree ?_;show wpAny _ A.in1 (do checkBuiltinCall "tuple.__new__" ⟨[.type "tuple",.ref r],[]⟩;again (.builtin "tuple.__new__" ⟨[.type "tuple",.ref r],[]⟩)) _ _ s
 refine wpAny_bind (wpAny_of_eq (PySem.F.newCall_tuple_1 _) (wpAny_pure ⟨plainId_quiet PySem.F.plain_tuple_new _,codeAny_builtin PySem.F.entry_tuple_new ?_⟩));rw[Around.under_plainId PySem.F.plain_tuple_new _]
 have k1:=sub_tuple_self;have k2:=init_tuple_lookup;have k3:=madeHere_tuple
 have k4:s.TypeIs (.ref r) "range":=⟨_,hr,rfl⟩
 wp_walk using wpAny_typeOf k4,L80 (n:=n) (show A.in1.handled=none from hh) hr hs hn (by omega)
 intro h' tk acc hk hz hi
 show wpAny _ _ (tupleExact acc.toList.toArray >>= λv=>ret v) _ _ _
 unfold tupleExact;rw[toArray_toList]
 refine wpAny_bind (wpAny_newObj_type (wpAny_pure (hQ h' tk acc hk hz hi)) (by show acc.size≤_;rw[hi.1,sizeLine_eq];omega))
theorem tuple_range{a b c:Int}{n:Nat}(hh:A.handled=none)(hr:IsRange s.heap r a b c t u v)(hs:Builtin.Range.small a b c=true)(hn:Builtin.Range.rangeSize a b c=n)(hl:n≤200000)
  (hQ:∀ (h':Heap) (tk:Nat) (acc:Array Value),(∀ b o,s.heap.get? b=some o→h'.get? b=some o)→s.heap.objs.size≤h'.objs.size→ItemsOf (λi v=>∃ t,v=.int (a + i * c) t) acc n→Q (.ref h'.objs.size) { s with heap:=h'.push { cls:=.type "tuple",data:=.seq acc },toks:=tk }):wpAny (model P w) A (call (.type "tuple") [.ref r]) Q E s:=by
 refine callType_codes (Q₁:=λobj s₁=>s₁.TypeIs obj "tuple"∧Q obj s₁) PySem.F.called_tuple (PySem.F.typeCall_tuple_1 _) PySem.F.entry_object_init (D50 hh hr hs hn hl λh' tk acc hk hz hi=>⟨⟨_,Heap.get?_push_size _ rfl,rfl⟩,hQ h' tk acc hk hz hi⟩) λobj s₁ h₁=>?_
 exact⟨h₁.1,PySem.F.args_object_init_2 obj _,object_init_meets PySem.F.called_tuple.init.lookup PySem.F.called_tuple.made (by decide) P w A.in1 _ s₁ ⟨h₁.1,rfl,h₁.2⟩⟩
end
end HT
namespace L2
open PySem PySem.Spec PyProof.Rows
theorem j20.there(x:j20 P w H h a o):∃ u,h.get? a=some u:=by
 cases o with
 |lst xs=>obtain⟨_,_,_,_,e⟩:=x;exact⟨_,e⟩
 |tup xs=>obtain⟨_,_,_,o,e,_⟩:=x;exact⟨_,e⟩
 |dK kvs=>obtain⟨_,_,_,_,o,_,_,e,_⟩:=x;exact⟨_,e⟩
 |dT kvs=>obtain⟨_,_,_,_,o,_,_,e,_⟩:=x;exact⟨_,e⟩
 |set S n=>obtain⟨o,_,_,_,e,_⟩:=x;exact⟨_,e⟩
 |ins C dx fs=>obtain⟨_,_,_,e,_⟩:=x;exact⟨_,e⟩
 |own y=>obtain⟨_,e⟩:=x;exact⟨_,e⟩
 |xd fs=>obtain⟨_,⟨_,_,_,e,_⟩,_⟩:=x;exact⟨_,e⟩
 |rng lo hi=>obtain⟨_,_,_,e⟩:=x;exact⟨_,e⟩
 |frz ob u=>obtain⟨e,_⟩:=x;exact⟨_,e⟩
 |tbl ps=>exact⟨_,(show h.get? a=some _ from x)⟩
 |met f y=>exact⟨_,(show h.get? a=some _ from x)⟩
 |ext φ=>obtain⟨_,⟨_,e⟩,_⟩:=x;exact⟨_,e⟩
def InB(B:Heap)(fs:List Addr)(H':Hp)(h h':Heap):Prop:=∀ b u,h'.get? b=some u→b ∉ fs→((∃ o,h.get? b=some o)∨H' b≠none)→B.get? b=some u
def CX1(P:Program)(w:World):CXT:=λouter H s E e s'=>∃ (a:Addr) (cls a0:Value) (H':Hp) (B:Heap),e=.ref a∧s'.os=s.os∧AllBare s'.gens∧Un (frs outer) [] H H' s.heap s'.heap∧HOk P w H' s'.heap ∧
 Heap.FlyingW B outer a cls a0 s'.heap∧H' a=none∧InB B (frs outer) H' s.heap s'.heap∧E cls (some a) H'
section
variable {X:Cx}{pins:List (Addr × Obj)}{σ:St}{H H':Hp}{s s':Shared}{B h'':Heap}{a:Addr}{cls a0:Value}{E:XK}
theorem u71(hS:X.stack=X.env::X.outer)(hx:X.ex=[])(hf:X.env.frame=some X.env.locals)(I:Inv X pins σ H s)(os:s'.os=s.os)(bare:AllBare s'.gens)(un:Un (frs X.stack) [] H H' s.heap s'.heap)(hok:HOk X.prog X.w H' s'.heap)
  (bB:InB B (frs X.stack) H' s.heap s'.heap) (na:H' a=none) (fl:Heap.FlyingW B X.outer a cls a0 h'') (sm:s'.heap.UpToSlots h'') (he:E cls (some a) H'):CX1 X.prog X.w X.outer X.H₀ X.s₀ E (.ref a) { s' with heap:=h'' }:=by
 have hfs:frs X.stack=X.env.locals::frs X.outer:=by rw[hS];unfold frs;rw[filterMap_cons,hf]
 have U1:=I.base
 rw[hx] at U1
 have U:Un (frs X.stack) [] X.H₀ H' X.s₀.heap s'.heap:=(U1.mono (λb hb=>by rw[hfs];exact mem_cons_of_mem _ hb) λb hb=>hb).trans un
 have nL:∀ b o,X.s₀.heap.get? b=some o→b ∉ frs X.outer→b ∉ frs X.stack:=λb o e hn hm=>by
  rw[hfs] at hm
  rcases List.mem_cons.mp hm with z | z
  ·exact absurd (lt_size e) (by rw[z];exact Nat.not_lt.mpr I.ok.above)
  ·exact hn z
 have frN:∀ b∈frs X.stack,H' b=none:=λb hb=>by
  obtain⟨_,o,ho,_⟩:=I.stack.mem hb
  exact un.free b o ho (I.Z20 b hb) (by simp)
 have old:∀ b o,X.s₀.heap.get? b=some o→b ∉ frs X.outer→∃ u,s'.heap.get? b=some u∧B.get? b=some u:=λb o e hn=>by
  obtain⟨o1,e1⟩:=U1.there b o e (by simp)
  obtain⟨o2,e2⟩:=un.there b o1 e1 (by simp)
  exact⟨o2,e2,bB b o2 e2 (nL b o e hn) (.inl ⟨o1,e1⟩)⟩
 have trk:∀ b,H' b≠none→∃ u,s'.heap.get? b=some u∧B.get? b=some u:=λb hb=>by
  obtain⟨o,e⟩:=Option.ne_none_iff_exists'.mp hb
  obtain⟨u,eu⟩:=(hok b o e).there
  exact⟨u,eu,bB b u eu (λhm=>by rw[frN b hm] at e;cases e) (.inr hb)⟩
 refine⟨a,cls,a0,H',B,rfl,os.trans I.os,bare,⟨λb o e n hb _=>?_,λb o e n hb _=>?_,λb o e n hb=>U.free b o e n hb,λb o e _=>?_,U.tups,U.frzs,U.tbls⟩,λc o e=>?_,fl,na,λb u e hn hor=>?_,he⟩
 ·obtain⟨u,e1,e2⟩:=old b o e hb
  have e3:=U.keep b o e n (nL b o e hb) (by simp)
  rw[e1] at e3;cases e3
  exact fl.1 b _ e2
 ·obtain⟨sl,e1⟩:=U.slot b o e n (by rw[hfs];exact mem_cons_of_mem _ hb) (by simp)
  obtain⟨_,o',ho',hd⟩:=I.ok.G31.mem hb
  rw[e] at ho';cases ho'
  obtain⟨sl',e2⟩:=sm b _ e1 hd
  exact⟨sl',e2⟩
 ·by_cases hb:b∈frs X.outer
  ·obtain⟨_,o',ho',_⟩:=fl.2.2.1.mem hb
   exact⟨o',ho'⟩
  ·obtain⟨u,_,e2⟩:=old b o e hb
   exact⟨u,fl.1 b _ e2⟩
 ·refine(hok c o e).u90 (λb u hb q=>?_) (λ_ q=>q) λ_ _ q=>q
  have hbn:H' b≠none:=by
   rcases hb with rfl | hb
   ·rw[e];exact λz=>nomatch z
   ·rw[hb];exact λz=>nomatch z
  obtain⟨u',e1,e2⟩:=trk b hbn
  rw[q] at e1;cases e1
  exact fl.1 b _ e2
 ·have:∃ u',B.get? b=some u':=by
   rcases hor with ⟨o,ho⟩ | hor
   ·obtain⟨u',_,e2⟩:=old b o ho hn
    exact⟨u',e2⟩
   ·obtain⟨u',_,e2⟩:=trk b hor
    exact⟨u',e2⟩
  obtain⟨u',e2⟩:=this
  have e3:=fl.1 b _ e2
  rw[e] at e3;cases e3
  exact e2
end
section
variable {P:Program}{w:World}{K:PySem.W.Frag}{mg:Str→Option Value}{base:Heap}{N:List Str}{qual:Str}{scope:Scope}{f:Addr}{cd:Value}{A:Around}{outer:List Env}{s₀:Shared}{H₀:Hp}{E:XK}
theorem u81(I:Inv (R80 (CX1 P w) P w K mg base N qual scope f cd A outer s₀ H₀ E) pins σ H s)(hx:Heap.MadeExcOf s.heap h' e cls vs)(he:E cls (some e) H) :
  (R80 (CX1 P w) P w K mg base N qual scope f cd A outer s₀ H₀ E).xe (.ref e) { s with heap:=h' }:=by
 have hin:∀ env∈(R80 (CX1 P w) P w K mg base N qual scope f cd A outer s₀ H₀ E).stack,∀ a,env.frame=some a→a∈frs (R80 (CX1 P w) P w K mg base N qual scope f cd A outer s₀ H₀ E).stack:=λenv he a ha=>List.mem_filterMap.mpr ⟨env,he,ha⟩
 have kB:(hideAll s.heap (frs (R80 (CX1 P w) P w K mg base N qual scope f cd A outer s₀ H₀ E).stack)).StaysIn s.heap:=λb o q=>of_hideAll _ q
 show wpAny _ _ (leaving _ _) _ _ _
 refine wpAny_leaves_madeW (base:=hideAll s.heap (frs (R80 (CX1 P w) P w K mg base N qual scope f cd A outer s₀ H₀ E).stack)) (h:=s.heap) I.ok.frames rfl kB (PySem.W.funFrames_hide I.stack hin) hx λh'' t fl _ _ sm=>?_
 have na:H e=none:=by
  cases z:H e with
  |none=>rfl
  |some o=>obtain⟨u,eu⟩:=(I.hok e o z).there;rw[hx.new] at eu;cases eu
 refine u71 (X:=R80 (CX1 P w) P w K mg base N qual scope f cd A outer s₀ H₀ E) (s':={ s with heap:=h' }) rfl rfl rfl I rfl I.bare (Un.kept hx.keeps) (I.hok.kept hx.keeps) (λb u q hn hor=>?_) na fl sm he
 have:∃ o,s.heap.get? b=some o:=by
  rcases hor with hor | hor
  ·exact hor
  ·obtain⟨o,z⟩:=Option.ne_none_iff_exists'.mp hor
   exact(I.hok b o z).there
 obtain⟨o,ho⟩:=this
 have:=hx.keeps b o ho
 have q':h'.get? b=some u:=q
 rw[this] at q';cases q'
 exact hideAll_get _ ho hn
theorem C42:Passes (CX1 P w) (R80 (CX1 P w) P w K mg base N qual scope f cd A outer s₀ H₀ E) E:=by
 intro pins σ H s e s' I h
 obtain⟨a,cls,a0,H',B,rfl,os,bare,un,hok,fl,na,bB,he⟩:=h
 show wpAny _ _ (leaving _ _) _ _ _
 refine wpAny_leaves_onW I.ok.frames rfl fl λh'' fl' sm=>?_
 exact u71 (X:=R80 (CX1 P w) P w K mg base N qual scope f cd A outer s₀ H₀ E) (s':=s') rfl rfl rfl I os bare un hok bB na fl' sm he
end
theorem Y41{K:PySem.W.Frag}{h:Heap}{C:Addr}{bmB:List Value}{newId:String}(KX:K.In h)(hq:PySem.W.excIn K C bmB newId=true) :
  ∃ bm N nm q bs hdct sn sub ab col dd k0 k1 k2 k3 k5 mN,h.get? C=some (excClassObj nm q C N bs bm hdct sn sub ab col dd k0 k1 k2 k3 k5 newId)∧h.Ns N mN∧mN "__init__"=none∧OwnTail h bmB bm:=by
 unfold PySem.W.excIn at hq
 split at hq
 case h_2=>cases hq
 case h_1 dd cd sl ho =>
  split at hq
  case h_2=>cases hq
  case h_1 C' bm k0 k1 k2 k3 n k5 hm hs =>
   simp only[and_eq_true,beq_iff_eq,not_eq_true'] at hq
   obtain⟨⟨⟨⟨⟨z1,z2⟩,hdel⟩,ht⟩,hok⟩,hni⟩:=hq
   subst z1 z2
   cases cd with
   |mk nm bs mro ns qn hd sn sub ab col del =>
    dsimp only at hm hdel hok hni
    subst hm hdel
    have esl:sl=#[k0,k1,k2,k3,some (.builtin n),k5]:=by cases sl with | mk l=>simp only at hs;rw[hs]
    subst esl
    refine⟨bm,ns,nm,qn,bs,hd,sn,sub,ab,col,dd,k0,k1,k2,k3,k5,h.nsMap ns,KX _ _ ho,?_,PySem.W.nsMap_none_of_in KX hok hni,PySem.W.tail_of_in KX ht⟩
    exact .of_isNs (PySem.W.isNs_of_in KX hok)
def L90(X:Cx)(E:XK):Prop:=∀ (pins:List (Addr × Obj)) (σ:St) (H:Hp) (s:Shared) (h':Heap) (e:Addr) (cls:Value) (vs:List Value),Inv X pins σ H s→Heap.MadeExcOf s.heap h' e cls vs→E cls (some e) H→X.xe (.ref e) { s with heap:=h' }
theorem u91{P:Program}{w:World}{K:PySem.W.Frag}{mg:Str→Option Value}{base:Heap}{N:List Str}{qual:Str}{scope:Scope}{f:Addr}{cd:Value}{A:Around}{outer:List Env}{s₀:Shared}{H₀:Hp}{E:XK} :
  L90 (R80 (CX1 P w) P w K mg base N qual scope f cd A outer s₀ H₀ E) E:=λ_ _ _ _ _ _ _ _ I hx he=>u81 I hx he
def n32(E:XK)(C:Addr)(t:TA):TS:=λ_ σ H=>t σ H λvs H1=>vs.length≤sizeLine∧∀ e,H1 e=none→E (.ref C) (some e) H1
section
variable {X:Cx}{x:Str}{C:Addr}{E:XK}{e₀:Expr}{rest:List Expr}{t:TA}{np cpos pos:Pos}
theorem K41(hE:L90 X E)(hc:X.calm=true)(hg:Gl X x)(hm:X.mg x=some (.ref C))(hq:PySem.W.excIn X.K C [.type "ValueError",.type "Exception",.type "BaseException",.type "object"] "ValueError.__new__"=true)(ha:PA X (e₀::rest) t)
  (hdb:(x == ("__debug__":Str))=false:=by decide) (he:starEach (e₀::rest) X.env=(false,eval e₀ X.env)::starEach rest X.env:=by rfl) (hpl:(backTo cpos (starEach rest X.env)).any (·.1)=false:=by rfl) :
  PS X (.Raise (some (.Call (.Name x np) (e₀::rest) [] cpos)) none pos) (n32 E C t):=by
 intro pins s σ H D I h
 obtain⟨bm,N,nm,q,bs,hdct,sn,sub,ab,col,dd,k0,k1,k2,k3,k5,mN,hC,hN,hni,T⟩:=Y41 I.ok.mod.kin hq
 refine wpAny_Raise_call_subT (C:=C) (nm:=nm) (q:=q) (N:=N) (bs:=bs) (bm:=bm) (hdct:=hdct) (sn:=sn) (sub:=sub) (ab:=ab) (col:=col) (dd:=dd) (k0:=k0) (k1:=k1) (k2:=k2) (k3:=k3) (k5:=k5)
  PySem.F.excBase_ValueError (mN:=mN) (T.hasType PySem.F.excBase_ValueError.hasBase) (I.ok.hd hc) (by rw[he];exact hpl) hni (Z30 I hg hm ⟨rfl,?_⟩ hdb)
 have k:=ha cpos pins s σ H _ I h
 rw[he] at k ⊢
 refine Calls.evalArgs_plain (thn k λus s2 ⟨vs,H2,I2,r,z,q⟩=>⟨rfl,by show us.length≤_;rw[← r.length];exact z,I2.bk _ _ hC,hN.keeps I2.bk,T.keeps I2.bk,λh' e hx=>?_⟩)
 refine hE pins σ H2 s2 h' e _ us I2 hx (q e ?_)
 cases z:H2 e with
 |none=>rfl
 |some o=>obtain⟨u,eu⟩:=(I2.hok e o z).there;rw[hx.new] at eu;cases eu
end
open PySem PySem.Spec PyProof.Rows PySem.W PySem.Builtin PySem.Builtin.ObjectAttr PySem.Builtin.Getset_descriptor
end L2
namespace L2
open PySem PySem.Spec PyProof.Rows
def recAt(c:Addr)(qual:Str):Heap→Prop:=λh=>h.CodeRec (.ref c) qual
def Tab(H:Hp)(P:Addr)(qual:Str):Prop:=∃ ps:Array Value,H P=some (.tbl ps)∧TriplesOk ps.toList∧∀ pos c,codeAmong pos ps.toList=some c→∃ c',c=.ref c'∧H c'=some (.ext (recAt c' qual))
def BMain(mg:Str→Option Value)(h:Heap):Prop:=∃ bm ob,mg "__builtins__"=some (.ref bm)∧bm≠builtinsNs∧h.get? bm=some ob∧ob.cls=.type "module"∧ob.dict=some builtinsNs∧ob.data=.plain
theorem n42{P:Program}{w:World}{X:Cx}:Passes (CX1 P w) X (λ_ _ _=>False):=λ_ _ _ _ _ _ _ h=>by
 obtain⟨_,_,_,_,_,_,_,_,_,_,_,_,_,e⟩:=h
 exact e.elim
theorem Tab.same{H H':Hp}{P:Addr}{q:Str}(t:Tab H P q)(s:a30 H H'):Tab H' P q:=by
 obtain⟨ps,e,tr,h⟩:=t
 refine⟨ps,s _ _ e,tr,λpos c hc=>?_⟩
 obtain⟨c',e1,e2⟩:=h pos c hc
 exact⟨c',e1,s _ _ e2⟩
end L2
namespace SS
open PySem
def bts(m:Nat):List Nat:=(range 8).filter λi=>m.testBit i
def add(m v:Nat):Nat:=m ||| 2 ^ v
def tbl(led:Bool)(m:Nat):SetTable:=if (bts m).length < 5 then⟨7,(bts m).toArray,#[],0,led,0,true⟩ else⟨31,(bts m).toArray,#[],0,led,1,true⟩
def q41(led:Bool)(m v:Nat):SetTable:={ tbl led m with place:=(bts (add m v)).toArray }
def pos(m v:Nat):Nat:=((bts m).filter (· < v)).length
def hs(m:Nat):Array Int:=((bts m).map Int.ofNat).toArray
def full(led:Bool)(m v:Nat):Bool:=if (q41 led m v).tooFull then decide ((q41 led m v).relaid (hs (add m v)) (SetTable.grown ((bts m).length + 1))=some (tbl led (add m v),(range ((bts m).length + 1)).toArray)) else decide (q41 led m v=tbl led (add m v))
def chk(led:Bool)(m v:Nat):Bool:=if m.testBit v then decide (add m v=m) else decide (add m v < 256)&&decide ((tbl led m).freeSlot (v:Int)=some (v,false))&&decide ((tbl led m).put v=(q41 led m v,pos m v))&&(q41 led m v).fits ((bts m).length + 1) &&
 decide ((bts m).take (pos m v)++v::(bts m).drop (pos m v)=bts (add m v))&&decide ((bts (add m v)).length=(bts m).length + 1)&&(tbl led (add m v)).fits ((bts m).length + 1)&&full led m v
theorem Y51:([true,false].all λled=>(range 256).all λm=>(tbl led m).fits (bts m).length&&(range 8).all λv=>chk led m v)=true:=by decide +kernel
theorem D60(led:Bool)(hm:m < 256):(tbl led m).fits (bts m).length=true∧∀ v,v < 8→chk led m v=true:=by
 have h:=List.all_eq_true.mp (List.all_eq_true.mp Y51 led (by cases led <;> simp)) m (List.mem_range.mpr hm)
 rw[and_eq_true] at h
 exact⟨h.1,λv hv=>List.all_eq_true.mp h.2 v (List.mem_range.mpr hv)⟩
theorem D70:i∈bts m↔i < 8∧m.testBit i=true:=by unfold bts;rw[mem_filter,mem_range]
abbrev led(w:World):Bool:=!(w.params.followText "set-order")
def ent(g:Nat→Tok)(m:Nat):Array (Int × Value):=((bts m).map λ(i:Nat)=>((i:Int),Value.int i (g i))).toArray
def A40(w:World)(h:Heap)(a:Addr)(m:Nat):Prop:=∃ o ep g,h.get? a=some o∧o.ExactSet∧o.data=.set (ent g m) ep (tbl (led w) m)
theorem d70(g:Nat→Tok)(m:Nat):(ent g m).size=(bts m).length:=by unfold ent;simp
theorem Y61(g:Nat→Tok)(u:Tok)(hv:m.testBit v=false)(h:(bts m).take (pos m v)++v::(bts m).drop (pos m v)=bts (add m v)):SetTable.insertAt (ent g m) (pos m v) ((v:Int),Value.int v u)=ent (λi=>if i=v then u else g i) (add m v):=by
 have hne:∀ i∈bts m,i≠v:=λi hi e=>by subst e;rw[(D70.mp hi).2] at hv;cases hv
 have e1:(bts m).map (λ(i:Nat)=>((i:Int),Value.int i (g i)))=(bts m).map λ(i:Nat)=>((i:Int),Value.int i (if i=v then u else g i)):=map_congr_left λi hi=>by rw[if_neg (hne i hi)]
 unfold ent
 rw[← h,e1]
 apply Array.toList_inj.mp
 unfold SetTable.insertAt
 simp
 exact take_of_length_le (by simp)
theorem K51(g:Nat→Tok)(m:Nat):(ent g m).map (·.1)=hs m:=by
 unfold ent hs
 rw[map_toArray,List.map_map];rfl
theorem K61{α:Type}(xs:Array α):((range xs.size).toArray).filterMap (xs[·]?)=xs:=by
 apply Array.toList_inj.mp
 rw[Array.toList_filterMap]
 exact PySem.W.krv_all xs
section
variable {P:Program}{w:World}{A:Around}{E:Value→Shared→Prop}{s:Shared}{a:Addr}{m:Nat}
theorem I20{v:Nat}(h:v < 8):(intKind P w).hash (v:Int)=v:=by
 have:∀ v:Nat,v < 8→hashInt (v:Int)=v:=by decide
 exact this v h
theorem elems(g:Nat→Tok)(m:Nat):ElemsOf (intKind P w) (ent g m).toList:=λe he=>by
 unfold ent at he
 obtain⟨i,hi,rfl⟩:=List.mem_map.mp he
 exact⟨⟨i,intKind_is _ _ _ _,(I20 (D70.mp hi).1).symm⟩,rfl⟩
theorem C52(g:Nat→Tok){v:Nat}(u:Tok){led:Bool}(hm:m < 256)(hv:v < 8)(hb:m.testBit v=false):layNew (tbl led m) (ent g m) (v:Int) (.int v u)=(ent (λi=>if i=v then u else g i) (add m v),q41 led m v,false,false):=by
 have h:=(D60 led hm).2 v hv
 unfold chk at h
 rw[hb,if_neg Bool.false_ne_true] at h
 simp only[and_eq_true,decide_eq_true_eq] at h
 obtain⟨⟨⟨⟨⟨⟨⟨_,h1⟩,h2⟩,h3⟩,h4⟩,h5⟩,_⟩,_⟩:=h
 unfold layNew
 rw[h1]
 dsimp only
 rw[h2]
 dsimp only
 rw[Y61 g u hb h4,d70,h5]
 unfold SetTable.orStandIn
 rw[h3];rfl
theorem Y71(g:Nat→Tok){v:Nat}{led:Bool}(hm:m < 256)(hv:v < 8)(hb:m.testBit v=false)(ht:(q41 led m v).tooFull=true):relayAll (q41 led m v) (ent g (add m v)) (SetTable.grown (ent g (add m v)).size)=(ent g (add m v),tbl led (add m v),false):=by
 have h:=(D60 led hm).2 v hv
 unfold chk at h
 rw[hb,if_neg Bool.false_ne_true] at h
 simp only[and_eq_true,decide_eq_true_eq] at h
 obtain⟨⟨⟨⟨⟨⟨⟨_,_⟩,_⟩,_⟩,_⟩,h5⟩,h6⟩,h7⟩:=h
 unfold full at h7
 rw[if_pos ht,decide_eq_true_eq] at h7
 unfold relayAll
 rw[K51,d70,h5,h7]
 dsimp only
 have e:((range ((bts m).length + 1)).toArray).filterMap ((ent g (add m v))[·]?)=ent g (add m v):=by
  have:=K61 (ent g (add m v))
  rw[d70,h5] at this;exact this
 rw[e,d70,h5,h6]
 have c:coversAll (range ((bts m).length + 1)).toArray ((bts m).length + 1)=true:=by
  unfold coversAll
  rw[List.isPerm_iff]
 rw[c];rfl
theorem Q91(hm:m < 256)(hv:v < 8):add m v < 256:=by
 have h:=(D60 true hm).2 v hv
 unfold chk at h
 cases hb:m.testBit v with
 |true=>rw[hb,if_pos rfl,decide_eq_true_eq] at h;rw[h];exact hm
 |false =>
  rw[hb,if_neg Bool.false_ne_true] at h
  simp only[and_eq_true,decide_eq_true_eq] at h
  exact h.1.1.1.1.1.1.1
theorem add_same(hm:m < 256)(hv:v < 8)(hb:m.testBit v=true):add m v=m:=by
 have h:=(D60 true hm).2 v hv
 unfold chk at h
 rw[hb,if_pos rfl,decide_eq_true_eq] at h;exact h
theorem n52{v:Nat}(hm:m < 256)(hv:v < 8)(hS:A40 w s.heap a m)(h:∀ b h',Heap.SameBut a s.heap h'→A40 w h' a (add m v)→Q b { s with heap:=h' }) :
  wpAny (model P w) A (setAddHashed a (.int v u) ((intKind P w).hash v)) Q E s:=by
 obtain⟨o,ep,g,ho,hex,hd⟩:=hS
 have hf:(tbl (led w) m).fits (ent g m).size=true:=by rw[d70];exact(D60 _ hm).1
 have hsz:(bts m).length≤8:=Nat.le_trans (length_filter_le _ _) (by simp)
 have hb:(ent g m).size < scanBound:=by rw[d70];unfold scanBound;omega
 have hel:=elems (P:=P) (w:=w) g m
 unfold setAddHashed setAddHashedIn
 refine wpAny_holding (wpAny_bind (wpAny_setState_of ho hd hf ?_))
 dsimp only
 rw[byScan_of (knd:=intKind P w) rfl hb hel]
 simp only[↓reduceIte]
 unfold setAddByScan
 refine wpAny_bind ?_
 refine wpAny_bind (wpAny_rule ?_)
 refine wpAny_bind (wpAny_setScan_of (intKind_is _ _ _ _) ho hd hf hel ?_)
 cases hr:List.findIdx? (λe=>(intKind P w).is (v:Int) e.2) (ent g m).toList with
 |some j =>
  dsimp only
  obtain⟨hj,hpj,_⟩:=List.findIdx?_eq_some_iff_getElem.mp hr
  have hmem:(ent g m).toList[j]∈(ent g m).toList:=getElem_mem hj
  unfold ent at hmem
  obtain⟨i,hi,e⟩:=List.mem_map.mp hmem
  rw[show(ent g m).toList[j]=((i:Int),Value.int i (g i)) from e.symm] at hpj
  have hiv:i=v:=by
   have:=(intKind P w).inj _ _ _ hpj (intKind_is P w i (g i))
   omega
  subst hiv
  have q:=h false s.heap (Heap.SameBut.refl a s.heap) (by rw[add_same hm hv (D70.mp hi).2];exact⟨o,ep,g,ho,hex,hd⟩)
  exact wpAny_pure (wpAny_pure q)
 |none =>
  dsimp only
  have hbt:m.testBit v=false:=by
   cases hk:m.testBit v with
   |false=>rfl
   |true =>
    have:((v:Int),Value.int v (g v))∈(ent g m).toList:=List.mem_map.mpr ⟨v,D70.mpr ⟨hv,hk⟩,rfl⟩
    have:=List.findIdx?_eq_none_iff.mp hr _ this
    rw[intKind_is] at this;cases this
  rw[I20 hv,C52 g u hm hv hbt]
  have hgw:∀ (b:Bool) {s₁:Shared}{Q':Unit→Shared→Prop},Q' () s₁→wpAny (model P w) A (match b with | true=>rule "set.scan.the-table-gave-way" | false=>pure ()) Q' E s₁:=λb s₁ Q' hq=>by cases b <;> first | exact wpAny_pure hq | exact wpAny_rule hq
  dsimp only
  refine wpAny_bind (wpAny_pure ?_)
  have hpl:(q41 (led w) m v).plain=true:=by unfold q41 tbl;split <;> rfl
  rw[if_pos hpl,hashByValue_scannable 8 rfl]
  refine wpAny_bind (wpAny_pure ?_)
  simp only[plainKind,↓reduceIte]
  have hk:=(D60 (led w) hm).2 v hv
  unfold chk at hk
  rw[hbt,if_neg Bool.false_ne_true] at hk
  simp only[and_eq_true,decide_eq_true_eq] at hk
  obtain⟨⟨_,h6⟩,h7⟩:=hk
  have hlt:=Q91 hm hv
  have hsz2:(bts (add m v)).length≤8:=Nat.le_trans (length_filter_le _ _) (by simp)
  have hb2:∀ g,(ent g (add m v)).size≤sizeLine:=λg=>by rw[d70,sizeLine_eq];omega
  have get:∀ {h0:Heap}{o:Obj}{es ep t} (es':Array (Int × Value)) (t':SetTable),h0.get? a=some o→o.data=.set es ep t→(h0.update a (Obj.putSet es' t')).get? a=some { o with data:=.set es' (ep + 1) t' }:=λ{h0 o es ep t} es' t' e1 e2=>by
   have:=Heap.get?_update_self (Obj.putSet es' t') e1 (by rw[putSet_of es' t' e2];rfl)
   rw[putSet_of es' t' e2] at this;exact this
  refine wpAny_bind (wpAny_storeSet_of ho hd ?_ (hb2 _))
  have g1:=get (ent (λi=>if i=v then u else g i) (add m v)) (q41 (led w) m v) ho hd
  have sb1:=Heap.SameBut.update s.heap a (Obj.putSet (ent (λi=>if i=v then u else g i) (add m v)) (q41 (led w) m v))
  simp only[Bool.not_false,Bool.true_and]
  unfold full at h7
  split
  ·rename_i ht
   rw[if_pos ht] at h7
   rw[Y71 _ hm hv hbt ht]
   dsimp only
   refine wpAny_bind (wpAny_pure ?_)
   refine wpAny_bind (wpAny_storeSet_of g1 rfl ?_ (hb2 _))
   exact wpAny_pure (wpAny_pure (h _ _ (sb1.trans (Heap.SameBut.update _ a _)) ⟨_,_,_,get _ _ g1 rfl,hex,rfl⟩))
  ·rename_i ht
   rw[if_neg ht,decide_eq_true_eq] at h7
   exact wpAny_pure (wpAny_pure (h _ _ sb1 ⟨_,ep + 1,_,g1,hex,congrArg _ h7⟩))
end
open PySem PySem.W PyProof.Rows
def met(val:Nat→Nat):Nat→Nat
 |0=>0
 |i + 1=>add (met val i) (val i)
theorem v01(h:∀ i,val i < 8):∀ i,met val i < 256
 |0=>by show(0:Nat) < 256;decide
 |i + 1=>Q91 (v01 h i) (h i)
section
variable {P:Program}{w:World}{A:Around}
theorem A40.keep(x:A40 w h a m)(k:∀ o,h.get? a=some o→h'.get? a=some o):A40 w h' a m:=by
 obtain⟨o,ep,g,ho,r⟩:=x
 exact⟨o,ep,g,k o ho,r⟩
theorem Y81{R:Result→Shared→Prop}{I:Addr}{fp wr:List Addr}{G:Array GenState→Array GenState→Prop}{n:Nat}{Pv:Nat→Value→Prop}{St:Nat→Shared→Prop}(W:WalksS P w A.in1 I fp wr G n Pv St)(S:Addr)(hf:S ∉ fp){val:Nat→Nat}(hv:∀ i,val i < 8)(hp:∀ i v,Pv i v→∃ t,v=.int (val i) t) :
  ∀ (k i:Nat) (s:Shared),i + k=n→St i s→A40 w s.heap S (met val i)→(∀ s',Moved (S::wr) G s s'→A40 w s'.heap S (met val n)→R (.ok (.ret .none)) s')→codeAny (model P w) A (.builtin "set.update.loop" ⟨[.ref S,.ref I],[]⟩) R s:=by
 have hw:S ∉ wr:=λh=>hf (W.sub _ h)
 intro k
 induction k with
 |zero =>
  intro i s hk st x q
  have hk:i=n:=hk
  subst hk
  refine codeAny_builtin F.entry_set_update_loop ?_
  rw[Around.under_plainId F.plain_set_update_loop _]
  refine wpAny_bind (m:=pyNext (.ref I)) (W.done s _ _ st λs1 mv=>?_)
  exact wpAny_pure (q s1 (mv.mono λb hb=>mem_cons_of_mem _ hb) (x.keep λo=>mv.heap S o hw))
 |succ k ih =>
  intro i s hk st x q
  refine codeAny_builtin F.entry_set_update_loop ?_
  rw[Around.under_plainId F.plain_set_update_loop _]
  refine wpAny_bind (m:=pyNext (.ref I)) (W.item i s _ _ (by omega) st λv s1 pv st1 mv=>?_)
  obtain⟨t,rfl⟩:=hp i v pv
  refine wpAny_bind (m:=holding _ (setAdd S (.int (val i) t))) (wpAny_holding ?_)
  unfold setAdd
  refine wpAny_holding (wpAny_bind ((intKind P w).pyHash (k:=(val i:Int)) (intKind_is _ _ _ _) ?_))
  refine n52 (s:={ s1 with toks:=s1.toks + 1 }) (v01 hv i) (hv i) (x.keep λo=>mv.heap S o hw) λb h2 sb x2=>?_
  have off:∀ c o,c≠S→s1.heap.get? c=some o→h2.get? c=some o:=λc o hc e=>(sb.2 c hc).trans e
  refine wpAny_pure ⟨plainId_quiet F.plain_set_update_loop _,ih (i + 1) _ (by omega) (W.frame _ s1 _ _ st1 (le_succ _) λc hc o e=>off c o (λz=>hf (z ▸ hc)) e) x2 λs2 mv2 x3=>?_⟩
  exact q s2 (Moved.trans W.gtrans ((mv.mono λb hb=>mem_cons_of_mem _ hb).then_heap (le_succ _) λc o hc e=>off c o (λz=>hc (z ▸ mem_cons_self)) e) mv2) x3
end
section
variable {P:Program}{w:World}{A:Around}{E:Value→Shared→Prop}{s:Shared}
abbrev R01(w:World):Obj:={ cls:=.type "set",dict:=none,data:=.set #[] 0 (.fresh 0 0 (led w)) }
theorem Y91(a:Value)(h:Q (.ref s.heap.objs.size) { s with heap:=s.heap.push (R01 w) }):codeAny (model P w) A (.call (.builtin "set.__new__") ⟨[.type "set",a],[]⟩) (wants Q E) s:=by
 refine codeAny_of_tree ?_
 refine wpAny_bind (m:=checkBuiltinCall _ _) (wpAny_of_eq (F.newCall_set_1 a) (wpAny_pure ⟨plainId_quiet F.plain_set_new _,codeAny_builtin F.entry_set_new ?_⟩))
 rw[Around.under_plainId F.plain_set_new _]
 have hsub:=sub_set_self
 obtain⟨hp,g,d,tk,os⟩:=s
 unfold Builtin.«set.__new__» Builtin.Frozenset.newClass
 dsimp only
 wp_walk
 refine wpAny_askSetting (wpAny_pure ?_)
 dsimp only
 simp only[newObj]
 exact wpAny_bind (wpAny_alloc (wpAny_pure (wpAny_pure h)))
theorem Z01{h:Heap}:A40 w (h.push (R01 w)) h.objs.size 0:=⟨_,0,λ_=>0,Heap.get?_push_size _ rfl,⟨rfl,rfl,rfl⟩,rfl⟩
structure R02(P:Program)(w:World)(T:String)(l:Addr)(o it:Obj)(n:Nat)(Pv:Nat→Value→Prop)(St:Addr→Nat→Heap→Prop):Prop where
 ty:o.cls=.type T
 f1:isSubtype (.type T) (.type "set")=pure false
 f2:isSubtype (.type T) (.type "frozenset")=pure false
 f3:(Value.type T == Value.type "dict")=false
 iter:∀ (A:Around) (E:Value→Shared→Prop) (s:Shared) (Q:Value→Shared→Prop),s.heap.get? l=some o→Q (.ref s.heap.objs.size) { s with heap:=s.heap.push it }→wpAny (model P w) A (pyIter (.ref l)) Q E s
 walk:∀ (A:Around) (I:Addr),A.handled=none→l≠I→Walks P w A I [I,l] [I] n Pv (St I)
 zero:∀ h:Heap,h.get? l=some o→St h.objs.size 0 (h.push it)
set_option maxHeartbeats 3200000 in
theorem h71{T:String}{l:Addr}{o it:Obj}{n:Nat}{Pv:Nat→Value→Prop}{St:Addr→Nat→Heap→Prop}{val:Nat→Nat}{Q:Value→Shared→Prop}(D:R02 P w T l o it n Pv St)(hh:A.handled=none)(ho:s.heap.get? l=some o)(hv:∀ i,val i < 8)(hp:∀ i v,Pv i v→∃ t,v=.int (val i) t)
  (h:∀ (h':Heap) (tk:Nat),A40 w h' s.heap.objs.size (met val n)→(∀ b u,s.heap.get? b=some u→h'.get? b=some u)→Q (.ref s.heap.objs.size) { s with heap:=h',toks:=tk }):wpAny (model P w) A (call (.type "set") [.ref l]) Q E s:=by
 obtain⟨c,tl,hmro⟩:=F.called_set.mro
 have hmade:=F.called_set.made
 have hsub:=F.called_set.sub
 have h1:=F.called_set.notType
 have h2:=F.called_set.canCreate
 have hct:=F.typeCall_set_1 (.ref l)
 refine wpAny_call (codeAny_of_tree ?_)
 show wpAny _ _ (callAny (.type "set") _) _ _ _
 refine wpAny_pure ⟨Code.quiet_builtin _ (by decide +kernel),codeAny_builtin F.entry_type_call ?_⟩
 rw[Around.under_plain (weight_type_call_type "set" [.ref l] []) rfl]
 repeat (any_goals (first | assumption | wp_step))
 refine codeAny_mono (Y91 (.ref l) (E:=E) (Q:=λv s1=>v=.ref s.heap.objs.size∧s1={ s with heap:=s.heap.push (R01 w) }) ⟨rfl,rfl⟩) λr s1 hr=>?_
 cases r with
 |error e=>exact hr
 |ok fl =>
  cases fl with
  |ret v =>
   obtain⟨rfl,rfl⟩:=hr
   have hT:Shared.TypeIs { s with heap:=s.heap.push (R01 w) } (.ref s.heap.objs.size) "set":=⟨_,Heap.get?_push_size _ rfl,rfl⟩
   have hli:=F.called_set.init.lookup
   have hbi:=F.called_set.init.bind (.ref s.heap.objs.size)
   have lS:l < s.heap.objs.size:=lt_size ho
   have ho1:(s.heap.push (R01 w)).get? l=some o:=Heap.get?_push_of_some _ ho
   repeat (any_goals (first | assumption | wp_step))
   refine codeAny_mono (codeAny_call_builtin (R:=wants (λr s2=>r=.none∧∃ h' tk,s2={ s with heap:=h',toks:=tk }∧A40 w h' s.heap.objs.size (met val n)∧∀ b u,s.heap.get? b=some u→h'.get? b=some u) E) F.called_set.init.plain F.entry_set_init (check_set_init_1 hT ?_)) λr2 s2 hr2=>?_
   ·have f1:=D.f1
    have f2:=D.f2
    have f3:=D.f3
    obtain⟨ocls,odict,odata,oslots⟩:=o
    have hc:ocls=.type T:=D.ty
    subst hc
    unfold Builtin.«set.__init__» noKeywords Builtin.Frozenset.updateFrom
    generalize hPI:pyIter=PI
    wp_walk
    subst hPI
    refine D.iter _ _ _ _ ho1 ?_
    refine wpAny_bind (wpAny_runValue ?_)
    have hI:(s.heap.push (R01 w)).objs.size=s.heap.objs.size + 1:=size_push ..
    have nI:l≠(s.heap.push (R01 w)).objs.size:=by rw[hI];exact Nat.ne_of_lt (lt_succ_of_lt lS)
    have nS:s.heap.objs.size ∉ [(s.heap.push (R01 w)).objs.size,l]:=by
     rw[hI]
     simp only[mem_cons,not_mem_nil,or_false,not_or]
     exact⟨Nat.ne_of_lt (lt_succ_self _),ne_of_gt lS⟩
    refine Y81 ((D.walk _ _ (by simp[hh]) nI).toS) s.heap.objs.size nS hv hp n 0 _ (zero_add _) (D.zero _ ho1) (Z01.keep λu e=>Heap.get?_push_of_some _ e) λs' mv x=>?_
    obtain⟨h',g',d',tk',os'⟩:=s'
    have eg:g'=s.gens:=mv.gens
    have ed:d'=s.drawn:=mv.drawn
    have eo:os'=s.os:=mv.os
    subst eg;subst ed;subst eo
    refine wpAny_pure (wpAny_pure ⟨rfl,h',tk',rfl,x,λb u e=>?_⟩)
    have lb:=lt_size e
    refine mv.heap b u (λz=>?_) (Heap.get?_push_of_some _ (Heap.get?_push_of_some _ e))
    simp only[mem_cons,not_mem_nil,or_false] at z
    rw[hI] at z
    rcases z with z | z
    ·exact Nat.ne_of_lt lb z
    ·exact Nat.ne_of_lt (lt_succ_of_lt lb) z
   ·cases r2 with
    |error e=>exact hr2
    |ok fl2 =>
     cases fl2 with
     |ret r =>
      obtain⟨rfl,h',tk,rfl,x,kp⟩:=hr2
      repeat (any_goals (first | assumption | wp_step))
      exact h _ _ x kp
     |_=>exact hr2.elim
  |_=>exact hr.elim
end
def h81(m:Nat):Nat→Nat
 |0=>0
 |i + 1=>(bts m).getD i 0 + 1
theorem v21:((range 256).all λm=>(range ((bts m).length + 1)).all λi=>SetTable.below (bts m).toArray (h81 m i) == i)=true:=by decide +kernel
theorem below_at(hm:m < 256)(hi:i≤(bts m).length):SetTable.below (bts m).toArray (h81 m i)=i :=
 eq_of_beq (List.all_eq_true.mp (List.all_eq_true.mp v21 m (List.mem_range.mpr hm)) i (List.mem_range.mpr (Nat.lt_succ_of_le hi)))
theorem l20:∀ {l:List α}{i:Nat} (h:i < l.length),(l[i]::l.eraseIdx i).Perm l
 |x::r,0,_=>.refl _
 |x::r,i + 1,h=>(List.Perm.swap x _ _).trans ((l20 (l:=r) (i:=i) (Nat.lt_of_succ_lt_succ h)).cons x)
theorem v31(next:Nat→Nat):∀ (n k:Nat) (left:List α) (out:Array α),left.length=n→((pickOrder.go next n k left out).toList).Perm (out.toList++left)
 |0,k,left,out,h=>by
  have:left=[]:=List.eq_nil_of_length_eq_zero h
  subst this
  simp[pickOrder.go]
 |n + 1,k,left,out,h=>by
  have hl:next k % left.length < left.length:=Nat.mod_lt _ (by omega)
  have e:left[next k % left.length]?=some left[next k % left.length]:=List.getElem?_eq_getElem hl
  unfold pickOrder.go
  rw[e]
  refine(v31 next n (k + 1) _ _ (by rw[length_eraseIdx_of_lt hl];omega)).trans ?_
  rw[Array.toList_push,append_assoc]
  exact List.Perm.append_left _ (l20 hl)
theorem v41(next:Nat→Nat)(xs:Array α):(pickOrder next xs).toList.Perm xs.toList:=by
 have:=v31 next xs.size 0 xs.toList #[] (by simp)
 rw[nil_append] at this
 exact this
def ord(w:World)(a ep:Nat)(es:Array (Int × Value)):Array (Int × Value):=if w.params.followText "set-order" then pickOrder (w.params.setOrder a ep) es else es
theorem h91(w:World)(a ep:Nat)(es:Array (Int × Value)):(ord w a ep es).toList.Perm es.toList:=by
 unfold ord
 split
 ·exact v41 _ _
 ·exact .refl _
theorem M00(w:World)(a ep:Nat)(es:Array (Int × Value)):(ord w a ep es).size=es.size:=by
 have:=(h91 w a ep es).length_eq
 simpa using this
def v51(w:World)(m i:Nat):Nat:=if w.params.followText "set-order" then 0 else h81 m i
def itO(w:World)(S ep n m i:Nat):Obj:={ cls:=.type "set_iterator",data:=.fields #[rawInt (v51 w m i),rawInt i,.ref S,rawInt n,rawInt ep] }
theorem c90:Slot "set_iterator" "__next__" "set_iterator.__next__":=.of (owner:="set_iterator") (n:="__next__") (by rw[typeLookup_type,builtinLookup_eq_fast];kernel_rfl) (by decide +kernel) (by decide +kernel) (by decide +kernel) (by first | exact .inl (by decide +kernel) | exact .inr (by decide +kernel)) (by rw[isSubtype_type];kernel_rfl)
theorem o50:Slot "set_iterator" "__iter__" "set_iterator.__iter__":=.of (owner:="set_iterator") (n:="__iter__") (by rw[typeLookup_type,builtinLookup_eq_fast];kernel_rfl) (by decide +kernel) (by decide +kernel) (by decide +kernel) (by first | exact .inl (by decide +kernel) | exact .inr (by decide +kernel)) (by rw[isSubtype_type];kernel_rfl)
theorem n30:entryFor table "set_iterator.__next__"=some Builtin.«set_iterator.__next__»:=entryFor_of_tree (by kernel_rfl)
theorem H10:entryFor table "set.__iter__"=some Builtin.«frozenset.__iter__»:=entryFor_alias (id':="frozenset.__iter__") (by kernel_rfl) rfl (by decide +kernel) (by kernel_rfl)
theorem A50:entryFor table "set_iterator.__iter__"=some Builtin.«dict_keyiterator.__iter__»:=entryFor_alias (id':="dict_keyiterator.__iter__") (by kernel_rfl) rfl (by decide +kernel) (by kernel_rfl)
theorem D80:Manifest.owners.lookup (String.ofList "rotareti_tes".toList.reverse)=some Manifest.sig_set_iterator:=by kernel_rfl
theorem o60(a:Value):argsOk "set_iterator.__next__" ⟨[a],[]⟩:=by
 unfold argsOk;rw[signature?_of (id:="set_iterator.__next__") (n:="__txen__".toList) (o:="rotareti_tes".toList) (by kernel_rfl) D80];kernel_rfl
theorem D90(a:Value):argsOk "set_iterator.__iter__" ⟨[a],[]⟩:=by
 unfold argsOk;rw[signature?_of (id:="set_iterator.__iter__") (n:="__reti__".toList) (o:="rotareti_tes".toList) (by kernel_rfl) D80];kernel_rfl
section
variable {P:Program}{w:World}{A:Around}{E:Value→Shared→Prop}{s:Shared}{S ep m:Nat}{g:Nat→Tok}{o:Obj}
theorem T10(b:Bool)(m:Nat):(tbl b m).plain=true:=by unfold tbl;split <;> rfl
theorem Z11(b:Bool)(m:Nat):(tbl b m).led=b:=by unfold tbl;split <;> rfl
theorem v61(b:Bool)(m:Nat):(tbl b m).place=(bts m).toArray:=by unfold tbl;split <;> rfl
theorem M10(hm:m < 256):(tbl (led w) m).fits (ent g m).size=true:=by rw[d70];exact(D60 _ hm).1
theorem K71(hm:m < 256)(ho:s.heap.get? S=some o)(hx:o.ExactSet)(hd:o.data=.set (ent g m) ep (tbl (led w) m))(h:Q (.ref s.heap.objs.size) { s with heap:=s.heap.push (itO w S ep (bts m).length m 0) }):wpAny (model P w) A (pyIter (.ref S)) Q E s:=by
 have hT:s.TypeIs (.ref S) "set":=⟨o,ho,hx.1⟩
 have hf:=M10 (w:=w) (g:=g) hm
 have hp:=T10 (led w) m
 refine wpAny_pyIter_slot hT F.slot_set_iter (wpAny_call_entry F.slot_set_iter hT H10 ?_ (F.args_set_iter_1 _))
 unfold Builtin.«frozenset.__iter__» Builtin.Frozenset.slot0 slotArgs
 simp only[isEmpty_nil,Bool.not_true,false_eq_true,↓reduceIte,bind_assoc,length_nil,bne_self_eq_false]
 unfold Builtin.Frozenset.addrOf Builtin.Frozenset.sizeOf
 refine wpAny_bind (wpAny_pure (wpAny_bind (wpAny_pure (wpAny_bind (wpAny_bind (wpAny_setEntries_of ho hd hf (wpAny_pure ?_)))))))
 refine wpAny_bind ?_
 have dr:wpAny (model P w) A.in1 (setDrawn S) (λb s'=>b=false∧s'=s) E s:=by
  unfold setDrawn setsByText
  refine wpAny_bind (wpAny_setState_of ho hd hf (wpAny_bind (wpAny_bind (wpAny_askSetting (wpAny_pure (wpAny_pure ⟨?_,rfl⟩))))))
  generalize tbl (led w) m=t at hp
  obtain⟨t1,t2,t3,t4,t5,t6,t7⟩:=t
  cases hp
  show(!w.params.followText "set-order"&&_)=false
  cases w.params.followText "set-order" <;> rfl
 refine wpAny_mono dr (λb s' hb=>?_) λ_ _ e=>e
 obtain⟨rfl,rfl⟩:=hb
 rw[if_neg Bool.false_ne_true]
 refine wpAny_bind (wpAny_pure ?_)
 refine wpAny_bind (wpAny_setEpoch_of ho hd hf ?_)
 refine wpAny_bind (wpAny_newObj_type (wpAny_pure ⟨_,rfl,"set_iterator",_,⟨_,Heap.get?_push_size _ rfl,rfl⟩,c90.lookup,?_⟩))
 have e:itO w S ep (bts m).length m 0={ cls:=.type "set_iterator",data:=.fields #[rawInt 0,rawInt 0,.ref S,rawInt (ent g m).size,rawInt ep] }:=by
  unfold itO v51
  rw[d70]
  split <;> rfl
 rw[e] at h
 exact h
theorem v71(hm:m < 256)(hi:i≤(bts m).length)(ho:s.heap.get? S=some o)(hd:o.data=.set (ent g m) ep (tbl (led w) m)):wpAny (model P w) A (setNext S (v51 w m i) i ep) (λr s'=>s'=s∧r=(ord w S ep (ent g m))[i]?.map λe=>(e.2,v51 w m (i + 1))) E s:=by
 have hf:=M10 (w:=w) (g:=g) hm
 have hp:=T10 (led w) m
 have hl:=Z11 (led w) m
 have hpl:=v61 (led w) m
 unfold setNext
 refine wpAny_bind (wpAny_setState_of ho hd hf ?_)
 unfold setsByText
 refine wpAny_bind (wpAny_bind (wpAny_askSetting (wpAny_pure ?_)))
 dsimp only
 unfold ord v51
 show wpAny _ _ (if w.params.followText "set-order"=true then _ else _) _ _ _
 cases hb:w.params.followText "set-order" with
 |true =>
  rw[if_pos rfl]
  rw[if_neg (by simp)]
  refine wpAny_bind ?_
  unfold setWalk setsByText
  refine wpAny_bind (wpAny_setState_of ho hd hf (wpAny_bind (wpAny_bind (wpAny_askSetting (wpAny_pure ?_)))))
  show wpAny _ _ (if w.params.followText "set-order"=true then _ else _) _ _ _
  rw[hb,if_pos rfl]
  refine wpAny_bind (wpAny_askSetting (wpAny_pure (wpAny_pure ⟨rfl,?_⟩)))
  simp only[↓reduceIte]
  rfl
 |false =>
  simp only[false_eq_true,↓reduceIte]
  have hl:(tbl (led w) m).led=true:=by rw[hl];show(!w.params.followText "set-order")=true;rw[hb];rfl
  generalize tbl (led w) m=t at hp hl hpl
  obtain⟨t1,t2,t3,t4,t5,t6,t7⟩:=t
  cases hp;cases hl
  have hpl:t2=(bts m).toArray:=hpl
  subst hpl
  refine wpAny_bind (wpAny_pure (wpAny_pure ⟨rfl,?_⟩))
  rw[below_at hm hi]
  by_cases hi':i < (bts m).length
  ·have e1:(ent g m)[i]?=some (((bts m)[i]:Int),Value.int ((bts m)[i]:Nat) (g (bts m)[i])):=by unfold ent;simp[hi']
   have e2:(bts m).toArray[i]?=some (bts m)[i]:=by simp[hi']
   rw[e1,e2]
   show some _=some _
   have e3:h81 m (i + 1)=(bts m)[i] + 1:=by show(bts m).getD i 0 + 1=_;simp[hi']
   rw[e3]
  ·have e1:(ent g m)[i]?=none:=by unfold ent;simp;omega
   rw[e1];rfl
theorem K81(hm:m < 256)(hi:i < (bts m).length)(ho:s.heap.get? S=some o)(hd:o.data=.set (ent g m) ep (tbl (led w) m))(hI:s.heap.get? I=some (itO w S ep (bts m).length m i))
  (h:∀ v h',(ord w S ep (ent g m))[i]?.map (·.2)=some v→Heap.SameBut I s.heap h'→h'.get? I=some (itO w S ep (bts m).length m (i + 1))→Q (some v) { s with heap:=h' }):wpAny (model P w) A (pyNext (.ref I)) Q E s:=by
 have hT:s.TypeIs (.ref I) "set_iterator":=⟨_,hI,rfl⟩
 have hf:=M10 (w:=w) (g:=g) hm
 unfold pyNext
 refine wpAny_bind (wpAny_attempt (wpAny_callSpecial?_slot (name:=Str.ofString "__next__") hT c90 (wpAny_call_entry c90 hT n30 ?_ (o60 _))))
 unfold Builtin.«set_iterator.__next__» slotArgs
 simp only[isEmpty_nil,Bool.not_true,false_eq_true,↓reduceIte,bind_assoc,length_nil,bne_self_eq_false]
 refine wpAny_bind (wpAny_pure ?_)
 refine wpAny_bind (wpAny_fieldsOf hI rfl ?_)
 dsimp only [rawInt]
 refine wpAny_bind (wpAny_setEntries_of ho hd hf ?_)
 rw[if_neg (by rw[d70];simp)]
 refine wpAny_bind (wpAny_mono (v71 (i:=i) hm (Nat.le_of_lt hi) ho hd) (λr s' hr=>?_) λ_ _ e=>e)
 obtain⟨rfl,rfl⟩:=hr
 have hsz:i < (ord w S ep (ent g m)).size:=by rw[M00,d70];exact hi
 have e1:(ord w S ep (ent g m))[i]?=some (ord w S ep (ent g m))[i]:=by simp[hsz]
 simp only[toNat_natCast,e1,map_some]
 unfold itO at hI
 refine wpAny_bind (wpAny_setField_rec hI (by simp) λh1 hI1 sb1=>?_)
 refine wpAny_bind (wpAny_setField_rec hI1 (by simp) λh2 hI2 sb2=>?_)
 refine wpAny_pure ⟨_,rfl,wpAny_pure (h _ h2 (by rw[e1];rfl) (sb1.trans sb2) ?_)⟩
 unfold itO
 simpa [rawInt] using hI2
theorem Z21(hh:A.handled=none)(hm:m < 256)(ho:s.heap.get? S=some o)(hd:o.data=.set (ent g m) ep (tbl (led w) m))(hI:s.heap.get? I=some (itO w S ep (bts m).length m (bts m).length))
  (h:∀ h',Heap.ExtBut I s.heap h'→Q none { s with heap:=h' }):wpAny (model P w) A (pyNext (.ref I)) Q E s:=by
 have hT:s.TypeIs (.ref I) "set_iterator":=⟨_,hI,rfl⟩
 have hf:=M10 (w:=w) (g:=g) hm
 unfold pyNext
 refine wpAny_bind (wpAny_attempt (wpAny_callSpecial?_slot (name:=Str.ofString "__next__") hT c90 (wpAny_call_entry c90 hT n30 ?_ (o60 _))))
 unfold Builtin.«set_iterator.__next__» slotArgs
 simp only[isEmpty_nil,Bool.not_true,false_eq_true,↓reduceIte,bind_assoc,length_nil,bne_self_eq_false]
 refine wpAny_bind (wpAny_pure ?_)
 refine wpAny_bind (wpAny_fieldsOf hI rfl ?_)
 dsimp only [rawInt]
 refine wpAny_bind (wpAny_setEntries_of ho hd hf ?_)
 rw[if_neg (by rw[d70];simp)]
 refine wpAny_bind (wpAny_mono (v71 (i:=(bts m).length) hm (Nat.le_refl _) ho hd) (λr s' hr=>?_) λ_ _ e=>e)
 obtain⟨rfl,rfl⟩:=hr
 have e1:(ord w S ep (ent g m))[(bts m).length]?=none:=by simp[M00,d70]
 simp only[toNat_natCast,e1,Option.map_none]
 unfold itO at hI
 refine wpAny_bind (wpAny_setField_rec hI (by simp) λh1 hI1 sb1=>wpAny_bind ?_)
 simp only[newExc,newTuple]
 refine wpAny_bind (wpAny_newObj_type ?_ (by size_fits))
 refine wpAny_bind (m:=firstArgMember _ _) (wpAny_of_eq (a:=Value.none) (by first | rfl | (simp only[firstArgMember];rfl)) ?_)
 refine wpAny_newObj_type ?_ (by size_fits)
 simp only[raiseNew]
 refine wpAny_bind (wpAny_handled ?_)
 rw[show A.in1.handled=none from hh]
 refine wpAny_bind (wpAny_pure (wpAny_throw ?_))
 refine wpAny_bind (wpAny_isInstance (T:="StopIteration") (b:=true) ⟨_,Heap.get?_push_size _ rfl,rfl⟩ isSubtype_stop ?_)
 exact wpAny_pure (h _ ((sb1.extBut.push _).push _))
theorem v81(hh:A.handled=none)(hm:m < 256)(hx:o.ExactSet)(hd:o.data=.set (ent g m) ep (tbl (led w) m))(hn:S≠I):Walks P w A I [I,S] [I] (bts m).length (λi v=>(ord w S ep (ent g m))[i]?.map (·.2)=some v) (λi h=>h.get? S=some o∧h.get? I=some (itO w S ep (bts m).length m i)) where
 sub:=λb hb=>by simp at hb;simp[hb]
 frame:=λ_ _ _ st hk=>⟨hk S (by simp) _ st.1,hk I (by simp) _ st.2⟩
 item:=λi s Q E hi st hQ=>K81 hm hi st.1 hd st.2 λv h' hv sb hI=>hQ v h' s.toks hv ⟨(sb.2 S hn).trans st.1,hI⟩ λb u hb e=>(sb.2 b λz=>hb (by simp[z])).trans e
 done:=λs Q E st hQ=>Z21 hh hm st.1 hd st.2 λh' kp=>hQ h' s.toks λb u hb e=>kp b u (λz=>hb (by simp[z])) e
 self:=λi s Q E st hQ=>by
  have hT:s.TypeIs (.ref I) "set_iterator":=⟨_,st.2,rfl⟩
  refine wpAny_pyIter_slot hT o50 (wpAny_call_entry o50 hT A50 ?_ (D90 _))
  show wpAny _ _ (ret (.ref I)) _ _ s
  exact wpAny_pure ⟨_,rfl,"set_iterator",_,hT,c90.lookup,hQ⟩
set_option maxHeartbeats 3200000 in
theorem a61(hh:A.handled=none)(hm:m < 256)(ho:s.heap.get? S=some o)(hx:o.ExactSet)(hd:o.data=.set (ent g m) ep (tbl (led w) m))
  (hQ:∀ h' tk,s.heap.objs.size < h'.objs.size→(∀ b u,s.heap.get? b=some u→h'.get? b=some u)→Q ((ord w S ep (ent g m)).toList.map (·.2)) { s with heap:=h',toks:=tk }):wpAny (model P w) A (collect (.ref S)) Q E s:=by
 have lS:S < s.heap.objs.size:=lt_size ho
 have hsz:(bts m).length≤8:=Nat.le_trans (length_filter_le _ _) (by simp)
 unfold collect
 refine wpAny_bind (wpAny_runValue (codeAny_builtin F.entry_proto_collect ?_))
 rw[Around.under_plainId F.plain_proto_collect _]
 refine wpAny_bind (m:=newList []) (wpAny_newObj_type (wpAny_pure ⟨plainId_quiet F.plain_list_iadd _,codeAny_builtin F.entry_list_iadd ?_⟩))
 rw[Around.under_plainId F.plain_list_iadd _]
 show wpAny _ A.in1 (Builtin.List.listExtendWith (.ref s.heap.objs.size) (.ref S) (.ref s.heap.objs.size)) _ _ _
 have oS:(s.heap.push { cls:=.type "list",data:=.seq ([]:List Value).toArray }).get? S=some o:=Heap.get?_push_of_some _ ho
 have hL:(s.heap.push { cls:=.type "list",data:=.seq ([]:List Value).toArray }).get? s.heap.objs.size=some { cls:=.type "list",data:=.seq ([]:List Value).toArray }:=Heap.get?_push_size _ rfl
 have hT:Shared.TypeIs { s with heap:=s.heap.push { cls:=.type "list",data:=.seq ([]:List Value).toArray } } (.ref S) "set":=⟨o,oS,hx.1⟩
 unfold Builtin.List.listExtendWith
 refine wpAny_bind (wpAny_typeOf hT ?_)
 have c1:Builtin.List.listSameRef (.ref s.heap.objs.size) (.ref S)=false:=by simp[Builtin.List.listSameRef];exact ne_of_gt lS
 have c2:(Value.type "set" == Value.type "list")=false:=by decide
 have c3:(Value.type "set" == Value.type "tuple")=false:=by decide
 simp only[c1,c2,c3,Bool.or_false,false_eq_true,if_false]
 refine wpAny_bind (K71 hm oS hx hd (wpAny_bind (wpAny_holding ?_)))
 have hT2:∀ u,Shared.TypeIs { s with heap:=(s.heap.push { cls:=.type "list",data:=.seq ([]:List Value).toArray }).push u } (.ref S) "set":=λu=>⟨o,Heap.get?_push_of_some _ oS,hx.1⟩
 unfold Builtin.List.listLengthHint
 refine wpAny_bind (wpAny_specialOf (hT2 _) F.slot_set_len.lookup ?_)
 wp_delta
 refine wpAny_bind (wpAny_isInstance (T:="set") (b:=true) (hT2 _) (by rw[isSubtype_type];kernel_rfl) ?_)
 show wpAny _ A.in1 (typeOf (Value.ref S) >>= _) _ _ _
 refine wpAny_bind (wpAny_typeOf (hT2 _) (wpAny_pure ?_))
 rw[if_pos (by decide)]
 refine wpAny_bind (wpAny_rule ?_)
 generalize hI:s.heap.push { cls:=.type "list",data:=.seq ([]:List Value).toArray }=h1 at oS hL hT2
 have sz1:h1.objs.size=s.heap.objs.size + 1:=by rw[← hI];exact size_push ..
 have hL2:(h1.push (itO w S ep (bts m).length m 0)).get? s.heap.objs.size=some { cls:=.type "list",data:=.seq ([]:List Value).toArray }:=Heap.get?_push_of_some _ hL
 refine wpAny_bind (m:=Builtin.List.listTouch (.ref s.heap.objs.size)) ?_
 show wpAny _ A.in1 (updateSeq s.heap.objs.size (·.push .none) >>= λ_=>updateSeq s.heap.objs.size (·.pop)) _ _ _
 refine wpAny_bind (wpAny_updateSeq hL2 rfl ?_)
 have hL3:=Heap.get?_update_self (Obj.mapSeq (·.push Value.none)) hL2 rfl
 refine wpAny_updateSeq hL3 rfl ?_
 have hL4:=Heap.get?_update_self (Obj.mapSeq (·.pop)) hL3 rfl
 have off:∀ b u,b≠s.heap.objs.size→(h1.push (itO w S ep (bts m).length m 0)).get? b=some u→(((h1.push (itO w S ep (bts m).length m 0)).update s.heap.objs.size (Obj.mapSeq (·.push Value.none))).update s.heap.objs.size (Obj.mapSeq (·.pop))).get? b=some u :=
  λb u hb e=>(Heap.get?_update_other _ _ (Ne.symm hb)).trans ((Heap.get?_update_other _ _ (Ne.symm hb)).trans e)
 have nI:S≠h1.objs.size:=by rw[sz1];exact Nat.ne_of_lt (lt_succ_of_lt lS)
 have nS:s.heap.objs.size ∉ [h1.objs.size,S]:=by
  rw[sz1]
  simp only[mem_cons,not_mem_nil,or_false,not_or]
  exact⟨Nat.ne_of_lt (lt_succ_self _),ne_of_gt lS⟩
 refine wpAny_pure ⟨plainId_quiet F.plain_extend_loop _,codeAny_extend_loopS (v81 (P:=P) (by simp[hh]) hm hx hd nI).toS (by rw[sizeLine_eq];omega) s.heap.objs.size nS _ (bts m).length 0 _ _ _ rfl (zero_le _) ⟨off _ _ (Nat.ne_of_lt lS) (Heap.get?_push_of_some _ oS),off _ _ (by rw[sz1];exact(Nat.ne_of_lt (lt_succ_self _)).symm) (Heap.get?_push_size _ rfl)⟩ hL4 (ItemsOf.nil _) λs' acc c mv hS' it=>?_⟩
 refine wpAny_bind (m:=load s.heap.objs.size) (wpAny_load hS' (wpAny_pure ?_))
 have ea:acc.toList=(ord w S ep (ent g m)).toList.map (·.2):=by
  refine List.ext_getElem? λj=>?_
  rw[List.getElem?_map,Array.getElem?_toList,Array.getElem?_toList]
  cases e:acc[j]? with
  |none =>
   have hj:(bts m).length≤j:=by rw[← it.1];simpa using e
   have:(ord w S ep (ent g m))[j]?=none:=by simp[M00,d70,hj]
   rw[this];rfl
  |some v=>rw[it.2 j v e]
 rw[ea]
 obtain⟨h',g',d',tk',os'⟩:=s'
 have eg:g'=s.gens:=mv.gens
 have ed:d'=s.drawn:=mv.drawn
 have eo:os'=s.os:=mv.os
 subst eg;subst ed;subst eo
 refine hQ h' tk' (lt_size hS') λb u e=>mv.heap b u (λz=>?_) (off b u (Nat.ne_of_lt (lt_size e)) (Heap.get?_push_of_some _ (hI ▸ Heap.get?_push_of_some _ e)))
 have lb:=lt_size e
 simp only[mem_cons,not_mem_nil,or_false] at z
 rw[sz1] at z
 rcases z with z | z
 ·exact Nat.ne_of_lt lb z
 ·exact Nat.ne_of_lt (lt_succ_of_lt lb) z
end
end SS
namespace Q
open PySem L2
abbrev Z:=Option (Int × Bool)
inductive S where
 |d (x:D) | fr (xs:List D) | z
inductive R (α:Type) where
 |ok (a:α) (z:Z) | er (c:Nat) (z:Z)
abbrev M(α:Type):=Z→Option (R α)
def M.ret{α:Type}(a:α):M α:=λz=>some (.ok a z)
def M.no{α:Type}:M α:=λ_=>none
def M.of{α:Type}:Option α→M α
 |some a=>M.ret a
 |none=>M.no
def M.bind{α β:Type}(m:M α)(f:α→M β):M β:=λz=>match m z with
 |some (.ok a z1)=>f a z1
 |some (.er c z1)=>some (.er c z1)
 |none=>none
def M.calm{α:Type}(m:M α):M α:=λz=>match m z with
 |some (.ok a z1)=>some (.ok a z1)
 |_=>none
abbrev Env:=List (Option S)
def pl:List S→Option D
 |[.d x]=>some x
 |[.fr xs]=>some (.lst xs)
 |_=>none
def one:List S→Option S
 |[s]=>some s
 |_=>none
def plS:S→S
 |.fr xs=>.d (.lst xs)
 |s=>s
def plD:S→Option D
 |.d x=>some x
 |.fr xs=>some (.lst xs)
 |.z=>none
def plA:List S→Option (List D)
 |[]=>some []
 |.d x::r=>(plA r).map (x::·)
 |.fr xs::r=>(plA r).map (.lst xs::·)
 |.z::_=>none
inductive Bi where
 |add | sub | mul | fdiv | mod | pow
inductive Cm where
 |eq | ne | lt | le | gt | ge | is | isnt | mem | nmem
inductive Bf where
 |len | sorted | tuple | list | sum | min | max | abs | all | int | sset | x82
inductive Ty where
 |int | bool | tuple | list | str | seq
inductive Pat where
 |v (i:Nat) | tup (ps:Pat) | nil | cons (p r:Pat)
inductive It where
 |seq | rng1 | rng2 | zip | enum
inductive Ex where
 |nil | cons (a r:Ex)
 |var (i:Nat) | con (x:D) | gint (g:Str) (i:Int)
 |tup (as:Ex) | lst (as:Ex)
 |bin (o:Bi) (a b:Ex) | cmp (o:Cm) (a b:Ex) | neg (a:Ex)
 |not (a:Ex) | and (a b:Ex) | or (a b:Ex) | orT (a b:Ex) | ite (c a b:Ex)
 |ch (o o':Cm) (a b c:Ex)
 |bf (f:Bf) (as:Ex) | isi (t:Ty) (a:Ex)
 |idx (a i:Ex) | sl (a lo hi:Ex)
 |call (f:Nat) (as:Ex)
 |comp (own:Nat) (capt:List Nat) (p:Pat) (it:It) (src cond el:Ex)
 |zget (i k:Nat) | lrng (b:Bool) (as:Ex)
abbrev most:Nat:=100000
def I30:Nat:=2 ^ 4000
mutual
noncomputable def eqD:D→D→Bool
 |.non,.non=>true
 |.bl a,.bl b=>a == b
 |.int a,.int b=>a == b
 |.str a,.str b=>a == b
 |.bl a,.int b=>(if a then 1 else 0) == b
 |.int a,.bl b=>a == (if b then 1 else 0)
 |.tup a,.tup b=>n62 a b
 |.lst a,.lst b=>n62 a b
 |.dct,.dct=>true
 |_,_=>false
noncomputable def n62:List D→List D→Bool
 |[],[]=>true
 |a::r,b::q=>eqD a b&&n62 r q
 |_,_=>false
end
mutual
noncomputable def ltD:D→D→Option Bool
 |.int a,.int b=>some (decide (a < b))
 |.tup a,.tup b=>K91 a b
 |_,_=>none
noncomputable def K91:List D→List D→Option Bool
 |[],[]=>some false
 |[],_::_=>some true
 |_::_,[]=>some false
 |a::r,b::q=>if eqD a b then K91 r q else ltD a b
end
mutual
noncomputable def x40:D→Bool
 |.dct=>false
 |.tup l=>g90 l
 |.lst l=>g90 l
 |.str x=>PyData.strOk x
 |_=>true
noncomputable def g90:List D→Bool
 |[]=>true
 |x::r=>x40 x&&g90 r
end
mutual
noncomputable def deep:D→Nat
 |.tup l=>j90 l + 1
 |.lst l=>j90 l + 1
 |_=>0
noncomputable def j90:List D→Nat
 |[]=>0
 |x::r=>Nat.max (deep x) (j90 r)
end
def okD(d:D):Bool:=x40 d&&decide (deep d≤40)
def h52(l:List D):Bool:=g90 l&&decide (j90 l≤39)
theorem e60{c:Prop}[Decidable c]{α:Type}{a:Option α}{b:α}(h:(if c then a else none)=some b):c∧a=some b:=by
 by_cases k:c
 ·rw[if_pos k] at h;exact⟨k,h⟩
 ·rw[if_neg k] at h;cases h
def eqO(a b:D):Option Bool:=if okD a&&okD b then some (eqD a b) else none
def eqE:D→D→Option Bool
 |.tup l,.tup []=>some l.isEmpty
 |_,_=>none
def eqQ(a b:D):Option Bool:=if okD a&&okD b then some (eqD a b) else eqE a b
def ltO(a b:D):Option Bool:=if okD a&&okD b then ltD a b else none
def memD(x:D)(l:List D):Bool:=l.any λy=>eqD y x
def a71(x:D)(l:List D):Option Bool:=if okD x&&h52 l then some (memD x l) else none
def a81:List D→Option (List Int)
 |[]=>some []
 |.int i::r=>(a81 r).map (i::·)
 |_=>none
def E00:Bi→D→D→Option S
 |.add,.int i,.int j=>some (.d (.int (i + j)))
 |.add,.tup a,.tup b=>if a.length + b.length≤most then some (.d (.tup (a++b))) else none
 |.add,.lst a,.lst b=>if a.length + b.length≤most then some (.fr (a++b)) else none
 |.sub,.int i,.int j=>some (.d (.int (i - j)))
 |.mul,.int i,.int j=>if i.natAbs < I30∧j.natAbs < I30 then some (.d (.int (i * j))) else none
 |.mul,.tup a,.int j=>if 0≤j∧j.toNat * a.length≤most∧j < 1000000 then some (.d (.tup (replicate j.toNat a).flatten)) else none
 |.mul,.lst a,.int j=>if 0≤j∧j.toNat * a.length≤most∧j < 1000000 then some (.fr (replicate j.toNat a).flatten) else none
 |.fdiv,.int i,.int j=>if 0 < j∧j.natAbs < I30 then some (.d (.int (i / j))) else none
 |.mod,.int i,.int j=>if 0 < j then some (.d (.int (i % j))) else none
 |.pow,.int i,.int j=>if 0≤j∧j≤1000∧i.natAbs < 2 ^ 64 then some (.d (.int (i ^ j.toNat))) else none
 |_,_,_=>none
def T20:D→Bool
 |.non=>true
 |_=>false
def neO:D→D→Option Bool
 |.dct,.tup _=>some true
 |a,b=>(eqO a b).map (!·)
def A60:Cm→D→D→Option Bool
 |.eq,a,b=>eqQ a b
 |.ne,a,b=>neO a b
 |.lt,a,b=>ltO a b
 |.gt,.int a,.int b=>some (decide (b < a))
 |.le,.int a,.int b=>some (decide (a≤b))
 |.le,.tup a,.tup b=>(a81 a).bind λns=>(a81 b).map λms=>HT.leB ns ms
 |.ge,.int a,.int b=>some (decide (b≤a))
 |.is,.bl a,.bl b=>some (a == b)
 |.is,a,.non=>some (T20 a)
 |.isnt,.bl a,.bl b=>some (a != b)
 |.isnt,a,.non=>some (!T20 a)
 |.mem,a,.tup l=>a71 a l
 |.mem,a,.lst l=>a71 a l
 |.nmem,a,.tup l=>(a71 a l).map (!·)
 |.nmem,a,.lst l=>(a71 a l).map (!·)
 |_,_,_=>none
def y12:Ty→D→Bool
 |.int,.int _=>true
 |.int,.bl _=>true
 |.bool,.bl _=>true
 |.tuple,.tup _=>true
 |.list,.lst _=>true
 |.str,.str _=>true
 |.seq,.tup _=>true
 |.seq,.lst _=>true
 |_,_=>false
def asB:D→Option Bool
 |.bl b=>some b
 |_=>none
def n72:D→Option (List D)
 |.tup l=>some l
 |_=>none
def asI:D→Option Int
 |.int i=>some i
 |_=>none
def a91:D→Option (List D)
 |.tup l=>some l
 |.lst l=>some l
 |_=>none
mutual
noncomputable def flt:D→List Int
 |.int i=>[i]
 |.tup l=>K72 l
 |_=>[]
noncomputable def K72:List D→List Int
 |[]=>[]
 |x::r=>flt x++K72 r
end
mutual
noncomputable def eqT:D→D→Bool
 |.int i,.int j=>i == j
 |.tup a,.tup b=>Z00 a b
 |_,_=>false
noncomputable def Z00:List D→List D→Bool
 |[],[]=>true
 |x::r,y::q=>eqT x y&&Z00 r q
 |_,_=>false
end
def v91:D→Nat
 |.int _=>0
 |.tup (.int _::_)=>1
 |.tup (.tup _::_)=>2
 |_=>3
def l30(x y:D):Bool:=v91 y == v91 x&&(ltD x y == some (MySort.g60 (flt x) (flt y))&&(eqT x y || !(flt x == flt y)))
def s40(l:List D):Bool:=l.all λx=>decide (v91 x < 3)&&(okD x&&l.all (l30 x))
def q51(k:D):List D→List D
 |[]=>[k]
 |y::r=>if MySort.g60 (flt y) (flt k) then y::q51 k r else k::y::r
def A70:List D→List D
 |[]=>[]
 |k::r=>q51 k (A70 r)
def x50(k m:Nat):D:=.tup ((TS.D30 k 0 m).map λ(i:Nat)=>.int i)
def h70(k:Nat):List D:=(range (2 ^ k)).map (x50 k)
def L01(k:Nat):List D:=(TS.sN k).map (x50 k)
def C62(l:List D):Option (List D):=((range 9).find? λk=>Z00 l (h70 k)).map L01
def sortedS(x:D):Option S:=(a91 x).bind λl=>if l.length < 64∧s40 l=true then some (.fr (A70 l)) else(C62 l).map S.fr
def L11:List D→Option Int
 |[]=>some 0
 |.int i::r=>(L11 r).map (i + ·)
 |_=>none
def I40:List D→Option (List Nat)
 |[]=>some []
 |.int i::r=>if 0≤i∧i < 8 then(I40 r).map (i.toNat::·) else none
 |_=>none
def bfD:Bf→List D→Option S
 |.len,[x]=>(a91 x).map λl=>.d (.int l.length)
 |.tuple,[x]=>(a91 x).map λl=>.d (.tup l)
 |.list,[x]=>(a91 x).map λl=>.fr l
 |.all,[.lst l]=>(l.mapM asB).map λbs=>.d (.bl (bs.all id))
 |.sorted,[x]=>sortedS x
 |.sum,[x]=>((a91 x).bind L11).map λi=>.d (.int i)
 |.min,[.int i,.int j]=>some (.d (.int (if j < i then j else i)))
 |.max,[.int i,.int j]=>some (.d (.int (if j > i then j else i)))
 |.abs,[.int i]=>some (.d (.int (if i < 0 then -i else i)))
 |.int,[.bl b]=>some (.d (.int (if b then 1 else 0)))
 |.int,[.int i]=>some (.d (.int i))
 |.sset,[x]=>(a91 x).bind λl=>(I40 l).map λns=>.fr (((range 8).filter λi=>ns.contains i).map λ(n:Nat)=>.int n)
 |_,_=>none
def T30:D→D→Option D
 |.tup l,.int i=>atI l i
 |.lst l,.int i=>atI l i
 |_,_=>none
def cutD(l:List D)(lo hi:Option Int):List D:=(l.drop (HT.sIx l.length 0 lo)).take (HT.sIx l.length l.length hi - HT.sIx l.length 0 lo)
def slD:D→Option Int→Option Int→Option S
 |.tup l,lo,hi=>some (.d (.tup (cutD l lo hi)))
 |.lst l,lo,hi=>some (.fr (cutD l lo hi))
 |_,_,_=>none
def w01:List S→Option (Option Int)
 |[]=>some none
 |[.d (.int i)]=>some (some i)
 |_=>none
def t40:List D→Nat→List D
 |[],_=>[]
 |x::r,i=>.tup [.int i,x]::t40 r (i + 1)
def B20:List D→List D→List D
 |x::r,y::q=>.tup [x,y]::B20 r q
 |_,_=>[]
def inR:Int→Bool
 |.ofNat n=>Nat.blt n 100000
 |.negSucc n=>Nat.blt n 99999
theorem E10:inR j=true↔-100000 < j∧j < 100000:=by
 cases j with
 |ofNat n=>show ble (n + 1) 100000=true↔_;rw[Nat.ble_eq];show _↔-100000 < (n:Int)∧(n:Int) < 100000;omega
 |negSucc n=>show ble (n + 1) 99999=true↔_;rw[Nat.ble_eq,Int.negSucc_eq];omega
def itD:It→List D→Option (List D)
 |.seq,[x]=>a91 x
 |.rng1,[.int j]=>if inR j=true then some ((range j.toNat).map λ(i:Nat)=>D.int i) else none
 |.rng2,[.int i,.int j]=>if inR i=true∧inR j=true then some ((range (j - i).toNat).map λ(k:Nat)=>D.int (i + k)) else none
 |.zip,[.tup a,.tup b]=>some (B20 a b)
 |.zip,[.lst a,.lst b]=>some (B20 a b)
 |.enum,[.tup a]=>some (t40 a 0)
 |.enum,[.lst a]=>some (t40 a 0)
 |_,_=>none
def lrS:Bool→List D→S
 |true,xs=>.d (.tup xs)
 |false,xs=>.fr xs
def lrN:Bool→Str
 |true=>"tuple"
 |false=>"list"
def lrD:List D→Option (List D)
 |[x]=>itD .rng1 [x]
 |l=>itD .rng2 l
mutual
noncomputable def f20:Pat→D→Env→Option Env
 |.v i=>λx ρ=>some (ρ.set i (some (.d x)))
 |.tup ps=>λx ρ=>match x with
  |.tup l=>bindL ps l ρ
  |_=>none
 |.nil=>λ_ _=>none
 |.cons _ _=>λ_ _=>none
noncomputable def bindL:Pat→List D→Env→Option Env
 |.nil=>λl ρ=>match l with
  |[]=>some ρ
  |_=>none
 |.cons p r=>λl ρ=>match l with
  |x::l=>(f20 p x ρ).bind λρ=>bindL r l ρ
  |_=>none
 |.v _=>λ_ _=>none
 |.tup _=>λ_ _=>none
end
def turns(f:D→M (Option D)):List D→M (List D)
 |[]=>M.ret []
 |x::r=>M.bind (f x) λo=>M.bind (turns f r) λl=>M.ret (match o with | some y=>y::l | none=>l)
def r80(fc fe:Env→M (List S))(p:Pat)(ρ0:Env)(x:D):M (Option D):=M.bind (M.of (f20 p x ρ0)) λρ'=>M.bind (fc ρ') λc=>match c with
 |[]=>M.bind (fe ρ') λy=>M.bind (M.of (pl y)) λy=>M.ret (some y)
 |[.d (.bl true)]=>M.bind (fe ρ') λy=>M.bind (M.of (pl y)) λy=>M.ret (some y)
 |[.d (.bl false)]=>M.ret none
 |_=>M.no
def w11(k:Nat):Option (Option S)→Z→Option (R (List S))
 |some (some .z),some p=>if k=0 then some (.ok [.d (.int p.1)] (some p)) else if k=1 then some (.ok [.d (.bl p.2)] (some p)) else none
 |_,_=>none
abbrev FT:=Bool→Nat→List S→M S
abbrev f30(F:FT):FT:=λ_=>F true
def ev:FT→Ex→Env→M (List S)
 |F,.nil=>λ_=>M.ret []
 |F,.cons a r=>λρ=>M.bind (ev F a ρ) λx=>M.bind (M.of (one x)) λs=>M.bind (ev F r ρ) λy=>M.ret (s::y)
 |F,.var i=>λρ=>match ρ[i]? with
  |some (some s)=>M.ret [plS s]
  |_=>M.no
 |F,.con x=>λ_=>M.ret [.d x]
 |F,.gint _ i=>λ_=>M.ret [.d (.int i)]
 |F,.tup as=>λρ=>M.bind (ev F as ρ) λl=>M.bind (M.of (plA l)) λds=>if ds.length≤most then M.ret [.d (.tup ds)] else M.no
 |F,.lst as=>λρ=>M.bind (ev F as ρ) λl=>M.bind (M.of (plA l)) λds=>if ds.length≤most then M.ret [.fr ds] else M.no
 |F,.bin o a b=>λρ=>M.bind (ev F a ρ) λx=>M.bind (M.of (pl x)) λx=>M.bind (ev F b ρ) λy=>M.bind (M.of (pl y)) λy=>M.bind (M.of (E00 o x y)) λs=>M.ret [s]
 |F,.cmp o a b=>λρ=>M.bind (ev F a ρ) λx=>M.bind (M.of (pl x)) λx=>M.bind (ev F b ρ) λy=>M.bind (M.of (pl y)) λy=>M.bind (M.of (A60 o x y)) λb=>M.ret [.d (.bl b)]
 |F,.neg a=>λρ=>M.bind (ev F a ρ) λx=>M.bind (M.of ((pl x).bind asI)) λi=>M.ret [.d (.int (-i))]
 |F,.not a=>λρ=>M.bind (ev F a ρ) λx=>M.bind (M.of ((pl x).bind asB)) λb=>M.ret [.d (.bl !b)]
 |F,.and a b=>λρ=>M.bind (ev F a ρ) λx=>M.bind (M.of ((pl x).bind asB)) λc=>if c then M.bind (ev F b ρ) λy=>M.bind (M.of ((pl y).bind asB)) λc=>M.ret [.d (.bl c)] else M.ret [.d (.bl false)]
 |F,.or a b=>λρ=>M.bind (ev F a ρ) λx=>M.bind (M.of ((pl x).bind asB)) λc=>if c then M.ret [.d (.bl true)] else M.bind (ev F b ρ) λy=>M.bind (M.of ((pl y).bind asB)) λc=>M.ret [.d (.bl c)]
 |F,.orT a b=>λρ=>M.calm (M.bind (ev F a ρ) λx=>M.bind (M.of ((pl x).bind n72)) λl=>if l.isEmpty then M.bind (ev F b ρ) λy=>M.bind (M.of ((pl y).bind n72)) λl=>M.ret [.d (.tup l)] else M.ret [.d (.tup l)])
 |F,.ite c a b=>λρ=>M.bind (ev F c ρ) λx=>M.bind (M.of ((pl x).bind asB)) λc=>if c then ev F a ρ else ev F b ρ
 |F,.ch o o' a b c=>λρ=>M.bind (ev F a ρ) λx=>M.bind (M.of (pl x)) λx=>M.bind (ev F b ρ) λy=>M.bind (M.of (pl y)) λy=>M.bind (M.of (A60 o x y)) λk =>
   if k then M.bind (ev F c ρ) λw=>M.bind (M.of (pl w)) λw=>M.bind (M.of (A60 o' y w)) λk=>M.ret [.d (.bl k)] else M.ret [.d (.bl false)]
 |F,.bf f as=>λρ=>M.bind (ev F as ρ) λl=>M.bind (M.of (plA l)) λds=>M.bind (M.of (bfD f ds)) λs=>M.ret [s]
 |F,.isi t a=>λρ=>M.bind (ev F a ρ) λx=>M.bind (M.of (pl x)) λx=>M.ret [.d (.bl (y12 t x))]
 |F,.idx a i=>λρ=>M.bind (ev F a ρ) λx=>M.bind (M.of (pl x)) λx=>M.bind (ev F i ρ) λy=>M.bind (M.of (pl y)) λy=>M.bind (M.of (T30 x y)) λr=>M.ret [.d r]
 |F,.sl a lo hi=>λρ=>M.bind (ev F a ρ) λx=>M.bind (M.of (pl x)) λx=>M.bind (ev F lo ρ) λu=>M.bind (M.of (w01 u)) λu=>M.bind (ev F hi ρ) λv=>M.bind (M.of (w01 v)) λv=>M.bind (M.of (slD x u v)) λs=>M.ret [s]
 |F,.call f as=>λρ=>M.bind (ev F as ρ) λl=>M.bind (F false f (l.map plS)) λs=>M.ret [s]
 |F,.comp own capt p it src cond el=>λρ=>M.bind (ev F src ρ) λl=>M.bind (M.of ((plA l).bind (itD it))) λxs=>if xs.length≤most then M.bind (M.calm (turns (r80 (ev F cond) (ev F el) p (replicate own none++capt.map λi=>(ρ[i]?).getD none)) xs)) λys=>M.ret [.fr ys] else M.no
 |F,.zget i k=>λρ z=>w11 k ρ[i]? z
 |F,.lrng b as=>λρ=>M.bind (ev F as ρ) λl=>M.bind (M.of ((plA l).bind lrD)) λxs=>M.ret [lrS b xs]
def T40(ρ:Env):Env:=ρ.map λo=>match o with
 |some .z=>none
 |o=>o
inductive Sm where
 |nil | seq (s r:Sm)
 |set (p:Pat) (e:Ex) | ret (e:Ex) | iff (c:Ex) (t e:Sm)
 |fr (p:Pat) (it:It) (src:Ex) (b:Sm) | whl (c:Ex) (b:Sm)
 |rais (c:Nat) | exp (e:Ex)
 |app (i:Nat) (e:Ex) | aug (o:Bi) (i:Nat) (e:Ex)
 |newz (i:Nat) (f:Nat) (as:Ex) | zset (i:Nat) (e:Ex) | apop (i j:Nat) (e:Ex)
inductive O where
 |nx (ρ:Env) | rt (s:S)
mutual
noncomputable def bare:D→Bool
 |.lst _=>false
 |.tup l=>t50 l
 |.dct=>false
 |_=>true
noncomputable def t50:List D→Bool
 |[]=>true
 |x::r=>bare x&&t50 r
end
def T50:S→Bool
 |.d x=>bare x
 |.fr xs=>t50 xs
 |.z=>true
def b01(ρ:Env):Env:=ρ.map λo=>o.map plS
def H20(b:Bool):Option S→Option S
 |some (.fr xs)=>some (if b then .fr xs else .d (.lst xs))
 |o=>o
theorem i01(b:Bool)(ρ:Env):ρ.map (H20 b)=if b then ρ else b01 ρ:=by
 have h:∀ o:Option S,H20 b o=if b then o else o.map plS:=λo=>by
  match o with
  |some (.fr xs)=>cases b <;> rfl
  |some (.d _)=>cases b <;> rfl
  |some .z=>cases b <;> rfl
  |none=>cases b <;> rfl
 rw[show H20 b=λo=>if b then o else o.map plS from funext h]
 cases b with
 |true=>exact map_id ρ
 |false=>rfl
def o70(s:S)(ρ:Env):Env:=ρ.map (H20 (T50 s))
def T60:Pat→S→Env→Option Env
 |p,.d x,ρ=>f20 p x ρ
 |.v i,s,ρ=>if i < ρ.length then some (ρ.set i (some s)) else none
 |_,_,_=>none
def Z10(f:D→Env→M O):List D→Env→M O
 |[],ρ=>M.ret (.nx ρ)
 |x::r,ρ=>M.bind (f x ρ) λo=>match o with
  |.nx ρ=>Z10 f r ρ
  |.rt s=>M.ret (.rt s)
def R11(c:Env→M (List S))(f:Env→M O):Nat→Env→M O
 |0,_=>M.no
 |n + 1,ρ=>M.bind (c ρ) λx=>M.bind (M.of ((pl x).bind asB)) λk=>if k then M.bind (f ρ) λo=>match o with
  |.nx ρ=>R11 c f n ρ
  |.rt s=>M.ret (.rt s)
  else M.ret (.nx ρ)
def ownAt(ρ:Env)(i:Nat):Option (List D):=match ρ[i]? with
 |some (some (.fr xs))=>some xs
 |_=>none
def K82(xs:List D)(i:Int)(y:D):Option (List D):=(ixN xs.length i).map λj=>xs.set j y
def Z31:D→Bool
 |.tup l=>t50 l
 |.lst l=>t50 l
 |_=>true
def T70(l:List S):Bool:=match plA l with
 |some ds=>ds.all Z31
 |none=>false
def noS:S→Option S
 |.z=>none
 |s=>some s
def Z41:(it:It)→(e:Ex)→Option {i:Nat // it=.seq∧e=.cons (.var i) .nil}
 |.seq,.cons (.var i) .nil=>some ⟨i,rfl,rfl⟩
 |_,_=>none
def o21:List S→Bool
 |[]=>false
 |.d (.lst _)::_=>true
 |_::r=>o21 r
def T80(it:It)(e:Ex)(l:List S)(ρ:Env):Env:=match Z41 it e with
 |some i=>ρ.set i.1 ((ρ[i.1]?.getD none).map plS)
 |none=>match o21 l with
  |true=>b01 ρ
  |false=>ρ
def w21(it:It)(e:Ex)(l:List S)(ρ:Env):Env:=(T80 it e l ρ).map (H20 (T70 l))
abbrev h62:Nat:=20000
def w31(ρ:Env)(i j:Nat)(xs ys:List D)(k:Int):Option O :=
 if i≠j∧0≤k∧inR k=true∧xs.length < most then(ys[k.toNat]?).bind λy=>if bare y=true then some (.nx ((ρ.set j (some (.fr (ys.eraseIdx k.toNat)))).set i (some (.fr (xs++[y]))))) else none else none
def n82(F:FT)(i j:Nat)(e:Ex):Env→M O:=λρ=>M.bind (M.of (ownAt ρ i)) λxs=>M.bind (M.of (ownAt ρ j)) λys=>M.bind (ev F e ρ) λl=>M.bind (M.of ((pl l).bind asI)) λk=>M.bind (M.of (w31 ρ i j xs ys k)) λo=>M.ret o
def w41(tp:Bool)(ρ:Env)(i:Nat):List S→Option (R O)
 |[.fr [.int n,.bl b]]=>if tp then some (.ok (.nx ((T40 ρ).set i (some .z))) (some (n,b))) else none
 |_=>none
def w51(ρ:Env)(v:Int):Option (Option S)→Z→Option (R O)
 |some (some .z),some p=>some (.ok (.nx ρ) (some (v,p.2)))
 |_,_=>none
def ex(F:FT)(tp:Bool):Sm→Env→M O
 |.nil=>λρ=>M.ret (.nx ρ)
 |.seq s r=>λρ=>M.bind (ex F tp s ρ) λo=>match o with
  |.nx ρ=>ex F tp r ρ
  |.rt s=>M.ret (.rt s)
 |.set p e=>λρ=>M.bind (ev F e ρ) λl=>M.bind (M.of (one l)) λs=>M.bind (M.of (T60 p s (o70 s ρ))) λρ=>M.ret (.nx ρ)
 |.ret e=>λρ=>match e with
  |.var i=>(match ρ[i]? with
   |some (some s)=>M.bind (M.of (noS s)) λs=>M.ret (.rt s)
   |_=>M.no)
  |e=>M.bind (ev F e ρ) λl=>M.bind (M.of ((one l).bind noS)) λs=>M.ret (.rt s)
 |.iff c t e=>λρ=>M.bind (ev F c ρ) λx=>M.bind (M.of ((pl x).bind asB)) λc=>if c then ex F tp t ρ else ex F tp e ρ
 |.fr p it src b=>λρ=>M.bind (ev F src ρ) λl=>M.bind (M.of ((plA l).bind (itD it))) λxs=>Z10 (λx ρ=>M.bind (M.of (f20 p x ρ)) λρ=>ex F tp b ρ) xs (w21 it src l ρ)
 |.whl c b=>λρ=>R11 (ev F c) (ex F tp b) h62 ρ
 |.rais c=>λ_ z=>some (.er c z)
 |.exp e=>λρ=>M.bind (ev F e ρ) λl=>M.bind (M.of (one l)) λ_=>M.ret (.nx ρ)
 |.app i e=>λρ=>M.bind (M.of (ownAt ρ i)) λxs=>M.bind (ev F e ρ) λl=>M.bind (M.of (pl l)) λx=>if bare x=true∧xs.length < most then M.ret (.nx (ρ.set i (some (.fr (xs++[x]))))) else M.no
 |.aug o i e=>λρ=>M.bind (M.of ((ρ[i]?.getD none).bind plD)) λy=>M.bind (ev F e ρ) λl=>M.bind (M.of ((pl l).bind asI)) λx=>M.bind (M.of ((asI y).bind λy=>E00 o (.int y) (.int x))) λs=>M.bind (M.of (T60 (.v i) s (o70 s ρ))) λρ=>M.ret (.nx ρ)
 |.newz i f as=>λρ=>M.bind (ev F (.call f as) ρ) λl=>λ_=>w41 tp ρ i l
 |.zset i e=>λρ=>M.bind (ev F e ρ) λl=>M.bind (M.of ((pl l).bind asI)) λv=>λz=>w51 ρ v ρ[i]? z
 |.apop i j e=>λρ=>n82 F i j e ρ
inductive Df where
 |code (ps ns:Nat) (b:Sm) | prim (f:List S→M S)
def H30:Z→Z→Z
 |none,_=>none
 |some _,z=>z
def start(ns:Nat)(l:List S):Env:=l.map some++replicate (ns - l.length) none
def run(F:FT):Df→List S→M S
 |.code ps ns b,l=>λz=>if l.length=ps∧ps≤ns then(match ex F z.isNone b (start ns (l.map plS)) z with
  |some (.ok (.nx _) z1)=>some (.ok (.d .non) (H30 z z1))
  |some (.ok (.rt s) z1)=>some (.ok s (H30 z z1))
  |some (.er c z1)=>some (.er c (H30 z z1))
  |none=>none) else none
 |.prim f,l=>f l
def b10(T:List Df):Nat→Nat→List S→M S
 |k + 3,f,l=>match T[f]? with
  |some d=>run (λb g m=>match b with | true=>b10 T k g m | false=>b10 T (k + 2) g m) d l
  |none=>M.no
 |_,_,_=>M.no
abbrev b11(T:List Df)(k:Nat):FT:=λb g m=>match b with | true=>b10 T (k - 2) g m | false=>b10 T k g m
theorem b21(T:List Df)(k f:Nat)(l:List S):b10 T (k + 3) f l=match T[f]? with
  |some d=>run (b11 T (k + 2)) d l
  |none=>M.no:=rfl
end Q
namespace Q
open PySem L2 PySem.Spec PyProof.Rows
def r90(K:PySem.W.Frag)(H:Hp)(a:Addr)(xs:List V):Prop:=Rd H a (.lst xs)∨∃ (its:Array Value) (n:Nat),K.lookup a=some { cls:=.type "list",data:=.seq its n }∧its.size≤sizeLine∧Vals xs its.toList
theorem r90.of{K:PySem.W.Frag}{H:Hp}{a:Addr}{xs:List V}(h:H a=some (.lst xs)):r90 K H a xs:=.inl (.inl h)
theorem r90.sq{K:PySem.W.Frag}{H:Hp}{a:Addr}{xs:List V}(h:r90 K H a xs):SqL K H a xs:=by
 rcases h with h | ⟨its,n,h1,h2,h3⟩
 ·exact .inl h
 ·exact .inr ⟨_,its,n,h1,rfl,rfl,rfl,h2,h3⟩
theorem r90.same{K:PySem.W.Frag}{H H':Hp}{a:Addr}{xs:List V}(h:r90 K H a xs)(e:a30 H H'):r90 K H' a xs:=by
 rcases h with (h | ⟨o,h⟩) | h
 ·exact .inl (.inl (e _ _ h))
 ·exact .inl (.inr ⟨o,e _ _ h⟩)
 ·exact .inr h
theorem r90.mem(I:Inv X pins σ H s)(h:r90 X.K H a xs):xs.length≤sizeLine∧∃ (its:List Value) (n:Nat),Vals xs its∧xs.length=its.length∧s.heap.get? a=some { cls:=.type "list",data:=.seq its.toArray n }:=by
 rcases h with (h | ⟨o,h⟩) | ⟨its,n,h1,h2,h3⟩
 ·exact I.B32 h
 ·obtain⟨e,z,its,n,r,e2⟩:=I.hok a _ h
  exact⟨z,its,n,r,r.length,e2⟩
 ·refine⟨by rw[h3.length,length_toList];exact h2,its.toList,n,h3,h3.length,?_⟩
  have:=I.kIn a _ h1
  rw[toArray_toList];exact this
mutual
def Hd(K:PySem.W.Frag)(H:Hp):D→V→Prop
 |.non,v=>v=.non
 |.bl b,v=>v=.bl b
 |.int i,v=>v=.int i
 |.str x,v=>v=.str x
 |.tup ds,v=>∃ a xs,v=.ref a∧SqT K H a xs∧HdA K H ds xs
 |.lst ds,v=>∃ a xs,v=.ref a∧r90 K H a xs∧HdA K H ds xs
 |.dct,v=>∃ a kvs,v=.ref a∧H a=some (.dK kvs)
def HdA(K:PySem.W.Frag)(H:Hp):List D→List V→Prop
 |[],xs=>xs=[]
 |d::ds,xs=>∃ x r,xs=x::r∧Hd K H d x∧HdA K H ds r
end
section
variable {K:PySem.W.Frag}{H H':Hp}
mutual
theorem Hd.same(e:a30 H H'):∀ {d:D}{v:V},Hd K H d v→Hd K H' d v
 |.non,_,h=>by unfold Hd at h ⊢;exact h
 |.bl _,_,h=>by unfold Hd at h ⊢;exact h
 |.int _,_,h=>by unfold Hd at h ⊢;exact h
 |.str _,_,h=>by unfold Hd at h ⊢;exact h
 |.tup ds,_,h=>by
  unfold Hd at h ⊢
  obtain⟨a,xs,rfl,h1,h2⟩:=h
  exact⟨a,xs,rfl,e.sqT h1,HdA.same e h2⟩
 |.lst ds,_,h=>by
  unfold Hd at h ⊢
  obtain⟨a,xs,rfl,h1,h2⟩:=h
  exact⟨a,xs,rfl,h1.same e,HdA.same e h2⟩
 |.dct,_,h=>by
  unfold Hd at h ⊢
  obtain⟨a,kvs,rfl,h1⟩:=h
  exact⟨a,kvs,rfl,e _ _ h1⟩
theorem HdA.same(e:a30 H H'):∀ {ds:List D}{xs:List V},HdA K H ds xs→HdA K H' ds xs
 |[],_,h=>by unfold HdA at h ⊢;exact h
 |d::ds,_,h=>by
  unfold HdA at h ⊢
  obtain⟨x,r,rfl,h1,h2⟩:=h
  exact⟨x,r,rfl,Hd.same e h1,HdA.same e h2⟩
end
mutual
theorem Hd.has:∀ {d:D}{v:V},Hd K H d v→Has K H d v
 |.non,_,h=>by unfold Hd at h;unfold Has;exact h
 |.bl _,_,h=>by unfold Hd at h;unfold Has;exact h
 |.int _,_,h=>by unfold Hd at h;unfold Has;exact h
 |.str _,_,h=>by unfold Hd at h;unfold Has;exact h
 |.tup ds,_,h=>by
  unfold Hd at h;unfold Has
  obtain⟨a,xs,rfl,h1,h2⟩:=h
  exact⟨a,xs,rfl,h1,HdA.has h2⟩
 |.lst ds,_,h=>by
  unfold Hd at h;unfold Has
  obtain⟨a,xs,rfl,h1,h2⟩:=h
  exact⟨a,xs,rfl,h1.sq,HdA.has h2⟩
 |.dct,_,h=>by unfold Hd at h;unfold Has;exact h
theorem HdA.has:∀ {ds:List D}{xs:List V},HdA K H ds xs→I10 K H ds xs
 |[],_,h=>by unfold HdA at h;unfold I10;exact h
 |d::ds,_,h=>by
  unfold HdA at h;unfold I10
  obtain⟨x,r,rfl,h1,h2⟩:=h
  exact⟨x,r,rfl,Hd.has h1,HdA.has h2⟩
end
theorem HdA.nil:HdA K H [] []:=by unfold HdA;rfl
theorem HdA.cons(h:Hd K H d x)(r:HdA K H ds xs):HdA K H (d::ds) (x::xs):=by unfold HdA;exact⟨x,xs,rfl,h,r⟩
theorem HdA.c00(h:HdA K H (d::ds) xs):∃ x r,xs=x::r∧Hd K H d x∧HdA K H ds r:=by unfold HdA at h;exact h
theorem HdA.f40(h:HdA K H [] xs):xs=[]:=by unfold HdA at h;exact h
theorem HdA.length:∀ {ds:List D}{xs:List V},HdA K H ds xs→xs.length=ds.length
 |[],_,h=>by rw[h.f40];rfl
 |d::ds,_,h=>by
  obtain⟨x,r,rfl,_,h2⟩:=h.c00
  simp[h2.length]
theorem HdA.get:∀ {ds:List D}{xs:List V}{i:Nat}{d:D},HdA K H ds xs→ds[i]?=some d→∃ x,xs[i]?=some x∧Hd K H d x
 |[],_,_,_,_,e=>by simp at e
 |d::ds,_,i,d',h,e=>by
  obtain⟨y,r,rfl,h1,h2⟩:=h.c00
  cases i with
  |zero=>simp at e;subst e;exact⟨y,rfl,h1⟩
  |succ i =>
   obtain⟨x',e1,e2⟩:=HdA.get (i:=i) h2 (by simpa using e)
   exact⟨x',by simpa using e1,e2⟩
theorem HdA.append:∀ {ds es:List D}{xs ys:List V},HdA K H ds xs→HdA K H es ys→HdA K H (ds++es) (xs++ys)
 |[],_,_,_,h,g=>by rw[h.f40];exact g
 |d::ds,_,_,_,h,g=>by
  obtain⟨x,r,rfl,h1,h2⟩:=h.c00
  exact .cons h1 (HdA.append h2 g)
theorem HdA.take:∀ {ds:List D}{xs:List V} (n:Nat),HdA K H ds xs→HdA K H (ds.take n) (xs.take n)
 |ds,xs,0,_=>by simp;exact .nil
 |[],_,n + 1,h=>by rw[h.f40];simp;exact .nil
 |d::ds,_,n + 1,h=>by
  obtain⟨x,r,rfl,h1,h2⟩:=h.c00
  exact .cons h1 (HdA.take n h2)
theorem HdA.drop:∀ {ds:List D}{xs:List V} (n:Nat),HdA K H ds xs→HdA K H (ds.drop n) (xs.drop n)
 |ds,xs,0,h=>by simpa using h
 |[],_,n + 1,h=>by rw[h.f40];simp;exact .nil
 |d::ds,_,n + 1,h=>by
  obtain⟨x,r,rfl,h1,h2⟩:=h.c00
  exact HdA.drop n h2
theorem HdA.reverse:∀ {ds:List D}{xs:List V},HdA K H ds xs→HdA K H ds.reverse xs.reverse
 |[],_,h=>by rw[h.f40];simp;exact .nil
 |d::ds,_,h=>by
  obtain⟨x,r,rfl,h1,h2⟩:=h.c00
  rw[reverse_cons,reverse_cons]
  exact(HdA.reverse h2).append (.cons h1 .nil)
theorem HdA.rep(h:HdA K H ds xs):∀ n:Nat,HdA K H (replicate n ds).flatten (replicate n xs).flatten
 |0=>by simp;exact .nil
 |n + 1=>by rw[replicate_succ,replicate_succ,flatten_cons,flatten_cons];exact h.append (h.rep n)
theorem HdA.set:∀ {ds:List D}{xs:List V}{d:D}{x:V} (i:Nat),HdA K H ds xs→Hd K H d x→HdA K H (ds.set i d) (xs.set i x)
 |[],_,_,_,_,h,_=>by rw[h.f40];simp;exact .nil
 |e::ds,_,d,x,i,h,g=>by
  obtain⟨y,r,rfl,h1,h2⟩:=h.c00
  cases i with
  |zero=>exact .cons g h2
  |succ i=>exact .cons h1 (HdA.set i h2 g)
theorem HdA.ints:∀ ns:List Int,HdA K H (ns.map D.int) (ns.map V.int)
 |[]=>.nil
 |n::r=>.cons (by unfold Hd;rfl) (HdA.ints r)
theorem Hd.i20(h:Hd K H (.int i) v):v=.int i:=by unfold Hd at h;exact h
theorem Hd.bl_(h:Hd K H (.bl b) v):v=.bl b:=by unfold Hd at h;exact h
theorem Hd.n92(h:Hd K H .non v):v=.non:=by unfold Hd at h;exact h
theorem Hd.C72{x:Str}{v:V}(h:Hd K H (.str x) v):v=.str x:=by unfold Hd at h;exact h
theorem Hd.B30(h:Hd K H (.tup ds) v):∃ a xs,v=.ref a∧SqT K H a xs∧HdA K H ds xs:=by unfold Hd at h;exact h
theorem Hd.b31(h:Hd K H (.lst ds) v):∃ a xs,v=.ref a∧r90 K H a xs∧HdA K H ds xs:=by unfold Hd at h;exact h
theorem Hd.int:Hd K H (.int i) (.int i):=by unfold Hd;rfl
theorem Hd.bl:Hd K H (.bl b) (.bl b):=by unfold Hd;rfl
theorem Hd.non:Hd K H .non .non:=by unfold Hd;rfl
theorem Hd.str{x:Str}:Hd K H (.str x) (.str x):=by unfold Hd;rfl
theorem Hd.tup(h:SqT K H a xs)(r:HdA K H ds xs):Hd K H (.tup ds) (.ref a):=by unfold Hd;exact⟨a,xs,rfl,h,r⟩
theorem Hd.lst(h:H a=some (.lst xs))(r:HdA K H ds xs):Hd K H (.lst ds) (.ref a):=by unfold Hd;exact⟨a,xs,rfl,r90.of h,r⟩
end
def noT(H:Hp):Hp:=λb=>match H b with
 |some (.tbl _)=>none
 |o=>o
theorem T90(h:noT H b=some o):H b=some o∧∀ ps,o≠.tbl ps:=by
 unfold noT at h
 split at h
 ·cases h
 ·rename_i n
  exact⟨h,λps e=>n ps (by rw[h,e])⟩
theorem b41(h:H b=some o)(n:∀ ps,o≠.tbl ps):noT H b=some o:=by
 unfold noT
 split
 ·rename_i ps e
  rw[h] at e
  cases e
  exact absurd rfl (n ps)
 ·exact h
theorem B40(H:Hp):a30 (noT H) H:=λ_ _ h=>(T90 h).1
theorem i11(e:a30 H H'):a30 (noT H) (noT H'):=λb o h=>b41 (e b o (T90 h).1) (T90 h).2
def hz(zA:Option Addr)(H:Hp):Hp:=match zA with
 |some a=>hide a (noT H)
 |none=>noT H
class Tb where
 tb:List (Addr × Str)
variable [TB:Tb]
def zAt(zA:Option Addr)(z:Z)(H:Hp):Prop:=match zA,z with
 |some a,some (n,b)=>H a=some (.lst [.int n,.bl b])
 |none,none=>True
 |_,_=>False
structure e50(zA:Option Addr)(z:Z)(H:Hp):Prop where
 zat:zAt zA z H
 tab:∀ p∈TB.tb,Tab H p.1 p.2
theorem a20(zA:Option Addr)(H:Hp):a30 (hz zA H) H:=by
 cases zA with
 |none=>exact B40 H
 |some a=>exact a30.trans (f10 a _) (B40 H)
theorem k00(e:a30 H H'):a30 (hz zA H) (hz zA H'):=by
 cases zA with
 |none=>exact i11 e
 |some a=>exact D40 λb o _ h=>i11 e b o h
theorem d90(h:H b=some o)(n:zA≠some b)(ht:∀ ps,o≠.tbl ps:=by exact λ_ h=>nomatch h):hz zA H b=some o:=by
 cases zA with
 |none=>exact b41 h ht
 |some a=>exact L50 (b41 h ht) λe=>n (by rw[e])
theorem t60(h:hz zA H b=some o):H b=some o∧zA≠some b:=by
 cases zA with
 |none=>exact⟨B40 H b o h,λe=>nomatch e⟩
 |some a =>
  refine⟨B40 H b o (f10 a _ b o h),λe=>?_⟩
  cases e
  have:hide b (noT H) b=some o:=h
  unfold hide at this
  rw[if_pos rfl] at this;cases this
theorem v90(h:hz zA H b=some o):∀ ps,o≠.tbl ps:=by
 cases zA with
 |none=>exact(T90 h).2
 |some a=>exact(T90 (f10 a _ b o h)).2
structure Ext(zA:Option Addr)(H H':Hp):Prop where
 same:a30 (hz zA H) (hz zA H')
 tbl:∀ b ps,H b=some (.tbl ps)→∃ qs,H' b=some (.tbl qs)
instance {zA:Option Addr}{H H':Hp}:CoeFun (Ext zA H H') (λ_=>∀ b o,hz zA H b=some o→hz zA H' b=some o):=⟨λx=>x.same⟩
instance {zA:Option Addr}{H H':Hp}:CoeOut (Ext zA H H') (a30 (hz zA H) (hz zA H')):=⟨λx=>x.same⟩
theorem Ext.refl:Ext zA H H:=⟨a30.refl _,λb ps h=>⟨ps,h⟩⟩
theorem Ext.trans(a:Ext zA H H1)(b:Ext zA H1 H2):Ext zA H H2:=⟨a30.trans a.same b.same,λc ps h=>let ⟨qs,h1⟩:=a.tbl c ps h;b.tbl c qs h1⟩
theorem Ext.of(e:a30 H H'):Ext zA H H':=⟨k00 e,λb ps h=>⟨ps,e b _ h⟩⟩
theorem Ext.at(e:Ext zA H H')(h:H a=some o)(n:zA≠some a)(ht:∀ ps,o≠.tbl ps:=by exact λ_ h=>nomatch h):H' a=some o:=(t60 (e.same a o (d90 h n ht))).1
theorem Ext.free(e:Ext zA H H')(h:H' a=none)(n:zA≠some a):H a=none:=by
 cases q:H a with
 |none=>rfl
 |some o =>
  by_cases ht:∃ ps,o=.tbl ps
  ·obtain⟨ps,rfl⟩:=ht
   obtain⟨qs,q'⟩:=e.tbl a ps q
   rw[q'] at h;cases h
  ·rw[e.at q n λps z=>ht ⟨ps,z⟩] at h;cases h
theorem zAt.same(h:zAt zA z H)(e:a30 H H'):zAt zA z H':=by
 cases zA with
 |none=>cases z with
  |none=>trivial
  |some _=>exact h.elim
 |some a=>cases z with
  |none=>exact h.elim
  |some p=>exact e _ _ h
theorem e50.same(h:e50 zA z H)(e:a30 H H'):e50 zA z H':=⟨h.zat.same e,λp hp=>(h.tab p hp).same e⟩
theorem Tab.upd{H:Hp}{P a:Addr}{q:Str}{xs:List V}{o:HO}(t:Tab H P q)(h:H a=some (.lst xs)):Tab (upd H a o) P q:=by
 obtain⟨ps,e,tr,k⟩:=t
 have ne:∀ {b:Addr}{u:HO},H b=some u→(∀ l,u≠.lst l)→b≠a:=λ{b u} e1 e2 z=>by
  subst z
  rw[h] at e1
  cases e1
  exact e2 _ rfl
 refine⟨ps,by rw[a50 (ne e λ_ z=>nomatch z)];exact e,tr,λpos c hc=>?_⟩
 obtain⟨c',e1,e2⟩:=k pos c hc
 exact⟨c',e1,by rw[a50 (ne e2 λ_ z=>nomatch z)];exact e2⟩
theorem e50.Z51{K:PySem.W.Frag}{zA:Option Addr}{z:Z}{H:Hp}(h:e50 zA z H){a:Addr}{xs:List V}(t:SqT K H a xs):SqT K (hz zA H) a xs:=by
 have h:=h.zat
 rcases t with (t | ⟨o,t⟩) | t
 ·refine .inl (.inl (d90 t λe=>?_))
  subst e
  cases z with
  |none=>exact h.elim
  |some p =>
   have h':H a=some (.lst [.int p.1,.bl p.2]):=h
   rw[t] at h';cases h'
 ·refine .inl (.inr ⟨o,d90 t λe=>?_⟩)
  subst e
  cases z with
  |none=>exact h.elim
  |some p =>
   have h':H a=some (.lst [.int p.1,.bl p.2]):=h
   rw[t] at h';cases h'
 ·exact .inr t
theorem e50.w61(h:e50 zA z H)(n:H a=none):zA≠some a:=λe=>by
 have h:=h.zat
 subst e
 cases z with
 |none=>exact h.elim
 |some p =>
  have h':H a=some (.lst [.int p.1,.bl p.2]):=h
  rw[n] at h';cases h'
def RvS(K:PySem.W.Frag)(zA:Option Addr)(H0 H:Hp):S→V→Prop
 |.d x,v=>Hd K (hz zA H) x v
 |.fr xs,v=>∃ a ys,v=.ref a∧H0 a=none∧zA≠some a∧H a=some (.lst ys)∧HdA K (hide a (hz zA H)) xs ys
 |.z,v=>∃ a,zA=some a∧v=.ref a
def RvP(K:PySem.W.Frag)(zA:Option Addr)(H:Hp):S→V→Prop
 |.d x,v=>Hd K (hz zA H) x v
 |.fr xs,v=>Hd K (hz zA H) (.lst xs) v
 |.z,v=>∃ a,zA=some a∧v=.ref a
section
variable {K:PySem.W.Frag}{zA:Option Addr}{H0 H H':Hp}
theorem RvS.pl{s:S}{v:V}(h:RvS K zA H0 H s v):RvP K zA H s v:=by
 cases s with
 |d x=>exact h
 |z=>exact h
 |fr xs =>
  obtain⟨a,ys,rfl,_,h2,h3,h4⟩:=h
  exact Hd.lst (d90 h3 h2) (h4.same (f10 a _))
theorem RvP.plS{s:S}{v:V}(h:RvP K zA H s v):RvP K zA H (plS s) v:=by cases s <;> exact h
theorem RvP.mono{s:S}{v:V}(h:RvP K zA H s v)(e:Ext zA H H'):RvP K zA H' s v:=by
 cases s with
 |d x=>exact Hd.same e h
 |z=>exact h
 |fr xs=>exact Hd.same e h
theorem RvS.mono{s:S}{v:V}(h:RvS K zA H0 H s v)(e:Ext zA H H'):RvS K zA H0 H' s v:=by
 cases s with
 |d x=>exact Hd.same e h
 |z=>exact h
 |fr xs =>
  obtain⟨a,ys,rfl,h1,h2,h3,h4⟩:=h
  exact⟨a,ys,rfl,h1,h2,e.at h3 h2,h4.same (D40 λb o _ q=>e b o q)⟩
theorem RvS.from{H1:Hp}{s:S}{v:V}(h:RvS K zA H1 H s v)(e:Ext zA H0 H1):RvS K zA H0 H s v:=by
 cases s with
 |d x=>exact h
 |z=>exact h
 |fr xs =>
  obtain⟨a,ys,rfl,h1,h2,h3⟩:=h
  exact⟨a,ys,rfl,e.free h1 h2,h2,h3⟩
theorem RvP.d_{s:S}{v:V}{x:D}(h:RvP K zA H s v)(e:plD s=some x):Hd K (hz zA H) x v:=by
 cases s with
 |d y=>cases e;exact h
 |fr xs=>cases e;exact h
 |z=>cases e
end
abbrev RvA(K:PySem.W.Frag)(zA:Option Addr)(H:Hp):List S→List V→Prop:=Paired (RvP K zA H)
theorem RvA.mono{K:PySem.W.Frag}{zA:Option Addr}{H H':Hp}{l:List S}{vs:List V}(h:RvA K zA H l vs)(e:Ext zA H H'):RvA K zA H' l vs:=Paired.h32 h λ_ _ q=>q.mono e
theorem RvA.plS{K:PySem.W.Frag}{zA:Option Addr}{H:Hp}:∀ {l:List S}{vs:List V},RvA K zA H l vs→RvA K zA H (l.map plS) vs
 |_,_,.nil=>.nil
 |_,_,.cons r t=>.cons r.plS (RvA.plS t)
theorem RvA.ds{K:PySem.W.Frag}{zA:Option Addr}{H:Hp}:∀ {l:List S}{vs:List V}{ds:List D},RvA K zA H l vs→plA l=some ds→HdA K (hz zA H) ds vs
 |_,_,_,.nil,e=>by cases e;exact .nil
 |.d x::r,_,_,.cons h t,e=>by
  simp only[plA,map_eq_some_iff] at e
  obtain⟨l,e,rfl⟩:=e
  exact .cons h (RvA.ds t e)
 |.fr x::r,_,_,.cons h t,e=>by
  simp only[plA,map_eq_some_iff] at e
  obtain⟨l,e,rfl⟩:=e
  exact .cons h (RvA.ds t e)
 |.z::r,_,_,.cons h t,e=>by simp[plA] at e
theorem g70(h:pl l=some x):∃ s,l=[s]∧plD s=some x:=by
 unfold pl at h
 split at h
 ·exact⟨_,rfl,h⟩
 ·exact⟨_,rfl,h⟩
 ·cases h
theorem M.bind_some{α β:Type}{m:M α}{f:α→M β}{z:Z}{r:R β}(h:M.bind m f z=some r):(∃ a z1,m z=some (.ok a z1)∧f a z1=some r)∨(∃ c z1,m z=some (.er c z1)∧r=.er c z1):=by
 unfold M.bind at h
 split at h
 ·exact .inl ⟨_,_,by assumption,h⟩
 ·cases h;exact .inr ⟨_,_,by assumption,rfl⟩
 ·cases h
theorem M.a10{α β:Type}{o:Option α}{f:α→M β}{z:Z}{r:R β}(h:M.bind (M.of o) f z=some r):∃ a,o=some a∧f a z=some r:=by
 cases o with
 |none=>cases h
 |some a=>exact⟨a,rfl,h⟩
end Q
set_option exponentiation.threshold 5000
namespace Q
open PySem L2 PySem.Spec PyProof.Rows
variable [TB:Tb]
section
variable {K:PySem.W.Frag}{zA:Option Addr}{z:Z}{H:Hp}
theorem L21(hp:H p=none):a30 (hz zA H) (hide p (hz zA (upd H p o))):=λb u e=>by
 obtain⟨e1,e2⟩:=t60 e
 have hb:b≠p:=λq=>by subst q;rw[hp] at e1;cases e1
 exact L50 (d90 (by rw[a50 hb];exact e1) e2 (v90 e)) hb
theorem h40:RvS K zA H0 H (.d (.int i)) (.int i):=Hd.int (K:=K) (H:=hz zA H)
theorem g80:RvS K zA H0 H (.d (.bl b)) (.bl b):=Hd.bl (K:=K) (H:=hz zA H)
theorem G41(h:Hd K (hz zA H) x v):RvS K zA H0 H (.d x) v:=h
theorem s50(st:e50 zA z H)(h:HdA K (hz zA H) xs ys)(hp:H p=none):RvS K zA H (upd H p (.lst ys)) (.fr xs) (.ref p) :=
 ⟨p,ys,rfl,hp,st.w61 hp,c70,h.same (L21 hp)⟩
theorem tupQ(st:e50 zA z H)(h:HdA K (hz zA H) xs ys)(q:∀ v H',a30 H H'→RvS K zA H H' (.d (.tup xs)) v→Q v H'):K11 K H ys Q :=
 λp H' sm hq=>q _ _ sm (G41 (Hd.tup ((st.same sm).Z51 hq) (h.same (k00 sm))))
end
def rD2(K:PySem.W.Frag)(f:D→D→Option S):R2:=λx y H Q=>∃ zA z dx dy s,e50 zA z H∧Hd K (hz zA H) dx x∧Hd K (hz zA H) dy y∧f dx dy=some s∧∀ v H',a30 H H'→RvS K zA H H' s v→Q v H'
def rDn(K:PySem.W.Frag)(f:List D→Option S):List V→Hp→VK→Prop:=λxs H Q=>∃ zA z ds s,e50 zA z H∧HdA K (hz zA H) ds xs∧f ds=some s∧∀ v H',a30 H H'→RvS K zA H H' s v→Q v H'
section
variable {X:Cx}
theorem bits_le(h:k.natAbs < I30):Builtin.Int.intBits k≤4000:=by
 unfold Builtin.Int.intBits
 split
 ·exact zero_le _
 ·have hn:k.natAbs < 2 ^ 4000:=h
  have:k.natAbs.log2 < 4000:=by
   rcases Nat.eq_zero_or_pos k.natAbs with h0 | hp
   ·rw[h0];decide
   ·exact(Nat.log2_lt (ne_of_gt hp)).mpr hn
  omega
theorem R21(hi:i.natAbs < I30)(hj:j.natAbs < I30):IntMulOk i j:=by
 have h1:=bits_le hi
 have h2:=bits_le hj
 unfold IntMulOk
 intro h
 rw[and_eq_true] at h
 have h3:=h.2
 unfold Builtin.Int.intTooBig at h3
 simp only[decide_eq_true_eq] at h3
 have:(8000:Nat) < bitsLine:=by decide
 omega
theorem w71(hj:j.natAbs < I30):Builtin.divisionGoesByPylong i j=false:=by
 refine PyProof.noPylong_of_log2 ?_
 rcases Nat.eq_zero_or_pos j.natAbs with h0 | hp
 ·rw[h0];decide
 ·have:j.natAbs.log2 < 4000:=(Nat.log2_lt (ne_of_gt hp)).mpr hj
  omega
theorem f50(h:n≤most):n≤sizeLine:=Nat.le_trans h (by rw[sizeLine_eq];decide)
def C82(K:PySem.W.Frag):R2:=λx y H Q=>∃ l b xs zs,x=.ref l∧y=.ref b∧r90 K H l xs∧r90 K H b zs∧xs.length + zs.length≤sizeLine∧∀ p,H p=none→Q (.ref p) (upd H p (.lst (xs++zs)))
def C92(K:PySem.W.Frag):R2:=λx y H Q=>∃ l k xs,x=.ref l∧y=.int k∧r90 K H l xs∧-(2 ^ 63)≤k∧k < 2 ^ 63∧xs.length * k.toNat≤sizeLine∧∀ p,H p=none→Q (.ref p) (upd H p (.lst (replicate k.toNat xs).flatten))
theorem Z61:OpR X (binaryOp .Add) (C82 X.K):=by
 intro pins s σ H x y v u Q I rx ry h
 obtain⟨l,b,xs,zs,rfl,rfl,hH,hB,hz,q⟩:=h
 cases rx
 cases ry
 obtain⟨z,its,n,r,hl,e⟩:=hH.mem I
 obtain⟨z2,its2,n2,r2,hl2,e2⟩:=hB.mem I
 refine PySem.P.add_list e e2 ?_ (by rw[size_toArray,size_toArray];omega)
 have ea:its.toArray++its2.toArray=(its++its2).toArray:=by simp
 rw[ea]
 exact⟨.ref _,_,I.K22 (t':=s.toks) (r.append r2) (by rw[length_append];omega),rfl,q _ I.fresh⟩
theorem Z71:OpR X (binaryOp .Mult) (C92 X.K):=by
 intro pins s σ H x y v u Q I rx ry h
 obtain⟨l,k,xs,rfl,rfl,hH,h1,h2,hz,q⟩:=h
 cases rx
 obtain⟨t,rfl⟩:=ry
 obtain⟨z,its,n,r,hl,e⟩:=hH.mem I
 have hlen:its.toArray.size * k.toNat≤sizeLine:=by rw[size_toArray,← hl];exact hz
 have hcap:¬ its.toArray.size * k.toNat > (2 ^ 63 - 1) / 8:=by
  have:(sizeLine:Nat)≤(2 ^ 63 - 1) / 8:=by decide
  omega
 have hfit:¬ (!Builtin.List.listFitsIndex k)=true:=by
  rw[fitsIndex_both h1 h2]
  exact Bool.false_ne_true
 have hlong:¬ Builtin.List.listTooLong (its.toArray.size * k.toNat)=true:=by
  rw[H91 hlen]
  exact Bool.false_ne_true
 have hnew:foldl (λx1 x2=>x1++x2) #[] (replicate (if its.toArray.isEmpty=true then 0 else k.toNat) its.toArray)=(replicate k.toNat its).flatten.toArray:=by
  have f0:∀ m:Nat,foldl (λx1 x2=>x1++x2) #[] (replicate m its.toArray)=(replicate m its).flatten.toArray:=λm=>by
   have:=foldl_rep its m []
   rw[nil_append] at this
   exact this
  rw[f0]
  cases its with
  |nil=>simp
  |cons a r'=>rw[if_neg (by simp)]
 refine wpAny_binaryOp_repeat_ref (T:="list") (U:="int") (by decide) ⟨_,e,rfl⟩ (λs'=>typeIs_int s' k t) noFill_list_mul F.fills_int_mul F.slot_int_rmul repeat_list F.slot_int_index.lookup
  (call_meets F.slot_int_rmul (typeIs_int s k t) F.entry_int_rmul (F.args_int_rmul_2 _ _) (int___rmul___int_list k t l its.toArray n)
   ⟨e,rfl,⟨_,e,rfl⟩,call_meets F.slot_list_mul ⟨_,e,rfl⟩ F.entry_list_mul (F.args_list_mul_2 _ _) (AutoListH.list___mul___list_int_3 l its.toArray n k t hfit hcap hlong) ⟨e,?_⟩⟩)
 rw[hnew]
 exact⟨.ref _,_,I.K22 (t':=s.toks) (r.rep k.toNat) (by rw[len_rep,Nat.mul_comm];exact hz),rfl,q _ I.fresh⟩
theorem Z81:OpR X (binaryOp .Add) (rD2 X.K (E00 .add)):=by
 intro pins s σ H x y v u Q I rx ry h
 obtain⟨zA,z,dx,dy,w,st,hx,hy,e,q⟩:=h
 cases dx with
 |int i =>
  cases dy with
  |int j =>
   cases e;cases hx.i20;cases hy.i20
   exact k92 pins s σ H _ _ v u Q I rx ry ⟨i,j,rfl,rfl,q _ _ (a30.refl H) h40⟩
  |_=>cases e
 |tup a =>
  cases dy with
  |tup b =>
   obtain⟨hl,e⟩:=e60 e
   cases e
   obtain⟨p,xs,rfl,h1,h2⟩:=hx.B30
   obtain⟨p',ys,rfl,h3,h4⟩:=hy.B30
   exact X61 pins s σ H _ _ v u Q I rx ry ⟨p,p',xs,ys,rfl,rfl,(a20 zA H).sqT h1,(a20 zA H).sqT h3,f50 (by rw[h2.length,h4.length];exact hl),tupQ st (h2.append h4) q⟩
  |_=>cases e
 |lst a =>
  cases dy with
  |lst b =>
   obtain⟨hl,e⟩:=e60 e
   cases e
   obtain⟨p,xs,rfl,h1,h2⟩:=hx.b31
   obtain⟨p',ys,rfl,h3,h4⟩:=hy.b31
   exact Z61 pins s σ H _ _ v u Q I rx ry ⟨p,p',xs,ys,rfl,rfl,h1.same (a20 zA H),h3.same (a20 zA H),f50 (by rw[h2.length,h4.length];exact hl),λr hr=>q _ _ (a30.new _ hr) (s50 st (h2.append h4) hr)⟩
  |_=>cases e
 |_=>cases e
theorem Z91:OpR X (binaryOp .Sub) (rD2 X.K (E00 .sub)):=by
 intro pins s σ H x y v u Q I rx ry h
 obtain⟨zA,z,dx,dy,w,st,hx,hy,e,q⟩:=h
 cases dx with
 |int i =>
  cases dy with
  |int j =>
   cases e;cases hx.i20;cases hy.i20
   exact l02 pins s σ H _ _ v u Q I rx ry ⟨i,j,rfl,rfl,q _ _ (a30.refl H) h40⟩
  |_=>cases e
 |_=>cases e
theorem a02:OpR X (binaryOp .Mult) (rD2 X.K (E00 .mul)):=by
 intro pins s σ H x y v u Q I rx ry h
 obtain⟨zA,z,dx,dy,w,st,hx,hy,e,q⟩:=h
 cases dx with
 |int i =>
  cases dy with
  |int j =>
   obtain⟨hl,e⟩:=e60 e
   cases e;cases hx.i20;cases hy.i20
   obtain⟨t,rfl⟩:=rx
   obtain⟨t',rfl⟩:=ry
   exact mul_int ⟨.int (i * j),H,I.tok _,⟨_,rfl⟩,q _ _ (a30.refl H) h40⟩ (R21 hl.1 hl.2)
  |_=>cases e
 |tup a =>
  cases dy with
  |int j =>
   obtain⟨hl,e⟩:=e60 e
   cases e;cases hy.i20
   obtain⟨p,xs,rfl,h1,h2⟩:=hx.B30
   exact X71 pins s σ H _ _ v u Q I rx ry ⟨p,j,xs,rfl,rfl,(a20 zA H).sqT h1,hl.1,hl.2.2,f50 (by rw[h2.length];exact hl.2.1),tupQ st (h2.rep _) q⟩
  |_=>cases e
 |lst a =>
  cases dy with
  |int j =>
   obtain⟨hl,e⟩:=e60 e
   cases e;cases hy.i20
   obtain⟨p,xs,rfl,h1,h2⟩:=hx.b31
   exact Z71 pins s σ H _ _ v u Q I rx ry ⟨p,j,xs,rfl,rfl,h1.same (a20 zA H),by omega,by omega,f50 (by rw[h2.length,Nat.mul_comm];exact hl.2.1),λr hr=>q _ _ (a30.new _ hr) (s50 st (h2.rep _) hr)⟩
  |_=>cases e
 |_=>cases e
theorem L31:OpR X (binaryOp .FloorDiv) (rD2 X.K (E00 .fdiv)):=by
 intro pins s σ H x y v u Q I rx ry h
 obtain⟨zA,z,dx,dy,w,st,hx,hy,e,q⟩:=h
 cases dx with
 |int i =>
  cases dy with
  |int j =>
   obtain⟨hl,e⟩:=e60 e
   cases e;cases hx.i20;cases hy.i20
   obtain⟨t,rfl⟩:=rx
   obtain⟨t',rfl⟩:=ry
   refine floordiv_int (by omega) ⟨.int (i / j),H,I.tok _,⟨s.toks,?_⟩,q _ _ (a30.refl H) h40⟩ (.inl (w71 hl.2))
   rw[Int.fdiv_eq_ediv_of_nonneg _ (by omega)]
  |_=>cases e
 |_=>cases e
theorem a12:OpR X (binaryOp .Mod) (rD2 X.K (E00 .mod)):=by
 intro pins s σ H x y v u Q I rx ry h
 obtain⟨zA,z,dx,dy,w,st,hx,hy,e,q⟩:=h
 cases dx with
 |int i =>
  cases dy with
  |int j =>
   obtain⟨hl,e⟩:=e60 e
   cases e;cases hx.i20;cases hy.i20
   exact l12 pins s σ H _ _ v u Q I rx ry ⟨i,j,rfl,rfl,hl,q _ _ (a30.refl H) h40⟩
  |_=>cases e
 |_=>cases e
theorem a22:OpR X (binaryOp .Pow) (rD2 X.K (E00 .pow)):=by
 intro pins s σ H x y v u Q I rx ry h
 obtain⟨zA,z,dx,dy,w,st,hx,hy,e,q⟩:=h
 cases dx with
 |int i =>
  cases dy with
  |int j =>
   obtain⟨hl,e⟩:=e60 e
   cases e;cases hx.i20;cases hy.i20
   exact l22 pins s σ H _ _ v u Q I rx ry ⟨i,j,rfl,rfl,⟨hl.1,by omega,hl.2.2⟩,q _ _ (a30.refl H) h40⟩
  |_=>cases e
 |_=>cases e
def opB:Bi→Operator
 |.add=>.Add | .sub=>.Sub | .mul=>.Mult | .fdiv=>.FloorDiv | .mod=>.Mod | .pow=>.Pow
theorem opD(o:Bi):OpR X (binaryOp (opB o)) (rD2 X.K (E00 o)):=by
 cases o
 ·exact Z81
 ·exact Z91
 ·exact a02
 ·exact L31
 ·exact a12
 ·exact a22
mutual
noncomputable def toP:D→PyData
 |.non=>.none
 |.bl b=>.bool b
 |.int i=>.int i
 |.str x=>.str x
 |.tup l=>.tuple (Q90 l)
 |.lst l=>.list (Q90 l)
 |.dct=>.none
noncomputable def Q90:List D→List PyData
 |[]=>[]
 |x::r=>toP x::Q90 r
end
end
end Q
namespace Q
open PySem L2 PySem.Spec PyProof.Rows
variable [TB:Tb]
mutual
theorem U00:∀ a b:D,x40 a=true→x40 b=true→PyData.eqv (toP a) (toP b)=eqD a b
 |.non,b,_,h=>by cases b <;> first | rfl | (simp[x40] at h)
 |.bl _,b,_,h=>by cases b <;> first | rfl | (simp[x40] at h)
 |.int _,b,_,h=>by cases b <;> first | rfl | (simp[x40] at h)
 |.str _,b,_,h=>by cases b <;> first | rfl | (simp[x40] at h)
 |.tup l,b,ha,h=>by
  cases b with
  |tup q =>
   exact b51 l q (by simpa [x40] using ha) (by simpa [x40] using h)
  |dct=>simp[x40] at h
  |_=>rfl
 |.lst l,b,ha,h=>by
  cases b with
  |lst q =>
   exact b51 l q (by simpa [x40] using ha) (by simpa [x40] using h)
  |dct=>simp[x40] at h
  |_=>rfl
 |.dct,_,h,_=>by simp[x40] at h
theorem b51:∀ a b:List D,g90 a=true→g90 b=true→PyData.eqvAll (Q90 a) (Q90 b)=n62 a b
 |[],[],_,_=>rfl
 |[],_::_,_,_=>rfl
 |_::_,[],_,_=>rfl
 |x::r,y::q,ha,hb=>by
  simp only[g90,and_eq_true] at ha hb
  simp only[Q90,PyData.eqvAll,n62]
  rw[U00 x y ha.1 hb.1,b51 r q ha.2 hb.2]
end
mutual
theorem z10:∀ a:D,x40 a=true→(toP a).canLay0=true
 |.non,_=>rfl
 |.bl _,_=>rfl
 |.int _,_=>rfl
 |.str _,h=>h
 |.tup l,h=>t70 l h
 |.lst l,h=>t70 l h
 |.dct,h=>by cases h
theorem t70:∀ a:List D,g90 a=true→PyData.canLayAll0 (Q90 a)=true
 |[],_=>rfl
 |x::r,h=>by
  simp only[g90,and_eq_true] at h
  simp only[Q90,PyData.canLayAll0,z10 x h.1,t70 r h.2,Bool.and_self]
end
mutual
theorem M20:∀ a:D,(toP a).depth=deep a
 |.non=>rfl
 |.bl _=>rfl
 |.int _=>rfl
 |.str _=>rfl
 |.tup l=>congrArg (· + 1) (M30 l)
 |.lst l=>congrArg (· + 1) (M30 l)
 |.dct=>rfl
theorem M30:∀ a:List D,PyData.depthAll (Q90 a)=j90 a
 |[]=>rfl
 |x::r=>by
  simp only[Q90,PyData.depthAll,j90]
  rw[M20 x,M30 r]
end
def o31(h:Heap)(u:Value)(d:D):Prop:=x40 d=true∧∃ as,Reads h u (toP d) as
def e30(h:Heap)(us:List Value)(ds:List D):Prop:=g90 ds=true∧∃ as,ReadsAll h us (Q90 ds) as
section
variable {X:Cx}{pins:List (Addr × Obj)}{σ:L2.St}{H:Hp}{s:Shared}
mutual
theorem i30(I:Inv X pins σ H s):∀ {d:D}{v:V}{u:Value},Hd X.K H d v→RelV v u→x40 d=true→∃ as,Reads s.heap u (toP d) as
 |.non,_,_,h,r,_=>by cases h.n92;cases r;exact⟨_,.none⟩
 |.bl b,_,_,h,r,_=>by cases h.bl_;cases r;exact⟨_,.bool b⟩
 |.int i,_,_,h,r,_=>by cases h.i20;obtain⟨t,rfl⟩:=r;exact⟨_,.int i t⟩
 |.str x,_,_,h,r,_=>by cases h.C72;obtain⟨t,rfl⟩:=r;exact⟨_,.str x t⟩
 |.tup l,_,_,h,r,f=>by
  obtain⟨a,xs,rfl,h1,h2⟩:=h.B30
  cases r
  obtain⟨its,rv,⟨o,e1,e2,n,e3⟩,_⟩:=I.tuple h1
  obtain⟨as,ra⟩:=E20 I h2 rv f
  exact⟨_,.tuple e1 e2 e3 (by simpa using ra)⟩
 |.lst l,_,_,h,r,f=>by
  obtain⟨a,xs,rfl,h1,h2⟩:=h.b31
  cases r
  obtain⟨its,rv,⟨o,n,e1,e2,_,e3⟩,_⟩:=I.list h1.sq
  obtain⟨as,ra⟩:=E20 I h2 rv f
  exact⟨_,.list e1 e2 e3 (by simpa using ra)⟩
 |.dct,_,_,_,_,f=>by cases f
theorem E20(I:Inv X pins σ H s):∀ {ds:List D}{vs:List V}{us:List Value},HdA X.K H ds vs→Vals vs us→g90 ds=true→∃ as,ReadsAll s.heap us (Q90 ds) as
 |[],_,_,h,r,_=>by cases h.f40;cases r;exact⟨_,.nil⟩
 |d::ds,_,_,h,r,f=>by
  obtain⟨x,xs,rfl,h1,h2⟩:=h.c00
  cases r with
  |cons r1 r2 =>
   simp only[g90,and_eq_true] at f
   obtain⟨_,a1⟩:=i30 I h1 r1 f.1
   obtain⟨_,a2⟩:=E20 I h2 r2 f.2
   exact⟨_,.cons a1 a2⟩
end
end
theorem o80(h:okD d=true):x40 d=true∧SeqAt.shaped (toP d)=true:=by
 unfold okD at h
 rw[and_eq_true,decide_eq_true_eq] at h
 refine⟨h.1,?_⟩
 unfold SeqAt.shaped
 rw[z10 d h.1,M20,Bool.true_and,decide_eq_true_eq]
 omega
section
variable {X:Cx}
theorem o02(h:eqE a b=some c):∃ l,a=.tup l∧b=.tup []∧c=l.isEmpty:=by
 unfold eqE at h
 split at h
 ·cases h;exact⟨_,rfl,rfl,rfl⟩
 ·cases h
theorem o22(hu:X.A.units + 64 < cLine):OpR X (compareOp .Eq) (rD2 X.K λa b=>(eqQ a b).map λc=>.d (.bl c)):=by
 intro pins s σ H x y v u Q I rx ry h
 obtain⟨zA,z,dx,dy,w,st,hx,hy,e,q⟩:=h
 unfold eqQ at e
 dsimp only at e
 split at e
 ·rename_i ok
  cases e
  rw[and_eq_true] at ok
  obtain⟨f1,s1⟩:=o80 ok.1
  obtain⟨f2,s2⟩:=o80 ok.2
  obtain⟨as,r1⟩:=i30 I (hx.same (a20 zA H)) rx f1
  obtain⟨bs,r2⟩:=i30 I (hy.same (a20 zA H)) ry f2
  exact eq_dataH r1 r2 s1 s2 hu ⟨.bl _,H,I,rfl,by rw[U00 dx dy f1 f2];exact q _ _ (a30.refl H) g80⟩
 ·obtain⟨c,h1,h2⟩:=Option.map_eq_some_iff.mp e
  obtain⟨l,rfl,rfl,rfl⟩:=o02 h1
  subst h2
  obtain⟨a,xs,rfl,k1,k2⟩:=hx.B30
  obtain⟨b,ys,rfl,k3,k4⟩:=hy.B30
  cases k4.f40
  cases rx;cases ry
  obtain⟨its,rv,ht,_⟩:=I.tuple ((a20 zA H).sqT k1)
  obtain⟨iu,ru,hu2,_⟩:=I.tuple ((a20 zA H).sqT k3)
  cases ru
  have e1:its.length=l.length:=by rw[← rv.length,k2.length]
  refine SeqAt.eq_tupleAt (e:=λ_=>true) ht hu2 (by omega) (λj _ h2=>absurd h2 (Nat.not_lt_zero j)) ⟨.bl _,H,I,rfl,?_⟩
  have e2:((range (min its.toArray.size ([]:List Value).toArray.size)).all (λ_=>true)&&its.toArray.size == ([]:List Value).toArray.size)=l.isEmpty:=by
   simp only[size_toArray,length_nil,Nat.min_zero,List.range_zero,all_nil,Bool.true_and,e1]
   cases l <;> rfl
  rw[e2]
  exact q _ _ (a30.refl H) g80
theorem o32(hu:X.A.units + 64 < cLine):OpR X (compareOp .NotEq) (rD2 X.K λa b=>(eqO a b).map λc=>.d (.bl !c)):=by
 intro pins s σ H x y v u Q I rx ry h
 obtain⟨zA,z,dx,dy,w,st,hx,hy,e,q⟩:=h
 unfold eqO at e
 dsimp only at e
 split at e
 ·rename_i ok
  cases e
  rw[and_eq_true] at ok
  obtain⟨f1,s1⟩:=o80 ok.1
  obtain⟨f2,s2⟩:=o80 ok.2
  obtain⟨as,r1⟩:=i30 I (hx.same (a20 zA H)) rx f1
  obtain⟨bs,r2⟩:=i30 I (hy.same (a20 zA H)) ry f2
  exact ne_dataH r1 r2 s1 s2 hu ⟨.bl _,H,I,rfl,by rw[U00 dx dy f1 f2];exact q _ _ (a30.refl H) g80⟩
 ·cases e
theorem a32(hu:X.A.units + 64 < cLine):OpR X (compareOp .NotEq) (rD2 X.K λa b=>(neO a b).map λc=>.d (.bl c)):=by
 intro pins s σ H x y v u Q I rx ry h
 obtain⟨zA,z,dx,dy,w,st,hx,hy,e,q⟩:=h
 unfold neO at e
 dsimp only at e
 split at e
 ·cases e
  unfold Hd at hx
  obtain⟨a,kvs,rfl,h1⟩:=hx
  obtain⟨b,xs,rfl,h2,_⟩:=hy.B30
  exact Y21 hu pins s σ H _ _ v u Q I rx ry ⟨a,b,kvs,xs,rfl,rfl,(t60 h1).1,(a20 zA H).sqT h2,q _ _ (a30.refl H) g80⟩
 ·refine o32 hu pins s σ H _ _ v u Q I rx ry ⟨zA,z,dx,dy,w,st,hx,hy,?_,q⟩
  rw[← e,Option.map_map]
  rfl
end
theorem M40(h:h52 l=true):g90 l=true∧j90 l≤39:=by
 unfold h52 at h
 rw[and_eq_true,decide_eq_true_eq] at h
 exact h
theorem M50(h:okD d=true):deep d≤40:=by
 unfold okD at h
 rw[and_eq_true,decide_eq_true_eq] at h
 exact h.2
theorem E30(x:D)(fx:x40 x=true):∀ l:List D,g90 l=true→((Q90 l).any λy=>PyData.eqv y (toP x))=memD x l
 |[],_=>rfl
 |y::r,h=>by
  simp only[g90,and_eq_true] at h
  show(PyData.eqv (toP y) (toP x) || (Q90 r).any λy=>PyData.eqv y (toP x))=(eqD y x || memD x r)
  rw[U00 y x h.1 fx,E30 x fx r h.2]
section
variable {X:Cx}
theorem M60(h:a71 x l=some b):okD x=true∧h52 l=true∧b=memD x l:=by
 unfold a71 at h
 split at h
 ·rename_i ok
  rw[and_eq_true] at ok
  cases h
  exact⟨ok.1,ok.2,rfl⟩
 ·cases h
theorem room_in{A:Around}(hu:A.units + 64 < cLine){l:List D}{x:D}(h:okD x=true):A.units + 1 + min (PyData.depthAll (Q90 l)) (toP x).depth < cLine:=by
 have h1:=M50 h
 have h2:min (PyData.depthAll (Q90 l)) (toP x).depth≤(toP x).depth:=Nat.min_le_right _ _
 have h3:=M20 x
 omega
theorem a42(hu:X.A.units + 64 < cLine):OpR X (compareOp .In) (rD2 X.K λa b=>(A60 .mem a b).map λc=>.d (.bl c)):=by
 intro pins s σ H x y v u Q I rx ry h
 obtain⟨zA,z,dx,dy,w,st,hx,hy,e,q⟩:=h
 cases dy with
 |tup l =>
  obtain⟨b,e1,e2⟩:=Option.map_eq_some_iff.mp e
  subst e2
  obtain⟨o1,o2,rfl⟩:=M60 e1
  obtain⟨f2,_⟩:=M40 o2
  obtain⟨f1,_⟩:=o80 o1
  obtain⟨as,r1⟩:=i30 I (hx.same (a20 zA H)) rx f1
  obtain⟨bs,r2⟩:=i30 I (hy.same (a20 zA H)) ry (by simpa [x40] using f2)
  exact SeqAt.in_tuple_reads r2 r1 (t70 l f2) (z10 dx f1) (room_in hu o1) ⟨.bl _,H,I,rfl,by rw[E30 dx f1 l f2];exact q _ _ (a30.refl H) g80⟩
 |lst l =>
  obtain⟨b,e1,e2⟩:=Option.map_eq_some_iff.mp e
  subst e2
  obtain⟨o1,o2,rfl⟩:=M60 e1
  obtain⟨f2,_⟩:=M40 o2
  obtain⟨f1,_⟩:=o80 o1
  obtain⟨as,r1⟩:=i30 I (hx.same (a20 zA H)) rx f1
  obtain⟨bs,r2⟩:=i30 I (hy.same (a20 zA H)) ry (by simpa [x40] using f2)
  exact SeqAt.in_list_reads r2 r1 (t70 l f2) (z10 dx f1) (room_in hu o1) ⟨.bl _,H,I,rfl,by rw[E30 dx f1 l f2];exact q _ _ (a30.refl H) g80⟩
 |_=>cases e
theorem L41(hu:X.A.units + 64 < cLine):OpR X (compareOp .NotIn) (rD2 X.K λa b=>(A60 .nmem a b).map λc=>.d (.bl c)):=by
 intro pins s σ H x y v u Q I rx ry h
 obtain⟨zA,z,dx,dy,w,st,hx,hy,e,q⟩:=h
 cases dy with
 |tup l =>
  obtain⟨b,e1,e2⟩:=Option.map_eq_some_iff.mp e
  subst e2
  obtain⟨b',e3,rfl⟩:=Option.map_eq_some_iff.mp e1
  obtain⟨o1,o2,rfl⟩:=M60 e3
  obtain⟨f2,_⟩:=M40 o2
  obtain⟨f1,_⟩:=o80 o1
  obtain⟨as,r1⟩:=i30 I (hx.same (a20 zA H)) rx f1
  obtain⟨bs,r2⟩:=i30 I (hy.same (a20 zA H)) ry (by simpa [x40] using f2)
  exact SeqAt.notIn_tuple_reads r2 r1 (t70 l f2) (z10 dx f1) (room_in hu o1) ⟨.bl _,H,I,rfl,by rw[E30 dx f1 l f2];exact q _ _ (a30.refl H) g80⟩
 |lst l =>
  obtain⟨b,e1,e2⟩:=Option.map_eq_some_iff.mp e
  subst e2
  obtain⟨b',e3,rfl⟩:=Option.map_eq_some_iff.mp e1
  obtain⟨o1,o2,rfl⟩:=M60 e3
  obtain⟨f2,_⟩:=M40 o2
  obtain⟨f1,_⟩:=o80 o1
  obtain⟨as,r1⟩:=i30 I (hx.same (a20 zA H)) rx f1
  obtain⟨bs,r2⟩:=i30 I (hy.same (a20 zA H)) ry (by simpa [x40] using f2)
  exact SeqAt.notIn_list_reads r2 r1 (t70 l f2) (z10 dx f1) (room_in hu o1) ⟨.bl _,H,I,rfl,by rw[E30 dx f1 l f2];exact q _ _ (a30.refl H) g80⟩
 |_=>cases e
end
end Q
namespace Q
open PySem L2 PySem.Spec PyProof.Rows
variable [TB:Tb]
def D02(A:Around)(s:Shared)(v u:Value)(b:Bool):Prop:=∀ (P:Program) (w:World) (E:Value→Shared→Prop) (Q:Value→Shared→Prop),Q (.bool b) s→wpAny (model P w) A (richCompare .Lt v u) Q E s
section
open PySem.SeqAt
open PySem.AutoSeq1 (wpAny_loadPart')
open PySem.MeetsSeq PySem.MeetsSeq2 PySem.MeetsSeq3
inductive Lx (A:Around) (s:Shared):List Value→List Value→Bool→Prop
 |nn:Lx A s [] [] false
 |nc {u us}:Lx A s [] (u::us) true
 |cn {v vs}:Lx A s (v::vs) [] false
 |eq {v u vs us b}:EqAt A s v u true→Lx A s vs us b→Lx A s (v::vs) (u::us) b
 |ne {v u vs us b}:EqAt A s v u false→D02 A s v u b→Lx A s (v::vs) (u::us) b
theorem E40(l b:Addr)(items items2:Array Value)(n n2:Nat)(dd dd2:Option Addr)(sl sl2:Array (Option Value))(c:Bool) :
  Meets (Builtin.«tuple.__lt__» ⟨[.ref l,.ref b],[]⟩)
   (λA R s=>s.heap.get? l=some { cls:=.type "tuple",dict:=dd,data:=.seq items n,slots:=sl }∧s.heap.get? b=some { cls:=.type "tuple",dict:=dd2,data:=.seq items2 n2,slots:=sl2 } ∧
    Lx A.in1 s items.toList items2.toList c∧R (.ok (.ret (.bool c))) s) :=
 .of_wp λprog w A R s h=>by
  obtain⟨hp,g,d,tk,os⟩:=s;obtain⟨hl,hb,hx,h⟩:=h
  have f2:=AutoSeq1.sub_tuple_tuple
  wp_walk using wpAny_loadPart' hl,wpAny_loadPart' hb,wpAny_forIn_list _ (λrest b s'=>b.1=none∧s'=⟨hp,g,d,tk,os⟩∧∃ (vs ws:List Value),rest=vs.zip ws ∧
   vs.length + items2.size=ws.length + items.size∧Lx A.in1 ⟨hp,g,d,tk,os⟩ vs ws c) _
  case turn =>
   rintro ⟨y,x⟩ rest b s' ⟨hb',rfl,vs,ws,hz,hlen,hR⟩
   cases hR with
   |nn=>rw[List.zip_nil_left] at hz;cases hz
   |nc=>rw[List.zip_nil_left] at hz;cases hz
   |cn=>rw[List.zip_nil_right] at hz;cases hz
   |eq he hr =>
    rw[zip_cons_cons] at hz
    injection hz with hyx hrest
    injection hyx with hy hx'
    subst hy hx'
    simp only[length_cons] at hlen
    refine wpAny_bind (he prog w _ _ ?_)
    wp_walk
    exact⟨rfl,rfl,_,_,hrest,by omega,hr⟩
   |ne he hr =>
    rw[zip_cons_cons] at hz
    injection hz with hyx hrest
    injection hyx with hy hx'
    subst hy hx'
    refine wpAny_bind (he prog w _ _ ?_)
    have hri:=λE Q q=>hr prog w E Q q
    wp_walk using hri
    exact⟨_,rfl,by simpa using h⟩
  case fin =>
   rintro ⟨b1,b2⟩ s' ⟨hb',rfl,vs,ws,hz,hlen,hR⟩
   simp only at hb'
   subst hb'
   have hv:c=decide (items.size < items2.size):=by
    cases hR with
    |nn=>simp only[length_nil] at hlen;exact(decide_eq_false (by omega)).symm
    |nc=>simp only[length_nil,length_cons] at hlen;exact(decide_eq_true (by omega)).symm
    |cn=>simp only[length_nil,length_cons] at hlen;exact(decide_eq_false (by omega)).symm
    |eq he hr=>rw[zip_cons_cons] at hz;cases hz
    |ne he hr=>rw[zip_cons_cons] at hz;cases hz
   rw[hv] at h
   wp_walk
   exact⟨_,rfl,by simpa [tupleCompareSizes] using h⟩
  case h =>
   exact⟨rfl,rfl,items.toList,items2.toList,rfl,by simp;omega,hx⟩
end
theorem w81(hl:IsTup s.heap l i1)(hb:IsTup s.heap b i2)(hu:A.units < cLine)(hx:Lx A.in1 s i1.toList i2.toList c):D02 A s (.ref l) (.ref b) c:=by
 intro P w E Q h
 obtain⟨⟨cls,dd,data,sl⟩,ho,hc,n,hd⟩:=id hl;obtain⟨⟨cls2,dd2,data2,sl2⟩,ho2,hc2,n2,hd2⟩:=id hb
 simp only at hc hd hc2 hd2;subst hc hd hc2 hd2
 exact richCompare_meets_room (op:=.Lt) ⟨_,ho,rfl⟩ ⟨_,ho2,rfl⟩ PySem.F.slot_tuple_lt PySem.F.entry_tuple_lt (PySem.F.args_tuple_lt_2 _ _) (E40 l b i1 i2 n n2 dd dd2 sl sl2 c)
  ⟨ho,ho2,hx,show Value.bool c≠Value.notImplemented∧Q (.bool c) s from⟨(λx=>nomatch x),h⟩⟩ hu
theorem o42(ha:o31 s.heap v a)(hb:o31 s.heap u b)(hu:A.units + deep a < cLine):SeqAt.EqAt A s v u (eqD a b):=by
 obtain⟨f1,as,r1⟩:=ha
 obtain⟨f2,bs,r2⟩:=hb
 rw[← U00 a b f1 f2]
 have h:=M20 a
 have h2:min (toP a).depth (toP b).depth≤(toP a).depth:=Nat.min_le_left _ _
 exact SeqAt.eqAt_reads (toP a) (toP b) A s v u as bs r1 r2 (z10 a f1) (z10 b f2) (by omega)
theorem e30.c00(x:e30 h us (d::ds)):∃ u r,us=u::r∧o31 h u d∧e30 h r ds:=by
 obtain⟨f,as,r⟩:=x
 simp only[g90,and_eq_true] at f
 cases r with
 |cons r1 r2=>exact⟨_,_,rfl,⟨f.1,_,r1⟩,f.2,_,r2⟩
theorem e30.f40(x:e30 h us []):us=[]:=by
 obtain⟨_,as,r⟩:=x
 cases r;rfl
theorem in1_units(A:Around):A.in1.units=A.units + 1:=rfl
theorem a52:∀ (n:Nat) {A:Around}{s:Shared},
  (∀ (a b:D) (v u:Value) (c:Bool),deep a≤n→o31 s.heap v a→o31 s.heap u b→ltD a b=some c→A.units + n < cLine→D02 A s v u c) ∧
  (∀ (a b:List D) (vs us:List Value) (c:Bool),j90 a < n→e30 s.heap vs a→e30 s.heap us b→K91 a b=some c→A.units + n < cLine→Lx A.in1 s vs us c):=by
 intro n
 induction n with
 |zero =>
  intro A s
  refine⟨λa b v u c hd ha hb e hu=>?_,λa b vs us c hd=>absurd hd (Nat.not_lt_zero _)⟩
  cases a with
  |int i =>
   cases b with
   |int j =>
    cases e
    obtain⟨_,_,r1⟩:=ha
    obtain⟨_,_,r2⟩:=hb
    cases r1;cases r2
    exact λP w E Q h=>HT.g71 A s i _ j _ P w E Q h
   |_=>cases e
  |tup l=>simp[deep] at hd
  |_=>cases e
 |succ n ih =>
  have rows:∀ {A:Around}{s:Shared} (a b:List D) (vs us:List Value) (c:Bool),j90 a < n + 1→e30 s.heap vs a→e30 s.heap us b→K91 a b=some c→A.units + (n + 1) < cLine→Lx A.in1 s vs us c:=by
   intro A s a
   induction a with
   |nil =>
    intro b vs us c _ ha hb e hu
    cases ha.f40
    cases b with
    |nil=>cases hb.f40;cases e;exact .nn
    |cons y q=>obtain⟨u,r,rfl,_⟩:=hb.c00;cases e;exact .nc
   |cons x r ihr =>
    intro b vs us c hd ha hb e hu
    obtain⟨v,vs',rfl,a1,a2⟩:=ha.c00
    cases b with
    |nil=>cases hb.f40;cases e;exact .cn
    |cons y q =>
     obtain⟨u,us',rfl,b1,b2⟩:=hb.c00
     simp only[j90] at hd
     have d1:deep x≤n:=Nat.le_of_lt_succ (Nat.lt_of_le_of_lt (Nat.le_max_left _ _) hd)
     have d2:j90 r < n + 1:=Nat.lt_of_le_of_lt (Nat.le_max_right _ _) hd
     have hu1:A.in1.units + n < cLine:=by rw[in1_units];omega
     have he:=o42 (A:=A.in1) a1 b1 (by omega)
     simp only[K91] at e
     cases hq:eqD x y with
     |true =>
      rw[hq] at he e
      exact .eq he (ihr q vs' us' c d2 a2 b2 (by simpa using e) hu)
     |false =>
      rw[hq] at he e
      exact .ne he ((ih (A:=A.in1) (s:=s)).1 x y v u c d1 a1 b1 (by simpa using e) hu1)
  intro A s
  refine⟨λa b v u c hd ha hb e hu=>?_,rows⟩
  cases a with
  |int i =>
   cases b with
   |int j =>
    cases e
    obtain⟨_,_,r1⟩:=ha
    obtain⟨_,_,r2⟩:=hb
    cases r1;cases r2
    exact λP w E Q h=>HT.g71 A s i _ j _ P w E Q h
   |_=>cases e
  |tup l =>
   cases b with
   |tup q =>
    obtain⟨f1,as,r1⟩:=ha
    obtain⟨f2,bs,r2⟩:=hb
    simp only[deep] at hd
    cases r1 with
    |tuple k1 k2 k3 k4 =>
     cases r2 with
     |tuple m1 m2 m3 m4 =>
      exact w81 ⟨_,k1,k2,_,k3⟩ ⟨_,m1,m2,_,m3⟩ (by omega) (rows l q _ _ c (by omega) ⟨by simpa [x40] using f1,_,k4⟩ ⟨by simpa [x40] using f2,_,m4⟩ e hu)
   |_=>cases e
  |_=>cases e
section
variable {X:Cx}
theorem o52(h:ltO a b=some c):okD a=true∧okD b=true∧ltD a b=some c:=by
 unfold ltO at h
 split at h
 ·rename_i ok
  rw[and_eq_true] at ok
  exact⟨ok.1,ok.2,h⟩
 ·cases h
theorem o62(hu:X.A.units + 64 < cLine):OpR X (compareOp .Lt) (rD2 X.K λa b=>(A60 .lt a b).map λc=>.d (.bl c)):=by
 intro pins s σ H x y v u Q I rx ry h
 obtain⟨zA,z,dx,dy,w,st,hx,hy,e,q⟩:=h
 obtain⟨b,e1,e2⟩:=Option.map_eq_some_iff.mp e
 subst e2
 obtain⟨o1,o2,e3⟩:=o52 (show ltO dx dy=some b from e1)
 obtain⟨f1,_⟩:=o80 o1
 obtain⟨f2,_⟩:=o80 o2
 obtain⟨as,r1⟩:=i30 I (hx.same (a20 zA H)) rx f1
 obtain⟨bs,r2⟩:=i30 I (hy.same (a20 zA H)) ry f2
 exact(a52 40 (A:=X.A) (s:=s)).1 dx dy v u b (M50 o1) ⟨f1,as,r1⟩ ⟨f2,bs,r2⟩ e3 (by omega) _ _ _ _ ⟨.bl b,H,I,rfl,q _ _ (a30.refl H) g80⟩
theorem b61{K:PySem.W.Frag}{H:Hp}:∀ {l:List D}{ns:List Int}{vs:List V},a81 l=some ns→HdA K H l vs→vs=ns.map V.int∧l=ns.map D.int
 |[],_,_,e,h=>by cases e;rw[h.f40];exact⟨rfl,rfl⟩
 |.int i::r,_,_,e,h=>by
  obtain⟨ms,e1,rfl⟩:=Option.map_eq_some_iff.mp e
  obtain⟨x,xs,rfl,h1,h2⟩:=h.c00
  cases h1.i20
  obtain⟨rfl,rfl⟩:=b61 e1 h2
  exact⟨rfl,rfl⟩
 |.non::_,_,_,e,_=>by cases e
 |.bl _::_,_,_,e,_=>by cases e
 |.str _::_,_,_,e,_=>by cases e
 |.tup _::_,_,_,e,_=>by cases e
 |.lst _::_,_,_,e,_=>by cases e
 |.dct::_,_,_,e,_=>by cases e
theorem o72(hu:X.A.units + 64 < cLine):OpR X (compareOp .LtE) (rD2 X.K λa b=>(A60 .le a b).map λc=>.d (.bl c)):=by
 intro pins s σ H x y v u Q I rx ry h
 obtain⟨zA,z,dx,dy,w,st,hx,hy,e,q⟩:=h
 cases dx with
 |int i =>
  cases dy with
  |int j =>
   cases e;cases hx.i20;cases hy.i20
   exact A62 pins s σ H _ _ v u Q I rx ry ⟨i,j,rfl,rfl,q _ _ (a30.refl H) g80⟩
  |_=>cases e
 |tup a =>
  cases dy with
  |tup b =>
   obtain⟨c,e1,e2⟩:=Option.map_eq_some_iff.mp e
   subst e2
   obtain⟨ns,n1,e1⟩:=Option.bind_eq_some_iff.mp (show(a81 a).bind _=_ from e1)
   obtain⟨ms,n2,rfl⟩:=Option.map_eq_some_iff.mp e1
   obtain⟨p,xs,rfl,h1,h2⟩:=hx.B30
   obtain⟨p',ys,rfl,h3,h4⟩:=hy.B30
   obtain⟨rfl,_⟩:=b61 n1 h2
   obtain⟨rfl,_⟩:=b61 n2 h4
   exact n02 (by omega) pins s σ H _ _ v u Q I rx ry ⟨p,p',ns,ms,rfl,rfl,(a20 zA H).sqT h1,(a20 zA H).sqT h3,q _ _ (a30.refl H) g80⟩
  |_=>cases e
 |_=>cases e
theorem o82:OpR X (compareOp .Gt) (rD2 X.K λa b=>(A60 .gt a b).map λc=>.d (.bl c)):=by
 intro pins s σ H x y v u Q I rx ry h
 obtain⟨zA,z,dx,dy,w,st,hx,hy,e,q⟩:=h
 cases dx with
 |int i =>
  cases dy with
  |int j =>
   cases e;cases hx.i20;cases hy.i20
   exact A72 pins s σ H _ _ v u Q I rx ry ⟨i,j,rfl,rfl,q _ _ (a30.refl H) g80⟩
  |_=>cases e
 |_=>cases e
theorem o92:OpR X (compareOp .GtE) (rD2 X.K λa b=>(A60 .ge a b).map λc=>.d (.bl c)):=by
 intro pins s σ H x y v u Q I rx ry h
 obtain⟨zA,z,dx,dy,w,st,hx,hy,e,q⟩:=h
 cases dx with
 |int i =>
  cases dy with
  |int j =>
   cases e;cases hx.i20;cases hy.i20
   exact A82 pins s σ H _ _ v u Q I rx ry ⟨i,j,rfl,rfl,q _ _ (a30.refl H) g80⟩
  |_=>cases e
 |_=>cases e
theorem i21{K:PySem.W.Frag}{H:Hp}{d:D}{v:V}(h:Hd K H d v):decide (v=.non)=T20 d:=by
 cases d with
 |non=>cases h.n92;rfl
 |bl b=>cases h.bl_;rfl
 |int i=>cases h.i20;rfl
 |str x=>cases h.C72;rfl
 |tup l=>obtain⟨a,xs,rfl,_⟩:=h.B30;rfl
 |lst l=>obtain⟨a,xs,rfl,_⟩:=h.b31;rfl
 |dct=>unfold Hd at h;obtain⟨a,kvs,rfl,_⟩:=h;rfl
theorem p02:OpR X (compareOp .Is) (rD2 X.K λa b=>(A60 .is a b).map λc=>.d (.bl c)):=by
 intro pins s σ H x y v u Q I rx ry h
 obtain⟨zA,z,dx,dy,w,st,hx,hy,e,q⟩:=h
 cases dy with
 |bl b =>
  cases dx with
  |bl a =>
   cases e;cases hx.bl_;cases hy.bl_
   exact n12 pins s σ H _ _ v u Q I rx ry ⟨a,b,rfl,rfl,q _ _ (a30.refl H) g80⟩
  |_=>cases e
 |non =>
  have e':some (S.d (.bl (T20 dx)))=some w:=by cases dx <;> exact e
  cases e'
  cases hy.n92
  refine l42 pins s σ H _ _ v u Q I rx ry ⟨rfl,?_⟩
  rw[i21 hx]
  exact q _ _ (a30.refl H) g80
 |_=>cases dx <;> cases e
theorem L51:OpR X (compareOp .IsNot) (rD2 X.K λa b=>(A60 .isnt a b).map λc=>.d (.bl c)):=by
 intro pins s σ H x y v u Q I rx ry h
 obtain⟨zA,z,dx,dy,w,st,hx,hy,e,q⟩:=h
 cases dy with
 |bl b =>
  cases dx with
  |bl a =>
   cases e;cases hx.bl_;cases hy.bl_
   exact u11 pins s σ H _ _ v u Q I rx ry ⟨a,b,rfl,rfl,q _ _ (a30.refl H) g80⟩
  |_=>cases e
 |non =>
  have e':some (S.d (.bl (!T20 dx)))=some w:=by cases dx <;> exact e
  cases e'
  cases hy.n92
  refine V01 pins s σ H _ _ v u Q I rx ry ⟨rfl,?_⟩
  rw[i21 hx]
  exact q _ _ (a30.refl H) g80
 |_=>cases dx <;> cases e
def opC:Cm→CmpOp
 |.eq=>.Eq | .ne=>.NotEq | .lt=>.Lt | .le=>.LtE | .gt=>.Gt | .ge=>.GtE | .is=>.Is | .isnt=>.IsNot | .mem=>.In | .nmem=>.NotIn
theorem h72(hu:X.A.units + 64 < cLine)(o:Cm):OpR X (compareOp (opC o)) (rD2 X.K λa b=>(A60 o a b).map λc=>.d (.bl c)):=by
 cases o
 ·exact o22 hu
 ·exact a32 hu
 ·exact o62 hu
 ·exact o72 hu
 ·exact o82
 ·exact o92
 ·exact p02
 ·exact L51
 ·exact a42 hu
 ·exact L41 hu
theorem HdA.one{K:PySem.W.Frag}{H:Hp}{d:D}{xs:List V}(h:HdA K H [d] xs):∃ x,xs=[x]∧Hd K H d x:=by
 obtain⟨x,r,rfl,h1,h2⟩:=h.c00
 rw[h2.f40]
 exact⟨x,rfl,h1⟩
theorem HdA.two{K:PySem.W.Frag}{H:Hp}{d e:D}{xs:List V}(h:HdA K H [d,e] xs):∃ x y,xs=[x,y]∧Hd K H d x∧Hd K H e y:=by
 obtain⟨x,r,rfl,h1,h2⟩:=h.c00
 obtain⟨y,rfl,h3⟩:=h2.one
 exact⟨x,y,rfl,h1,h3⟩
theorem i31{K:PySem.W.Frag}{zA:Option Addr}{H:Hp}{d:D}{l:List D}{v:V}(h:Hd K (hz zA H) d v)(e:a91 d=some l):∃ a xs,v=.ref a∧(SqL K H a xs∨SqT K H a xs)∧HdA K (hz zA H) l xs:=by
 cases d with
 |tup m =>
  cases e
  obtain⟨a,xs,rfl,h1,h2⟩:=h.B30
  exact⟨a,xs,rfl,.inr ((a20 zA H).sqT h1),h2⟩
 |lst m =>
  cases e
  obtain⟨a,xs,rfl,h1,h2⟩:=h.b31
  exact⟨a,xs,rfl,.inl (h1.same (a20 zA H)).sq,h2⟩
 |_=>cases e
theorem p12:f80 X (.builtin "len") (rDn X.K (bfD .len)):=by
 intro pins s σ H xs us Q I r h
 obtain⟨zA,z,ds,w,st,hx,e,q⟩:=h
 match ds,e with
 |[d],e =>
  obtain⟨l,e1,rfl⟩:=Option.map_eq_some_iff.mp (show(a91 d).map _=some w from e)
  obtain⟨x,rfl,h1⟩:=hx.one
  obtain⟨a,ys,rfl,h2,h3⟩:=i31 h1 e1
  exact S10 pins s σ H _ us Q I r ⟨a,ys,rfl,h2,by rw[h3.length];exact q _ _ (a30.refl H) h40⟩
theorem L61:f80 X (.type "tuple") (rDn X.K (bfD .tuple)):=by
 intro pins s σ H xs us Q I r h
 obtain⟨zA,z,ds,w,st,hx,e,q⟩:=h
 match ds,e with
 |[d],e =>
  obtain⟨l,e1,rfl⟩:=Option.map_eq_some_iff.mp (show(a91 d).map _=some w from e)
  obtain⟨x,rfl,h1⟩:=hx.one
  obtain⟨a,ys,rfl,h2,h3⟩:=i31 h1 e1
  refine K40 pins s σ H _ us Q I r ⟨a,ys,rfl,?_⟩
  rcases h2 with h2 | h2
  ·refine .inl ⟨h2,λp hp=>q _ _ (a30.new _ hp) (G41 (Hd.tup ((st.same (a30.new _ hp)).Z51 (SqT.of c70)) (h3.same (k00 (a30.new _ hp)))))⟩
  ·exact .inr ⟨h2,q _ _ (a30.refl H) (G41 (Hd.tup (st.Z51 h2) h3))⟩
theorem a62:f80 X (.type "list") (rDn X.K (bfD .list)):=by
 intro pins s σ H xs us Q I r h
 obtain⟨zA,z,ds,w,st,hx,e,q⟩:=h
 match ds,e with
 |[d],e =>
  obtain⟨l,e1,rfl⟩:=Option.map_eq_some_iff.mp (show(a91 d).map _=some w from e)
  obtain⟨x,rfl,h1⟩:=hx.one
  obtain⟨a,ys,rfl,h2,h3⟩:=i31 h1 e1
  exact S20 pins s σ H _ us Q I r ⟨a,ys,rfl,h2,λp hp=>q _ _ (a30.new _ hp) (s50 st h3 hp)⟩
theorem R31{K:PySem.W.Frag}{H:Hp}:∀ {l:List D}{bs:List Bool}{vs:List V},l.mapM asB=some bs→HdA K H l vs→vs=bs.map V.bl
 |[],_,_,e,h=>by simp at e;subst e;rw[h.f40];rfl
 |x::r,_,_,e,h=>by
  simp only[mapM_cons,bind,Option.bind_eq_some_iff] at e
  obtain⟨b,e1,bs,e2,e3⟩:=e
  cases e3
  obtain⟨y,ys,rfl,h1,h2⟩:=h.c00
  cases x with
  |bl c=>cases e1;cases h1.bl_;rw[R31 e2 h2];rfl
  |_=>cases e1
theorem p22(hc:X.calm=true):f80 X (.builtin "all") (rDn X.K (bfD .all)):=by
 intro pins s σ H xs us Q I r h
 obtain⟨zA,z,ds,w,st,hx,e,q⟩:=h
 match ds,e with
 |[.lst l],e =>
  obtain⟨bs,e1,rfl⟩:=Option.map_eq_some_iff.mp (show(l.mapM asB).map _=some w from e)
  obtain⟨x,rfl,h1⟩:=hx.one
  obtain⟨a,ys,rfl,h2,h3⟩:=h1.b31
  rw[R31 e1 h3] at h2
  exact I81 hc pins s σ H _ us Q I r ⟨a,bs,rfl,(h2.same (a20 zA H)).sq,q _ _ (a30.refl H) g80⟩
theorem i41:∀ {ns:List Int}{vs:List Value},Vals (ns.map V.int) vs→∃ xs:List (Int × Tok),vs=xs.map (λp=>.int p.1 p.2)∧xs.map (·.1)=ns
 |[],_,h=>by cases h;exact⟨[],rfl,rfl⟩
 |n::r,_,h=>by
  cases h with
  |cons h1 h2 =>
   obtain⟨t,rfl⟩:=h1
   obtain⟨xs,rfl,e⟩:=i41 h2
   exact⟨(n,t)::xs,rfl,by rw[map_cons,e]⟩
theorem L71(hc:X.calm=true):f80 X (.builtin "sum") (λxs H Q=>∃ (a:Addr) (ns:List Int),xs=[.ref a]∧(SqL X.K H a (ns.map V.int)∨SqT X.K H a (ns.map V.int))∧Q (.int ns.sum) H):=by
 intro pins s σ H xs us Q I r h
 obtain⟨a,ns,rfl,hq,q⟩:=h
 obtain⟨u,rfl,rx⟩:=vals1 r
 cases rx
 have fin:∀ {its:List Value},Vals (ns.map V.int) its→∃ xs:Array (Int × Tok),its.toArray=intItems xs∧preSum (numAt xs) xs.size=ns.sum:=λ{its} rv=>by
  obtain⟨xs,rfl,e⟩:=i41 rv
  exact⟨xs.toArray,by simp[intItems],by rw[preSum_eq,take_of_length_le (by simp)];simp[e]⟩
 rcases hq with hq | hq
 ·obtain⟨its,rv,p,_⟩:=I.list hq
  obtain⟨xs,e1,e2⟩:=fin rv
  exact sum_intListG (I.ok.hd hc) (e1 ▸ p.isList) λh' tk t' k=>⟨.int ns.sum,H,I.kept k,by rw[e2];exact⟨_,rfl⟩,q⟩
 ·obtain⟨its,rv,p,_⟩:=I.tuple hq
  obtain⟨xs,e1,e2⟩:=fin rv
  exact W.ktm_sumG (I.ok.hd hc) (e1 ▸ p) λh' tk t' k=>⟨.int ns.sum,H,I.kept k,by rw[e2];exact⟨_,rfl⟩,q⟩
theorem R41{K:PySem.W.Frag}{H:Hp}:∀ {l:List D}{i:Int}{vs:List V},L11 l=some i→HdA K H l vs→∃ ns:List Int,vs=ns.map V.int∧ns.sum=i
 |[],_,_,e,h=>by cases e;rw[h.f40];exact⟨[],rfl,rfl⟩
 |.int j::r,_,_,e,h=>by
  obtain⟨k,e1,rfl⟩:=Option.map_eq_some_iff.mp (show(L11 r).map _=_ from e)
  obtain⟨v,q,rfl,h1,h2⟩:=h.c00
  obtain⟨ns,rfl,e2⟩:=R41 e1 h2
  cases h1.i20
  exact⟨j::ns,rfl,by rw[List.sum_cons,e2]⟩
theorem p32(hc:X.calm=true):f80 X (.builtin "sum") (rDn X.K (bfD .sum)):=by
 intro pins s σ H xs us Q I r h
 obtain⟨zA,z,ds,w,st,hx,e,q⟩:=h
 match ds,e with
 |[d],e =>
  obtain⟨i,e1,rfl⟩:=Option.map_eq_some_iff.mp (show((a91 d).bind L11).map _=some w from e)
  obtain⟨l,e2,e3⟩:=Option.bind_eq_some_iff.mp e1
  obtain⟨x,rfl,h1⟩:=hx.one
  obtain⟨a,ys,rfl,h2,h3⟩:=i31 h1 e2
  obtain⟨ns,rfl,rfl⟩:=R41 e3 h3
  exact L71 hc pins s σ H _ us Q I r ⟨a,ns,rfl,h2,q _ _ (a30.refl H) (show Hd X.K (hz zA H) _ _ from Hd.int)⟩
theorem p42(hc:X.calm=true):f80 X (.builtin "min") (rDn X.K (bfD .min)):=by
 intro pins s σ H xs us Q I r h
 obtain⟨zA,z,ds,w,st,hx,e,q⟩:=h
 match ds,e with
 |[.int i,.int j],e =>
  cases e
  obtain⟨x,y,rfl,h1,h2⟩:=hx.two
  cases h1.i20;cases h2.i20
  exact r71 hc pins s σ H _ us Q I r ⟨i,j,rfl,q _ _ (a30.refl H) h40⟩
theorem p52(hc:X.calm=true):f80 X (.builtin "max") (rDn X.K (bfD .max)):=by
 intro pins s σ H xs us Q I r h
 obtain⟨zA,z,ds,w,st,hx,e,q⟩:=h
 match ds,e with
 |[.int i,.int j],e =>
  cases e
  obtain⟨x,y,rfl,h1,h2⟩:=hx.two
  cases h1.i20;cases h2.i20
  exact r61 hc pins s σ H _ us Q I r ⟨i,j,rfl,q _ _ (a30.refl H) h40⟩
theorem p62:f80 X (.builtin "abs") (rDn X.K (bfD .abs)):=by
 intro pins s σ H xs us Q I r h
 obtain⟨zA,z,ds,w,st,hx,e,q⟩:=h
 match ds,e with
 |[.int i],e =>
  cases e
  obtain⟨x,rfl,h1⟩:=hx.one
  cases h1.i20
  exact H41 pins s σ H _ us Q I r ⟨i,rfl,q _ _ (a30.refl H) h40⟩
theorem p72:f80 X (.type "int") (rDn X.K (bfD .int)):=by
 intro pins s σ H xs us Q I r h
 obtain⟨zA,z,ds,w,st,hx,e,q⟩:=h
 match ds,e with
 |[.int i],e =>
  cases e
  obtain⟨x,rfl,h1⟩:=hx.one
  cases h1.i20
  exact R30 pins s σ H _ us Q I r (.inl ⟨i,rfl,q _ _ (a30.refl H) h40⟩)
 |[.bl b],e =>
  cases e
  obtain⟨x,rfl,h1⟩:=hx.one
  cases h1.bl_
  exact R30 pins s σ H _ us Q I r (.inr ⟨b,rfl,q _ _ (a30.refl H) h40⟩)
def tyN:Ty→String
 |.int=>"int" | .bool=>"bool" | .tuple=>"tuple" | .list=>"list" | .str=>"str" | .seq=>""
theorem a72(t:Ty)(d:D)(h:t≠.seq):isB d.ty (tyN t)=y12 t d:=by
 cases t <;> cases d <;> first | rfl | (exact absurd rfl h) | decide
theorem L81(d:D):(isB d.ty "tuple" || isB d.ty "list")=y12 .seq d:=by cases d <;> rfl
theorem at_of{K:PySem.W.Frag}{H:Hp}{l:List D}{xs:List V}{i:Int}{d:D}(h:HdA K H l xs)(e:atI l i=some d):∃ v,atI xs i=some v∧Hd K H d v:=by
 unfold atI at e ⊢
 obtain⟨j,e1,e2⟩:=Option.bind_eq_some_iff.mp e
 rw[h.length,e1]
 exact h.get e2
theorem ixD:IxR X (rD2 X.K λa b=>(T30 a b).map S.d):=by
 intro value slice pins s σ H x y v u Q I rx ry h hs
 obtain⟨zA,z,dx,dy,w,st,hx,hy,e,q⟩:=h
 obtain⟨r,e1,rfl⟩:=Option.map_eq_some_iff.mp e
 cases dx with
 |tup l =>
  cases dy with
  |int i =>
   cases hy.i20
   obtain⟨a,xs,rfl,h1,h2⟩:=hx.B30
   obtain⟨v',e2,h3⟩:=at_of h2 e1
   exact m12 value slice pins s σ H _ _ v u Q I rx ry ⟨a,xs,i,v',rfl,rfl,(a20 zA H).sqT h1,e2,q _ _ (a30.refl H) (G41 h3)⟩ hs
  |_=>cases e1
 |lst l =>
  cases dy with
  |int i =>
   cases hy.i20
   obtain⟨a,xs,rfl,h1,h2⟩:=hx.b31
   obtain⟨v',e2,h3⟩:=at_of h2 e1
   exact s41 value slice pins s σ H _ _ v u Q I rx ry ⟨a,xs,i,v',rfl,rfl,(h1.same (a20 zA H)).sq,e2,q _ _ (a30.refl H) (G41 h3)⟩ hs
  |_=>cases e1
 |_=>cases e1
theorem R51{K:PySem.W.Frag}{H:Hp}{l:List D}{xs:List V}(h:HdA K H l xs)(lo hi:Option Int):HdA K H (cutD l lo hi) (H81 xs lo hi):=by
 unfold cutD H81
 rw[h.length]
 exact(h.drop _).take _
def R12(K:PySem.W.Frag):V→Option Int→Option Int→Hp→VK→Prop:=λx lo hi H Q=>∃ zA z dx s,e50 zA z H∧Hd K (hz zA H) dx x∧slD dx lo hi=some s∧∀ v H',a30 H H'→RvS K zA H H' s v→Q v H'
theorem R22:SlR X (R12 X.K):=by
 intro pins s σ H x v vl vu lo hi sl Q I rx hs pl pu h
 obtain⟨zA,z,dx,w,st,hx,e,q⟩:=h
 cases dx with
 |tup l =>
  cases e
  obtain⟨a,xs,rfl,h1,h2⟩:=hx.B30
  exact X81 pins s σ H _ v vl vu lo hi sl Q I rx hs pl pu ⟨a,xs,rfl,(a20 zA H).sqT h1,tupQ st (R51 h2 lo hi) q⟩
 |lst l =>
  cases e
  obtain⟨a,xs,rfl,h1,h2⟩:=hx.b31
  exact V81 pins s σ H _ v vl vu lo hi sl Q I rx hs pl pu ⟨a,xs,rfl,(h1.same (a20 zA H)).sq,λp hp=>q _ _ (a30.new _ hp) (s50 st (R51 h2 lo hi) hp)⟩
 |_=>cases e
end
end Q
namespace Q
open PySem L2 PySem.Spec PyProof.Rows
open PySem.W (KatLex KatTups kat_nil kat_cons kat_go kat_yes kat_no kat_one kat_lt kat_kind kas_kind kat_lt_int)
theorem E50(k:D):∀ l,(q51 k l).Perm (k::l)
 |[]=>.refl _
 |y::r=>by
  unfold q51
  split
  ·exact((E50 k r).cons y).trans (.swap _ _ _)
  ·exact .refl _
theorem x80:∀ l,(A70 l).Perm l
 |[]=>.refl _
 |k::r=>(E50 k _).trans ((x80 r).cons k)
theorem w91(k:D):∀ l,l.Pairwise (λx y=>MySort.g60 (flt y) (flt x)=false)→(q51 k l).Pairwise (λx y=>MySort.g60 (flt y) (flt x)=false)
 |[],_=>List.pairwise_singleton _ _
 |y::r,h=>by
  obtain⟨h1,h2⟩:=List.pairwise_cons.mp h
  unfold q51
  split
  ·rename_i hy
   refine List.pairwise_cons.mpr ⟨λz hz=>?_,w91 k r h2⟩
   rcases List.mem_cons.mp ((E50 k r).mem_iff.mp hz) with rfl | hz
   ·cases q:MySort.g60 (flt z) (flt y) with
    |false=>rfl
    |true=>have:=MySort.r00 _ _ _ hy q;rw[MySort.t10] at this;cases this
   ·exact h1 z hz
  ·rename_i hy
   refine List.pairwise_cons.mpr ⟨λz hz=>?_,h⟩
   rcases List.mem_cons.mp hz with rfl | hz
   ·simpa using hy
   ·cases q:MySort.g60 (flt z) (flt k) with
    |false=>rfl
    |true =>
     rcases MySort.h01 _ (flt y) _ q with q | q
     ·rw[h1 z hz] at q;cases q
     ·exact absurd q hy
theorem i51:∀ l,(A70 l).Pairwise (λx y=>MySort.g60 (flt y) (flt x)=false)
 |[]=>.nil
 |k::r=>w91 k _ (i51 r)
mutual
theorem R61:∀ x y:D,eqT x y=true→x=y
 |.int i,y,h=>by
  cases y with
  |int j=>rw[eq_of_beq (show(i == j)=true from h)]
  |_=>cases h
 |.tup a,y,h=>by
  cases y with
  |tup b=>rw[b71 a b h]
  |_=>cases h
 |.non,y,h=>by cases y <;> cases h
 |.bl _,y,h=>by cases y <;> cases h
 |.str _,y,h=>by cases y <;> cases h
 |.lst _,y,h=>by cases y <;> cases h
 |.dct,y,h=>by cases y <;> cases h
theorem b71:∀ x y:List D,Z00 x y=true→x=y
 |[],[],_=>rfl
 |[],_::_,h=>by cases h
 |_::_,[],h=>by cases h
 |x::r,y::q,h=>by
  have h:(eqT x y&&Z00 r q)=true:=h
  rw[and_eq_true] at h
  rw[R61 x y h.1,b71 r q h.2]
end
variable [TB:Tb]
theorem a82(ok:∀ x∈l,∀ y∈l,flt x=flt y→x=y)(h:MySort.sortedBy (l.map flt) p):(p.map λi=>l.getD i .non)=A70 l:=by
 have h1:=h.1.map λi=>l.getD i .non
 rw[length_map,MySort.range_getD] at h1
 have e:((p.map λi=>l.getD i .non).map flt)=p.map λi=>(l.map flt).getD i []:=by
  rw[List.map_map]
  refine map_congr_left λi hi=>?_
  have:i < l.length:=by have:=h.1.mem_iff.mp hi;simpa using this
  simp[this]
 have h2:(p.map λi=>l.getD i .non).Pairwise λx y=>MySort.g60 (flt y) (flt x)=false:=by
  have:=h.2
  rw[← e,List.pairwise_map] at this
  exact this
 refine List.Perm.eq_of_pairwise (le:=λx y=>MySort.g60 (flt y) (flt x)=false) (λa b ha hb p q=>?_) h2 (i51 l) (h1.trans (x80 l).symm)
 exact ok a (h1.mem_iff.mp ha) b ((x80 l).mem_iff.mp hb) (MySort.r10 _ _ q p)
mutual
theorem L91(kp:MySort.t81 h h'):∀ (d:D) {u:Value}{as:List Addr},eqT d d=true→Reads h u (toP d) as→Reads h' u (toP d) as
 |.int i,_,_,_,r=>by cases r;exact .int _ _
 |.tup l,_,_,e,r=>by
  cases r with
  |tuple k1 k2 k3 k4=>exact .tuple (kp _ _ k1 k2) k2 k3 (o90 kp l e k4)
 |.non,_,_,e,_=>by cases e
 |.bl _,_,_,e,_=>by cases e
 |.str _,_,_,e,_=>by cases e
 |.lst _,_,_,e,_=>by cases e
 |.dct,_,_,e,_=>by cases e
theorem o90(kp:MySort.t81 h h'):∀ (l:List D) {us:List Value}{as:List Addr},Z00 l l=true→ReadsAll h us (Q90 l) as→ReadsAll h' us (Q90 l) as
 |[],_,_,_,r=>by cases r;exact .nil
 |x::q,_,_,e,r=>by
  have e:(eqT x x&&Z00 q q)=true:=e
  rw[and_eq_true] at e
  cases r with
  |cons r1 r2=>exact .cons (L91 kp x e.1 r1) (o90 kp q e.2 r2)
end
theorem e30.get:∀ {us:List Value}{l:List D}{i:Nat}{d:D},e30 h us l→l[i]?=some d→o31 h (us.getD i Value.none) d
 |_,[],i,d,_,e=>by cases e
 |us,x::r,i,d,hd,e=>by
  obtain⟨u,q,rfl,h1,h2⟩:=hd.c00
  cases i with
  |zero=>cases e;simpa using h1
  |succ i=>simpa using e30.get h2 (by simpa using e)
theorem e30.len:∀ {us:List Value}{l:List D},e30 h us l→us.length=l.length
 |_,[],hd=>by rw[hd.f40];rfl
 |us,x::r,hd=>by
  obtain⟨u,q,rfl,h1,h2⟩:=hd.c00
  simp[e30.len h2]
def R71(l:List D):Prop:=∀ x r,l=x::r→∃ i,x=.int i
theorem K92(hu:A.units + 40 < cLine):∀ (a c:List D) {vs us:List Value}{r:Bool} (i:Nat),e30 s.heap vs a→e30 s.heap us c→K91 a c=some r→j90 a≤39 →
  ((b&&i == 0)=true→R71 a∧R71 c)→fin=decide (vs.length < us.length)→Q r s→KatLex P w A b fin Q (vs.zip us) i s
 |[],[],_,_,r,i,ha,hc,e,_,_,hf,q=>by
  cases ha.f40;cases hc.f40;cases e;subst hf;exact kat_nil q
 |[],y::t,_,_,r,i,ha,hc,e,_,_,hf,q=>by
  cases ha.f40
  obtain⟨u,us,rfl,_,_⟩:=hc.c00
  cases e;subst hf;exact kat_nil q
 |x::l,[],_,_,r,i,ha,hc,e,_,_,hf,q=>by
  cases hc.f40
  obtain⟨v,vs,rfl,_,_⟩:=ha.c00
  cases e;subst hf;exact kat_nil q
 |x::l,y::t,_,_,r,i,ha,hc,e,hd,hi,hf,q=>by
  obtain⟨v,vs,rfl,a1,a2⟩:=ha.c00
  obtain⟨u,us,rfl,c1,c2⟩:=hc.c00
  have d1:deep x≤39:=Nat.le_trans (Nat.le_max_left _ _) hd
  have d2:j90 l≤39:=Nat.le_trans (Nat.le_max_right _ _) hd
  have e:(if eqD x y=true then K91 l t else ltD x y)=some r:=e
  refine kat_cons (o42 (A:=A) a1 c1 (by omega) P w _ _ ?_)
  refine kat_go (λz=>?_) λz=>?_
  ·rw[if_pos z] at e
   refine kat_yes (K92 hu l t (i + 1) a2 c2 e d2 (λk=>?_) (by rw[hf];simp) q)
   simp at k
  ·rw[if_neg (by rw[z];exact Bool.false_ne_true)] at e
   refine kat_no ?_
   cases hb:(b&&i == 0) with
   |true =>
    obtain⟨f1,f2⟩:=hi hb
    obtain⟨m,rfl⟩:=f1 x l rfl
    obtain⟨n,rfl⟩:=f2 y t rfl
    cases e
    obtain⟨_,_,r1⟩:=a1
    obtain⟨_,_,r2⟩:=c1
    cases r1;cases r2
    exact oneLt_int q
   |false=>exact kat_one _ _ ((a52 39 (A:=A) (s:=s)).1 x y v u r d1 a1 c1 e (by omega) P w _ _ q)
theorem b81(h:v91 x=0):∃ i,x=.int i:=by
 cases x with
 |int i=>exact⟨i,rfl⟩
 |tup l =>
  cases l with
  |nil=>cases h
  |cons y r=>cases y <;> cases h
 |_=>cases h
theorem b91(h:v91 x=k)(h1:1≤k)(h3:k < 3):∃ y r,x=.tup (y::r)∧(k=1→∃ i,y=.int i)∧(k=2→∃ l,y=.tup l):=by
 cases x with
 |tup l =>
  cases l with
  |nil=>have:k=3:=h.symm;omega
  |cons y r =>
   refine⟨y,r,rfl,λe=>?_,λe=>?_⟩ <;> subst e <;> cases y <;> first | exact⟨_,rfl⟩ | cases h
 |int i=>have:k=0:=h.symm;omega
 |_=>have:k=3:=h.symm;omega
theorem a92(h1:1≤k)(h3:k < 3):∀ {us:List Value}{l:List D},e30 h us l→(∀ x∈l,v91 x=k)→∃ fs,KatTups h us fs∧fs.length=us.length∧∀ v∈fs,(k=1→∃ i t,v=Value.int i t)∧(k=2→∃ a o,v=Value.ref a∧h.get? a=some o∧o.cls=.type "tuple")
 |_,[],hd,_=>by rw[hd.f40];exact⟨[],.nil,rfl,λv hv=>absurd hv (by simp)⟩
 |_,x::r,hd,hk=>by
  obtain⟨u,q,rfl,⟨_,as,r1⟩,h2⟩:=hd.c00
  obtain⟨fs,t1,t2,t3⟩:=a92 h1 h3 h2 λy hy=>hk y (mem_cons_of_mem _ hy)
  obtain⟨y,l,rfl,y1,y2⟩:=b91 (hk x mem_cons_self) h1 h3
  cases r1 with
  | @tuple a o vs n xs as k1 k2 k3 k4 =>
   cases hv:vs.toList with
   |nil=>rw[hv] at k4;cases k4
   |cons f fr =>
    rw[hv] at k4
    cases k4 with
    |cons f1 f2 =>
     refine⟨f::fs,.cons k1 k2 k3 (by rw[← Array.getElem?_toList,hv];rfl) t1,by simp[t2],λv hm=>?_⟩
     rcases List.mem_cons.mp hm with rfl | hm
     ·refine⟨λe=>?_,λe=>?_⟩
      ·obtain⟨i,rfl⟩:=y1 e
       cases f1;exact⟨_,_,rfl⟩
      ·obtain⟨m,rfl⟩:=y2 e
       cases f1 with
       |tuple g1 g2 g3 g4=>exact⟨_,_,rfl,g1,g2⟩
     ·exact t3 v hm
def kdOf:Nat→SortKind
 |0=>oneType'
 |1=>tuples' true
 |_=>tuples' false
theorem c01(h:l30 x y=true):v91 y=v91 x∧ltD x y=some (MySort.g60 (flt x) (flt y))∧(flt x=flt y→x=y):=by
 unfold l30 at h
 rw[and_eq_true,and_eq_true,or_eq_true] at h
 refine⟨eq_of_beq h.1,eq_of_beq h.2.1,λe=>?_⟩
 rcases h.2.2 with k | k
 ·exact R61 _ _ k
 ·rw[e] at k;simp at k
theorem x01(h64:us.length < 64)(hd:e30 s.heap us l)(hu:A.units + 40 < cLine)(k3:k < 3)(hk:∀ x∈l,v91 x=k)(ho:∀ x∈l,okD x=true)(hp:∀ x∈l,∀ y∈l,l30 x y=true):MySort.h42 P w A s us (MySort.sortedBy (l.map flt)) (kdOf k) where
 len:=by omega
 few h2:=MySort.m62 (by rw[length_map];exact hd.len) h2
 all p hp:=by rw[hp.1.length_eq,length_range,length_map,hd.len]
 kind h2 E Q q:=by
  match k,k3,hk,q with
  |0,_,hk,q =>
   refine kas_kind h2 (T:=.type "int") (λv hv=>?_) rfl rfl q
   obtain⟨i,hi,rfl⟩:=List.mem_iff_getElem.mp hv
   have hi':i < l.length:=by rw[← hd.len];exact hi
   obtain⟨_,as,r⟩:=hd.get (i:=i) (d:=l[i]) (by simp[hi'])
   obtain⟨n,hn⟩:=b81 (hk l[i] (getElem_mem hi'))
   rw[hn] at r
   have e:us.getD i Value.none=us[i]:=by simp[hi]
   rw[e] at r
   generalize us[i]=v at r
   cases r
   exact PySem.W.Looks.of_pure rfl
  |1,_,hk,q =>
   obtain⟨fs,t1,t2,t3⟩:=a92 (by decide) (by decide) hd hk
   exact kat_kind (T:=.type "int") t1 (by omega) (λv hv=>by obtain⟨i,t,rfl⟩:=(t3 v hv).1 rfl;exact PySem.W.Looks.of_pure rfl) rfl q
  |2,_,hk,q =>
   obtain⟨fs,t1,t2,t3⟩:=a92 (by decide) (by decide) hd hk
   exact kat_kind (T:=.type "tuple") t1 (by omega) (λv hv=>by
    obtain⟨a,o,rfl,g1,g2⟩:=(t3 v hv).2 rfl
    rw[← g2];exact(PySem.W.Looks.ld g1).andThen .now) rfl q
 run:=MySort.W91 (by rw[length_map];exact hd.len) h64 λi j hi hj E C hC=>by
  have hi':i < l.length:=by rw[← hd.len];exact hi
  have hj':j < l.length:=by rw[← hd.len];exact hj
  have mi:=getElem_mem hi'
  have mj:=getElem_mem hj'
  obtain⟨_,h2,_⟩:=c01 (hp _ mi _ mj)
  have a1:=hd.get (i:=i) (d:=l[i]) (by simp[hi'])
  have b1:=hd.get (i:=j) (d:=l[j]) (by simp[hj'])
  have e1:(l.map flt).getD i []=flt l[i]:=by simp[hi']
  have e2:(l.map flt).getD j []=flt l[j]:=by simp[hj']
  rw[e1,e2] at hC
  generalize MySort.g60 (flt l[i]) (flt l[j])=c at h2 hC
  have kx:=hk _ mi
  have ky:=hk _ mj
  have ox:=M50 (ho _ mi)
  generalize l[i]=x at *
  generalize l[j]=y at *
  have tup:∀ b:Bool,1≤k→(b=true→k=1)→wpAny (model P w) A (keyLt' (tuples' b) (us.getD i Value.none) (us.getD j Value.none)) C E s:=λb h1 hb=>by
   obtain⟨x1,xr,rfl,x2,_⟩:=b91 kx h1 k3
   obtain⟨y1,yr,rfl,y2,_⟩:=b91 ky h1 k3
   obtain⟨f1,as,r1⟩:=a1
   obtain⟨f2,bs,r2⟩:=b1
   generalize us.getD i Value.none=v at r1
   generalize us.getD j Value.none=u at r2
   cases r1 with
   |tuple p1 p2 p3 p4 =>
    cases r2 with
    |tuple q1 q2 q3 q4 =>
     refine kat_lt p1 p3 q1 q3 (K92 hu (x1::xr) (y1::yr) 0 ⟨f1,_,p4⟩ ⟨f2,_,q4⟩ h2 (by have:deep (.tup (x1::xr))=j90 (x1::xr) + 1:=rfl;omega) (λz=>?_) (by simp) hC)
     have hb1:=hb (by simpa using z)
     exact⟨λa q e=>by cases e;exact x2 hb1,λa q e=>by cases e;exact y2 hb1⟩
  match k,k3,kx,ky,tup with
  |0,_,kx,ky,_ =>
   obtain⟨m,rfl⟩:=b81 kx
   obtain⟨n,rfl⟩:=b81 ky
   cases h2
   obtain⟨_,_,r1⟩:=a1
   obtain⟨_,_,r2⟩:=b1
   generalize us.getD i Value.none=v at r1
   generalize us.getD j Value.none=u at r2
   cases r1;cases r2
   exact kat_lt_int hC
  |1,_,_,_,tup=>exact tup true (by decide) λ_=>rfl
  |2,_,_,_,tup=>exact tup false (by decide) λh=>by cases h
theorem HdA.pick{K:PySem.W.Frag}{H:Hp}{l:List D}{vs:List V}(h:HdA K H l vs):∀ {p:List Nat},(∀ i∈p,i < l.length)→HdA K H (p.map λi=>l.getD i .non) (p.map λi=>vs.getD i .non)
 |[],_=>.nil
 |i::p,hp=>by
  have hi:=hp i mem_cons_self
  refine .cons ?_ (HdA.pick h λj hj=>hp j (mem_cons_of_mem _ hj))
  obtain⟨v,e1,e2⟩:=h.get (i:=i) (d:=l[i]) (by simp[hi])
  have g1:l.getD i .non=l[i]:=by simp[hi]
  have g2:vs.getD i .non=v:=by rw[List.getD_eq_getElem?_getD,e1];rfl
  show Hd K H (l.getD i .non) (vs.getD i .non)
  rw[g1,g2];exact e2
end Q
namespace Q
open PySem L2 PySem.Spec PyProof.Rows
open PySem.W (kas_mapM kas_first_eq kas_item kas_item_eq kas_cmp)
theorem b02(h:k≤8):∀ i∈TS.sN k,i < 2 ^ k:=by
 have:∀ k,k < 9→((TS.sN k).all λi=>Nat.blt i (2 ^ k))=true:=by decide +kernel
 intro i hi
 exact Nat.blt_eq.mp (List.all_eq_true.mp (this k (by omega)) i hi)
theorem p82(h:k≤8):(TS.sN k).length=2 ^ k:=by
 have:∀ k,k < 9→beq (TS.sN k).length (2 ^ k)=true:=by decide +kernel
 exact Nat.eq_of_beq_eq_true (this k (by omega))
theorem w00(h:i < 2 ^ k):(h70 k)[i]?=some (x50 k i):=by
 unfold h70
 rw[List.getElem?_map,List.getElem?_range h];rfl
theorem p92(h:k≤8):((TS.sN k).map λi=>(h70 k).getD i .non)=L01 k :=
 map_congr_left λi hi=>by rw[List.getD_eq_getElem?_getD,w00 (b02 h i hi)];rfl
theorem x11:∀ a b:List Nat,K91 (a.map λ(i:Nat)=>.int i) (b.map λ(i:Nat)=>.int i)=some (TS.y02 a b)
 |[],[]=>rfl
 |[],_::_=>rfl
 |_::_,[]=>rfl
 |a::r,b::q=>by
  show(if ((a:Int) == (b:Int))=true then K91 (r.map λ(i:Nat)=>.int i) (q.map λ(i:Nat)=>.int i) else some (decide ((a:Int) < b)))=some (if beq a b=true then TS.y02 r q else Nat.blt a b)
  rw[x11 r q]
  by_cases h:a=b
  ·subst h;rw[if_pos (by simp),if_pos (Nat.beq_refl a)]
  ·rw[if_neg (by simp;omega),if_neg λe=>h (Nat.eq_of_beq_eq_true e)]
   congr 1
   rw[Bool.eq_iff_iff,decide_eq_true_eq,Nat.blt_eq]
   omega
variable [TB:Tb]
section
variable {P:Program}{w:World}{A:Around}{E:Value→Shared→Prop}{s:Shared}
def TupAt(h:Heap)(v:Value):Prop:=∃ a o xs n,v=.ref a∧h.get? a=some o∧o.cls=.type "tuple"∧o.data=.seq xs n
theorem i61(ho:s.heap.get? a=some o)(hc:o.cls=.type "tuple")(hd:o.data=.seq xs n)(q:Q xs[0]? s):wpAny (model P w) A (firstOfTuple' (.ref a)) Q E s:=by
 rw[kas_first_eq]
 refine wpAny_bind (PySem.W.Looks.here (show PySem.W.Looks (model P w) s.heap (typeOf (.ref a)) o.cls from(PySem.W.Looks.ld ho).andThen .now) ?_)
 rw[hc,if_neg (by first | decide | simp)]
 exact wpAny_bind (listItems_at ho hd (wpAny_pure q))
theorem U10:∀ (vs:List Value),(∀ v∈vs,TupAt s.heap v)→∃ fs:List (Option Value),∀ Q,Q fs s→wpAny (model P w) A (vs.mapM firstOfTuple') Q E s
 |[],_=>⟨[],λQ q=>by rw[List.mapM_nil];exact wpAny_pure q⟩
 |v::vs,h=>by
  obtain⟨fs,hf⟩:=U10 vs λu hu=>h u (mem_cons_of_mem _ hu)
  obtain⟨a,o,xs,n,rfl,ho,hc,hd⟩:=h v mem_cons_self
  refine⟨xs[0]?::fs,λQ q=>?_⟩
  rw[mapM_cons]
  exact wpAny_bind (i61 ho hc hd (wpAny_bind (hf _ (wpAny_pure q))))
theorem b12(ho:s.heap.get? a=some o)(hc:o.cls=.type "tuple")(hd:o.data=.seq #[] n)(h:∀ v∈vs,TupAt s.heap v)(q:Q oneType' s):wpAny (model P w) A (keyKind' (Value.ref a::vs).toArray) Q E s:=by
 obtain⟨fs,hf⟩:=U10 (P:=P) (w:=w) (A:=A) (E:=E) vs h
 rw[keyKind'_eq,List.mapM_toArray,map_eq_pure_bind,mapM_cons]
 refine wpAny_bind (wpAny_bind (wpAny_bind (i61 ho hc hd (wpAny_bind (hf _ (wpAny_pure (wpAny_pure ?_)))))))
 rw[if_neg (by simp),if_neg (by simp)]
 rw[oneTypeOnly'_eq,List.mapM_toArray,map_eq_pure_bind]
 refine wpAny_bind (wpAny_bind (wpAny_bind (kas_mapM (r:=.type "tuple") _ (λv hv Q' hq=>?_) (wpAny_pure ?_))))
 ·have:TupAt s.heap v:=by
   rcases List.mem_cons.mp hv with rfl | hv
   ·exact⟨_,_,_,_,rfl,ho,hc,hd⟩
   ·exact h v hv
  obtain⟨b,o',xs,m,rfl,ho',hc',_⟩:=this
  rw[← hc'] at hq
  exact PySem.W.Looks.here (show PySem.W.Looks (model P w) s.heap (typeOf (.ref b)) o'.cls from(PySem.W.Looks.ld ho').andThen .now) hq
 ·have hall:((List.map (λ_=>Value.type "tuple") (Value.ref a::vs)).toArray.all λx=>x == Value.type "tuple")=true:=by
   simp only[List.all_toArray,all_map,all_eq_true]
   intro _ _
   rfl
  have h0:(List.map (λ_=>Value.type "tuple") (Value.ref a::vs)).toArray[0]?=some (Value.type "tuple"):=by simp
  rw[h0]
  simp only[hall,if_true]
  exact wpAny_pure (wpAny_pure q)
theorem q02(hl:IsTup s.heap l i1)(hb:IsTup s.heap b i2)(hu:A.units < cLine)(hx:Lx A.in1 s i1.toList i2.toList c)(q:Q c s):wpAny (model P w) A (keyLt' oneType' (.ref l) (.ref b)) Q E s:=by
 obtain⟨⟨cls,dd,data,sl⟩,ho,hc,n,hd⟩:=id hl;obtain⟨⟨cls2,dd2,data2,sl2⟩,ho2,hc2,n2,hd2⟩:=id hb
 simp only at hc hd hc2 hd2;subst hc hd hc2 hd2
 rw[keyLt'_oneType,oneLt'_eq]
 simp only[if_true]
 refine wpAny_bind (wpAny_cRoomFor hu (wpAny_bind (wpAny_callSpecialIfBound?_slot ⟨_,ho,rfl⟩ PySem.F.slot_tuple_lt (call_meets PySem.F.slot_tuple_lt ⟨_,ho,rfl⟩ PySem.F.entry_tuple_lt (PySem.F.args_tuple_lt_2 _ _) (E40 l b i1 i2 n n2 dd dd2 sl sl2 c) ⟨ho,ho2,hx,?_⟩))))
 exact wpAny_truthy_bool q
theorem q12(h8:k≤8)(hd:e30 s.heap us (h70 k))(hu:A.units + 40 < cLine):MySort.h42 P w A s us (λp=>p=TS.sN k) oneType' where
 len:=by rw[hd.len,h70,length_map,length_range];exact Nat.le_trans (Nat.pow_le_pow_right (by decide) h8) (by decide)
 few h2:=by
  rw[hd.len,h70,length_map,length_range] at h2 ⊢
  cases k with
  |zero=>rfl
  |succ k=>have:=Nat.one_le_two_pow (n:=k);rw[Nat.pow_succ] at h2;omega
 all p hp:=by subst hp;rw[hd.len,h70,length_map,length_range,p82 h8]
 kind h2 E Q q:=by
  have ht:∀ i v,us[i]?=some v→∃ xs n a o,v=.ref a∧s.heap.get? a=some o∧o.cls=.type "tuple"∧o.data=.seq xs n∧(i=0→xs=#[]):=λi v e=>by
   have hi:i < us.length:=(List.getElem?_eq_some_iff.mp e).1
   have hi':i < 2 ^ k:=by rw[hd.len,h70,length_map,length_range] at hi;exact hi
   obtain⟨_,as,r⟩:=hd.get (w00 hi')
   have e2:us.getD i Value.none=v:=by rw[List.getD_eq_getElem?_getD,e];rfl
   rw[e2] at r
   have z0:∀ k,TS.D30 k 0 0=[]:=λk=>by
    have:∀ k i,TS.D30 k i 0=[]:=λk=>by
     induction k with
     |zero=>exact λ_=>rfl
     |succ k ih=>exact λi=>ih (i + 1)
    exact this k 0
   cases i with
   |zero =>
    have r:Reads s.heap v (toP (.tup ((TS.D30 k 0 0).map λ(i:Nat)=>.int i))) as:=r
    rw[z0] at r
    cases r with
    | @tuple a o vs n xs as k1 k2 k3 k4 =>
     have:vs.toList=[]:=by cases hv:vs.toList with | nil=>rfl | cons _ _=>rw[hv] at k4;cases k4
     exact⟨vs,n,a,o,rfl,k1,k2,k3,λ_=>Array.toList_eq_nil_iff.mp this⟩
   |succ i =>
    cases r with
    | @tuple a o vs n xs as k1 k2 k3 k4=>exact⟨vs,n,a,o,rfl,k1,k2,k3,λe=>by cases e⟩
  match us,ht with
  |[],_=>simp at h2
  |v::vs,ht =>
   obtain⟨xs,n,a,o,rfl,h1,h3,h4,h5⟩:=ht 0 v rfl
   cases h5 rfl
   refine b12 h1 h3 h4 (λu hu=>?_) q
   obtain⟨i,hi,rfl⟩:=List.mem_iff_getElem.mp hu
   obtain⟨xs,n,a,o,e,h1,h3,h4,_⟩:=ht (i + 1) vs[i] (by simp[hi])
   exact⟨a,o,xs,n,e,h1,h3,h4⟩
 run h2:=by
  have hl:us.length=2 ^ k:=by rw[hd.len,h70,length_map,length_range]
  have h1:1≤k:=by
   cases k with
   |zero=>rw[hl] at h2;exact absurd h2 (by decide)
   |succ k=>omega
  refine TS.runL h1 h8 hl λi j C hi hj hC=>?_
  have e1:=kas_item_eq us i
  have e2:=kas_item_eq us j
  show wpAny (model P w) A (keyLt' oneType' (kas_item (pairsOf us) i).1 (kas_item (pairsOf us) j).1) C _ s
  rw[e1,e2]
  obtain⟨f1,as,r1⟩:=hd.get (w00 hi)
  obtain⟨f2,bs,r2⟩:=hd.get (w00 hj)
  show wpAny (model P w) A (keyLt' oneType' (us.getD i Value.none) (us.getD j Value.none)) C _ s
  generalize us.getD i Value.none=v at r1
  generalize us.getD j Value.none=u at r2
  cases r1 with
  |tuple p1 p2 p3 p4 =>
   cases r2 with
   |tuple q1 q2 q3 q4 =>
    refine q02 ⟨_,p1,p2,_,p3⟩ ⟨_,q1,q2,_,q3⟩ (by omega) ((a52 40).2 _ _ _ _ _ ?_ ⟨f1,_,p4⟩ ⟨f2,_,q4⟩ (x11 _ _) (by omega)) hC
    have:∀ l:List Nat,j90 (l.map λ(i:Nat)=>.int i)=0:=λl=>by
     induction l with
     |nil=>rfl
     |cons x r ih=>show Nat.max 0 _=0;rw[ih];rfl
    rw[this];decide
end
section
variable {X:Cx}
theorem b22{zA:Option Addr}{H:Hp}{k:Nat}{xs:List V}(hu:X.A.units + 64 < cLine)(hd:HdA X.K H (h70 k) xs)(h8:k≤8):Y01 X H xs (λp=>p=TS.sN k):=by
 intro pins σ s us I rv
 have ci:∀ l:List Nat,g90 (l.map λ(i:Nat)=>.int i)=true∧Z00 (l.map λ(i:Nat)=>.int i) (l.map λ(i:Nat)=>.int i)=true:=λl=>by
  induction l with
  |nil=>exact⟨rfl,rfl⟩
  |cons x r ih=>exact⟨ih.1,by show((x:Int) == (x:Int)&&_)=true;rw[ih.2];simp⟩
 have cl:∀ l:List Nat,g90 (l.map (x50 k))=true∧Z00 (l.map (x50 k)) (l.map (x50 k))=true:=λl=>by
  induction l with
  |nil=>exact⟨rfl,rfl⟩
  |cons x r ih =>
   refine⟨?_,?_⟩
   ·show(g90 _&&_)=true;rw[(ci _).1,ih.1];rfl
   ·show(Z00 _ _&&_)=true;rw[(ci _).2,ih.2];rfl
 obtain⟨as,ra⟩:=E20 I hd rv (cl _).1
 exact⟨oneType',λh' kp=>q12 h8 ⟨(cl _).1,_,o90 kp _ (cl _).2 ra⟩ (by show X.A.units + 1 + 1 + 40 < cLine;omega)⟩
theorem b32{zA:Option Addr}{H:Hp}{l:List D}{xs:List V}(hu:X.A.units + 64 < cLine)(hd:HdA X.K H l xs)(h64:l.length < 64)(ok:s40 l=true):Y01 X H xs (MySort.sortedBy (l.map flt)):=by
 intro pins σ s us I rv
 replace h64:us.length < 64:=by rw[← rv.length,hd.length];exact h64
 have all:∀ x∈l,v91 x < 3∧okD x=true∧∀ y∈l,l30 x y=true:=λx hx=>by
  have:=List.all_eq_true.mp ok x hx
  rw[and_eq_true,and_eq_true,decide_eq_true_eq,all_eq_true] at this
  exact⟨this.1,this.2.1,this.2.2⟩
 have hf:g90 l=true:=by
  clear hd
  induction l with
  |nil=>rfl
  |cons x r ih =>
   have h1:=(o80 (all x mem_cons_self).2.1).1
   show(x40 x&&g90 r)=true
   rw[h1]
   have ok':s40 r=true:=List.all_eq_true.mpr λy hy=>by
    obtain⟨a,b,c⟩:=all y (mem_cons_of_mem _ hy)
    rw[and_eq_true,and_eq_true,decide_eq_true_eq,all_eq_true]
    exact⟨a,b,λz hz=>c z (mem_cons_of_mem _ hz)⟩
   exact ih ok' λy hy=>⟨(all y (mem_cons_of_mem _ hy)).1,(all y (mem_cons_of_mem _ hy)).2.1,λz hz=>(all y (mem_cons_of_mem _ hy)).2.2 z (mem_cons_of_mem _ hz)⟩
 obtain⟨as,ra⟩:=E20 I hd rv hf
 have pure:Z00 l l=true:=by
  clear hd ra hf ok
  have:∀ q:List D,(∀ x∈q,eqT x x=true)→Z00 q q=true:=λq=>by
   induction q with
   |nil=>intro _;rfl
   |cons x r ih=>intro h;show(eqT x x&&Z00 r r)=true;rw[h x mem_cons_self,ih λy hy=>h y (mem_cons_of_mem _ hy)];rfl
  refine this l λx hx=>?_
  have h:=(all x hx).2.2 x hx
  unfold l30 at h
  rw[and_eq_true,and_eq_true,or_eq_true] at h
  rcases h.2.2 with k | k
  ·exact k
  ·simp at k
 cases l with
 |nil=>exact⟨kdOf 0,λh' kp=>x01 h64 ⟨hf,_,o90 kp _ pure ra⟩ (by show X.A.units + 1 + 1 + 40 < cLine;omega) (by decide) (λx hx=>absurd hx (by simp)) (λx hx=>absurd hx (by simp)) λx hx=>absurd hx (by simp)⟩
 |cons x r =>
  have hx:=all x mem_cons_self
  exact⟨kdOf (v91 x),λh' kp=>x01 h64 ⟨hf,_,o90 kp _ pure ra⟩ (by show X.A.units + 1 + 1 + 40 < cLine;omega) hx.1 (λy hy=>(c01 (hx.2.2 y hy)).1) (λy hy=>(all y hy).2.1) λy hy=>(all y hy).2.2⟩
theorem x21(hu:X.A.units + 64 < cLine):f80 X (.builtin "sorted") (rDn X.K (bfD .sorted)):=by
 intro pins s σ H xs us Q I r h
 obtain⟨zA,z,ds,w,st,hx,e,q⟩:=h
 match ds,e with
 |[x],e =>
  have e:sortedS x=some w:=e
  unfold sortedS at e
  obtain⟨l,h1,e⟩:=Option.bind_eq_some_iff.mp e
  obtain⟨v,rfl,hv⟩:=hx.one
  have go:∀ (a:Addr) (ys:List V),v=.ref a→(SqL X.K H a ys∨SqT X.K H a ys)→HdA X.K (hz zA H) l ys→wpAny (model X.prog X.w) X.A (call (.builtin "sorted") us) (EP X pins σ Q) X.xe s:=λa ys hva hq hd=>by
   subst hva
   by_cases c:l.length < 64∧s40 l=true
   ·rw[if_pos c] at e
    cases e
    obtain⟨h64,ok⟩:=c
    refine z00 pins s σ H _ us Q I r ⟨a,ys,MySort.sortedBy (l.map flt),rfl,hq,b32 (zA:=zA) hu (hd.same (a20 zA H)) h64 ok,λp hp i hi=>by have:=hp.1.mem_iff.mp hi;rw[hd.length];simpa using this,λp lA hp hn=>?_⟩
    have hd2:=hd.pick (p:=p) λi hi=>by have:=hp.1.mem_iff.mp hi;simpa using this
    rw[a82 (λx hx y hy=>?_) hp] at hd2
    ·exact q _ _ (a30.new _ hn) (s50 st hd2 hn)
    ·have:=List.all_eq_true.mp ok x hx
     rw[and_eq_true,and_eq_true,all_eq_true] at this
     exact(c01 (this.2.2 y hy)).2.2
   ·rw[if_neg c] at e
    obtain⟨l',e1,rfl⟩:=Option.map_eq_some_iff.mp e
    obtain⟨k,e2,rfl⟩:=Option.map_eq_some_iff.mp e1
    have e3:=b71 _ _ (List.find?_some (p:=λk=>Z00 l (h70 k)) e2)
    have k8:k≤8:=by have:=List.mem_of_find?_eq_some e2;simp at this;omega
    subst e3
    refine z00 pins s σ H _ us Q I r ⟨a,ys,λp=>p=TS.sN k,rfl,hq,b22 (zA:=zA) hu (hd.same (a20 zA H)) k8,λp hp i hi=>?_,λp lA hp hn=>?_⟩
    ·subst hp;rw[hd.length,h70,length_map,length_range];exact b02 k8 i hi
    ·subst hp
     have hd2:=hd.pick (p:=TS.sN k) λi hi=>by rw[h70,length_map,length_range];exact b02 k8 i hi
     rw[p92 k8] at hd2
     exact q _ _ (a30.new _ hn) (s50 st hd2 hn)
  cases x with
  |tup m =>
   cases h1
   obtain⟨a,ys,rfl,k1,k2⟩:=hv.B30
   exact go a ys rfl (.inr ((a20 zA H).sqT k1)) k2
  |lst m =>
   cases h1
   obtain⟨a,ys,rfl,k1,k2⟩:=hv.b31
   exact go a ys rfl (.inl (k1.same (a20 zA H)).sq) k2
  |_=>cases h1
end
end Q
namespace SS
open PySem PySem.W PyProof.Rows MySort
def key:Value→Int
 |.int i _=>i
 |_=>0
theorem M01(m:Nat):(bts m).Pairwise (· < ·):=List.Pairwise.filter _ pairwise_lt_range
theorem o41:∀ a:Nat,a < 8→∀ b:Nat,b < 8→Q.l30 (.int a) (.int b)=true:=by decide
section
variable {P:Program}{w:World}{A:Around}{E:Value→Shared→Prop}{s:Shared}{S ep m:Nat}{g:Nat→Tok}{o:Obj}
def o51(w:World)(S ep:Nat)(g:Nat→Tok)(m:Nat):List Value:=(ord w S ep (ent g m)).toList.map (·.2)
def b42(w:World)(S ep:Nat)(g:Nat→Tok)(m:Nat):List L2.D:=(o51 w S ep g m).map λv=>.int (key v)
theorem c11:(o51 w S ep g m).Perm ((bts m).map λ(i:Nat)=>Value.int i (g i)):=by
 have:=(h91 w S ep (ent g m)).map (·.2)
 unfold ent at this
 rw[List.map_map] at this
 exact this
theorem R81(h:v∈o51 w S ep g m):∃ i,i < 8∧v=.int (i:Nat) (g i):=by
 obtain⟨i,hi,rfl⟩:=List.mem_map.mp (c11.mem_iff.mp h)
 exact⟨i,(D70.mp hi).1,rfl⟩
theorem U20(h:Heap):∀ vs:List Value,(∀ v∈vs,∃ (i:Nat) (t:Tok),v=.int i t)→Q.e30 h vs (vs.map λv=>.int (key v))
 |[],_=>⟨rfl,[],.nil⟩
 |v::r,k=>by
  obtain⟨i,t,rfl⟩:=k v mem_cons_self
  obtain⟨h1,as,h2⟩:=U20 h r λv hv=>k v (mem_cons_of_mem _ hv)
  exact⟨h1,_,.cons (.int _ _) h2⟩
theorem M11(hp:sortedBy ((b42 w S ep g m).map Q.flt) p):(p.map λi=>(o51 w S ep g m).getD i Value.none)=(bts m).map λ(i:Nat)=>Value.int i (g i):=by
 obtain⟨h1,h2⟩:=hp
 have len:((b42 w S ep g m).map Q.flt).length=(o51 w S ep g m).length:=by unfold b42;simp
 rw[len] at h1
 have h3:(p.map λi=>(o51 w S ep g m).getD i Value.none).Perm ((bts m).map λ(i:Nat)=>Value.int i (g i)):=by
  refine List.Perm.trans (h1.map _) ?_
  rw[MySort.range_getD];exact c11
 refine List.Perm.eq_of_pairwise (le:=λu v=>key u≤key v) (λu v hu hv l1 l2=>?_) ?_ ?_ h3
 ·obtain⟨i,hi,rfl⟩:=List.mem_map.mp (h3.mem_iff.mp hu)
  obtain⟨j,hj,rfl⟩:=List.mem_map.mp hv
  have l1:(i:Int)≤j:=l1
  have l2:(j:Int)≤i:=l2
  have:i=j:=by omega
  rw[this]
 ·have e:(p.map λi=>((b42 w S ep g m).map Q.flt).getD i [])=(p.map λi=>(o51 w S ep g m).getD i Value.none).map λv=>[key v]:=by
   rw[List.map_map]
   refine map_congr_left λi hi=>?_
   have hi:i < (o51 w S ep g m).length:=by simpa using h1.mem_iff.mp hi
   unfold b42
   simp[hi,Q.flt]
  rw[e,List.pairwise_map] at h2
  refine h2.imp λ{u v} h=>?_
  have:g60 [key v] [key u]=false:=h
  simp[g60] at this
  omega
 ·rw[List.pairwise_map]
  exact(M01 m).imp λ{a b} h=>by show(a:Int)≤b;omega
theorem o61{R:Value→Shared→Prop}(hh:A.handled=none)(hu:A.units + 64 < cLine)(hm:m < 256)(ho:s.heap.get? S=some o)(hx:o.ExactSet)(hd:o.data=.set (ent g m) ep (tbl (led w) m))
  (h:∀ lA h' tk c,s.heap.objs.size≤lA→(∀ b u,s.heap.get? b=some u→h'.get? b=some u)→h'.get? lA=some (seqObj "list" ((bts m).map λ(i:Nat)=>Value.int i (g i)).toArray c)→R (.ref lA) { s with heap:=h',toks:=tk }):wpAny (model P w) A (call (.builtin "sorted") [.ref S]) R E s:=by
 have h64:(o51 w S ep g m).length≤8:=by
  rw[c11.length_eq,length_map]
  exact Nat.le_trans (length_filter_le _ _) (by simp)
 refine Calls.call_function_entry kind_sorted plain_sorted entry_sorted (args_sorted1 _) ?_
 unfold Builtin.«sorted»
 refine wpAny_bind (m:=checkCount "sorted" 1 1 _) (wpAny_pure ?_)
 refine wpAny_bind (a61 (by simp[hh]) hm ho hx hd λh1 tk lS kp1=>?_)
 refine wpAny_bind (wpAny_newList ?_ (by show(o51 w S ep g m).length≤_;rw[sizeLine_eq];omega))
 have hoL:(h1.push (seqObj "list" (o51 w S ep g m).toArray 0)).get? h1.objs.size=some (seqObj "list" (o51 w S ep g m).toArray 0):=Heap.get?_push_size _ rfl
 have kw:∀ h',h42 P w A.in1.in1 { s with heap:=h',toks:=tk } (o51 w S ep g m) (sortedBy ((b42 w S ep g m).map Q.flt)) (Q.kdOf 0):=λh'=>by
  have dm:∀ d∈b42 w S ep g m,∃ i:Nat,i < 8∧d=.int i:=λd hd=>by
   obtain⟨v,hv,rfl⟩:=List.mem_map.mp hd
   obtain⟨i,hi,rfl⟩:=R81 hv
   exact⟨i,hi,rfl⟩
  letI:Q.Tb:=⟨[]⟩
  refine Q.x01 (by omega) (U20 h' _ λv hv=>by obtain⟨i,_,rfl⟩:=R81 hv;exact⟨i,_,rfl⟩) (by show A.units + 1 + 1 + 40 < cLine;omega) (by decide) (λd hd=>?_) (λd hd=>?_) λd hd e he=>?_
  ·obtain⟨i,_,rfl⟩:=dm d hd;rfl
  ·obtain⟨i,_,rfl⟩:=dm d hd;rfl
  ·obtain⟨i,hi,rfl⟩:=dm d hd
   obtain⟨j,hj,rfl⟩:=dm e he
   exact o41 i hi j hj
 refine wpAny_bind (wpAny_holding (wpAny_call_entry slot_list_sort ⟨_,hoL,rfl⟩ entry_list_sort (h31 hoL (λh' _=>kw h') λp h' c hp kp hD=>⟨_,rfl,wpAny_pure ⟨_,rfl,?_⟩⟩) (args_list_sort _)))
 rw[M11 hp] at hD
 exact h _ h' tk c (Nat.le_of_lt lS) (λb u e=>kp b u (Nat.ne_of_lt (lt_size (kp1 b u e))) (Heap.get?_push_of_some _ (kp1 b u e))) hD
end
end SS
namespace Q
open PySem L2 PySem.Spec PyProof.Rows
variable [TB:Tb]
structure Gs where
 fns:List (Str × List Str)
 nums:List (Str × Int)
 F:FT
 cls:Nat→Addr
 lv:Nat
def EPost(G:Gs)(zA:Option Addr)(E:XK)(c:Nat)(z:Z)(H:Hp):Prop:=∀ e H',Ext zA H H'→e50 zA z H'→H' e=none→E (.ref (G.cls c)) (some e) H'
theorem EPost.mono(h:EPost G zA E c z H)(e:Ext zA H H1):EPost G zA E c z H1:=λa H' x s n=>h a H' (e.trans x) s n
def D12(K:PySem.W.Frag)(G:Gs)(zA:Option Addr)(E:XK)(H:Hp)(Q:VK):R S→Prop
 |.ok s z'=>∀ v H',Ext zA H H'→e50 zA z' H'→RvS K zA H H' s v→Q v H'
 |.er c z'=>EPost G zA E c z' H
def c21(K:PySem.W.Frag)(G:Gs)(zA:Option Addr)(E:XK)(H:Hp)(Q:VK):R (List S)→Prop
 |.ok l z'=>∃ s,l=[s]∧∀ v H',Ext zA H H'→e50 zA z' H'→RvS K zA H H' s v→Q v H'
 |.er c z'=>EPost G zA E c z' H
def D22(K:PySem.W.Frag)(G:Gs)(zA:Option Addr)(E:XK)(H:Hp)(Q:List V→Hp→Prop):R (List S)→Prop
 |.ok l z'=>∀ vs H',Ext zA H H'→e50 zA z' H'→Paired (RvS K zA H H') l vs→Q vs H'
 |.er c z'=>EPost G zA E c z' H
def M21(G:Gs)(zA:Option Addr)(E:XK)(H:Hp)(Q:Bool→Hp→Prop):R (List S)→Prop
 |.ok l z'=>∃ b,l=[.d (.bl b)]∧∀ H',Ext zA H H'→e50 zA z' H'→Q b H'
 |.er c z'=>EPost G zA E c z' H
def B50(K:PySem.W.Frag)(zA:Option Addr)(H:Hp)(ρ:Env)(σ:L2.St):Prop:=∀ (i:Nat) (s:S),ρ[i]?=some (some s)→∃ v,σ[i]?=some (some v)∧RvP K zA H s v
theorem B50.mono{K:PySem.W.Frag}{zA:Option Addr}{H H':Hp}{ρ:Env}{σ:L2.St}(h:B50 K zA H ρ σ)(e:Ext zA H H'):B50 K zA H' ρ σ:=λi s q=>let ⟨v,a,b⟩:=h i s q;⟨v,a,b.mono e⟩
def tI(K:PySem.W.Frag)(G:Gs)(E:XK)(x:Ex):TE:=λσ H Q=>∃ zA ρ z r,B50 K zA H ρ σ∧e50 zA z H∧ev G.F x ρ z=some r∧c21 K G zA E H Q r
def tA(K:PySem.W.Frag)(G:Gs)(E:XK)(x:Ex):TA:=λσ H Q=>∃ zA ρ z r,B50 K zA H ρ σ∧e50 zA z H∧ev G.F x ρ z=some r∧D22 K G zA E H Q r
def tT(K:PySem.W.Frag)(G:Gs)(E:XK)(x:Ex):TT:=λσ H Q=>∃ zA ρ z r,B50 K zA H ρ σ∧e50 zA z H∧ev G.F x ρ z=some r∧M21 G zA E H Q r
def spF(K:PySem.W.Frag)(G:Gs)(f n:Nat):Sp:=λvs H Q E=>vs.length=n∧∃ zA z ss r,RvA K zA H ss vs∧e50 zA z H∧G.F false f ss z=some r∧D12 K G zA E H Q r
section
variable {K:PySem.W.Frag}{G:Gs}{E:XK}{a x:Ex}{ρ:Env}{z:Z}{zA:Option Addr}{σ:L2.St}{H:Hp}
theorem l40{α:Type}{k:List S→M α}{r:R α}{Q':VK}(rel:B50 K zA H ρ σ)(st:e50 zA z H)(h:M.bind (ev G.F a ρ) k z=some r)(her:∀ c z1,r=.er c z1→EPost G zA E c z1 H)
  (hok:∀ l z1,k l z1=some r→∃ s,l=[s]∧∀ v H1,Ext zA H H1→e50 zA z1 H1→RvS K zA H H1 s v→Q' v H1):tI K G E a σ H Q':=by
 rcases M.bind_some h with ⟨l,z1,e1,e2⟩ | ⟨c,z1,e1,e2⟩
 ·exact⟨zA,ρ,z,_,rel,st,e1,hok l z1 e2⟩
 ·exact⟨zA,ρ,z,_,rel,st,e1,her c z1 e2⟩
theorem c31{α:Type}{k:List S→M α}{r:R α}{Q':List V→Hp→Prop}(rel:B50 K zA H ρ σ)(st:e50 zA z H)(h:M.bind (ev G.F a ρ) k z=some r)(her:∀ c z1,r=.er c z1→EPost G zA E c z1 H)
  (hok:∀ l z1,k l z1=some r→∀ vs H1,Ext zA H H1→e50 zA z1 H1→Paired (RvS K zA H H1) l vs→Q' vs H1):tA K G E a σ H Q':=by
 rcases M.bind_some h with ⟨l,z1,e1,e2⟩ | ⟨c,z1,e1,e2⟩
 ·exact⟨zA,ρ,z,_,rel,st,e1,hok l z1 e2⟩
 ·exact⟨zA,ρ,z,_,rel,st,e1,her c z1 e2⟩
theorem U30{α:Type}{k:Bool→M α}{r:R α}{Q':Bool→Hp→Prop}(rel:B50 K zA H ρ σ)(st:e50 zA z H)(h:M.bind (ev G.F a ρ) (λx=>M.bind (M.of ((pl x).bind asB)) k) z=some r)(her:∀ c z1,r=.er c z1→EPost G zA E c z1 H)
  (hok:∀ b z1,k b z1=some r→∀ H1,Ext zA H H1→e50 zA z1 H1→Q' b H1):tT K G E a σ H Q':=by
 rcases M.bind_some h with ⟨l,z1,e1,e2⟩ | ⟨c,z1,e1,e2⟩
 ·obtain⟨b,e3,e4⟩:=M.a10 e2
  obtain⟨d,e5,e6⟩:=Option.bind_eq_some_iff.mp e3
  have el:l=[.d (.bl b)]:=by
   obtain⟨s,rfl,hs⟩:=g70 e5
   cases s with
   |d y=>cases hs;cases d <;> first | (cases e6;rfl) | cases e6
   |fr ys=>cases hs;cases e6
   |z=>cases hs
  exact⟨zA,ρ,z,_,rel,st,e1,b,el,hok b z1 e4⟩
 ·exact⟨zA,ρ,z,_,rel,st,e1,her c z1 e2⟩
theorem E60{l:List S}{s:S}(h:one l=some s):l=[s]:=by
 unfold one at h
 split at h
 ·cases h;rfl
 ·cases h
end
theorem PE.imp(h:PE X e t)(i:∀ σ H Q,t' σ H Q→t σ H Q):PE X e t':=λpins s σ H Q I q=>h pins s σ H Q I (i _ _ _ q)
theorem PT.imp(h:PT X e t)(i:∀ σ H Q,t' σ H Q→t σ H Q):PT X e t':=λpins s σ H Q I q=>h pins s σ H Q I (i _ _ _ q)
theorem PW.imp(h:PW X e t)(i:∀ σ H Q,t' σ H Q→t σ H Q):PW X e t':=λw pins s σ H Q I q=>h w pins s σ H Q I (i _ _ _ q)
theorem PA.imp(h:PA X e t)(i:∀ σ H Q,t' σ H Q→t σ H Q):PA X e t':=λp pins s σ H Q I q=>h p pins s σ H Q I (i _ _ _ q)
def noStar:Expr→Bool
 |.Starred ..=>false
 |_=>true
theorem c50(h:noStar e=true)(es:List Expr)(env:PySem.Env):starEach (e::es) env=(false,eval e env)::starEach es env:=by
 cases e <;> first | rfl | cases h
theorem r30:∀ {es:List Expr} (env:PySem.Env) (pos:Pos),es.all noStar=true→(backTo pos (starEach es env)).any (·.1)=false
 |[],_,_,_=>rfl
 |e::es,env,pos,h=>by
  rw[all_cons,and_eq_true] at h
  rw[c50 h.1]
  show(false || (backTo pos (starEach es env)).any (·.1))=false
  rw[r30 env pos h.2];rfl
def plainT:Expr→Bool
 |.UnaryOp .Not _ _=>false
 |.BoolOp ..=>false
 |.IfExp ..=>false
 |.Compare ..=>false
 |_=>true
theorem x31(h:plainT e=true)(env:PySem.Env)(whole:Sem Value):isTrue e env whole=(do let v ← whole;standAt e.pos;holding [v] (truthy v)):=by
 cases e with
 |UnaryOp op _ _=>cases op <;> first | rfl | cases h
 |BoolOp _ _ _=>cases h
 |IfExp _ _ _ _=>cases h
 |Compare _ _ _ _=>cases h
 |_=>rfl
def c41:Expr→Bool
 |.Slice ..=>false
 |_=>true
theorem I50(h:c41 e=true):s31 e:=λo i=>by
 cases e with
 |Slice _ _ _ _=>cases h
 |_=>rfl
def A80:Expr→Bool
 |.Set ..=>false
 |_=>true
theorem x41(h:A80 e=true)(op:CmpOp):behindInMarks op e=false:=by
 cases e with
 |Set _ _ _=>cases h
 |_=>rfl
structure a80(X:Cx)(G:Gs)(E:XK)(x:Ex)(e:Expr):Prop where
 pe:PE X e (tI X.K G E x)
 pt:(∀ t a b p,e≠.IfExp t a b p)→PT X e (tT X.K G E x)
 pw:∀ op vs p,e=.BoolOp op vs p→PW X e (tT X.K G E x)
theorem a90(h:PE X e (tI X.K G E x))(hp:plainT e=true):a80 X G E x e:=by
 refine⟨h,λ_=>PT.imp (j42 h (x31 hp X.env)) λσ H Q q=>?_,λop vs p he=>?_⟩
 ·obtain⟨zA,ρ,z,r,rel,st,e,po⟩:=q
  refine⟨zA,ρ,z,r,rel,st,e,?_⟩
  cases r with
  |er c z1=>exact po
  |ok l z1 =>
   obtain⟨b,rfl,po⟩:=po
   exact⟨_,rfl,λv H' ex st' rv=>⟨b,Hd.bl_ (show Hd X.K (hz zA H') (.bl b) v from rv),po H' ex st'⟩⟩
 ·subst he;cases hp
def isL:Ex→Bool
 |.nil=>true
 |.cons _ _=>true
 |_=>false
def Good(X:Cx)(G:Gs)(E:XK):Ex→List Expr→Prop
 |.nil,es=>es=[]
 |.cons a r,es=>∃ e es',es=e::es'∧noStar e=true∧a80 X G E a e∧isL r=true∧Good X G E r es'
 |x,es=>∃ e,es=[e]∧a80 X G E x e
theorem Good.args:∀ {x:Ex}{es:List Expr},isL x=true→Good X G E x es→PA X es (tA X.K G E x)∧es.all noStar=true:=by
 intro x
 induction x with
 |nil =>
  intro es _ h
  have h:es=[]:=h
  subst h
  refine⟨PA.imp C80 λσ H Q q=>?_,rfl⟩
  obtain⟨zA,ρ,z,r,rel,st,e,po⟩:=q
  cases e
  exact po [] H Ext.refl st .nil
 |cons a r _ ih =>
  intro es _ h
  obtain⟨e,es',rfl,ns,g,lr,gr⟩:=h
  obtain⟨h1,h2⟩:=ih lr gr
  refine⟨PA.imp (j80 g.pe h1 (c50 ns es' X.env)) λσ H Q q=>?_,by rw[all_cons,ns,h2];rfl⟩
  obtain⟨zA,ρ,z,rr,rel,st,e,po⟩:=q
  have her:∀ c z1,rr=.er c z1→EPost G zA E c z1 H:=λc z1 e=>by subst e;exact po
  refine l40 rel st e her λl z1 e1=>?_
  obtain⟨s,hs,e2⟩:=M.a10 e1
  refine⟨s,E60 hs,λv H1 x1 st1 rv=>?_⟩
  refine c31 (rel.mono x1) st1 e2 (λc z2 q=>(her c z2 q).mono x1) λl2 z2 e3 vs H2 x2 st2 rvs=>?_
  cases e3
  exact po (v::vs) H2 (x1.trans x2) st2 (.cons (rv.mono x2) (Paired.h32 rvs λ_ _ q=>q.from x1))
 |_=>intro es h;cases h
def b52:List Str:=["len","sorted","tuple","list","sum","min","max","abs","all","any","int","bool","str","isinstance","range","zip","enumerate","set"]
structure XI(lm:Bool)(X:Cx)(G:Gs)(E:XK)(N:List Str)(sc:Scope):Prop where
 gok:∀ f nm ps,G.fns[f]?=some (nm,ps)→∃ fa fd,X.mg nm=some (.ref fa)∧PySem.W.keepIn X.K (.ref fa)=true∧Binds X.K fd ps []∧m91 X.prog X.w X.K X.mg X.base (CX1 X.prog X.w) G.lv fa fd ps (spF X.K G f ps.length)
 num:∀ p∈G.nums,∃ t,X.mg p.1=some (.int p.2 t)
 blt:∀ n∈b52,X.mg n=none
 hN:X.N=N
 nd:N.Nodup
 vis:∀ x∈N,Vis X.env.scope x
 glb:∀ x,sc.names.lookup x=some .globalImplicit→Gl X x
 cel:∀ x,(sc.names.lookup x=some .cell∨sc.names.lookup x=some .free)→(X.env.kindOf x=some .cell∨X.env.kindOf x=some .free)
 calm:X.calm=true
 room:Y90 G.lv X.A
 pas:Passes (CX1 X.prog X.w) X E
def glob(sc:Scope)(x:Str):Bool:=sc.names.lookup x == some .globalImplicit&&!(x == ("__debug__":Str))&&!(x == ("__name__":Str))
def d80(x:Str):Bool:=!(x == ("__debug__":Str))&&!(x == ("__classdict__":Str))
def q22:Const→D→Bool
 |.int i,.int j=>i == j
 |.bool a,.bl b=>a == b
 |.str x,.str y=>x == y
 |.none,.non=>true
 |_,_=>false
def bfN:Bf→Str × Bool
 |.len=>("len",false) | .sorted=>("sorted",false) | .tuple=>("tuple",true) | .list=>("list",true) | .sum=>("sum",false) | .min=>("min",false) | .max=>("max",false) | .abs=>("abs",false)
 |.all=>("all",false) | .int=>("int",true) | .sset=>("sorted",false) | .x82=>("len",false)
def served:Bf→Bool
 |.len | .tuple | .list | .min | .max | .abs | .all | .int | .sorted | .sum=>true
 |_=>false
mutual
noncomputable def j40(N:List Str)(loc:Str→Bool):Pat→Expr→Bool
 |.v i=>λe=>match e with
  |.Name x _=>N[i]? == some x&&loc x
  |_=>false
 |.tup ps=>λe=>match e with
  |.Tuple es _ _=>o71 N loc ps es
  |_=>false
 |.nil=>λ_=>false
 |.cons _ _=>λ_=>false
noncomputable def o71(N:List Str)(loc:Str→Bool):Pat→List Expr→Bool
 |.nil=>λes=>es.isEmpty
 |.cons p r=>λes=>match es with
  |e::es=>noStar e&&j40 N loc p e&&o71 N loc r es
  |[]=>false
 |.v _=>λ_=>false
 |.tup _=>λ_=>false
end
def n40:Expr→Bool
 |.Tuple ..=>true
 |_=>false
def d30:Expr→List Str
 |.Name x _=>[x]
 |.Tuple es _ _=>names es
 |_=>[]
where names:List Expr→List Str
 |[]=>[]
 |.Name x _::r=>x::names r
 |.Tuple [.Name a _,.Name b _] _ _::r=>a::b::names r
 |_::r=>names r
def i71(csc sc:Scope)(N own:List Str)(capt:List (Str × Nat)):Bool :=
 csc.kind == .function&&csc.names.all (λy=>y.2 != .cell)&&csc.names.all (λy=>y.2 != .local || csc.names.lookup y.1 == some .local) &&
  csc.names.all (λy=>y.2 != .free || (sc.names.lookup y.1 == some .cell || sc.names.lookup y.1 == some .free))&&capt.all (λp=>N[p.2]? == some p.1&&csc.names.lookup p.1 == some .free) &&
  own.all (λx=>csc.names.lookup x == some .local)&&decide (own++capt.map (·.1)).Nodup
def e80(N:List Str):List Nat→List (Str × Nat)
 |[]=>[]
 |i::r=>match N[i]? with
  |some x=>(x,i)::e80 N r
  |none=>e80 N r
def opt{α:Type}(o:Option α)(f:α→Bool):Bool:=match o with
 |some a=>f a
 |none=>false
theorem a40{α:Type}{o:Option α}{f:α→Bool}(h:opt o f=true):∃ a,o=some a∧f a=true:=by
 cases o with
 |none=>cases h
 |some a=>exact⟨a,rfl,h⟩
def L02:(e:List Expr)→Option {q:Str × Pos // e=[.Name q.1 q.2]}
 |[.Name n p]=>some ⟨(n,p),rfl⟩
 |_=>none
def D32:(e:List Expr)→Option {q:Const × Nat × Pos // e=[.Constant q.1 q.2.1 q.2.2]}
 |[.Constant c k p]=>some ⟨(c,k,p),rfl⟩
 |_=>none
def D42:(e:List Expr)→Option {q:Pos // e=[.Dict [] [] q]}
 |[.Dict [] [] p]=>some ⟨p,rfl⟩
 |_=>none
def D52:(e:List Expr)→Option {q:List Expr × Nat × Pos // e=[.Tuple q.1 q.2.1 q.2.2]}
 |[.Tuple l k p]=>some ⟨(l,k,p),rfl⟩
 |_=>none
def D62:(e:List Expr)→Option {q:List Expr × Pos // e=[.List q.1 q.2]}
 |[.List l p]=>some ⟨(l,p),rfl⟩
 |_=>none
def D72:(e:List Expr)→Option {q:Expr × Operator × Expr × Pos // e=[.BinOp q.1 q.2.1 q.2.2.1 q.2.2.2]}
 |[.BinOp l o r p]=>some ⟨(l,o,r,p),rfl⟩
 |_=>none
def D82:(e:List Expr)→Option {q:Expr × CmpOp × Expr × Pos // e=[.Compare q.1 [q.2.1] [q.2.2.1] q.2.2.2]}
 |[.Compare l [o] [r] p]=>some ⟨(l,o,r,p),rfl⟩
 |_=>none
def D92:(e:List Expr)→Option {q:Expr × Pos // e=[.UnaryOp .USub q.1 q.2]}
 |[.UnaryOp .USub x p]=>some ⟨(x,p),rfl⟩
 |_=>none
def E02:(e:List Expr)→Option {q:Expr × Pos // e=[.UnaryOp .Not q.1 q.2]}
 |[.UnaryOp .Not x p]=>some ⟨(x,p),rfl⟩
 |_=>none
def E12:(e:List Expr)→Option {q:Expr × Expr × List Expr × Pos // e=[.BoolOp .And (q.1::q.2.1::q.2.2.1) q.2.2.2]}
 |[.BoolOp .And (l::r::v) p]=>some ⟨(l,r,v,p),rfl⟩
 |_=>none
def L12:(e:List Expr)→Option {q:Expr × Expr × List Expr × Pos // e=[.BoolOp .Or (q.1::q.2.1::q.2.2.1) q.2.2.2]}
 |[.BoolOp .Or (l::r::v) p]=>some ⟨(l,r,v,p),rfl⟩
 |_=>none
def E22:(e:List Expr)→Option {q:Expr × Expr × Expr × Pos // e=[.IfExp q.1 q.2.1 q.2.2.1 q.2.2.2]}
 |[.IfExp t x y p]=>some ⟨(t,x,y,p),rfl⟩
 |_=>none
def R32:(e:List Expr)→Option {q:Expr × CmpOp × CmpOp × Expr × Expr × Pos // e=[.Compare q.1 [q.2.1,q.2.2.1] [q.2.2.2.1,q.2.2.2.2.1] q.2.2.2.2.2]}
 |[.Compare l [o,o2] [r,s] p]=>some ⟨(l,o,o2,r,s,p),rfl⟩
 |_=>none
def L22:(e:List Expr)→Option {q:Str × Pos × Expr × List Expr × Pos // e=[.Call (.Name q.1 q.2.1) (q.2.2.1::q.2.2.2.1) [] q.2.2.2.2]}
 |[.Call (.Name n q1) (x::l) [] p]=>some ⟨(n,q1,x,l,p),rfl⟩
 |_=>none
def R42:(e:List Expr)→Option {q:Str × Pos × Str × Pos × Expr × Pos × Pos // e=[.Call (.Name q.1 q.2.1) [.Call (.Name q.2.2.1 q.2.2.2.1) [q.2.2.2.2.1] [] q.2.2.2.2.2.1] [] q.2.2.2.2.2.2]}
 |[.Call (.Name n p1) [.Call (.Name m p2) [x] [] p3] [] p4]=>some ⟨(n,p1,m,p2,x,p3,p4),rfl⟩
 |_=>none
def R52:Bf→Bool
 |.sset=>true
 |_=>false
def E32:(e:List Expr)→Option {q:Str × Pos × Expr × Expr × Pos // e=[.Call (.Name q.1 q.2.1) [q.2.2.1,q.2.2.2.1] [] q.2.2.2.2]}
 |[.Call (.Name n q1) [x,ty] [] p]=>some ⟨(n,q1,x,ty,p),rfl⟩
 |_=>none
def R62:(e:List Expr)→Option {q:Expr × Expr × Pos // e=[.Subscript q.1 q.2.1 q.2.2]}
 |[.Subscript v x p]=>some ⟨(v,x,p),rfl⟩
 |_=>none
def R72:(e:List Expr)→Option {q:Expr × Option Expr × Option Expr × Pos × Pos // e=[.Subscript q.1 (.Slice q.2.1 q.2.2.1 none q.2.2.2.1) q.2.2.2.2]}
 |[.Subscript v (.Slice l h none q1) p]=>some ⟨(v,l,h,q1,p),rfl⟩
 |_=>none
def q32:(e:List Expr)→Option {q:Expr × Expr × Expr × List Expr × Scope × Pos // e=[.ListComp q.1 [⟨q.2.1,q.2.2.1,q.2.2.2.1,0⟩] q.2.2.2.2.1 q.2.2.2.2.2]}
 |[.ListComp elt [⟨tg,iter,ifs,0⟩] csc p]=>some ⟨(elt,tg,iter,ifs,csc,p),rfl⟩
 |_=>none
def h82:(e:Expr)→Option {q:Str × Pos × Expr × Pos // e=.Call (.Name q.1 q.2.1) [q.2.2.1] [] q.2.2.2}
 |.Call (.Name n q1) [a] [] p=>some ⟨(n,q1,a,p),rfl⟩
 |_=>none
def h92:(e:Expr)→Option {q:Str × Pos × Expr × Expr × Pos // e=.Call (.Name q.1 q.2.1) [q.2.2.1,q.2.2.2.1] [] q.2.2.2.2}
 |.Call (.Name n q1) [a,b] [] p=>some ⟨(n,q1,a,b,p),rfl⟩
 |_=>none
def shN:(e:Expr)→Option {q:Str × Pos // e=.Name q.1 q.2}
 |.Name n p=>some ⟨(n,p),rfl⟩
 |_=>none
def L32:(e:Expr)→Option {q:Str × Pos × Str × Pos × Nat × Pos // e=.Tuple [.Name q.1 q.2.1,.Name q.2.2.1 q.2.2.2.1] q.2.2.2.2.1 q.2.2.2.2.2}
 |.Tuple [.Name a q1,.Name b q2] k p=>some ⟨(a,q1,b,q2,k,p),rfl⟩
 |_=>none
def R82:(e:List Expr)→Option {q:Str × Pos × Int × Nat × Pos × Pos // e=[.Subscript (.Name q.1 q.2.1) (.Constant (.int q.2.2.1) q.2.2.2.1 q.2.2.2.2.1) q.2.2.2.2.2]}
 |[.Subscript (.Name n p) (.Constant (.int j) c q1) r]=>some ⟨(n,p,j,c,q1,r),rfl⟩
 |_=>none
def R92:(e:List Expr)→Option {q:Str × Pos × Str × Pos × List Expr × Pos × Pos // e=[.Call (.Name q.1 q.2.1) [.Call (.Name q.2.2.1 q.2.2.2.1) q.2.2.2.2.1 [] q.2.2.2.2.2.1] [] q.2.2.2.2.2.2]}
 |[.Call (.Name n p) [.Call (.Name m q1) l [] r] [] t]=>some ⟨(n,p,m,q1,l,r,t),rfl⟩
 |_=>none
def tyE(sc:Scope):Ty→Expr→Bool
 |.seq=>λe=>opt (L32 e) λq=>q.1.1 == ("tuple":Str)&&q.1.2.2.1 == ("list":Str)&&glob sc "tuple"&&glob sc "list"
 |t=>λe=>opt (shN e) λq=>q.1.1 == Str.ofString (tyN t)&&glob sc (Str.ofString (tyN t))
def q42:D→Bool
 |.dct=>true
 |_=>false
def ifB:Expr→Bool
 |.IfExp ..=>true
 |_=>false
def mt:Bool→List (Str × List Str)→List (Str × Int)→Ex→Scope→List Str→List Expr→Bool
 |lm,fns,nums,.nil=>λ_ _ es=>es.isEmpty
 |lm,fns,nums,.cons a r=>λsc N es=>match es with
  |e::es=>noStar e&&!isL a&&isL r&&mt lm fns nums a sc N [e]&&mt lm fns nums r sc N es
  |[]=>false
 |lm,fns,nums,.var i=>λ_ N es=>opt (L02 es) λq=>N[i]? == some q.1.1&&d80 q.1.1
 |lm,fns,nums,.con d=>λ_ _ es=>(opt (D32 es) λq=>q22 q.1.1 d) || opt (D42 es) λ_=>q42 d
 |lm,fns,nums,.gint g i=>λsc _ es=>opt (L02 es) λq=>q.1.1 == g&&glob sc q.1.1&&nums.contains (g,i)
 |lm,fns,nums,.tup as=>λsc N es=>opt (D52 es) λq=>isL as&&mt lm fns nums as sc N q.1.1
 |lm,fns,nums,.lst as=>λsc N es=>opt (D62 es) λq=>isL as&&mt lm fns nums as sc N q.1.1
 |lm,fns,nums,.bin o a b=>λsc N es=>opt (D72 es) λq=>q.1.2.1 == opB o&&!isL a&&!isL b&&mt lm fns nums a sc N [q.1.1]&&mt lm fns nums b sc N [q.1.2.2.1]
 |lm,fns,nums,.cmp o a b=>λsc N es=>opt (D82 es) λq=>q.1.2.1 == opC o&&A80 q.1.2.2.1&&!isL a&&!isL b&&mt lm fns nums a sc N [q.1.1]&&mt lm fns nums b sc N [q.1.2.2.1]
 |lm,fns,nums,.neg a=>λsc N es=>opt (D92 es) λq=>!isL a&&mt lm fns nums a sc N [q.1.1]
 |lm,fns,nums,.not a=>λsc N es=>opt (E02 es) λq=>!isL a&&!ifB q.1.1&&mt lm fns nums a sc N [q.1.1]
 |lm,fns,nums,.and a b=>λsc N es=>opt (E12 es) λq=>!isL a&&!isL b&&!ifB q.1.1&&mt lm fns nums a sc N [q.1.1]&&(if q.1.2.2.1.isEmpty then !ifB q.1.2.1&&mt lm fns nums b sc N [q.1.2.1] else mt lm fns nums b sc N [.BoolOp .And (q.1.2.1::q.1.2.2.1) q.1.2.2.2])
 |lm,fns,nums,.or a b=>λsc N es=>opt (L12 es) λq=>!isL a&&!isL b&&!ifB q.1.1&&mt lm fns nums a sc N [q.1.1]&&(if q.1.2.2.1.isEmpty then !ifB q.1.2.1&&mt lm fns nums b sc N [q.1.2.1] else mt lm fns nums b sc N [.BoolOp .Or (q.1.2.1::q.1.2.2.1) q.1.2.2.2])
 |lm,fns,nums,.orT a b=>λsc N es=>opt (L12 es) λq=>!isL a&&!isL b&&q.1.2.2.1.isEmpty&&mt lm fns nums a sc N [q.1.1]&&mt lm fns nums b sc N [q.1.2.1]
 |lm,fns,nums,.ite c a b=>λsc N es=>opt (E22 es) λq=>!isL c&&!isL a&&!isL b&&!ifB q.1.1&&mt lm fns nums c sc N [q.1.1]&&mt lm fns nums a sc N [q.1.2.1]&&mt lm fns nums b sc N [q.1.2.2.1]
 |lm,fns,nums,.ch o o' a b c=>λsc N es=>opt (R32 es) λq=>q.1.2.1 == opC o&&q.1.2.2.1 == opC o'&&A80 q.1.2.2.2.2.1&&!isL a&&!isL b&&!isL c&&mt lm fns nums a sc N [q.1.1]&&mt lm fns nums b sc N [q.1.2.2.2.1]&&mt lm fns nums c sc N [q.1.2.2.2.2.1]
 |lm,fns,nums,.bf f as=>λsc N es=>(opt (L22 es) λq=>served f&&q.1.1 == (bfN f).1&&glob sc q.1.1&&isL as&&mt lm fns nums as sc N (q.1.2.2.1::q.1.2.2.2.1)) || (R52 f&&opt (R42 es) λq=>q.1.1 == ("sorted":Str)&&q.1.2.2.1 == ("set":Str)&&glob sc "sorted"&&glob sc "set"&&isL as&&mt lm fns nums as sc N [q.1.2.2.2.2.1])
 |lm,fns,nums,.isi t a=>λsc N es=>opt (E32 es) λq=>q.1.1 == ("isinstance":Str)&&glob sc q.1.1&&noStar q.1.2.2.1&&!isL a&&mt lm fns nums a sc N [q.1.2.2.1]&&tyE sc t q.1.2.2.2.1
 |lm,fns,nums,.idx a i=>λsc N es=>opt (R62 es) λq=>c41 q.1.2.1&&!isL a&&!isL i&&mt lm fns nums a sc N [q.1.1]&&mt lm fns nums i sc N [q.1.2.1]
 |lm,fns,nums,.sl a lo hi=>λsc N es=>opt (R72 es) λq=>!isL a&&isL lo&&isL hi&&mt lm fns nums a sc N [q.1.1]&&mt lm fns nums lo sc N q.1.2.1.toList&&mt lm fns nums hi sc N q.1.2.2.1.toList
 |lm,fns,nums,.call f as=>λsc N es=>opt (L22 es) λq=>(opt fns[f]? λp=>p.1 == q.1.1&&p.2.length == q.1.2.2.2.1.length + 1)&&glob sc q.1.1&&isL as&&mt lm fns nums as sc N (q.1.2.2.1::q.1.2.2.2.1)
 |lm,fns,nums,.comp own capt p it src cond el=>λsc N es=>opt (q32 es) λq =>
   (d30 q.1.2.1).length == own&&(e80 N capt).length == capt.length&&i71 q.1.2.2.2.2.1 sc N (d30 q.1.2.1) (e80 N capt)&&j40 (d30 q.1.2.1++(e80 N capt).map (·.1)) (λx=>(d30 q.1.2.1).contains x) p q.1.2.1&&isL src&&!isL el&&isL cond&&q.1.2.2.2.1.length≤1&&noStar q.1.1&&A80 q.1.2.2.1 &&
    q.1.2.2.2.1.all (λc=>!ifB c) &&
    (match it with
    |.seq=>mt lm fns nums src sc N [q.1.2.2.1]
    |.rng1=>opt (h82 q.1.2.2.1) λr=>r.1.1 == ("range":Str)&&glob sc r.1.1&&mt lm fns nums src sc N [r.1.2.2.1]
    |.rng2=>opt (h92 q.1.2.2.1) λr=>r.1.1 == ("range":Str)&&glob sc r.1.1&&mt lm fns nums src sc N [r.1.2.2.1,r.1.2.2.2.1]
    |.zip=>opt (h92 q.1.2.2.1) λr=>r.1.1 == ("zip":Str)&&glob sc r.1.1&&n40 q.1.2.1&&mt lm fns nums src sc N [r.1.2.2.1,r.1.2.2.2.1]
    |.enum=>opt (h82 q.1.2.2.1) λr=>r.1.1 == ("enumerate":Str)&&glob sc r.1.1&&n40 q.1.2.1&&mt lm fns nums src sc N [r.1.2.2.1])&&mt false fns nums cond q.1.2.2.2.2.1 (d30 q.1.2.1++(e80 N capt).map (·.1)) q.1.2.2.2.1&&mt false fns nums el q.1.2.2.2.2.1 (d30 q.1.2.1++(e80 N capt).map (·.1)) [q.1.1]
 |lm,fns,nums,.lrng b as=>λsc N es=>opt (R92 es) λq=>q.1.1 == lrN b&&q.1.2.2.1 == ("range":Str)&&glob sc (lrN b)&&glob sc "range"&&isL as&&decide (1≤q.1.2.2.2.2.1.length∧q.1.2.2.2.2.1.length≤2)&&mt lm fns nums as sc N q.1.2.2.2.2.1
 |lm,fns,nums,.zget i k=>λ_ N es=>opt (R82 es) λq=>N[i]? == some q.1.1&&d80 q.1.1&&q.1.2.2.1 == (k:Int)
theorem d60{sc:Scope}{x:Str}(h:glob sc x=true):sc.names.lookup x=some .globalImplicit∧(x == ("__debug__":Str))=false∧x≠"__name__":=by
 unfold glob at h
 simp only[and_eq_true,not_eq_true',beq_iff_eq] at h
 refine⟨h.1.1,h.1.2,λe=>?_⟩
 subst e
 simp at h
section
variable {lm:Bool}{X:Cx}{G:Gs}{E:XK}{N:List Str}{sc:Scope}
theorem q52{K:PySem.W.Frag}{zA:Option Addr}{H0 H:Hp}{s:S}{v:V}(h:RvP K zA H s v):RvS K zA H0 H (plS s) v:=by cases s <;> exact h
theorem b62(h:(!ifB e)=true):∀ t a b p,e≠.IfExp t a b p:=by
 intro t a b p he
 subst he
 cases h
theorem a70(hL:isL x=false)(h:Good X G E x [e]):a80 X G E x e:=by
 cases x with
 |nil=>cases hL
 |cons _ _=>cases hL
 |_ =>
  obtain⟨e',h1,h2⟩:=(show ∃ e',[e]=[e']∧a80 X G E _ e' from h)
  cases h1
  exact h2
theorem b90(hL:isL x=false)(h:a80 X G E x e):Good X G E x [e]:=by
 cases x with
 |nil=>cases hL
 |cons _ _=>cases hL
 |_=>exact⟨e,rfl,h⟩
theorem f90(po:c21 X.K G zA E H Q r):∀ c z1,r=.er c z1→EPost G zA E c z1 H:=λc z1 e=>by subst e;exact po
theorem U40(po:M21 G zA E H Q r):∀ c z1,r=.er c z1→EPost G zA E c z1 H:=λc z1 e=>by subst e;exact po
theorem E42(x:XI lm X G E N sc){i:Nat}{n:Str}{pos:Pos}(h1:N[i]?=some n)(h2:d80 n=true):a80 X G E (.var i) (.Name n pos):=by
 unfold d80 at h2
 simp only[and_eq_true,not_eq_true'] at h2
 refine a90 (PE.imp (y90 (i:=i) (by rw[x.hN];exact h1) (x.vis n (mem_of_getElem? h1)) h2.1 h2.2) λσ H Q q=>?_) rfl
 obtain⟨zA,ρ,z,r,rel,st,e,po⟩:=q
 have e':(match ρ[i]? with | some (some s)=>M.ret [plS s] | _=>M.no) z=some r:=e
 cases hs:ρ[i]? with
 |none=>rw[hs] at e';cases e'
 |some o =>
  cases o with
  |none=>rw[hs] at e';cases e'
  |some s =>
   rw[hs] at e'
   cases e'
   obtain⟨v,hv,rv⟩:=rel i s hs
   obtain⟨s',e',po⟩:=po
   cases e'
   exact⟨v,hv,po v H Ext.refl st (q52 rv)⟩
theorem E52{c:Const}{d:D}{j:Nat}{pos:Pos}(h:q22 c d=true):a80 X G E (.con d) (.Constant c j pos):=by
 refine a90 ?_ rfl
 have fin:∀ {v:V},(∀ H,Hd X.K H d v)→∀ σ H Q,tI X.K G E (.con d) σ H Q→tC v σ H Q:=λ{v} hd σ H Q q=>by
  obtain⟨zA,ρ,z,r,rel,st,e,po⟩:=q
  cases e
  obtain⟨s',e',po⟩:=po
  cases e'
  exact po v H Ext.refl st (G41 (hd _))
 cases c with
 |int i=>cases d <;> first | (simp only[q22,beq_iff_eq] at h;subst h;exact PE.imp r01 (fin λH=>Hd.int)) | (cases h)
 |bool b=>cases d <;> first | (simp only[q22,beq_iff_eq] at h;subst h;exact PE.imp y72 (fin λH=>Hd.bl)) | (cases h)
 |str y=>cases d <;> first | (simp only[q22,beq_iff_eq] at h;subst h;exact PE.imp P71 (fin λH=>Hd.str)) | (cases h)
 |none=>cases d <;> first | exact PE.imp j32 (fin λH=>Hd.non) | (cases h)
 |_=>cases h
theorem E62{pos:Pos}:a80 X G E (.con .dct) (.Dict [] [] pos):=by
 refine a90 (PE.imp X91 λσ H Q q=>?_) rfl
 obtain⟨zA,ρ,z,r,rel,st,e,po⟩:=q
 cases e
 obtain⟨s',e',po⟩:=po
 cases e'
 intro p hp
 refine po _ _ (Ext.of (a30.new _ hp)) (st.same (a30.new _ hp)) (G41 ?_)
 unfold Hd
 exact⟨p,[],rfl,d90 c70 (st.w61 hp)⟩
theorem q62(x:XI lm X G E N sc){g:Str}{i:Int}{pos:Pos}(h1:glob sc g=true)(h2:(g,i)∈G.nums):a80 X G E (.gint g i) (.Name g pos):=by
 obtain⟨k1,k2,_⟩:=d60 h1
 obtain⟨t,ht⟩:=x.num _ h2
 refine a90 (PE.imp (U31 (v:=.int i) (x.glb g k1) ht ⟨t,rfl⟩ k2) λσ H Q q=>?_) rfl
 obtain⟨zA,ρ,z,r,rel,st,e,po⟩:=q
 cases e
 obtain⟨s',e',po⟩:=po
 cases e'
 exact po _ H Ext.refl st h40
theorem H40{K:PySem.W.Frag}{zA:Option Addr}{H0 H:Hp}{l:List S}{vs:List V}{ds:List D}(h:Paired (RvS K zA H0 H) l vs)(e:plA l=some ds):HdA K (hz zA H) ds vs:=RvA.ds (Paired.h32 h λ_ _ q=>q.pl) e
theorem E72{as:Ex}{l:List Expr}{k:Nat}{pos:Pos}(hL:isL as=true)(g:Good X G E as l):a80 X G E (.tup as) (.Tuple l k pos):=by
 refine a90 (PE.imp (Q21 (g.args hL).1) λσ H Q q=>?_) rfl
 obtain⟨zA,ρ,z,r,rel,st,e,po⟩:=q
 refine c31 rel st e (f90 po) λl z1 e1 vs H1 x1 st1 rvs=>?_
 obtain⟨ds,hd,e2⟩:=M.a10 e1
 split at e2
 ·rename_i hm
  cases e2
  obtain⟨s',e',po⟩:=po
  cases e'
  have h:=H40 rvs hd
  exact⟨f50 (by rw[h.length];exact hm),λp hp=>po _ _ (x1.trans (Ext.of (a30.new _ hp))) (st1.same (a30.new _ hp)) (G41 (Hd.tup ((st1.same (a30.new _ hp)).Z51 (SqT.of c70)) (h.same (k00 (a30.new _ hp)))))⟩
 ·cases e2
theorem E82{as:Ex}{l:List Expr}{pos:Pos}(hL:isL as=true)(g:Good X G E as l):a80 X G E (.lst as) (.List l pos):=by
 refine a90 (PE.imp (l72 (g.args hL).1) λσ H Q q=>?_) rfl
 obtain⟨zA,ρ,z,r,rel,st,e,po⟩:=q
 refine c31 rel st e (f90 po) λl z1 e1 vs H1 x1 st1 rvs=>?_
 obtain⟨ds,hd,e2⟩:=M.a10 e1
 split at e2
 ·rename_i hm
  cases e2
  obtain⟨s',e',po⟩:=po
  cases e'
  have h:=H40 rvs hd
  exact⟨f50 (by rw[h.length];exact hm),λp hp=>po _ _ (x1.trans (Ext.of (a30.new _ hp))) (st1.same (a30.new _ hp)) ((s50 st1 h hp).from x1)⟩
 ·cases e2
theorem i81{α:Type}{a b:Ex}{k:D→D→M α}{zA:Option Addr}{ρ:Env}{z:Z}{r:R α}{σ:L2.St}{H:Hp}{Q:V→V→Hp→Prop}(rel:B50 X.K zA H ρ σ)(st:e50 zA z H)
  (h:M.bind (ev G.F a ρ) (λx=>M.bind (M.of (pl x)) λx=>M.bind (ev G.F b ρ) λy=>M.bind (M.of (pl y)) λy=>k x y) z=some r) (her:∀ c z1,r=.er c z1→EPost G zA E c z1 H)
  (hk:∀ dx dy z2 v w H2,k dx dy z2=some r→Ext zA H H2→e50 zA z2 H2→Hd X.K (hz zA H2) dx v→Hd X.K (hz zA H2) dy w→Q v w H2) :
  tI X.K G E a σ H λv H1=>tI X.K G E b σ H1 λw H2=>Q v w H2:=by
 refine l40 rel st h her λl z1 e1=>?_
 obtain⟨dx,p1,e2⟩:=M.a10 e1
 obtain⟨s1,rfl,q1⟩:=g70 p1
 refine⟨s1,rfl,λv H1 x1 st1 rv=>?_⟩
 refine l40 (rel.mono x1) st1 e2 (λc z2 q=>(her c z2 q).mono x1) λm z2 e3=>?_
 obtain⟨dy,p2,e4⟩:=M.a10 e3
 obtain⟨s2,rfl,q2⟩:=g70 p2
 exact⟨s2,rfl,λw H2 x2 st2 rw'=>hk dx dy z2 v w H2 e4 (x1.trans x2) st2 ((rv.pl.mono x2).d_ q1) (rw'.pl.d_ q2)⟩
theorem f60{zA:Option Addr}{H H2:Hp}{z2:Z}{s:S}{Q:VK}(po:c21 X.K G zA E H Q (.ok [s] z2))(x:Ext zA H H2)(st:e50 zA z2 H2):∀ v H',a30 H2 H'→RvS X.K zA H2 H' s v→Q v H':=λv H' sm rv=>by
 obtain⟨s',e',po⟩:=po
 cases e'
 exact po v H' (x.trans (Ext.of sm)) (st.same sm) (rv.from x)
theorem E92{o:Bi}{a b:Ex}{l r:Expr}{pos:Pos}(ga:a80 X G E a l)(gb:a80 X G E b r):a80 X G E (.bin o a b) (.BinOp l (opB o) r pos):=by
 refine a90 (PE.imp (A22 (opD o) ga.pe gb.pe) λσ H Q q=>?_) rfl
 obtain⟨zA,ρ,z,rr,rel,st,e,po⟩:=q
 refine i81 rel st e (f90 po) λdx dy z2 v w H2 e2 x2 st2 h1 h2=>?_
 obtain⟨s,hs,e3⟩:=M.a10 e2
 cases e3
 exact⟨zA,z2,dx,dy,s,st2,h1,h2,hs,f60 po x2 st2⟩
theorem R91(po:M21 G zA E H Q r):c21 X.K G zA E H (λx H'=>∃ k,x=.bl k∧Q k H') r:=by
 cases r with
 |er c z1=>exact po
 |ok l z1 =>
  obtain⟨b,rfl,po⟩:=po
  exact⟨_,rfl,λv H' ex st' rv=>⟨b,Hd.bl_ (show Hd X.K (hz zA H') (.bl b) v from rv),po H' ex st'⟩⟩
theorem F02(x:XI lm X G E N sc){o:Cm}{a b:Ex}{l r:Expr}{pos:Pos}(hs:A80 r=true)(ga:a80 X G E a l)(gb:a80 X G E b r):a80 X G E (.cmp o a b) (.Compare l [opC o] [r] pos):=by
 have key:∀ σ H Q,tI X.K G E (.cmp o a b) σ H Q→tOp (rD2 X.K λa b=>(A60 o a b).map λc=>.d (.bl c)) (tI X.K G E a) (tI X.K G E b) σ H Q:=λσ H Q q=>by
  obtain⟨zA,ρ,z,rr,rel,st,e,po⟩:=q
  refine i81 rel st e (f90 po) λdx dy z2 v w H2 e2 x2 st2 h1 h2=>?_
  obtain⟨c,hc,e3⟩:=M.a10 e2
  cases e3
  exact⟨zA,z2,dx,dy,_,st2,h1,h2,by show Option.map _ (A60 o dx dy)=_;rw[hc];rfl,f60 po x2 st2⟩
 refine⟨PE.imp (V11 (h72 x.room.units o) ga.pe gb.pe (x41 hs _)) key,λ_=>PT.imp (V21 (h72 x.room.units o) ga.pe gb.pe (x41 hs _)) λσ H Q q=>?_,λop vs p h=>by cases h⟩
 obtain⟨zA,ρ,z,rr,rel,st,e,po⟩:=q
 exact key σ H _ ⟨zA,ρ,z,rr,rel,st,e,R91 po⟩
theorem F12{a:Ex}{l:Expr}{pos:Pos}(ga:a80 X G E a l):a80 X G E (.neg a) (.UnaryOp .USub l pos):=by
 refine a90 (PE.imp (A32 l32 ga.pe) λσ H Q q=>?_) rfl
 obtain⟨zA,ρ,z,rr,rel,st,e,po⟩:=q
 refine l40 rel st e (f90 po) λm z1 e1=>?_
 obtain⟨i,p1,e2⟩:=M.a10 e1
 obtain⟨d,p2,p3⟩:=Option.bind_eq_some_iff.mp p1
 obtain⟨s1,rfl,q1⟩:=g70 p2
 cases e2
 refine⟨s1,rfl,λv H1 x1 st1 rv=>?_⟩
 have hd:=rv.pl.d_ q1
 cases d with
 |int j =>
  cases p3
  exact⟨i,hd.i20,f60 po x1 st1 _ _ (a30.refl H1) h40⟩
 |_=>cases p3
theorem F22{a:Ex}{l:Expr}{pos:Pos}(ga:a80 X G E a l)(hn:∀ t x y p,l≠.IfExp t x y p):a80 X G E (.not a) (.UnaryOp .Not l pos):=by
 refine⟨PE.imp (k02 ga.pe) λσ H Q q=>?_,λ_=>PT.imp (j72 (ga.pt hn)) λσ H Q q=>?_,λop vs p h=>by cases h⟩
 ·obtain⟨zA,ρ,z,rr,rel,st,e,po⟩:=q
  refine l40 rel st e (f90 po) λm z1 e1=>?_
  obtain⟨b,p1,e2⟩:=M.a10 e1
  obtain⟨d,p2,p3⟩:=Option.bind_eq_some_iff.mp p1
  obtain⟨s1,rfl,q1⟩:=g70 p2
  cases e2
  refine⟨s1,rfl,λv H1 x1 st1 rv=>?_⟩
  have hd:=rv.pl.d_ q1
  cases d with
  |bl c =>
   cases p3
   exact⟨b,hd.bl_,f60 po x1 st1 _ _ (a30.refl H1) g80⟩
  |_=>cases p3
 ·obtain⟨zA,ρ,z,rr,rel,st,e,po⟩:=q
  refine U30 rel st e (U40 po) λb z1 e1 H1 x1 st1=>?_
  cases e1
  obtain⟨b',e',po⟩:=po
  cases e'
  exact po H1 x1 st1
end
end Q
namespace Q
open PySem L2 PySem.Spec PyProof.Rows
variable [TB:Tb]
section
variable {lm:Bool}{X:Cx}{G:Gs}{E:XK}{N:List Str}{sc:Scope}
theorem M70(rel:B50 X.K zA H ρ σ)(st:e50 zA z H)
  (h:M.bind (ev G.F a ρ) (λx=>M.bind (M.of ((pl x).bind asB)) k) z=some r) (her:∀ c z1,r=.er c z1→EPost G zA E c z1 H)
  (hok:∀ b z1,k b z1=some r→∀ H1,Ext zA H H1→e50 zA z1 H1→Q' (.bl b) H1):tI X.K G E a σ H Q':=by
 refine l40 rel st h her λm z1 e1=>?_
 obtain⟨b,p1,e2⟩:=M.a10 e1
 obtain⟨d,p2,p3⟩:=Option.bind_eq_some_iff.mp p1
 obtain⟨s1,rfl,q1⟩:=g70 p2
 refine⟨s1,rfl,λv H1 x1 st1 rv=>?_⟩
 have hd:=rv.pl.d_ q1
 cases d with
 |bl c =>
  cases p3
  rw[hd.bl_]
  exact hok b z1 e2 H1 x1 st1
 |_=>cases p3
theorem F32(ga:a80 X G E a l)(hl:∀ t x y p,l≠.IfExp t x y p)
  (gb:a80 X G E b (.BoolOp .And (r::vs) p)):a80 X G E (.and a b) (.BoolOp .And (l::r::vs) p):=by
 have pw:PW X (.BoolOp .And (l::r::vs) p) (tT X.K G E (.and a b)):=by
  refine PW.imp (j62 (ga.pt hl) (gb.pw _ _ _ rfl)) λσ H Q q=>?_
  obtain⟨zA,ρ,z,rr,rel,st,e,po⟩:=q
  refine U30 rel st e (U40 po) λc z1 e1 H1 x1 st1=>?_
  cases c with
  |true =>
   rw[if_pos rfl]
   rw[if_pos rfl] at e1
   refine U30 (rel.mono x1) st1 e1 (λc z2 q=>((U40 po) c z2 q).mono x1) λc z2 e2 H2 x2 st2=>?_
   cases e2
   obtain⟨b',e',po⟩:=po
   cases e'
   exact po H2 (x1.trans x2) st2
  |false =>
   rw[if_neg Bool.false_ne_true]
   rw[if_neg Bool.false_ne_true] at e1
   cases e1
   obtain⟨b',e',po⟩:=po
   cases e'
   exact po H1 x1 st1
 refine⟨PE.imp (j92 ga.pe gb.pe) λσ H Q q=>?_,λ_=>pw.pt,λop vs p h=>pw⟩
 obtain⟨zA,ρ,z,rr,rel,st,e,po⟩:=q
 refine M70 rel st e (f90 po) λc z1 e1 H1 x1 st1=>⟨c,rfl,?_⟩
 cases c with
 |true =>
  rw[if_pos rfl]
  rw[if_pos rfl] at e1
  refine M70 (rel.mono x1) st1 e1 (λc z2 q=>((f90 po) c z2 q).mono x1) λc z2 e2 H2 x2 st2=>?_
  cases e2
  exact f60 po (x1.trans x2) st2 _ _ (a30.refl H2) g80
 |false =>
  rw[if_neg Bool.false_ne_true]
  rw[if_neg Bool.false_ne_true] at e1
  cases e1
  exact f60 po x1 st1 _ _ (a30.refl H1) g80
theorem S02(ga:a80 X G E a l)(hl:∀ t x y p,l≠.IfExp t x y p)
  (gb:a80 X G E b (.BoolOp .Or (r::vs) p)):a80 X G E (.or a b) (.BoolOp .Or (l::r::vs) p):=by
 have pw:PW X (.BoolOp .Or (l::r::vs) p) (tT X.K G E (.or a b)):=by
  refine PW.imp (y82 (ga.pt hl) (gb.pw _ _ _ rfl)) λσ H Q q=>?_
  obtain⟨zA,ρ,z,rr,rel,st,e,po⟩:=q
  refine U30 rel st e (U40 po) λc z1 e1 H1 x1 st1=>?_
  cases c with
  |false =>
   rw[if_neg Bool.false_ne_true]
   rw[if_neg Bool.false_ne_true] at e1
   refine U30 (rel.mono x1) st1 e1 (λc z2 q=>((U40 po) c z2 q).mono x1) λc z2 e2 H2 x2 st2=>?_
   cases e2
   obtain⟨b',e',po⟩:=po
   cases e'
   exact po H2 (x1.trans x2) st2
  |true =>
   rw[if_pos rfl]
   rw[if_pos rfl] at e1
   cases e1
   obtain⟨b',e',po⟩:=po
   cases e'
   exact po H1 x1 st1
 refine⟨PE.imp (z12 ga.pe gb.pe) λσ H Q q=>?_,λ_=>pw.pt,λop vs p h=>pw⟩
 obtain⟨zA,ρ,z,rr,rel,st,e,po⟩:=q
 refine M70 rel st e (f90 po) λc z1 e1 H1 x1 st1=>⟨c,rfl,?_⟩
 cases c with
 |false =>
  rw[if_neg Bool.false_ne_true]
  rw[if_neg Bool.false_ne_true] at e1
  refine M70 (rel.mono x1) st1 e1 (λc z2 q=>((f90 po) c z2 q).mono x1) λc z2 e2 H2 x2 st2=>?_
  cases e2
  exact f60 po (x1.trans x2) st2 _ _ (a30.refl H2) g80
 |true =>
  rw[if_pos rfl]
  rw[if_pos rfl] at e1
  cases e1
  exact f60 po x1 st1 _ _ (a30.refl H1) g80
theorem q72(gb:a80 X G E b r)(hr:∀ t x y p,r≠.IfExp t x y p):a80 X G E b (.BoolOp op [r] p):=by
 have pw:PW X (.BoolOp op [r] p) (tT X.K G E b):=by
  cases op with
  |And=>exact U41 (gb.pt hr)
  |Or=>exact j52 (gb.pt hr)
 exact⟨j82 gb.pe,λ_=>pw.pt,λ_ _ _ _=>pw⟩
theorem c21.q82(po:c21 X.K G zA E H Q rr)(x1:Ext zA H H1):c21 X.K G zA E H1 Q rr:=by
 cases rr with
 |er c z1=>exact EPost.mono po x1
 |ok l z2 =>
  obtain⟨s,e',po⟩:=po
  exact⟨s,e',λv H' x' st' rv=>po v H' (x1.trans x') st' (rv.from x1)⟩
theorem U50{α:Type}{m:M α}{z:Z}{r:R α}(h:M.calm m z=some r):m z=some r∧∃ a z1,r=.ok a z1:=by
 unfold M.calm at h
 split at h
 ·rename_i a z1 e
  cases h
  exact⟨e,a,z1,rfl⟩
 ·cases h
theorem q92{a b:Expr}{ta tb:TE}{pos:Pos}(ha:PE X a ta)(hb:PE X b tb):PE X (.BoolOp .Or [a,b] pos) (λσ H Q=>ta σ H λx H1=>∃ t xs,x=.ref t∧SqT X.K H1 t xs∧if xs.isEmpty=true then tb σ H1 Q else Q x H1):=by
 intro pins s σ H Q I h
 refine BoolOp_or (thn (ha pins s σ H _ I h) λv s1 ⟨x,H1,I1,r1,q1⟩=>?_)
 obtain⟨t,xs,rfl,hq,q1⟩:=q1
 obtain⟨its,hv,ht,hl⟩:=I1.tuple hq
 have hlen:xs.length=its.length:=hv.length
 cases r1
 refine truthy_tuple ht (by rw[size_toArray,← hlen];have:=sizeLine_eq;omega) ?_
 cases xs with
 |nil =>
  cases its with
  |nil=>exact BoolOp_one (hb pins _ σ H1 Q (I1.tok _) q1)
  |cons _ _=>cases hlen
 |cons y r =>
  cases its with
  |nil=>cases hlen
  |cons _ _=>exact⟨.ref t,H1,I1.tok _,rfl,q1⟩
theorem S01(h:(pl y).bind n72=some l):∃ s,y=[s]∧plD s=some (.tup l):=by
 obtain⟨d,p2,p3⟩:=Option.bind_eq_some_iff.mp h
 obtain⟨s1,rfl,q1⟩:=g70 p2
 cases d with
 |tup l=>cases p3;exact⟨s1,rfl,q1⟩
 |_=>cases p3
theorem F42(ga:a80 X G E a l)(gb:a80 X G E b r):a80 X G E (.orT a b) (.BoolOp .Or [l,r] p):=by
 have no:∀ {zA:Option Addr}{ρ:Env}{z:Z}{rr:R (List S)}{H:Hp}{Q:Bool→Hp→Prop},ev G.F (.orT a b) ρ z=some rr→M21 G zA E H Q rr→False:=λe po=>by
  obtain⟨e,u,z1,rfl⟩:=U50 e
  obtain⟨c,rfl,_⟩:=po
  rcases M.bind_some e with ⟨m,z2,_,e2⟩ | ⟨c,z2,_,e2⟩
  ·obtain⟨ds,_,e3⟩:=M.a10 e2
   split at e3
   ·rcases M.bind_some e3 with ⟨m,z2,_,e2⟩ | ⟨c,z2,_,e2⟩
    ·obtain⟨ds,_,e3⟩:=M.a10 e2
     cases e3
    ·cases e2
   ·cases e3
  ·cases e2
 refine⟨PE.imp (q92 ga.pe gb.pe) λσ H Q q=>?_,λ_ pins s σ H Q I ⟨_,_,_,_,_,_,e,po⟩=>(no e po).elim,λ_ _ _ _ wh pins s σ H Q I ⟨_,_,_,_,_,_,e,po⟩=>(no e po).elim⟩
 obtain⟨zA,ρ,z,rr,rel,st,e,po⟩:=q
 obtain⟨e,u,z1,rfl⟩:=U50 e
 refine l40 rel st e (f90 po) λm z1 e1=>?_
 obtain⟨ds,p1,e2⟩:=M.a10 e1
 obtain⟨s1,rfl,q1⟩:=S01 p1
 refine⟨s1,rfl,λv H1 x1 st1 rv=>?_⟩
 have hd:=rv.pl.d_ q1
 obtain⟨t,xs,rfl,h1,h2⟩:=hd.B30
 refine⟨t,xs,rfl,(a20 zA H1).sqT h1,?_⟩
 cases ds with
 |nil =>
  cases h2.f40
  have po:=po.q82 x1
  refine l40 (rel.mono x1) st1 e2 (f90 po) λm z1 e1=>?_
  obtain⟨ds,p1,e2⟩:=M.a10 e1
  obtain⟨s1,rfl,q1⟩:=S01 p1
  cases e2
  exact⟨s1,rfl,λv H2 x2 st2 rv=>f60 po x2 st2 _ _ (a30.refl H2) (rv.pl.d_ q1)⟩
 |cons y r =>
  obtain⟨u,w,rfl,_⟩:=h2.c00
  cases e2
  exact f60 po x1 st1 _ _ (a30.refl H1) hd
theorem F52(gc:a80 X G E c t)(ht:∀ a b d p,t≠.IfExp a b d p)(ga:a80 X G E a x)(gb:a80 X G E b y):a80 X G E (.ite c a b) (.IfExp t x y p):=by
 refine⟨PE.imp (G81 (gc.pt ht) ga.pe gb.pe) λσ H Q q=>?_,λh=>absurd rfl (h t x y p),λop vs p h=>by cases h⟩
 obtain⟨zA,ρ,z,rr,rel,st,e,po⟩:=q
 refine U30 rel st e (f90 po) λk z1 e1 H1 x1 st1=>?_
 have po1:=po.q82 x1
 cases k with
 |true =>
  rw[if_pos rfl]
  rw[if_pos rfl] at e1
  exact⟨zA,ρ,z1,rr,rel.mono x1,st1,e1,po1⟩
 |false =>
  rw[if_neg Bool.false_ne_true]
  rw[if_neg Bool.false_ne_true] at e1
  exact⟨zA,ρ,z1,rr,rel.mono x1,st1,e1,po1⟩
theorem S12(x:XI lm X G E N sc){o o':Cm}{a b c:Ex}{l r s:Expr}{pos:Pos}(hs:A80 s=true)(ga:a80 X G E a l)(gb:a80 X G E b r)(gc:a80 X G E c s):a80 X G E (.ch o o' a b c) (.Compare l [opC o,opC o'] [r,s] pos):=by
 have hm:lastMarks [opC o,opC o'] [r,s]=false:=x41 hs _
 have key:∀ σ H Q,tI X.K G E (.ch o o' a b c) σ H Q→r51 (rD2 X.K λa b=>(A60 o a b).map λc=>.d (.bl c)) (rD2 X.K λa b=>(A60 o' a b).map λc=>.d (.bl c)) (tI X.K G E a) (tI X.K G E b) (tI X.K G E c) σ H Q:=λσ H Q q=>by
  obtain⟨zA,ρ,z,rr,rel,st,e,po⟩:=q
  refine i81 rel st e (f90 po) λdx dy z2 v w H2 e2 x2 st2 h1 h2=>?_
  obtain⟨k,hk,e3⟩:=M.a10 e2
  refine⟨zA,z2,dx,dy,.d (.bl k),st2,h1,h2,by show Option.map _ (A60 o dx dy)=_;rw[hk];rfl,λv3 H3 sm rv=>⟨k,Hd.bl_ (show Hd X.K (hz zA H3) (.bl k) v3 from rv),?_⟩⟩
  have x3:=x2.trans (Ext.of sm)
  have st3:=st2.same sm
  cases k with
  |true =>
   rw[if_pos rfl]
   rw[if_pos rfl] at e3
   refine l40 (rel.mono x3) st3 e3 (λc z2 q=>((f90 po) c z2 q).mono x3) λm z4 e4=>?_
   obtain⟨dw,p1,e5⟩:=M.a10 e4
   obtain⟨k',hk',e6⟩:=M.a10 e5
   obtain⟨s1,rfl,q1⟩:=g70 p1
   cases e6
   refine⟨s1,rfl,λv4 H4 x4 st4 rv4=>?_⟩
   exact⟨zA,z4,dy,dw,_,st4,(h2.same (a30.trans (k00 sm) x4)),rv4.pl.d_ q1,by show Option.map _ (A60 o' dy dw)=_;rw[hk'];rfl,f60 po (x3.trans x4) st4⟩
  |false =>
   rw[if_neg Bool.false_ne_true]
   rw[if_neg Bool.false_ne_true] at e3
   cases e3
   exact f60 po x3 st3 _ _ (a30.refl H3) g80
 refine⟨PE.imp (H21 (h72 x.room.units o) (h72 x.room.units o') ga.pe gb.pe gc.pe hm) key,λ_=>PT.imp (H31 (h72 x.room.units o) (h72 x.room.units o') ga.pe gb.pe gc.pe hm) λσ H Q q=>?_,λop vs p h=>by cases h⟩
 obtain⟨zA,ρ,z,rr,rel,st,e,po⟩:=q
 exact key σ H _ ⟨zA,ρ,z,rr,rel,st,e,R91 po⟩
theorem S11:∀ σ H Q,tI X.K G E (.bf f as) σ H Q→tCB (rDn X.K (bfD f)) (tA X.K G E as) σ H Q:=λσ H Q q=>by
 obtain⟨zA,ρ,z,rr,rel,st,e,po⟩:=q
 refine c31 rel st e (f90 po) λl z1 e1 vs H1 x1 st1 rvs=>?_
 obtain⟨ds,hd,e2⟩:=M.a10 e1
 obtain⟨s,hs,e3⟩:=M.a10 e2
 cases e3
 exact⟨zA,z1,ds,s,st1,H40 rvs hd,hs,f60 po x1 st1⟩
theorem c51(x:XI lm X G E N sc){f:Bf}{as:Ex}{n:Str}{id:String}{e:Expr}{l:List Expr}{p pos:Pos}(hc:f80 X (.builtin id) (rDn X.K (bfD f)))(hb:n∈b52)(hv:bootBuiltins n=some (.builtin id))(hg:glob sc n=true)(hL:isL as=true)(g:Good X G E as (e::l)):a80 X G E (.bf f as) (.Call (.Name n p) (e::l) [] pos):=by
 obtain⟨k1,k2,k3⟩:=d60 hg
 obtain⟨ha,hs⟩:=g.args hL
 rw[all_cons,and_eq_true] at hs
 exact a90 (PE.imp (B00 hc (x.glb n k1) (x.blt n hb) hv ha k3 k2 (c50 hs.1 l X.env) (r30 X.env pos hs.2)) S11) rfl
theorem b72(x:XI lm X G E N sc){f:Bf}{as:Ex}{n:Str}{T:String}{e:Expr}{l:List Expr}{p pos:Pos}(hc:f80 X (.type T) (rDn X.K (bfD f)))(hb:n∈b52)(hv:bootBuiltins n=some (.type T))(hg:glob sc n=true)(hL:isL as=true)(g:Good X G E as (e::l)):a80 X G E (.bf f as) (.Call (.Name n p) (e::l) [] pos):=by
 obtain⟨k1,k2,k3⟩:=d60 hg
 obtain⟨ha,hs⟩:=g.args hL
 rw[all_cons,and_eq_true] at hs
 exact a90 (PE.imp (R90 hc (x.glb n k1) (x.blt n hb) hv ha k3 k2 (c50 hs.1 l X.env) (r30 X.env pos hs.2)) S11) rfl
theorem r02:bootBuiltins "len"=some (.builtin "len"):=by decide +kernel
theorem U60:bootBuiltins "sorted"=some (.builtin "sorted"):=by decide +kernel
theorem r12:bootBuiltins "all"=some (.builtin "all"):=by decide +kernel
theorem r22:bootBuiltins "sum"=some (.builtin "sum"):=by decide +kernel
theorem r32:bootBuiltins "min"=some (.builtin "min"):=by decide +kernel
theorem r42:bootBuiltins "max"=some (.builtin "max"):=by decide +kernel
theorem r52:bootBuiltins "abs"=some (.builtin "abs"):=by decide +kernel
theorem w10:bootBuiltins "isinstance"=some (.builtin "isinstance"):=by decide +kernel
theorem r62:bootBuiltins "int"=some (.type "int"):=by decide +kernel
theorem M80:bootBuiltins "tuple"=some (.type "tuple"):=by decide +kernel
theorem c61:bootBuiltins "list"=some (.type "list"):=by decide +kernel
theorem S22(x:XI lm X G E N sc){f:Bf}{as:Ex}{n:Str}{e:Expr}{l:List Expr}{p pos:Pos}(hf:served f=true)(hn:n=(bfN f).1)(hg:glob sc n=true)(hL:isL as=true)(g:Good X G E as (e::l)):a80 X G E (.bf f as) (.Call (.Name n p) (e::l) [] pos):=by
 subst hn
 cases f with
 |len=>exact c51 x p12 (by decide) r02 hg hL g
 |tuple=>exact b72 x L61 (by decide) M80 hg hL g
 |list=>exact b72 x a62 (by decide) c61 hg hL g
 |min=>exact c51 x (p42 x.calm) (by decide) r32 hg hL g
 |max=>exact c51 x (p52 x.calm) (by decide) r42 hg hL g
 |abs=>exact c51 x p62 (by decide) r52 hg hL g
 |all=>exact c51 x (p22 x.calm) (by decide) r12 hg hL g
 |int=>exact b72 x p72 (by decide) r62 hg hL g
 |sorted=>exact c51 x (x21 x.room.units) (by decide) U60 hg hL g
 |sum=>exact c51 x (p32 x.calm) (by decide) r22 hg hL g
 |_=>cases hf
theorem F62(t:Ty)(h:t≠.seq):Str.ofString (tyN t)∈b52∧bootBuiltins (Str.ofString (tyN t))=some (.type (tyN t))∧tyN t∈["int","bool","tuple","list","str"]:=by
 cases t with
 |seq=>exact absurd rfl h
 |_=>decide +kernel
theorem r72(x:XI lm X G E N sc){t:Ty}{a:Ex}{n:Str}{e:Expr}{p pos p2:Pos}(hs:t≠.seq)
  (hg2:glob sc (Str.ofString (tyN t))=true) (hn:n="isinstance") (hg:glob sc n=true) (ns:noStar e=true) (ga:a80 X G E a e):a80 X G E (.isi t a) (.Call (.Name n p) [e,.Name (Str.ofString (tyN t)) p2] [] pos):=by
 obtain⟨hb,hv,ht⟩:=F62 t hs
 subst hn
 obtain⟨k1,k2,k3⟩:=d60 hg
 obtain⟨m1,m2,m3⟩:=d60 hg2
 refine a90 (PE.imp (B00 K21 (x.glb _ k1) (x.blt _ (by decide)) w10 (j80 ga.pe (j80 (Z40 (v:=.ty (tyN t)) (x.glb _ m1) (x.blt _ hb) hv rfl m3 m2) C80) (c50 ns _ _)) k3 k2 (c50 ns _ _) rfl) λσ H Q q=>?_) rfl
 obtain⟨zA,ρ,z,rr,rel,st,e,po⟩:=q
 refine l40 rel st e (f90 po) λm z1 e1=>?_
 obtain⟨d,p1,e2⟩:=M.a10 e1
 obtain⟨s1,rfl,q1⟩:=g70 p1
 cases e2
 refine⟨s1,rfl,λv H1 x1 st1 rv=>⟨d,v,tyN t,rfl,((rv.pl.d_ q1).same (a20 zA H1)).has,ht,?_⟩⟩
 rw[a72 t d hs]
 exact f60 po x1 st1 _ _ (a30.refl H1) g80
theorem r82(x:XI lm X G E N sc){a:Ex}{n:Str}{e:Expr}{p pos p1 p2 p3:Pos}{k:Nat}(hg2:glob sc "tuple"=true)(hg3:glob sc "list"=true)(hn:n="isinstance")(hg:glob sc n=true)(ns:noStar e=true)(ga:a80 X G E a e) :
  a80 X G E (.isi .seq a) (.Call (.Name n p) [e,.Tuple [.Name "tuple" p1,.Name "list" p2] k p3] [] pos):=by
 subst hn
 obtain⟨k1,k2,k3⟩:=d60 hg
 obtain⟨m1,m2,m3⟩:=d60 hg2
 obtain⟨l1,l2,l3⟩:=d60 hg3
 refine a90 (PE.imp (B00 u31 (x.glb _ k1) (x.blt _ (by decide)) w10 (j80 ga.pe (j80 (Q21 (j80 (Z40 (v:=.ty "tuple") (x.glb _ m1) (x.blt _ (by decide)) M80 rfl m3 m2)
  (j80 (Z40 (v:=.ty "list") (x.glb _ l1) (x.blt _ (by decide)) c61 rfl l3 l2) C80))) C80) (c50 ns _ _)) k3 k2 (c50 ns _ _) rfl) λσ H Q q=>?_) rfl
 obtain⟨zA,ρ,z,rr,rel,st,e,po⟩:=q
 refine l40 rel st e (f90 po) λm z1 e1=>?_
 obtain⟨d,p1,e2⟩:=M.a10 e1
 obtain⟨s1,rfl,q1⟩:=g70 p1
 cases e2
 refine⟨s1,rfl,λv H1 x1 st1 rv=>⟨by show 2≤sizeLine;rw[sizeLine_eq];decide,λt ht=>?_⟩⟩
 have sm:a30 H1 (upd H1 t (.tup [.ty "tuple",.ty "list"])):=a30.new _ ht
 refine⟨d,v,t,rfl,((rv.pl.d_ q1).same (a30.trans (a20 zA H1) sm)).has,SqT.of c70,?_⟩
 rw[L81 d]
 exact f60 po x1 st1 _ _ sm g80
theorem F72{a i:Ex}{v x:Expr}{pos:Pos}(hs:c41 x=true)(ga:a80 X G E a v)(gi:a80 X G E i x):a80 X G E (.idx a i) (.Subscript v x pos):=by
 refine a90 (PE.imp (m02 ixD ga.pe gi.pe (I50 hs)) λσ H Q q=>?_) rfl
 obtain⟨zA,ρ,z,rr,rel,st,e,po⟩:=q
 refine i81 rel st e (f90 po) λdx dy z2 v w H2 e2 x2 st2 h1 h2=>?_
 obtain⟨c,hc,e3⟩:=M.a10 e2
 cases e3
 exact⟨zA,z2,dx,dy,_,st2,h1,h2,by show Option.map _ (T30 dx dy)=_;rw[hc];rfl,f60 po x2 st2⟩
theorem r92(x:XI lm X G E N sc){i k:Nat}{n:Str}{c:Nat}{p q pos:Pos}(h1:N[i]?=some n)(h2:d80 n=true):a80 X G E (.zget i k) (.Subscript (.Name n p) (.Constant (.int k) c q) pos):=by
 unfold d80 at h2
 simp only[and_eq_true,not_eq_true'] at h2
 refine a90 (PE.imp (m02 s41 (y90 (i:=i) (by rw[x.hN];exact h1) (x.vis n (mem_of_getElem? h1)) h2.1 h2.2) r01 (I50 rfl)) λσ H Q qq=>?_) rfl
 obtain⟨zA,ρ,z,rr,rel,st,e,po⟩:=qq
 have e0:w11 k ρ[i]? z=some rr:=e
 unfold w11 at e0
 split at e0
 ·rename_i p hs
  obtain⟨v,hv,a,hz',rfl⟩:=rel i .z hs
  subst hz'
  have st':H a=some (.lst [.int p.1,.bl p.2]):=st.zat
  refine⟨_,hv,a,[.int p.1,.bl p.2],(k:Int),?_⟩
  split at e0
  ·rename_i hk
   subst hk
   cases e0
   obtain⟨s',e',po⟩:=po
   cases e'
   exact⟨_,rfl,rfl,SqL.of st',rfl,po _ H Ext.refl st h40⟩
  ·split at e0
   ·rename_i hk
    subst hk
    cases e0
    obtain⟨s',e',po⟩:=po
    cases e'
    exact⟨_,rfl,rfl,SqL.of st',rfl,po _ H Ext.refl st (G41 Hd.bl)⟩
   ·cases e0
 ·cases e0
theorem i91(a:Int):∀ (n:Nat) {its:List Value},its.length=n→(∀ i,i < n→∃ v t,its[i]?=some v∧v=.int (a + (i:Nat)) t)→Vals ((range n).map λ(k:Nat)=>V.int (a + k)) its:=by
 intro n its hl h
 have:∀ (m:Nat) (l:List Value) (o:Nat),l.length=m→(∀ i,i < m→∃ v t,l[i]?=some v∧v=.int (a + (o + i:Nat)) t)→Vals ((range' o m 1).map λ(k:Nat)=>V.int (a + k)) l:=by
  intro m
  induction m with
  |zero =>
   intro l o hl _
   rw[List.length_eq_zero_iff.mp hl]
   exact .nil
  |succ m ih =>
   intro l o hl h
   cases l with
   |nil=>cases hl
   |cons x r =>
    obtain⟨v,t,e1,e2⟩:=h 0 (Nat.succ_pos m)
    simp only[List.getElem?_cons_zero,Option.some.injEq] at e1
    subst e1
    rw[List.range'_succ,map_cons]
    refine .cons ⟨t,by rw[e2];simp⟩ (ih r (o + 1) (by simpa using hl) λi hi=>?_)
    obtain⟨v,t,e1,e2⟩:=h (i + 1) (Nat.succ_lt_succ hi)
    exact⟨v,t,by simpa using e1,by rw[e2];congr 1;omega⟩
 rw[range_eq_range']
 exact this n its 0 hl λi hi=>by
  obtain⟨v,t,e1,e2⟩:=h i hi
  exact⟨v,t,e1,by rw[e2];simp⟩
theorem x51:bootBuiltins "range"=some (.type "range"):=by decide +kernel
def lrV:List V→Option (Int × Int)
 |[.int j]=>some (0,j)
 |[.int i,.int j]=>some (i,j)
 |_=>none
def lrO:Bool→List V→HO
 |true=>HO.tup
 |false=>HO.lst
def lrT:Bool→String
 |true=>"tuple"
 |false=>"list"
def F82(b:Bool)(ta:TA):TE:=λσ H Q=>ta σ H λvs H1=>∃ i j:Int,lrV vs=some (i,j)∧-100000 < i∧i < 100000∧-100000 < j∧j < 100000∧∀ l,H1 l=none→Q (.ref l) (upd H1 l (lrO b ((range (j - i).toNat).map λ(k:Nat)=>V.int (i + k))))
theorem s02{pins:List (Addr × Obj)}{σ:L2.St}{H1:Hp}{s1:Shared}{r:Addr}{i j:Int}{t u v:Tok}{Q:VK}(hc:X.calm=true)(I2:Inv X pins σ H1 s1)(hr:IsRange s1.heap r i j 1 t u v)(i1:-100000 < i)(i2:i < 100000)(j1:-100000 < j)(j2:j < 100000)
  (q:∀ l,H1 l=none→Q (.ref l) (upd H1 l (.lst ((range (j - i).toNat).map λ(k:Nat)=>V.int (i + k))))):wpAny (model X.prog X.w) X.A (call (.type "list") [.ref r]) (EP X pins σ Q) X.xe s1:=by
 have hz:Builtin.Range.rangeSize i j 1=(((j - i).toNat:Nat):Int):=by rw[rangeSize_one];split <;> omega
 refine call_list_range (n:=(j - i).toNat) (I2.ok.hd hc) hr (small_one (by omega) (by omega) (by omega) (by omega)) hz (by omega) λh' tk acc' c' kp hS hacc=>?_
 have rv:Vals ((range (j - i).toNat).map λ(k:Nat)=>V.int (i + k)) acc'.toList:=by
  refine i91 i (j - i).toNat ?_ λi hi=>?_
  ·rw[length_toList];exact hacc.1
  ·have hlt:i < acc'.size:=by rw[hacc.1];exact hi
   obtain⟨t,e⟩:=hacc.2 i acc'[i] (Array.getElem?_eq_getElem hlt)
   exact⟨acc'[i],t,by rw[Array.getElem?_toList];exact Array.getElem?_eq_getElem hlt,by rw[e];simp⟩
 have hlen:((range (j - i).toNat).map λ(k:Nat)=>V.int (i + k)).length≤sizeLine:=by rw[length_map,length_range,sizeLine_eq];omega
 have hn:=I2.hok.fresh (Nat.le_refl _)
 exact⟨.ref _,_,I2.laid (t':=tk) kp (Nat.le_refl _) (show j20 X.prog X.w _ h' _ (.lst _) from⟨hlen,acc'.toList,c',rv,by rw[toArray_toList];exact hS⟩),rfl,q _ hn⟩
theorem b82{pins:List (Addr × Obj)}{σ:L2.St}{H1:Hp}{s1:Shared}{r:Addr}{i j:Int}{t u v:Tok}{Q:VK}(hc:X.calm=true)(I2:Inv X pins σ H1 s1)(hr:IsRange s1.heap r i j 1 t u v)(i1:-100000 < i)(i2:i < 100000)(j1:-100000 < j)(j2:j < 100000)
  (q:∀ l,H1 l=none→Q (.ref l) (upd H1 l (.tup ((range (j - i).toNat).map λ(k:Nat)=>V.int (i + k))))):wpAny (model X.prog X.w) X.A (call (.type "tuple") [.ref r]) (EP X pins σ Q) X.xe s1:=by
 have hz:Builtin.Range.rangeSize i j 1=(((j - i).toNat:Nat):Int):=by rw[rangeSize_one];split <;> omega
 refine HT.tuple_range (n:=(j - i).toNat) (I2.ok.hd hc) hr (small_one (by omega) (by omega) (by omega) (by omega)) hz (by omega) λh' tk acc' kp hsz hacc=>?_
 have rv:Vals ((range (j - i).toNat).map λ(k:Nat)=>V.int (i + k)) acc'.toList:=by
  refine i91 i (j - i).toNat ?_ λi hi=>?_
  ·rw[length_toList];exact hacc.1
  ·have hlt:i < acc'.size:=by rw[hacc.1];exact hi
   obtain⟨t,e⟩:=hacc.2 i acc'[i] (Array.getElem?_eq_getElem hlt)
   exact⟨acc'[i],t,by rw[Array.getElem?_toList];exact Array.getElem?_eq_getElem hlt,by rw[e];simp⟩
 have hlen:((range (j - i).toNat).map λ(k:Nat)=>V.int (i + k)).length≤sizeLine:=by rw[length_map,length_range,sizeLine_eq];omega
 exact⟨.ref _,_,I2.laid (t':=tk) (λb o e=>Heap.get?_push_of_some _ (kp b o e)) hsz (show j20 X.prog X.w _ _ _ (.tup _) from⟨hlen,acc'.toList,rv,⟨_,Heap.get?_push_size _ rfl,rfl,0,by rw[toArray_toList]⟩⟩),rfl,q _ (I2.hok.fresh hsz)⟩
theorem x61(b:Bool){pins:List (Addr × Obj)}{σ:L2.St}{H1:Hp}{s1:Shared}{r:Addr}{i j:Int}{t u v:Tok}{Q:VK}(hc:X.calm=true)(I2:Inv X pins σ H1 s1)(hr:IsRange s1.heap r i j 1 t u v)(i1:-100000 < i)(i2:i < 100000)(j1:-100000 < j)(j2:j < 100000)
  (q:∀ l,H1 l=none→Q (.ref l) (upd H1 l (lrO b ((range (j - i).toNat).map λ(k:Nat)=>V.int (i + k))))):wpAny (model X.prog X.w) X.A (call (.type (lrT b)) [.ref r]) (EP X pins σ Q) X.xe s1:=by
 cases b with
 |true=>exact b82 hc I2 hr i1 i2 j1 j2 q
 |false=>exact s02 hc I2 hr i1 i2 j1 j2 q
theorem F92(b:Bool):bootBuiltins (lrN b)=some (.type (lrT b)):=by
 cases b with
 |true=>exact M80
 |false=>exact c61
theorem x71(b:Bool){e:Expr}{l:List Expr}{ta:TA}{p p2 pos pos2:Pos}(hc:X.calm=true)(hg:Gl X (lrN b))(hm:X.mg (lrN b)=none)(hg2:Gl X "range")(hm2:X.mg "range"=none)(ha:PA X (e::l) ta)(hs:noStar e=true)(hs2:l.all noStar=true) :
  PE X (.Call (.Name (lrN b) p) [.Call (.Name "range" p2) (e::l) [] pos2] [] pos) (F82 b ta):=by
 intro pins s σ H Q I h
 refine Call_ (v40 I hg hm (F92 b) (PyProof.Rows.callWith_type1 (Calls.spliced_cons ?_) rfl rfl) (by cases b <;> decide) (by cases b <;> decide))
 refine Call_ (v40 I hg2 hm2 x51 (PyProof.Rows.callWith_type1 (thn (ha pos2 pins s σ H _ I h) λus s1 ⟨vs,H1,I1,r1,q1⟩=>?_) (c50 hs l X.env) (r30 X.env pos2 hs2)))
 obtain⟨i,j,hv,i1,i2,j1,j2,q⟩:=q1
 match vs,hv with
 |[.int _],hv =>
  cases hv
  obtain⟨u,rfl,r⟩:=vals1 r1
  obtain⟨t,rfl⟩:=r
  exact call_range_1 (Calls.spliced_nil (x61 b hc (I1.kept λb o e=>Heap.get?_push_of_some _ e) (IsRange.new ..) i1 i2 j1 j2 q))
 |[.int _,.int _],hv =>
  cases hv
  obtain⟨u,u',rfl,r,r'⟩:=vals2 r1
  obtain⟨t,rfl⟩:=r
  obtain⟨t',rfl⟩:=r'
  exact call_range_2 (Calls.spliced_nil (x61 b hc (I1.kept λb o e=>Heap.get?_push_of_some _ e) (IsRange.new ..) i1 i2 j1 j2 q))
theorem M31:∀ {ds xs:List D},lrD ds=some xs→∃ i j:Int,((ds=[.int j]∧i=0)∨ds=[.int i,.int j])∧-100000 < i∧i < 100000∧-100000 < j∧j < 100000∧xs=(range (j - i).toNat).map λ(k:Nat)=>D.int (i + k)
 |[],_,h=>by cases h
 |[x],xs,h=>by
  cases x with
  |int j =>
   obtain⟨hj,h⟩:=e60 h
   have hj:=E10.mp hj
   exact⟨0,j,.inl ⟨rfl,rfl⟩,by omega,by omega,hj.1,hj.2,by cases h;simp⟩
  |_=>cases h
 |[x,y],xs,h=>by
  cases x with
  |int i =>
   cases y with
   |int j =>
    obtain⟨hj,h⟩:=e60 h
    have h1:=E10.mp hj.1
    have h2:=E10.mp hj.2
    exact⟨i,j,.inr rfl,h1.1,h1.2,h2.1,h2.2,by cases h;rfl⟩
   |_=>cases h
  |_=>cases h
 |x::y::_::_,_,h=>by
  cases x with
  |int i=>cases y <;> cases h
  |_=>cases h
theorem s12(x:XI lm X G E N sc){b:Bool}{as:Ex}{a:Expr}{l:List Expr}{p p2 pos pos2:Pos}(h1:glob sc (lrN b)=true)(h2:glob sc "range"=true)(hL:isL as=true)(g:Good X G E as (a::l)):a80 X G E (.lrng b as) (.Call (.Name (lrN b) p) [.Call (.Name "range" p2) (a::l) [] pos2] [] pos):=by
 obtain⟨k1,_,_⟩:=d60 h1
 obtain⟨m1,_,_⟩:=d60 h2
 obtain⟨ha,hs⟩:=g.args hL
 rw[all_cons,and_eq_true] at hs
 refine a90 (PE.imp (x71 b x.calm (x.glb _ k1) (x.blt _ (by cases b <;> decide)) (x.glb _ m1) (x.blt _ (by decide)) ha hs.1 hs.2) λσ H Q q=>?_) rfl
 obtain⟨zA,ρ,z,rr,rel,st,e,po⟩:=q
 refine c31 rel st e (f90 po) λl z1 e1 vs H1 x1 st1 rvs=>?_
 obtain⟨xs,hx,e2⟩:=M.a10 e1
 cases e2
 obtain⟨s',e',po⟩:=po
 cases e'
 obtain⟨ds,h3,h4⟩:=Option.bind_eq_some_iff.mp hx
 have hd:=H40 rvs h3
 have fin:∀ i j:Int,xs=(range (j - i).toNat).map (λ(k:Nat)=>D.int (i + k))→∀ lA,H1 lA=none→Q (.ref lA) (upd H1 lA (lrO b ((range (j - i).toNat).map λ(k:Nat)=>V.int (i + k)))):=λi j ex lA hn=>by
  subst ex
  have hI:=HdA.ints (K:=X.K) (H:=hz zA H1) ((range (j - i).toNat).map λ(k:Nat)=>i + (k:Int))
  rw[List.map_map,List.map_map] at hI
  cases b with
  |false=>exact po _ _ (x1.trans (Ext.of (a30.new _ hn))) (st1.same (a30.new _ hn)) ((s50 st1 hI hn).from x1)
  |true=>exact po _ _ (x1.trans (Ext.of (a30.new _ hn))) (st1.same (a30.new _ hn)) (G41 (Hd.tup ((st1.same (a30.new _ hn)).Z51 (SqT.of c70)) (hI.same (k00 (a30.new _ hn)))))
 obtain⟨i,j,hds,j1,j2,j3,j4,ex⟩:=M31 h4
 refine⟨i,j,?_,j1,j2,j3,j4,fin i j ex⟩
 rcases hds with ⟨rfl,rfl⟩ | rfl
 ·obtain⟨v,rfl,h5⟩:=hd.one
  cases h5.i20
  rfl
 ·obtain⟨v,w,rfl,h5,h6⟩:=hd.two
  cases h5.i20;cases h6.i20
  rfl
end
theorem x81(val:Nat→Nat)(i:Nat):∀ n,(SS.met val n).testBit i=(range n).any λj=>val j == i
 |0=>Nat.zero_testBit i
 |n + 1=>by
  show(SS.met val n ||| 2 ^ val n).testBit i=_
  rw[Nat.testBit_or,x81 val i n,Nat.testBit_two_pow,range_succ,List.any_append]
  simp
  rfl
theorem j01:∀ {l:List D}{ns:List Nat},I40 l=some ns→l=ns.map (λ(n:Nat)=>D.int n)∧∀ n∈ns,n < 8
 |[],ns,h=>by cases h;exact⟨rfl,λn hn=>by cases hn⟩
 |x::r,ns,h=>by
  cases x with
  |int i =>
   obtain⟨hi,h⟩:=e60 h
   obtain⟨ms,h1,rfl⟩:=Option.map_eq_some_iff.mp h
   obtain⟨e,k⟩:=j01 h1
   refine⟨?_,λn hn=>?_⟩
   ·rw[map_cons,← e,show((i.toNat:Nat):Int)=i from toNat_of_nonneg hi.1]
   ·rcases List.mem_cons.mp hn with rfl | hn
    ·omega
    ·exact k n hn
  |_=>cases h
theorem b92{ns:List Nat}:SS.bts (SS.met (λi=>ns.getD i 0) ns.length)=(range 8).filter λi=>ns.contains i:=by
 unfold SS.bts
 refine filter_congr λi _=>?_
 rw[x81]
 rw[Bool.eq_iff_iff,List.any_eq_true,contains_iff_mem]
 constructor
 ·rintro ⟨j,hj,e⟩
  rw[mem_range] at hj
  rw[← eq_of_beq e,List.getD_eq_getElem?_getD,List.getElem?_eq_getElem hj]
  exact getElem_mem hj
 ·intro h
  obtain⟨j,hj,e⟩:=List.mem_iff_getElem.mp h
  exact⟨j,List.mem_range.mpr hj,by rw[List.getD_eq_getElem?_getD,List.getElem?_eq_getElem hj,← e];exact beq_self_eq_true _⟩
theorem x91{K:PySem.W.Frag}{H:Hp}:∀ {ns:List Nat}{us:List V},HdA K H (ns.map λ(n:Nat)=>D.int n) us→us=ns.map λ(n:Nat)=>V.int n
 |[],_,h=>h.f40
 |n::r,_,h=>by
  obtain⟨y,q,rfl,h1,h2⟩:=HdA.c00 h
  rw[h1.i20,x91 h2];rfl
theorem y01{K:PySem.W.Frag}{H:Hp}:∀ ns:List Nat,HdA K H (ns.map λ(n:Nat)=>D.int n) (ns.map λ(n:Nat)=>V.int n)
 |[]=>.nil
 |n::r=>.cons Hd.int (y01 r)
theorem y11{ns:List Nat}(h:∀ n∈ns,n < 8)(i:Nat):ns.getD i 0 < 8:=by
 rw[List.getD_eq_getElem?_getD]
 cases e:ns[i]? with
 |none=>decide
 |some n=>exact h n (mem_of_getElem? e)
section
variable {lm:Bool}{X:Cx}{G:Gs}{E:XK}{N:List Str}{sc:Scope}
def M41(w:World)(p m:Nat):Heap→Prop:=λh=>SS.A40 w h p m
theorem y21(hc:X.calm=true):f80 X (.type "set") (λxs H Q=>∃ (a:Addr) (ns:List Nat) (us:List V),xs=[.ref a]∧(SqL X.K H a us∨SqT X.K H a us)∧us=ns.map (λ(n:Nat)=>V.int n)∧(∀ n∈ns,n < 8)∧∀ p,H p=none→Q (.ref p) (upd H p (.ext (M41 X.w p (SS.met (λi=>ns.getD i 0) ns.length))))):=by
 intro pins s σ H xs us Q I r h
 obtain⟨a,ns,vs,rfl,hq,rfl,h8,q⟩:=h
 obtain⟨u,rfl,rx⟩:=vals1 r
 cases rx
 have hv:∀ i,(λi=>ns.getD i 0) i < 8:=y11 h8
 have hp:∀ {its:List Value},Vals (ns.map λ(n:Nat)=>V.int n) its→its.toArray.size=ns.length∧∀ (i:Nat) (v:Value),its.toArray[i]?=some v→∃ t,v=.int ((λi=>ns.getD i 0) i:Nat) t:=λ{its} rv=>by
  refine⟨by rw[size_toArray,← rv.length,length_map],λi v e=>?_⟩
  have e:its[i]?=some v:=by simpa using e
  have hi:i < ns.length:=by have:=(List.getElem?_eq_some_iff.mp e).1;rw[← rv.length,length_map] at this;exact this
  obtain⟨w',e1,e2⟩:=rv.get (i:=i) (x:=V.int (ns[i]:Nat)) (by simp[hi])
  rw[e] at e1;cases e1
  obtain⟨t,rfl⟩:=e2
  exact⟨t,by simp[hi]⟩
 have fin:∀ (h':Heap) (tk:Nat),SS.A40 X.w h' s.heap.objs.size (SS.met (λi=>ns.getD i 0) ns.length)→(∀ b u,s.heap.get? b=some u→h'.get? b=some u)→EP X pins σ Q (.ref s.heap.objs.size) { s with heap:=h',toks:=tk }:=λh' tk hS kp=>by
  refine⟨.ref s.heap.objs.size,_,I.laid (t':=tk) (o:=.ext (M41 X.w s.heap.objs.size (SS.met (λi=>ns.getD i 0) ns.length))) kp (Nat.le_refl _) ⟨hS,?_,λh1 h2 p k=>p.keep k⟩,rfl,q _ (I.hok.fresh (Nat.le_refl _))⟩
  obtain⟨o,_,_,ho,_⟩:=hS
  exact⟨o,ho⟩
 rcases hq with hq | hq
 ·obtain⟨its,rv,pl,_⟩:=I.list hq
  obtain⟨o,ho,hcl,n,hd⟩:=pl.isList
  obtain⟨sz,pv⟩:=hp rv
  refine SS.h71 (o:=o) (it:={ cls:=.type "list_iterator",data:=.fields #[.ref a,.int 0 0] }) (n:=its.toArray.size) (St:=λI i h=>h.IsListIter I a i∧h.IsList a its.toArray) (Pv:=λi v=>its.toArray[i]?=some v) (val:=λi=>ns.getD i 0)
   ⟨hcl,F.sub_list_set,F.sub_list_frozenset,by decide,λA E s Q e q=>wpAny_pyIter_list ⟨o,e,hcl,n,hd⟩ q,λA I hh hn=>Walks.list hh I a hn _,λh e=>⟨⟨_,Heap.get?_push_size _ rfl,rfl,rfl⟩,⟨o,Heap.get?_push_of_some _ e,hcl,n,hd⟩⟩⟩ (by exact I.ok.hd hc) ho hv pv λh' tk x kp=>?_
  rw[sz] at x
  exact fin h' tk x kp
 ·obtain⟨its,rv,pl,_⟩:=I.tuple hq
  obtain⟨o,ho,hcl,n,hd⟩:=pl
  obtain⟨sz,pv⟩:=hp rv
  refine SS.h71 (o:=o) (it:={ cls:=.type "tuple_iterator",data:=.fields #[.ref a,.int 0 0] }) (n:=its.toArray.size) (St:=λI i h=>h.IsTupleIter I a i∧h.IsTuple a its.toArray) (Pv:=λi v=>its.toArray[i]?=some v) (val:=λi=>ns.getD i 0)
   ⟨hcl,by rw[isSubtype_type];kernel_rfl,by rw[isSubtype_type];kernel_rfl,by decide,λA E s Q e q=>wpAny_pyIter_tuple ⟨o,e,hcl,n,hd⟩ q,λA I hh hn=>Walks.tuple hh I a hn _,λh e=>⟨⟨_,Heap.get?_push_size _ rfl,rfl,rfl⟩,⟨o,Heap.get?_push_of_some _ e,hcl,n,hd⟩⟩⟩ (by exact I.ok.hd hc) ho hv pv λh' tk x kp=>?_
  rw[sz] at x
  exact fin h' tk x kp
theorem U70(hc:X.calm=true)(hu:X.A.units + 64 < cLine):f80 X (.builtin "sorted") (λxs H Q=>∃ (p:Addr) (m:Nat),xs=[.ref p]∧m < 256∧H p=some (.ext (M41 X.w p m))∧∀ l,H l=none→Q (.ref l) (upd H l (.lst ((SS.bts m).map λ(n:Nat)=>V.int n)))):=by
 intro pins s σ H xs us Q I r h
 obtain⟨p,m,rfl,hm,hp,q⟩:=h
 obtain⟨u,rfl,rx⟩:=vals1 r
 cases rx
 obtain⟨⟨o,ep,g,ho,hx,hd⟩,_⟩:=I.hok p _ hp
 refine SS.o61 (by exact I.ok.hd hc) hu hm ho hx hd λl h' tk c hl kp hD=>?_
 refine⟨.ref l,_,I.laid (t':=tk) (o:=.lst ((SS.bts m).map λ(n:Nat)=>V.int n)) kp hl ⟨?_,_,c,?_,hD⟩,rfl,q _ (I.hok.fresh hl)⟩
 ·rw[length_map,sizeLine_eq]
  have:(SS.bts m).length≤8:=Nat.le_trans (length_filter_le _ _) (by simp)
  omega
 ·clear hD hd
  generalize SS.bts m=l
  induction l with
  |nil=>exact .nil
  |cons n r ih=>exact .cons ⟨_,rfl⟩ ih
theorem s22:bootBuiltins "set"=some (.type "set"):=by decide +kernel
theorem s32(x:XI lm X G E N sc){as:Ex}{e:Expr}{p1 p2 p3 p4:Pos}(h1:glob sc "sorted"=true)(h2:glob sc "set"=true)(hL:isL as=true)(g:Good X G E as [e]):a80 X G E (.bf .sset as) (.Call (.Name "sorted" p1) [.Call (.Name "set" p2) [e] [] p3] [] p4):=by
 obtain⟨k1,k2,k3⟩:=d60 h1
 obtain⟨j1,j2,j3⟩:=d60 h2
 obtain⟨ha,hs⟩:=g.args hL
 rw[all_cons,and_eq_true] at hs
 refine a90 (PE.imp (B00 (U70 x.calm x.room.units) (x.glb _ k1) (x.blt _ (by decide)) U60 (j80 (R90 (y21 x.calm) (x.glb _ j1) (x.blt _ (by decide)) s22 ha j3 j2 (c50 hs.1 [] X.env) (r30 X.env p3 hs.2)) C80) k3 k2) λσ H Q q=>?_) rfl
 obtain⟨zA,ρ,z,rr,rel,st,ee,po⟩:=q
 refine c31 rel st ee (f90 po) λl z1 e1 vs H1 x1 st1 rvs=>?_
 obtain⟨ds,hd,e2⟩:=M.a10 e1
 obtain⟨s,hs',e3⟩:=M.a10 e2
 cases e3
 have hds:=H40 rvs hd
 match ds,hs' with
 |[d],hs' =>
  obtain⟨l,hl,hs'⟩:=Option.bind_eq_some_iff.mp hs'
  obtain⟨ns,hn,rfl⟩:=Option.map_eq_some_iff.mp hs'
  obtain⟨rfl,h8⟩:=j01 hn
  obtain⟨v,rfl,hv⟩:=hds.one
  obtain⟨a,us,rfl,hq,hd'⟩:∃ a us,v=.ref a∧(SqL X.K H1 a us∨SqT X.K H1 a us)∧HdA X.K (hz zA H1) (ns.map λ(n:Nat)=>D.int n) us:=by
   cases d with
   |tup m =>
    cases hl
    obtain⟨a,xs,rfl,m1,m2⟩:=hv.B30
    exact⟨a,xs,rfl,.inr ((a20 zA H1).sqT m1),m2⟩
   |lst m =>
    cases hl
    obtain⟨a,xs,rfl,m1,m2⟩:=hv.b31
    exact⟨a,xs,rfl,.inl (m1.same (a20 zA H1)).sq,m2⟩
   |_=>cases hl
  refine⟨a,ns,us,rfl,hq,x91 hd',h8,λp hp=>⟨p,_,rfl,SS.v01 (y11 h8) _,c70,λl hl=>?_⟩⟩
  have sm:a30 H1 (upd H1 p (.ext (M41 X.w p (SS.met (λi=>ns.getD i 0) ns.length)))):=a30.new _ hp
  rw[b92]
  exact f60 po x1 st1 _ _ (a30.trans sm (a30.new _ hl)) ((s50 (st1.same sm) (y01 _) hl).from (Ext.of sm))
def tPO(K:PySem.W.Frag)(G:Gs)(E:XK)(x:Ex):TO:=λσ H Q=>∃ zA ρ z r,B50 K zA H ρ σ∧e50 zA z H∧ev G.F x ρ z=some r∧(match r with
 |.ok l z'=>∃ o,w01 l=some o∧∀ H',Ext zA H H'→e50 zA z' H'→Q o H'
 |.er c z'=>EPost G zA E c z' H)
theorem s42(hL:isL x=true)(g:Good X G E x e.toList):PO X e (tPO X.K G E x):=by
 cases e with
 |none =>
  cases x with
  |nil =>
   refine λpins s σ H Q I q=>V61 pins s σ H Q I ?_
   obtain⟨zA,ρ,z,r,rel,st,e,po⟩:=q
   cases e
   obtain⟨o,e',po⟩:=po
   cases e'
   exact po H Ext.refl st
  |cons a r=>obtain⟨e,es,h,_⟩:=g;cases h
  |_=>cases hL
 |some e =>
  cases x with
  |nil=>cases (show [e]=[] from g)
  |cons a r =>
   obtain⟨e',es,h,ns,ga,lr,gr⟩:=g
   cases h
   refine λpins s σ H Q I q=>V71 ga.pe pins s σ H Q I ?_
   obtain⟨zA,ρ,z,rr,rel,st,e,po⟩:=q
   have her:∀ c z1,rr=.er c z1→EPost G zA E c z1 H:=λc z1 e=>by subst e;exact po
   have rn:r=.nil:=by
    cases r with
    |nil=>rfl
    |cons b q=>obtain⟨e,es,h,_⟩:=gr;cases h
    |_=>cases lr
   subst rn
   refine l40 rel st e her λl z1 e1=>?_
   obtain⟨s,hs,e2⟩:=M.a10 e1
   cases e2
   obtain⟨o,e',po⟩:=po
   refine⟨s,E60 hs,λv H1 x1 st1 rv=>?_⟩
   cases s with
   |d y =>
    cases y with
    |int i =>
     cases e'
     exact⟨i,Hd.i20 (show Hd X.K (hz zA H1) (.int i) v from rv),po H1 x1 st1⟩
    |_=>cases e'
   |fr ys=>cases e'
   |z=>cases e'
  |_=>cases hL
theorem S32{a lo hi:Ex}{v:Expr}{l h:Option Expr}{p pos:Pos}(ga:a80 X G E a v)(hl:isL lo=true)(hh:isL hi=true)(gl:Good X G E lo l.toList)(gh:Good X G E hi h.toList):a80 X G E (.sl a lo hi) (.Subscript v (.Slice l h none p) pos):=by
 refine a90 (PE.imp (H71 R22 ga.pe (s42 hl gl) (s42 hh gh)) λσ H Q q=>?_) rfl
 obtain⟨zA,ρ,z,rr,rel,st,e,po⟩:=q
 refine l40 rel st e (f90 po) λm z1 e1=>?_
 obtain⟨dx,p1,e2⟩:=M.a10 e1
 obtain⟨s1,rfl,q1⟩:=g70 p1
 refine⟨s1,rfl,λw H1 x1 st1 rv=>?_⟩
 rcases M.bind_some e2 with ⟨u,z2,e3,e4⟩ | ⟨c,z2,e3,e4⟩
 ·obtain⟨o,ho,e5⟩:=M.a10 e4
  refine⟨zA,ρ,z1,_,rel.mono x1,st1,e3,o,ho,λH2 x2 st2=>?_⟩
  rcases M.bind_some e5 with ⟨u',z3,e6,e7⟩ | ⟨c,z3,e6,e7⟩
  ·obtain⟨o',ho',e8⟩:=M.a10 e7
   refine⟨zA,ρ,z2,_,(rel.mono x1).mono x2,st2,e6,o',ho',λH3 x3 st3=>?_⟩
   obtain⟨s,hs,e9⟩:=M.a10 e8
   cases e9
   exact⟨zA,z3,dx,s,st3,((rv.pl.mono (x2.trans x3)).d_ q1),hs,f60 po ((x1.trans x2).trans x3) st3⟩
  ·exact⟨zA,ρ,z2,_,(rel.mono x1).mono x2,st2,e6,((f90 po) c z3 e7).mono (x1.trans x2)⟩
 ·exact⟨zA,ρ,z1,_,rel.mono x1,st1,e3,((f90 po) c z2 e4).mono x1⟩
theorem s52:∀ {x:Ex}{es:List Expr}{z z1:Z}{l:List S},isL x=true→Good X G E x es→ev G.F x ρ z=some (.ok l z1)→l.length=es.length:=by
 intro x
 induction x with
 |nil =>
  intro es z z1 l _ h e
  have h:es=[]:=h
  subst h
  cases e
  rfl
 |cons a r _ ih =>
  intro es z z1 l _ h e
  obtain⟨e',es',rfl,ns,g,lr,gr⟩:=h
  rcases M.bind_some e with ⟨m,z2,e1,e2⟩ | ⟨c,z2,e1,e2⟩
  ·obtain⟨s,hs,e3⟩:=M.a10 e2
   rcases M.bind_some e3 with ⟨m',z3,e4,e5⟩ | ⟨c,z3,e4,e5⟩
   ·cases e5
    rw[length_cons,length_cons,ih lr gr e4]
   ·cases e5
  ·cases e2
 |_=>intro es z z1 l h;cases h
theorem s_call(x:XI lm X G E N sc){f:Nat}{as:Ex}{n:Str}{ps:List Str}{e:Expr}{l:List Expr}{p pos:Pos}(hf:G.fns[f]?=some (n,ps))(hl:ps.length=l.length + 1)(hg:glob sc n=true)(hL:isL as=true)(g:Good X G E as (e::l)) :
  a80 X G E (.call f as) (.Call (.Name n p) (e::l) [] pos):=by
 obtain⟨k1,k2,k3⟩:=d60 hg
 obtain⟨fa,fd,m1,m2,m3,F⟩:=x.gok f n ps hf
 obtain⟨ha,hs⟩:=g.args hL
 rw[all_cons,and_eq_true] at hs
 refine a90 (PE.imp (V31 F x.room (x.glb n k1) m1 m2 m3 .nil x.pas ha k2 (c50 hs.1 l X.env) (r30 X.env pos hs.2)) λσ H Q q=>?_) rfl
 obtain⟨zA,ρ,z,rr,rel,st,e,po⟩:=q
 have e0:M.bind (ev G.F as ρ) (λl=>M.bind (G.F false f (l.map plS)) λs=>M.ret [s]) z=some rr:=e
 rcases M.bind_some e0 with ⟨m,z1,e1,e2⟩ | ⟨c,z1,e1,e2⟩
 ·refine⟨zA,ρ,z,_,rel,st,e1,λvs H1 x1 st1 rvs=>?_⟩
  have hv:vs.length=ps.length:=by rw[← rvs.length,s52 hL g e1,hl];rfl
  show spF X.K G f ps.length (vs++[]) H1 Q E
  rw[append_nil]
  refine⟨hv,zA,z1,m.map plS,?_⟩
  have ra:RvA X.K zA H1 (m.map plS) vs:=RvA.plS (Paired.h32 rvs λ_ _ q=>q.pl)
  rcases M.bind_some e2 with ⟨s,z2,e3,e4⟩ | ⟨c,z2,e3,e4⟩
  ·cases e4
   refine⟨_,ra,st1,e3,λv H2 x2 st2 rv=>?_⟩
   obtain⟨s',e',po⟩:=po
   cases e'
   exact po v H2 (x1.trans x2) st2 (rv.from x1)
  ·exact⟨_,ra,st1,e3,((f90 po) c z2 e4).mono x1⟩
 ·exact⟨zA,ρ,z,_,rel,st,e1,(f90 po) c z1 e2⟩
def y22:Pat→Nat
 |.nil=>0
 |.cons _ r=>y22 r + 1
 |_=>0
mutual
noncomputable def gP(K:PySem.W.Frag):Pat→TG
 |.v i=>m51 i
 |.tup ps=>J62 K (y22 ps) (gL K ps)
 |.nil=>λ_ _ _ _=>False
 |.cons _ _=>λ_ _ _ _=>False
noncomputable def gL(K:PySem.W.Frag):Pat→TGs
 |.nil=>J52
 |.cons p r=>k22 (gP K p) (gL K r)
 |.v _=>λ_ _ _ _=>False
 |.tup _=>λ_ _ _ _=>False
end
end
end Q
namespace Q
open PySem L2 PySem.Spec PyProof.Rows
variable [TB:Tb]
theorem S21(h:noStar e=true)(es:List Expr)(env:PySem.Env):assignEach (e::es) env=(false,assign e env)::assignEach es env:=by
 cases e <;> first | rfl | cases h
structure M51(X:Cx)(N:List Str)(loc:Str→Bool):Prop where
 hN:X.N=N
 nd:N.Nodup
 lc:∀ x,loc x=true→Loc X.env.scope x
 fn:∀ x,loc x=true→(X.fn x=true∨X.env.scope.names.lookup x=some .local)
 calm:X.calm=true
theorem I60:∀ {es:List Expr} (env:PySem.Env),es.all noStar=true→(assignEach es env).length=es.length∧(assignEach es env).findIdx? (·.1)=none
 |[],_,_=>⟨rfl,rfl⟩
 |e::es,env,h=>by
  rw[all_cons,and_eq_true] at h
  obtain⟨h1,h2⟩:=I60 env h.2
  rw[S21 h.1]
  refine⟨by rw[length_cons,length_cons,h1],?_⟩
  rw[List.findIdx?_cons,h2];rfl
theorem j11:∀ {r:Pat}{es:List Expr},o71 N loc r es=true→es.length=y22 r∧es.all noStar=true
 |.nil,es,h=>by
  unfold o71 at h
  have:es=[]:=List.isEmpty_iff.mp h
  subst this
  exact⟨rfl,rfl⟩
 |.cons p r,es,h=>by
  unfold o71 at h
  cases es with
  |nil=>cases h
  |cons e es =>
   rw[and_eq_true,and_eq_true] at h
   obtain⟨h1,h2⟩:=j11 (r:=r) h.2
   exact⟨by rw[length_cons,h1];rfl,by rw[all_cons,h.1.1,h2];rfl⟩
 |.v _,_,h=>by unfold o71 at h;cases h
 |.tup _,_,h=>by unfold o71 at h;cases h
mutual
theorem y31(L:M51 X N loc):∀ {p:Pat}{e:Expr},j40 N loc p e=true→PG X e (gP X.K p)
 |.v i,e,h=>by
  unfold j40 at h
  cases e with
  |Name x pos =>
   rw[and_eq_true,beq_iff_eq] at h
   unfold gP
   exact U71 (by rw[L.hN];exact L.nd) (by rw[L.hN];exact h.1) (L.lc x h.2) (L.fn x h.2)
  |_=>cases h
 |.tup ps,e,h=>by
  unfold j40 at h
  cases e with
  |Tuple es k pos =>
   obtain⟨h1,h2⟩:=j11 h
   obtain⟨h3,h4⟩:=I60 X.env h2
   unfold gP
   exact k32 L.calm (S31 L h) (by rw[h3,h1]) h4
  |_=>cases h
 |.nil,e,h=>by unfold j40 at h;cases h
 |.cons _ _,e,h=>by unfold j40 at h;cases h
theorem S31(L:M51 X N loc):∀ {r:Pat}{es:List Expr},o71 N loc r es=true→PGs X es (gL X.K r)
 |.nil,es,h=>by
  unfold o71 at h
  have:es=[]:=List.isEmpty_iff.mp h
  subst this
  unfold gL
  exact U81
 |.cons p r,es,h=>by
  unfold o71 at h
  cases es with
  |nil=>cases h
  |cons e es =>
   rw[and_eq_true,and_eq_true] at h
   unfold gL
   exact H01 (y31 L h.1.2) (S31 L h.2) (by rw[S21 h.1.1];rfl)
 |.v _,_,h=>by unfold o71 at h;cases h
 |.tup _,_,h=>by unfold o71 at h;cases h
end
section
variable {K:PySem.W.Frag}{zA:Option Addr}{H:Hp}
theorem B50.set{ρ:Env}{σ:L2.St}{i:Nat}{s:S}{v:V}(h:B50 K zA H ρ σ)(hl:ρ.length=σ.length)(r:RvP K zA H s v):B50 K zA H (ρ.set i (some s)) (σ.set i (some v)):=by
 intro j t e
 by_cases hj:j=i
 ·subst hj
  have hlt:j < ρ.length:=by
   have:=(List.getElem?_eq_some_iff.mp e).1
   simpa using this
  rw[List.getElem?_set_self hlt] at e
  cases e
  exact⟨v,List.getElem?_set_self (by rw[← hl];exact hlt),r⟩
 ·rw[List.getElem?_set_ne (Ne.symm hj)] at e
  obtain⟨w,h1,h2⟩:=h j t e
  exact⟨w,by rw[List.getElem?_set_ne (Ne.symm hj)];exact h1,h2⟩
theorem E70:∀ {r:Pat}{l:List D}{ρ ρ':Env},bindL r l ρ=some ρ'→l.length=y22 r
 |.nil,l,ρ,ρ',e=>by
  unfold bindL at e
  cases l with
  |nil=>rfl
  |cons x l=>cases e
 |.cons p r,l,ρ,ρ',e=>by
  unfold bindL at e
  cases l with
  |nil=>cases e
  |cons x l =>
   obtain⟨ρ1,e1,e2⟩:=Option.bind_eq_some_iff.mp e
   rw[length_cons,E70 e2];rfl
 |.v _,_,_,_,e=>by unfold bindL at e;cases e
 |.tup _,_,_,_,e=>by unfold bindL at e;cases e
mutual
theorem y41:∀ {p:Pat}{d:D}{ρ ρ':Env},f20 p d ρ=some ρ'→∀ {σ:L2.St}{v:V}{R:L2.St→Hp→Prop},B50 K zA H ρ σ→ρ.length=σ.length→Hd K (hz zA H) d v →
  (∀ σ',B50 K zA H ρ' σ'→ρ'.length=σ'.length→R σ' H)→gP K p v σ H R
 |.v i,d,ρ,ρ',e,σ,v,R,rel,hl,hd,k=>by
  unfold f20 at e
  cases e
  unfold gP
  exact k _ (rel.set hl (show RvP K zA H (.d d) v from hd)) (by rw[length_set,length_set,hl])
 |.tup ps,d,ρ,ρ',e,σ,v,R,rel,hl,hd,k=>by
  unfold f20 at e
  cases d with
  |tup l =>
   obtain⟨a,xs,rfl,h1,h2⟩:=hd.B30
   unfold gP
   exact⟨a,xs,rfl,(a20 zA H).sqT h1,by rw[h2.length];exact E70 e,j21 e rel hl h2 k⟩
  |_=>cases e
 |.nil,_,_,_,e,_,_,_,_,_,_,_=>by unfold f20 at e;cases e
 |.cons _ _,_,_,_,e,_,_,_,_,_,_,_=>by unfold f20 at e;cases e
theorem j21:∀ {r:Pat}{l:List D}{ρ ρ':Env},bindL r l ρ=some ρ'→∀ {σ:L2.St}{vs:List V}{R:L2.St→Hp→Prop},B50 K zA H ρ σ→ρ.length=σ.length→HdA K (hz zA H) l vs →
  (∀ σ',B50 K zA H ρ' σ'→ρ'.length=σ'.length→R σ' H)→gL K r vs σ H R
 |.nil,l,ρ,ρ',e,σ,vs,R,rel,hl,hd,k=>by
  unfold bindL at e
  cases l with
  |nil =>
   cases e
   unfold gL
   exact⟨hd.f40,k σ rel hl⟩
  |cons x l=>cases e
 |.cons p r,l,ρ,ρ',e,σ,vs,R,rel,hl,hd,k=>by
  unfold bindL at e
  cases l with
  |nil=>cases e
  |cons x l =>
   obtain⟨ρ1,e1,e2⟩:=Option.bind_eq_some_iff.mp e
   obtain⟨v,ws,rfl,h1,h2⟩:=hd.c00
   unfold gL
   exact⟨v,ws,rfl,y41 e1 rel hl h1 λσ' r' l'=>j21 e2 r' l' h2 k⟩
 |.v _,_,_,_,e,_,_,_,_,_,_,_=>by unfold bindL at e;cases e
 |.tup _,_,_,_,e,_,_,_,_,_,_,_=>by unfold bindL at e;cases e
end
end
end Q
namespace Q
open PySem L2 PySem.Spec PyProof.Rows
variable [TB:Tb]
structure G02(K:PySem.W.Frag)(zA:Option Addr)(J:L2.It)(xs:List D)(H1:Hp):Prop where
 go:∀ i H,Ext zA H1 H→i < xs.length→J.go i H
 yld:∀ i H x H' z d,Ext zA H1 H→e50 zA z H→J.yld i H x H'→xs[i]?=some d→a30 H H'∧Hd K (hz zA H') d x
 stop:∀ H,Ext zA H1 H→J.stop xs.length H
structure ItB(K:PySem.W.Frag)(J:L2.It)(xs:List D)(B:Hp):Prop where
 go:∀ i H,a30 B H→i < xs.length→J.go i H
 yld:∀ i H x H' zA z d,a30 B (hz zA H)→e50 zA z H→J.yld i H x H'→xs[i]?=some d→a30 H H'∧∀ C,a30 B C→(∀ a ys,SqT K (hz zA H') a ys→SqT K C a ys)→Hd K C d x
 stop:∀ H,a30 B H→J.stop xs.length H
section
variable {K:PySem.W.Frag}{B:Hp}
theorem ItB.ok(h:ItB K J xs (hz zA H1)):G02 K zA J xs H1 :=
 ⟨λi H x=>h.go i H (a30.trans x (a20 zA H)),λi H x H' z d e st y k=>let ⟨s,f⟩:=h.yld i H x H' zA z d e st y k;⟨s,f _ (a30.trans e (k00 s)) λ_ _ q=>q⟩,λH x=>h.stop H (a30.trans x (a20 zA H))⟩
theorem j31(h:r90 K B a ys)(r:HdA K B xs ys):ItB K (Itl K a) xs B where
 go:=λi H x hi=>⟨ys,ys[i]'(by rw[r.length];exact hi),(h.same x).sq,by simp⟩
 yld:=λi H v H' zA z d x st y e=>by
  obtain⟨rfl,y⟩:=y
  have y1:=y ys ((h.same x).same (a20 zA _)).sq
  obtain⟨w,e1,e2⟩:=r.get e
  rw[y1] at e1;cases e1
  exact⟨a30.refl _,λC c _=>e2.same c⟩
 stop:=λH x=>⟨ys,(h.same x).sq,by rw[r.length];exact Nat.le_refl _⟩
theorem y51(h:SqT K B a ys)(r:HdA K B xs ys):ItB K (Itt K a) xs B where
 go:=λi H x hi=>⟨ys,ys[i]'(by rw[r.length];exact hi),a30.sqT x h,by simp⟩
 yld:=λi H v H' zA z d x st y e=>by
  obtain⟨rfl,y⟩:=y
  have y1:=y ys ((a20 zA _).sqT (a30.sqT x h))
  obtain⟨w,e1,e2⟩:=r.get e
  rw[y1] at e1;cases e1
  exact⟨a30.refl _,λC c _=>e2.same c⟩
 stop:=λH x=>⟨ys,a30.sqT x h,by rw[r.length];exact Nat.le_refl _⟩
theorem y61(lo:Int)(n:Nat):ItB K (Itr lo n) ((range n).map λ(k:Nat)=>D.int (lo + k)) B where
 go:=λi H x hi=>by show i < n;simpa using hi
 yld:=λi H v H' zA z d x st y e=>by
  obtain⟨rfl,rfl⟩:=y
  rw[List.getElem?_map] at e
  obtain⟨k,e1,rfl⟩:=Option.map_eq_some_iff.mp e
  obtain⟨h1,h2⟩:=List.getElem?_eq_some_iff.mp e1
  rw[List.getElem_range] at h2
  subst h2
  exact⟨a30.refl _,λ_ _ _=>Hd.int⟩
 stop:=λH x=>by show n≤_;simp
end
section
variable {K:PySem.W.Frag}{zA:Option Addr}{H1:Hp}
theorem zip_get:∀ {a b:List D}{i:Nat}{d:D},(B20 a b)[i]?=some d→∃ x y,a[i]?=some x∧b[i]?=some y∧d=.tup [x,y]
 |[],_,_,_,e=>by simp[B20] at e
 |_::_,[],_,_,e=>by simp[B20] at e
 |x::r,y::q,0,d,e=>by simp[B20] at e;exact⟨x,y,rfl,rfl,e.symm⟩
 |x::r,y::q,i + 1,d,e=>by
  obtain⟨u,v,h1,h2,h3⟩:=zip_get (a:=r) (b:=q) (i:=i) (by simpa [B20] using e)
  exact⟨u,v,by simpa using h1,by simpa using h2,h3⟩
theorem c71:∀ (a b:List D),(B20 a b).length=min a.length b.length
 |[],_=>by simp[B20]
 |_::_,[]=>by simp[B20]
 |x::r,y::q=>by simp only[B20,length_cons,c71 r q];omega
theorem y71{B:Hp}{bb:Bool}{a b:Addr}{xs ys:List D}{us ws:List V}(h:∀ H,a30 B H→SqB bb K H a us)(r:HdA K B xs us)(h':∀ H,a30 B H→SqB bb K H b ws)(r':HdA K B ys ws):ItB K (Itz bb K a b) (B20 xs ys) B where
 go:=λi H x hi=>by
  rw[c71] at hi
  exact⟨us,ws,us[i]'(by rw[r.length];omega),ws[i]'(by rw[r'.length];omega),h H x,h' H x,by simp,by simp⟩
 yld:=λi H v H' zA z d x st y e=>by
  obtain⟨T,rfl,hT,y⟩:=y
  obtain⟨d1,d2,e1,e2,rfl⟩:=zip_get e
  obtain⟨w1,f1,g1⟩:=r.get e1
  obtain⟨w2,f2,g2⟩:=r'.get e2
  have y1:=y us ws w1 w2 (h H (a30.trans x (a20 zA H))) (h' H (a30.trans x (a20 zA H))) f1 f2
  subst y1
  have sm:a30 H (upd H T (.tup [w1,w2])):=a30.new _ hT
  exact⟨sm,λC c t=>Hd.tup (t _ _ ((st.same sm).Z51 (SqT.of c70))) (.cons (g1.same c) (.cons (g2.same c) .nil))⟩
 stop:=λH x=>⟨us,ws,h H x,h' H x,by rw[c71,r.length,r'.length];omega⟩
end
def PX(P:D→Prop):D→Prop
 |.tup l=>∀ y∈l,P y
 |.lst l=>∀ y∈l,P y
 |_=>True
def ItX(K:PySem.W.Frag)(zA:Option Addr)(H H':Hp)(l:List S)(J:L2.It)(xs:List D):Prop :=
 ∀ (P:D→Prop) (B:Hp),a30 B (hz zA H')→(∀ a ys,SqT K (hz zA H') a ys→SqT K B a ys)→(∀ d v,P d→Hd K (hz zA H') d v→Hd K B d v)→(∀ ds,plA l=some ds→∀ d∈ds,PX P d) →
  (∀ a ys,r90 K (hz zA H') a ys→((H a=none∧H' a=some (.lst ys))∨o21 l=true)→r90 K B a ys)→ItB K J xs B
theorem HdA.move{K:PySem.W.Frag}{H B:Hp}{P:D→Prop}(mv:∀ d v,P d→Hd K H d v→Hd K B d v):∀ {ds:List D}{vs:List V},(∀ y∈ds,P y)→HdA K H ds vs→HdA K B ds vs
 |[],_,_,h=>by rw[h.f40];exact .nil
 |d::ds,_,p,h=>by
  obtain⟨x,r,rfl,h1,h2⟩:=h.c00
  exact .cons (mv d x (p d mem_cons_self) h1) (HdA.move mv (λy hy=>p y (mem_cons_of_mem _ hy)) h2)
theorem ItX.ok{K:PySem.W.Frag}{zA:Option Addr}{H H':Hp}{l:List S}{J:L2.It}{xs:List D}(h:ItX K zA H H' l J xs):G02 K zA J xs H':=by
 refine(h (λ_=>True) (hz zA H') (a30.refl _) (λ_ _ q=>q) (λ_ _ _ q=>q) (λds _ d _=>?_) λ_ _ q _=>q).ok
 cases d <;> first | trivial | exact λ_ _=>trivial
def tIt(K:PySem.W.Frag)(G:Gs)(E:XK)(it:It)(src:Ex):TI:=λσ H R=>∃ zA ρ z r,B50 K zA H ρ σ∧e50 zA z H∧ev G.F src ρ z=some r∧(match r with
 |.ok l z'=>∃ xs,(plA l).bind (itD it)=some xs∧∀ J H',Ext zA H H'→e50 zA z' H'→ItX K zA H H' l J xs→R J H'
 |.er c z'=>EPost G zA E c z' H)
section
variable {lm:Bool}{X:Cx}{G:Gs}{E:XK}{N:List Str}{sc:Scope}
theorem s62{zA:Option Addr}{H:Hp}{it:It}{P:L2.It→Hp→Prop}{r:R (List S)}(po:(match r with | .ok l z'=>∃ xs,(plA l).bind (itD it)=some xs∧∀ J H',Ext zA H H'→e50 zA z' H'→ItX X.K zA H H' l J xs→P J H' | .er c z'=>EPost G zA E c z' H)):∀ c z1,r=.er c z1→EPost G zA E c z1 H:=λc z1 e=>by subst e;exact po
theorem y81{s:S}{ds:List D}(h:plA [s]=some ds):∃ d,ds=[d]∧plD s=some d:=by
 cases s with
 |d x=>cases h;exact⟨x,rfl,rfl⟩
 |fr xs=>cases h;exact⟨_,rfl,rfl⟩
 |z=>cases h
theorem S41{tg e:Expr}{a:Ex}(g:a80 X G E a e):PI X tg e (tIt X.K G E .seq (.cons a .nil)):=by
 intro pins s σ H R I q
 obtain⟨zA,ρ,z,rr,rel,st,ee,po⟩:=q
 have e0:M.bind (ev G.F a ρ) (λx=>M.bind (M.of (one x)) λs=>M.bind (ev G.F .nil ρ) λy=>M.ret (s::y)) z=some rr:=ee
 rcases M.bind_some e0 with ⟨m,z1,e1,e2⟩ | ⟨c,z1,e1,e2⟩
 ·obtain⟨t,ht,e3⟩:=M.a10 e2
  cases e3
  have hm:=E60 ht
  subst hm
  obtain⟨xs,hx,po⟩:=po
  obtain⟨ds,h1,h2⟩:=Option.bind_eq_some_iff.mp hx
  obtain⟨d,rfl,h3⟩:=y81 h1
  cases d with
  |tup l =>
   cases h2
   refine Q01 g.pe pins s σ H R I ⟨zA,ρ,z,_,rel,st,e1,t,rfl,λv H1 x1 st1 rv=>?_⟩
   obtain⟨b,ys,rfl,k1,k2⟩:=(rv.pl.d_ h3).B30
   exact⟨b,rfl,⟨ys,(a20 zA H1).sqT k1⟩,po _ H1 x1 st1 λP B sub tup mv pa sf=>y51 (tup _ _ k1) (HdA.move mv (show ∀ y∈xs,P y from pa _ h1 _ mem_cons_self) k2)⟩
  |lst l =>
   cases h2
   refine Z60 g.pe pins s σ H R I ⟨zA,ρ,z,_,rel,st,e1,t,rfl,λv H1 x1 st1 rv=>?_⟩
   have fin:∀ {b:Addr}{ys:List V},r90 X.K (hz zA H1) b ys→HdA X.K (hz zA H1) xs ys→((H b=none∧H1 b=some (.lst ys))∨o21 [t]=true)→∃ a,V.ref b=.ref a∧(∃ xs,SqL X.K H1 a xs)∧R (Itl X.K a) H1:=λ{b ys} k1 k2 k5=>by
    exact⟨b,rfl,⟨ys,(k1.same (a20 zA H1)).sq⟩,po _ H1 x1 st1 λP B sub tup mv pa sf=>j31 (sf _ _ k1 k5) (HdA.move mv (show ∀ y∈xs,P y from pa _ h1 _ mem_cons_self) k2)⟩
   cases t with
   |z=>cases h3
   |d x =>
    cases h3
    obtain⟨b,ys,rfl,k1,k2⟩:=Hd.b31 (show Hd X.K (hz zA H1) (.lst xs) v from rv)
    exact fin k1 k2 (.inr rfl)
   |fr x =>
    cases h3
    obtain⟨b,ys,rfl,k0,k1,k2,k3⟩:=rv
    exact fin (r90.of (d90 k2 k1)) (k3.same (f10 b _)) (.inl ⟨k0,k2⟩)
  |_=>cases h2
 ·exact Z60 g.pe pins s σ H R I ⟨zA,ρ,z,_,rel,st,e1,(s62 po) c z1 e2⟩
theorem M90{l:List S}{it:It}{xs:List D}(h:(plA l).bind (itD it)=some xs):∃ ds,plA l=some ds∧itD it ds=some xs:=Option.bind_eq_some_iff.mp h
theorem y91(x:XI lm X G E N sc){tg a:Expr}{as:Ex}{n:Str}{p pos:Pos}(hn:n="range")(hg:glob sc n=true)(hL:isL as=true)(g:Good X G E as [a]):PI X tg (.Call (.Name n p) [a] [] pos) (tIt X.K G E .rng1 as):=by
 subst hn
 obtain⟨k1,k2,k3⟩:=d60 hg
 obtain⟨ha,hs⟩:=g.args hL
 rw[all_cons,and_eq_true] at hs
 intro pins s σ H R I q
 refine r31 (x.glb _ k1) (x.blt _ (by decide)) ha (c50 hs.1 [] X.env) pins s σ H R I ?_
 obtain⟨zA,ρ,z,rr,rel,st,ee,po⟩:=q
 refine⟨zA,ρ,z,rr,rel,st,ee,?_⟩
 cases rr with
 |er c z1=>exact po
 |ok l z1 =>
  obtain⟨xs,hx,po⟩:=po
  intro vs H1 x1 st1 rvs
  obtain⟨ds,h1,h2⟩:=M90 hx
  have hd:=H40 rvs h1
  match ds,h2 with
  |[.int j],h2 =>
   obtain⟨hj,h2⟩:=e60 h2
   have hj:=E10.mp hj
   cases h2
   obtain⟨v,rfl,h3⟩:=hd.one
   cases h3.i20
   refine⟨j,rfl,by omega,by omega,po _ H1 x1 st1 λP B sub tup mv pa sf=>?_⟩
   have:=y61 (K:=X.K) (B:=B) 0 j.toNat
   simpa using this
theorem z01(x:XI lm X G E N sc){tg a b:Expr}{as:Ex}{n:Str}{p pos:Pos}(hn:n="range")(hg:glob sc n=true)(hL:isL as=true)(g:Good X G E as [a,b]):PI X tg (.Call (.Name n p) [a,b] [] pos) (tIt X.K G E .rng2 as):=by
 subst hn
 obtain⟨k1,k2,k3⟩:=d60 hg
 obtain⟨ha,hs⟩:=g.args hL
 rw[all_cons,all_cons,and_eq_true,and_eq_true] at hs
 intro pins s σ H R I q
 refine r41 (x.glb _ k1) (x.blt _ (by decide)) ha (by rw[c50 hs.1,c50 hs.2.1];rfl) (c50 hs.2.1 [] X.env) pins s σ H R I ?_
 obtain⟨zA,ρ,z,rr,rel,st,ee,po⟩:=q
 refine⟨zA,ρ,z,rr,rel,st,ee,?_⟩
 cases rr with
 |er c z1=>exact po
 |ok l z1 =>
  obtain⟨xs,hx,po⟩:=po
  intro vs H1 x1 st1 rvs
  obtain⟨ds,h1,h2⟩:=M90 hx
  have hd:=H40 rvs h1
  match ds,h2 with
  |[.int i,.int j],h2 =>
   obtain⟨hj,h2⟩:=e60 h2
   have hi:=E10.mp hj.1
   have hj:=E10.mp hj.2
   cases h2
   obtain⟨v,w,rfl,h3,h4⟩:=hd.two
   cases h3.i20;cases h4.i20
   exact⟨i,j,rfl,by omega,po _ H1 x1 st1 λP B sub tup mv pa sf=>y61 i (j - i).toNat⟩
theorem c02{l:List S}{x y:D}(h:plA l=some [x,y]):∃ s t,l=[s,t]∧plD s=some x∧plD t=some y:=by
 match l,h with
 |[s,t],h=>exact⟨s,t,rfl,by cases s <;> cases t <;> first | (cases h;exact⟨rfl,rfl⟩) | (cases h;done)⟩
 |[],h=>cases h
 |[s],h=>cases s <;> cases h
 |s::t::u::r,h=>exfalso;cases s <;> cases t <;> cases u <;> first | (cases h;done) | (simp only[plA,Option.map_map,map_eq_some_iff] at h;obtain⟨_,_,h⟩:=h;cases h)
theorem M61{s t:S}(h:o21 [s]=true):o21 [s,t]=true:=by
 match s,h with
 |.d (.lst _),_=>rfl
theorem M71{s t:S}(h:o21 [t]=true):o21 [s,t]=true:=by
 match s with
 |.d (.lst _)=>rfl
 |.d .non | .d (.bl _) | .d (.int _) | .d (.str _) | .d (.tup _) | .d .dct | .fr _ | .z=>exact h
theorem z11{K:PySem.W.Frag}{zA:Option Addr}{H H1:Hp}{t:S}{v:V}{a:List D}(rv:RvS K zA H H1 t v)(h:plD t=some (.lst a)):∃ b ys,v=.ref b∧r90 K (hz zA H1) b ys∧HdA K (hz zA H1) a ys∧((H b=none∧H1 b=some (.lst ys))∨o21 [t]=true):=by
 cases t with
 |d x =>
  cases h
  obtain⟨b,ys,rfl,k1,k2⟩:=Hd.b31 (show Hd K (hz zA H1) (.lst a) _ from rv)
  exact⟨b,ys,rfl,k1,k2,.inr rfl⟩
 |fr x =>
  cases h
  obtain⟨b,ys,rfl,k0,k1,k2,k3⟩:=rv
  exact⟨b,ys,rfl,r90.of (d90 k2 k1),k3.same (f10 b _),.inl ⟨k0,k2⟩⟩
 |z=>cases h
theorem z21(x:XI lm X G E N sc){tg a b:Expr}{as:Ex}{n:Str}{p pos:Pos}(ht:n40 tg=true)(hn:n="zip")(hg:glob sc n=true)(hL:isL as=true)(g:Good X G E as [a,b]):PI X tg (.Call (.Name n p) [a,b] [] pos) (tIt X.K G E .zip as):=by
 subst hn
 obtain⟨k1,k2,k3⟩:=d60 hg
 obtain⟨ha,hs⟩:=g.args hL
 rw[all_cons,all_cons,and_eq_true,and_eq_true] at hs
 cases tg with
 |Tuple es ek ep =>
  intro pins s σ H R I q
  refine m42 (x.glb _ k1) (x.blt _ (by decide)) ha (by rw[c50 hs.1,c50 hs.2.1];rfl) (c50 hs.2.1 [] X.env) pins s σ H R I ?_
  obtain⟨zA,ρ,z,rr,rel,st,ee,po⟩:=q
  refine⟨zA,ρ,z,rr,rel,st,ee,?_⟩
  cases rr with
  |er c z1=>exact po
  |ok l z1 =>
   obtain⟨xs,hx,po⟩:=po
   intro vs H1 x1 st1 rvs
   obtain⟨ds,h1,h2⟩:=M90 hx
   have hd:=H40 rvs h1
   match ds,h2 with
   |[.tup a,.tup b],h2 =>
    cases h2
    obtain⟨v,w,rfl,h3,h4⟩:=hd.two
    obtain⟨p1,us,rfl,m1,m2⟩:=h3.B30
    obtain⟨p2,ws,rfl,m3,m4⟩:=h4.B30
    exact⟨false,p1,p2,rfl,⟨us,(a20 zA H1).sqT m1⟩,⟨ws,(a20 zA H1).sqT m3⟩,po _ H1 x1 st1 λP B sub tup mv pa sf=>y71 (λ_ x=>a30.sqT x (tup _ _ m1)) (HdA.move mv (show ∀ y∈a,P y from pa _ h1 _ mem_cons_self) m2) (λ_ x=>a30.sqT x (tup _ _ m3)) (HdA.move mv (show ∀ y∈b,P y from pa _ h1 _ (mem_cons_of_mem _ mem_cons_self)) m4)⟩
   |[.lst a,.lst b],h2 =>
    cases h2
    obtain⟨t1,t2,rfl,e1,e2⟩:=c02 h1
    cases rvs with
    |cons rv1 rn =>
     cases rn with
     |cons rv2 rn =>
      cases rn
      obtain⟨p1,us,rfl,m1,m2,m3⟩:=z11 rv1 e1
      obtain⟨p2,ws,rfl,m4,m5,m6⟩:=z11 rv2 e2
      refine⟨true,p1,p2,rfl,⟨us,(m1.same (a20 zA H1)).sq⟩,⟨ws,(m4.same (a20 zA H1)).sq⟩,po _ H1 x1 st1 λP B sub tup mv pa sf=>y71 (λ_ x=>((sf _ _ m1 (m3.imp id λq=>?_)).same x).sq) (HdA.move mv (show ∀ y∈a,P y from pa _ h1 _ mem_cons_self) m2) (λ_ x=>((sf _ _ m4 (m6.imp id λq=>?_)).same x).sq) (HdA.move mv (show ∀ y∈b,P y from pa _ h1 _ (mem_cons_of_mem _ mem_cons_self)) m5)⟩
      ·exact M61 q
      ·exact M71 q
 |_=>cases ht
theorem j41:∀ {a:List D}{i n:Nat}{d:D},(t40 a n)[i]?=some d→∃ x,a[i]?=some x∧d=.tup [.int ((n + i:Nat):Int),x]
 |[],_,_,_,e=>by simp[t40] at e
 |x::r,0,n,d,e=>by simp[t40] at e;exact⟨x,rfl,e.symm⟩
 |x::r,i + 1,n,d,e=>by
  obtain⟨u,h1,h2⟩:=j41 (a:=r) (i:=i) (n:=n + 1) (by simpa [t40] using e)
  exact⟨u,by simpa using h1,by rw[h2,show n + 1 + i=n + (i + 1) by omega]⟩
theorem N00:∀ (a:List D) (n:Nat),(t40 a n).length=a.length
 |[],_=>rfl
 |x::r,n=>by simp only[t40,length_cons,N00 r]
theorem j51(h:∀ H,a30 B H→SqB b X.K H a us)(r:HdA X.K B xs us):ItB X.K (Ite b X.K a) (t40 xs 0) B where
 go:=λi H x hi=>by
  rw[N00] at hi
  exact⟨us,us[i]'(by rw[r.length];omega),h H x,by simp⟩
 yld:=λi H v H' zA z d x st y e=>by
  obtain⟨T,rfl,hT,y⟩:=y
  obtain⟨d1,e1,rfl⟩:=j41 e
  obtain⟨w1,f1,g1⟩:=r.get e1
  have y1:=y us w1 (h H (a30.trans x (a20 zA H))) f1
  subst y1
  have sm:a30 H (upd H T (.tup [.int i,w1])):=a30.new _ hT
  exact⟨sm,λC c t=>Hd.tup (t _ _ ((st.same sm).Z51 (SqT.of c70))) (.cons (by rw[zero_add];exact Hd.int) (.cons (g1.same c) .nil))⟩
 stop:=λH x=>⟨us,h H x,by rw[N00,r.length]⟩
theorem c12(h:plA l=some [d]):∃ s,l=[s]:=by
 cases l with
 |nil=>cases h
 |cons s r =>
  cases r with
  |nil=>exact⟨s,rfl⟩
  |cons t q=>exfalso;cases s <;> cases t <;> first | (cases h;done) | (simp only[plA,Option.map_map,map_eq_some_iff] at h;obtain⟨_,_,h⟩:=h;cases h)
theorem j61(x:XI lm X G E N sc){tg a:Expr}{as:Ex}{n:Str}{p pos:Pos}(ht:n40 tg=true)(hn:n="enumerate")(hg:glob sc n=true)(hL:isL as=true)(g:Good X G E as [a]):PI X tg (.Call (.Name n p) [a] [] pos) (tIt X.K G E .enum as):=by
 subst hn
 obtain⟨k1,k2,k3⟩:=d60 hg
 obtain⟨ha,hs⟩:=g.args hL
 rw[all_cons,and_eq_true] at hs
 cases tg with
 |Tuple es ek ep =>
  intro pins s σ H R I q
  refine Y31 (x.glb _ k1) (x.blt _ (by decide)) ha (c50 hs.1 [] X.env) pins s σ H R I ?_
  obtain⟨zA,ρ,z,rr,rel,st,ee,po⟩:=q
  refine⟨zA,ρ,z,rr,rel,st,ee,?_⟩
  cases rr with
  |er c z1=>exact po
  |ok l z1 =>
   obtain⟨xs,hx,po⟩:=po
   intro vs H1 x1 st1 rvs
   obtain⟨ds,h1,h2⟩:=M90 hx
   have hd:=H40 rvs h1
   match ds,h2 with
   |[.tup a],h2 =>
    cases h2
    obtain⟨v,rfl,h3⟩:=hd.one
    obtain⟨p1,us,rfl,m1,m2⟩:=h3.B30
    exact⟨false,p1,rfl,⟨us,(a20 zA H1).sqT m1⟩,po _ H1 x1 st1 λP B sub tup mv pa sf=>j51 (λ_ x=>a30.sqT x (tup _ _ m1)) (HdA.move mv (show ∀ y∈a,P y from pa _ h1 _ mem_cons_self) m2)⟩
   |[.lst a],h2 =>
    cases h2
    have fin:∀ (b:Addr) (ys:List V),r90 X.K (hz zA H1) b ys→HdA X.K (hz zA H1) a ys→((H b=none∧H1 b=some (.lst ys))∨o21 l=true)→∃ bb p,[V.ref b]=[.ref p]∧(∃ xs,SqB bb X.K H1 p xs)∧R (Ite bb X.K p) H1:=λb ys k1 k2 k5 =>
     ⟨true,b,rfl,⟨ys,(k1.same (a20 zA H1)).sq⟩,po _ H1 x1 st1 λP B sub tup mv pa sf=>j51 (λ_ x=>((sf _ _ k1 k5).same x).sq) (HdA.move mv (show ∀ y∈a,P y from pa _ h1 _ mem_cons_self) k2)⟩
    obtain⟨t,rfl⟩:=c12 h1
    cases rvs with
    |cons rv rn =>
     cases rn
     cases t with
     |d x =>
      cases h1
      obtain⟨b,ys,rfl,k1,k2⟩:=Hd.b31 (show Hd X.K (hz zA H1) (.lst a) _ from rv)
      exact fin _ _ k1 k2 (.inr rfl)
     |fr x =>
      cases h1
      obtain⟨b,ys,rfl,k0,k1,k2,k3⟩:=rv
      exact fin _ _ (r90.of (d90 k2 k1)) (k3.same (f10 b _)) (.inl ⟨k0,k2⟩)
     |z=>cases h1
 |_=>cases ht
abbrev EF:XK:=λ_ _ _=>False
def ttC(K:PySem.W.Frag)(G:Gs):Ex→TT
 |.nil=>I21
 |.cons c _=>tT K G EF c
 |_=>λ_ _ _=>False
theorem o81(h:turns f (x::r) z=some (.ok ys z2)):∃ o z1 l,f x z=some (.ok o z1)∧turns f r z1=some (.ok l z2)∧ys=(match o with | some y=>y::l | none=>l):=by
 rcases M.bind_some (show M.bind (f x) _ z=_ from h) with ⟨o,z1,e1,e2⟩ | ⟨c,z1,e1,e2⟩
 ·rcases M.bind_some e2 with ⟨l,z3,e3,e4⟩ | ⟨c,z3,e3,e4⟩
  ·cases e4
   exact⟨o,z1,l,e1,e3,rfl⟩
  ·cases e4
 ·cases e2
theorem c22{zA:Option Addr}{J:L2.It}{xs ys:List D}{H1:Hp}{z1 z2:Z}{p:Pat}{cond el:Ex}{ρ0:Env}{σ0:L2.St}{Q:VK}(IT:G02 X.K zA J xs H1)(hm:xs.length≤most)(rel0:B50 X.K zA H1 ρ0 σ0)(len:ρ0.length=σ0.length)(st1:e50 zA z1 H1)
  (hc:cond=.nil∨∃ c,cond=.cons c .nil) (e:turns (r80 (ev G.F cond) (ev G.F el) p ρ0) xs z1=some (.ok ys z2))
  (fin:∀ H2 vs l,Ext zA H1 H2→e50 zA z2 H2→HdA X.K (hz zA H2) ys vs→H2 l=none→Q (.ref l) (upd H2 l (.lst vs))):W31 J σ0 H1 (gP X.K p) (ttC X.K G cond) (tI X.K G EF el) Q:=by
 refine⟨λi m vs H=>m=xs.length - i∧i≤xs.length∧vs.length≤i∧∃ yd z rest,Ext zA H1 H∧e50 zA z H∧HdA X.K (hz zA H) yd vs∧turns (r80 (ev G.F cond) (ev G.F el) p ρ0) (xs.drop i) z=some (.ok rest z2)∧ys=yd++rest,
  ⟨xs.length,rfl,zero_le _,zero_le _,[],z1,ys,Ext.refl,st1,.nil,by simpa using e,rfl⟩,?_⟩
 rintro i m vs H ⟨rfl,hi,hv,yd,z,rest,x,st,hd,et,ey⟩
 by_cases hlt:i < xs.length
 ·refine .inr ⟨IT.go i H x hlt,Nat.lt_of_le_of_lt hv (Nat.lt_of_lt_of_le hlt (f50 hm)),
   λws H'=>ws.length≤i + 1∧∃ yd z rest,Ext zA H1 H'∧e50 zA z H'∧HdA X.K (hz zA H') yd ws∧turns (r80 (ev G.F cond) (ev G.F el) p ρ0) (xs.drop (i + 1)) z=some (.ok rest z2)∧ys=yd++rest,
   λws H' q=>⟨xs.length - (i + 1),by omega,rfl,hlt,q.1,q.2⟩,λv H' y=>?_⟩
  obtain⟨sm,hx⟩:=IT.yld i H v H' z xs[i] x st y (by simp[hlt])
  rw[List.drop_eq_getElem_cons hlt] at et
  obtain⟨o,z3,l,f1,f2,f3⟩:=o81 et
  obtain⟨ρ',b1,f4⟩:=M.a10 (show M.bind (M.of (f20 p xs[i] ρ0)) _ z=_ from f1)
  have x':Ext zA H1 H':=x.trans (Ext.of sm)
  have st':=st.same sm
  refine y41 b1 (rel0.mono x') len hx λσ' rel' len'=>?_
  have yes:∀ {za:Z}{Ha:Hp},Ext zA H' Ha→e50 zA za Ha→M.bind (ev G.F el ρ') (λy=>M.bind (M.of (pl y)) λy=>M.ret (some y)) za=some (.ok o z3)→tI X.K G EF el σ' Ha (λy H4=>(vs++[y]).length≤i + 1∧∃ yd z rest,Ext zA H1 H4∧e50 zA z H4∧HdA X.K (hz zA H4) yd (vs++[y])∧turns (r80 (ev G.F cond) (ev G.F el) p ρ0) (xs.drop (i + 1)) z=some (.ok rest z2)∧ys=yd++rest):=λ{za Ha} xa sta ea=>by
   refine l40 (rel'.mono xa) sta ea (λc z1 h=>by cases h) λm z4 e4=>?_
   obtain⟨d,p1,e5⟩:=M.a10 e4
   obtain⟨s1,rfl,q1⟩:=g70 p1
   cases e5
   refine⟨s1,rfl,λw H4 x4 st4 rv=>⟨by rw[length_append];simp;omega,yd++[d],z3,l,(x'.trans xa).trans x4,st4,?_,f2,by rw[ey,f3,append_assoc];rfl⟩⟩
   exact(hd.same (a30.trans (k00 sm) (a30.trans xa.same x4.same))).append (.cons (rv.pl.d_ q1) .nil)
  rcases hc with rfl | ⟨c,rfl⟩
  ·have f5:M.bind (ev G.F el ρ') (λy=>M.bind (M.of (pl y)) λy=>M.ret (some y)) z=some (.ok o z3):=f4
   have ty:ttC X.K G .nil=I21:=rfl
   rw[ty]
   refine K31 ?_
   dsimp only
   rw[if_pos rfl]
   exact yes Ext.refl st' f5
  ·rcases M.bind_some (show M.bind (ev G.F (.cons c .nil) ρ') _ z=_ from f4) with ⟨m,za,e1,e2⟩ | ⟨q,za,e1,e2⟩
   ·rcases M.bind_some (show M.bind (ev G.F c ρ') _ z=_ from e1) with ⟨m',zb,e3,e4⟩ | ⟨q,zb,e3,e4⟩
    ·obtain⟨s,hs,e5⟩:=M.a10 e4
     cases e5
     have hm':=E60 hs
     subst hm'
     show tT X.K G EF c σ' H' _
     have tb:∃ b,s=.d (.bl b):=by
      cases s with
      |d y=>cases y with
       |bl b=>exact⟨b,rfl⟩
       |_=>cases e2
      |fr _=>cases e2
      |z=>cases e2
     obtain⟨b,rfl⟩:=tb
     refine⟨zA,ρ',z,_,rel',st',e3,b,rfl,λHa xa sta=>?_⟩
     cases b with
     |true =>
      rw[if_pos rfl]
      exact yes xa sta e2
     |false =>
      rw[if_neg Bool.false_ne_true]
      cases e2
      exact⟨Nat.le_trans hv (le_succ _),yd,z3,l,x'.trans xa,sta,hd.same (a30.trans (k00 sm) xa),f2,by rw[ey,f3]⟩
    ·cases e4
   ·cases e2
 ·have hi':i=xs.length:=by omega
  subst hi'
  rw[drop_length] at et
  cases et
  refine .inl ⟨IT.stop H x,λl hl=>fin H vs l x st (by rw[ey,append_nil];exact hd) hl⟩
end
theorem i00{env:PySem.Env}{k0:NameKind}(hk:k0≠.free):∀ {names:List (Str × NameKind)}{x:Str},names.lookup x=some k0 →
  (names.map λ(n,k)=>if (k == NameKind.free&&env.scope.kind == .function&&env.kindOf n == some .cell) then(n,NameKind.cell) else(n,k)).lookup x=some k0
 |[],_,h=>by simp at h
 |(n,k)::r,x,h=>by
  have ih:=@i00 env k0 hk r x
  show List.lookup x ((if (k == NameKind.free&&env.scope.kind == .function&&env.kindOf n == some .cell)=true then(n,NameKind.cell) else(n,k))::_)=_
  cases hx:x == n with
  |true =>
   simp only[lookup_cons,hx] at h
   cases h
   have:(k0 == NameKind.free)=false:=by simpa using hk
   rw[this,Bool.false_and,Bool.false_and,if_neg Bool.false_ne_true]
   simp only[lookup_cons,hx]
  |false =>
   simp only[lookup_cons,hx] at h
   by_cases hq:(k == NameKind.free&&env.scope.kind == .function&&env.kindOf n == some .cell)=true
   ·rw[if_pos hq];simp only[lookup_cons,hx];exact ih h
   ·rw[if_neg hq];simp only[lookup_cons,hx];exact ih h
section
variable {lm:Bool}{X:Cx}{G:Gs}{E:XK}{N:List Str}{sc csc:Scope}{on:List Str}{cs:List (Str × Nat)}
structure s72(csc sc:Scope)(N on:List Str)(cs:List (Str × Nat)):Prop where
 kind:csc.kind=.function
 nocell:∀ y∈csc.names,y.2≠.cell
 locs:∀ y∈csc.names,y.2=.local→csc.names.lookup y.1=some .local
 frees:∀ y∈csc.names,y.2=.free→(sc.names.lookup y.1=some .cell∨sc.names.lookup y.1=some .free)
 captd:∀ p∈cs,N[p.2]?=some p.1∧csc.names.lookup p.1=some .free
 own:∀ x∈on,csc.names.lookup x=some .local
 nd:(on++cs.map (·.1)).Nodup
theorem G12(h:i71 csc sc N on cs=true):s72 csc sc N on cs:=by
 unfold i71 at h
 simp only[and_eq_true] at h
 obtain⟨⟨⟨⟨⟨⟨h1,h2⟩,h3⟩,h4⟩,h5⟩,h6⟩,h7⟩:=h
 rw[all_eq_true] at h2 h3 h4 h5 h6
 refine⟨by simpa using h1,λy hy=>by simpa using h2 y hy,λy hy hl=>?_,λy hy hf=>?_,λp hp=>by simpa using h5 p hp,λx hx=>by simpa using h6 x hx,of_decide_eq_true h7⟩
 ·have:=h3 y hy;rw[hl] at this;simpa using this
 ·have:=h4 y hy
  rw[hf] at this
  simpa using this
theorem c32(x:XI lm X G E N sc)(c:s72 csc sc N on cs):H90 X csc on cs:=⟨c.kind,c.nocell,c.locs,λy hy hf=>x.cel _ (c.frees y hy hf),λp hp=>by rw[x.hN];exact c.captd p hp⟩
theorem z31(x:XI lm X G E N sc)(c:s72 csc sc N on cs)(cl:List (Str × Addr))(C:Addr)(s:Shared)(H:Hp)(fp:List Addr):XI false (c60 X (e20 on cs) csc cl C s H fp) G EF (on++cs.map (·.1)) csc where
 gok:=x.gok
 num:=x.num
 blt:=x.blt
 hN:=rfl
 nd:=c.nd
 vis:=λy hy=>by
  rcases List.mem_append.mp hy with h | h
  ·exact .inl (i00 (by decide) (c.own y h))
  ·obtain⟨p,hp,rfl⟩:=List.mem_map.mp h
   rcases q70 (env:=X.env) (c.captd p hp).2 with h | h
   ·exact .inr (.inl h)
   ·exact .inr (.inr h)
 glb:=λy hy=>i00 (by decide) hy
 cel:=λy hy=>by
  rcases hy with h | h
  ·exact .inl (i00 (by decide) h)
  ·exact q70 (env:=X.env) h
 calm:=x.calm
 room:=x.room
 pas:=n42
theorem M81(x:XI lm X G E N sc)(c:s72 csc sc N on cs)(cl:List (Str × Addr))(C:Addr)(s:Shared)(H:Hp)(fp:List Addr):M51 (c60 X (e20 on cs) csc cl C s H fp) (on++cs.map (·.1)) (λy=>on.contains y) where
 hN:=rfl
 nd:=c.nd
 lc:=λy hy=>.inl (i00 (by decide) (c.own y (by simpa using hy)))
 fn:=λy hy=>.inr (i00 (by decide) (c.own y (by simpa using hy)))
 calm:=x.calm
theorem j71:∀ {capt:List Nat},(e80 N capt).length=capt.length→(e80 N capt).map (·.2)=capt
 |[],_=>rfl
 |i::r,h=>by
  have le:∀ l:List Nat,(e80 N l).length≤l.length:=by
   intro l
   induction l with
   |nil=>exact Nat.le_refl _
   |cons j q ih =>
    unfold e80
    split
    ·rw[length_cons,length_cons];omega
    ·rw[length_cons];omega
  unfold e80 at h ⊢
  split at h
  ·rename_i y hy
   rw[length_cons,length_cons] at h
   rw[map_cons,j71 (by omega)]
  ·have:=le r
   rw[length_cons] at h
   omega
theorem M91(rel:B50 X.K zA H ρ σ)(h:cs.map (·.2)=capt):B50 X.K zA H (replicate on.length none++capt.map λi=>(ρ[i]?).getD none) (t00 on cs σ) ∧
  (replicate on.length (none:Option S)++capt.map λi=>(ρ[i]?).getD none).length=(t00 on cs σ).length:=by
 subst h
 constructor
 ·intro j s e
  unfold t00
  by_cases hj:j < on.length
  ·rw[List.getElem?_append_left (by simpa using hj)] at e
   simp[List.getElem?_replicate,hj] at e
  ·rw[List.getElem?_append_right (by simpa using hj),List.length_replicate,List.getElem?_map,List.getElem?_map] at e
   rw[List.getElem?_append_right (by simpa using hj),length_map,List.getElem?_map]
   cases hp:cs[j - on.length]? with
   |none=>rw[hp] at e;simp at e
   |some p =>
    rw[hp] at e
    simp only[map_some,Option.some.injEq] at e
    have e2:ρ[p.2]?=some (some s):=by
     cases hr:ρ[p.2]? with
     |none=>rw[hr] at e;cases e
     |some o=>rw[hr] at e;exact congrArg some e
    obtain⟨v,h1,h2⟩:=rel p.2 s e2
    exact⟨v,by simp[h1],h2⟩
 ·unfold t00
  simp
theorem z41(h:A80 e=true)(env:PySem.Env)(x:Value):foldedSetIterable e env x=pure x:=by
 cases e with
 |Set _ _ _=>cases h
 |_=>rfl
def I70(X:Cx)(G:Gs)(E:XK)(x:Ex)(elt tg iter:Expr)(ifs:List Expr)(csc:Scope):Prop:=∃ (own:List Str) (capt:List (Str × Nat)) (wi:TI) (g:TG) (tt:TT) (te:TE),H90 X csc own capt∧PI X tg iter wi ∧
 (∀ cl C s H fp,PG (c60 X (e20 own capt) csc cl C s H fp) tg g)∧(∀ cl C s H fp,PTs (c60 X (e20 own capt) csc cl C s H fp) ifs tt)∧(∀ cl C s H fp,PE (c60 X (e20 own capt) csc cl C s H fp) elt te) ∧
 (∀ x,foldedSetIterable iter X.env x=pure x)∧∀ σ H Q,tI X.K G E x σ H Q→W41 own capt wi g tt te σ H Q
theorem G22(x:XI lm X G E N sc){p:Pat}{it:It}{src cond el:Ex}{capt:List Nat}{elt tg iter:Expr}{ifs:List Expr}(c:s72 csc sc N on cs)(hcap:cs.map (·.2)=capt)(hp:j40 (on++cs.map (·.1)) (λy=>on.contains y) p tg=true)
  (hi:PI X tg iter (tIt X.K G E it src)) (hns:A80 iter=true) (hc:(cond=.nil∧ifs=[])∨∃ q f,cond=.cons q .nil∧ifs=[f]∧∀ cl C s H fp,PT (c60 X (e20 on cs) csc cl C s H fp) f (tT X.K G EF q))
  (he:∀ cl C s H fp,PE (c60 X (e20 on cs) csc cl C s H fp) elt (tI X.K G EF el)):I70 X G E (.comp on.length capt p it src cond el) elt tg iter ifs csc:=by
 have ht:∀ cl C s H fp,PTs (c60 X (e20 on cs) csc cl C s H fp) ifs (ttC X.K G cond):=by
  rcases hc with ⟨rfl,rfl⟩ | ⟨q,f,rfl,rfl,h⟩
  ·exact λcl C s H fp=>W01
  ·exact λcl C s H fp=>W11 (h cl C s H fp)
 refine⟨on,cs,tIt X.K G E it src,gP X.K p,ttC X.K G cond,tI X.K G EF el,c32 x c,hi,λcl C s H fp=>y31 (M81 x c cl C s H fp) hp,ht,he,z41 hns X.env,λσ H Q q=>?_⟩
 obtain⟨zA,ρ,z,rr,rel,st,e,po⟩:=q
 have e0:M.bind (ev G.F src ρ) (λl=>M.bind (M.of ((plA l).bind (itD it))) λxs=>if xs.length≤most then M.bind (M.calm (turns (r80 (ev G.F cond) (ev G.F el) p (replicate on.length none++capt.map λi=>(ρ[i]?).getD none)) xs)) λys=>M.ret [.fr ys] else M.no) z=some rr:=e
 rcases M.bind_some e0 with ⟨m,z1,e1,e2⟩ | ⟨k,z1,e1,e2⟩
 ·obtain⟨xs,hx,e3⟩:=M.a10 e2
  refine⟨zA,ρ,z,_,rel,st,e1,xs,hx,λJ H1 x1 st1 IT'=>?_⟩
  have IT:=IT'.ok
  split at e3
  ·rename_i hm
   rcases M.bind_some e3 with ⟨ys,z2,e4,e5⟩ | ⟨k,z2,e4,e5⟩
   ·cases e5
    have e6:turns (r80 (ev G.F cond) (ev G.F el) p (replicate on.length none++capt.map λi=>(ρ[i]?).getD none)) xs z1=some (.ok ys z2):=by
     unfold M.calm at e4
     split at e4
     ·rename_i h;cases e4;exact h
     ·cases e4
    obtain⟨r1,r2⟩:=M91 (on:=on) (rel.mono x1) hcap
    refine c22 IT hm r1 r2 st1 (by rcases hc with ⟨h,_⟩ | ⟨q,_,h,_⟩;exact .inl h;exact .inr ⟨q,h⟩) e6 λH2 vs l x2 st2 hd hl=>?_
    exact f60 po (x1.trans x2) st2 _ _ (a30.new _ hl) (s50 st2 hd hl)
   ·unfold M.calm at e4
    split at e4 <;> cases e4
  ·cases e3
 ·exact⟨zA,ρ,z,_,rel,st,e1,(f90 po) k z1 e2⟩
theorem I70.good{x:Ex}{elt tg iter:Expr}{ifs:List Expr}{csc:Scope}{pos:Pos}(hc:X.calm=true)(h:I70 X G E x elt tg iter ifs csc):a80 X G E x (.ListComp elt [⟨tg,iter,ifs,0⟩] csc pos):=by
 obtain⟨own,capt,wi,g,tt,te,h1,h2,h3,h4,h5,h6,h7⟩:=h
 exact a90 (PE.imp (W51 hc h1 h2 h3 h4 h5 h6) h7) rfl
theorem b70(h:(!isL x)=true):isL x=false:=by simpa using h
theorem z51(hL:isL x=true)(g:Good X G E x [e]):∃ a,x=.cons a .nil∧a80 X G E a e:=by
 cases x with
 |nil=>cases (show [e]=[] from g)
 |cons a r =>
  obtain⟨e',es,h,ns,ga,lr,gr⟩:=g
  cases h
  cases r with
  |nil=>exact⟨a,rfl,ga⟩
  |cons b q=>obtain⟨e,es,h,_⟩:=gr;cases h
  |_=>cases lr
 |_=>cases hL
theorem U80{lm:Bool}{G:Gs}{own:Nat}{capt:List Nat}{p:Pat}{it:It}{src cond el:Ex}(ihs:(∀ {X:Cx}{E:XK}{N:List Str}{sc:Scope},XI lm X G E N sc→∀ {es:List Expr},mt lm G.fns G.nums src sc N es=true→Good X G E src es))(ihc:(∀ {X:Cx}{E:XK}{N:List Str}{sc:Scope},XI false X G E N sc→∀ {es:List Expr},mt false G.fns G.nums cond sc N es=true→Good X G E cond es))(ihe:(∀ {X:Cx}{E:XK}{N:List Str}{sc:Scope},XI false X G E N sc→∀ {es:List Expr},mt false G.fns G.nums el sc N es=true→Good X G E el es))
  {X:Cx}{E:XK}{N:List Str}{sc:Scope} (x:XI lm X G E N sc) {elt tg iter:Expr}{ifs:List Expr}{csc:Scope} (h:(d30 tg).length == own&&(e80 N capt).length == capt.length&&i71 csc sc N (d30 tg) (e80 N capt)&&j40 (d30 tg++(e80 N capt).map (·.1)) (λx=>(d30 tg).contains x) p tg&&isL src&&!isL el&&isL cond&&ifs.length≤1&&noStar elt&&A80 iter&&ifs.all (λc=>!ifB c) &&
    (match it with
    |.seq=>mt lm G.fns G.nums src sc N [iter]
    |.rng1=>opt (h82 iter) λr=>r.1.1 == ("range":Str)&&glob sc r.1.1&&mt lm G.fns G.nums src sc N [r.1.2.2.1]
    |.rng2=>opt (h92 iter) λr=>r.1.1 == ("range":Str)&&glob sc r.1.1&&mt lm G.fns G.nums src sc N [r.1.2.2.1,r.1.2.2.2.1]
    |.zip=>opt (h92 iter) λr=>r.1.1 == ("zip":Str)&&glob sc r.1.1&&n40 tg&&mt lm G.fns G.nums src sc N [r.1.2.2.1,r.1.2.2.2.1]
    |.enum=>opt (h82 iter) λr=>r.1.1 == ("enumerate":Str)&&glob sc r.1.1&&n40 tg&&mt lm G.fns G.nums src sc N [r.1.2.2.1])&&mt false G.fns G.nums cond csc (d30 tg++(e80 N capt).map (·.1)) ifs&&mt false G.fns G.nums el csc (d30 tg++(e80 N capt).map (·.1)) [elt]):I70 X G E (.comp own capt p it src cond el) elt tg iter ifs csc:=by
 simp only[and_eq_true,beq_iff_eq,decide_eq_true_eq] at h
 obtain⟨⟨⟨⟨⟨⟨⟨⟨⟨⟨⟨⟨⟨h1,h2⟩,h3⟩,h4⟩,h5⟩,h6⟩,h7⟩,h8⟩,h9⟩,h10⟩,h11⟩,h12⟩,h13⟩,h14⟩:=h
 subst h1
 have c:=G12 h3
 have hi:PI X tg iter (tIt X.K G E it src):=by
  cases it with
  |seq =>
   obtain⟨a,rfl,ga⟩:=z51 h5 (ihs x h12)
   exact S41 ga
  |rng1 =>
   obtain⟨⟨⟨n,_,a,_⟩,rfl⟩,-,h12⟩:=a40 h12
   simp only[and_eq_true,beq_iff_eq] at h12
   exact y91 x h12.1.1 h12.1.2 h5 (ihs x h12.2)
  |rng2 =>
   obtain⟨⟨⟨n,_,a,b,_⟩,rfl⟩,-,h12⟩:=a40 h12
   simp only[and_eq_true,beq_iff_eq] at h12
   exact z01 x h12.1.1 h12.1.2 h5 (ihs x h12.2)
  |zip =>
   obtain⟨⟨⟨n,_,a,b,_⟩,rfl⟩,-,h12⟩:=a40 h12
   simp only[and_eq_true,beq_iff_eq] at h12
   exact z21 x h12.1.2 h12.1.1.1 h12.1.1.2 h5 (ihs x h12.2)
  |enum =>
   obtain⟨⟨⟨n,_,a,_⟩,rfl⟩,-,h12⟩:=a40 h12
   simp only[and_eq_true,beq_iff_eq] at h12
   exact j61 x h12.1.2 h12.1.1.1 h12.1.1.2 h5 (ihs x h12.2)
 have hc:(cond=.nil∧ifs=[])∨∃ q f,cond=.cons q .nil∧ifs=[f]∧∀ cl C s H fp,PT (c60 X (e20 (d30 tg) (e80 N capt)) csc cl C s H fp) f (tT X.K G EF q):=by
  match ifs,h8,h11,h13 with
  |[],_,_,h13 =>
   cases cond with
   |nil=>exact .inl ⟨rfl,rfl⟩
   |cons a r=>cases h13
   |_=>cases h7
  |[f],_,h11,h13 =>
   cases cond with
   |nil=>cases h13
   |cons a r =>
    have h13':(noStar f&&!isL a&&isL r&&mt false G.fns G.nums a csc (d30 tg++(e80 N capt).map (·.1)) [f]&&mt false G.fns G.nums r csc (d30 tg++(e80 N capt).map (·.1)) [])=true:=h13
    simp only[and_eq_true] at h13'
    have rn:r=.nil:=by
     cases r with
     |nil=>rfl
     |cons b q=>cases h13'.2
     |_=>cases h13'.1.1.2
    subst rn
    simp only[all_cons,all_nil,Bool.and_true] at h11
    refine .inr ⟨a,f,rfl,rfl,λcl C s H fp=>?_⟩
    obtain⟨e',es,he,ns,ga,lr,gr⟩:=ihc (z31 x c cl C s H fp) h13
    cases he
    exact ga.pt (b62 h11)
   |_=>cases h7
 refine G22 x c (j71 h2) h4 hi h10 hc λcl C s H fp=>?_
 exact(a70 (b70 h6) (ihe (z31 x c cl C s H fp) h14)).pe
theorem s82:∀ (t:Ex) {lm:Bool}{G:Gs}{X:Cx}{E:XK}{N:List Str}{sc:Scope},XI lm X G E N sc→∀ {es:List Expr},mt lm G.fns G.nums t sc N es=true→Good X G E t es:=by
 intro t
 induction t with
 |nil =>
  intro lm G X E N sc x es h
  exact List.isEmpty_iff.mp h
 |cons a r iha ihr =>
  intro lm G X E N sc x es h
  cases es with
  |nil=>cases h
  |cons e es =>
   have h:(noStar e&&!isL a&&isL r&&mt lm G.fns G.nums a sc N [e]&&mt lm G.fns G.nums r sc N es)=true:=h
   simp only[and_eq_true] at h
   obtain⟨⟨⟨⟨h1,h2⟩,h3⟩,h4⟩,h5⟩:=h
   exact⟨e,es,rfl,h1,a70 (b70 h2) (iha x h4),h3,ihr x h5⟩
 |var i =>
  intro lm G X E N sc x es h
  obtain⟨⟨q,rfl⟩,-,h⟩:=a40 h
  simp only[and_eq_true,beq_iff_eq] at h
  exact b90 rfl (E42 x h.1 h.2)
 |con d =>
  intro lm G X E N sc x es h
  rcases (or_eq_true _ _).mp h with h | h
  ·obtain⟨⟨q,rfl⟩,-,h⟩:=a40 h
   exact b90 rfl (E52 h)
  ·obtain⟨⟨p,rfl⟩,-,h⟩:=a40 h
   cases d with
   |dct=>exact b90 rfl E62
   |_=>cases h
 |gint g i =>
  intro lm G X E N sc x es h
  obtain⟨⟨⟨n,p⟩,rfl⟩,-,h⟩:=a40 h
  simp only[and_eq_true,beq_iff_eq,contains_iff_mem] at h
  obtain⟨⟨rfl,h2⟩,h3⟩:=h
  exact b90 rfl (q62 x h2 h3)
 |tup as ih =>
  intro lm G X E N sc x es h
  obtain⟨⟨q,rfl⟩,-,h⟩:=a40 h
  simp only[and_eq_true] at h
  exact b90 rfl (E72 h.1 (ih x h.2))
 |lst as ih =>
  intro lm G X E N sc x es h
  obtain⟨⟨q,rfl⟩,-,h⟩:=a40 h
  simp only[and_eq_true] at h
  exact b90 rfl (E82 h.1 (ih x h.2))
 |bin o a b iha ihb =>
  intro lm G X E N sc x es h
  obtain⟨⟨⟨l,op,r,p⟩,rfl⟩,-,h⟩:=a40 h
  simp only[and_eq_true,beq_iff_eq] at h
  obtain⟨⟨⟨⟨rfl,h2⟩,h3⟩,h4⟩,h5⟩:=h
  exact b90 rfl (E92 (a70 (b70 h2) (iha x h4)) (a70 (b70 h3) (ihb x h5)))
 |cmp o a b iha ihb =>
  intro lm G X E N sc x es h
  obtain⟨⟨⟨l,op,r,p⟩,rfl⟩,-,h⟩:=a40 h
  simp only[and_eq_true,beq_iff_eq] at h
  obtain⟨⟨⟨⟨⟨rfl,h1⟩,h2⟩,h3⟩,h4⟩,h5⟩:=h
  exact b90 rfl (F02 x h1 (a70 (b70 h2) (iha x h4)) (a70 (b70 h3) (ihb x h5)))
 |neg a ih =>
  intro lm G X E N sc x es h
  obtain⟨⟨q,rfl⟩,-,h⟩:=a40 h
  simp only[and_eq_true] at h
  exact b90 rfl (F12 (a70 (b70 h.1) (ih x h.2)))
 |not a ih =>
  intro lm G X E N sc x es h
  obtain⟨⟨q,rfl⟩,-,h⟩:=a40 h
  simp only[and_eq_true] at h
  obtain⟨⟨h1,h2⟩,h3⟩:=h
  exact b90 rfl (F22 (a70 (b70 h1) (ih x h3)) (b62 h2))
 |and a b iha ihb =>
  intro lm G X E N sc x es h
  obtain⟨⟨⟨l,r,vs,p⟩,rfl⟩,-,h⟩:=a40 h
  simp only[and_eq_true] at h
  obtain⟨⟨⟨⟨h1,h2⟩,h3⟩,h4⟩,h5⟩:=h
  refine b90 rfl (F32 (a70 (b70 h1) (iha x h4)) (b62 h3) ?_)
  cases vs with
  |nil =>
   rw[if_pos (show([]:List Expr).isEmpty=true from rfl),and_eq_true] at h5
   exact q72 (a70 (b70 h2) (ihb x h5.2)) (b62 h5.1)
  |cons v vs =>
   rw[if_neg (by exact Bool.false_ne_true)] at h5
   exact a70 (b70 h2) (ihb x h5)
 |or a b iha ihb =>
  intro lm G X E N sc x es h
  obtain⟨⟨⟨l,r,vs,p⟩,rfl⟩,-,h⟩:=a40 h
  simp only[and_eq_true] at h
  obtain⟨⟨⟨⟨h1,h2⟩,h3⟩,h4⟩,h5⟩:=h
  refine b90 rfl (S02 (a70 (b70 h1) (iha x h4)) (b62 h3) ?_)
  cases vs with
  |nil =>
   rw[if_pos (show([]:List Expr).isEmpty=true from rfl),and_eq_true] at h5
   exact q72 (a70 (b70 h2) (ihb x h5.2)) (b62 h5.1)
  |cons v vs =>
   rw[if_neg (by exact Bool.false_ne_true)] at h5
   exact a70 (b70 h2) (ihb x h5)
 |orT a b iha ihb =>
  intro lm G X E N sc x es h
  obtain⟨⟨⟨l,r,vs,p⟩,rfl⟩,-,h⟩:=a40 h
  simp only[and_eq_true] at h
  obtain⟨⟨⟨⟨h1,h2⟩,h3⟩,h4⟩,h5⟩:=h
  cases vs with
  |nil=>exact b90 rfl (F42 (a70 (b70 h1) (iha x h4)) (a70 (b70 h2) (ihb x h5)))
  |cons v vs=>cases h3
 |ite c a b ihc iha ihb =>
  intro lm G X E N sc x es h
  obtain⟨⟨q,rfl⟩,-,h⟩:=a40 h
  simp only[and_eq_true] at h
  obtain⟨⟨⟨⟨⟨⟨h1,h2⟩,h3⟩,h4⟩,h5⟩,h6⟩,h7⟩:=h
  exact b90 rfl (F52 (a70 (b70 h1) (ihc x h5)) (b62 h4) (a70 (b70 h2) (iha x h6)) (a70 (b70 h3) (ihb x h7)))
 |ch o o' a b c iha ihb ihc =>
  intro lm G X E N sc x es h
  obtain⟨⟨⟨l,op,op',r,s,p⟩,rfl⟩,-,h⟩:=a40 h
  simp only[and_eq_true,beq_iff_eq] at h
  obtain⟨⟨⟨⟨⟨⟨⟨⟨rfl,rfl⟩,h1⟩,h2⟩,h3⟩,h4⟩,h5⟩,h6⟩,h7⟩:=h
  exact b90 rfl (S12 x h1 (a70 (b70 h2) (iha x h5)) (a70 (b70 h3) (ihb x h6)) (a70 (b70 h4) (ihc x h7)))
 |bf f as ih =>
  intro lm G X E N sc x es h
  rcases (or_eq_true _ _).mp h with h | h
  rotate_left
  ·rw[and_eq_true] at h
   obtain⟨hf,h⟩:=h
   obtain⟨⟨⟨n,p1,m,p2,e,p3,p4⟩,rfl⟩,-,h⟩:=a40 h
   simp only[and_eq_true,beq_iff_eq] at h
   obtain⟨⟨⟨⟨⟨h1,h2⟩,h3⟩,h4⟩,h5⟩,h6⟩:=h
   have h1:n="sorted":=h1
   have h2:m="set":=h2
   subst h1;subst h2
   cases f with
   |sset=>exact b90 rfl (s32 x h3 h4 h5 (ih x h6))
   |_=>cases hf
  obtain⟨⟨q,rfl⟩,-,h⟩:=a40 h
  simp only[and_eq_true,beq_iff_eq] at h
  obtain⟨⟨⟨⟨h1,h2⟩,h3⟩,h4⟩,h5⟩:=h
  exact b90 rfl (S22 x h1 h2 h3 h4 (ih x h5))
 |isi t a ih =>
  intro lm G X E N sc x es h
  obtain⟨⟨⟨n,q,e,ty,p⟩,rfl⟩,-,h⟩:=a40 h
  simp only[and_eq_true,beq_iff_eq] at h
  obtain⟨⟨⟨⟨⟨h1,h2⟩,h3⟩,h4⟩,h5⟩,h6⟩:=h
  have g:=a70 (b70 h4) (ih x h5)
  refine b90 rfl ?_
  have one:∀ t:Ty,t≠.seq→(opt (shN ty) λq=>q.1.1 == Str.ofString (tyN t)&&glob sc (Str.ofString (tyN t)))=true→a80 X G E (.isi t a) (.Call (.Name n q) [e,ty] [] p):=λt hs h6=>by
   obtain⟨⟨⟨a,_⟩,rfl⟩,-,h6⟩:=a40 h6
   simp only[and_eq_true,beq_iff_eq] at h6
   obtain⟨rfl,k1⟩:=h6
   exact r72 x hs k1 h1 h2 h3 g
  cases t with
  |seq =>
   obtain⟨⟨⟨a,_,b,_,_,_⟩,rfl⟩,-,h6⟩:=a40 h6
   simp only[and_eq_true,beq_iff_eq] at h6
   obtain⟨⟨⟨rfl,rfl⟩,k1⟩,k2⟩:=h6
   exact r82 x k1 k2 h1 h2 h3 g
  |_=>exact one _ (λh=>by cases h) h6
 |idx a i iha ihi =>
  intro lm G X E N sc x es h
  obtain⟨⟨q,rfl⟩,-,h⟩:=a40 h
  simp only[and_eq_true] at h
  obtain⟨⟨⟨⟨h1,h2⟩,h3⟩,h4⟩,h5⟩:=h
  exact b90 rfl (F72 h1 (a70 (b70 h2) (iha x h4)) (a70 (b70 h3) (ihi x h5)))
 |sl a lo hi iha ihl ihh =>
  intro lm G X E N sc x es h
  obtain⟨⟨q,rfl⟩,-,h⟩:=a40 h
  simp only[and_eq_true] at h
  obtain⟨⟨⟨⟨⟨h1,h2⟩,h3⟩,h4⟩,h5⟩,h6⟩:=h
  exact b90 rfl (S32 (a70 (b70 h1) (iha x h4)) h2 h3 (ihl x h5) (ihh x h6))
 |call f as ih =>
  intro lm G X E N sc x es h
  obtain⟨⟨⟨n,q,e,l,p⟩,rfl⟩,-,h⟩:=a40 h
  simp only[and_eq_true] at h
  obtain⟨⟨⟨h1,h2⟩,h3⟩,h4⟩:=h
  obtain⟨pr,hf,h1'⟩:=a40 h1
  simp only[and_eq_true,beq_iff_eq] at h1'
  obtain⟨rfl,h7⟩:=h1'
  exact b90 rfl (s_call x hf h7 h2 h3 (ih x h4))
 |comp own capt p it src cond el ihs ihc ihe =>
  intro lm G X E N sc x es h
  obtain⟨⟨q,rfl⟩,-,h⟩:=a40 h
  exact b90 rfl ((U80 ihs ihc ihe x h).good x.calm)
 |lrng b as ih =>
  intro lm G X E N sc x es h
  obtain⟨⟨⟨n,p,m,q,a,r,t⟩,rfl⟩,-,h⟩:=a40 h
  simp only[and_eq_true,beq_iff_eq] at h
  obtain⟨⟨⟨⟨⟨⟨h1,h2⟩,h3⟩,h4⟩,h5⟩,h7⟩,h6⟩:=h
  subst h1;subst h2
  cases a with
  |nil=>simp at h7
  |cons a l=>exact b90 rfl (s12 x h3 h4 h5 (ih x h6))
 |zget i k =>
  intro lm G X E N sc x es h
  obtain⟨⟨⟨n,p,j,c,q,r⟩,rfl⟩,-,h⟩:=a40 h
  simp only[and_eq_true,beq_iff_eq] at h
  obtain⟨⟨h1,h2⟩,h3⟩:=h
  have h3:j=(k:Int):=h3
  subst h3
  exact b90 rfl (r92 x h1 h2)
theorem sound(G:Gs)(t:Ex)(x:XI lm X G E N sc)(h:mt lm G.fns G.nums t sc N es=true):Good X G E t es:=s82 t x h
end
open Classical in
def hw(ow:Nat→Option Addr)(H:Hp):Hp:=λb=>if ∃ i,ow i=some b then none else H b
section
variable {K:PySem.W.Frag}{ow:Nat→Option Addr}{H H':Hp}
theorem k10:a30 (hw ow H) H:=λb o e=>by
 unfold hw at e
 split at e
 ·cases e
 ·exact e
theorem i40(h:H b=some o)(n:∀ i,ow i≠some b):hw ow H b=some o:=by
 unfold hw
 rw[if_neg (λ⟨i,e⟩=>n i e)]
 exact h
theorem E80(h:hw ow H b=some o):H b=some o∧∀ i,ow i≠some b:=by
 refine⟨k10 b o h,λi e=>?_⟩
 unfold hw at h
 rw[if_pos ⟨i,e⟩] at h
 cases h
theorem e00(e:a30 H H'):a30 (hw ow H) (hw ow H'):=λb o h=>by
 obtain⟨h1,h2⟩:=E80 h
 exact i40 (e b o h1) h2
theorem x90:hw (λ_=>none) H=H:=by
 funext b
 unfold hw
 rw[if_neg (λ⟨i,e⟩=>by cases e)]
theorem z61(h:SqT K H a xs)(hl:∀ i b,ow i=some b→∃ ys,H b=some (.lst ys)):SqT K (hw ow H) a xs:=by
 rcases h with (h | ⟨o,h⟩) | h
 ·refine .inl (.inl (i40 h λi e=>?_))
  obtain⟨ys,q⟩:=hl i a e
  rw[h] at q;cases q
 ·refine .inl (.inr ⟨o,i40 h λi e=>?_⟩)
  obtain⟨ys,q⟩:=hl i a e
  rw[h] at q;cases q
 ·exact .inr h
mutual
theorem N10(hl:∀ i b,ow i=some b→∃ ys,H b=some (.lst ys)):∀ {d:D}{v:V},bare d=true→Hd K H d v→Hd K (hw ow H) d v
 |.non,_,_,h=>by rw[h.n92];exact Hd.non
 |.bl _,_,_,h=>by rw[h.bl_];exact Hd.bl
 |.int _,_,_,h=>by rw[h.i20];exact Hd.int
 |.str _,_,_,h=>by rw[h.C72];exact Hd.str
 |.tup l,_,b,h=>by
  obtain⟨a,xs,rfl,h1,h2⟩:=h.B30
  exact Hd.tup (z61 h1 hl) (B60 hl (by simpa [bare] using b) h2)
 |.lst _,_,b,_=>by cases b
 |.dct,_,b,_=>by cases b
theorem B60(hl:∀ i b,ow i=some b→∃ ys,H b=some (.lst ys)):∀ {ds:List D}{vs:List V},t50 ds=true→HdA K H ds vs→HdA K (hw ow H) ds vs
 |[],_,_,h=>by rw[h.f40];exact .nil
 |d::ds,_,b,h=>by
  obtain⟨x,r,rfl,h1,h2⟩:=h.c00
  simp only[t50,and_eq_true] at b
  exact .cons (N10 hl b.1 h1) (B60 hl b.2 h2)
end
end
def RvW(K:PySem.W.Frag)(zA:Option Addr)(ow:Nat→Option Addr)(H:Hp)(i:Nat):S→V→Prop
 |.d x,v=>ow i=none∧Hd K (hw ow (hz zA H)) x v
 |.fr xs,v=>∃ a ys,ow i=some a∧v=.ref a∧H a=some (.lst ys)∧HdA K (hw ow (hz zA H)) xs ys
 |.z,v=>ow i=none∧∃ a,zA=some a∧v=.ref a
structure RW(K:PySem.W.Frag)(H0:Hp)(zE zA:Option Addr)(ow:Nat→Option Addr)(H:Hp)(ρ:Env)(σ:L2.St):Prop where
 len:ρ.length=σ.length
 inj:∀ i j a,ow i=some a→ow j=some a→i=j
 zne:∀ i a,ow i=some a→zA≠some a
 own:∀ i a,ow i=some a→∃ xs,ρ[i]?=some (some (.fr xs))
 wor:∀ i s,ρ[i]?=some (some s)→∃ v,σ[i]?=some (some v)∧RvW K zA ow H i s v
 ext:Ext zE H0 H
 zok:zA=zE∨(zE=none∧∀ a,zA=some a→H0 a=none)
 new:∀ i a,ow i=some a→H0 a=none
section
variable {K:PySem.W.Frag}{H0 H H':Hp}{zE zA:Option Addr}{ow:Nat→Option Addr}{ρ:Env}{σ:L2.St}
theorem RW.lst(r:RW K H0 zE zA ow H ρ σ):∀ i a,ow i=some a→∃ ys,H a=some (.lst ys):=λi a e=>by
 obtain⟨xs,h⟩:=r.own i a e
 obtain⟨v,h1,a',ys,h2,h3,h4,h5⟩:=r.wor i _ h
 rw[e] at h2;cases h2
 exact⟨ys,h4⟩
theorem RW.c42(r:RW K H0 zE zA ow H ρ σ):∀ i a,ow i=some a→∃ ys,hz zA H a=some (.lst ys):=λi a e=>by
 obtain⟨ys,h⟩:=r.lst i a e
 exact⟨ys,d90 h (r.zne i a e)⟩
theorem RvW.pl{i:Nat}{s:S}{v:V}(h:RvW K zA ow H i s v)(hz':∀ a,ow i=some a→zA≠some a):RvP K zA H s v:=by
 cases s with
 |d x=>exact h.2.same k10
 |z=>exact h.2
 |fr xs =>
  obtain⟨a,ys,h1,rfl,h3,h4⟩:=h
  exact Hd.lst (d90 h3 (hz' a h1)) (h4.same k10)
theorem RW.U90(r:RW K H0 zE zA ow H ρ σ):B50 K zA H ρ σ:=λi s e=>by
 obtain⟨v,h1,h2⟩:=r.wor i s e
 exact⟨v,h1,h2.pl λa q=>r.zne i a q⟩
theorem RvW.mono{i:Nat}{s:S}{v:V}(h:RvW K zA ow H i s v)(hz':∀ a,ow i=some a→zA≠some a)(x:Ext zA H H'):RvW K zA ow H' i s v:=by
 cases s with
 |d y=>exact⟨h.1,h.2.same (e00 x)⟩
 |z=>exact h
 |fr xs =>
  obtain⟨a,ys,h1,rfl,h3,h4⟩:=h
  exact⟨a,ys,h1,rfl,x.at h3 (hz' a h1),h4.same (e00 x)⟩
theorem S51(zA:Option Addr)(H:Hp):a30 (hz zA H) (hz none H):=λ_ _ h=>d90 (t60 h).1 (λq=>nomatch q) (v90 h)
theorem z71(e:Ext zE H0 H)(zok:zA=zE∨(zE=none∧∀ a,zA=some a→H0 a=none))(x:Ext zA H H'):Ext zE H0 H':=by
 rcases zok with rfl | ⟨rfl,hn⟩
 ·exact e.trans x
 ·refine⟨λb o h=>?_,λb ps h=>let ⟨qs,q⟩:=e.tbl b ps h;x.tbl b qs q⟩
  have h1:=e.same b o h
  refine d90 (x.at (t60 h1).1 (λq=>?_) (v90 h1)) (λq=>nomatch q) (v90 h1)
  have h0:=(t60 h).1
  rw[hn b q] at h0;cases h0
theorem RW.mono(r:RW K H0 zE zA ow H ρ σ)(x:Ext zA H H'):RW K H0 zE zA ow H' ρ σ :=
 ⟨r.len,r.inj,r.zne,r.own,λi s e=>let ⟨v,h1,h2⟩:=r.wor i s e;⟨v,h1,h2.mono (λa q=>r.zne i a q) x⟩,z71 r.ext r.zok x,r.zok,r.new⟩
theorem RW.young(r:RW K H0 zE zA ow H ρ σ)(h:H a=none)(n:zA≠some a):H0 a=none∧zE≠some a:=by
 have hE:zE≠some a:=λq=>by
  rcases r.zok with rfl | ⟨rfl,_⟩
  ·exact n q
  ·cases q
 exact⟨r.ext.free h hE,hE⟩
theorem RW.out(r:RW K H0 zE zA ow H ρ σ){s:S}{v:V}(hs:s≠.z)(x:Ext zA H H')(h:RvS K zA H H' s v):RvS K zE H0 H' s v:=by
 have sm:a30 (hz zA H') (hz zE H'):=by
  rcases r.zok with rfl | ⟨rfl,_⟩
  ·exact a30.refl _
  ·exact S51 _ _
 cases s with
 |d y=>exact Hd.same sm h
 |z=>exact absurd rfl hs
 |fr xs =>
  obtain⟨a,ys,rfl,h1,h2,h3,h4⟩:=h
  obtain⟨k1,k2⟩:=r.young h1 h2
  exact⟨a,ys,rfl,k1,k2,h3,h4.same (D40 λb o _ q=>sm b o q)⟩
theorem RW.S42(r:RW K H0 zE zA ow H ρ σ){i:Nat}{s:S}(hs:s≠.z)(e:ρ[i]?=some (some s)):∃ v,σ[i]?=some (some v)∧RvS K zE H0 H s v:=by
 obtain⟨v,h1,h2⟩:=r.wor i s e
 have sm:a30 (hz zA H) (hz zE H):=by
  rcases r.zok with rfl | ⟨rfl,_⟩
  ·exact a30.refl _
  ·exact S51 _ _
 refine⟨v,h1,?_⟩
 cases s with
 |d y=>exact Hd.same (a30.trans k10 sm) h2.2
 |z=>exact absurd rfl hs
 |fr xs =>
  obtain⟨a,ys,k1,rfl,k3,k4⟩:=h2
  have n:=r.zne i a k1
  have hE:zE≠some a:=λq=>by
   rcases r.zok with rfl | ⟨rfl,_⟩
   ·exact n q
   ·cases q
  refine⟨a,ys,rfl,r.new i a k1,hE,k3,k4.same λb o q=>?_⟩
  obtain⟨q1,q2⟩:=E80 q
  exact L50 (sm b o q1) λz=>q2 i (by rw[z];exact k1)
theorem RW.b01(r:RW K H0 zE zA ow H ρ σ):RW K H0 zE zA (λ_=>none) H (b01 ρ) σ:=by
 refine⟨by unfold Q.b01;rw[length_map];exact r.len,λi j a h=>(by cases h),λi a h=>(by cases h),λi a h=>(by cases h),λi s e=>?_,r.ext,r.zok,λi a h=>(by cases h)⟩
 unfold Q.b01 at e
 rw[List.getElem?_map] at e
 obtain⟨o,e1,e2⟩:=Option.map_eq_some_iff.mp e
 cases o with
 |none=>cases e2
 |some s0 =>
  cases e2
  obtain⟨v,h1,h2⟩:=r.U90 i s0 e1
  refine⟨v,h1,?_⟩
  cases s0 with
  |d y=>exact⟨rfl,by rw[x90];exact h2⟩
  |fr xs=>exact⟨rfl,by rw[x90];exact h2⟩
  |z=>exact⟨rfl,h2⟩
def ow0(ow:Nat→Option Addr)(i:Nat):Nat→Option Addr:=λj=>if j=i then none else ow j
def ow1(ow:Nat→Option Addr)(i:Nat)(a:Addr):Nat→Option Addr:=λj=>if j=i then some a else ow j
theorem RvW.move{ow':Nat→Option Addr}{j:Nat}{s:S}{v:V}(h:RvW K zA ow H j s v)(e:ow' j=ow j)(sm:a30 (hw ow (hz zA H)) (hw ow' (hz zA H')))(hk:∀ a,ow j=some a→H' a=H a):RvW K zA ow' H' j s v:=by
 cases s with
 |d y=>exact⟨by rw[e];exact h.1,h.2.same sm⟩
 |z=>exact⟨by rw[e];exact h.1,h.2⟩
 |fr xs =>
  obtain⟨a,ys,h1,rfl,h3,h4⟩:=h
  exact⟨a,ys,by rw[e];exact h1,rfl,by rw[hk a h1];exact h3,h4.same sm⟩
theorem getElem?_set'{α:Type}{l:List α}{i j:Nat}{x y:α}(h:(l.set i x)[j]?=some y):(j=i∧y=x∧i < l.length)∨(j≠i∧l[j]?=some y):=by
 by_cases hj:j=i
 ·subst hj
  have hlt:j < l.length:=by
   have:=(List.getElem?_eq_some_iff.mp h).1
   simpa using this
  rw[List.getElem?_set_self hlt] at h
  cases h
  exact .inl ⟨rfl,rfl,hlt⟩
 ·rw[List.getElem?_set_ne (Ne.symm hj)] at h
  exact .inr ⟨hj,h⟩
theorem RW.S52(r:RW K H0 zE zA ow H ρ σ){i:Nat}(h:Hd K (hw ow (hz zA H)) x v):RW K H0 zE zA (ow0 ow i) H (ρ.set i (some (.d x))) (σ.set i (some v)):=by
 have sub:∀ j a,ow0 ow i j=some a→j≠i∧ow j=some a:=λj a e=>by
  unfold ow0 at e
  split at e
  ·cases e
  ·rename_i n;exact⟨n,e⟩
 have sm:a30 (hw ow (hz zA H)) (hw (ow0 ow i) (hz zA H)):=λb o e=>by
  obtain⟨e1,e2⟩:=E80 e
  exact i40 e1 λj q=>e2 j (sub j b q).2
 refine⟨by rw[length_set,length_set];exact r.len,λj k a h1 h2=>r.inj j k a (sub j a h1).2 (sub k a h2).2,λj a h1=>r.zne j a (sub j a h1).2,λj a h1=>?_,λj s e=>?_,r.ext,r.zok,λj a h1=>r.new j a (sub j a h1).2⟩
 ·obtain⟨n,h2⟩:=sub j a h1
  obtain⟨xs,h3⟩:=r.own j a h2
  exact⟨xs,by rw[List.getElem?_set_ne (Ne.symm n)];exact h3⟩
 ·rcases getElem?_set' e with ⟨rfl,e1,hlt⟩ | ⟨n,e1⟩
  ·cases e1
   exact⟨v,List.getElem?_set_self (by rw[← r.len];exact hlt),by unfold ow0;exact if_pos rfl,h.same sm⟩
  ·obtain⟨w,h1,h2⟩:=r.wor j s e1
   exact⟨w,by rw[List.getElem?_set_ne (Ne.symm n)];exact h1,h2.move (by unfold ow0;exact if_neg n) sm λ_ _=>rfl⟩
theorem RW.S62(r:RW K H0 zE zA ow H ρ σ){i:Nat}(h:∃ a,zA=some a∧v=.ref a):RW K H0 zE zA (ow0 ow i) H (ρ.set i (some .z)) (σ.set i (some v)):=by
 have sub:∀ j a,ow0 ow i j=some a→j≠i∧ow j=some a:=λj a e=>by
  unfold ow0 at e
  split at e
  ·cases e
  ·rename_i n;exact⟨n,e⟩
 have sm:a30 (hw ow (hz zA H)) (hw (ow0 ow i) (hz zA H)):=λb o e=>by
  obtain⟨e1,e2⟩:=E80 e
  exact i40 e1 λj q=>e2 j (sub j b q).2
 refine⟨by rw[length_set,length_set];exact r.len,λj k a h1 h2=>r.inj j k a (sub j a h1).2 (sub k a h2).2,λj a h1=>r.zne j a (sub j a h1).2,λj a h1=>?_,λj s e=>?_,r.ext,r.zok,λj a h1=>r.new j a (sub j a h1).2⟩
 ·obtain⟨n,h2⟩:=sub j a h1
  obtain⟨xs,h3⟩:=r.own j a h2
  exact⟨xs,by rw[List.getElem?_set_ne (Ne.symm n)];exact h3⟩
 ·rcases getElem?_set' e with ⟨rfl,e1,hlt⟩ | ⟨n,e1⟩
  ·cases e1
   exact⟨v,List.getElem?_set_self (by rw[← r.len];exact hlt),by unfold ow0;exact if_pos rfl,h⟩
  ·obtain⟨w,h1,h2⟩:=r.wor j s e1
   exact⟨w,by rw[List.getElem?_set_ne (Ne.symm n)];exact h1,h2.move (by unfold ow0;exact if_neg n) sm λ_ _=>rfl⟩
theorem RW.S72(r:RW K H0 zE zA ow H ρ σ){i:Nat}(x:Ext zA H H')(hn:H a=none)(za:zA≠some a)(hl:H' a=some (.lst ys))(h:HdA K (hw (ow1 ow i a) (hz zA H')) xs ys)(hi:i < ρ.length) :
  RW K H0 zE zA (ow1 ow i a) H' (ρ.set i (some (.fr xs))) (σ.set i (some (.ref a))):=by
 have r':=r.mono x
 have old:∀ j b,ow j=some b→b≠a:=λj b e q=>by
  obtain⟨zs,h1⟩:=r.lst j b e
  rw[q,hn] at h1;cases h1
 have sub:∀ j b,ow1 ow i a j=some b→(j=i∧b=a)∨(j≠i∧ow j=some b):=λj b e=>by
  unfold ow1 at e
  split at e
  ·rename_i n;cases e;exact .inl ⟨n,rfl⟩
  ·rename_i n;exact .inr ⟨n,e⟩
 have sm:a30 (hw ow (hz zA H)) (hw (ow1 ow i a) (hz zA H')):=λb o e=>by
  obtain⟨e1,e2⟩:=E80 e
  have e3:=(t60 e1).1
  have hb:b≠a:=λq=>by rw[q,hn] at e3;cases e3
  refine i40 (x b o e1) λj q=>?_
  rcases sub j b q with ⟨_,q⟩ | ⟨_,q⟩
  ·exact hb q
  ·exact e2 j q
 refine⟨by rw[length_set,length_set];exact r.len,λj k b h1 h2=>?_,λj b h1=>?_,λj b h1=>?_,λj s e=>?_,r'.ext,r.zok,λj b h1=>?_⟩
 ·rcases sub j b h1 with ⟨q1,q2⟩ | ⟨q1,q2⟩
  ·rcases sub k b h2 with ⟨p1,p2⟩ | ⟨p1,p2⟩
   ·rw[q1,p1]
   ·exact absurd q2 (old k b p2)
  ·rcases sub k b h2 with ⟨p1,p2⟩ | ⟨p1,p2⟩
   ·exact absurd p2 (old j b q2)
   ·exact r.inj j k b q2 p2
 ·rcases sub j b h1 with ⟨_,q2⟩ | ⟨_,q2⟩
  ·rw[q2];exact za
  ·exact r.zne j b q2
 ·rcases sub j b h1 with ⟨q1,q2⟩ | ⟨q1,q2⟩
  ·rw[q1];exact⟨xs,List.getElem?_set_self hi⟩
  ·obtain⟨zs,h3⟩:=r.own j b q2
   exact⟨zs,by rw[List.getElem?_set_ne (Ne.symm q1)];exact h3⟩
 ·rcases getElem?_set' e with ⟨rfl,e1,hlt⟩ | ⟨n,e1⟩
  ·cases e1
   exact⟨.ref a,List.getElem?_set_self (by rw[← r.len];exact hlt),a,ys,by unfold ow1;exact if_pos rfl,rfl,hl,h⟩
  ·obtain⟨w,h1,h2⟩:=r.wor j s e1
   refine⟨w,by rw[List.getElem?_set_ne (Ne.symm n)];exact h1,h2.move (by unfold ow1;exact if_neg n) sm λb q=>?_⟩
   obtain⟨zs,k⟩:=r.lst j b q
   rw[k]
   exact x.at k (r.zne j b q)
 ·rcases sub j b h1 with ⟨_,q2⟩ | ⟨_,q2⟩
  ·rw[q2];exact(r.young hn za).1
  ·exact r.new j b q2
theorem RW.upd(r:RW K H0 zE zA ow H ρ σ){i:Nat}(e:ow i=some a)(h:HdA K (hw ow (hz zA H)) xs ys):RW K H0 zE zA ow (upd H a (.lst ys)) (ρ.set i (some (.fr xs))) σ:=by
 have za:=r.zne i a e
 have sm:a30 (hw ow (hz zA H)) (hw ow (hz zA (L2.upd H a (.lst ys)))):=λb o q=>by
  obtain⟨e1,e2⟩:=E80 q
  obtain⟨e3,e4⟩:=t60 e1
  have hb:b≠a:=λz=>e2 i (by rw[z];exact e)
  exact i40 (d90 (by rw[a50 hb];exact e3) e4 (v90 e1)) e2
 obtain⟨xs0,h0⟩:=r.own i a e
 have hi:i < ρ.length:=(List.getElem?_eq_some_iff.mp h0).1
 obtain⟨v0,s0,a0,ys0,q1,q2,q3,q4⟩:=r.wor i _ h0
 rw[e] at q1;cases q1
 refine⟨by rw[length_set];exact r.len,r.inj,r.zne,λj b h1=>?_,λj s q=>?_,⟨λb o q=>?_,λb ps q=>?_⟩,r.zok,r.new⟩
 ·by_cases hj:j=i
  ·subst hj;exact⟨xs,List.getElem?_set_self hi⟩
  ·obtain⟨zs,h3⟩:=r.own j b h1
   exact⟨zs,by rw[List.getElem?_set_ne (Ne.symm hj)];exact h3⟩
 ·rcases getElem?_set' q with ⟨rfl,e1,hlt⟩ | ⟨n,e1⟩
  ·cases e1
   exact⟨v0,s0,a,ys,e,q2,c70,h.same sm⟩
  ·obtain⟨w,h1,h2⟩:=r.wor j s e1
   refine⟨w,h1,h2.move rfl sm λb q=>?_⟩
   have hb:b≠a:=λz=>n (r.inj j i b q (by rw[z];exact e))
   exact a50 hb
 ·obtain⟨e1,e2⟩:=t60 (r.ext b o q)
  have hb:b≠a:=λz=>by
   have:=(t60 q).1
   rw[z,r.new i a e] at this;cases this
  exact d90 (by rw[a50 hb];exact e1) e2 (v90 q)
 ·obtain⟨qs,e1⟩:=r.ext.tbl b ps q
  have hb:b≠a:=λz=>by rw[z,q3] at e1;cases e1
  exact⟨qs,by rw[a50 hb];exact e1⟩
end
end Q
namespace Q
open PySem L2 PySem.Spec PyProof.Rows
variable [TB:Tb]
def y32:Option Addr→Z→Z
 |none,_=>none
 |some _,z=>z
def s00(K:PySem.W.Frag)(G:Gs)(E:XK)(H0:Hp)(zE:Option Addr)(B:Hp)(D:Ends):R O→Prop
 |.ok (.nx ρ) z=>∀ zA ow σ H,RW K H0 zE zA ow H ρ σ→e50 zA z H→a30 B (hw ow (hz zA H))→D.nx σ H
 |.ok (.rt s) z=>∀ v H,s≠.z→Ext zE H0 H→e50 zE (y32 zE z) H→RvS K zE H0 H s v→D.rt v H
 |.er c z=>∀ e H,Ext zE H0 H→e50 zE (y32 zE z) H→H e=none→E (.ref (G.cls c)) (some e) H
def tX(K:PySem.W.Frag)(G:Gs)(E:XK)(H0:Hp)(zE:Option Addr)(x:Sm):TS:=λD σ H=>∃ zA ow ρ z r,RW K H0 zE zA ow H ρ σ∧e50 zA z H∧ex G.F zE.isNone x ρ z=some r∧s00 K G E H0 zE (hw ow (hz zA H)) D r
section
variable {K:PySem.W.Frag}{G:Gs}{E:XK}{H0 H H':Hp}{zE zA:Option Addr}{ow:Nat→Option Addr}{ρ:Env}{σ:L2.St}{Dn:Ends}{z:Z}
theorem i02(zok:zA=zE∨(zE=none∧∀ a,zA=some a→H0 a=none))(st:e50 zA z H):e50 zE (y32 zE z) H:=by
 cases zE with
 |none=>exact⟨trivial,st.tab⟩
 |some a =>
  rcases zok with rfl | ⟨h,_⟩
  ·exact st
  ·cases h
theorem s00.er_(po:s00 K G E H0 zE B Dn (.er c z))(r:RW K H0 zE zA ow H ρ σ):EPost G zA E c z H:=λe H' x st n=>po e H' (z71 r.ext r.zok x) (i02 r.zok st) n
theorem s00.ers(po:s00 K G E H0 zE B Dn rr)(r:RW K H0 zE zA ow H ρ σ):∀ c z1,rr=.er c z1→EPost G zA E c z1 H:=λc z1 e=>by subst e;exact po.er_ r
theorem s00.mono(po:s00 K G E H0 zE B Dn rr)(h:a30 B B'):s00 K G E H0 zE B' Dn rr:=by
 match rr,po with
 |.ok (.nx _) _,po=>exact λzA ow σ H r st sm=>po zA ow σ H r st (a30.trans h sm)
 |.ok (.rt _) _,po=>exact po
 |.er _ _,po=>exact po
theorem B70(ow:Nat→Option Addr)(i:Nat):a30 (hw ow H) (hw (ow0 ow i) H):=λb o e=>by
 obtain⟨e1,e2⟩:=E80 e
 refine i40 e1 λj q=>?_
 unfold ow0 at q
 split at q
 ·cases q
 ·exact e2 j q
theorem E90(ow:Nat→Option Addr):a30 (hw ow H) (hw (λ_=>none) H):=λb o e=>i40 (E80 e).1 λj q=>nomatch q
theorem N01(x:Ext zA H H')(hn:H a=none)(i:Nat):a30 (hw ow (hz zA H)) (hw (ow1 ow i a) (hz zA H')):=λb o e=>by
 obtain⟨e1,e2⟩:=E80 e
 have e3:=(t60 e1).1
 have hb:b≠a:=λq=>by rw[q,hn] at e3;cases e3
 refine i40 (x b o e1) λj q=>?_
 unfold ow1 at q
 split at q
 ·cases q;exact hb rfl
 ·exact e2 j q
theorem c81(e:ow i=some a):a30 (hw ow (hz zA H)) (hw ow (hz zA (upd H a o))):=λb u q=>by
 obtain⟨e1,e2⟩:=E80 q
 obtain⟨e3,e4⟩:=t60 e1
 have hb:b≠a:=λw=>e2 i (by rw[w];exact e)
 exact i40 (d90 (by rw[a50 hb];exact e3) e4 (v90 e1)) e2
mutual
theorem N11:∀ {p:Pat}{d:D}{ρ ρ':Env},f20 p d ρ=some ρ'→∀ {ow:Nat→Option Addr}{σ:L2.St}{v:V}{R:L2.St→Hp→Prop},RW K H0 zE zA ow H ρ σ→Hd K (hw ow (hz zA H)) d v →
  (∀ ow' σ',RW K H0 zE zA ow' H ρ' σ'→a30 (hw ow (hz zA H)) (hw ow' (hz zA H))→R σ' H)→gP K p v σ H R
 |.v i,d,ρ,ρ',e,ow,σ,v,R,r,hd,k=>by
  unfold f20 at e
  cases e
  unfold gP
  exact k _ _ (r.S52 hd) (B70 ow i)
 |.tup ps,d,ρ,ρ',e,ow,σ,v,R,r,hd,k=>by
  unfold f20 at e
  cases d with
  |tup l =>
   obtain⟨a,xs,rfl,h1,h2⟩:=hd.B30
   unfold gP
   exact⟨a,xs,rfl,(a20 zA H).sqT (a30.sqT k10 h1),by rw[h2.length];exact E70 e,z81 e r h2 k⟩
  |_=>cases e
 |.nil,_,_,_,e,_,_,_,_,_,_,_=>by unfold f20 at e;cases e
 |.cons _ _,_,_,_,e,_,_,_,_,_,_,_=>by unfold f20 at e;cases e
theorem z81:∀ {r:Pat}{l:List D}{ρ ρ':Env},bindL r l ρ=some ρ'→∀ {ow:Nat→Option Addr}{σ:L2.St}{vs:List V}{R:L2.St→Hp→Prop},RW K H0 zE zA ow H ρ σ→HdA K (hw ow (hz zA H)) l vs →
  (∀ ow' σ',RW K H0 zE zA ow' H ρ' σ'→a30 (hw ow (hz zA H)) (hw ow' (hz zA H))→R σ' H)→gL K r vs σ H R
 |.nil,l,ρ,ρ',e,ow,σ,vs,R,r,hd,k=>by
  unfold bindL at e
  cases l with
  |nil =>
   cases e
   unfold gL
   exact⟨hd.f40,k ow σ r (a30.refl _)⟩
  |cons x l=>cases e
 |.cons p q,l,ρ,ρ',e,ow,σ,vs,R,r,hd,k=>by
  unfold bindL at e
  cases l with
  |nil=>cases e
  |cons x l =>
   obtain⟨ρ1,e1,e2⟩:=Option.bind_eq_some_iff.mp e
   obtain⟨v,ws,rfl,h1,h2⟩:=hd.c00
   unfold gL
   exact⟨v,ws,rfl,N11 e1 r h1 λow' σ' r' sm=>z81 e2 r' (h2.same sm) λow2 σ2 r2 sm2=>k ow2 σ2 r2 (a30.trans sm sm2)⟩
 |.v _,_,_,_,e,_,_,_,_,_,_,_=>by unfold bindL at e;cases e
 |.tup _,_,_,_,e,_,_,_,_,_,_,_=>by unfold bindL at e;cases e
end
theorem z91(r:RW K H0 zE zA ow H ρ σ)(s:S):∃ ow',RW K H0 zE zA ow' H (o70 s ρ) σ∧a30 (hw ow (hz zA H)) (hw ow' (hz zA H))∧(T50 s=true∨∀ i,ow' i=none):=by
 unfold o70
 rw[i01]
 cases hb:T50 s with
 |true=>exact⟨ow,r,a30.refl _,.inl rfl⟩
 |false=>exact⟨_,r.b01,E90 ow,.inr λ_=>rfl⟩
theorem j81{p:Pat}{s:S}{v:V}{ρ':Env}{R:L2.St→Hp→Prop}(r:RW K H0 zE zA ow H ρ σ)(x:Ext zA H H')(rv:RvS K zA H H' s v)(e:T60 p s (o70 s ρ)=some ρ')
  (k:∀ ow' σ',RW K H0 zE zA ow' H' ρ' σ'→a30 (hw ow (hz zA H)) (hw ow' (hz zA H'))→R σ' H'):gP K p v σ H' R:=by
 obtain⟨owk,r1,s1,b1⟩:=z91 r s
 have r2:=r1.mono x
 have s2:a30 (hw ow (hz zA H)) (hw owk (hz zA H')):=a30.trans s1 (e00 x)
 cases s with
 |d y =>
  have e':f20 p y (o70 (.d y) ρ)=some ρ':=by cases p <;> exact e
  refine N11 e' r2 ?_ λow' σ' r3 s3=>k ow' σ' r3 (a30.trans s2 s3)
  rcases b1 with b1 | b1
  ·exact N10 r2.c42 b1 rv
  ·have:owk=λ_=>none:=funext b1
   subst this
   rw[x90];exact rv
 |z =>
  cases p with
  |v i =>
   simp only[T60] at e
   split at e
   ·cases e
    unfold gP
    exact k _ _ (r2.S62 rv) (a30.trans s2 (B70 owk i))
   ·cases e
  |_=>cases e
 |fr xs =>
  cases p with
  |v i =>
   simp only[T60] at e
   split at e
   ·rename_i hi
    cases e
    unfold gP
    obtain⟨a,ys,rfl,h1,h2,h3,h4⟩:=rv
    refine k _ _ (r1.S72 x h1 h2 h3 ?_ hi) (a30.trans s1 (N01 x h1 i))
    rcases b1 with b1 | b1
    ·refine B60 (λj b q=>?_) b1 (h4.same (f10 a _))
     unfold ow1 at q
     split at q
     ·cases q;exact⟨ys,d90 h3 h2⟩
     ·exact r2.c42 j b q
    ·refine h4.same λb o q=>?_
     have hb:b≠a:=λw=>by subst w;unfold hide at q;rw[if_pos rfl] at q;cases q
     refine i40 (f10 a _ b o q) λj w=>?_
     unfold ow1 at w
     split at w
     ·cases w;exact hb rfl
     ·rw[b1 j] at w;cases w
   ·cases e
  |_=>cases e
end
end Q
namespace Q
open PySem L2 PySem.Spec PyProof.Rows
variable [TB:Tb]
theorem c52(h:n40 v=false):swappedStores [tg] v env=pure none:=by
 cases v <;> first | (cases h;done) | (cases tg <;> rfl)
theorem c62(h:vs.all (foldedForSure 8)=true):swappedStores [.Tuple ts k p] (.Tuple vs k' p') env=pure none:=by
 unfold swappedStores
 simp only[h,if_true]
 split
 ·rfl
 ·split
  ·rfl
  ·split
   ·rfl
   ·rfl
def A01(look:Str→Option NameKind):Expr→Bool
 |.Name id _=>look id != some .local
 |_=>true
theorem c72(h:ts.any (A01 env.kindOf)=true):swappedStores [.Tuple ts k p] (.Tuple vs k' p') env=pure none:=by
 have hl:∀ (l:Nat) (ts:List Expr),ts.any (A01 env.kindOf)=true→(ts.filterMap fun
   |.Name id pos=>if env.kindOf id == some .local&&pos.line == l then some id else none
   |_=>none).length < ts.length:=by
  intro l ts
  induction ts with
  |nil=>intro h;cases h
  |cons e r ih =>
   intro h
   have le:=List.length_filterMap_le (fun
    |.Name id pos=>if env.kindOf id == some .local&&pos.line == l then some id else none
    |_=>none:Expr→Option Str) r
   rw[List.any_cons,or_eq_true] at h
   rw[filterMap_cons]
   split
   ·rw[length_cons];omega
   ·rename_i b hb
    rcases h with h | h
    ·exfalso
     cases e with
     |Name id pos =>
      have h':(env.kindOf id != some .local)=true:=h
      simp only[bne_iff_ne,ne_eq] at h'
      simp[h'] at hb
     |_=>cases hb
    ·have:=ih h
     rw[length_cons,length_cons];omega
 unfold swappedStores
 dsimp only
 split
 ·rfl
 ·split
  ·rfl
  ·have:=hl ((ts.head?.map (·.pos.line)).getD 0) ts h
   rw[if_pos]
   simp only[or_eq_true,bne_iff_ne,ne_eq]
   exact .inl (Nat.ne_of_lt this)
theorem s92{x y:Str}{a b:Expr}{px py pt pt2:Pos}{k k2:Nat}{env:PySem.Env}(hb:env.blockKind=.function)(hx:env.kindOf x=some .local)(hy:env.kindOf y=some .local)(hxy:(x == y)=false)(hl:(py.line == px.line)=true)
  (ha:noStar a=true) (hb':noStar b=true) (hf:[a,b].all (foldedForSure 8)=false) (hc:[a,b].all (constantsAlone 8)=false) :
  swappedStores [.Tuple [.Name x px,.Name y py] k pt] (.Tuple [a,b] k2 pt2) env=pure (some [x,y]):=by
 have hbk:(env.blockKind != .function)=false:=by rw[hb];rfl
 have e1:(x == x)=true:=beq_self_eq_true x
 have hyx:(y == x)=false:=by
  cases h:y == x with
  |false=>rfl
  |true=>rw[beq_iff_eq] at h;subst h;rw[e1] at hxy;cases hxy
 have hl2:(Expr.Name x px).pos.line=px.line:=rfl
 have hl3:(Expr.Name y py).pos.line=py.line:=rfl
 have hl':py.line=px.line:=by simpa using hl
 unfold swappedStores
 simp only[List.filterMap,List.head?,Option.map,Option.getD,hx,hy,hf,hc,hbk,hl2,hl']
 simp[List.eraseDups,List.eraseDupsBy,List.eraseDupsBy.loop,hyx,hxy]
 intro h
 rcases h with h | h
 ·cases a <;> first | (cases h;done) | (cases ha;done)
 ·cases b <;> first | (cases h;done) | (cases hb';done)
def V00:Expr→Bool
 |.ListComp ..=>false
 |.SetComp ..=>false
 |.DictComp ..=>false
 |_=>true
theorem w20(h:V00 v=true)(t:Option Expr):swapsWith v t n env=pure false:=by
 cases v <;> first | rfl | (cases h;done)
theorem V10(h:(match tg with | .Name ..=>true | _=>false)=false):swapsWith v (some tg) n env=pure false:=by
 cases v <;> first | rfl | (cases tg <;> first | rfl | (cases h;done))
theorem N21{el:Expr}{gs:List Comprehension}{sc:Scope}{p px:Pos}{t:Str}{n:Nat}{env:PySem.Env}:∃ b,swapsWith (.ListComp el gs sc p) (some (.Name t px)) n env=pure b:=⟨_,rfl⟩
structure XS(lm:Bool)(X:Cx)(G:Gs)(E:XK)(N:List Str)(sc:Scope)(cn:List Str):Prop extends XI lm X G E N sc where
 sco:X.env.scope=sc
 fnk:sc.kind=.function
 own:PassesOwn (model X.prog X.w) X.A X.env X.xe
 can:L90 X E
 fnx:∀ x,X.fn x=true
 cls:∀ c x,cn[c]?=some x→X.mg x=some (.ref (G.cls c))∧PySem.W.excIn X.K (G.cls c) [.type "ValueError",.type "Exception",.type "BaseException",.type "object"] "ValueError.__new__"=true
def N20(sc:Scope)(x:Str):Bool:=sc.names.lookup x == some .local || sc.names.lookup x == some .cell
section
variable {lm:Bool}{X:Cx}{G:Gs}{E:XK}{N:List Str}{sc:Scope}{cn:List Str}{H0:Hp}{zE:Option Addr}
theorem XS.loc(x:XS lm X G E N sc cn):M51 X N (N20 sc):=by
 refine⟨x.hN,x.nd,λy h=>?_,λy _=>.inl (x.fnx y),x.calm⟩
 unfold N20 at h
 rw[or_eq_true,beq_iff_eq,beq_iff_eq] at h
 rw[x.sco];exact h
theorem XS.bk(x:XS lm X G E N sc cn):X.env.blockKind=.function:=by
 unfold Env.blockKind
 rw[x.sco,x.fnk];rfl
theorem PS.imp{st:Stmt}{t t':TS}(h:PS X st t)(i:∀ D σ H,t' D σ H→t D σ H):PS X st t':=λpins s σ H D I q=>h pins s σ H D I (i _ _ _ q)
theorem PSs.imp{st:List Stmt}{t t':TS}(h:PSs X st t)(i:∀ D σ H,t' D σ H→t D σ H):PSs X st t':=λpins s σ H D I q=>h pins s σ H D I (i _ _ _ q)
theorem PI.imp(h:PI X tg e t)(i:∀ σ H R,t' σ H R→t σ H R):PI X tg e t':=λpins s σ H R I q=>h pins s σ H R I (i _ _ _ q)
theorem G32:PSs X [] (tX X.K G E H0 zE .nil):=PSs.imp U51 λD σ H q=>by
 obtain⟨zA,ow,ρ,z,r,rw,st,e,po⟩:=q
 cases e
 exact po zA ow σ H rw st (a30.refl _)
theorem G42{s r:Sm}{st:Stmt}{rest:List Stmt}(h1:PS X st (tX X.K G E H0 zE s))(h2:PSs X rest (tX X.K G E H0 zE r)):PSs X (st::rest) (tX X.K G E H0 zE (.seq s r)):=PSs.imp (G91 h1 h2) λD σ H q=>by
 obtain⟨zA,ow,ρ,z,rr,rw,st,e,po⟩:=q
 have e0:M.bind (ex G.F zE.isNone s ρ) (λo=>match o with | .nx ρ=>ex G.F zE.isNone r ρ | .rt s=>M.ret (.rt s)) z=some rr:=e
 rcases M.bind_some e0 with ⟨o,z1,e1,e2⟩ | ⟨c,z1,e1,e2⟩
 ·refine⟨zA,ow,ρ,z,_,rw,st,e1,?_⟩
  cases o with
  |nx ρ1=>exact λzA' ow' σ' H' rw' st' sm=>⟨zA',ow',ρ1,z1,rr,rw',st',e2,po.mono sm⟩
  |rt s=>cases e2;exact po
 ·subst e2
  exact⟨zA,ow,ρ,z,_,rw,st,e1,po⟩
theorem S61{p:Pat}{e:Ex}{D:Ends}{σ:L2.St}{H:Hp}(q:tX X.K G E H0 zE (.set p e) D σ H):k52 (tI X.K G E e) (gP X.K p) D σ H:=by
 obtain⟨zA,ow,ρ,z,rr,rw,st,ee,po⟩:=q
 refine l40 rw.U90 st ee (po.ers rw) λl z1 e1=>?_
 obtain⟨s,hs,e2⟩:=M.a10 e1
 refine⟨s,E60 hs,λv H1 x1 st1 rv=>?_⟩
 obtain⟨ρ',hb,e3⟩:=M.a10 e2
 cases e3
 exact j81 rw x1 rv hb λow' σ' r' sm=>po zA ow' σ' H1 r' st1 sm
theorem L42{K:PySem.W.Frag}{i:Nat}:gP K (.v i)=m51 i:=by unfold gP;rfl
theorem G52(x:XS lm X G E N sc cn){i:Nat}{e:Ex}{y:Str}{v:Expr}{px pos:Pos}(hi:N[i]?=some y)(hl:N20 sc y=true)(g:a80 X G E e v)
  (hc:∀ elt gs csc q,v=.ListComp elt gs csc q→∃ tg iter ifs,gs=[⟨tg,iter,ifs,0⟩]∧I70 X G E e elt tg iter ifs csc) (hno:∀ a b c d,v≠.SetComp a b c d) (hnd:∀ a b c d f,v≠.DictComp a b c d f) :
  PS X (.Assign [.Name y px] v pos) (tX X.K G E H0 zE (.set (.v i) e)):=by
 have L:=x.loc
 refine PS.imp (t:=k52 (tI X.K G E e) (m51 i)) ?_ λD σ H q=>by rw[← L42 (K:=X.K)];exact S61 q
 have h1:X.N.Nodup:=by rw[x.hN];exact x.nd
 have h2:X.N[i]?=some y:=by rw[x.hN];exact hi
 by_cases hv:∃ elt gs csc q,v=.ListComp elt gs csc q
 ·obtain⟨elt,gs,csc,q,rfl⟩:=hv
  obtain⟨b,hb⟩:=N21 (el:=elt) (gs:=gs) (sc:=csc) (p:=q) (px:=px) (t:=y) (n:=pos.line) (env:=X.env)
  cases b with
  |false=>exact r11 h1 h2 (L.lc y hl) g.pe hb (L.fn y hl)
  |true =>
   obtain⟨tg,iter,ifs,rfl,own,capt,wi,gg,tt,te,k1,k2,k3,k4,k5,k6,k7⟩:=hc elt gs csc q rfl
   refine PS.imp (W61 h1 h2 (L.lc y hl) hb x.calm k1 k2 k3 k4 k5 k6 (L.fn y hl)) λD σ H q=>k7 _ _ _ q
 ·exact r11 h1 h2 (L.lc y hl) g.pe (w20 (by cases v <;> first | rfl | exact absurd rfl (hno _ _ _ _) | exact absurd rfl (hnd _ _ _ _ _) | exact absurd ⟨_,_,_,_,rfl⟩ hv) _) (L.fn y hl)
theorem A11(x:XS lm X G E N sc cn){p:Pat}{e:Ex}{tg v:Expr}{pos:Pos}(hp:j40 N (N20 sc) p tg=true)(g:a80 X G E e v)(ht:n40 tg=true)(hv:swappedStores [tg] v X.env=pure none) :
  PS X (.Assign [tg] v pos) (tX X.K G E H0 zE (.set p e)):=by
 refine PS.imp (P91 g.pe (y31 x.loc hp) ?_ hv ?_) λD σ H q=>S61 q
 ·exact V10 (by cases tg <;> first | rfl | (cases ht;done))
 ·cases tg <;> first | rfl | (cases ht;done)
theorem G62(x:XS lm X G E N sc cn){i j:Nat}{ea eb:Ex}{a b:Expr}{y w:Str}{px py pt pt2 pos:Pos}{k k2:Nat}(hi:N[i]?=some y)(hj:N[j]?=some w)(hyw:(y == w)=false)(hy:sc.names.lookup y=some .local)(hw':sc.names.lookup w=some .local)
  (g:Good X G E (.cons ea (.cons eb .nil)) [a,b]) (hs:swappedStores [.Tuple [.Name y px,.Name w py] k pt] (.Tuple [a,b] k2 pt2) X.env=pure (some [y,w])) :
  PS X (.Assign [.Tuple [.Name y px,.Name w py] k pt] (.Tuple [a,b] k2 pt2) pos) (tX X.K G E H0 zE (.set (.tup (.cons (.v i) (.cons (.v j) .nil))) (.tup (.cons ea (.cons eb .nil))))):=by
 have hij:i≠j:=λh=>by
  subst h
  rw[hi] at hj;cases hj
  rw[beq_self_eq_true] at hyw;cases hyw
 refine PS.imp (k62 x.calm (by rw[x.hN];exact x.nd) (by rw[x.hN];exact hi) (by rw[x.hN];exact hj) hij (by rw[x.sco];exact hy) (by rw[x.sco];exact hw') (g.args rfl).1 hs rfl) λD σ H q=>?_
 obtain⟨zA,ow,ρ,z,rr,rw,st,ee,po⟩:=q
 have e0:M.bind (M.bind (ev G.F (.cons ea (.cons eb .nil)) ρ) λl=>M.bind (M.of (plA l)) λds=>if ds.length≤most then M.ret [S.d (.tup ds)] else M.no) (λl=>M.bind (M.of (one l)) λs=>M.bind (M.of (T60 (.tup (.cons (.v i) (.cons (.v j) .nil))) s (o70 s ρ))) λρ=>M.ret (O.nx ρ)) z=some rr:=ee
 rcases M.bind_some e0 with ⟨l0,z0,e1,e2⟩ | ⟨c,z1,e1,e2⟩
 ·rcases M.bind_some e1 with ⟨l,z1,e3,e4⟩ | ⟨c,z1,e3,e4⟩
  ·obtain⟨ds,hds,e5⟩:=M.a10 e4
   split at e5
   ·cases e5
    obtain⟨s,hs',e6⟩:=M.a10 e2
    cases hs'
    obtain⟨ρ',hb,e7⟩:=M.a10 e6
    cases e7
    refine⟨zA,ρ,z,_,rw.U90,st,e3,λvs H1 x1 st1 rvs=>?_⟩
    have hd:=H40 rvs hds
    obtain⟨owk,r1,s1,b1⟩:=z91 rw (.d (.tup ds))
    have hb':bindL (.cons (.v i) (.cons (.v j) .nil)) ds (o70 (.d (.tup ds)) ρ)=some ρ':=by
     have:f20 (.tup (.cons (.v i) (.cons (.v j) .nil))) (.tup ds) (o70 (.d (.tup ds)) ρ)=some ρ':=hb
     unfold f20 at this;exact this
    have r2:=r1.mono x1
    have hd2:HdA X.K (hw owk (hz zA H1)) ds vs:=by
     rcases b1 with b1 | b1
     ·exact B60 r2.c42 (by simpa [T50,bare] using b1) hd
     ·have:owk=λ_=>none:=funext b1
      subst this
      rw[x90];exact hd
    have:=z81 hb' (R:=D.nx) r2 hd2 λow' σ' r' sm=>po zA ow' σ' H1 r' st1 (a30.trans s1 (a30.trans (e00 x1) sm))
    unfold gL at this
    obtain⟨v,vr,rfl,this⟩:=this
    unfold gP gL at this
    obtain⟨u,ur,rfl,this⟩:=this
    unfold gP gL at this
    obtain⟨rfl,this⟩:=this
    exact⟨v,u,rfl,this⟩
   ·cases e5
  ·cases e4
 ·subst e2
  rcases M.bind_some e1 with ⟨l,z2,e3,e4⟩ | ⟨c,z2,e3,e4⟩
  ·obtain⟨ds,hds,e5⟩:=M.a10 e4
   split at e5 <;> cases e5
  ·cases e4
   exact⟨zA,ρ,z,_,rw.U90,st,e3,po.er_ rw⟩
theorem S71{s t:S}(h:noS s=some t):s=t∧t≠.z:=by
 cases s with
 |z=>cases h
 |d _=>cases h;exact⟨rfl,λh=>nomatch h⟩
 |fr _=>cases h;exact⟨rfl,λh=>nomatch h⟩
theorem t02(x:XS lm X G E N sc cn){i:Nat}{n:Str}{p pos:Pos}(h1:N[i]?=some n)(h2:d80 n=true):PS X (.Return (some (.Name n p)) pos) (tX X.K G E H0 zE (.ret (.var i))):=by
 unfold d80 at h2
 simp only[and_eq_true,not_eq_true'] at h2
 refine PS.imp (P81 (y90 (i:=i) (by rw[x.hN];exact h1) (x.vis n (mem_of_getElem? h1)) h2.1 h2.2)) λD σ H q=>?_
 obtain⟨zA,ow,ρ,z,rr,rw,st,ee,po⟩:=q
 have e0:(match ρ[i]? with | some (some s)=>M.bind (M.of (noS s)) λs=>M.ret (O.rt s) | _=>M.no) z=some rr:=ee
 cases hs:ρ[i]? with
 |none=>rw[hs] at e0;cases e0
 |some o =>
  cases o with
  |none=>rw[hs] at e0;cases e0
  |some s =>
   rw[hs] at e0
   obtain⟨t,ht,e1⟩:=M.a10 e0
   cases e1
   obtain⟨rfl,nz⟩:=S71 ht
   obtain⟨v,k1,k2⟩:=rw.S42 nz hs
   exact⟨v,k1,po v H nz rw.ext (i02 rw.zok st) k2⟩
theorem G72{e:Ex}{v:Expr}{pos:Pos}(hv:∀ i,e≠.var i)(g:a80 X G E e v):PS X (.Return (some v) pos) (tX X.K G E H0 zE (.ret e)):=by
 refine PS.imp (P81 g.pe) λD σ H q=>?_
 obtain⟨zA,ow,ρ,z,rr,rw,st,ee,po⟩:=q
 have e0:M.bind (ev G.F e ρ) (λl=>M.bind (M.of ((one l).bind noS)) λs=>M.ret (O.rt s)) z=some rr:=by
  cases e <;> first | exact ee | exact absurd rfl (hv _)
 refine l40 rw.U90 st e0 (po.ers rw) λl z1 e1=>?_
 obtain⟨t,ht,e2⟩:=M.a10 e1
 cases e2
 obtain⟨s,hs,hn⟩:=Option.bind_eq_some_iff.mp ht
 obtain⟨rfl,nz⟩:=S71 hn
 exact⟨s,E60 hs,λv H1 x1 st1 rv=>po v H1 nz (z71 rw.ext rw.zok x1) (i02 rw.zok st1) (rw.out nz x1 rv)⟩
theorem S82{c:Ex}{t u:Sm}{ce:Expr}{a b:List Stmt}{pos:Pos}(g:a80 X G E c ce)(hn:∀ t a b p,ce≠.IfExp t a b p)(ha:PSs X a (tX X.K G E H0 zE t))(hb:PSs X b (tX X.K G E H0 zE u)) :
  PS X (.If ce a b pos) (tX X.K G E H0 zE (.iff c t u)):=by
 refine PS.imp (z42 (g.pt hn) ha hb) λD σ H q=>?_
 obtain⟨zA,ow,ρ,z,rr,rw,st,ee,po⟩:=q
 refine U30 rw.U90 st ee (po.ers rw) λb z1 e1 H1 x1 st1=>?_
 have r1:=rw.mono x1
 have sm:a30 (hw ow (hz zA H)) (hw ow (hz zA H1)):=e00 x1
 cases b with
 |true=>exact⟨zA,ow,ρ,z1,rr,r1,st1,e1,po.mono sm⟩
 |false=>exact⟨zA,ow,ρ,z1,rr,r1,st1,e1,po.mono sm⟩
theorem G82{e:Ex}{v:Expr}{pos:Pos}(g:a80 X G E e v)(h:V00 v=true):PS X (.Expr v pos) (tX X.K G E H0 zE (.exp e)):=by
 refine PS.imp (Z50 g.pe (w20 h none)) λD σ H q=>?_
 obtain⟨zA,ow,ρ,z,rr,rw,st,ee,po⟩:=q
 have e0:M.bind (ev G.F e ρ) (λl=>M.bind (M.of (one l)) λ_=>M.ret (O.nx ρ)) z=some rr:=ee
 refine l40 rw.U90 st e0 (po.ers rw) λl z1 e1=>?_
 obtain⟨s,hs,e2⟩:=M.a10 e1
 cases e2
 exact⟨s,E60 hs,λv H1 x1 st1 rv=>po zA ow σ H1 (rw.mono x1) st1 (e00 x1)⟩
def y42:Bi→Operator→Bool
 |.mul,.Mult=>true
 |.add,.Add=>true
 |_,_=>false
theorem t12(h:y42 o op=true):PIp X op λx y H Q=>∃ i j k,x=.int i∧y=.int j∧E00 o (.int i) (.int j)=some (.d (.int k))∧Q (.int k) H:=by
 intro pins s σ H x y v u Q I r1 r2 q
 obtain⟨i,j,k,rfl,rfl,e,q⟩:=q
 obtain⟨t,rfl⟩:=r1
 obtain⟨t',rfl⟩:=r2
 cases o <;> cases op <;> first | (cases h;done) | skip
 ·cases e;exact iadd_int ⟨.int _,H,I.tok _,⟨_,rfl⟩,q⟩
 ·obtain⟨hl,e⟩:=e60 e
  cases e;exact imul_int ⟨.int _,H,I.tok _,⟨_,rfl⟩,q⟩ (R21 hl.1 hl.2)
theorem c82{o:Bi}{op:Operator}(h:y42 o op=true){i j:Int}{s:S}(e:E00 o (.int i) (.int j)=some s):∃ k,s=.d (.int k):=by
 cases o <;> cases op <;> first | (cases h;done) | skip
 ·cases e;exact⟨_,rfl⟩
 ·obtain⟨_,e⟩:=e60 e
  cases e;exact⟨_,rfl⟩
theorem t22(h:asI d=some i):d=.int i:=by cases d <;> first | (cases h;rfl) | (cases h;done)
theorem G92(x:XS lm X G E N sc cn){i:Nat}{o:Bi}{e:Ex}{y:Str}{v:Expr}{op:Operator}{px pos:Pos}(hi:N[i]?=some y)(hl:N20 sc y=true)(ho:y42 o op=true)(g:a80 X G E e v):PS X (.AugAssign (.Name y px) op v pos) (tX X.K G E H0 zE (.aug o i e)):=by
 have L:=x.loc
 refine PS.imp (k72 (i:=i) (by rw[x.hN];exact x.nd) (by rw[x.hN];exact hi) (L.lc y hl) g.pe (t12 ho) (L.fn y hl)) λD σ H q=>?_
 obtain⟨zA,ow,ρ,z,rr,rw,st,ee,po⟩:=q
 obtain⟨yd,hy,e1⟩:=M.a10 ee
 obtain⟨s0,hs0,hy⟩:=Option.bind_eq_some_iff.mp hy
 have hr:ρ[i]?=some (some s0):=by
  cases h:ρ[i]? with
  |none=>rw[h] at hs0;cases hs0
  |some w=>rw[h] at hs0;cases hs0;rfl
 obtain⟨w,k1,k2⟩:=rw.wor i s0 hr
 refine⟨w,k1,?_⟩
 refine l40 rw.U90 st e1 (po.ers rw) λl z1 e2=>?_
 obtain⟨xi,hx,e3⟩:=M.a10 e2
 obtain⟨dx,hx1,hx2⟩:=Option.bind_eq_some_iff.mp hx
 obtain⟨s1,rfl,hs1⟩:=g70 hx1
 cases t22 hx2
 refine⟨s1,rfl,λu H1 x1 st1 rv=>?_⟩
 obtain⟨s2,hb,e4⟩:=M.a10 e3
 obtain⟨yi,hyi,hb⟩:=Option.bind_eq_some_iff.mp hb
 cases t22 hyi
 obtain⟨k,rfl⟩:=c82 ho hb
 have hw:w=.int yi:=by
  cases s0 with
  |d x=>cases hy;exact(show Hd X.K (hw ow (hz zA H)) (.int yi) w from k2.2).i20
  |fr xs=>cases hy
  |z=>cases hy
 refine⟨yi,xi,k,hw,(show Hd X.K (hz zA H1) (.int xi) u from rv.pl.d_ hs1).i20,hb,?_⟩
 obtain⟨ρ',hp,e5⟩:=M.a10 e4
 cases e5
 have:=j81 (R:=λσ' H'=>D.nx σ' H') rw x1 h40 hp λow' σ' r' sm=>po zA ow' σ' H1 r' st1 sm
 rw[L42] at this
 exact this
theorem x_raise(x:XS lm X G E N sc cn){c:Nat}{n:Str}{y:Str}{k:Nat}{p1 p2 p3 p4:Pos}(hc:cn[c]?=some n)(hg:glob sc n=true):PS X (.Raise (some (.Call (.Name n p1) [.Constant (.str y) k p2] [] p3)) none p4) (tX X.K G E H0 zE (.rais c)):=by
 obtain⟨k1,k2,_⟩:=d60 hg
 obtain⟨m1,m2⟩:=x.cls c n hc
 refine PS.imp (K41 x.can x.calm (x.glb n k1) m1 m2 (j80 P71 C80) k2 rfl rfl) λD σ H q=>?_
 obtain⟨zA,ow,ρ,z,rr,rw,st,ee,po⟩:=q
 cases ee
 exact⟨by show 1≤sizeLine;decide,λe hn=>po e H rw.ext (i02 rw.zok st) hn⟩
end
section
variable {K:PySem.W.Frag}{H0 H H':Hp}{zE zA:Option Addr}{ow:Nat→Option Addr}{ρ:Env}{σ:L2.St}
theorem h00(e:ow0 ow i j=some a):j≠i∧ow j=some a:=by
 unfold ow0 at e
 split at e
 ·cases e
 ·rename_i n;exact⟨n,e⟩
theorem B80:ow0 ow i i=none:=if_pos rfl
theorem A21(h:j≠i):ow0 ow i j=ow j:=if_neg h
theorem N31{ρ:Env}{j:Nat}{s:S}(h:(T40 ρ)[j]?=some (some s)):ρ[j]?=some (some s)∧s≠.z:=by
 unfold T40 at h
 rw[List.getElem?_map] at h
 obtain⟨o,e1,e2⟩:=Option.map_eq_some_iff.mp h
 cases o with
 |none=>cases e2
 |some t =>
  cases t with
  |z=>cases e2
  |d x=>cases e2;exact⟨e1,λh=>nomatch h⟩
  |fr x=>cases e2;exact⟨e1,λh=>nomatch h⟩
theorem c92{j:Nat}(h:ρ[j]?=some (some (.fr xs))):(T40 ρ)[j]?=some (some (.fr xs)):=by
 unfold T40
 rw[List.getElem?_map,h];rfl
theorem RW.S92(r:RW K H0 none zA ow H ρ σ){i:Nat}(x:Ext zA H H')(hn:H a=none)(za:zA≠some a)(hl:H' a=some (.lst ys)) :
  RW K H0 none (some a) (ow0 ow i) H' ((T40 ρ).set i (some .z)) (σ.set i (some (.ref a)))∧a30 (hw ow (hz zA H)) (hw (ow0 ow i) (hz (some a) H')):=by
 have r':=r.mono x
 have old:∀ j b,ow j=some b→b≠a:=λj b e q=>by
  obtain⟨zs,h1⟩:=r.lst j b e
  rw[q,hn] at h1;cases h1
 have sm:a30 (hw ow (hz zA H)) (hw (ow0 ow i) (hz (some a) H')):=λb o e=>by
  obtain⟨e1,e2⟩:=E80 e
  have hb:b≠a:=λq=>by
   have e3:H b=some o:=(t60 e1).1
   rw[q,hn] at e3;cases e3
  exact i40 (d90 (t60 (x b o e1)).1 (λq=>by cases q;exact hb rfl) (v90 e1)) λj q=>e2 j (h00 q).2
 have dl:(T40 ρ).length=ρ.length:=by unfold T40;rw[length_map]
 refine⟨⟨by rw[length_set,length_set,dl];exact r.len,λj k b h1 h2=>r.inj j k b (h00 h1).2 (h00 h2).2,λj b h1 q=>?_,λj b h1=>?_,λj s e=>?_,r'.ext,.inr ⟨rfl,λb q=>?_⟩,λj b h1=>r.new j b (h00 h1).2⟩,sm⟩
 ·cases q
  exact old j _ (h00 h1).2 rfl
 ·obtain⟨n,h2⟩:=h00 h1
  obtain⟨xs,h3⟩:=r.own j b h2
  exact⟨xs,by rw[List.getElem?_set_ne (Ne.symm n)];exact c92 h3⟩
 ·rcases getElem?_set' e with ⟨rfl,e1,hlt⟩ | ⟨n,e1⟩
  ·cases e1
   exact⟨.ref a,List.getElem?_set_self (by rw[← r.len,← dl];exact hlt),B80,a,rfl,rfl⟩
  ·obtain⟨e1,nz⟩:=N31 e1
   obtain⟨w,h1,h2⟩:=r.wor j s e1
   refine⟨w,by rw[List.getElem?_set_ne (Ne.symm n)];exact h1,?_⟩
   cases s with
   |d y=>exact⟨by rw[A21 n];exact h2.1,h2.2.same sm⟩
   |z=>exact absurd rfl nz
   |fr xs =>
    obtain⟨b,zs,k1,rfl,k3,k4⟩:=h2
    exact⟨b,zs,by rw[A21 n];exact k1,rfl,x.at k3 (r.zne j b k1),k4.same sm⟩
 ·cases q
  exact(r.young hn za).1
theorem RW.plain(r:RW K H0 zE zA ow H ρ σ)(i:Nat):RW K H0 zE zA (ow0 ow i) H (ρ.set i ((ρ[i]?.getD none).map plS)) σ:=by
 have sm:=B70 (H:=hz zA H) ow i
 refine⟨by rw[length_set];exact r.len,λj k b h1 h2=>r.inj j k b (h00 h1).2 (h00 h2).2,λj b h1=>r.zne j b (h00 h1).2,λj b h1=>?_,λj s e=>?_,r.ext,r.zok,λj b h1=>r.new j b (h00 h1).2⟩
 ·obtain⟨n,h2⟩:=h00 h1
  obtain⟨xs,h3⟩:=r.own j b h2
  exact⟨xs,by rw[List.getElem?_set_ne (Ne.symm n)];exact h3⟩
 ·rcases getElem?_set' e with ⟨rfl,e1,hlt⟩ | ⟨n,e1⟩
  ·cases hs:ρ[j]? with
   |none=>rw[hs] at e1;cases e1
   |some o =>
    rw[hs] at e1
    cases o with
    |none=>cases e1
    |some s0 =>
     cases e1
     obtain⟨w,h1,h2⟩:=r.wor j s0 hs
     refine⟨w,h1,?_⟩
     cases s0 with
     |d y=>exact⟨B80,h2.2.same sm⟩
     |z=>exact⟨B80,h2.2⟩
     |fr xs =>
      obtain⟨b,zs,k1,rfl,k3,k4⟩:=h2
      refine⟨B80,Hd.lst (i40 (d90 k3 (r.zne j b k1)) λk q=>?_) (k4.same sm)⟩
      obtain⟨q1,q2⟩:=h00 q
      exact q1 (r.inj k j b q2 k1)
  ·obtain⟨w,h1,h2⟩:=r.wor j s e1
   exact⟨w,h1,h2.move (A21 n) sm λ_ _=>rfl⟩
end
theorem HdA.eraseIdx{K:PySem.W.Frag}{H:Hp}:∀ {ds:List D}{vs:List V} (n:Nat),HdA K H ds vs→HdA K H (ds.eraseIdx n) (vs.eraseIdx n)
 |[],_,n,h=>by rw[h.f40];exact .nil
 |d::ds,_,0,h=>by
  obtain⟨x,r,rfl,h1,h2⟩:=h.c00
  exact h2
 |d::ds,_,n + 1,h=>by
  obtain⟨x,r,rfl,h1,h2⟩:=h.c00
  exact .cons h1 (HdA.eraseIdx n h2)
section
variable {lm:Bool}{X:Cx}{G:Gs}{E:XK}{N:List Str}{sc:Scope}{cn:List Str}{H0:Hp}{zE:Option Addr}
theorem A31{α β:Type}{R:α→β→Prop}{a:α}{vs:List β}(h:Paired R [a] vs):∃ v,vs=[v]∧R a v:=by
 cases h with
 |cons h1 h2=>cases h2;exact⟨_,rfl,h1⟩
theorem e50.a50(st:e50 zA z H)(n:zA≠some a)(h:H a=some (.lst xs)):e50 zA z (upd H a o):=by
 refine⟨?_,λp hp=>Tab.upd (st.tab p hp) h⟩
 have st:=st.zat
 cases zA with
 |none=>cases z <;> exact st
 |some b =>
  cases z with
  |none=>exact st
  |some p =>
   have hb:b≠a:=λq=>n (by rw[q])
   exact(L2.a50 hb).trans st
theorem A41(h:ownAt ρ i=some xs):ρ[i]?=some (some (.fr xs)):=by
 unfold ownAt at h
 split at h
 ·rename_i h1;cases h;exact h1
 ·cases h
theorem d02{K:PySem.W.Frag}{zA:Option Addr}{H0 H:Hp}{s:S}{v:V}{x:D}(h:RvS K zA H0 H s v)(e:plD s=some x):Hd K (hz zA H) x v:=h.pl.d_ e
theorem H02(x:XS lm X G E N sc cn){i:Nat}{n:Str}{e:Ex}{v:Expr}{p apos cpos pos:Pos}(h1:N[i]?=some n)(h2:d80 n=true)(ns:noStar v=true)(g:a80 X G E e v)(hl:(apos.endLine == cpos.line)=true) :
  PS X (.Expr (.Call (.Attribute (.Name n p) "append" apos) [v] [] cpos) pos) (tX X.K G E H0 zE (.app i e)):=by
 unfold d80 at h2
 simp only[and_eq_true,not_eq_true'] at h2
 have ga:Good X G E (.cons e .nil) [v]:=⟨v,[],rfl,ns,g,rfl,rfl⟩
 have hs:=c50 ns [] X.env
 refine PS.imp (Z50 (V91 PySem.F.plainAttrs_list PySem.F.slot_list_append PySem.F.type_list_append S40 (y90 (i:=i) (by rw[x.hN];exact h1) (x.vis n (mem_of_getElem? h1)) h2.1 h2.2) (ga.args rfl).1 rfl (by rw[hs];rfl) hl hs rfl) (w20 rfl none)) λD σ H q=>?_
 obtain⟨zA,ow,ρ,z,rr,rw,st,ee,po⟩:=q
 obtain⟨xs,hx,e1⟩:=M.a10 ee
 have ho:=A41 hx
 obtain⟨w,k1,a,ys,k2,rfl,k3,k4⟩:=rw.wor i _ ho
 refine⟨_,k1,.inl ⟨rfl,ys,SqL.of k3⟩,?_⟩
 have e2:M.bind (ev G.F (.cons e .nil) ρ) (λm=>M.bind (M.of (pl m)) λx=>if bare x=true∧xs.length < most then M.ret (O.nx (ρ.set i (some (.fr (xs++[x]))))) else M.no) z=some rr∨∃ c z1,ev G.F e ρ z=some (.er c z1)∧rr=.er c z1:=by
  rcases M.bind_some e1 with ⟨l,z1,e3,e4⟩ | ⟨c,z1,e3,e4⟩
  ·obtain⟨y,hy,e5⟩:=M.a10 e4
   obtain⟨s,rfl,hs⟩:=g70 hy
   refine .inl ?_
   show M.bind (M.bind (ev G.F e ρ) λx=>M.bind (M.of (one x)) λs=>M.bind (ev G.F .nil ρ) λy=>M.ret (s::y)) _ z=some rr
   simp only[M.bind,e3,M.of,one,M.ret,ev,hy]
   exact e5
  ·exact .inr ⟨c,z1,e3,e4⟩
 rcases e2 with e2 | ⟨c,z1,e3,rfl⟩
 ·refine c31 rw.U90 st e2 (po.ers rw) λl z1 e3 vs H1 x1 st1 rvs=>?_
  obtain⟨y,hy,e5⟩:=M.a10 e3
  obtain⟨s,rfl,hs⟩:=g70 hy
  split at e5
  ·rename_i hb
   cases e5
   obtain⟨u,rfl,ru⟩:=A31 rvs
   have r1:=rw.mono x1
   have k3':=x1.at k3 (rw.zne i a k2)
   have k4':HdA X.K (hw ow (hz zA H1)) xs ys:=k4.same (e00 x1)
   have hd:=N10 r1.c42 hb.1 (d02 ru hs)
   refine⟨a,ys,u,rfl,rfl,k3',Nat.lt_of_lt_of_le (by rw[k4.length];exact hb.2) (f50 (Nat.le_refl _)),?_⟩
   refine po zA ow σ _ (r1.upd k2 (k4'.append (.cons hd .nil))) ?_ (a30.trans (e00 x1) (c81 k2))
   exact st1.a50 (rw.zne i a k2) k3'
  ·cases e5
 ·refine⟨zA,ρ,z,.er c z1,rw.U90,st,?_,po.er_ rw⟩
  show M.bind (ev G.F e ρ) _ z=_
  simp only[M.bind,e3]
theorem t32(x:XS lm X G E N sc cn){i f:Nat}{as:Ex}{y:Str}{v:Expr}{px pos:Pos}(hi:N[i]?=some y)(hl:N20 sc y=true)(g:a80 X G E (.call f as) v)(hv:V00 v=true) :
  PS X (.Assign [.Name y px] v pos) (tX X.K G E H0 zE (.newz i f as)):=by
 have L:=x.loc
 refine PS.imp (r11 (i:=i) (by rw[x.hN];exact x.nd) (by rw[x.hN];exact hi) (L.lc y hl) g.pe (w20 hv _) (L.fn y hl)) λD σ H q=>?_
 obtain⟨zA,ow,ρ,z,rr,rw,st,ee,po⟩:=q
 refine l40 rw.U90 st ee (po.ers rw) λl z1 e1=>?_
 have e2:w41 zE.isNone ρ i l=some rr:=e1
 unfold w41 at e2
 split at e2
 ·split at e2
  ·rename_i m b hz'
   cases e2
   have zn:zE=none:=by
    cases zE with
    |none=>rfl
    |some _=>cases hz'
   subst zn
   refine⟨_,rfl,λu H1 x1 st1 rv=>?_⟩
   obtain⟨a,ys,rfl,k1,k2,k3,k4⟩:=rv
   obtain⟨v1,v2,rfl,h3,h4⟩:=k4.two
   cases h3.i20;cases h4.bl_
   obtain⟨r1,sm⟩:=rw.S92 (i:=i) x1 k1 k2 k3
   exact po (some a) _ _ H1 r1 ⟨k3,st1.tab⟩ sm
  ·cases e2
 ·cases e2
theorem t42(x:XS lm X G E N sc cn){i:Nat}{n:Str}{e:Ex}{v:Expr}{c:Nat}{p q tp pos:Pos}(h1:N[i]?=some n)(h2:d80 n=true)(g:a80 X G E e v) :
  PS X (.Assign [.Subscript (.Name n p) (.Constant (.int 0) c q) tp] v pos) (tX X.K G E H0 zE (.zset i e)):=by
 unfold d80 at h2
 simp only[and_eq_true,not_eq_true'] at h2
 refine PS.imp (P91 g.pe (k42 (y90 (i:=i) (by rw[x.hN];exact h1) (x.vis n (mem_of_getElem? h1)) h2.1 h2.2) r01 set_list (by intro u;rfl)) (show swapsWith v (some (.Subscript (.Name n p) (.Constant (.int 0) c q) tp)) pos.line X.env=pure false from V10 rfl) (by cases v <;> rfl)) λD σ H q=>?_
 obtain⟨zA,ow,ρ,z,rr,rw,st,ee,po⟩:=q
 refine l40 rw.U90 st ee (po.ers rw) λl z1 e1=>?_
 obtain⟨y,hy,e2⟩:=M.a10 e1
 obtain⟨dy,hy1,hy2⟩:=Option.bind_eq_some_iff.mp hy
 obtain⟨s,rfl,hs⟩:=g70 hy1
 refine⟨s,rfl,λu H1 x1 st1 rv=>?_⟩
 have e3:w51 ρ y ρ[i]? z1=some rr:=e2
 unfold w51 at e3
 split at e3
 ·rename_i p' hsl
  cases e3
  have r1:=rw.mono x1
  obtain⟨w,k1,k2,a,rfl,rfl⟩:=r1.wor i .z hsl
  have hu:u=.int y:=by
   have:=d02 rv hs
   cases dy <;> first | (cases hy2;exact this.i20) | (cases hy2;done)
  subst hu
  have st':H1 a=some (.lst [.int p'.1,.bl p'.2]):=st1.zat
  refine⟨_,k1,a,[.int p'.1,.bl p'.2],0,0,rfl,rfl,st',rfl,?_⟩
  have x2:Ext (some a) H1 (upd H1 a (.lst [.int y,.bl p'.2])):=by
   refine⟨λb o h=>?_,λb ps h=>⟨ps,by rw[a50 (λz=>by rw[z,st'] at h;cases h)];exact h⟩⟩
   obtain⟨h3,h4⟩:=t60 h
   exact d90 (by rw[a50 (λz=>h4 (by rw[z]))];exact h3) h4 (v90 h)
  exact po (some a) ow σ _ (r1.mono x2) ⟨c70,λp hp=>Tab.upd (st1.tab p hp) st'⟩ (a30.trans (e00 x1.same) (e00 x2.same))
 ·cases e3
theorem H12(x:XS lm X G E N sc cn){c:Ex}{b:Sm}{ce:Expr}{body:List Stmt}{pos:Pos}(g:a80 X G E c ce)(hn:∀ t a b p,ce≠.IfExp t a b p)(hb:PSs X body (tX X.K G E H0 zE b)):PS X (.While ce body [] pos) (tX X.K G E H0 zE (.whl c b)):=by
 refine PS.imp (H11 x.own (g.pt hn) hb) λD σ H q=>?_
 obtain⟨zA,ow,ρ,z,rr,rw,st,ee,po⟩:=q
 refine⟨λm σ H=>∃ zA ow ρ z r,RW X.K H0 zE zA ow H ρ σ∧e50 zA z H∧R11 (ev G.F c) (ex G.F zE.isNone b) m ρ z=some r∧s00 X.K G E H0 zE (hw ow (hz zA H)) D r,⟨h62,zA,ow,ρ,z,rr,rw,st,ee,po⟩,?_⟩
 rintro m σ H ⟨zA,ow,ρ,z,rr,rw,st,ee,po⟩
 cases m with
 |zero=>cases ee
 |succ m =>
  refine U30 rw.U90 st ee (po.ers rw) λk z1 e1 H1 x1 st1=>?_
  have r1:=rw.mono x1
  have sm:a30 (hw ow (hz zA H)) (hw ow (hz zA H1)):=e00 x1
  cases k with
  |false =>
   cases e1
   exact po zA ow σ H1 r1 st1 sm
  |true =>
   rw[if_pos rfl]
   have e2:M.bind (ex G.F zE.isNone b ρ) (λo=>match o with | .nx ρ=>R11 (ev G.F c) (ex G.F zE.isNone b) m ρ | .rt s=>M.ret (.rt s)) z1=some rr:=e1
   refine⟨λσ' H'=>∃ zA ow ρ z r,RW X.K H0 zE zA ow H' ρ σ'∧e50 zA z H'∧R11 (ev G.F c) (ex G.F zE.isNone b) m ρ z=some r∧s00 X.K G E H0 zE (hw ow (hz zA H')) D r,λσ' H' h=>⟨m,lt_succ_self m,h⟩,?_⟩
   rcases M.bind_some e2 with ⟨o,z2,e3,e4⟩ | ⟨k,z2,e3,e4⟩
   ·refine⟨zA,ow,ρ,z1,_,r1,st1,e3,?_⟩
    cases o with
    |nx ρ1=>exact λzA' ow' σ' H' rw' st' sm'=>⟨zA',ow',ρ1,z2,rr,rw',st',e4,po.mono (a30.trans sm sm')⟩
    |rt s=>cases e4;exact po
   ·subst e4
    exact⟨zA,ow,ρ,z1,_,r1,st1,e3,po⟩
theorem d12{i j:Nat}{e:Ex}{D:Ends}{σ:L2.St}{H:Hp}{zA:Option Addr}{ow:Nat→Option Addr}{ρ:Env}{z:Z}{rr:R O}(rw:RW X.K H0 zE zA ow H ρ σ)(st:e50 zA z H)(ee:n82 G.F i j e ρ z=some rr)(po:s00 X.K G E H0 zE (hw ow (hz zA H)) D rr) :
  k12 (tBM X.K "list" s51 (x52 i) (l62 (tBM X.K "list" Q31 (x52 j) (tA X.K G E (.cons e .nil))) K12)) D σ H:=by
 obtain⟨xs,hx,e1⟩:=M.a10 ee
 obtain⟨ys,hy,e1⟩:=M.a10 e1
 have ho:=A41 hx
 have hp:=A41 hy
 obtain⟨w,k1,a,us,k2,rfl,k3,k4⟩:=rw.wor i _ ho
 obtain⟨w',m1,b,ws,m2,rfl,m3,m4⟩:=rw.wor j _ hp
 refine⟨_,k1,.inl ⟨rfl,us,SqL.of k3⟩,⟨_,m1,.inl ⟨rfl,ws,SqL.of m3⟩,?_⟩⟩
 rcases M.bind_some e1 with ⟨l,z1,e3,e4⟩ | ⟨c,z1,e3,e4⟩
 ·obtain⟨k,hk,e5⟩:=M.a10 e4
  obtain⟨dk,hk1,hk2⟩:=Option.bind_eq_some_iff.mp hk
  obtain⟨s,rfl,hs⟩:=g70 hk1
  obtain⟨o,hv,e6⟩:=M.a10 e5
  cases e6
  refine⟨zA,ρ,z,.ok [s] z1,rw.U90,st,?_,λvs H1 x1 st1 rvs=>?_⟩
  ·show M.bind (ev G.F e ρ) _ z=_
   simp only[M.bind,e3,M.of,one,M.ret,ev]
  obtain⟨u,rfl,ru⟩:=A31 rvs
  have hu:u=.int k:=by
   have:=d02 ru hs
   cases dk <;> first | (cases hk2;exact this.i20) | (cases hk2;done)
  subst hu
  unfold w31 at hv
  split at hv
  ·rename_i hb
   have hkk:=E10.mp hb.2.2.1
   obtain⟨y,hy1,hv⟩:=Option.bind_eq_some_iff.mp hv
   split at hv
   ·rename_i hby
    cases hv
    have r1:=rw.mono x1
    have m4':HdA X.K (hw ow (hz zA H1)) ys ws:=m4.same (e00 x1)
    have k4':HdA X.K (hw ow (hz zA H1)) xs us:=k4.same (e00 x1)
    obtain⟨yv,g1,g2⟩:=m4'.get hy1
    have hlt:k.toNat < ws.length:=(List.getElem?_eq_some_iff.mp g1).1
    have hab:a≠b:=λq=>hb.1 (rw.inj i j a k2 (by rw[q];exact m2))
    refine⟨b,ws,k,k.toNat,yv,rfl,rfl,x1.at m3 (rw.zne j b m2),by omega,by omega,?_,g1,?_⟩
    ·have h0:(0:Int)≤k:=hb.2.1
     exact seqIndex_of h0 (by omega)
    ·have r2:=r1.upd m2 (m4'.eraseIdx k.toNat)
     have sm2:=c81 (H:=H1) (zA:=zA) (o:=.lst (ws.eraseIdx k.toNat)) m2
     refine⟨a,us,yv,rfl,rfl,?_,?_,?_⟩
     ·rw[a50 hab];exact x1.at k3 (rw.zne i a k2)
     ·exact Nat.lt_of_lt_of_le (by rw[k4.length];exact hb.2.2.2) (f50 (Nat.le_refl _))
     ·exact po zA ow σ _ (r2.upd k2 ((k4'.same sm2).append (.cons (g2.same sm2) .nil))) ((st1.a50 (rw.zne j b m2) (x1.at m3 (rw.zne j b m2))).a50 (rw.zne i a k2) (by rw[a50 hab];exact x1.at k3 (rw.zne i a k2))) (a30.trans (e00 x1) (a30.trans sm2 (c81 k2)))
   ·cases hv
  ·cases hv
 ·subst e4
  refine⟨zA,ρ,z,.er c z1,rw.U90,st,?_,po.er_ rw⟩
  show M.bind (ev G.F e ρ) _ z=_
  simp only[M.bind,e3]
theorem t52(x:XS lm X G E N sc cn){i j:Nat}{n m:Str}{e:Ex}{v:Expr}{p p' apos cpos apos' cpos' pos:Pos}(h1:N[i]?=some n)(h2:d80 n=true)(h3:N[j]?=some m)(h4:d80 m=true)(ns:noStar v=true)(g:a80 X G E e v)(hl:(apos.endLine == cpos.line)=true)(hl':(apos'.endLine == cpos'.line)=true) :
  PS X (.Expr (.Call (.Attribute (.Name n p) "append" apos) [.Call (.Attribute (.Name m p') "pop" apos') [v] [] cpos'] [] cpos) pos) (tX X.K G E H0 zE (.apop i j e)):=by
 unfold d80 at h2 h4
 simp only[and_eq_true,not_eq_true'] at h2 h4
 have ga:Good X G E (.cons e .nil) [v]:=⟨v,[],rfl,ns,g,rfl,rfl⟩
 have hs:=c50 ns [] X.env
 refine PS.imp (Z50 (V91 PySem.F.plainAttrs_list PySem.F.slot_list_append PySem.F.type_list_append S40 (y90 (i:=i) (by rw[x.hN];exact h1) (x.vis n (mem_of_getElem? h1)) h2.1 h2.2)
  (j80 (V91 PySem.F.plainAttrs_list PySem.F.slot_list_pop PySem.F.type_list_pop I01 (y90 (i:=j) (by rw[x.hN];exact h3) (x.vis m (mem_of_getElem? h3)) h4.1 h4.2) (ga.args rfl).1 rfl (by rw[hs];rfl) hl' hs rfl) C80) rfl rfl hl rfl rfl) (w20 rfl none)) λD σ H q=>?_
 obtain⟨zA,ow,ρ,z,rr,rw,st,ee,po⟩:=q
 exact d12 rw st ee po
def H22(K:PySem.W.Frag)(i:Nat):TI:=λσ H R=>∃ a,σ[i]?=some (some (.ref a))∧((∃ ys,SqT K H a ys)∧R (Itt K a) H∨(∃ ys,SqL K H a ys)∧R (Itl K a) H)
theorem t62(x:XI lm X G E N sc){tg:Expr}{i:Nat}{n:Str}{pos:Pos}(h1:N[i]?=some n)(h2:d80 n=true):PI X tg (.Name n pos) (H22 X.K i):=by
 unfold d80 at h2
 simp only[and_eq_true,not_eq_true'] at h2
 have hv:PE X (.Name n pos) (x52 i):=y90 (i:=i) (by rw[x.hN];exact h1) (x.vis n (mem_of_getElem? h1)) h2.1 h2.2
 intro pins s σ H R I q
 obtain⟨a,k,q | q⟩:=q
 ·exact Q01 hv pins s σ H R I ⟨_,k,a,rfl,q.1,q.2⟩
 ·exact Z60 hv pins s σ H R I ⟨_,k,a,rfl,q.1,q.2⟩
def fBody(F:FT)(tp:Bool)(p:Pat)(b:Sm):D→Env→M O:=λx ρ=>M.bind (M.of (f20 p x ρ)) λρ=>ex F tp b ρ
theorem F00:∀ {l:List D}{d:D},t50 l=true→d∈l→bare d=true
 |x::r,d,h,hd=>by
  simp only[t50,and_eq_true] at h
  rcases List.mem_cons.mp hd with rfl | hd
  ·exact h.1
  ·exact F00 h.2 hd
theorem j91{p:Pat}{b:Sm}{J:L2.It}{xs:List D}{B:Hp}{D:Ends}{σ:L2.St}{H:Hp}{zA:Option Addr}{ow:Nat→Option Addr}{ρ:Env}{z:Z}{rr:R O}(IT:ItB X.K J xs B)
  (rw:RW X.K H0 zE zA ow H ρ σ) (st:e50 zA z H) (sm:a30 B (hw ow (hz zA H))) (ee:Z10 (fBody G.F zE.isNone p b) xs ρ z=some rr) (po:s00 X.K G E H0 zE (hw ow (hz zA H)) D rr) :
  ∃ W:Nat→Nat→L2.St→Hp→Prop,(∃ m,W 0 m σ H)∧∀ i m σ H,W i m σ H →
   (J.stop i H∧D.nx σ H)∨(J.go i H∧∃ Nn:L2.St→Hp→Prop,(∀ σ' H',Nn σ' H'→∃ m',m' < m∧W (i + 1) m' σ' H')∧∀ x H',J.yld i H x H'→gP X.K p x σ H' λσ2 H2=>tX X.K G E H0 zE b { D with nx:=Nn,ct:=Nn,bk:=D.nx } σ2 H2):=by
 refine⟨λi m σ H=>m=xs.length - i∧i≤xs.length∧∃ zA ow ρ z r,RW X.K H0 zE zA ow H ρ σ∧e50 zA z H∧a30 B (hw ow (hz zA H))∧Z10 (fBody G.F zE.isNone p b) (xs.drop i) ρ z=some r∧s00 X.K G E H0 zE (hw ow (hz zA H)) D r,
  ⟨xs.length,by simp,zero_le _,zA,ow,ρ,z,rr,rw,st,sm,by simpa using ee,po⟩,?_⟩
 rintro i m σ H ⟨rfl,hi,zA,ow,ρ,z,rr,rw,st,sm,ee,po⟩
 have sH:a30 B H:=a30.trans sm (a30.trans k10 (a20 zA H))
 by_cases hlt:i < xs.length
 ·refine .inr ⟨IT.go i H sH hlt,λσ' H'=>∃ zA ow ρ z r,RW X.K H0 zE zA ow H' ρ σ'∧e50 zA z H'∧a30 B (hw ow (hz zA H'))∧Z10 (fBody G.F zE.isNone p b) (xs.drop (i + 1)) ρ z=some r∧s00 X.K G E H0 zE (hw ow (hz zA H')) D r,
   λσ' H' h=>⟨xs.length - (i + 1),by omega,rfl,hlt,h⟩,λx H' y=>?_⟩
  have hd0:xs[i]?=some xs[i]:=List.getElem?_eq_getElem hlt
  obtain⟨s1,hd⟩:=IT.yld i H x H' zA z _ (a30.trans sm k10) st y hd0
  rw[List.drop_eq_getElem_cons hlt] at ee
  have e0:M.bind (fBody G.F zE.isNone p b xs[i] ρ) (λo=>match o with | .nx ρ=>Z10 (fBody G.F zE.isNone p b) (xs.drop (i + 1)) ρ | .rt s=>M.ret (.rt s)) z=some rr:=ee
  have r1:=rw.mono (Ext.of s1)
  have st1:=st.same s1
  have sm1:a30 (hw ow (hz zA H)) (hw ow (hz zA H')):=e00 (k00 s1)
  have hd1:=hd (hw ow (hz zA H')) (a30.trans sm sm1) λ_ _ q=>z61 q r1.c42
  have fin:∀ {ρ1:Env}{o:O}{z1:Z},f20 p xs[i] ρ=some ρ1→ex G.F zE.isNone b ρ1 z=some (.ok o z1)→(match o with | .nx ρ=>Z10 (fBody G.F zE.isNone p b) (xs.drop (i + 1)) ρ | .rt s=>M.ret (.rt s)) z1=some rr→gP X.K p x σ H' λσ2 H2=>tX X.K G E H0 zE b { D with nx:=λσ' H'=>∃ zA ow ρ z r,RW X.K H0 zE zA ow H' ρ σ'∧e50 zA z H'∧a30 B (hw ow (hz zA H'))∧Z10 (fBody G.F zE.isNone p b) (xs.drop (i + 1)) ρ z=some r∧s00 X.K G E H0 zE (hw ow (hz zA H')) D r,ct:=λσ' H'=>∃ zA ow ρ z r,RW X.K H0 zE zA ow H' ρ σ'∧e50 zA z H'∧a30 B (hw ow (hz zA H'))∧Z10 (fBody G.F zE.isNone p b) (xs.drop (i + 1)) ρ z=some r∧s00 X.K G E H0 zE (hw ow (hz zA H')) D r,bk:=D.nx } σ2 H2:=λ{ρ1 o z1} hbp e1 e2=>by
   refine N11 hbp r1 hd1 λow' σ' r2 sm2=>⟨zA,ow',ρ1,z,_,r2,st1,e1,?_⟩
   cases o with
   |nx ρ2=>exact λzA3 ow3 σ3 H3 r3 st3 sm3=>⟨zA3,ow3,ρ2,z1,rr,r3,st3,a30.trans sm (a30.trans sm1 (a30.trans sm2 sm3)),e2,po.mono (a30.trans sm1 (a30.trans sm2 sm3))⟩
   |rt s=>cases e2;exact po
  rcases M.bind_some e0 with ⟨o,z1,e1,e2⟩ | ⟨c,z1,e1,e2⟩
  ·obtain⟨ρ1,hbp,e3⟩:=M.a10 e1
   exact fin hbp e3 e2
  ·subst e2
   obtain⟨ρ1,hbp,e3⟩:=M.a10 e1
   exact N11 hbp r1 hd1 λow' σ' r2 sm2=>⟨zA,ow',ρ1,z,_,r2,st1,e3,po⟩
 ·have e:i=xs.length:=by omega
  subst e
  rw[drop_length] at ee
  cases ee
  exact .inl ⟨IT.stop H sH,po zA ow σ H rw st (a30.refl _)⟩
theorem t72(x:XS lm X G E N sc cn){p:Pat}{i:Nat}{n:Str}{b:Sm}{tg:Expr}{body:List Stmt}{np pos:Pos}(hp:j40 N (N20 sc) p tg=true)(h1:N[i]?=some n)(h2:d80 n=true)(hb:PSs X body (tX X.K G E H0 zE b)) :
  PS X (.For tg (.Name n np) body [] pos) (tX X.K G E H0 zE (.fr p .seq (.cons (.var i) .nil) b)):=by
 refine PS.imp (Q11 x.own x.calm (t62 x.toXI h1 h2) (y31 x.loc hp) hb (λ_=>rfl)) λD σ H q=>?_
 obtain⟨zA,ow,ρ,z,rr,rw,st,ee,po⟩:=q
 have e0:M.bind (M.bind (match ρ[i]? with | some (some s)=>M.ret [plS s] | _=>M.no) λx=>M.bind (M.of (one x)) λs=>M.bind (ev G.F .nil ρ) λy=>M.ret (s::y)) (λl=>M.bind (M.of ((plA l).bind (itD .seq))) λxs=>Z10 (fBody G.F zE.isNone p b) xs (w21 .seq (.cons (.var i) .nil) l ρ)) z=some rr:=ee
 cases hs:ρ[i]? with
 |none=>rw[hs] at e0;cases e0
 |some o =>
  cases o with
  |none=>rw[hs] at e0;cases e0
  |some s =>
   rw[hs] at e0
   have e1:M.bind (M.of ((plA [plS s]).bind (itD .seq))) (λxs=>Z10 (fBody G.F zE.isNone p b) xs ((ρ.set i ((ρ[i]?.getD none).map plS)).map (H20 (T70 [plS s])))) z=some rr:=e0
   obtain⟨xs,hx,e2⟩:=M.a10 e1
   have r1:=rw.plain i
   have sm:=B70 (H:=hz zA H) ow i
   have hi:i < ρ.length:=(List.getElem?_eq_some_iff.mp hs).1
   have hsl:(ρ.set i ((ρ[i]?.getD none).map plS))[i]?=some (some (plS s)):=by rw[List.getElem?_set_self hi,hs];rfl
   obtain⟨w,k1,k2⟩:=r1.wor i _ hsl
   obtain⟨ds,h3,h4⟩:=Option.bind_eq_some_iff.mp hx
   obtain⟨d,rfl,h5⟩:=y81 h3
   have hd:Hd X.K (hw (ow0 ow i) (hz zA H)) d w:=by
    cases s with
    |d y=>cases h5;exact k2.2
    |fr ys=>cases h5;exact k2.2
    |z=>cases h5
   obtain⟨ow',r2,sm2⟩:∃ ow',RW X.K H0 zE zA ow' H ((ρ.set i ((ρ[i]?.getD none).map plS)).map (H20 (T70 [plS s]))) σ∧a30 (hw (ow0 ow i) (hz zA H)) (hw ow' (hz zA H)):=by
    rw[i01]
    cases T70 [plS s] with
    |true=>exact⟨_,r1,a30.refl _⟩
    |false=>exact⟨_,r1.b01,E90 _⟩
   cases d with
   |tup l =>
    cases h4
    obtain⟨a,ys,rfl,m1,m2⟩:=hd.B30
    exact⟨a,k1,.inl ⟨⟨ys,(a20 zA H).sqT (a30.sqT k10 m1)⟩,j91 (y51 m1 m2) r2 st sm2 e2 (po.mono (a30.trans sm sm2))⟩⟩
   |lst l =>
    cases h4
    obtain⟨a,ys,rfl,m1,m2⟩:=hd.b31
    exact⟨a,k1,.inr ⟨⟨ys,((m1.same k10).same (a20 zA H)).sq⟩,j91 (j31 m1 m2) r2 st sm2 e2 (po.mono (a30.trans sm sm2))⟩⟩
   |_=>cases h4
theorem H32(x:XS lm X G E N sc cn){p:Pat}{it:It}{src:Ex}{b:Sm}{tg iter:Expr}{body:List Stmt}{pos:Pos}(hp:j40 N (N20 sc) p tg=true)(hi:PI X tg iter (tIt X.K G E it src))(hns:A80 iter=true)(hv:Z41 it src=none)(hb:PSs X body (tX X.K G E H0 zE b)) :
  PS X (.For tg iter body [] pos) (tX X.K G E H0 zE (.fr p it src b)):=by
 refine PS.imp (Q11 x.own x.calm hi (y31 x.loc hp) hb (z41 hns X.env)) λD σ H q=>?_
 obtain⟨zA,ow,ρ,z,rr,rw,st,ee,po⟩:=q
 have e0:M.bind (ev G.F src ρ) (λl=>M.bind (M.of ((plA l).bind (itD it))) λxs=>Z10 (fBody G.F zE.isNone p b) xs ((T80 it src l ρ).map (H20 (T70 l)))) z=some rr:=ee
 rcases M.bind_some e0 with ⟨l,z1,e1,e2⟩ | ⟨c,z1,e1,e2⟩
 ·obtain⟨xs,hx,e3⟩:=M.a10 e2
  refine⟨zA,ρ,z,_,rw.U90,st,e1,xs,hx,λJ H1 x1 st1 IT=>?_⟩
  have r1:=rw.mono x1
  have frz:Z10 (fBody G.F zE.isNone p b) xs (b01 ρ) z1=some rr→_:=λe3=>j91 (G:=G) (E:=E) (D:=D) (IT (λ_=>True) (hz zA H1) (a30.refl _) (λ_ _ q=>q) (λ_ _ _ q=>q) (λds hds d hd=>by cases d <;> first | trivial | exact λ_ _=>trivial) λ_ _ q _=>q) r1.b01 st1 (by rw[x90];exact a30.refl _) e3 (po.mono (a30.trans (e00 x1) (E90 ow)))
  rw[i01] at e3
  have he:T80 it src l ρ=match o21 l with | true=>b01 ρ | false=>ρ:=by
   unfold T80;rw[hv] <;> cases o21 l <;> rfl
  have tt:b01 (b01 ρ)=b01 ρ:=by
   unfold b01
   rw[List.map_map]
   refine map_congr_left λo _=>?_
   match o with
   |none=>rfl
   |some (.d _)=>rfl
   |some (.fr _)=>rfl
   |some .z=>rfl
  cases hl:o21 l with
  |true =>
   rw[hl] at he
   rw[he] at e3
   dsimp only at e3
   rw[tt,ite_self] at e3
   exact frz e3
  |false =>
   rw[hl] at he
   rw[he] at e3
   dsimp only at e3
   split at e3
   ·rename_i hbb
    refine j91 (IT (λy=>bare y=true) (hw ow (hz zA H1)) k10 (λa ys q=>z61 q r1.c42) (λd v hd q=>N10 r1.c42 hd q) (λds hds d hd=>?_) λa ys q hor=>?_) r1 st1 (a30.refl _) e3 (po.mono (e00 x1))
    ·have h:=hbb
     unfold T70 at h
     rw[hds] at h
     have:=List.all_eq_true.mp h d hd
     cases d with
     |tup m=>exact λy hy=>F00 this hy
     |lst m=>exact λy hy=>F00 this hy
     |_=>trivial
    ·rcases hor with ⟨hn,hm1⟩ | hm
     ·refine r90.of (i40 (d90 hm1 (st.w61 hn)) λj w=>?_)
      obtain⟨zs,k⟩:=rw.lst j a w
      rw[hn] at k;cases k
     ·rw[hl] at hm;cases hm
   ·exact frz e3
 ·subst e2
  exact⟨zA,ρ,z,_,rw.U90,st,e1,po.er_ rw⟩
end
def isQ:Sm→Bool
 |.nil=>true
 |.seq _ _=>true
 |_=>false
def d22:Expr→Bool
 |.IfExp ..=>false
 |_=>true
def T02:Expr→Bool
 |.SetComp ..=>false
 |.DictComp ..=>false
 |_=>true
def mtI(lm:Bool)(fns:List (Str × List Str))(nums:List (Str × Int))(it:It)(src:Ex)(sc:Scope)(N:List Str)(tg iter:Expr):Bool:=match it with
 |.seq=>mt lm fns nums src sc N [iter]
 |.rng1=>opt (h82 iter) λr=>r.1.1 == ("range":Str)&&glob sc r.1.1&&mt lm fns nums src sc N [r.1.2.2.1]
 |.rng2=>opt (h92 iter) λr=>r.1.1 == ("range":Str)&&glob sc r.1.1&&mt lm fns nums src sc N [r.1.2.2.1,r.1.2.2.2.1]
 |.zip=>opt (h92 iter) λr=>r.1.1 == ("zip":Str)&&glob sc r.1.1&&n40 tg&&mt lm fns nums src sc N [r.1.2.2.1,r.1.2.2.2.1]
 |.enum=>opt (h82 iter) λr=>r.1.1 == ("enumerate":Str)&&glob sc r.1.1&&n40 tg&&mt lm fns nums src sc N [r.1.2.2.1]
def T12:(p:Pat)→Option {q:Nat × Nat // p=.tup (.cons (.v q.1) (.cons (.v q.2) .nil))}
 |.tup (.cons (.v i) (.cons (.v j) .nil))=>some ⟨(i,j),rfl⟩
 |_=>none
def T22:(e:Ex)→Option {q:Ex × Ex // e=.tup (.cons q.1 (.cons q.2 .nil))}
 |.tup (.cons a (.cons b .nil))=>some ⟨(a,b),rfl⟩
 |_=>none
def T32:(e:Expr)→Option {q:Expr × Expr × Nat × Pos // e=.Tuple [q.1,q.2.1] q.2.2.1 q.2.2.2}
 |.Tuple [a,b] k p=>some ⟨(a,b,k,p),rfl⟩
 |_=>none
def T42(sc:Scope)(p:Pat)(e:Ex)(tg v:Expr):Bool:=opt (T12 p) λ_=>opt (T22 e) λ_=>opt (L32 tg) λt=>opt (T32 v) λu =>
  !(t.1.1 == t.1.2.2.1)&&sc.names.lookup t.1.1 == some .local&&sc.names.lookup t.1.2.2.1 == some .local&&t.1.2.2.2.1.line == t.1.2.1.line&&noStar u.1.1&&noStar u.1.2.1&&!([u.1.1,u.1.2.1].all (foldedForSure 8))&&!([u.1.1,u.1.2.1].all (constantsAlone 8))
def isNm:Expr→Bool
 |.Name ..=>true
 |_=>false
def setB(sc:Scope)(p:Pat)(e:Ex)(tg v:Expr):Bool :=
 if isNm tg then T02 v else if n40 tg then(if n40 v then(match v with | .Tuple vs _ _=>vs.all (foldedForSure 8) | _=>false) || (match tg with | .Tuple ts _ _=>ts.any (A01 λy=>sc.names.lookup y) | _=>false) || T42 sc p e tg v else true) else false
def d32:(e:List Stmt)→Option {q:Expr × Expr × Pos // e=[.Assign [q.1] q.2.1 q.2.2]}
 |[.Assign [tg] v p]=>some ⟨(tg,v,p),rfl⟩
 |_=>none
def H42:(e:List Stmt)→Option {q:Option Expr × Pos // e=[.Return q.1 q.2]}
 |[.Return v p]=>some ⟨(v,p),rfl⟩
 |_=>none
def T52:(e:List Stmt)→Option {q:Expr × List Stmt × List Stmt × Pos // e=[.If q.1 q.2.1 q.2.2.1 q.2.2.2]}
 |[.If c a b p]=>some ⟨(c,a,b,p),rfl⟩
 |_=>none
def H52:(e:List Stmt)→Option {q:Expr × Expr × List Stmt × Pos // e=[.For q.1 q.2.1 q.2.2.1 [] q.2.2.2]}
 |[.For tg iter body [] p]=>some ⟨(tg,iter,body,p),rfl⟩
 |_=>none
def H62:(e:List Stmt)→Option {q:Expr × List Stmt × Pos // e=[.While q.1 q.2.1 [] q.2.2]}
 |[.While c body [] p]=>some ⟨(c,body,p),rfl⟩
 |_=>none
def t82:(e:List Stmt)→Option {q:Expr × Pos // e=[.Raise (some q.1) none q.2]}
 |[.Raise (some x) none p]=>some ⟨(x,p),rfl⟩
 |_=>none
def d42:(e:List Stmt)→Option {q:Expr × Pos // e=[.Expr q.1 q.2]}
 |[.Expr v p]=>some ⟨(v,p),rfl⟩
 |_=>none
def H72:(e:Expr)→Option {q:Str × Pos × Str × Nat × Pos × Pos // e=.Call (.Name q.1 q.2.1) [.Constant (.str q.2.2.1) q.2.2.2.1 q.2.2.2.2.1] [] q.2.2.2.2.2}
 |.Call (.Name n p1) [.Constant (.str y) k p2] [] p3=>some ⟨(n,p1,y,k,p2,p3),rfl⟩
 |_=>none
def d52:(e:Expr)→Option {q:Str × Pos × Str × Pos × Expr × Pos // e=.Call (.Attribute (.Name q.1 q.2.1) q.2.2.1 q.2.2.2.1) [q.2.2.2.2.1] [] q.2.2.2.2.2}
 |.Call (.Attribute (.Name n p) a ap) [v] [] cp=>some ⟨(n,p,a,ap,v,cp),rfl⟩
 |_=>none
def T62:(e:Expr)→Option {q:Str × Pos × Nat × Pos × Pos // e=.Subscript (.Name q.1 q.2.1) (.Constant (.int 0) q.2.2.1 q.2.2.2.1) q.2.2.2.2}
 |.Subscript (.Name n p) (.Constant (.int 0) c q1) tp=>some ⟨(n,p,c,q1,tp),rfl⟩
 |_=>none
def T72:(e:Expr)→Option {q:Str × Pos × Expr × Pos // e=.Subscript (.Name q.1 q.2.1) q.2.2.1 q.2.2.2}
 |.Subscript (.Name n p) w tp=>some ⟨(n,p,w,tp),rfl⟩
 |_=>none
def T82:(e:Expr)→Option {q:Str × Pos // e=.Name q.1 q.2}
 |.Name n p=>some ⟨(n,p),rfl⟩
 |_=>none
def H82:(e:List Stmt)→Option {q:Str × Pos × Operator × Expr × Pos // e=[.AugAssign (.Name q.1 q.2.1) q.2.2.1 q.2.2.2.1 q.2.2.2.2]}
 |[.AugAssign (.Name n p) op v pos]=>some ⟨(n,p,op,v,pos),rfl⟩
 |_=>none
def N41:Ex→Bool
 |.con .non=>true
 |_=>false
def mtS(lm:Bool)(fns:List (Str × List Str))(nums:List (Str × Int))(cn:List Str)(sc:Scope)(N:List Str):Sm→List Stmt→Bool
 |.nil,ss=>ss.isEmpty
 |.seq s r,ss=>opt ss.head? λst=>!isQ s&&isQ r&&mtS lm fns nums cn sc N s [st]&&mtS lm fns nums cn sc N r ss.tail
 |.set p e,ss=>opt (d32 ss) λq=>!isL e&&j40 N (N20 sc) p q.1.1&&mt lm fns nums e sc N [q.1.2.1]&&setB sc p e q.1.1 q.1.2.1
 |.ret e,ss=>opt (H42 ss) λq=>match q.1.1 with
  |some v=>!isL e&&mt lm fns nums e sc N [v]
  |none=>N41 e
 |.iff c t u,ss=>opt (T52 ss) λq=>!isL c&&d22 q.1.1&&isQ t&&isQ u&&mt lm fns nums c sc N [q.1.1]&&mtS lm fns nums cn sc N t q.1.2.1&&mtS lm fns nums cn sc N u q.1.2.2.1
 |.fr p it src b,ss=>opt (H52 ss) λq=>j40 N (N20 sc) p q.1.1&&isL src&&A80 q.1.2.1&&isQ b&&mtI lm fns nums it src sc N q.1.1 q.1.2.1&&mtS lm fns nums cn sc N b q.1.2.2.1
 |.whl c b,ss=>opt (H62 ss) λq=>!isL c&&d22 q.1.1&&isQ b&&mt lm fns nums c sc N [q.1.1]&&mtS lm fns nums cn sc N b q.1.2.1
 |.rais c,ss=>opt (t82 ss) λq=>opt (H72 q.1.1) λr=>cn[c]? == some r.1.1&&glob sc r.1.1
 |.exp e,ss=>opt (d42 ss) λq=>V00 q.1.1&&!isL e&&mt lm fns nums e sc N [q.1.1]
 |.app i e,ss=>opt (d42 ss) λq=>opt (d52 q.1.1) λr=>r.1.2.2.1 == ("append":Str)&&N[i]? == some r.1.1&&d80 r.1.1&&noStar r.1.2.2.2.2.1&&!isL e&&r.1.2.2.2.1.endLine == r.1.2.2.2.2.2.line&&mt lm fns nums e sc N [r.1.2.2.2.2.1]
 |.newz i f as,ss=>opt (d32 ss) λq=>opt (T82 q.1.1) λr=>N[i]? == some r.1.1&&N20 sc r.1.1&&V00 q.1.2.1&&mt lm fns nums (.call f as) sc N [q.1.2.1]
 |.zset i e,ss=>opt (d32 ss) λq=>opt (T62 q.1.1) λr=>N[i]? == some r.1.1&&d80 r.1.1&&!isL e&&mt lm fns nums e sc N [q.1.2.1]
 |.apop i j e,ss=>opt (d42 ss) λq=>opt (d52 q.1.1) λr=>opt (d52 r.1.2.2.2.2.1) λt=>r.1.2.2.1 == ("append":Str)&&t.1.2.2.1 == ("pop":Str)&&N[i]? == some r.1.1&&d80 r.1.1&&N[j]? == some t.1.1&&d80 t.1.1&&noStar t.1.2.2.2.2.1&&!isL e&&r.1.2.2.2.1.endLine == r.1.2.2.2.2.2.line&&t.1.2.2.2.1.endLine == t.1.2.2.2.2.2.line&&mt lm fns nums e sc N [t.1.2.2.2.2.1]
 |.aug o i e,ss=>opt (H82 ss) λq=>N[i]? == some q.1.1&&N20 sc q.1.1&&y42 o q.1.2.2.1&&!isL e&&mt lm fns nums e sc N [q.1.2.2.2.1]
section
variable {lm:Bool}{X:Cx}{G:Gs}{E:XK}{N:List Str}{sc:Scope}{cn:List Str}{H0:Hp}{zE:Option Addr}
theorem H92(x:XI lm X G E N sc){it:It}{src:Ex}{tg iter:Expr}(hL:isL src=true)(h:mtI lm G.fns G.nums it src sc N tg iter=true):PI X tg iter (tIt X.K G E it src):=by
 cases it with
 |seq =>
  obtain⟨a,rfl,ga⟩:=z51 hL (sound G src x h)
  exact S41 ga
 |rng1 =>
  obtain⟨⟨⟨n,_,a,_⟩,rfl⟩,-,h⟩:=a40 h
  simp only[and_eq_true,beq_iff_eq] at h
  exact y91 x h.1.1 h.1.2 hL (sound G src x h.2)
 |rng2 =>
  obtain⟨⟨⟨n,_,a,b,_⟩,rfl⟩,-,h⟩:=a40 h
  simp only[and_eq_true,beq_iff_eq] at h
  exact z01 x h.1.1 h.1.2 hL (sound G src x h.2)
 |zip =>
  obtain⟨⟨⟨n,_,a,b,_⟩,rfl⟩,-,h⟩:=a40 h
  simp only[and_eq_true,beq_iff_eq] at h
  exact z21 x h.1.2 h.1.1.1 h.1.1.2 hL (sound G src x h.2)
 |enum =>
  obtain⟨⟨⟨n,_,a,_⟩,rfl⟩,-,h⟩:=a40 h
  simp only[and_eq_true,beq_iff_eq] at h
  exact j61 x h.1.2 h.1.1.1 h.1.1.2 hL (sound G src x h.2)
theorem k01(h:d22 e=true):∀ t a b p,e≠.IfExp t a b p:=by
 intro t a b p he
 subst he
 cases h
def GS(X:Cx)(G:Gs)(E:XK)(H0:Hp)(zE:Option Addr)(s:Sm)(ss:List Stmt):Prop:=(isQ s=true→PSs X ss (tX X.K G E H0 zE s))∧(isQ s=false→∃ st,ss=[st]∧PS X st (tX X.K G E H0 zE s))
theorem n50{s:Sm}{st:Stmt}(hq:isQ s=false)(h:PS X st (tX X.K G E H0 zE s)):GS X G E H0 zE s [st]:=⟨λk=>(by rw[hq] at k;cases k),λ_=>⟨st,rfl,h⟩⟩
theorem d62{x:XI lm X G E N sc}{e:Ex}{elt:Expr}{gs:List Comprehension}{csc:Scope}{q:Pos}(h:mt lm G.fns G.nums e sc N [.ListComp elt gs csc q]=true)(hL:isL e=false):∃ tg iter ifs,gs=[⟨tg,iter,ifs,0⟩]∧I70 X G E e elt tg iter ifs csc:=by
 cases e with
 |comp own capt p it src cond el =>
  match gs,h with
  |[⟨tg,iter,ifs,0⟩],h=>exact⟨tg,iter,ifs,rfl,U80 (λx _=>sound G src x) (λx _=>sound G cond x) (λx _=>sound G el x) x h⟩
 |nil=>cases hL
 |cons _ _=>cases hL
 |bf f as=>cases f <;> cases h
 |_=>cases h
theorem I02(x:XS lm X G E N sc cn){p:Pat}{e:Ex}{tg v:Expr}{pos:Pos}(h1:(!isL e)=true)(h2:j40 N (N20 sc) p tg=true)(h3:mt lm G.fns G.nums e sc N [v]=true)(h4:setB sc p e tg v=true):PS X (.Assign [tg] v pos) (tX X.K G E H0 zE (.set p e)):=by
 have g:=a70 (b70 h1) (sound G e x.toXI h3)
 unfold setB at h4
 split at h4
 ·rename_i hn
  cases tg with
  |Name y px =>
   cases p with
   |v i =>
    unfold j40 at h2
    rw[and_eq_true,beq_iff_eq] at h2
    refine G52 x h2.1 h2.2 g (λelt gs csc q hv=>?_) (λa b c d hv=>?_) (λa b c d f hv=>?_)
    ·subst hv;exact d62 (x:=x.toXI) h3 (b70 h1)
    ·subst hv;cases h4
    ·subst hv;cases h4
   |tup _=>unfold j40 at h2;cases h2
   |nil=>unfold j40 at h2;cases h2
   |cons _ _=>unfold j40 at h2;cases h2
  |_=>cases hn
 ·split at h4
  ·rename_i ht
   split at h4
   ·rename_i hv
    rw[or_eq_true,or_eq_true] at h4
    rcases h4 with (h4 | h4) | h4
    ·cases tg with
     |Tuple ts k tp =>
      cases v with
      |Tuple vs k' vp=>exact A11 x h2 g rfl (c62 h4)
      |_=>cases hv
     |_=>cases ht
    ·cases tg with
     |Tuple ts k tp =>
      cases v with
      |Tuple vs k' vp =>
       refine A11 x h2 g rfl (c72 ?_)
       have e:X.env.kindOf=λy=>sc.names.lookup y:=by funext y;unfold Env.kindOf;rw[x.sco]
       rw[e];exact h4
      |_=>cases hv
     |_=>cases ht
    ·obtain⟨⟨⟨i,j⟩,rfl⟩,-,h4⟩:=a40 h4
     obtain⟨⟨⟨ea,eb⟩,rfl⟩,-,h4⟩:=a40 h4
     obtain⟨⟨⟨y,px,w,py,kt,tp⟩,rfl⟩,-,h4⟩:=a40 h4
     obtain⟨⟨⟨a,b,kv,vp⟩,rfl⟩,-,h4⟩:=a40 h4
     simp only[and_eq_true,not_eq_true',beq_iff_eq] at h4
     obtain⟨⟨⟨⟨⟨⟨⟨k1,k2⟩,k3⟩,k4⟩,k5⟩,k6⟩,k7⟩,k8⟩:=h4
     unfold j40 at h2
     simp only[o71,j40,and_eq_true,beq_iff_eq] at h2
     obtain⟨⟨_,h21,_⟩,⟨_,h22,_⟩,_⟩:=h2
     have h3':(isL (.cons ea (.cons eb .nil))&&mt lm G.fns G.nums (.cons ea (.cons eb .nil)) sc N [a,b])=true:=h3
     rw[and_eq_true] at h3'
     have ga:Good X G E (.cons ea (.cons eb .nil)) [a,b]:=sound G (.cons ea (.cons eb .nil)) x.toXI h3'.2
     refine G62 x h21 h22 (by simpa using k1) k2 k3 ga (s92 x.bk ?_ ?_ (by simpa using k1) (by rw[k4];exact beq_self_eq_true _) k5 k6 k7 k8)
     ·unfold Env.kindOf;rw[x.sco];exact k2
     ·unfold Env.kindOf;rw[x.sco];exact k3
   ·rename_i hv
    exact A11 x h2 g ht (c52 (by simpa using hv))
  ·cases h4
theorem A51(h:N41 e=true):e=.con .non:=by
 unfold N41 at h
 split at h
 ·rfl
 ·cases h
theorem I12(x:XS lm X G E N sc cn){e:Ex}{o:Option Expr}{pos:Pos}(h:(match o with | some v=>!isL e&&mt lm G.fns G.nums e sc N [v] | none=>N41 e)=true):PS X (.Return o pos) (tX X.K G E H0 zE (.ret e)):=by
 cases o with
 |some v =>
  have h:(!isL e&&mt lm G.fns G.nums e sc N [v])=true:=h
  rw[and_eq_true] at h
  by_cases hv:∃ i,e=.var i
  ·obtain⟨i,rfl⟩:=hv
   have h2:=h.2
   cases v with
   |Name n p =>
    have h2:(N[i]? == some n&&d80 n)=true:=h2
    rw[and_eq_true,beq_iff_eq] at h2
    exact t02 x h2.1 h2.2
   |_=>cases h2
  ·exact G72 (λi hi=>hv ⟨i,hi⟩) (a70 (b70 h.1) (sound G e x.toXI h.2))
 |none =>
  have he:=A51 h
  subst he
  refine PS.imp U61 λD σ H q=>?_
  obtain⟨zA,ow,ρ,z,rr,rw,st,ee,po⟩:=q
  cases ee
  exact po .non H (λk=>nomatch k) rw.ext (i02 rw.zok st) (show Hd X.K (hz zE H) .non .non from Hd.non)
theorem T92(x:XS lm X G E N sc cn){p:Pat}{it:It}{src:Ex}{b:Sm}{tg iter:Expr}{body:List Stmt}{pos:Pos}(h1:j40 N (N20 sc) p tg=true)(h2:isL src=true)(h3:A80 iter=true)(h5:mtI lm G.fns G.nums it src sc N tg iter=true)(hb:PSs X body (tX X.K G E H0 zE b)) :
  PS X (.For tg iter body [] pos) (tX X.K G E H0 zE (.fr p it src b)):=by
 cases hv:Z41 it src with
 |some q =>
  obtain⟨i,rfl,rfl⟩:=q
  have h5':(noStar iter&&!isL (.var i)&&isL .nil&&mt lm G.fns G.nums (.var i) sc N [iter]&&mt lm G.fns G.nums .nil sc N [])=true:=h5
  simp only[and_eq_true] at h5'
  have h7:=h5'.1.2
  cases iter with
  |Name n np =>
   have h7:(N[i]? == some n&&d80 n)=true:=h7
   rw[and_eq_true,beq_iff_eq] at h7
   exact t72 x h1 h7.1 h7.2 hb
  |_=>cases h7
 |none=>exact H32 x h1 (H92 x.toXI h2 h5) h3 hv hb
theorem t92(x:XS lm X G E N sc cn):∀ (s:Sm) {ss:List Stmt},mtS lm G.fns G.nums cn sc N s ss=true→GS X G E H0 zE s ss:=by
 intro s
 induction s with
 |nil =>
  intro ss h
  have:ss=[]:=List.isEmpty_iff.mp h
  subst this
  exact⟨λ_=>G32,λk=>by cases k⟩
 |seq s r ihs ihr =>
  intro ss h
  obtain⟨st,h0,h⟩:=a40 h
  cases ss with
  |nil=>cases h0
  |cons st' rest =>
   cases h0
   simp only[and_eq_true,not_eq_true',List.tail_cons] at h
   obtain⟨⟨⟨h1,h2⟩,h3⟩,h4⟩:=h
   obtain⟨st',he,hs⟩:=(ihs h3).2 h1
   cases he
   exact⟨λ_=>G42 hs ((ihr h4).1 h2),λk=>by cases k⟩
 |set p e =>
  intro ss h
  obtain⟨⟨q,rfl⟩,-,h⟩:=a40 h
  simp only[and_eq_true] at h
  exact n50 rfl (I02 x h.1.1.1 h.1.1.2 h.1.2 h.2)
 |ret e =>
  intro ss h
  obtain⟨⟨q,rfl⟩,-,h⟩:=a40 h
  exact n50 rfl (I12 x h)
 |iff c t u iht ihu =>
  intro ss h
  obtain⟨⟨q,rfl⟩,-,h⟩:=a40 h
  simp only[and_eq_true] at h
  obtain⟨⟨⟨⟨⟨⟨h1,h2⟩,h3⟩,h4⟩,h5⟩,h6⟩,h7⟩:=h
  exact n50 rfl (S82 (a70 (b70 h1) (sound G c x.toXI h5)) (k01 h2) ((iht h6).1 h3) ((ihu h7).1 h4))
 |fr p it src b ih =>
  intro ss h
  obtain⟨⟨q,rfl⟩,-,h⟩:=a40 h
  simp only[and_eq_true] at h
  obtain⟨⟨⟨⟨⟨h1,h2⟩,h3⟩,h4⟩,h5⟩,h6⟩:=h
  exact n50 rfl (T92 x h1 h2 h3 h5 ((ih h6).1 h4))
 |whl c b ih =>
  intro ss h
  obtain⟨⟨q,rfl⟩,-,h⟩:=a40 h
  simp only[and_eq_true] at h
  obtain⟨⟨⟨⟨h1,h2⟩,h3⟩,h4⟩,h5⟩:=h
  exact n50 rfl (H12 x (a70 (b70 h1) (sound G c x.toXI h4)) (k01 h2) ((ih h5).1 h3))
 |rais c =>
  intro ss h
  obtain⟨⟨⟨e,pos⟩,rfl⟩,-,h⟩:=a40 h
  dsimp only at h
  obtain⟨⟨⟨n,p1,y,k,p2,p3⟩,rfl⟩,-,h⟩:=a40 h
  simp only[and_eq_true,beq_iff_eq] at h
  exact n50 rfl (x_raise x h.1 h.2)
 |exp e =>
  intro ss h
  obtain⟨⟨q,rfl⟩,-,h⟩:=a40 h
  simp only[and_eq_true] at h
  exact n50 rfl (G82 (a70 (b70 h.1.2) (sound G e x.toXI h.2)) h.1.1)
 |app i e =>
  intro ss h
  obtain⟨⟨⟨v0,pos⟩,rfl⟩,-,h⟩:=a40 h
  dsimp only at h
  obtain⟨⟨⟨n,p1,a,apos,v,cpos⟩,rfl⟩,-,h⟩:=a40 h
  simp only[and_eq_true,beq_iff_eq] at h
  obtain⟨⟨⟨⟨⟨⟨h7,h8⟩,h2⟩,h3⟩,h4⟩,h5⟩,h6⟩:=h
  subst h7
  exact n50 rfl (H02 x h8 h2 h3 (a70 (b70 h4) (sound G e x.toXI h6)) (by rw[h5];exact beq_self_eq_true _))
 |newz i f as =>
  intro ss h
  obtain⟨⟨⟨tg,v,pos⟩,rfl⟩,-,h⟩:=a40 h
  dsimp only at h
  obtain⟨⟨⟨y,p1⟩,rfl⟩,-,h⟩:=a40 h
  simp only[and_eq_true,beq_iff_eq] at h
  obtain⟨⟨⟨h1,h2⟩,h3⟩,h4⟩:=h
  exact n50 rfl (t32 x h1 h2 (a70 rfl (sound G (.call f as) x.toXI h4)) h3)
 |zset i e =>
  intro ss h
  obtain⟨⟨⟨tg,v,pos⟩,rfl⟩,-,h⟩:=a40 h
  dsimp only at h
  obtain⟨⟨⟨n,p1,c,p2,p3⟩,rfl⟩,-,h⟩:=a40 h
  simp only[and_eq_true,beq_iff_eq] at h
  exact n50 rfl (t42 x h.1.1.1 h.1.1.2 (a70 (b70 h.1.2) (sound G e x.toXI h.2)))
 |apop i j e =>
  intro ss h
  obtain⟨⟨⟨v0,pos⟩,rfl⟩,-,h⟩:=a40 h
  dsimp only at h
  obtain⟨⟨⟨n,p1,a,apos,v1,cpos⟩,rfl⟩,-,h⟩:=a40 h
  dsimp only at h
  obtain⟨⟨⟨m,p2,b,apos',v,cpos'⟩,rfl⟩,-,h⟩:=a40 h
  simp only[and_eq_true,beq_iff_eq] at h
  obtain⟨⟨⟨⟨⟨⟨⟨⟨⟨⟨g1,g2⟩,g3⟩,g4⟩,g5⟩,g6⟩,g7⟩,g8⟩,g9⟩,g10⟩,g11⟩:=h
  subst g1;subst g2
  exact n50 rfl (t52 x g3 g4 g5 g6 g7 (a70 (b70 g8) (sound G e x.toXI g11)) (by rw[g9];exact beq_self_eq_true _) (by rw[g10];exact beq_self_eq_true _))
 |aug o i e =>
  intro ss h
  obtain⟨⟨⟨y,p1,op,v,pos⟩,rfl⟩,-,h⟩:=a40 h
  simp only[and_eq_true,beq_iff_eq] at h
  exact n50 rfl (G92 x h.1.1.1.1 h.1.1.1.2 h.1.1.2 (a70 (b70 h.1.2) (sound G e x.toXI h.2)))
end
structure GX(P:Program)(w:World)(K:PySem.W.Frag)(mg:Str→Option Value)(base:Heap)(G:Gs)(cn:List Str):Prop where
 gok:∀ f nm ps,G.fns[f]?=some (nm,ps)→∃ fa fd,mg nm=some (.ref fa)∧PySem.W.keepIn K (.ref fa)=true∧Binds K fd ps []∧m91 P w K mg base (CX1 P w) G.lv fa fd ps (spF K G f ps.length)
 num:∀ p∈G.nums,∃ t,mg p.1=some (.int p.2 t)
 blt:∀ n∈b52,mg n=none
 cls:∀ c x,cn[c]?=some x→mg x=some (.ref (G.cls c))∧PySem.W.excIn K (G.cls c) [.type "ValueError",.type "Exception",.type "BaseException",.type "object"] "ValueError.__new__"=true
section
variable {P:Program}{w:World}{K:PySem.W.Frag}{mg:Str→Option Value}{base:Heap}{G:Gs}{cn:List Str}
theorem u02(g:GX P w K mg base G cn){lm:Bool}{N ps:List Str}{qual:Str}{sc:Scope}{f:Addr}{fd:FuncData}{cd:Value}{A:Around}{outer:List PySem.Env}{s:Shared}{H:Hp}{E:XK}(S:s90 N ps sc)(hl:N.all (N20 sc)=true)
  (hr:Y90 G.lv (A.deeper (envOfC qual sc s.heap.objs.size f cd))) (hc:fd.code=cd):XS lm (R80 (CX1 P w) P w K mg base N qual sc f cd A outer s H E) G E N sc cn where
 gok:=g.gok
 num:=g.num
 blt:=g.blt
 hN:=rfl
 nd:=S.nd
 vis:=λx hx=>by
  have:=List.all_eq_true.mp hl x hx
  unfold N20 at this
  rw[or_eq_true,beq_iff_eq,beq_iff_eq] at this
  rcases this with h | h
  ·exact .inl h
  ·exact .inr (.inl h)
 glb:=λx h=>h
 cel:=λx h=>h
 calm:=rfl
 room:=hr
 pas:=C42
 sco:=rfl
 fnk:=S.kind
 own:=PassesOwn.leaving
 can:=u91
 fnx:=λ_=>rfl
 cls:=g.cls
theorem U02{x qual:Str}{st:Stmt}{f:Addr}{fd:FuncData}{N ps:List Str}{k:Nat}{sp:Sp}(F:Fun K x qual st f fd)(S:s90 N ps (c80 st))(len:∀ vs H Q E,sp vs H Q E→vs.length=ps.length)
  (hb:∀ (cdv:Value),fd.code=cdv→∀ (A:Around) (outer:List PySem.Env) (s:Shared) (H:Hp) (vs:List V) (Q:VK) (E:XK),Y90 k (A.deeper (envOfC qual (c80 st) s.heap.objs.size f cdv))→sp vs H Q E →
   ∃ t,PSs (R80 (CX1 P w) P w K mg base N qual (c80 st) f cdv A outer s H E) (o40 st) t∧t { nx:=λ_ H'=>Q .non H',rt:=Q } (L2.start N vs) H):m91 P w K mg base (CX1 P w) (k + 1) f fd ps sp:=by
 obtain⟨oc,od,kV,doc,pm,an,cdv,ct,osl,rfl,lk,hcd⟩:=F.ex
 exact B02 lk hcd S len λA outer s H vs Q E hr hsp=>hb cdv rfl A outer s H vs Q E hr hsp
theorem k11:∀ {ss:List S}{vs:List V}{i:Nat}{s:S}{n:Nat},RvA K zA H ss vs→(ss.map some++replicate n none)[i]?=some (some s)→∃ v,(vs.map some++replicate n none)[i]?=some (some v)∧RvP K zA H s v
 |[],_,i,s,n,h,e=>by
  cases h
  simp only[map_nil,nil_append] at e
  rw[List.getElem?_replicate] at e
  split at e <;> cases e
 |a::ss,_,0,s,n,h,e=>by
  cases h with
  |cons h1 h2 =>
   simp only[map_cons,cons_append,List.getElem?_cons_zero] at e
   cases e
   exact⟨_,rfl,h1⟩
 |a::ss,_,i + 1,s,n,h,e=>by
  cases h with
  |cons h1 h2 =>
   obtain⟨v,k1,k2⟩:=k11 (i:=i) (s:=s) (n:=n) h2 (by simpa using e)
   exact⟨v,by simpa using k1,k2⟩
theorem Paired.len{α β:Type}{R:α→β→Prop}:∀ {l:List α}{m:List β},Paired R l m→l.length=m.length
 |[],_,h=>by cases h;rfl
 |_::_,_,h=>by
  cases h with
  |cons h1 h2=>simp[Paired.len h2]
theorem N51(h:RvA K zA H ss vs)(hn:∀ s∈ss,∀ xs,s≠.fr xs):RW K H zA zA (λ_=>none) H (Q.start N.length ss) (L2.start N vs):=by
 have hl:ss.length=vs.length:=Paired.len h
 refine⟨?_,λi j a e=>(nomatch e),λi a e=>(nomatch e),λi a e=>(nomatch e),λi s e=>?_,Ext.refl,.inl rfl,λi a e=>(nomatch e)⟩
 ·unfold Q.start L2.start
  simp[hl]
 ·unfold Q.start at e
  obtain⟨v,k1,k2⟩:=k11 h e
  refine⟨v,?_,?_⟩
  ·unfold L2.start
   rw[← hl];exact k1
  ·cases s with
   |d x=>exact⟨rfl,by rw[x90];exact k2⟩
   |z=>exact⟨rfl,k2⟩
   |fr xs =>
    rcases List.mem_append.mp (mem_of_getElem? e) with q | q
    ·obtain⟨s',q1,q2⟩:=List.mem_map.mp q
     cases q2
     exact absurd rfl (hn _ q1 xs)
    ·cases List.eq_of_mem_replicate q
theorem d72(st:e50 zA z H):y32 zA z1=H30 z z1:=by
 have st:=st.zat
 cases zA with
 |none =>
  cases z with
  |none=>rfl
  |some p=>exact st.elim
 |some a =>
  cases z with
  |none=>exact st.elim
  |some p=>rfl
theorem A61(st:e50 zA z H):z.isNone=zA.isNone:=by
 have st:=st.zat
 cases zA with
 |none =>
  cases z with
  |none=>rfl
  |some p=>exact st.elim
 |some a =>
  cases z with
  |none=>exact st.elim
  |some p=>rfl
theorem A71(g:GX P w K mg base G cn){lm:Bool}{N ps:List Str}{nm:Str}{st:Stmt}{fa:Addr}{fd:FuncData}{b:Sm}{f:Nat}{F':FT}(Fn:Fun K nm nm st fa fd)(Sc:s90 N ps (c80 st))(hl:N.all (N20 (c80 st))=true)
  (ch:mtS lm G.fns G.nums cn (c80 st) N b (o40 st)=true) (hq:isQ b=true)
  (hF:∀ l z,F' false f l z=run G.F (.code ps.length N.length b) l z):m91 P w K mg base (CX1 P w) (G.lv + 1) fa fd ps (spF K { G with F:=F',lv:=G.lv + 1 } f ps.length):=by
 refine U02 Fn Sc (λvs H Q E h=>h.1) λcdv hcd A outer s H vs Qv E hr hsp=>?_
 obtain⟨hlen,zA,z,ss,r,rv,st',e,po⟩:=hsp
 refine⟨_,(t92 (H0:=H) (zE:=zA) (u02 g Sc hl hr hcd) b ch).1 hq,?_⟩
 have e0:(if ss.length=ps.length∧ps.length≤N.length then(match ex G.F z.isNone b (Q.start N.length (ss.map plS)) z with
  |some (.ok (.nx _) z1)=>some (R.ok (S.d .non) (H30 z z1))
  |some (.ok (.rt s) z1)=>some (R.ok s (H30 z z1))
  |some (.er c z1)=>some (R.er c (H30 z z1))
  |none=>none) else none)=some r:=by
  have:=hF ss z
  exact this.symm.trans e
 rw[A61 st'] at e0
 split at e0
 ·have rw0:RW K H zA zA (λ_=>none) H (Q.start N.length (ss.map plS)) (L2.start N vs):=N51 rv.plS λs hs xs=>by
   obtain⟨s',_,rfl⟩:=List.mem_map.mp hs
   cases s' <;> exact λh=>nomatch h
  split at e0
  ·rename_i ρ z1 e1
   cases e0
   refine⟨zA,_,_,z,_,rw0,st',e1,λzA' ow' σ' H' r' st1 _=>?_⟩
   refine po .non H' r'.ext ?_ (show Hd K (hz zA H') .non .non from Hd.non)
   rw[← d72 st'];exact i02 r'.zok st1
  ·rename_i s1 z1 e1
   cases e0
   refine⟨zA,_,_,z,_,rw0,st',e1,λv H' nz x st1 rv'=>?_⟩
   exact po v H' x (by rw[← d72 st'];exact st1) rv'
  ·rename_i c z1 e1
   cases e0
   refine⟨zA,_,_,z,_,rw0,st',e1,λe H' x st1 hn=>?_⟩
   exact po e H' x (by rw[← d72 st'];exact st1) hn
  ·cases e0
 ·cases e0
def lev(G:Gs)(T:List Df)(k:Nat):Gs:={ G with F:=b11 T k,lv:=k }
theorem u12{T:List Df}(num:∀ p∈G.nums,∃ t,mg p.1=some (.int p.2 t))(blt:∀ n∈b52,mg n=none)
  (cls:∀ c x,cn[c]?=some x→mg x=some (.ref (G.cls c))∧PySem.W.excIn K (G.cls c) [.type "ValueError",.type "Exception",.type "BaseException",.type "object"] "ValueError.__new__"=true)
  (hd:∀ (f:Nat) (nm:Str) (ps:List Str),G.fns[f]?=some (nm,ps)→∃ (fa:Addr) (fd:FuncData),mg nm=some (.ref fa)∧PySem.W.keepIn K (.ref fa)=true∧Binds K fd ps [] ∧
   ((∃ (lm:Bool) (N:List Str) (st:Stmt) (b:Sm),T[f]?=some (Df.code ps.length N.length b)∧Fun K nm nm st fa fd∧s90 N ps (c80 st)∧N.all (N20 (c80 st))=true∧isQ b=true∧mtS lm G.fns G.nums cn (c80 st) N b (o40 st)=true) ∨
    T[f]?=none)):∀ k,GX P w K mg base (lev G T k) cn:=by
 have zero:∀ k,k < 3→GX P w K mg base (lev G T k) cn:=λk hk=>by
  refine⟨λf nm ps h=>?_,num,blt,cls⟩
  obtain⟨fa,fd,h1,h2,h3,_⟩:=hd f nm ps h
  refine⟨fa,fd,h1,h2,h3,λvs H Q E q=>q.1,λA outer s H args us vs Q E hr he hb hv hs=>?_⟩
  obtain⟨_,zA,z,ss,r,_,_,e,_⟩:=hs
  match k,hk with
  |0,_=>cases e
  |1,_=>cases e
  |2,_=>cases e
 intro k
 induction k using Nat.strongRecOn with
 |ind k ih =>
  match k,ih with
  |0,_=>exact zero 0 (by decide)
  |1,_=>exact zero 1 (by decide)
  |2,_=>exact zero 2 (by decide)
  |k + 3,ih =>
   refine⟨λf nm ps h=>?_,num,blt,cls⟩
   obtain⟨fa,fd,h1,h2,h3,h4⟩:=hd f nm ps h
   refine⟨fa,fd,h1,h2,h3,?_⟩
   rcases h4 with ⟨lm,N,st,b,k1,k2,k3,k4,k5,k6⟩ | h4
   ·refine A71 (G:=lev G T (k + 2)) (F':=b11 T (k + 3)) (ih (k + 2) (by omega)) k2 k3 k4 k6 k5 λl z=>?_
    ·show(match T[f]? with | some d=>run (b11 T (k + 2)) d l | none=>M.no) z=_
     rw[k1];rfl
   ·refine⟨λvs H Q E q=>q.1,λA outer s H args us vs Q E hr he hb hv hs=>?_⟩
    obtain⟨_,zA,z,ss,r,_,_,e,_⟩:=hs
    have e':(match T[f]? with | some d=>run (b11 T (k + 2)) d ss | none=>M.no) z=some r:=e
    rw[h4] at e'
    cases e'
end
end Q
namespace L2
open PySem PySem.W PySem.Calls PyProof.Rows
def F10(thr sok:Thread→Bool)(stp:SharedT→Thread→Option (SharedT × Thread)):Nat→SharedT→Thread→Option SharedT
 |0,_,_=>none
 |n + 1,s,t=>match thr t with
  |true=>some s
  |false=>match sok t with
   |false=>none
   |true=>match stp s t with
    |some (s',t')=>F10 thr sok stp n s' t'
    |none=>none
theorem V20:∀ {n:Nat}{s s':SharedT}{t:Thread},F10 through (stepOk n₀ ann) (stepT (denote tb) p w) n s t=some s'→topRun tb p w n₀ ann n s.abs t=some s'.abs
 |0,_,_,_,h=>by cases h
 |n + 1,s,s',t,h=>by
  unfold F10 at h
  unfold topRun
  cases ht:through t with
  |true=>rw[ht] at h;cases h;rfl
  |false =>
   rw[ht] at h
   cases hok:stepOk n₀ ann t with
   |false=>rw[hok] at h;cases h
   |true =>
    rw[hok] at h
    cases hst:stepT (denote tb) p w s t with
    |none=>rw[hst] at h;cases h
    |some r=>obtain⟨s₂,t₂⟩:=r;rw[hst] at h;rw[stepT_spec hst];exact V20 h
def grow:List Obj→Nat→BT→BT
 |[],_,t=>t
 |o::r,i,t=>grow r (i + 1) (t.ins i o)
def d82(w:World)(os:OsState):SharedT:=⟨grow (boot_heap w.params).objs.toList 0 .nil,11,(boot_heap w.params).life,Array.mk [],boot_drawn,boot_toks,os⟩
theorem A81:∀ (w:World) (os:OsState),(d82 w os).abs=⟨boot_heap w.params,Array.mk [],boot_drawn,boot_toks,os⟩:=λw os=>by kernel_rfl
theorem A91:∀ w:World,((boot_heap w.params).isNs mainGlobals&&(Array.mk []:Array GenState).size == 0,(boot_heap w.params).objs.size,(boot_heap w.params).nsMap mainGlobals "__annotations__")=(true,11,some (.ref 6)):=λw=>by kernel_rfl
theorem d92{p q:Program}{loose:List Str}{Xt:Shared→Bool}{α:Type}{Yf:Shared→α}{Ya:World→α}{N:Nat}
  (e:opening p=plainProg p.main.scope.names) (hN:ble 600 N=true) (f:∀ s,fenceModules? p s=some s)
  (run:∀ (w:World) (os:OsState),(F10 through (stepOk 11 (some (.ref 6))) (stepT (denote treeTable) p w) N (d82 w os) (topStub p)).map (λs =>
   (staticsOk (importedModules p.main.body) (boot_heap w.params) s.abs.heap&&namesBound p s.abs.heap&&gensDone s.abs&&laidKept (boot_heap w.params) s.abs.heap,
    openSeen q loose (importedModules p.main.body) Xt true s.abs,Yf s.abs))=some (true,openGood q loose,Ya w)):LeftO p q loose Xt Yf Ya N:=λw=>by
 obtain⟨⟨h,gs,d,k,os⟩,e1,e2⟩:=Option.map_eq_some_iff.mp (boot_open (N:=N) e hN f w)
 obtain⟨rfl,rfl,rfl,rfl⟩:h=boot_heap w.params∧gs=Array.mk []∧d=boot_drawn∧k=boot_toks:=by simpa using e2
 obtain⟨z1,z2,z3⟩:_∧_∧_:=by simpa only [Prod.mk.injEq] using A91 w
 obtain⟨s1,r1,r2⟩:=Option.map_eq_some_iff.mp (run w os)
 obtain⟨l1,l2,l3⟩:_∧_∧_:=by simpa only [Prod.mk.injEq] using r2
 have r:=V20 r1
 rw[A81] at r
 unfold openEnds
 rw[e1]
 show Option.map _ (topFrom treeTable p w N _)=_
 unfold topFrom
 dsimp only
 rw[z1,z2,z3,r]
 show Option.map _ (match staticsOk (importedModules p.main.body) (boot_heap w.params) s1.abs.heap&&namesBound p s1.abs.heap&&gensDone s1.abs&&laidKept (boot_heap w.params) s1.abs.heap with | true=>_ | false=>_)=_
 rw[l1]
 exact congrArg Option.some (Prod.ext l2 l3)
def V30(o:Obj):Bool:=match o with
 |⟨.none,none,.fields vs,sl⟩=>vs.isEmpty&&sl.isEmpty
 |_=>false
def I22(h:Heap)(a:Addr):Option Obj:=match h.get? a with
 |some o=>if V30 o then none else some o
 |none=>none
def fragOf(h:Heap):Frag:=(range h.objs.size).filterMap λa=>(I22 h a).map λo=>(a,o)
theorem w30(g:Addr→Option Obj)(a:Addr):∀ l:List Addr,(l.filterMap λa=>(g a).map λo=>(a,o)).lookup a=if a∈l then g a else none
 |[]=>rfl
 |b::r=>by
  by_cases hb:a=b
  ·subst hb
   rw[if_pos mem_cons_self]
   cases hg:g a with
   |none =>
    rw[filterMap_cons,hg]
    show(r.filterMap λa=>(g a).map λo=>(a,o)).lookup a=none
    rw[w30 g a r]
    split
    ·exact hg
    ·rfl
   |some o =>
    rw[filterMap_cons,hg]
    show List.lookup a ((a,o)::_)=some o
    rw[List.lookup_cons_self]
  ·have hm:(a∈b::r)↔a∈r:=by rw[mem_cons];exact⟨λh=>h.resolve_left hb,Or.inr⟩
   have ih:=w30 g a r
   have e:(if a∈b::r then g a else none)=if a∈r then g a else none:=by simp only[hm]
   rw[e,← ih]
   cases hg:g b with
   |none=>rw[filterMap_cons,hg];rfl
   |some o =>
    rw[filterMap_cons,hg]
    show List.lookup a ((b,o)::_)=_
    have:(a == b)=false:=by simpa using hb
    simp only[List.lookup,this]
theorem B01(h:Heap):(fragOf h).In h:=λa o e=>by
 unfold fragOf at e
 rw[w30] at e
 split at e
 ·unfold I22 at e
  cases hg:h.get? a with
  |none=>rw[hg] at e;cases e
  |some u =>
   rw[hg] at e
   dsimp only at e
   split at e
   ·cases e
   ·exact e
 ·cases e
theorem e02(h:V30 o=true):o=tabObj #[]:=by
 unfold V30 at h
 split at h
 ·rename_i vs sl
  rw[and_eq_true,Array.isEmpty_iff,Array.isEmpty_iff] at h
  obtain⟨rfl,rfl⟩:=h
  rfl
 ·cases h
theorem o91(e:h.get? a=some o)(t:V30 o=true):(fragOf h).lookup a=none:=by
 unfold fragOf
 rw[w30]
 split
 ·unfold I22;rw[e];exact if_pos t
 ·rfl
def B11(K:Frag)(x:Str):Option (Str × Str × Arguments × FuncBody × Scope × Addr × List (Str × Addr) × Value × Addr × Bool):=match nsIn K mainGlobals x with
 |some (some (.ref at0))=>(match K.lookup at0 with
  |some ⟨_,_,.func fd,_⟩=>some (fd.name,fd.qualname,fd.params,fd.body,fd.scope,fd.globals,fd.closure,fd.defaults,fd.builtins,codeIn K fd.code x)
  |_=>none)
 |_=>none
def e12(x:Str)(st:Stmt):Option (Str × Str × Arguments × FuncBody × Scope × Addr × List (Str × Addr) × Value × Addr × Bool):=some (x,x,K50 st,.stmts (o40 st),c80 st,mainGlobals,[],.none,builtinsNs,true)
theorem c91{K:Frag}{x:Str}{st:Stmt}(e:B11 K x=e12 x st):∃ f fd,nsIn K mainGlobals x=some (some (.ref f))∧Fun K x x st f fd∧∃ oc od sl,K.lookup f=some ⟨oc,od,.func fd,sl⟩:=by
 unfold B11 e12 at e
 split at e
 ·rename_i f hf
  split at e
  ·rename_i oc od fd sl hl
   obtain⟨nm,qn,pm,bd,sc,gl,cl,df,kd,dc,py,an,cd,ct,bl⟩:=fd
   simp only[Prod.mk.injEq,Option.some.injEq] at e
   obtain⟨rfl,rfl,rfl,rfl,rfl,rfl,rfl,rfl,rfl,hc⟩:=e
   exact⟨f,_,hf,⟨⟨oc,od,kd,dc,py,an,cd,ct,sl,rfl,hl,hc⟩,by simp only[keepIn,hl]⟩,oc,od,sl,hl⟩
  ·cases e
 ·cases e
def tab0At(h:Heap)(T:Addr):Bool:=match h.get? T with
 |some o=>V30 o
 |none=>false
theorem B21{h:Heap}{T:Addr}(e:tab0At h T=true):h.get? T=some (tabObj #[]):=by
 unfold tab0At at e
 split at e
 ·rename_i o ho
  rw[ho,e02 e]
 ·cases e
def B31(h:Heap)(K:Frag)(x:Str):Option Addr:=match nsIn K mainGlobals x with
 |some (some (.ref at0))=>(match K.lookup at0 with
  |some ⟨_,_,.func fn0,_⟩=>(match fn0.code with
   |.ref c=>(match K.lookup c with
    |some ⟨_,_,.fields vs,_⟩=>(match (vs[11]?:Option Value) with
     |some (.ref T)=>if codeHdIn K c T&&tab0At h T then some T else none
     |_=>none)
    |_=>none)
   |_=>none)
  |_=>none)
 |_=>none
theorem p01{h:Heap}{K:Frag}{x:Str}{T:Addr}(e:B31 h K x=some T):h.get? T=some (tabObj #[])∧∃ f oc od fd sl c,nsIn K mainGlobals x=some (some (.ref f))∧K.lookup f=some ⟨oc,od,.func fd,sl⟩∧fd.code=.ref c∧codeHdIn K c T=true:=by
 unfold B31 at e
 split at e
 ·rename_i f hf
  split at e
  ·rename_i oc od fd sl hl
   split at e
   ·rename_i c hc
    split at e
    ·split at e
     ·rename_i T' _
      split at e
      ·rename_i q
       cases e
       rw[and_eq_true] at q
       obtain⟨q1,q2⟩:=q
       exact⟨B21 q2,f,oc,od,fd,sl,c,hf,hl,hc,q1⟩
      ·cases e
     ·cases e
    ·cases e
   ·cases e
  ·cases e
 ·cases e
def p11(K:Frag)(x:Str):Option Addr:=match nsIn K mainGlobals x with
 |some (some (.ref f))=>some f
 |_=>none
theorem N61{K:Frag}{x:Str}{f:Addr}(e:p11 K x=some f):nsIn K mainGlobals x=some (some (.ref f)):=by
 unfold p11 at e
 split at e
 ·cases e;assumption
 ·cases e
def B41(K:Frag)(C:Addr):Bool:=excIn K C [.type "ValueError",.type "Exception",.type "BaseException",.type "object"] "ValueError.__new__"
def S81(_:Str):Bool:=true
def d01(K:Frag)(x:Str):Option Int:=match nsIn K mainGlobals x with
 |some (some (.int i _))=>some i
 |_=>none
theorem d11{K:Frag}{x:Str}{i:Int}(e:d01 K x=some i):∃ t,nsIn K mainGlobals x=some (some (.int i t)):=by
 unfold d01 at e
 split at e
 ·rename_i t h;cases e;exact⟨t,h⟩
 ·cases e
def d21(K:Frag)(x:Str):Bool:=match nsIn K mainGlobals x with
 |some none=>true
 |_=>false
theorem d31{K:Frag}{x:Str}(e:d21 K x=true):nsIn K mainGlobals x=some none:=by
 unfold d21 at e
 split at e
 ·assumption
 ·cases e
structure o20 where
 ds:List (Str × Stmt)
 is:List (Str × Int)
 ns:List Str
 ms:List Str
 cs:List Str
def o20.obs(q:o20)(s:Shared) :=
 let K:=fragOf s.heap
 (q.ds.map λd=>B11 K d.1,q.is.map λd=>d01 K d.1,q.ns.map (d21 K),q.ms.map λx=>(B31 s.heap K x).isSome,q.cs.map λx=>(p11 K x).map (B41 K),
  (specialIn K (.builtin "object.__class__") "__get__",takesIn K (.builtin "object.__class__")))
def o20.due(q:o20)(_:World) :=
 (q.ds.map λd=>e12 d.1 d.2,q.is.map λd=>some d.2,q.ns.map λ_=>true,q.ms.map λ_=>true,q.cs.map λx=>some (S81 x),
  (some (some (Value.builtin "getset_descriptor.__get__")),some true))
structure Facts(q:o20)(K:Frag)(h:Heap):Prop where
 fn:∀ d∈q.ds,∃ f fd,nsIn K mainGlobals d.1=some (some (.ref f))∧Fun K d.1 d.1 d.2 f fd∧∃ oc od sl,K.lookup f=some ⟨oc,od,.func fd,sl⟩
 it:∀ d∈q.is,∃ t,nsIn K mainGlobals d.1=some (some (.int d.2 t))
 no:∀ x∈q.ns,nsIn K mainGlobals x=some none
 mt:∀ x∈q.ms,∃ T,h.get? T=some (tabObj #[])∧K.lookup T=none∧∃ f oc od fd sl c,nsIn K mainGlobals x=some (some (.ref f))∧K.lookup f=some ⟨oc,od,.func fd,sl⟩∧fd.code=.ref c∧codeHdIn K c T=true
 cl:∀ x∈q.cs,∃ C,nsIn K mainGlobals x=some (some (.ref C))∧B41 K C=S81 x
 sp:specialIn K (.builtin "object.__class__") "__get__"=some (some (Value.builtin "getset_descriptor.__get__"))
 tk:takesIn K (.builtin "object.__class__")=some true
theorem V40{α β:Type}{f g:α→β}:∀ {l:List α},l.map f=l.map g→∀ a∈l,f a=g a:=λ{l} h a ha=>List.map_inj_left.mp h a ha
theorem o20.facts(q:o20)(w:World)(s:Shared)(e:q.obs s=q.due w):Facts q (fragOf s.heap) s.heap:=by
 unfold o20.obs o20.due at e
 simp only[Prod.mk.injEq] at e
 obtain⟨e1,e2,e3,e4,e5,e6,e7⟩:=e
 refine⟨λd hd=>c91 (V40 e1 d hd),λd hd=>d11 (V40 e2 d hd),λx hx=>d31 (V40 e3 x hx),λx hx=>?_,λx hx=>?_,e6,e7⟩
 ·obtain⟨T,hT⟩:=Option.isSome_iff_exists.mp (V40 e4 x hx)
  obtain⟨h1,h2⟩:=p01 hT
  exact⟨T,h1,o91 h1 rfl,h2⟩
 ·obtain⟨C,h1,h2⟩:=Option.map_eq_some_iff.mp (V40 e5 x hx)
  exact⟨C,N61 h1,h2⟩
def o20.hook(q:o20):Hook where
 α:=_
 obs:=q.obs
 val:=q.due
 says:=λ_ h=>∃ K:Frag,K.In h∧Facts q K h
 of:=λw s e=>⟨_,B01 _,q.facts w s e⟩
 keeps:=λ_ h h' ⟨K,X,F⟩ k=>⟨K,X.keeps k,⟨F.fn,F.it,F.no,λx hx=>let ⟨T,a,b⟩:=F.mt x hx;⟨T,k _ _ a,b⟩,F.cl,F.sp,F.tk⟩⟩
end L2
namespace Q
open PySem L2 PySem.Spec PyProof.Rows
structure Row where
 nm:Str
 ps:List Str
 st:Stmt
 N:List Str
 b:Sm
 lm:Bool
def B51(N ps:List Str)(sc:Scope):Bool:=sc.kind == .function&&!sc.isCoroutine&&!sc.isGenerator&&decide N.Nodup&&N.take ps.length == ps&&ps.all (λx=>sc.names.lookup x == some .local || sc.names.lookup x == some .cell)&&sc.names.all λy=>y.2 != .free
theorem k21(h:B51 N ps sc=true):s90 N ps sc:=by
 unfold B51 at h
 simp only[and_eq_true,not_eq_true',beq_iff_eq,all_eq_true,decide_eq_true_eq,or_eq_true] at h
 obtain⟨⟨⟨⟨⟨⟨h1,h2⟩,h3⟩,h4⟩,h5⟩,h6⟩,h7⟩:=h
 exact⟨h1,h2,h3,h4,h5,h6,λy hy=>by simpa using h7 y hy⟩
def S91(r:Row):Prop:=∀ (kV doc pm:Value) (an:Option Addr) (cdv ct:Value) (us:List Value),us.length=r.ps.length→bindArgs (fnOf r.nm r.nm (K50 r.st) (o40 r.st) (c80 r.st) .none kV doc pm an cdv ct) ⟨us,[]⟩=pure (r.ps.zip us)
def p00:List Row→Prop
 |[]=>True
 |r::l=>S91 r∧p00 l
theorem p00.at:∀ {l:List Row}{r:Row},p00 l→r∈l→S91 r
 |_::_,_,h,.head _=>h.1
 |_::_,_,h,.tail _ m=>p00.at h.2 m
theorem us1(h:us.length=1):∃ a,us=[a]:=List.length_eq_one_iff.mp h
theorem us2(h:us.length=2):∃ a b,us=[a,b]:=by
 match us,h with
 |[a,b],_=>exact⟨a,b,rfl⟩
theorem us3(h:us.length=3):∃ a b c,us=[a,b,c]:=by
 match us,h with
 |[a,b,c],_=>exact⟨a,b,c,rfl⟩
theorem us4(h:us.length=4):∃ a b c d,us=[a,b,c,d]:=by
 match us,h with
 |[a,b,c,d],_=>exact⟨a,b,c,d,rfl⟩
theorem us5(h:us.length=5):∃ a b c d e,us=[a,b,c,d,e]:=by
 match us,h with
 |[a,b,c,d,e],_=>exact⟨a,b,c,d,e,rfl⟩
def i22(fns:List (Str × List Str))(nums:List (Str × Int))(cn:List Str)(r:Row):Bool:=mtS r.lm fns nums cn (c80 r.st) r.N r.b (o40 r.st)&&isQ r.b&&r.N.all (N20 (c80 r.st))&&B51 r.N r.ps (c80 r.st)
def H50(rows:List Row):List (Str × List Str):=rows.map λr=>(r.nm,r.ps)
def tabOf(rows:List Row):List Df:=rows.map λr=>Df.code r.ps.length r.N.length r.b
def V50(rows:List Row)(nums:List (Str × Int))(cn:List Str):o20:=⟨rows.map (λr=>(r.nm,r.st)),nums,b52,[],cn⟩
def clsAt(K:PySem.W.Frag)(cn:List Str)(c:Nat):Addr:=(p11 K (cn.getD c "")).getD 0
theorem u22{K:PySem.W.Frag}{C:Addr}{cn:List Str}{c:Nat}{x:Str}(hc:cn[c]?=some x)(h:PySem.W.nsIn K mainGlobals x=some (some (.ref C))):clsAt K cn c=C:=by
 unfold clsAt
 rw[List.getD_eq_getElem?_getD,hc]
 show(p11 K x).getD 0=C
 unfold p11
 rw[h];rfl
section
variable {P:Program}{w:World}{K:PySem.W.Frag}{mg:Str→Option Value}{base:Heap}
theorem ok0(F:m91 P w K mg base (CX1 P w) k f fd ps sp):m91 P w K mg base CX0 k f fd ps (λvs H Q _=>sp vs H Q λ_ _ _=>False) :=
 ⟨λvs H Q E h=>F.len _ _ _ _ h,λA outer s H args us vs Q E hr he hb hv hs=>codeAny_mono (F.run A outer s H args us vs Q _ hr he hb hv hs) λr s' h=>by
  cases r with
  |error e =>
   obtain⟨_,_,_,_,_,_,_,_,_,_,_,_,_,hE⟩:=h
   exact hE.elim
  |ok fl=>cases fl <;> exact h⟩
theorem U12:TriplesOk (#[]:Array Value).toList:=by first | trivial | (unfold TriplesOk;trivial)
theorem r90.noT[TB:Tb](h:r90 K H a xs):r90 K (hz none H) a xs:=by
 rcases h with (h | ⟨o,h⟩) | h
 ·exact .inl (.inl (d90 h (λq=>nomatch q)))
 ·exact .inl (.inr ⟨o,d90 h (λq=>nomatch q)⟩)
 ·exact .inr h
theorem u32[TB:Tb]{G:Gs}{T:List Df}{k f:Nat}{H:Hp}{a:Addr}{ns:List Int}(pure:b10 T k f [.d (.lst (ns.map D.int))] none=some (.ok (.d (.bl true)) none))(hH:∀ p∈TB.tb,H p.1=some (.tbl #[]))(hS:r90 K H a (ns.map V.int)) :
  spF K (lev G T k) f 1 [.ref a] H (λv _=>v=.bl true) λ_ _ _=>False:=by
 refine⟨rfl,none,none,[.d (.lst (ns.map D.int))],_,.cons ?_ .nil,⟨trivial,λp hp=>⟨#[],hH p hp,U12,λpos c e=>nomatch e⟩⟩,pure,λv H' x st rv=>Hd.bl_ (show Hd K (hz none H') (.bl true) v from rv)⟩
 show Hd K (hz none H) (.lst (ns.map D.int)) (.ref a)
 unfold Hd
 exact⟨a,ns.map V.int,rfl,hS.noT,HdA.ints ns⟩
end
theorem u42{rows:List Row}{f:Nat}{nm:Str}{ps:List Str}(h:(H50 rows)[f]?=some (nm,ps)):∃ r∈rows,rows[f]?=some r∧r.nm=nm∧r.ps=ps:=by
 unfold H50 at h
 rw[List.getElem?_map] at h
 obtain⟨r,h1,h2⟩:=Option.map_eq_some_iff.mp h
 cases h2
 exact⟨r,mem_of_getElem? h1,h1,rfl,rfl⟩
section
variable [TB:Tb] {P:Program}{w:World}{K:PySem.W.Frag}{h:Heap}{mg:Str→Option Value}{base:Heap}{rows:List Row}{nums:List (Str × Int)}{cn:List Str}
theorem e22(Q:Facts (V50 rows nums cn) K h):∀ c x,cn[c]?=some x→PySem.W.nsIn K mainGlobals x=some (some (.ref (clsAt K cn c)))∧PySem.W.excIn K (clsAt K cn c) [.type "ValueError",.type "Exception",.type "BaseException",.type "object"] "ValueError.__new__"=true:=λc x hc=>by
 obtain⟨C,h1,h2⟩:=Q.cl x (mem_of_getElem? hc)
 rw[u22 hc h1]
 exact⟨h1,h2⟩
theorem e32(X:K.In h)(Gn:h.Ns mainGlobals mg)(Q:Facts (V50 rows nums cn) K h)(ok:rows.all (i22 (H50 rows) nums cn)=true)(bd:p00 rows)(F0:FT):∀ k,GX P w K mg base (lev ⟨H50 rows,nums,F0,clsAt K cn,0⟩ (tabOf rows) k) cn:=by
 refine u12 (λp hp=>?_) (λn hn=>?_) (λc x hc=>?_) λf nm ps hf=>?_
 ·obtain⟨t,e⟩:=Q.it p hp
  exact⟨t,mg_of X Gn e⟩
 ·exact PySem.W.mg_none_of X Gn (Q.no n hn)
 ·obtain⟨h1,h3⟩:=e22 Q c x hc
  exact⟨mg_of X Gn h1,h3⟩
 ·obtain⟨r,hr,hr2,rfl,rfl⟩:=u42 hf
  obtain⟨fa,fd,a1,F1,oc,od,sl,lk⟩:=Q.fn (r.nm,r.st) (List.mem_map.mpr ⟨r,hr,rfl⟩)
  have rb:=List.all_eq_true.mp ok r hr
  unfold i22 at rb
  simp only[and_eq_true] at rb
  obtain⟨⟨⟨b1,b2⟩,b3⟩,b4⟩:=rb
  refine⟨fa,fd,mg_of X Gn a1,F1.kp,F1.binds (bd.at hr),.inl ⟨r.lm,r.N,r.st,r.b,?_,F1,k21 b4,b3,b2,b1⟩⟩
  unfold tabOf
  rw[List.getElem?_map,hr2];rfl
theorem u52(X:K.In h)(Gn:h.Ns mainGlobals mg)(Q:Facts (V50 rows nums cn) K h)(ok:rows.all (i22 (H50 rows) nums cn)=true)(bd:p00 rows)(F0:FT)(k:Nat){i:Nat}{r:Row}(hi:rows[i]?=some r){fa:Addr}{fd:FuncData}(F1:Fun K r.nm r.nm r.st fa fd):m91 P w K mg base (CX1 P w) (k + 3) fa fd r.ps (spF K (lev ⟨H50 rows,nums,F0,clsAt K cn,0⟩ (tabOf rows) (k + 3)) i r.ps.length):=by
 have hr:=mem_of_getElem? hi
 have rb:=List.all_eq_true.mp ok r hr
 unfold i22 at rb
 simp only[and_eq_true] at rb
 obtain⟨⟨⟨b1,b2⟩,b3⟩,b4⟩:=rb
 refine A71 (G:=lev ⟨H50 rows,nums,F0,clsAt K cn,0⟩ (tabOf rows) (k + 2)) (F':=b11 (tabOf rows) (k + 3)) (e32 X Gn Q ok bd F0 (k + 2)) F1 (k21 b4) b3 b1 b2 λl z=>?_
 show(match (tabOf rows)[i]? with | some d=>run (b11 (tabOf rows) (k + 2)) d l | none=>M.no) z=_
 unfold tabOf
 rw[List.getElem?_map,hi];rfl
end
theorem B61{P:Program}{w:World}{K:PySem.W.Frag}{mg mb:Str→Option Value}{k:Nat}{fa a:Addr}{fd:FuncData}{x:Str}{sp:Sp}{s₁:Shared}{vs:List Value}{ns:List Int}{ts:List Addr}
  (KX:K.In s₁.heap) (hns:s₁.heap.Ns mainGlobals mg) (hb:s₁.heap.Ns builtinsNs mb) (hbb:∀ x:Str,x≠"__name__"→mb x=bootBuiltins x) (hlim:s₁.heap.NoLimit) (hg:s₁.gens=#[])
  (ha:s₁.heap.get? a=some { cls:=.type "list",data:=.seq vs.toArray }) (hi:IntsAre vs ns) (hl:ns.length≤sizeLine) (hr:Y90 k callerA)
  (hT:∀ Pt∈ts,s₁.heap.get? Pt=some (PySem.W.tabObj #[])∧K.lookup Pt=none∧∃ c,PySem.W.codeHdIn K c Pt=true) (bmn:BMain mg s₁.heap)
  (F:∀ base:Heap,K.In base→base.Ns mainGlobals mg→BMain mg base→m91 P w K mg base CX0 k fa fd [x] sp) (hbind:∀ (s:Shared) (u:Value),BindsTo s fd ⟨[u],[]⟩ [(x,u)])
  (hsp:∀ H:Hp,(∀ Pt∈ts,H Pt=some (.tbl #[]))→r90 K H a (ns.map V.int)→sp [.ref a] H (λv _=>v=.bl true) λ_ _ _=>False) :
  codeAny (model P w) callerA (.call (.ref fa) ⟨[.ref a],[]⟩) (λr s'=>r=.ok (.ret (.bool true))∧OldK s₁.heap s'.heap∧s'.os=s₁.os∧AllBare s'.gens) s₁:=by
 have rv:=S50 hi
 have lenV:=hi.length
 have naT:a ∉ ts:=λh=>by have:=(hT a h).1;rw[ha] at this;cases this
 have core:∀ H:Hp,(∀ Pt∈ts,H Pt=some (.tbl #[]))→(∀ b,H b=none∨b∈ts∨(b=a∧∃ xs,H b=some (.frz { cls:=.type "list",data:=.seq vs.toArray } (.lst xs))))→r90 K H a (ns.map V.int)→HOk P w H s₁.heap→(H a≠none→K.lookup a=none) →
   codeAny (model P w) callerA (.call (.ref fa) ⟨[.ref a],[]⟩) (λr s'=>r=.ok (.ret (.bool true))∧OldK s₁.heap s'.heap∧s'.os=s₁.os∧AllBare s'.gens) s₁:=by
  intro H hH hO hS hok hK
  have plainN:∀ {b:Addr}{o:Obj},s₁.heap.get? b=some o→(∀ xs n,o.data≠.seq xs n)→(∀ xs,o.data≠.fields xs)→H b=none:=λ{b o} e d1 d2=>by
   rcases hO b with z | z | ⟨z,_⟩
   ·exact z
   ·have:=(hT b z).1
    rw[e] at this;cases this
    exact absurd rfl (d2 _)
   ·rw[z,ha] at e;cases e
    exact absurd rfl (d1 _ _)
  have nsK:∀ {b:Addr}{m:Str→Option Value},s₁.heap.Ns b m→(G71 s₁.heap H).Ns b m:=λ{b m} ⟨o,es,ep,e,d,r⟩=>⟨o,es,ep,K00 e (plainN e (λxs n z=>by rw[d] at z;cases z) λxs z=>by rw[d] at z;cases z),d,r⟩
  have hKb:K.In (G71 s₁.heap H):=λb o e=>K00 (KX b o e) (by
   rcases hO b with z | z | ⟨z,xs,z2⟩
   ·exact z
   ·rw[(hT b z).2.1] at e;cases e
   ·rw[z] at e z2
    rw[hK (by rw[z2];exact λy=>nomatch y)] at e;cases e)
  have hM:Mod K mg (G71 s₁.heap H):=⟨hKb,nsK hns,⟨mb,nsK hb,hbb⟩,let ⟨mc,h1,h2⟩:=hlim;⟨mc,nsK h1,h2⟩⟩
  have hBM:BMain mg (G71 s₁.heap H):=by
   obtain⟨bm,ob,b1,b2,b3,b4,b5,b6⟩:=bmn
   exact⟨bm,ob,b1,b2,K00 b3 (plainN b3 (λxs n z=>by rw[b6] at z;cases z) λxs z=>by rw[b6] at z;cases z),b4,b5,b6⟩
  have e0:x72 P w K mg (G71 s₁.heap H) callerA [] s₁ H:=⟨rfl,hM,λb o e=>U21 e,Nat.le_of_eq (q81 _ _),trivial,λb hb=>absurd (show b∈([]:List Addr) from hb) (by simp),hok,.of_eq hg⟩
  refine codeAny_mono ((F _ hKb (nsK hns) hBM).run callerA [] s₁ H ⟨[.ref a],[]⟩ [.ref a] [.ref a] _ _ hr e0 (hbind s₁ (.ref a)) (.cons rfl .nil) (hsp H hH hS)) λr s' h=>?_
  cases r with
  |error e=>exact False.elim h
  |ok fl =>
   cases fl with
   |next=>exact False.elim h
   |brk=>exact False.elim h
   |cont=>exact False.elim h
   |ret u =>
    obtain⟨v,H',os,bare,un,hok',r',q⟩:=h
    have q':v=.bl true:=q
    subst q'
    obtain rfl:u=Value.bool true:=r'
    refine⟨rfl,⟨λb o e=>?_,λb o e=>un.there b o e (by simp)⟩,os,bare⟩
    rcases hO b with z | z | ⟨z,xs,z2⟩
    ·exact .inl (un.keep b o e z (by intro y;exact absurd (show b∈([]:List Addr) from y) (by simp)) (by simp))
    ·obtain⟨t1,_,c,t2⟩:=hT b z
     rw[e] at t1;cases t1
     obtain⟨more,m1⟩:=un.tbls b _ (hH b z)
     have m2:s'.heap.get? b=some { cls:=.none,data:=.fields (#[]++more) }:=hok' b _ m1
     have CH:=PySem.W.codeHd_of_K KX t2
     exact .inr (.inl ⟨(CH.tab e).isCodeTable,rfl,#[],more,rfl,m2⟩)
    ·have z3:=un.frzs b _ _ z2
     obtain⟨e1,_⟩:=hok b _ z2
     obtain⟨e2,_⟩:=hok' b _ z3
     rw[e] at e1;cases e1
     exact .inl e2
 cases hk:K.lookup a with
 |some o =>
  have e:=KX a o hk
  rw[ha] at e
  cases e
  refine core (λb=>if b∈ts then some (.tbl #[]) else none) (λPt h=>if_pos h) (λb=>?_) (.inr ⟨vs.toArray,_,hk,by rw[size_toArray,lenV];exact hl,by simpa using rv⟩) (λb u z=>?_) λz=>absurd (if_neg naT) z
  ·by_cases h:b∈ts
   ·exact .inr (.inl h)
   ·exact .inl (if_neg h)
  ·by_cases h:b∈ts
   ·have z':=(if_pos h).symm.trans z
    cases z'
    exact(hT b h).1
   ·have z':=(if_neg h).symm.trans z
    cases z'
 |none =>
  refine core (λb=>if b=a then some (.frz { cls:=.type "list",data:=.seq vs.toArray } (.lst (ns.map V.int))) else if b∈ts then some (.tbl #[]) else none) (λPt h=>?_) (λb=>?_) (.inl (.inr ⟨{ cls:=.type "list",data:=.seq vs.toArray },if_pos rfl⟩)) (λb u z=>?_) λ_=>hk
  ·rw[if_neg (λy=>naT (by rw[← y];exact h)),if_pos h]
  ·by_cases hb:b=a
   ·exact .inr (.inr ⟨hb,_,if_pos hb⟩)
   ·by_cases h:b∈ts
    ·exact .inr (.inl h)
    ·exact .inl (by rw[if_neg hb,if_neg h])
  ·by_cases hb:b=a
   ·have z':=(if_pos hb).symm.trans z
    cases z'
    subst hb
    exact⟨ha,by rw[length_map];exact hl,vs,_,rv,ha⟩
   ·replace z:=(if_neg hb).symm.trans z
    by_cases h:b∈ts
    ·have z':=(if_pos h).symm.trans z
     cases z'
     exact(hT b h).1
    ·have z':=(if_neg h).symm.trans z
     cases z'
theorem N71{l:PySem.W.OpenLaw}{n k:Nat}{q:Program}{loose:List Str}{XP:(Str→Option Value)→Heap→Prop}{d:DefRec}{A:o20}{x:Str}
  (hn:l.most=some n) (hn2:n≤sizeLine) (hdf:d.params.defaults=[]) (hr:Y90 k callerA)
  (F:∀ (w:World) (mg:Str→Option Value) (fa:Addr) (h:Heap) (K:PySem.W.Frag),Facts A K h→K.In h→h.Ns mainGlobals mg→mg d.name=some (.ref fa) →
   ∃ (fd:FuncData) (ts:List Addr) (sp:Sp),(∀ Pt∈ts,h.get? Pt=some (PySem.W.tabObj #[])∧K.lookup Pt=none∧∃ c,PySem.W.codeHdIn K c Pt=true)∧(∀ (s:Shared) (u:Value),BindsTo s fd ⟨[u],[]⟩ [(x,u)]) ∧
    (∀ base:Heap,K.In base→base.Ns mainGlobals mg→BMain mg base→m91 l.prog w K mg base CX0 k fa fd [x] sp) ∧
    ∀ (H:Hp) (a:Addr) (ns:List Int),ns.length≤n→(∀ Pt∈ts,H Pt=some (.tbl #[]))→r90 K H a (ns.map V.int)→sp [.ref a] H (λv _=>v=.bl true) λ_ _ _=>False) :
  PySem.W.WalkO q loose XP A.hook.says l.row.toRowW d [] (λf vs=>PySem.call f vs):=by
 refine Att.Z80 hn hdf λw s₀ s₁ mg mb fa o pm cd doc a vs ns G Y ho hd hcd hmg hobj hints hlen hg=>?_
 obtain⟨K,KX,FX⟩:=Y
 obtain⟨fd,ts,sp,hT,hb,hF,hsp⟩:=F w mg fa _ K FX KX G.T.g hmg
 exact B61 KX G.T.g G.T.b G.T.builtins G.T.nolimit hg hobj hints (Nat.le_trans hlen hn2) hr hT G.T.bmain hF hb λH hH hS=>hsp H a ns hlen hH hS
theorem e42{l:PySem.W.OpenLaw}{rows:List Row}{nums:List (Str × Int)}{cn:List Str}{k iL n:Nat}{rL:Row}(ok:rows.all (i22 (H50 rows) nums cn)=true)(bd:p00 rows)(hL:rows[iL]?=some rL)(hn:rL.nm="law")(hp:rL.ps=[("_law_script":Str)])
  (pure:∀ ns:List Int,ns.length≤n→b10 (tabOf rows) (k + 3) iL [.d (.lst (ns.map D.int))] none=some (.ok (.d (.bl true)) none)) (w:World) (mg:Str→Option Value) (fa:Addr) (h:Heap) (K:PySem.W.Frag) (Q:Facts (V50 rows nums cn) K h) (X:K.In h) (Gn:h.Ns mainGlobals mg) (hfa:mg "law"=some (.ref fa)) :
   ∃ (fd:FuncData) (ts:List Addr) (sp:Sp),(∀ Pt∈ts,h.get? Pt=some (PySem.W.tabObj #[])∧K.lookup Pt=none∧∃ c,PySem.W.codeHdIn K c Pt=true)∧(∀ (s:Shared) (u:Value),BindsTo s fd ⟨[u],[]⟩ [("_law_script",u)]) ∧
    (∀ base:Heap,K.In base→base.Ns mainGlobals mg→BMain mg base→m91 l.prog w K mg base CX0 (k + 3) fa fd ["_law_script"] sp) ∧
    ∀ (H:Hp) (a:Addr) (ns:List Int),ns.length≤n→(∀ Pt∈ts,H Pt=some (.tbl #[]))→r90 K H a (ns.map V.int)→sp [.ref a] H (λv _=>v=.bl true) λ_ _ _=>False:=by
 have hrL:rL∈rows:=mem_of_getElem? hL
 obtain⟨fL,fdL,aL,FL,ocL,odL,slL,lkL⟩:=Q.fn (rL.nm,rL.st) (List.mem_map.mpr ⟨rL,hrL,rfl⟩)
 have bL:=bd.at hrL
 have e:=hfa.symm.trans (mg_of X Gn (by rw[← hn];exact aL))
 cases e
 have bT:∀ (s:Shared) (u:Value),BindsTo s fdL ⟨[u],[]⟩ [("_law_script",u)]:=by
  obtain⟨_,_,kV,doc,pm,an,cdv,ct,_,e,_,_⟩:=FL.ex
  subst e
  intro s u
  have:=bL kV doc pm an cdv ct [u] (by rw[hp];rfl)
  rw[hp] at this
  exact .of_eq this
 let TB:Tb:=⟨[]⟩
 refine⟨fdL,[],λvs H Q _=>spF K (lev ⟨H50 rows,nums,λ_ _ _=>M.no,clsAt K cn,0⟩ (tabOf rows) (k + 3)) iL 1 vs H Q λ_ _ _=>False,λp hp=>(nomatch hp),bT,λbase kb nb bm=>?_,λH a ns hl hH hS=>u32 (pure ns hl) (λp hp=>nomatch hp) hS⟩
 have F:=ok0 (u52 (P:=l.prog) (w:=w) (base:=base) X Gn Q ok bd (λ_ _ _=>M.no) k hL FL)
 rw[hp] at F
 exact F
end Q
namespace Q
open L2 (D)
open PySem (Paired)
def k31:Ex→Bool
 |.var _=>false
 |_=>true
def U22:Ex→Env→Option (Option S)
 |.var i,ρ=>ρ[i]?
 |_,_=>none
def L52:Option (Option S)→Option S
 |some (some s)=>noS s
 |_=>none
def blS:S→Option Bool
 |.d (.bl b)=>some b
 |_=>none
abbrev Du{α:Type}(_:α→Z→Prop)(_:Nat→Z→Prop):Type:=Unit
abbrev Dv{α:Type}(_:α→Prop):Type:=Unit
structure W{α:Type}(m:M α)(z:Z)(Q:α→Z→Prop)(E:Nat→Z→Prop)(du:Du Q E:=()):Prop where
 ex:∃ r,m z=some r∧match r with
  |.ok a z1=>Q a z1
  |.er c z1=>E c z1
theorem W_e{α:Type}{m:M α}{Q:α→Z→Prop}:W m z Q E↔∃ r,m z=some r∧match r with
  |.ok a z1=>Q a z1
  |.er c z1=>E c z1:=⟨W.ex,W.mk⟩
abbrev NE:Nat→Z→Prop:=λ_ _=>False
def Get{α:Type}(o:Option α)(P:α→Prop)(_:Dv P:=()):Prop:=match o with
 |some a=>P a
 |none=>False
theorem u62{α:Type}{a:α}{P:α→Prop}:Get (some a) P↔P a:=Iff.rfl
theorem n60{α:Type}{o:Option α}{P:α→Prop}(h:Get o P):∃ a,o=some a∧P a:=by
 cases o with
 |none=>exact h.elim
 |some a=>exact⟨a,rfl,h⟩
theorem a00{α:Type}{o:Option α}{a:α}{P:α→Prop}(h:o=some a)(hp:P a):Get o P:=by rw[h];exact hp
section
variable {α β:Type}{m:M α}{z z1:Z}{Q Q':α→Z→Prop}{E E':Nat→Z→Prop}
theorem W.mono(h:W m z Q E)(hq:∀ a z,Q a z→Q' a z)(he:∀ c z,E c z→E' c z):W m z Q' E':=by
 obtain⟨r,e,h⟩:=h
 refine⟨r,e,?_⟩
 cases r with
 |ok a z1=>exact hq _ _ h
 |er c z1=>exact he _ _ h
theorem W.imp(h:W m z Q NE)(hq:∀ a z,Q a z→Q' a z):W m z Q' E':=h.mono hq λ_ _ h=>h.elim
theorem W.ok{a:α}(h:W m z (λb z2=>b=a∧z2=z1) NE):m z=some (.ok a z1):=by
 obtain⟨r,e,h⟩:=h
 cases r with
 |ok b z2=>obtain⟨rfl,rfl⟩:=h;exact e
 |er c z2=>exact h.elim
theorem L62{a:α}(h:m z=some (.ok a z1)):W m z Q E↔Q a z1:=by
 rw[W_e]
 constructor
 ·rintro ⟨r,e,q⟩
  rw[h] at e;cases e
  exact q
 ·exact λq=>⟨_,h,q⟩
theorem U32{c:Nat}(h:m z=some (.er c z1)):W m z Q E↔E c z1:=by
 rw[W_e]
 constructor
 ·rintro ⟨r,e,q⟩
  rw[h] at e;cases e
  exact q
 ·exact λq=>⟨_,h,q⟩
theorem A90{a:α}:W (M.ret a) z Q E↔Q a z:=L62 rfl
theorem u72:W (M.no:M α) z Q E↔False:=⟨λ⟨_,e,_⟩=>(by cases e),False.elim⟩
theorem p10{f:α→M β}{Q:β→Z→Prop}:W (M.bind m f) z Q E↔W m z (λa z1=>W (f a) z1 Q E) E:=by
 constructor
 ·rintro ⟨r,e,q⟩
  unfold M.bind at e
  split at e
  ·rename_i a z1 e1
   exact⟨_,e1,r,e,q⟩
  ·rename_i c z1 e1
   cases e
   exact⟨_,e1,q⟩
  ·cases e
 ·rintro ⟨r,e,q⟩
  cases r with
  |ok a z1 =>
   obtain⟨r,e2,q⟩:=q
   refine⟨r,?_,q⟩
   unfold M.bind;rw[e];exact e2
  |er c z1 =>
   refine⟨.er c z1,?_,q⟩
   unfold M.bind;rw[e]
theorem T01:W (M.calm m) z Q E↔W m z Q NE:=by
 rw[W_e,W_e]
 unfold M.calm
 constructor
 ·rintro ⟨r,e,q⟩
  split at e
  ·rename_i a z1 e1
   cases e
   exact⟨_,e1,q⟩
  ·cases e
 ·rintro ⟨r,e,q⟩
  cases r with
  |ok a z1=>exact⟨.ok a z1,by rw[e],q⟩
  |er c z1=>exact q.elim
theorem e52(h:∀ a z,Q a z↔Q' a z):W m z Q E↔W m z Q' E:=⟨λx=>x.mono (λa z=>(h a z).mp) λ_ _ h=>h,λx=>x.mono (λa z=>(h a z).mpr) λ_ _ h=>h⟩
theorem wR{a:α}:Q a z↔W (M.ret a) z Q E:=A90.symm
theorem wN:False↔W (M.no:M α) z Q E:=u72.symm
theorem wT{c:Prop}[Decidable c]{a b:M α}{A B:Prop}(h1:A↔W a z Q E)(h2:B↔W b z Q E):(if c then A else B)↔W (if c then a else b) z Q E:=by
 split <;> assumption
theorem wG{o:Option β}{f:β→M α}{K:β→Prop}(h:∀ a,K a↔W (f a) z Q E):Get o K↔W (M.bind (M.of o) f) z Q E:=by
 cases o with
 |none=>exact u72.symm
 |some a=>exact h a
theorem wB{m:M β}{f:β→M α}{V:Prop}{K:β→Z→Prop}(h1:V↔W m z K E)(h2:∀ a z1,K a z1↔W (f a) z1 Q E):V↔W (M.bind m f) z Q E:=h1.trans ((e52 h2).trans p10.symm)
end
def Wm{α:Type}(o:Option (R α))(Q:α→Z→Prop)(E:Nat→Z→Prop):Prop:=match o with
 |some (.ok a z1)=>Q a z1
 |some (.er c z1)=>E c z1
 |none=>False
theorem wM{α:Type}{m:M α}{z:Z}{Q:α→Z→Prop}{E:Nat→Z→Prop}:Wm (m z) Q E↔W m z Q E:=by
 rw[W_e]
 unfold Wm
 cases h:m z with
 |none=>exact⟨False.elim,λ⟨_,e,_⟩=>by cases e⟩
 |some r =>
  refine⟨λq=>⟨r,rfl,?_⟩,λ⟨_,e,q⟩=>?_⟩
  ·cases r <;> exact q
  ·cases e;cases r <;> exact q
def Vr(o:Option (Option S))(z:Z)(Q:List S→Z→Prop)(_:Du Q NE:=()):Prop:=match o with
 |some (some s)=>Q [plS s] z
 |_=>False
def WV:FT→Ex→Env→Z→(List S→Z→Prop)→(Nat→Z→Prop)→Prop
 |F,.nil=>λρ z Q E=>Q [] z
 |F,.cons a r=>λρ z Q E=>WV F a ρ z (λx z1=>Get (one x) λs=>WV F r ρ z1 (λy z2=>Q (s::y) z2) E) E
 |F,.con x=>λρ z Q E=>Q [.d x] z
 |F,.gint g i=>λρ z Q E=>Q [.d (.int i)] z
 |F,.tup as=>λρ z Q E=>WV F as ρ z (λl z1=>Get (plA l) λds=>if ds.length≤most then Q [.d (.tup ds)] z1 else False) E
 |F,.lst as=>λρ z Q E=>WV F as ρ z (λl z1=>Get (plA l) λds=>if ds.length≤most then Q [.fr ds] z1 else False) E
 |F,.bin o a b=>λρ z Q E=>WV F a ρ z (λx z1=>Get (pl x) λdx=>WV F b ρ z1 (λy z2=>Get (pl y) λdy=>Get (E00 o dx dy) λs=>Q [s] z2) E) E
 |F,.cmp o a b=>λρ z Q E=>WV F a ρ z (λx z1=>Get (pl x) λdx=>WV F b ρ z1 (λy z2=>Get (pl y) λdy=>Get (A60 o dx dy) λt=>Q [.d (.bl t)] z2) E) E
 |F,.neg a=>λρ z Q E=>WV F a ρ z (λx z1=>Get ((pl x).bind asI) λi=>Q [.d (.int (-i))] z1) E
 |F,.not a=>λρ z Q E=>WV F a ρ z (λx z1=>Get ((pl x).bind asB) λb=>Q [.d (.bl !b)] z1) E
 |F,.and a b=>λρ z Q E=>WV F a ρ z (λx z1=>Get ((pl x).bind asB) λc=>if c then WV F b ρ z1 (λy z2=>Get ((pl y).bind asB) λc=>Q [.d (.bl c)] z2) E else Q [.d (.bl false)] z1) E
 |F,.or a b=>λρ z Q E=>WV F a ρ z (λx z1=>Get ((pl x).bind asB) λc=>if c then Q [.d (.bl true)] z1 else WV F b ρ z1 (λy z2=>Get ((pl y).bind asB) λc=>Q [.d (.bl c)] z2) E) E
 |F,.orT a b=>λρ z Q E=>WV F a ρ z (λx z1=>Get ((pl x).bind n72) λl=>if l.isEmpty then WV F b ρ z1 (λy z2=>Get ((pl y).bind n72) λl=>Q [.d (.tup l)] z2) NE else Q [.d (.tup l)] z1) NE
 |F,.ite c a b=>λρ z Q E=>WV F c ρ z (λx z1=>Get ((pl x).bind asB) λc=>if c then WV F a ρ z1 Q E else WV F b ρ z1 Q E) E
 |F,.ch o o' a b c=>λρ z Q E=>WV F a ρ z (λx z1=>Get (pl x) λdx=>WV F b ρ z1 (λy z2=>Get (pl y) λdy=>Get (A60 o dx dy) λt=>if t then WV F c ρ z2 (λw z3=>Get (pl w) λdw=>Get (A60 o' dy dw) λt=>Q [.d (.bl t)] z3) E else Q [.d (.bl false)] z2) E) E
 |F,.bf f as=>λρ z Q E=>WV F as ρ z (λl z1=>Get (plA l) λds=>Get (bfD f ds) λs=>Q [s] z1) E
 |F,.isi t a=>λρ z Q E=>WV F a ρ z (λx z1=>Get (pl x) λx=>Q [.d (.bl (y12 t x))] z1) E
 |F,.idx a i=>λρ z Q E=>WV F a ρ z (λx z1=>Get (pl x) λdx=>WV F i ρ z1 (λy z2=>Get (pl y) λdy=>Get (T30 dx dy) λr=>Q [.d r] z2) E) E
 |F,.sl a lo hi=>λρ z Q E=>WV F a ρ z (λx z1=>Get (pl x) λdx=>WV F lo ρ z1 (λu z2=>Get (w01 u) λu=>WV F hi ρ z2 (λv z3=>Get (w01 v) λv=>Get (slD dx u v) λs=>Q [s] z3) E) E) E
 |F,.call f as=>λρ z Q E=>WV F as ρ z (λl z1=>W (F false f (l.map plS)) z1 (λs z2=>Q [s] z2) E) E
 |F,.comp own capt p it src cond el=>λρ z Q E=>WV F src ρ z (λl z1=>Get ((plA l).bind (itD it)) λxs=>if xs.length≤most then W (turns (r80 (ev F cond) (ev F el) p (replicate own none++capt.map λi=>(ρ[i]?).getD none)) xs) z1 (λys z2=>Q [.fr ys] z2) NE else False) E
 |F,.lrng b as=>λρ z Q E=>WV F as ρ z (λl z1=>Get ((plA l).bind lrD) λxs=>Q [lrS b xs] z1) E
 |F,.var i=>λρ z Q E=>Vr ρ[i]? z Q
 |F,.zget i k=>λρ z Q E=>Wm (w11 k ρ[i]? z) Q E
def WE(F:FT)(e:Ex)(ρ:Env)(z:Z)(Q:List S→Z→Prop)(E:Nat→Z→Prop)(_:Du Q E:=()):Prop:=WV F e ρ z Q E
def WX(F:FT)(tp:Bool):Sm→Env→Z→(O→Z→Prop)→(Nat→Z→Prop)→Prop
 |.nil=>λρ z Q E=>Q (.nx ρ) z
 |.seq s r=>λρ z Q E=>WX F tp s ρ z (λo z1=>match o with
  |.nx ρ=>WX F tp r ρ z1 Q E
  |.rt s=>Q (.rt s) z1) E
 |.set p e=>λρ z Q E=>WE F e ρ z (λl z1=>Get (one l) λs=>Get (T60 p s (o70 s ρ)) λρ'=>Q (.nx ρ') z1) E
 |.ret e=>λρ z Q E=>if k31 e then WE F e ρ z (λl z1=>Get ((one l).bind noS) λs=>Q (.rt s) z1) E else Get (L52 (U22 e ρ)) λs=>Q (.rt s) z
 |.iff c t e=>λρ z Q E=>WE F c ρ z (λx z1=>Get ((pl x).bind asB) λb=>if b then WX F tp t ρ z1 Q E else WX F tp e ρ z1 Q E) E
 |.exp e=>λρ z Q E=>WE F e ρ z (λl z1=>Get (one l) λ_=>Q (.nx ρ) z1) E
 |.rais c=>λρ z Q E=>E c z
 |.fr p it src b=>λρ z Q E=>WE F src ρ z (λl z1=>Get ((plA l).bind (itD it)) λxs=>W (Z10 (λx ρ=>M.bind (M.of (f20 p x ρ)) λρ=>ex F tp b ρ) xs (w21 it src l ρ)) z1 Q E) E
 |.whl c b=>λρ z Q E=>W (R11 (ev F c) (ex F tp b) h62 ρ) z Q E
 |.zset i e=>λρ z Q E=>WE F e ρ z (λl z1=>Get ((pl l).bind asI) λv=>Wm (w51 ρ v ρ[i]? z1) Q E) E
 |.app i e=>λρ z Q E=>Get (ownAt ρ i) λxs=>WE F e ρ z (λl z1=>Get (pl l) λx=>if bare x=true∧xs.length < most then Q (.nx (ρ.set i (some (.fr (xs++[x]))))) z1 else False) E
 |.apop i j e=>λρ z Q E=>Get (ownAt ρ i) λxs=>Get (ownAt ρ j) λys=>WE F e ρ z (λl z1=>Get ((pl l).bind asI) λk=>Get (w31 ρ i j xs ys k) λo=>Q o z1) E
 |.newz i f as=>λρ z Q E=>WE F (.call f as) ρ z (λl z1=>Wm (w41 tp ρ i l) Q E) E
 |.aug o i e=>λρ z Q E=>Get ((ρ[i]?.getD none).bind plD) λy=>WE F e ρ z (λl z1=>Get ((pl l).bind asI) λx=>Get ((asI y).bind λy=>E00 o (.int y) (.int x)) λs=>Get (T60 (.v i) s (o70 s ρ)) λρ=>Q (.nx ρ) z1) E
def WS(F:FT)(tp:Bool)(s:Sm)(ρ:Env)(z:Z)(Q:O→Z→Prop)(E:Nat→Z→Prop)(_:Du Q E:=()):Prop:=WX F tp s ρ z Q E
theorem u82:∀ (e:Ex) {F:FT}{ρ:Env}{z:Z}{Q:List S→Z→Prop}{E:Nat→Z→Prop},WV F e ρ z Q E↔W (ev F e ρ) z Q E:=by
 intro e
 induction e with
 |nil=>intros;exact wR
 |cons a r ha hr=>intros;exact wB ha λx z1=>wG λs=>wB hr λy z2=>wR
 |var i =>
  intro F ρ z Q E
  show Vr ρ[i]? z Q↔W (match ρ[i]? with | some (some s)=>M.ret [plS s] | _=>M.no) z Q E
  generalize ρ[i]?=o
  match o with
  |some (some s)=>exact wR
  |some none=>exact wN
  |none=>exact wN
 |con x=>intros;exact wR
 |gint g i=>intros;exact wR
 |tup a ha=>intros;exact wB ha λl z1=>wG λds=>wT wR wN
 |lst a ha=>intros;exact wB ha λl z1=>wG λds=>wT wR wN
 |bin o a b ha hb=>intros;exact wB ha λx z1=>wG λdx=>wB hb λy z2=>wG λdy=>wG λs=>wR
 |cmp o a b ha hb=>intros;exact wB ha λx z1=>wG λdx=>wB hb λy z2=>wG λdy=>wG λs=>wR
 |neg a ha=>intros;exact wB ha λx z1=>wG λi=>wR
 |not a ha=>intros;exact wB ha λx z1=>wG λi=>wR
 |and a b ha hb=>intros;exact wB ha λx z1=>wG λc=>wT (wB hb λy z2=>wG λc=>wR) wR
 |or a b ha hb=>intros;exact wB ha λx z1=>wG λc=>wT wR (wB hb λy z2=>wG λc=>wR)
 |orT a b ha hb=>intros;refine Iff.trans ?_ T01.symm;exact wB ha λx z1=>wG λl=>wT (wB hb λy z2=>wG λl=>wR) wR
 |ite c a b hc ha hb=>intros;exact wB hc λx z1=>wG λc=>wT ha hb
 |ch o o' a b c ha hb hc=>intros;exact wB ha λx z1=>wG λdx=>wB hb λy z2=>wG λdy=>wG λt=>wT (wB hc λw z3=>wG λdw=>wG λt=>wR) wR
 |bf f a ha=>intros;exact wB ha λl z1=>wG λds=>wG λs=>wR
 |isi t a ha=>intros;exact wB ha λx z1=>wG λx=>wR
 |idx a i ha hi=>intros;exact wB ha λx z1=>wG λdx=>wB hi λy z2=>wG λdy=>wG λr=>wR
 |sl a l h ha hl hh=>intros;exact wB ha λx z1=>wG λdx=>wB hl λu z2=>wG λu=>wB hh λv z3=>wG λv=>wG λs=>wR
 |call f a ha=>intros;exact wB ha λl z1=>wB Iff.rfl λs z2=>wR
 |comp own capt p it src cond el hs hc he=>intros;exact wB hs λl z1=>wG λxs=>wT (wB T01.symm λys z2=>wR) wN
 |zget i k=>intros;exact wM (m:=w11 k _)
 |lrng b a ha=>intros;exact wB ha λl z1=>wG λxs=>wR
theorem d10{e:Ex}{F:FT}{ρ:Env}{z:Z}{Q:List S→Z→Prop}{E:Nat→Z→Prop}:WE F e ρ z Q E↔W (ev F e ρ) z Q E:=u82 e
theorem I32{F:FT}{tp:Bool}{ρ:Env}{e:Ex}(h:k31 e=true):ex F tp (.ret e) ρ=M.bind (ev F e ρ) λl=>M.bind (M.of ((one l).bind noS)) λs=>M.ret (.rt s):=by
 cases e with
 |var i=>cases h
 |_=>rfl
theorem u92{F:FT}{tp:Bool}:∀ (s:Sm) {ρ:Env}{z:Z}{Q:O→Z→Prop}{E:Nat→Z→Prop},WX F tp s ρ z Q E↔W (ex F tp s ρ) z Q E:=by
 intro s
 induction s with
 |nil=>intros;exact wR
 |seq s r hs hr =>
  intros
  refine wB hs λo z1=>?_
  cases o with
  |nx ρ=>exact hr
  |rt s=>exact wR
 |set p e=>intros;exact wB d10 λl z1=>wG λs=>wG λρ'=>wR
 |ret e =>
  intro ρ z Q E
  show(if k31 e then _ else _)↔_
  cases h:k31 e with
  |true =>
   refine(iff_of_eq (if_pos rfl)).trans ?_
   rw[I32 h]
   exact wB d10 λl z1=>wG λs=>wR
  |false =>
   cases e with
   |var i =>
    refine(iff_of_eq (if_neg Bool.false_ne_true)).trans ?_
    show Get (L52 ρ[i]?) _↔W (match ρ[i]? with | some (some s)=>M.bind (M.of (noS s)) λs=>M.ret (O.rt s) | _=>M.no) z Q E
    generalize ρ[i]?=o
    match o with
    |some (some s)=>exact wG λs=>wR
    |some none=>exact wN
    |none=>exact wN
   |_=>cases h
 |iff c t u ht hu=>intros;exact wB d10 λx z1=>wG λc=>wT ht hu
 |exp e=>intros;exact wB d10 λl z1=>wG λs=>wR
 |rais c=>intros;exact(U32 rfl).symm
 |fr p it src b ih=>intros;exact wB d10 λl z1=>wG λxs=>Iff.rfl
 |whl c b ih=>intros;exact Iff.rfl
 |zset i e=>intros;exact wB d10 λl z1=>wG λv=>wM (m:=w51 _ v _)
 |app i e=>intros;exact wG λxs=>wB d10 λl z1=>wG λx=>wT wR wN
 |apop i j e=>intros;exact wG λxs=>wG λys=>wB d10 λl z1=>wG λk=>wG λo=>wR
 |newz i f as=>intros;exact wB d10 λl z1=>wM (m:=λ_=>w41 tp _ i l)
 |aug o i e=>intros;exact wG λy=>wB d10 λl z1=>wG λx=>wG λs=>wG λρ=>wR
theorem V60:WS F tp s ρ z Q E↔W (ex F tp s ρ) z Q E:=u92 s
theorem WS.mono{s:Sm}{F:FT}{tp:Bool}{ρ:Env}{z:Z}{Q Q':O→Z→Prop}{E E':Nat→Z→Prop}(h:WS F tp s ρ z Q E)(hq:∀ a z,Q a z→Q' a z)(he:∀ c z,E c z→E' c z):WS F tp s ρ z Q' E':=V60.mpr (W.mono (V60.mp h) hq he)
theorem e62(Mid:Env→Z→Prop)(h:WS F tp s ρ z (λo z1=>match o with
  |.nx ρ=>Mid ρ z1
  |.rt s=>Q (.rt s) z1) E) (h2:∀ ρ z,Mid ρ z→WS F tp r ρ z Q E):WS F tp (.seq s r) ρ z Q E:=by
 refine WS.mono (s:=s) h (λo z1 h=>?_) λ_ _ h=>h
 cases o with
 |nx ρ=>exact h2 ρ z1 h
 |rt s=>exact h
section
variable {T:List Df}{k f ps ns:Nat}{b:Sm}{l:List S}{z:Z}{Q:S→Z→Prop}{E:Nat→Z→Prop}
theorem v02(h:T[f]?=some (.code ps ns b))(hl:l.length=ps)(hn:ps≤ns):W (b10 T (k + 3) f l) z Q E↔WS (b11 T (k + 2)) z.isNone b (start ns (l.map plS)) z (λo z1=>match o with
  |.nx _=>Q (.d .non) (H30 z z1)
  |.rt s=>Q s (H30 z z1)) λc z1=>E c (H30 z z1):=by
 refine Iff.trans ?_ V60.symm
 rw[b21,h]
 show W (λz=>if l.length=ps∧ps≤ns then(match ex (b11 T (k + 2)) z.isNone b (start ns (l.map plS)) z with
  |some (.ok (.nx _) z1)=>some (R.ok (S.d .non) (H30 z z1))
  |some (.ok (.rt s) z1)=>some (.ok s (H30 z z1))
  |some (.er c z1)=>some (.er c (H30 z z1))
  |none=>none) else none) z Q E↔_
 rw[W_e,W_e]
 constructor
 ·rintro ⟨r,e,q⟩
  rw[if_pos ⟨hl,hn⟩] at e
  split at e
  ·rename_i ρ z1 e1
   cases e
   exact⟨_,e1,q⟩
  ·rename_i s z1 e1
   cases e
   exact⟨_,e1,q⟩
  ·rename_i c z1 e1
   cases e
   exact⟨_,e1,q⟩
  ·cases e
 ·rintro ⟨r,e,q⟩
  rw[if_pos ⟨hl,hn⟩,e]
  match r,q with
  |.ok (.nx ρ) z1,q=>exact⟨_,rfl,q⟩
  |.ok (.rt s) z1,q=>exact⟨_,rfl,q⟩
  |.er c z1,q=>exact⟨_,rfl,q⟩
end
section
variable {F:FT}{tp:Bool}{ρ:Env}{z:Z}{E:Nat→Z→Prop}
theorem d41{f:D→M (Option D)}{o:D→Option D}:∀ {xs:List D}{Q:List D→Z→Prop},(∀ x∈xs,f x z=some (.ok (o x) z))→(W (turns f xs) z Q E↔Q (xs.filterMap o) z)
 |[],Q,_=>A90
 |x::r,Q,h=>by
  show W (M.bind (f x) _) z Q E↔_
  rw[p10,L62 (h x mem_cons_self),p10,d41 λy hy=>h y (mem_cons_of_mem _ hy),A90]
  rw[filterMap_cons]
  cases o x <;> rfl
theorem k41{f:D→M (Option D)}{I:Z→Prop}{P:D→D→Prop}:∀ {xs:List D}{z:Z}{Q:List D→Z→Prop},I z→(∀ x∈xs,∀ z,I z→W (f x) z (λo z1=>I z1∧∃ y,o=some y∧P x y) NE)→(∀ ys z1,I z1→Paired P xs ys→Q ys z1)→W (turns f xs) z Q E
 |[],z,Q,hi,_,q=>A90.mpr (q [] z hi .nil)
 |x::r,z,Q,hi,h,q=>by
  show W (M.bind (f x) _) z Q E
  rw[p10]
  refine(h x mem_cons_self z hi).imp λo z1 ⟨hi1,y,e,hp⟩=>?_
  subst e
  rw[p10]
  refine k41 hi1 (λx' hx'=>h x' (mem_cons_of_mem _ hx')) λys z2 hi2 hps=>?_
  exact A90.mpr (q _ _ hi2 (.cons hp hps))
theorem T11(I:List D→Env→Z→Prop):∀ (xs:List D) {ρ:Env}{z:Z},I xs ρ z→(∀ x r ρ z,I (x::r) ρ z→W (f x ρ) z (λo z1=>match o with
  |.nx ρ=>I r ρ z1
  |.rt s=>Q (.rt s) z1) E)→(∀ ρ z,I [] ρ z→Q (.nx ρ) z)→W (Z10 f xs ρ) z Q E
 |[],ρ,z,hi,_,q=>A90.mpr (q _ _ hi)
 |x::r,ρ,z,hi,h,q=>by
  show W (M.bind (f x ρ) _) z Q E
  rw[p10]
  refine(h x r ρ z hi).mono (λo z1 ho=>?_) λ_ _ h=>h
  cases o with
  |nx ρ1=>exact T11 I r ho h q
  |rt s=>exact A90.mpr ho
theorem v22{c:Env→M (List S)}{f:Env→M O}{Q:O→Z→Prop}(I:Nat→Env→Z→Prop)(step:∀ n ρ z,I n ρ z→W (c ρ) z (λx z1=>Get ((pl x).bind asB) λk=>if k then W (f ρ) z1 (λo z2=>match o with
  |.nx ρ=>∃ m,m < n∧I m ρ z2
  |.rt s=>Q (.rt s) z2) E else Q (.nx ρ) z1) E):∀ (n m:Nat) {ρ:Env}{z:Z},I n ρ z→n < m→W (R11 c f m ρ) z Q E:=by
 intro n
 induction n using Nat.strongRecOn with
 |ind n ih =>
  intro m ρ z hi hm
  cases m with
  |zero=>omega
  |succ m =>
   show W (M.bind (c ρ) _) z Q E
   rw[p10]
   refine(step n ρ z hi).mono (λx z1 h=>?_) λ_ _ h=>h
   obtain⟨k,e,h⟩:=n60 h
   refine(wG (K:=λk=>if k=true then W (M.bind (f ρ) _) z1 Q E else W (M.ret (O.nx ρ)) z1 Q E) λk=>wT Iff.rfl Iff.rfl).mp (a00 e ?_)
   cases k with
   |true =>
    rw[if_pos rfl] at h ⊢
    rw[p10]
    refine h.mono (λo z2 h=>?_) λ_ _ h=>h
    cases o with
    |nx ρ1 =>
     obtain⟨j,hj,hi⟩:=h
     exact ih j hj m hi (by omega)
    |rt s=>exact A90.mpr h
   |false =>
    rw[if_neg Bool.false_ne_true] at h ⊢
    exact A90.mpr h
end
mutual
noncomputable def cE:D→Ex
 |.tup l=>.tup (cEs l)
 |.lst l=>.lst (cEs l)
 |.int i=>if i < 0 then .neg (.con (.int (-i))) else .con (.int i)
 |x=>.con x
noncomputable def cEs:List D→Ex
 |[]=>.nil
 |x::r=>.cons (cE x) (cEs r)
end
mutual
noncomputable def okC:D→Bool
 |.tup l=>decide (l.length≤most)&&I42 l
 |.lst l=>decide (l.length≤most)&&I42 l
 |_=>true
noncomputable def I42:List D→Bool
 |[]=>true
 |x::r=>okC x&&I42 r
end
def cX(d:D)(_:okC d=true):Ex:=cE d
section
variable {F:FT}{ρ:Env}{z:Z}{Q:List S→Z→Prop}{E:Nat→Z→Prop}{a b c as:Ex}{p:Pat}{ρ0:Env}{x:D}{Q1:Option D→Z→Prop}
theorem B71:W (r80 (ev F .nil) (ev F a) p ρ0 x) z Q1 E↔Get (f20 p x ρ0) λρ=>WE F a ρ z (λy z1=>Get (pl y) λd=>Q1 (some d) z1) E :=
 (wG λρ=>show _↔W (M.bind (ev F a ρ) λy=>M.bind (M.of (pl y)) λy=>M.ret (some y)) z Q1 E from wB d10 λy z1=>wG λd=>wR).symm
theorem v32{l:List S}{m:M (List S)}{V:Prop}(h:V↔W (M.bind m λy=>M.bind (M.of (pl y)) λy=>M.ret (some y)) z Q1 E):(match l with | [s]=>Get (blS s) λb=>if b then V else Q1 none z | _=>l=[]∧V)↔W (match l with
  |[]=>M.bind m λy=>M.bind (M.of (pl y)) λy=>M.ret (some y)
  |[.d (.bl true)]=>M.bind m λy=>M.bind (M.of (pl y)) λy=>M.ret (some y)
  |[.d (.bl false)]=>M.ret none
  |_=>M.no) z Q1 E:=by
 match l with
 |[]=>exact⟨λx=>h.mp x.2,λx=>⟨rfl,h.mpr x⟩⟩
 |[.d (.bl true)]=>exact u62.trans ((iff_of_eq (if_pos rfl)).trans h)
 |[.d (.bl false)]=>exact u62.trans ((iff_of_eq (if_neg Bool.false_ne_true)).trans wR)
 |[.d .non]=>exact wN
 |[.d (.int _)]=>exact wN
 |[.d (.str _)]=>exact wN
 |[.d (.tup _)]=>exact wN
 |[.d (.lst _)]=>exact wN
 |[.d .dct]=>exact wN
 |[.fr _]=>exact wN
 |[.z]=>exact wN
 |s::_::_ =>
  refine⟨λx=>(by cases x.1),λx=>?_⟩
  cases s with
  |d y =>
   cases y with
   |bl b=>cases b <;> exact(u72.mp x).elim
   |_=>exact(u72.mp x).elim
  |_=>exact(u72.mp x).elim
theorem B81:W (r80 (ev F (.cons c .nil)) (ev F a) p ρ0 x) z Q1 E↔Get (f20 p x ρ0) λρ=>WE F c ρ z (λy z1=>Get (one y) λs=>Get (blS s) λb=>if b then WE F a ρ z1 (λy z2=>Get (pl y) λd=>Q1 (some d) z2) E else Q1 none z1) E:=by
 refine Iff.symm (wG λρ=>?_)
 refine wB (d10 (F:=F) (e:=.cons c .nil) (ρ:=ρ) (Q:=λl z1=>match l with | [s]=>Get (blS s) λb=>if b then WE F a ρ z1 (λy z2=>Get (pl y) λd=>Q1 (some d) z2) E else Q1 none z1 | _=>l=[]∧WE F a ρ z1 (λy z2=>Get (pl y) λd=>Q1 (some d) z2) E)) λl z1=>?_
 exact v32 (wB d10 λy z1=>wG λd=>wR)
end
section
variable {α:Type}{m:M α}{z z1:Z}{Q Q':α→Z→Prop}{E:Nat→Z→Prop}
theorem Wo(h:m z=some (.ok a z1))(q:Q a z1):W m z Q E:=⟨_,h,q⟩
end
theorem g00{T:List Df}{k f ps ns:Nat}{b:Sm}{l:List S}{z:Z}{Q:S→Z→Prop}{E:Nat→Z→Prop}(h:T[f]?=some (.code ps ns b))(hl:l.length=ps)(hn:ps≤ns)(q:WS (b11 T (k + 2)) z.isNone b (start ns (l.map plS)) z (λo z1=>match o with
  |.nx _=>Q (.d .non) (H30 z z1)
  |.rt s=>Q s (H30 z z1)) λc z1=>E c (H30 z z1)):W (b10 T (k + 3) f l) z Q E:=(v02 h hl hn).mpr q
theorem ib{b:Bool}{A B:Prop}(ht:b=true→A)(hf:b=false→B):if b=true then A else B:=by
 cases b with
 |true=>exact ht rfl
 |false=>exact hf rfl
theorem it{b:Bool}{A B:Prop}(h:b=true)(a:A):if b=true then A else B:=by rw[if_pos h];exact a
theorem ie{b:Bool}{A B:Prop}(h:b=false)(a:B):if b=true then A else B:=by rw[h];exact a
theorem ip{c:Prop}[Decidable c]{A B:Prop}(h:c)(a:A):if c then A else B:=by rw[if_pos h];exact a
theorem B91(z:Z):H30 z z=z:=by cases z <;> rfl
theorem sd{s t:S}{z:Z}(h:s=t):s=t∧H30 z z=z:=⟨h,B91 z⟩
theorem sb(h:b=c):S.d (.bl b)=S.d (.bl c)∧H30 z z=z:=sd (by rw[h])
section
variable {F:FT}{tp:Bool}{z:Z}{E:Nat→Z→Prop}{p:Pat}
theorem d51(I:List D→Env→Z→Prop)(xs:List D)(hi:I xs ρ z)(h:∀ x r ρ z,I (x::r) ρ z→Get (f20 p x ρ) λρ=>WS F tp b ρ z (λo z1=>match o with
  |.nx ρ=>I r ρ z1
  |.rt s=>Q (.rt s) z1) E) (q:∀ ρ z,I [] ρ z→Q (.nx ρ) z):W (Z10 (λx ρ=>M.bind (M.of (f20 p x ρ)) λρ=>ex F tp b ρ) xs ρ) z Q E :=
 T11 I xs hi (λx r ρ z hi=>(wG λρ=>V60).mp (h x r ρ z hi)) q
theorem e72(I:Nat→Env→Z→Prop)(n:Nat)(hi:I n ρ z)(hn:n < h62)(h:∀ n ρ z,I n ρ z→WE F c ρ z (λx z1=>Get ((pl x).bind asB) λk=>if k then WS F tp b ρ z1 (λo z2=>match o with
  |.nx ρ=>∃ m,m < n∧I m ρ z2
  |.rt s=>Q (.rt s) z2) E else Q (.nx ρ) z1) E):W (R11 (ev F c) (ex F tp b) h62 ρ) z Q E:=by
 refine v22 I (λn ρ z hi=>?_) n h62 hi hn
 refine(d10.mp (h n ρ z hi)).mono (λx z1 h=>?_) λ_ _ h=>h
 obtain⟨k,e,h⟩:=n60 h
 refine a00 e ?_
 cases k with
 |true=>exact V60.mp h
 |false=>exact h
variable {ρ0:Env}{cond el:Ex}{xs:List D}{Q:List D→Z→Prop}
theorem d61(o:D→D)(h:∀ x∈xs,Get (f20 p x ρ0) λρ=>WE F el ρ z (λy z1=>Get (pl y) λd=>d=o x∧z1=z) NE)(q:Q (xs.map o) z):W (turns (r80 (ev F .nil) (ev F el) p ρ0) xs) z Q E:=by
 refine(d41 (o:=λx=>some (o x)) λx hx=>?_).mpr ?_
 ·refine W.ok (B71.mpr ?_)
  obtain⟨ρ,e,h⟩:=n60 (h x hx)
  refine a00 e (d10.mpr ((d10.mp h).imp λy z1 h=>?_))
  obtain⟨d,e,rfl,rfl⟩:=n60 h
  exact a00 e ⟨rfl,rfl⟩
 ·rw[show xs.filterMap (λx=>some (o x))=xs.map o from congrFun (List.filterMap_eq_map (f:=o)) xs];exact q
theorem I52{c:D→Bool}{o:D→D}:∀ xs:List D,xs.filterMap (λx=>if c x then some (o x) else none)=(xs.filter c).map o
 |[]=>rfl
 |x::r=>by
  rw[filterMap_cons,List.filter_cons]
  cases hc:c x with
  |false=>exact I52 r
  |true=>exact congrArg (o x::·) (I52 r)
theorem i32(c:D→Bool)(o:D→D)(h:∀ x∈xs,Get (f20 p x ρ0) λρ=>WE F cond ρ z (λy z1=>Get (one y) λs=>s=.d (.bl (c x))∧z1=z∧(c x=true→WE F el ρ z (λy z1=>Get (pl y) λd=>d=o x∧z1=z) NE)) NE)(q:Q ((xs.filter c).map o) z):W (turns (r80 (ev F (.cons cond .nil)) (ev F el) p ρ0) xs) z Q E:=by
 refine(d41 (o:=λx=>if c x then some (o x) else none) λx hx=>?_).mpr ?_
 ·refine W.ok (B81.mpr ?_)
  obtain⟨ρ,e,h⟩:=n60 (h x hx)
  refine a00 e (d10.mpr ((d10.mp h).imp λy z1 h=>?_))
  obtain⟨s,e,rfl,rfl,h⟩:=n60 h
  refine a00 e ?_
  show if c x=true then _ else _
  cases hc:c x with
  |false=>exact⟨rfl,rfl⟩
  |true =>
   refine d10.mpr ((d10.mp (h hc)).imp λy z1 h=>?_)
   obtain⟨d,e,rfl,rfl⟩:=n60 h
   exact a00 e ⟨rfl,rfl⟩
 ·rw[I52];exact q
theorem v42{I:Z→Prop}(o:D→D):∀ {xs:List D}{z:Z}{Q:List D→Z→Prop},I z→(∀ x∈xs,∀ z,I z→Get (f20 p x ρ0) λρ=>WE F cond ρ z (λy z1=>Get (one y) λs=>I z1∧∃ b,s=.d (.bl b)∧(b=true→WE F el ρ z1 (λy z2=>Get (pl y) λd=>d=o x∧z2=z1) NE)) NE) →
  (∀ ys z1,I z1→ys.Sublist (xs.map o)→Q ys z1)→W (turns (r80 (ev F (.cons cond .nil)) (ev F el) p ρ0) xs) z Q E
 |[],z,Q,hi,_,q=>A90.mpr (q [] z hi .slnil)
 |x::r,z,Q,hi,h,q=>by
  show W (M.bind (r80 _ _ p ρ0 x) _) z Q E
  refine p10.mpr (B81.mpr ?_)
  obtain⟨ρ,e,h0⟩:=n60 (h x mem_cons_self z hi)
  refine a00 e (d10.mpr ((d10.mp h0).imp λy z1 h1=>?_))
  obtain⟨s,e,hi1,b,rfl,h2⟩:=n60 h1
  refine a00 e ?_
  show if b=true then _ else _
  have hr:=λ{Q:List D→Z→Prop} (q:∀ ys z1,I z1→ys.Sublist (r.map o)→Q ys z1)=>v42 o (z:=z1) hi1 (λy hy=>h y (mem_cons_of_mem _ hy)) q
  cases b with
  |false=>exact p10.mpr (hr λys z2 hi2 hs=>A90.mpr (q ys z2 hi2 (hs.cons _)))
  |true =>
   refine d10.mpr ((d10.mp (h2 rfl)).imp λy z2 h3=>?_)
   obtain⟨d,e,rfl,rfl⟩:=n60 h3
   exact a00 e (p10.mpr (hr λys z2 hi2 hs=>A90.mpr (q _ z2 hi2 (hs.cons_cons _))))
theorem U42{I:Z→Prop}{P:D→D→Prop}(hi:I z)(h:∀ x∈xs,∀ z,I z→Get (f20 p x ρ0) λρ=>WE F el ρ z (λy z1=>Get (pl y) λd=>I z1∧P x d) NE)(q:∀ ys z1,I z1→Paired P xs ys→Q ys z1):W (turns (r80 (ev F .nil) (ev F el) p ρ0) xs) z Q E:=by
 refine k41 hi (λx hx z hz=>B71.mpr ?_) q
 obtain⟨ρ,e,h⟩:=n60 (h x hx z hz)
 refine a00 e (d10.mpr ((d10.mp h).imp λy z1 h=>?_))
 obtain⟨d,e,h⟩:=n60 h
 exact a00 e ⟨h.1,d,rfl,h.2⟩
end
end Q
namespace K3
open PySem L2 Q
def top(i:Nat):Stmt:=PySem.Challenge.pw_tiechances_k43_whole_cases.main.body.getD i (.Pass ⟨0,0,0,0⟩)
def nums:List (Str × Int):=[(("MOST_PLACES":Str),(6:Int)),(("MOST_TIES":Str),(8:Int)),(("MOST_BOTTOM":Str),(1000:Int))]
abbrev v0:Ex:=.var 0
abbrev v1:Ex:=.var 1
abbrev v2:Ex:=.var 2
abbrev v3:Ex:=.var 3
abbrev v4:Ex:=.var 4
abbrev v5:Ex:=.var 5
abbrev v6:Ex:=.var 6
abbrev v7:Ex:=.var 7
abbrev v8:Ex:=.var 8
abbrev v9:Ex:=.var 9
abbrev v10:Ex:=.var 10
abbrev v11:Ex:=.var 11
abbrev v12:Ex:=.var 12
abbrev v13:Ex:=.var 13
abbrev n0:Ex:=.con (.int 0)
abbrev n1:Ex:=.con (.int 1)
abbrev n2:Ex:=.con (.int 2)
abbrev c1(a:Ex):Ex:=.cons a .nil
abbrev c2(a b:Ex):Ex:=.cons a (.cons b .nil)
abbrev c3(a b c:Ex):Ex:=.cons a (.cons b (.cons c .nil))
abbrev c4(a b c d:Ex):Ex:=.cons a (.cons b (.cons c (.cons d .nil)))
abbrev c5(a b c d e:Ex):Ex:=.cons a (.cons b (.cons c (.cons d (.cons e .nil))))
abbrev s1(a:Sm):Sm:=.seq a .nil
abbrev p2(a b:Pat):Pat:=.tup (.cons a (.cons b .nil))
abbrev h20:Nat:=0
abbrev B90:Nat:=1
abbrev T21:Nat:=2
abbrev d71:Nat:=3
abbrev T31:Nat:=4
abbrev i10:Nat:=5
abbrev l50:Nat:=6
abbrev k51:Nat:=7
abbrev I80:Nat:=8
abbrev C00:Nat:=9
abbrev C01:Nat:=10
abbrev l60:Nat:=11
abbrev e70:Nat:=12
abbrev d50:Nat:=13
abbrev k20:Nat:=14
abbrev k61:Nat:=15
abbrev V70:Nat:=16
abbrev F20:Nat:=17
abbrev I90:Nat:=18
abbrev e90:Nat:=19
abbrev F30:Nat:=20
abbrev w40:Nat:=21
abbrev i50:Nat:=22
abbrev V80:Nat:=23
abbrev z20:Nat:=24
abbrev z30:Nat:=25
abbrev C11:Nat:=26
abbrev t80:Nat:=27
abbrev s60:Nat:=28
abbrev g30:Nat:=29
abbrev i60:Nat:=30
abbrev m50:Nat:=31
abbrev z40:Nat:=32
abbrev h80:Nat:=33
abbrev z50:Nat:=34
abbrev J00:Nat:=35
abbrev F40:Nat:=36
abbrev w50:Nat:=37
abbrev V90:Nat:=38
abbrev p20:Nat:=39
abbrev F50:Nat:=40
abbrev g40:Nat:=41
abbrev F60:Nat:=42
abbrev p30:Nat:=43
abbrev F70:Nat:=44
abbrev s70:Nat:=45
abbrev z60:Nat:=46
abbrev b20:Nat:=47
abbrev z70:Nat:=48
abbrev J10:Nat:=49
abbrev w60:Nat:=50
abbrev w70:Nat:=51
abbrev s80:Nat:=52
abbrev n70:Nat:=53
abbrev v52:Nat:=54
def h30:Sm:=(.seq (.whl (.cmp .gt v1 n0) (s1 (.set (p2 (.v 0) (.v 1)) (.tup (c2 v1 (.bin .mod v0 v1)))))) (s1 (.ret v0)))
def N30:Sm:=(.seq (.set (.v 2) (.call h20 (c2 v0 v1))) (s1 (.ret (.tup (c2 (.bin .fdiv v0 v2) (.bin .fdiv v1 v2))))))
def C21:Sm:=(s1 (.ret (.call B90 (c2 (.bin .add (.bin .mul (.idx v0 n0) (.idx v1 n1)) (.bin .mul (.idx v1 n0) (.idx v0 n1))) (.bin .mul (.idx v0 n1) (.idx v1 n1))))))
def d81:Sm:=(s1 (.ret (.call B90 (c2 (.bin .mul (.idx v0 n0) (.idx v1 n0)) (.bin .mul (.idx v0 n1) (.idx v1 n1))))))
def C31:Sm:=(s1 (.ret (.tup (c2 (.bin .sub (.idx v0 n1) (.idx v0 n0)) (.idx v0 n1)))))
def J20:Sm:=(s1 (.ret (.and (.isi .int v0) (.not (.isi .bool v0)))))
def y00:Sm:=(s1 (.ret (.and (.call i10 (c1 v0)) (.ch .le .lt n0 v0 v1))))
def N40:Sm:=(.seq (.iff (.or (.not (.isi .tuple v0)) (.cmp .ne (.bf .len (c1 v0)) n2)) (s1 (.ret (.con (.bl false)))) .nil) (.seq (.set (p2 (.v 2) (.v 3)) v0) (s1 (.ret (.and (.call l50 (c2 v2 v1)) (.and (.call l50 (c2 v3 v1)) (.cmp .lt v2 v3)))))))
def y10:Sm:=(.seq (.iff (.or (.not (.isi .tuple v0)) (.cmp .gt (.bf .len (c1 v0)) (.gint "MOST_TIES" 8))) (s1 (.ret (.con (.bl false)))) .nil) (.seq (.iff (.not (.bf .all (c1 (.comp 1 [1] (.v 0) .seq (c1 v0) .nil (.call k51 (c2 v0 v1)))))) (s1 (.ret (.con (.bl false)))) .nil) (s1 (.ret (.bf .all (c1 (.comp 2 [] (p2 (.v 0) (.v 1)) .zip (c2 v0 (.sl v0 (c1 n1) .nil)) .nil (.cmp .le v0 v1))))))))
def N50:Sm:=(.seq (.iff (.or (.not (.isi .tuple v0)) (.cmp .ne (.bf .len (c1 v0)) n2)) (s1 (.ret (.con (.bl false)))) .nil) (.seq (.set (p2 (.v 1) (.v 2)) v0) (s1 (.ret (.and (.call i10 (c1 v1)) (.and (.ch .le .le n1 v1 (.gint "MOST_PLACES" 6)) (.call I80 (c2 v2 v1))))))))
def d91:Sm:=(s1 (.ret (.bf .all (c1 (.comp 2 [] (p2 (.v 0) (.v 1)) .zip (c2 v0 (.sl v0 (c1 n1) .nil)) .nil (.cmp .lt v0 v1))))))
def g20:Sm:=(.seq (.iff (.not (.isi .tuple v0)) (s1 (.ret (.con (.bl false)))) .nil) (s1 (.ret (.and (.bf .all (c1 (.comp 1 [1] (.v 0) .seq (c1 v0) .nil (.call l50 (c2 v0 v1))))) (.call C01 (c1 v0))))))
def t90:Sm:=(s1 (.iff (.not (.call C00 (c1 v0))) (s1 (.rais 0)) .nil))
def k30:Sm:=(s1 (.iff (.or (.not (.call l60 (c2 v1 (.idx v0 n0)))) (.cmp .eq (.bf .len (c1 v1)) n0)) (s1 (.rais 2)) .nil))
def k40:Sm:=(s1 (.iff (.not (.call l50 (c2 v1 (.bf .len (c1 (.idx v0 n1)))))) (s1 (.rais 4)) .nil))
def N60:Sm:=(s1 (.ret (.tup (c2 (.bf .min (c2 v0 v1)) (.bf .max (c2 v0 v1))))))
def F80:Sm:=(.seq (.set (p2 (.v 2) (.v 3)) v0) (s1 (.ret (.call k61 (c2 (.idx v1 v2) (.idx v1 v3))))))
def u00:Sm:=(s1 (.ret (.ite (.cmp .gt v0 v1) (.bin .sub v0 n1) v0)))
def y20:Sm:=(.seq (.set (p2 (.v 2) (.v 3)) v0) (.seq (.set (.v 4) (.lrng false (c1 v2))) (.seq (.fr (.v 5) .seq (c1 v1) (.seq (.set (p2 (.v 6) (.v 7)) (.idx v3 v5)) (.seq (.set (.v 8) (.idx v4 v6)) (.seq (.set (.v 9) (.idx v4 v7)) (s1 (.set (.v 4) (.comp 1 [8,9] (.v 0) .seq (c1 v4) .nil (.ite (.cmp .eq v0 v2) v1 v0)))))))) (s1 (.ret v4)))))
def p40:Sm:=(.seq (.set (.v 3) (.call I90 (c2 v0 v1))) (s1 (.ret (.bf .all (c1 (.comp 1 [2,3] (.v 0) .seq (c1 v2) .nil (.cmp .eq (.idx v2 v0) (.idx v2 (.idx v1 n0)))))))))
def u10:Sm:=(.seq (.iff (.or (.not (.isi .tuple v0)) (.cmp .ne (.bf .len (c1 v0)) n2)) (s1 (.ret (.con (.bl false)))) .nil) (.seq (.set (p2 (.v 1) (.v 2)) v0) (.seq (.iff (.or (.not (.call i10 (c1 v1))) (.not (.call i10 (c1 v2)))) (s1 (.ret (.con (.bl false)))) .nil) (.seq (.iff (.or (.not (.ch .le .le n1 v2 (.gint "MOST_BOTTOM" 1000))) (.not (.ch .le .le n0 v1 v2))) (s1 (.ret (.con (.bl false)))) .nil) (s1 (.ret (.cmp .eq (.call h20 (c2 v1 v2)) n1)))))))
def m60:Sm:=(.seq (.exp (.call e70 (c1 v0))) (.seq (.iff (.or (.not (.isi .tuple v1)) (.cmp .ne (.bf .len (c1 v1)) (.bf .len (c1 (.idx v0 n1))))) (s1 (.ret (.con (.bl false)))) .nil) (s1 (.ret (.bf .all (c1 (.comp 1 [] (.v 0) .seq (c1 v1) .nil (.call F30 (c1 v0)))))))))
def i70:Sm:=(s1 (.iff (.not (.call w40 (c2 v0 v1))) (s1 (.rais 6)) .nil))
def F90:Sm:=(.seq (.exp (.call e70 (c1 v0))) (.seq (.exp (.call k20 (c2 v0 v1))) (.seq (.set (p2 (.v 2) (.v 3)) v0) (s1 (.ret (.tup (c2 v2 (.bin .add (.sl v3 .nil (c1 v1)) (.sl v3 (c1 (.bin .add v1 n1)) .nil)))))))))
def p50:Sm:=(.seq (.set (p2 (.v 2) (.v 3)) v1) (s1 (.ret (.ite (.cmp .eq v0 v3) v2 (.call F20 (c2 v0 v3))))))
def p60:Sm:=(s1 (.ret (.bf .sorted (c1 (.comp 2 [1,2] (p2 (.v 0) (.v 1)) .enum (c1 v0) (c1 (.cmp .ne v1 v3)) (.tup (c2 (.call V70 (c2 v1 v2)) v0)))))))
def N70:Sm:=(.seq (.exp (.call e70 (c1 v0))) (.seq (.exp (.call k20 (c2 v0 v1))) (.seq (.set (p2 (.v 2) (.v 3)) v0) (.seq (.set (.v 4) (.bf .tuple (c1 (.comp 1 [1,3] (.v 0) .rng1 (c1 v2) .nil (.call z20 (c2 v0 (.idx v2 v1))))))) (.seq (.set (.v 5) (.call z30 (c3 v3 v4 (.idx v3 v1)))) (.seq (.set (.v 6) (.tup (c2 (.bin .sub v2 n1) (.bf .tuple (c1 (.comp 2 [] (p2 (.v 0) (.v 1)) .seq (c1 v5) .nil v0)))))) (s1 (.ret (.tup (c3 v6 v4 (.bf .tuple (c1 (.comp 2 [] (p2 (.v 0) (.v 1)) .seq (c1 v5) .nil v1)))))))))))))
def u20:Sm:=(s1 (.ret (.bf .tuple (c1 (.comp 1 [1] (.v 0) .seq (c1 v0) (c1 (.cmp .ne v0 v1)) v0)))))
def k50:Sm:=(.seq (.iff (.cmp .eq v4 (.con (.str "yes"))) (s1 (.ret (.call e90 (c3 v0 v2 v1)))) .nil) (s1 (.ret (.and (.cmp .eq v4 (.con (.str "no"))) (.not (.call e90 (c3 v0 v3 v1)))))))
def k60:Sm:=(.seq (.iff (.or (.not (.isi .tuple v4)) (.or (.cmp .eq (.bf .len (c1 v4)) n0) (.not (.isi .str (.idx v4 n0))))) (s1 (.ret (.con (.bl false)))) .nil) (.seq (.iff (.cmp .eq (.bf .len (c1 v4)) n1) (s1 (.ret (.call s60 (c5 v0 v1 v2 v3 (.idx v4 n0))))) .nil) (.seq (.iff (.or (.cmp .ne (.bf .len (c1 v4)) (.con (.int 4))) (.cmp .ne (.idx v4 n0) (.con (.str "tie")))) (s1 (.ret (.con (.bl false)))) .nil) (.seq (.set (.tup (.cons (.v 5) (.cons (.v 6) (.cons (.v 7) .nil)))) (.sl v4 (c1 n1) .nil)) (.seq (.iff (.or (.not (.call i10 (c1 v5))) (.or (.cmp .nmem v5 v3) (.cmp .mem v5 v2))) (s1 (.ret (.con (.bl false)))) .nil) (.seq (.iff (.not (.call g30 (c5 v0 v1 (.bin .add v2 (.tup (c1 v5))) v3 v6))) (s1 (.ret (.con (.bl false)))) .nil) (s1 (.ret (.call g30 (c5 v0 v1 v2 (.call t80 (c2 v3 v5)) v7))))))))))
def i80:Sm:=(.seq (.exp (.call e70 (c1 v0))) (.seq (.exp (.call d50 (c2 v0 v1))) (s1 (.ret (.call g30 (c5 v0 v1 (.tup .nil) (.lrng true (c1 (.bf .len (c1 (.idx v0 n1))))) v2))))))
def i90:Sm:=(.seq (.iff (.call e90 (c3 v0 v2 v1)) (s1 (.ret (cX (.tup [(.str "yes")]) (by decide)))) .nil) (.seq (.iff (.not (.call e90 (c3 v0 v3 v1))) (s1 (.ret (cX (.tup [(.str "no")]) (by decide)))) .nil) (.seq (.set (.v 4) (.idx (.comp 1 [2] (.v 0) .seq (c1 v3) (c1 (.cmp .nmem v0 v1)) v0) n0)) (.seq (.set (.v 5) (.call m50 (c4 v0 v1 (.bin .add v2 (.tup (c1 v4))) v3))) (.seq (.set (.v 6) (.call m50 (c4 v0 v1 v2 (.call t80 (c2 v3 v4))))) (s1 (.ret (.tup (c4 (.con (.str "tie")) v4 v5 v6)))))))))
def p70:Sm:=(.seq (.exp (.call e70 (c1 v0))) (.seq (.exp (.call d50 (c2 v0 v1))) (s1 (.ret (.call m50 (c4 v0 v1 (.tup .nil) (.lrng true (c1 (.bf .len (c1 (.idx v0 n1)))))))))))
def f70:Sm:=(.seq (.iff (.cmp .eq (.idx v1 n0) (.con (.str "yes"))) (s1 (.ret (cX (.tup [(.int 1),(.int 1)]) (by decide)))) .nil) (.seq (.iff (.cmp .eq (.idx v1 n0) (.con (.str "no"))) (s1 (.ret (cX (.tup [(.int 0),(.int 1)]) (by decide)))) .nil) (.seq (.set (.tup (.cons (.v 2) (.cons (.v 3) (.cons (.v 4) .nil)))) (.sl v1 (c1 n1) .nil)) (.seq (.set (.v 5) (.idx v0 v2)) (.seq (.set (.v 6) (.call d71 (c2 v5 (.call h80 (c2 v0 v3))))) (s1 (.ret (.call T21 (c2 v6 (.call d71 (c2 (.call T31 (c1 v5)) (.call h80 (c2 v0 v4)))))))))))))
def p80:Sm:=(.seq (.exp (.call i50 (c2 v0 v1))) (.seq (.exp (.call d50 (c2 v0 v2))) (.seq (.iff (.not (.call i60 (c3 v0 v2 v3))) (s1 (.rais 7)) .nil) (s1 (.ret (.call h80 (c2 v1 v3)))))))
def y30:Sm:=(.seq (.set (.v 1) (cX (.lst [(.tup [])]) (by decide))) (.seq (.fr (.v 2) .rng1 (c1 (.bf .len (c1 (.idx v0 n1)))) (s1 (.set (.v 1) (.bin .add v1 (.comp 1 [2] (.v 0) .seq (c1 v1) .nil (.bin .add v0 (.tup (c1 v1)))))))) (s1 (.ret (.bf .sorted (c1 v1))))))
def u30:Sm:=(.seq (.exp (.call e70 (c1 v0))) (.seq (.exp (.call d50 (c2 v0 v1))) (s1 (.ret (.comp 1 [0,1] (.v 0) .seq (c1 (.call J00 (c1 v0))) (c1 (.call e90 (c3 v1 v0 v2))) v0)))))
def m70:Sm:=(.seq (.set (.v 1) n1) (.seq (.fr (.v 2) .seq (c1 v0) (s1 (.aug .mul 1 (.idx v2 n1)))) (s1 (.ret v1))))
def G00:Sm:=(.seq (.set (.v 2) n1) (.seq (.fr (p2 (.v 3) (p2 (.v 4) (.v 5))) .enum (c1 v0) (s1 (.aug .mul 2 (.ite (.cmp .mem v3 v1) v4 (.bin .sub v5 v4))))) (s1 (.ret v2))))
def p90:Sm:=(s1 (.ret (.call B90 (c2 (.bf .sum (c1 (.comp 1 [0] (.v 0) .seq (c1 v1) .nil (.call V90 (c2 v1 v0))))) (.call w50 (c1 v0))))))
def e01:Sm:=(.seq (.exp (.call i50 (c2 v0 v1))) (.seq (.exp (.call d50 (c2 v0 v2))) (s1 (.ret (.call p20 (c2 v1 (.call F40 (c2 v0 v2))))))))
def k70:Sm:=(.seq (.set (p2 (.v 2) (.v 3)) (.tup (c2 (.bf .abs (c1 v0)) v1))) (.seq (.whl (.cmp .ne v3 n0) (s1 (.set (p2 (.v 2) (.v 3)) (.tup (c2 v3 (.bin .mod v2 v3)))))) (s1 (.ret (.tup (c2 (.bin .fdiv v0 v2) (.bin .fdiv v1 v2)))))))
def u40:Sm:=(s1 (.ret (.call g40 (c2 (.bin .add (.bin .mul (.idx v0 n0) (.idx v1 n1)) (.bin .mul (.idx v1 n0) (.idx v0 n1))) (.bin .mul (.idx v0 n1) (.idx v1 n1))))))
def q00:Sm:=(s1 (.ret (.call g40 (c2 (.bin .mul (.idx v0 n0) (.idx v1 n0)) (.bin .mul (.idx v0 n1) (.idx v1 n1))))))
def u50:Sm:=(s1 (.ret (.tup (c2 (.bin .sub (.idx v0 n1) (.idx v0 n0)) (.idx v0 n1)))))
def g50:Sm:=(.seq (.iff (.cmp .lt v1 (.bf .len (c1 v0))) (s1 (.ret (.idx v0 v1))) .nil) (s1 (.ret n0)))
def j50:Sm:=(.seq (.set (.v 2) (.call s70 (c2 v0 v1))) (.seq (.iff (.cmp .ge v2 (.bin .pow (.con (.int 10)) (.con (.int 18)))) (s1 (.ret (.lst (c2 (.bin .sub v2 (.bin .pow (.con (.int 10)) (.con (.int 18)))) (.con (.bl true)))))) .nil) (s1 (.ret (.lst (c2 (.bin .mod v2 (.con (.int 2147483647))) (.con (.bl false))))))))
def u60:Sm:=(.seq (.iff (.zget 0 1) (.seq (.set (.v 2) (.bin .mod (.zget 0 0) v1)) (.seq (.zset 0 (.bin .fdiv (.zget 0 0) v1)) (s1 (.ret v2)))) .nil) (.seq (.zset 0 (.bin .mod (.bin .add (.bin .mul (.zget 0 0) (.con (.int 48271))) (.con (.int 29))) (.con (.int 2147483647)))) (.seq (.set (.v 3) (.bin .mod (.bin .add (.bin .add (.bin .mul (.zget 0 0) (.zget 0 0)) (.bin .mul (.con (.int 39373)) (.zget 0 0))) (.con (.int 7))) (.con (.int 2147483629)))) (.seq (.set (.v 3) (.bin .mod (.bin .add (.bin .mul v3 v3) (.bin .mul (.con (.int 16807)) v3)) (.con (.int 2147483587)))) (s1 (.ret (.bin .mod (.bin .fdiv v3 (.con (.int 8))) v1)))))))
def q10:Sm:=(.seq (.set (.v 2) (.lrng false (c1 v1))) (.seq (.set (.v 3) (.lst .nil)) (.seq (.whl (.cmp .ne v2 (.lst .nil)) (s1 (.apop 3 2 (.call b20 (c2 v0 (.bf .len (c1 v2))))))) (s1 (.ret (.bf .tuple (c1 v3)))))))
def y40:Sm:=(.seq (.set (.v 2) (.idx (cX (.lst [(.int 5),(.int 4),(.int 6),(.int 3),(.int 4),(.int 2),(.int 6),(.int 1)]) (by decide)) (.call b20 (c2 v0 (.con (.int 8)))))) (.seq (.set (.v 3) (.call z70 (c2 v0 v2))) (.seq (.set (.v 4) (.call b20 (c2 v0 (.con (.int 6))))) (.seq (.set (.v 5) (.lst .nil)) (.seq (.fr (.v 6) .rng2 (c2 n1 v2) (s1 (.app 5 (.tup (c2 (.idx v3 v6) (.idx v3 (.idx (.lst (.cons (.bin .sub v6 n1) (c5 (.bin .sub v6 n1) n0 (.bin .fdiv v6 n2) (.bin .sub v6 n1) n0))) v4))))))) (.seq (.iff (.and (.cmp .eq v4 n0) (.cmp .gt v2 n2)) (s1 (.app 5 (.tup (c2 (.idx v3 n0) (.idx v3 (.bin .sub v2 n1)))))) .nil) (.seq (.iff (.cmp .eq v4 (.con (.int 4))) (s1 (.set (.v 5) (.sl v5 (c1 n1) .nil))) .nil) (.seq (.fr (.v 7) .rng1 (c1 (.call b20 (c2 v0 (.con (.int 5))))) (.seq (.set (p2 (.v 8) (.v 9)) (.tup (c2 (.call b20 (c2 v0 v2)) (.call b20 (c2 v0 v2))))) (s1 (.iff (.cmp .ne v8 v9) (s1 (.app 5 (.tup (c2 v8 v9)))) .nil)))) (.seq (.iff (.and (.cmp .ne v5 (.lst .nil)) (.cmp .eq (.call b20 (c2 v0 (.con (.int 3)))) n0)) (s1 (.app 5 (.idx v5 (.call b20 (c2 v0 (.bf .len (c1 v5))))))) .nil) (.seq (.set (.v 5) (.sl v5 .nil (c1 v1))) (s1 (.ret (.tup (c2 v2 (.bf .tuple (c1 (.bf .sorted (c1 (.comp 2 [] (p2 (.v 0) (.v 1)) .seq (c1 v5) .nil (.tup (c2 (.bf .min (c2 v0 v1)) (.bf .max (c2 v0 v1)))))))))))))))))))))))
def m80:Sm:=(.seq (.set (.v 2) (.bf .tuple (c1 (.comp 1 [0] (.v 0) .rng1 (c1 (.idx v1 n0)) (c1 (.cmp .eq (.call b20 (c2 v1 n2)) n0)) v0)))) (s1 (.ret (.idx (.lst (c3 (.orT v2 (cX (.tup [(.int 0)]) (by decide))) (.lrng true (c1 (.idx v1 n0))) (.orT v2 (.tup (c1 (.bin .sub (.idx v1 n0) n1)))))) (.call b20 (c2 v0 (.con (.int 3))))))))
def m90:Sm:=(.seq (.set (.v 1) (.call b20 (c2 v0 (.con (.int 8))))) (.seq (.iff (.cmp .lt v1 n2) (s1 (.ret (.idx (cX (.lst [(.tup [(.int 0),(.int 1)]),(.tup [(.int 1),(.int 1)])]) (by decide)) v1))) .nil) (.seq (.set (.v 2) (.idx (.lst (.cons n2 (c5 (.con (.int 3)) (.con (.int 4)) (.bin .add n1 (.call b20 (c2 v0 (.con (.int 12))))) (.bin .add n1 (.call b20 (c2 v0 (.con (.int 1000))))) (.con (.int 1000))))) (.bin .sub v1 n2))) (s1 (.ret (.call g40 (c2 (.call b20 (c2 v0 (.bin .add v2 n1))) v2)))))))
def k80:Sm:=(s1 (.ret (.bf .tuple (c1 (.comp 1 [0] (.v 0) .seq (c1 (.idx v1 n1)) .nil (.call w70 (c1 v1)))))))
def c20:Sm:=(.seq (.set (p2 (.v 4) (.v 5)) (.tup (c2 (.call V80 (c2 v0 v3)) (.call C11 (c2 v0 v3))))) (.seq (.set (.tup (.cons (.v 6) (.cons (.v 7) (.cons (.v 8) .nil)))) v5) (.seq (.iff (.or (.not (.call C00 (c1 v4))) (.not (.call C00 (c1 v6)))) (s1 (.ret (.con (.bl false)))) .nil) (.seq (.iff (.or (.cmp .ne (.idx v6 n0) (.bin .sub (.idx v0 n0) n1)) (.cmp .ne (.bf .len (c1 v7)) (.idx v0 n0))) (s1 (.ret (.con (.bl false)))) .nil) (.seq (.set (.v 9) (.bf .tuple (c1 (.bf .sset (c1 (.comp 1 [7] (.v 0) .seq (c1 v2) .nil (.idx v1 v0))))))) (.seq (.set (.v 10) (.call F50 (c3 v6 (.bf .tuple (c1 (.comp 1 [1] (.v 0) .seq (c1 v8) .nil (.idx v1 v0)))) v9))) (.seq (.set (.v 11) (.call F50 (c3 v4 (.bin .add (.sl v1 .nil (c1 v3)) (.sl v1 (c1 (.bin .add v3 n1)) .nil)) v2))) (.seq (.set (.v 12) (.call p30 (c2 (.idx v1 v3) v10))) (.seq (.set (.v 13) (.call p30 (c2 (.call F70 (c1 (.idx v1 v3))) v11))) (.seq (.iff (.cmp .ne (.call F50 (c3 v0 v1 v2)) (.call F60 (c2 v12 v13))) (s1 (.ret (.con (.bl false)))) .nil) (.seq (.set (.v 14) (.comp 1 [8] (.v 0) .rng1 (c1 (.bf .len (c1 (.idx v0 n1)))) (c1 (.cmp .nmem v0 v1)) v0)) (.seq (.iff (.cmp .nmem v3 (.var 14)) (s1 (.ret (.con (.bl false)))) .nil) (s1 (.ret (.cmp .eq (.comp 1 [0,3] (.v 0) .seq (c1 (.var 14)) (c1 (.cmp .ne (.idx (.idx v1 n1) v0) (.idx (.idx v1 n1) v2))) v0) (.lst .nil))))))))))))))))
def N81:Sm:=(.seq (.fr (.v 1) .rng1 (c1 (.bf .max (c2 n1 (.bf .min (c2 (.bf .len (c1 v0)) (.con (.int 5))))))) (.seq (.newz 2 z60 (c2 v0 v1)) (.seq (.set (.v 3) (.call J10 (c2 v2 (.idx (cX (.lst [(.int 5),(.int 8)]) (by decide)) (.bf .int (c1 (.cmp .eq v1 n0))))))) (.seq (.set (p2 (.v 4) (.v 5)) (.tup (c2 (.call w60 (c2 v2 v3)) (.call s80 (c2 v2 v3))))) (.seq (.set (.v 6) (.call z40 (c2 v3 v4))) (.seq (.iff (.cmp .isnt (.call i60 (c3 v3 v4 v6)) (.con (.bl true))) (s1 (.ret (.con (.bl false)))) .nil) (.seq (.iff (.cmp .ne (.call z50 (c4 v3 v5 v4 v6)) (.call F50 (c3 v3 v5 v4))) (s1 (.ret (.con (.bl false)))) .nil) (s1 (.iff (.cmp .ne (.idx v3 n1) (.tup .nil)) (.seq (.set (.v 7) (.call b20 (c2 v2 (.bf .len (c1 (.idx v3 n1)))))) (s1 (.iff (.not (.call n70 (c4 v3 v5 v4 v7))) (s1 (.ret (.con (.bl false)))) .nil))) .nil))))))))) (s1 (.ret (.con (.bl true)))))
def rows:List Row:=[(⟨"common_divisor",["one","other"],top 8,["one","other"],h30,false⟩:Row),
 (⟨"lowest",["top","bottom"],top 9,["top","bottom","divisor"],N30,false⟩:Row),
 (⟨"plus",["one","other"],top 10,["one","other"],C21,false⟩:Row),
 (⟨"times",["one","other"],top 11,["one","other"],d81,false⟩:Row),
 (⟨"lack",["one"],top 12,["one"],C31,false⟩:Row),
 (⟨"is_whole",["thing"],top 16,["thing"],J20,false⟩:Row),
 (⟨"is_below",["thing","many"],top 17,["thing","many"],y00,false⟩:Row),
 (⟨"is_tie",["thing","many"],top 18,["thing","many","a","b"],N40,false⟩:Row),
 (⟨"are_ties",["thing","many"],top 19,["thing","many"],y10,false⟩:Row),
 (⟨"is_web",["thing"],top 20,["thing","many","ties"],N50,false⟩:Row),
 (⟨"rises",["things"],top 21,["things"],d91,false⟩:Row),
 (⟨"is_rising_below",["thing","many"],top 22,["thing","many"],g20,false⟩:Row),
 (⟨"check_web",["thing"],top 23,["thing"],t90,false⟩:Row),
 (⟨"check_places",["web","thing"],top 24,["web","thing"],k30,false⟩:Row),
 (⟨"check_number",["web","thing"],top 25,["web","thing"],k40,false⟩:Row),
 (⟨"tie_of",["one","other"],top 26,["one","other"],N60,false⟩:Row),
 (⟨"renamed",["tie","names"],top 27,["tie","names","a","b"],F80,false⟩:Row),
 (⟨"closed_up",["place","gone"],top 28,["place","gone"],u00,false⟩:Row),
 (⟨"marks_by",["web","lot"],top 29,["web","lot","many","ties","marks","number","a","b","kept","gone"],y20,false⟩:Row),
 (⟨"are_joined",["web","lot","places"],top 30,["web","lot","places","marks"],p40,false⟩:Row),
 (⟨"is_chance",["thing"],top 33,["thing","top","bottom"],u10,false⟩:Row),
 (⟨"are_chances",["web","thing"],top 34,["web","thing"],m60,false⟩:Row),
 (⟨"check_chances",["web","thing"],top 35,["web","thing"],i70,false⟩:Row),
 (⟨"without",["web","number"],top 37,["web","number","many","ties"],F90,false⟩:Row),
 (⟨"name_drawn",["place","tie"],top 38,["place","tie","stays","goes"],p50,false⟩:Row),
 (⟨"drawn_ties",["ties","names","tie"],top 39,["ties","names","tie"],p60,false⟩:Row),
 (⟨"drawn",["web","number"],top 40,["web","number","many","ties","names","stay","fewer"],N70,false⟩:Row),
 (⟨"taken_out",["left","number"],top 41,["left","number"],u20,false⟩:Row),
 (⟨"is_right_end",["web","places","held","left","word"],top 42,["web","places","held","left","word"],k50,false⟩:Row),
 (⟨"is_paper_for",["web","places","held","left","thing"],top 43,["web","places","held","left","thing","number","one","other"],k60,false⟩:Row),
 (⟨"is_case_paper",["web","places","thing"],top 44,["web","places","thing"],i80,false⟩:Row),
 (⟨"paper_for",["web","places","held","left"],top 45,["web","places","held","left","number","one","other"],i90,false⟩:Row),
 (⟨"case_paper",["web","places"],top 46,["web","places"],p70,false⟩:Row),
 (⟨"paper_shows",["chances","paper"],top 47,["chances","paper","number","one","other","chance","holds"],f70,false⟩:Row),
 (⟨"case_shows",["web","chances","places","paper"],top 48,["web","chances","places","paper"],p80,false⟩:Row),
 (⟨"all_lots",["web"],top 50,["web","lots","number"],y30,false⟩:Row),
 (⟨"good_lots",["web","places"],top 51,["web","places"],u30,false⟩:Row),
 (⟨"all_bottoms",["chances"],top 53,["chances","found","chance"],m70,false⟩:Row),
 (⟨"lot_top",["chances","lot"],top 54,["chances","lot","found","number","top","bottom"],G00,false⟩:Row),
 (⟨"lots_share",["chances","lots"],top 55,["chances","lots"],p90,false⟩:Row),
 (⟨"share",["web","chances","places"],top 56,["web","chances","places"],e01,false⟩:Row),
 (⟨"_law_divided",["_law_top","_law_bottom"],top 58,["_law_top","_law_bottom","_law_one","_law_other"],k70,false⟩:Row),
 (⟨"_law_plus",["_law_one","_law_other"],top 59,["_law_one","_law_other"],u40,false⟩:Row),
 (⟨"_law_times",["_law_one","_law_other"],top 60,["_law_one","_law_other"],q00,false⟩:Row),
 (⟨"_law_lack",["_law_one"],top 61,["_law_one"],u50,false⟩:Row),
 (⟨"_law_cell_at",["_law_script","_law_k"],top 62,["_law_script","_law_k"],g50,false⟩:Row),
 (⟨"_law_state",["_law_script","_law_k"],top 63,["_law_script","_law_k","_law_cell"],j50,false⟩:Row),
 (⟨"_law_take",["_law_state_here","_law_many"],top 64,["_law_state_here","_law_many","_law_found","_law_stirred"],u60,false⟩:Row),
 (⟨"_law_mixed",["_law_state_here","_law_many"],top 65,["_law_state_here","_law_many","_law_left","_law_found"],q10,false⟩:Row),
 (⟨"_law_web",["_law_state_here","_law_most"],top 66,["_law_state_here","_law_most","_law_many","_law_names","_law_way","_law_ties","_law_at","_law_turn","_law_one","_law_other"],y40,false⟩:Row),
 (⟨"_law_places",["_law_state_here","_law_web_here"],top 67,["_law_state_here","_law_web_here","_law_some"],m80,false⟩:Row),
 (⟨"_law_chance",["_law_state_here"],top 68,["_law_state_here","_law_way","_law_bottom"],m90,false⟩:Row),
 (⟨"_law_chances",["_law_state_here","_law_web_here"],top 69,["_law_state_here","_law_web_here"],k80,false⟩:Row),
 (⟨"_law_tie_right",["_law_web_here","_law_chances_here","_law_places_here","_law_number"],top 70,["_law_web_here","_law_chances_here","_law_places_here","_law_number","_law_fewer","_law_told","_law_less","_law_names","_law_old","_law_there","_law_one","_law_other","_law_held","_law_lacked","_law_gone"],c20,false⟩:Row),
 (⟨"law",["_law_script"],top 71,["_law_script","_law_k","_law_state_here","_law_web_here","_law_places_here","_law_chances_here","_law_paper","_law_number"],N81,false⟩:Row)]
def T:List Df:=[(Df.code 2 2 h30:Df),(Df.code 2 3 N30:Df),(Df.code 2 2 C21:Df),(Df.code 2 2 d81:Df),(Df.code 1 1 C31:Df),(Df.code 1 1 J20:Df),(Df.code 2 2 y00:Df),(Df.code 2 4 N40:Df),(Df.code 2 2 y10:Df),(Df.code 1 3 N50:Df),(Df.code 1 1 d91:Df),(Df.code 2 2 g20:Df),(Df.code 1 1 t90:Df),(Df.code 2 2 k30:Df),(Df.code 2 2 k40:Df),(Df.code 2 2 N60:Df),(Df.code 2 4 F80:Df),(Df.code 2 2 u00:Df),(Df.code 2 10 y20:Df),(Df.code 3 4 p40:Df),(Df.code 1 3 u10:Df),(Df.code 2 2 m60:Df),(Df.code 2 2 i70:Df),(Df.code 2 4 F90:Df),(Df.code 2 4 p50:Df),(Df.code 3 3 p60:Df),(Df.code 2 7 N70:Df),(Df.code 2 2 u20:Df),(Df.code 5 5 k50:Df),(Df.code 5 8 k60:Df),(Df.code 3 3 i80:Df),(Df.code 4 7 i90:Df),(Df.code 2 2 p70:Df),(Df.code 2 7 f70:Df),(Df.code 4 4 p80:Df),(Df.code 1 3 y30:Df),(Df.code 2 2 u30:Df),(Df.code 1 3 m70:Df),(Df.code 2 6 G00:Df),(Df.code 2 2 p90:Df),(Df.code 3 3 e01:Df),(Df.code 2 4 k70:Df),(Df.code 2 2 u40:Df),(Df.code 2 2 q00:Df),(Df.code 1 1 u50:Df),(Df.code 2 2 g50:Df),(Df.code 2 3 j50:Df),(Df.code 2 4 u60:Df),(Df.code 2 4 q10:Df),(Df.code 2 10 y40:Df),(Df.code 2 3 m80:Df),(Df.code 1 3 m90:Df),(Df.code 2 2 k80:Df),(Df.code 4 15 c20:Df),(Df.code 1 8 N81:Df)]
theorem U52:tabOf rows=T:=rfl
def cn:List Str:=["NoWeb","NoWeb","NoPlaces","NoWeb","NoTie","NoWeb","NoChances","NoPaper","NoWeb","NoWeb","NoWeb","NoWeb"]
end K3
namespace K3
open Q
open L2 (D)
def v62:D→Bool
 |.int _=>true
 |_=>false
theorem j00(k:Nat)(x:D)(z:Z):b10 T (k + 3) i10 [.d x] z=some (.ok (.d (.bl (v62 x))) z):=by
 cases z <;> cases x <;> rfl
def d00(x:D)(m:Int):Bool:=match x with
 |.int i=>decide (0≤i)&&decide (i < m)
 |_=>false
theorem n00(k:Nat)(x:D)(m:Int)(z:Z):b10 T (k + 4) l50 [.d x,.d (.int m)] z=some (.ok (.d (.bl (d00 x m))) z):=by
 refine W.ok (g00 (ps:=2) (ns:=2) (b:=y00) rfl rfl (by decide) (Wo (j00 (k:=k) x z) ?_))
 cases x with
 |int i=>exact ib (b:=decide (0≤i)) (λh=>sb (show decide (i < m)=(decide (0≤i)&&decide (i < m)) by rw[h];rfl)) λh=>sb (show false=(decide (0≤i)&&decide (i < m)) by rw[h];rfl)
 |_=>exact sb rfl
def C41(x:D)(m:Int):Bool:=match x with
 |.tup [a,b]=>d00 a m&&(d00 b m&&(match a,b with
  |.int i,.int j=>decide (i < j)
  |_,_=>false))
 |_=>false
theorem l70(h:d00 x m=true):∃ i,x=.int i∧0≤i∧i < m:=by
 cases x with
 |int i =>
  unfold d00 at h
  rw[and_eq_true,decide_eq_true_eq,decide_eq_true_eq] at h
  exact⟨i,rfl,h⟩
 |_=>cases h
theorem C51(k:Nat)(x:D)(m:Int)(z:Z):b10 T (k + 5) k51 [.d x,.d (.int m)] z=some (.ok (.d (.bl (C41 x m))) z):=by
 refine W.ok (g00 (ps:=2) (ns:=4) (b:=N40) rfl rfl (by decide) ?_)
 cases x with
 |tup l =>
  match l with
  |[a,b] =>
   refine Wo (n00 k a m z) (ib (b:=d00 a m) (λh1=>Wo (n00 k b m z) (ib (b:=d00 b m) (λh2=>?_) λh=>?_)) λh=>?_)
   ·obtain⟨i,rfl,_⟩:=l70 h1
    obtain⟨j,rfl,_⟩:=l70 h2
    exact sb (show decide (i < j)=(d00 (.int i) m&&(d00 (.int j) m&&decide (i < j))) by rw[h1,h2];rfl)
   ·exact sb (show false=(d00 a m&&(d00 b m&&_)) by rw[h1,h];rfl)
   ·exact sb (show false=(d00 a m&&_) by rw[h];rfl)
  |[]=>exact sb rfl
  |[_]=>exact sb rfl
  |_::_::_::_=>exact sb rfl
 |_=>exact sb rfl
theorem J30(l:List D)(p:D→Bool):bfD .all [.lst (l.map λx=>D.bl (p x))]=some (.d (.bl (l.all p))):=by
 have h:(l.map λx=>D.bl (p x)).mapM asB=some (l.map p):=by
  induction l with
  |nil=>rfl
  |cons x r ih =>
   rw[map_cons,mapM_cons,ih];rfl
 show((l.map λx=>D.bl (p x)).mapM asB).map _=_
 rw[h]
 simp[all_map]
theorem w80(l:List D)(n:Nat):cutD l (some (n:Int)) none=l.drop n:=by
 have h1:HT.sIx l.length 0 (some (n:Int))=min n l.length:=HT.r91 l.length 0 n
 unfold cutD
 rw[h1]
 show((l.drop (min n l.length)).take (l.length - min n l.length))=_
 rcases Nat.le_total n l.length with h | h
 ·rw[Nat.min_eq_left h,take_of_length_le (by rw[length_drop];omega)]
 ·rw[Nat.min_eq_right h,drop_length,List.take_nil,List.drop_of_length_le h]
theorem N80:∀ a b:List D,(B20 a b).length≤a.length
 |[],_=>Nat.le_refl _
 |_::_,[]=>zero_le _
 |_::r,_::q=>succ_le_succ (N80 r q)
theorem e11:∀ {a b:List D}{d:D},d∈B20 a b→∃ x∈a,∃ y∈b,d=.tup [x,y]
 |x::r,y::q,d,h=>by
  rcases List.mem_cons.mp h with h | h
  ·exact⟨x,mem_cons_self,y,mem_cons_self,h⟩
  ·obtain⟨u,hu,v,hv,e⟩:=e11 h
   exact⟨u,mem_cons_of_mem _ hu,v,mem_cons_of_mem _ hv,e⟩
def leD:D→Bool
 |.tup [.tup a,.tup b]=>(match a81 a,a81 b with
  |some ns,some ms=>HT.leB ns ms
  |_,_=>false)
 |_=>false
def W00(l:List D):Bool:=(B20 l (l.drop 1)).all leD
def W10(x:D)(m:Int):Bool:=match x with
 |.tup l=>decide (l.length≤8)&&(l.all (λt=>C41 t m)&&W00 l)
 |_=>false
theorem W20(h:C41 x m=true):∃ i j,x=.tup [.int i,.int j]∧0≤i∧i < j∧j < m:=by
 cases x with
 |tup l =>
  match l,h with
  |[a,b],h =>
   unfold C41 at h
   rw[and_eq_true,and_eq_true] at h
   obtain⟨h1,h2,h3⟩:=h
   obtain⟨i,rfl,i1,i2⟩:=l70 h1
   obtain⟨j,rfl,j1,j2⟩:=l70 h2
   exact⟨i,j,rfl,i1,of_decide_eq_true h3,j2⟩
 |_=>cases h
theorem o00(h:n≤1000):n≤most:=Nat.le_trans h (by decide)
theorem e21(k:Nat)(x:D)(m:Int)(z:Z):b10 T (k + 6) I80 [.d x,.d (.int m)] z=some (.ok (.d (.bl (W10 x m))) z):=by
 refine W.ok (g00 (ps:=2) (ns:=2) (b:=y10) rfl rfl (by decide) ?_)
 cases x with
 |tup l =>
  refine ib (b:=decide ((8:Int) < (l.length:Int))) (λh=>?_) λh=>?_
  ·refine sb (show false=(decide (l.length≤8)&&_) from ?_)
   rw[decide_eq_true_eq] at h
   rw[decide_eq_false (by omega)];rfl
  ·rw[decide_eq_false_iff_not] at h
   have h8:l.length≤8:=by omega
   refine ip (o00 (by omega)) (d61 (λx=>.bl (C41 x m)) (λx _=>Wo (C51 k x m z) ⟨rfl,rfl⟩) ?_)
   refine(a00 (J30 l λx=>C41 x m) ?_ :)
   refine ib (b:=!l.all λx=>C41 x m) (λh=>?_) λh2=>?_
   ·exact sb (show false=(decide (l.length≤8)&&(l.all (λt=>C41 t m)&&W00 l)) by rw[not_eq_true'] at h;rw[h,Bool.false_and,Bool.and_false])
   ·rw[not_eq_false'] at h2
    have ha:=List.all_eq_true.mp h2
    have e1:cutD l (some 1) none=l.drop 1:=w80 l 1
    refine ip (c:=(B20 l (cutD l (some 1) none)).length≤most) (Nat.le_trans (N80 _ _) (o00 (by omega))) (d61 (λx=>.bl (leD x)) (λx hx=>?_) (a00 (J30 _ leD) ?_ :))
    ·obtain⟨u,hu,v,hv,rfl⟩:=e11 hx
     rw[e1] at hv
     obtain⟨i,j,rfl,_⟩:=W20 (ha u hu)
     obtain⟨i',j',rfl,_⟩:=W20 (ha v (List.mem_of_mem_drop hv))
     exact⟨rfl,rfl⟩
    ·refine sb (b:=(B20 l (cutD l (some 1) none)).all leD) ?_
     show _=(decide (l.length≤8)&&(l.all (λt=>C41 t m)&&W00 l))
     rw[e1,h2,decide_eq_true h8,Bool.true_and,Bool.true_and];rfl
 |_=>exact sb rfl
def I62(a t:D):Bool:=match a with
 |.int m=>decide (1≤m)&&(decide (m≤6)&&W10 t m)
 |_=>false
def N91(x:D):Bool:=match x with
 |.tup [a,t]=>I62 a t
 |_=>false
theorem G10(k:Nat)(x:D)(z:Z):b10 T (k + 7) C00 [.d x] z=some (.ok (.d (.bl (N91 x))) z):=by
 refine W.ok (g00 (ps:=1) (ns:=3) (b:=N50) rfl rfl (by decide) ?_)
 cases x with
 |tup l =>
  match l with
  |[a,t] =>
   refine Wo (j00 (k + 3) a _) ?_
   cases a with
   |int m =>
    refine ib (b:=decide (1≤m)) (λg1=>ib (b:=decide (m≤6)) (λg2=>Wo (e21 k t m _) ?_) λg2=>?_) λg1=>?_
    ·exact sb (show W10 t m=(decide (1≤m)&&(decide (m≤6)&&W10 t m)) by rw[g1,g2];rfl)
    ·exact sb (show false=(decide (1≤m)&&(decide (m≤6)&&W10 t m)) by rw[g1,g2];rfl)
    ·exact sb (show false=(decide (1≤m)&&(decide (m≤6)&&W10 t m)) by rw[g1];rfl)
   |_=>exact sb rfl
  |[]=>exact sb rfl
  |[_]=>exact sb rfl
  |_::_::_::_=>exact sb rfl
 |_=>exact sb rfl
theorem f00(k:Nat)(z:Z)(h:N91 x=true):b10 T (k + 8) e70 [.d x] z=some (.ok (.d .non) z) :=
 W.ok (g00 (ps:=1) (ns:=1) (b:=t90) rfl rfl (by decide) (Wo (G10 k x z) (ie (b:=!N91 x) (by rw[h];rfl) (sd rfl))))
theorem O01(hj:0 < j):E00 .mod (.int i) (.int j)=some (.d (.int (i % j))):=by
 show(if 0 < j then some (S.d (.int (i % j))) else none)=_
 rw[if_pos hj]
def GT(n:Nat)(a b:Int):Prop:=0≤b∧((∃ k:Nat,n=2 * k + 1∧b < 2 ^ k)∨∃ k:Nat,n=2 * k∧b < a∧a < 2 ^ k)
theorem GT.step(h:GT n a b)(hb:0 < b):∃ m,m < n∧GT m b (a % b):=by
 obtain⟨h0,h⟩:=h
 have r0:=emod_nonneg a (show b≠0 by omega)
 have r1:=emod_lt_of_pos a hb
 rcases h with ⟨k,rfl,hk⟩ | ⟨k,rfl,hba,hk⟩
 ·exact⟨2 * k,lt_succ_self _,r0,.inr ⟨k,rfl,r1,hk⟩⟩
 ·cases k with
  |zero=>simp at hk;omega
  |succ k =>
   refine⟨2 * k + 1,by omega,r0,.inl ⟨k,rfl,?_⟩⟩
   have e:=Int.emod_add_mul_ediv a b
   have q1:1≤a / b:=Int.le_ediv_of_mul_le hb (by omega)
   have:b * 1≤b * (a / b):=Int.mul_le_mul_of_nonneg_left q1 (by omega)
   have h2:(2:Int) ^ (k + 1)=2 * 2 ^ k:=by rw[Int.pow_succ,Int.mul_comm]
   rw[h2] at hk
   omega
theorem C61(a b:Int):gcd b (a % b)=gcd a b:=by
 rw[Int.emod_def,Int.gcd_sub_mul_left_right,gcd_comm]
def big(b:Int):Prop:=b < 2 ^ 4000
theorem e31(h0:0≤b)(h:big b):b.natAbs < I30:=by
 have h:b < 2 ^ 4000:=h
 have e:((2 ^ 4000:Nat):Int)=2 ^ 4000:=by rw[natCast_pow];rfl
 show b.natAbs < 2 ^ 4000
 omega
theorem w90(h:b≤2 ^ 64):big b:=Int.lt_of_le_of_lt h (by decide)
theorem l80(k:Nat)(a b:Int)(z:Z)(h0:0 < b)(h1:big b):b10 T (k + 3) h20 [.d (.int a),.d (.int b)] z=some (.ok (.d (.int (gcd a b))) z):=by
 refine W.ok (g00 (ps:=2) (ns:=2) (b:=h30) rfl rfl (by decide) (e72 (λn ρ z1=>z1=z∧∃ c d:Int,ρ=[some (.d (.int c)),some (.d (.int d))]∧GT n c d∧gcd c d=gcd a b∧(d=0→0≤c)) (2 * 4000 + 1) ⟨rfl,a,b,rfl,⟨Int.le_of_lt h0,.inl ⟨4000,rfl,h1⟩⟩,rfl,λh=>by omega⟩ (by decide) ?_))
 rintro n ρ z1 ⟨rfl,c,d,rfl,g,hg,hc⟩
 refine ib (b:=decide (0 < d)) (λhd=>?_) λhd=>?_
 ·rw[decide_eq_true_eq] at hd
  obtain⟨m,hm,g'⟩:=g.step hd
  refine(a00 (O01 (i:=c) hd) ?_ :)
  exact⟨m,hm,rfl,d,c % d,rfl,g',(C61 c d).trans hg,λ_=>Int.le_of_lt hd⟩
 ·rw[decide_eq_false_iff_not] at hd
  have hz:d=0:=by have:=g.1;omega
  subst hz
  rw[Int.gcd_zero_right] at hg
  refine sd (s:=.d (.int c)) ?_
  rw[← hg,show((c.natAbs:Nat):Int)=c by have:=hc rfl;omega]
def chI(t b:Int):Bool:=(decide (1≤b)&&decide (b≤1000))&&((decide (0≤t)&&decide (t≤b))&&(((gcd t b:Nat):Int) == 1))
def chP:D→D→Bool
 |.int t,.int b=>chI t b
 |_,_=>false
def chD:D→Bool
 |.tup [d,e]=>chP d e
 |_=>false
theorem k71(h:¬ (1≤u∧u≤1000∧0≤t∧t≤u)):false=chI t u:=by
 unfold chI
 refine Eq.symm ?_
 rw[Bool.eq_false_iff]
 intro q
 rw[and_eq_true,and_eq_true,and_eq_true,and_eq_true,decide_eq_true_eq,decide_eq_true_eq,decide_eq_true_eq,decide_eq_true_eq] at q
 exact h ⟨q.1.1,q.1.2,q.2.1.1,q.2.1.2⟩
theorem W30(k:Nat)(x:D)(z:Z):b10 T (k + 4) F30 [.d x] z=some (.ok (.d (.bl (chD x))) z):=by
 refine W.ok (g00 (ps:=1) (ns:=3) (b:=u10) rfl rfl (by decide) ?_)
 cases x with
 |tup l =>
  match l with
  |[a,b] =>
   refine Wo (j00 k a z) ?_
   cases a with
   |int t =>
    refine Wo (j00 k b z) ?_
    cases b with
    |int u =>
     refine ib (b:=decide (1≤u)) (λh1=>ib (b:=!decide (u≤1000)) (λh2=>?_) λh2=>ib (b:=decide (0≤t)) (λh3=>ib (b:=!decide (t≤u)) (λh4=>?_) λh4=>?_) λh3=>?_) λh1=>?_
     ·exact sb (k71 λq=>by rw[not_eq_true',decide_eq_false_iff_not] at h2;exact h2 q.2.1)
     ·exact sb (k71 λq=>by rw[not_eq_true',decide_eq_false_iff_not] at h4;exact h4 q.2.2.2)
     ·rw[not_eq_false',decide_eq_true_eq] at h2 h4
      rw[decide_eq_true_eq] at h1 h3
      refine Wo (l80 k t u z (by omega) (w90 (by omega))) (sb (show(((gcd t u:Nat):Int) == 1)=chI t u from ?_))
      unfold chI
      rw[decide_eq_true h1,decide_eq_true h2,decide_eq_true h3,decide_eq_true h4];rfl
     ·exact sb (k71 λq=>by rw[decide_eq_false_iff_not] at h3;exact h3 q.2.2.1)
     ·exact sb (k71 λq=>by rw[decide_eq_false_iff_not] at h1;exact h1 q.1)
    |_=>exact sb rfl
   |_=>exact sb rfl
  |[]=>exact sb rfl
  |[_]=>exact sb rfl
  |_::_::_::_=>exact sb rfl
 |_=>exact sb rfl
def v72(n:Nat):D→Bool
 |.tup l=>(l.length == n)&&l.all chD
 |_=>false
theorem C71(h:N91 x=true):∃ m ts,x=.tup [.int m,.tup ts]∧1≤m∧m≤6∧ts.length≤8∧(∀ t∈ts,C41 t m=true)∧W00 ts=true:=by
 cases x with
 |tup l =>
  match l,h with
  |[a,t],h =>
   unfold N91 I62 at h
   cases a with
   |int m =>
    rw[and_eq_true,and_eq_true,decide_eq_true_eq,decide_eq_true_eq] at h
    obtain⟨h1,h2,h3⟩:=h
    unfold W10 at h3
    cases t with
    |tup ts =>
     rw[and_eq_true,and_eq_true,decide_eq_true_eq,all_eq_true] at h3
     exact⟨m,ts,rfl,h1,h2,h3.1,h3.2.1,h3.2.2⟩
    |_=>cases h3
   |_=>cases h
 |_=>cases h
theorem H60(k:Nat)(hw:N91 (.tup [.int m,.tup ts])=true)(x:D)(z:Z):b10 T (k + 9) w40 [.d (.tup [.int m,.tup ts]),.d x] z=some (.ok (.d (.bl (v72 ts.length x))) z):=by
 obtain⟨m',ts',e,_,_,h8,_⟩:=C71 hw
 cases e
 refine W.ok (g00 (ps:=2) (ns:=2) (b:=m60) rfl rfl (by decide) (Wo (f00 k z hw) ?_))
 cases x with
 |tup l =>
  have e:((l.length:Int) == (ts.length:Int))=(l.length == ts.length):=by rw[Bool.eq_iff_iff,beq_iff_eq,beq_iff_eq];omega
  refine ib (b:=!((l.length:Int) == (ts.length:Int))) (λh=>?_) λh=>?_
  ·rw[e,not_eq_true'] at h
   exact sb (show false=((l.length == ts.length)&&_) by rw[h];rfl)
  ·rw[e,not_eq_false'] at h
   refine ip (o00 (by rw[beq_iff_eq] at h;omega)) (d61 (λx=>.bl (chD x)) (λx _=>Wo (W30 (k + 4) x z) ⟨rfl,rfl⟩) (a00 (J30 l chD) ?_ :))
   exact sb (b:=l.all chD) (show _=((l.length == ts.length)&&l.all chD) by rw[h];rfl)
 |_=>exact sb rfl
theorem n80(k:Nat)(hw:N91 (.tup [.int m,.tup ts])=true)(z:Z)(h:v72 ts.length x=true):b10 T (k + 10) i50 [.d (.tup [.int m,.tup ts]),.d x] z=some (.ok (.d .non) z) :=
 W.ok (g00 (ps:=2) (ns:=2) (b:=i70) rfl rfl (by decide) (Wo (H60 k hw x z) (ie (b:=!v72 ts.length x) (by rw[h];rfl) (sd rfl))))
def ZI(z:Z):Prop:=∃ n b,z=some (n,b)∧0≤n∧(b=false→n < 2147483647)
theorem i42{T:List Df}{k f ps ns:Nat}{b:Sm}{l:List S}{z:Z}{Q:S→Z→Prop}{E:Nat→Z→Prop}(hz:ZI z)(h:T[f]?=some (.code ps ns b))(hl:l.length=ps)(hn:ps≤ns)(q:WS (b11 T (k + 2)) false b (start ns (l.map plS)) z (λo z1=>match o with
  |.nx _=>Q (.d .non) z1
  |.rt s=>Q s z1) E):W (b10 T (k + 3) f l) z Q E:=by
 obtain⟨n,c,rfl,_⟩:=hz
 refine g00 h hl hn (q.mono (λo z1 h=>?_) λ_ _ h=>h)
 cases o <;> exact h
theorem C81{a:Int}{n:Nat}(h:a.natAbs < n)(hn:n≤2 ^ 64:=by decide):a.natAbs < I30:=Nat.lt_of_lt_of_le h (Nat.le_trans hn (by decide))
theorem C91{i j:Int}(hi:i.natAbs < 2 ^ 64)(hj:j.natAbs < 2 ^ 64):E00 .mul (.int i) (.int j)=some (.d (.int (i * j))):=by
 show(if i.natAbs < I30∧j.natAbs < I30 then some (S.d (.int (i * j))) else none)=_
 rw[if_pos ⟨C81 hi,C81 hj⟩]
theorem I72{i j:Int}(hj:0 < j)(hb:j.natAbs < 2 ^ 64):E00 .fdiv (.int i) (.int j)=some (.d (.int (i / j))):=by
 show(if 0 < j∧j.natAbs < I30 then some (S.d (.int (i / j))) else none)=_
 rw[if_pos ⟨hj,C81 hb⟩]
def Drawn(m:Int)(s:S)(z1:Z):Prop:=ZI z1∧∃ r:Nat,s=.d (.int r)∧(r:Int) < m
theorem h50(k:Nat)(m:Int)(hz:ZI z)(m0:0 < m)(m1:m < 2 ^ 32):W (b10 T (k + 3) b20 [.z,.d (.int m)]) z (Drawn m) NE:=by
 have fin:∀ (a:Int) (z1:Z),ZI z1→Drawn m (.d (.int (a % m))) z1:=λa z1 h=>by
  have h0:=emod_nonneg a (show m≠0 by omega)
  exact⟨h,(a % m).toNat,by rw[toNat_of_nonneg h0],by rw[toNat_of_nonneg h0];exact emod_lt_of_pos _ m0⟩
 refine i42 hz (ps:=2) (ns:=4) (b:=u60) rfl rfl (by decide) ?_
 obtain⟨n,b,rfl,n0,n1⟩:=hz
 cases b with
 |true =>
  refine(a00 (O01 (i:=n) m0) ?_ :)
  refine(a00 (I72 (i:=n) m0 (by omega)) ?_ :)
  exact fin n _ ⟨n / m,true,rfl,Int.ediv_nonneg n0 (by omega),λh=>nomatch h⟩
 |false =>
  have n1:=n1 rfl
  have e1:∀ a:Int,0≤a % 2147483647∧a % 2147483647 < 2147483647:=λa=>⟨emod_nonneg _ (by decide),emod_lt_of_pos _ (by decide)⟩
  have e2:∀ a:Int,0≤a % 2147483629∧a % 2147483629 < 2147483629:=λa=>⟨emod_nonneg _ (by decide),emod_lt_of_pos _ (by decide)⟩
  have s1:∀ a:Int,(a % 2147483647).natAbs < 2 ^ 64:=λa=>by have:=e1 a;omega
  have s2:∀ a:Int,(a % 2147483629).natAbs < 2 ^ 64:=λa=>by have:=e2 a;omega
  refine(a00 (C91 (i:=n) (j:=48271) (by omega) (by decide)) ?_ :)
  have a1:=e1 (n * 48271 + 29)
  refine(a00 (C91 (s1 (n * 48271 + 29)) (s1 (n * 48271 + 29))) ?_ :)
  refine(a00 (C91 (i:=39373) (by decide) (s1 (n * 48271 + 29))) ?_ :)
  refine(a00 (C91 (s2 _) (s2 _)) ?_ :)
  refine(a00 (C91 (i:=16807) (by decide) (s2 _)) ?_ :)
  refine(a00 (O01 m0) ?_ :)
  exact fin _ _ ⟨_,false,rfl,a1.1,λ_=>a1.2⟩
theorem p21(k:Nat)(ns:List Int)(j:Nat)(z:Z):∃ c:Int,b10 T (k + 3) s70 [.d (.lst (ns.map D.int)),.d (.int j)] z=some (.ok (.d (.int c)) z):=by
 by_cases h:j < ns.length
 ·refine⟨ns[j],W.ok (g00 (ps:=2) (ns:=2) (b:=g50) rfl rfl (by decide) (it (b:=decide ((j:Int) < ((ns.map D.int).length:Int))) (by simp[h]) ?_))⟩
  refine(a00 (o:=T30 (.lst (ns.map D.int)) (.int j)) (L2.Z70 (v:=.int ns[j]) (by simp[h])) ?_ :)
  exact sd rfl
 ·exact⟨0,W.ok (g00 (ps:=2) (ns:=2) (b:=g50) rfl rfl (by decide) (ie (b:=decide ((j:Int) < ((ns.map D.int).length:Int))) (by simp;omega) (sd rfl)))⟩
theorem O11(k:Nat)(ns:List Int)(j:Nat)(z:Z):∃ (n:Int) (b:Bool),ZI (some (n,b))∧b10 T (k + 4) z60 [.d (.lst (ns.map D.int)),.d (.int j)] z=some (.ok (.fr [.int n,.bl b]) z):=by
 obtain⟨c,hc⟩:=p21 k ns j z
 by_cases h:(10 ^ 18:Int)≤c
 ·exact⟨c - 10 ^ 18,true,⟨_,_,rfl,by omega,λh=>nomatch h⟩,W.ok (g00 (ps:=2) (ns:=3) (b:=j50) rfl rfl (by decide) (Wo hc (it (b:=decide ((10 ^ 18:Int)≤c)) (decide_eq_true h) (sd rfl))))⟩
 ·refine⟨c % 2147483647,false,⟨_,_,rfl,emod_nonneg _ (by decide),λ_=>emod_lt_of_pos _ (by decide)⟩,W.ok (g00 (ps:=2) (ns:=3) (b:=j50) rfl rfl (by decide) (Wo hc (ie (b:=decide ((10 ^ 18:Int)≤c)) (decide_eq_false h) (sd rfl))))⟩
theorem N90(h0:0≤m)(h1:m < 100000):itD .rng1 [.int m]=some ((range m.toNat).map λ(i:Nat)=>D.int i):=by
 show(if inR m=true then _ else none)=_
 rw[if_pos (E10.mpr ⟨by omega,h1⟩)]
theorem ne_nil(h:okD (.lst l)=true):A60 .ne (.lst l) (.lst [])=some (!l.isEmpty):=by
 show(eqO (.lst l) (.lst [])).map (!·)=_
 unfold eqO
 rw[h]
 cases l <;> rfl
theorem e41:∀ l:List Int,g90 (l.map D.int)=true∧j90 (l.map D.int)=0
 |[]=>⟨rfl,rfl⟩
 |x::r=>by
  obtain⟨h1,h2⟩:=e41 r
  refine⟨h1,?_⟩
  show Nat.max 0 (j90 (r.map D.int))=0
  rw[h2];rfl
theorem D01(l:List Int):okD (.lst (l.map D.int))=true:=by
 obtain⟨h1,h2⟩:=e41 l
 show(g90 (l.map D.int)&&decide (j90 (l.map D.int) + 1≤40))=true
 rw[h1,h2];rfl
theorem k81(n:Nat):(range n).map (λ(i:Nat)=>D.int i)=((range n).map λ(i:Nat)=>(i:Int)).map D.int:=by
 rw[List.map_map];rfl
theorem z80(f:α→β):∀ (l:List α) (i:Nat),(l.map f).eraseIdx i=(l.eraseIdx i).map f
 |[],_=>rfl
 |x::r,0=>rfl
 |x::r,i + 1=>congrArg (f x::·) (z80 f r i)
theorem l20:∀ (l:List α) (j:Nat) (h:j < l.length),(l[j]::l.eraseIdx j).Perm l
 |x::r,0,_=>.refl _
 |x::r,j + 1,h=>(List.Perm.swap _ _ _).trans ((l20 r j (Nat.lt_of_succ_lt_succ h)).cons x)
theorem y50{l:List Int}{j:Nat}(h:j < l.length):(l.map D.int)[j]?=some (.int l[j]):=by rw[List.getElem?_map,List.getElem?_eq_getElem h];rfl
theorem e51{j:Nat}(h:l[j]?=some x):T30 (.lst l) (.int j)=some x:=L2.Z70 h
theorem O00{j:Nat}(h:l[j]?=some x):T30 (.tup l) (.int j)=some x:=L2.Z70 h
theorem e82(k:Nat){m:Int}{z:Z}(hz:ZI z)(m0:1≤m)(m1:m≤100):W (b10 T (k + 4) z70 [.z,.d (.int m)]) z (λs z1=>ZI z1∧∃ l:List Int,s=.d (.tup (l.map D.int))∧(l.length:Int)=m∧(∀ x∈l,0≤x∧x < m)∧l.Nodup) NE:=by
 refine i42 hz (ps:=2) (ns:=4) (b:=q10) rfl rfl (by decide) ?_
 refine(a00 (o:=lrD [.int m]) (N90 (by omega) (by omega)) ?_ :)
 refine e72 (λn ρ z1=>ZI z1∧∃ left found:List Int,ρ=[some .z,some (.d (.int m)),some (.fr (left.map D.int)),some (.fr (found.map D.int))]∧n=left.length∧(left++found).Nodup∧(∀ x∈left++found,0≤x∧x < m)∧((left.length + found.length:Nat):Int)=m) m.toNat ?_ (by show m.toNat < 20000;omega) ?_
 ·refine⟨hz,(range m.toNat).map λ(i:Nat)=>(i:Int),[],?_,by simp,?_,?_,by simp;omega⟩
  ·rw[← k81];rfl
  ·rw[append_nil]
   exact List.pairwise_map.mpr (List.nodup_range.imp λh e=>h (Int.ofNat_inj.mp e))
  ·intro x hx
   rw[append_nil] at hx
   obtain⟨i,hi,rfl⟩:=List.mem_map.mp hx
   have:=List.mem_range.mp hi
   omega
 ·rintro n ρ z1 ⟨hz1,left,found,rfl,rfl,nd,hm,hl⟩
  refine(a00 (ne_nil (D01 left)) ?_ :)
  cases left with
  |nil=>exact⟨hz1,found,rfl,by simpa using hl,λx hx=>hm x (by simpa using hx),by simpa using nd⟩
  |cons x r =>
   have hl2:((r.length + 1 + found.length:Nat):Int)=m:=by simpa using hl
   refine(h50 k (((x::r).map D.int).length:Int) hz1 (by simp only[length_map,length_cons];omega) (by simp only[length_map,length_cons];omega)).imp λs z2 ⟨hz2,j,e,v1⟩=>?_
   subst e
   have hj:j < (x::r).length:=by simp only[length_map] at v1;omega
   have hget:((x::r).map D.int)[j]?=some (.int ((x::r)[j])):=y50 hj
   have ha:w31 [some .z,some (.d (.int m)),some (.fr ((x::r).map D.int)),some (.fr (found.map D.int))] 3 2 (found.map D.int) ((x::r).map D.int) j=some (.nx [some .z,some (.d (.int m)),some (.fr (((x::r).map D.int).eraseIdx j)),some (.fr (found.map D.int++[.int ((x::r)[j])]))]):=by
    unfold w31
    rw[if_pos ⟨by decide,by omega,E10.mpr (by simp only[length_cons] at hj;omega),by rw[length_map];simp only[most];omega⟩,toNat_natCast,hget]
    rfl
   refine a00 (o:=(pl [S.d (.int j)]).bind asI) (a:=(j:Int)) rfl (a00 ha ?_)
   refine⟨((x::r).eraseIdx j).length,?_,hz2,(x::r).eraseIdx j,found++[(x::r)[j]],?_,rfl,?_,?_,?_⟩
   ·rw[length_eraseIdx_of_lt hj];simp
   ·rw[z80,List.map_append];rfl
   ·have hp:(((x::r).eraseIdx j)++(found++[(x::r)[j]])).Perm ((x::r)++found):=by
     have h1:((x::r)[j]::(x::r).eraseIdx j).Perm (x::r):=l20 _ _ hj
     have h2:(((x::r).eraseIdx j)++(found++[(x::r)[j]])).Perm ((x::r)[j]::((x::r).eraseIdx j++found)):=by
      rw[← append_assoc]
      exact List.perm_append_singleton _ _
     exact h2.trans (h1.append_right found)
    exact hp.nodup_iff.mpr nd
   ·intro y hy
    refine hm y ?_
    simp only[mem_append,mem_singleton] at hy ⊢
    rcases hy with hy | hy | hy
    ·exact .inl (List.mem_of_mem_eraseIdx hy)
    ·exact .inr hy
    ·exact .inl (by rw[hy];exact getElem_mem hj)
   ·rw[length_eraseIdx_of_lt hj,length_append]
    simp only[length_cons,length_nil] at hl ⊢
    omega
def pr(p:Int × Int):D:=.tup [.int p.1,.int p.2]
def ky(p:Int × Int):List Int:=[p.1,p.2]
theorem I82(a b c d:Int):MySort.g60 [a,b] [c,d]=if a=c then(if b=d then false else decide (b < d)) else decide (a < c):=rfl
def Ch:List (Int × Int)→Prop
 |a::b::r=>HT.leB (ky a) (ky b)=true∧Ch (b::r)
 |_=>True
theorem k91(h:MySort.g60 (ky p) (ky q)=true):HT.leB (ky p) (ky q)=true:=by
 unfold HT.leB
 unfold ky at h ⊢
 rw[I82] at h ⊢
 by_cases h1:p.1=q.1
 ·rw[if_pos h1] at h
  rw[if_pos h1.symm]
  by_cases h2:p.2=q.2
  ·rw[if_pos h2] at h;cases h
  ·rw[if_neg h2] at h
   rw[if_neg (Ne.symm h2)]
   simp only[decide_eq_true_eq] at h
   simp;omega
 ·rw[if_neg h1] at h
  rw[if_neg (Ne.symm h1)]
  simp only[decide_eq_true_eq] at h
  simp;omega
def G51(k:Int × Int):List (Int × Int)→List (Int × Int)
 |[]=>[k]
 |y::r=>if MySort.g60 (ky y) (ky k) then y::G51 k r else k::y::r
def D11:List (Int × Int)→List (Int × Int)
 |[]=>[]
 |k::r=>G51 k (D11 r)
theorem W40(k:Int × Int):∀ l,(G51 k l).Perm (k::l)
 |[]=>.refl _
 |y::r=>by
  unfold G51
  split
  ·exact((W40 k r).cons y).trans (.swap _ _ _)
  ·exact .refl _
theorem J40:∀ l,(D11 l).Perm l
 |[]=>.refl _
 |k::r=>(W40 k _).trans ((J40 r).cons k)
theorem D21(k:Int × Int):∀ l,Ch l→Ch (G51 k l)
 |[],_=>trivial
 |[y],_=>by
  unfold G51
  split
  ·rename_i h;exact⟨k91 h,trivial⟩
  ·rename_i h
   refine⟨?_,trivial⟩
   unfold HT.leB
   simpa using h
 |y::x::r,h=>by
  obtain⟨h1,h2⟩:=h
  have ih:=D21 k (x::r) h2
  unfold G51
  split
  ·rename_i hy
   unfold G51 at ih ⊢
   split at ih
   ·rename_i hx
    rw[if_pos hx]
    exact⟨h1,ih⟩
   ·rename_i hx
    rw[if_neg hx]
    exact⟨k91 hy,ih⟩
  ·rename_i hy
   refine⟨?_,h1,h2⟩
   unfold HT.leB
   simpa using hy
theorem l01:∀ l,Ch (D11 l)
 |[]=>trivial
 |k::r=>D21 k _ (l01 r)
theorem l11(k:Int × Int):∀ l:List (Int × Int),q51 (pr k) (l.map pr)=(G51 k l).map pr
 |[]=>rfl
 |y::r=>by
  unfold G51
  show(if MySort.g60 (ky y) (ky k) then pr y::q51 (pr k) (r.map pr) else pr k::pr y::r.map pr)=_
  split
  ·rw[l11 k r];rfl
  ·rfl
theorem W50:∀ l:List (Int × Int),A70 (l.map pr)=(D11 l).map pr
 |[]=>rfl
 |k::r=>by
  show q51 (pr k) (A70 (r.map pr))=_
  rw[W50 r,l11];rfl
theorem v82(p q:Int × Int):ltD (pr p) (pr q)=some (MySort.g60 (ky p) (ky q)):=by
 show(if (p.1 == q.1)=true then(if (p.2 == q.2)=true then some false else some (decide (p.2 < q.2))) else some (decide (p.1 < q.1)))=some (if p.1=q.1 then(if p.2=q.2 then false else decide (p.2 < q.2)) else decide (p.1 < q.1))
 simp only[beq_iff_eq]
 split
 ·split <;> rfl
 ·rfl
theorem e92(p q:Int × Int):l30 (pr p) (pr q)=true:=by
 unfold l30
 rw[v82]
 show(true&&((some (MySort.g60 (ky p) (ky q)) == some (MySort.g60 (ky p) (ky q)))&&(((p.1 == q.1)&&((p.2 == q.2)&&true)) || !([p.1,p.2] == [q.1,q.2]))))=true
 rw[beq_self_eq_true,Bool.true_and,Bool.true_and,Bool.and_true]
 by_cases h1:p.1=q.1 <;> by_cases h2:p.2=q.2 <;> simp[h1,h2]
theorem D31(l:List (Int × Int)):s40 (l.map pr)=true:=by
 refine List.all_eq_true.mpr λx hx=>?_
 obtain⟨p,_,rfl⟩:=List.mem_map.mp hx
 show(true&&(true&&(l.map pr).all (l30 (pr p))))=true
 refine List.all_eq_true.mpr λy hy=>?_
 obtain⟨q,_,rfl⟩:=List.mem_map.mp hy
 exact e92 p q
theorem D41(h:l.length < 64):bfD .sorted [.lst (l.map pr)]=some (.fr ((D11 l).map pr)):=by
 show(if (l.map pr).length < 64∧s40 (l.map pr)=true then some (S.fr (A70 (l.map pr))) else(C62 (l.map pr)).map S.fr)=_
 rw[if_pos ⟨by rw[length_map];exact h,D31 l⟩,W50]
theorem l21:∀ {l:List (Int × Int)},Ch l→W00 (l.map pr)=true
 |[],_=>rfl
 |[_],_=>rfl
 |a::b::r,h=>by
  have ih:=l21 h.2
  show((B20 (pr a::pr b::r.map pr) (pr b::r.map pr)).all leD)=true
  have e:B20 (pr a::pr b::r.map pr) (pr b::r.map pr)=.tup [pr a,pr b]::B20 (pr b::r.map pr) (r.map pr):=rfl
  rw[e,all_cons,and_eq_true]
  exact⟨h.1,ih⟩
theorem C10:∀ l:List (Int × Int),t50 (l.map pr)=true
 |[]=>rfl
 |_::r=>by
  show(bare _&&t50 (r.map pr))=true
  rw[C10 r];rfl
theorem v92:∀ l:List (Int × Int),g90 (l.map pr)=true∧j90 (l.map pr)≤1
 |[]=>⟨rfl,by decide⟩
 |p::r=>by
  obtain⟨h1,h2⟩:=v92 r
  refine⟨?_,?_⟩
  ·show(x40 (pr p)&&g90 (r.map pr))=true
   rw[h1];rfl
  ·show Nat.max (deep (pr p)) (j90 (r.map pr))≤1
   have:deep (pr p)=1:=rfl
   rw[this]
   exact Nat.max_le.mpr ⟨Nat.le_refl _,h2⟩
theorem D51(l:List (Int × Int)):okD (.lst (l.map pr))=true:=by
 obtain⟨h1,h2⟩:=v92 l
 unfold okD
 rw[and_eq_true,decide_eq_true_eq]
 refine⟨h1,?_⟩
 show j90 (l.map pr) + 1≤40
 omega
theorem f02(l:List (Int × Int)):okD (.tup (l.map pr))=true:=D51 l
def x00(m:Int)(ps:List (Int × Int)):D:=.tup [.int m,.tup (ps.map pr)]
structure c10(m:Int)(ps:List (Int × Int)):Prop where
 m1:1≤m
 m6:m≤6
 len:ps.length≤8
 tie:∀ p∈ps,0≤p.1∧p.1 < p.2∧p.2 < m
 ch:Ch ps
theorem c10.web(g:c10 m ps):N91 (x00 m ps)=true:=by
 unfold x00 N91 I62 W10
 simp only[and_eq_true,decide_eq_true_eq,all_eq_true,length_map]
 refine⟨g.m1,g.m6,g.len,λt ht=>?_,l21 g.ch⟩
 obtain⟨p,hp,rfl⟩:=List.mem_map.mp ht
 obtain⟨h1,h2,h3⟩:=g.tie p hp
 unfold pr C41 d00
 simp only[and_eq_true,decide_eq_true_eq]
 omega
def OkP(m:Int)(p:Int × Int):Prop:=0≤p.1∧p.1 < m∧0≤p.2∧p.2 < m∧p.1≠p.2
theorem w02(h1:0≤i)(hi:i < 100)(h0:-100 < m)(h:m < 100000):itD .rng2 [.int i,.int m]=some ((range (m - i).toNat).map λ(k:Nat)=>D.int (i + k)):=by
 show(if inR i=true∧inR m=true then _ else none)=_
 rw[if_pos ⟨E10.mpr (by omega),E10.mpr (by omega)⟩]
theorem e61{L:List D}{n:Nat}(f:D→Bool)(h:n < L.length)(ha:L.all f=true):∃ x,L[n]?=some x∧f x=true :=
 ⟨L[n],List.getElem?_eq_getElem h,List.all_eq_true.mp ha _ (getElem_mem h)⟩
def btw(a b:Int):D→Bool
 |.int i=>decide (a≤i)&&decide (i≤b)
 |_=>false
theorem D61(h:btw a b x=true):∃ i,x=.int i∧a≤i∧i≤b:=by
 cases x with
 |int i =>
  unfold btw at h
  rw[and_eq_true,decide_eq_true_eq,decide_eq_true_eq] at h
  exact⟨i,rfl,h⟩
 |_=>cases h
theorem W60(h1:a≤i)(h2:i≤b):btw a b (.int i)=true:=by
 show(decide (a≤i)&&decide (i≤b))=true
 rw[decide_eq_true h1,decide_eq_true h2];rfl
theorem T41{l:List Int}(nd:l.Nodup){i j:Nat}(hi:i < l.length)(hj:j < l.length)(h:i≠j):l[i]≠l[j]:=λe=>h ((List.getElem_inj nd).mp e)
theorem D71(l:List D)(h:0≤n):cutD l none (some n)=l.take n.toNat:=by
 obtain⟨k,rfl⟩:=eq_ofNat_of_zero_le h
 have h1:HT.sIx l.length l.length (some (k:Int))=min k l.length:=HT.r91 _ _ k
 unfold cutD
 rw[h1]
 show(l.drop 0).take (min k l.length - 0)=_
 rw[List.drop_zero,Nat.sub_zero,toNat_natCast]
 rcases Nat.le_total k l.length with h | h
 ·rw[Nat.min_eq_left h]
 ·rw[Nat.min_eq_right h,List.take_length,take_of_length_le h]
theorem O10(h:∀ p∈ps,OkP m p)(hp:OkP m p):∀ q∈ps++[p],OkP m q:=λq hq=>by
 rcases List.mem_append.mp hq with hq | hq
 ·exact h q hq
 ·rw[List.mem_singleton.mp hq];exact hp
theorem f12{α:Type}{l:List α}{a:α}:(l++[a]).length=l.length + 1:=by rw[length_append];rfl
theorem T51(a b:Int):(if b < a then b else a)=min a b∧(if b > a then b else a)=max a b:=by
 constructor <;> (split <;> omega)
abbrev f22(mo m:Int)(l:List Int)(wn:Nat)(ps:List (Int × Int))(o6 o7 o8 o9:Option S):Env:=[some .z,some (.d (.int mo)),some (.d (.int m)),some (.d (.tup (l.map D.int))),some (.d (.int wn)),some (.fr (ps.map pr)),o6,o7,o8,o9]
theorem l31:f22 mo m l wn (ps++[p]) o6 o7 o8 o9=[some .z,some (.d (.int mo)),some (.d (.int m)),some (.d (.tup (l.map D.int))),some (.d (.int wn)),some (.fr (ps.map pr++[pr p])),o6,o7,o8,o9]:=by rw[f22,List.map_append];rfl
theorem D81(k:Nat){mo:Int}{z:Z}(hz:ZI z)(h0:0≤mo)(h8:mo≤8):W (b10 T (k + 5) J10 [.z,.d (.int mo)]) z (λs z1=>ZI z1∧∃ m ps,s=.d (x00 m ps)∧c10 m ps∧(ps.length:Int)≤mo) NE:=by
 refine i42 hz (ps:=2) (ns:=10) (b:=y40) rfl rfl (by decide) ?_
 refine(h50 (k + 1) 8 hz (by decide) (by decide)).imp λs z1 ⟨hz1,n,e,hn⟩=>?_
 subst e
 obtain⟨x,ex,hx⟩:=e61 (L:=[D.int 5,.int 4,.int 6,.int 3,.int 4,.int 2,.int 6,.int 1]) (n:=n) (btw 1 6) (by simp only[length_cons,length_nil];omega) (by decide)
 obtain⟨m,rfl,m1,m6⟩:=D61 hx
 refine(a00 (e51 ex) ?_ :)
 refine(e82 k hz1 m1 (by omega)).imp λs z2 ⟨hz2,l,e,ll,lm,nd⟩=>?_
 subst e
 refine(h50 (k + 1) 6 hz2 (by decide) (by decide)).imp λs z3 ⟨hz3,wn,e,hw⟩=>?_
 subst e
 refine(a00 (w02 (i:=1) (m:=m) (by decide) (by decide) (by omega) (by omega)) ?_ :)
 have hll:1≤l.length:=by omega
 refine d51 (λxs ρ z=>ZI z∧(∀ x∈xs,∃ a:Nat,x=.int a∧1≤a∧(a:Int) < m)∧∃ (ps:List (Int × Int)) (o6:Option S),ρ=f22 mo m l wn ps o6 none none none∧(∀ p∈ps,OkP m p)∧ps.length + xs.length≤6) _ ⟨hz3,λx hx=>?_,[],none,rfl,(λp hp=>nomatch hp),by simp;omega⟩ ?_ ?_
 ·obtain⟨i,hi,rfl⟩:=List.mem_map.mp hx
  have:=List.mem_range.mp hi
  exact⟨1 + i,by rw[Int.natCast_add];rfl,by omega,by omega⟩
 ·rintro x r ρ z4 ⟨hz4,hx,ps,o6,rfl,hp,hl⟩
  obtain⟨an,rfl,a1,a2⟩:=hx x mem_cons_self
  obtain⟨y,ey,hy⟩:=e61 (L:=[D.int (an - 1),.int (an - 1),.int 0,.int ((an:Int) / 2),.int (an - 1),.int 0]) (n:=wn) (btw 0 (an - 1)) (by simp only[length_cons,length_nil];omega) (by
   simp only[all_cons,all_nil,Bool.and_true,and_eq_true]
   refine⟨W60 ?_ ?_,W60 ?_ ?_,W60 ?_ ?_,W60 ?_ ?_,W60 ?_ ?_,W60 ?_ ?_⟩ <;> omega)
  obtain⟨v,rfl,v0,v1⟩:=D61 hy
  obtain⟨v,rfl⟩:=eq_ofNat_of_zero_le v0
  have ha:an < l.length:=by omega
  have hvl:v < l.length:=by omega
  refine(a00 (O00 (y50 ha)) ?_ :)
  refine(a00 (e51 ey) ?_ :)
  refine(a00 (O00 (y50 hvl)) ?_ :)
  refine ip ⟨rfl,by rw[length_map];simp only[most,length_cons] at hl ⊢;omega⟩ ?_
  have h1:=lm _ (getElem_mem ha)
  have h2:=lm _ (getElem_mem hvl)
  exact⟨hz4,λx hx'=>hx x (mem_cons_of_mem _ hx'),ps++[(l[an],l[v])],_,(l31 (p:=(l[an],l[v]))).symm,O10 hp ⟨h1.1,h1.2,h2.1,h2.2,T41 nd ha hvl (by omega)⟩,by rw[f12];simp only[length_cons] at hl;omega⟩
 ·rintro ρ z4 ⟨hz4,_,ps,o6,rfl,hp,hl⟩
  have hl':ps.length≤6:=hl
  refine e62 (λρ z5=>z5=z4∧∃ ps:List (Int × Int),ρ=f22 mo m l wn ps o6 none none none∧(∀ p∈ps,OkP m p)∧ps.length≤7) ?_ ?_
  ·refine ib (b:=(wn:Int) == 0) (λh1=>ib (b:=decide (2 < m)) (λh2=>?_) λh2=>⟨rfl,ps,rfl,hp,by omega⟩) λh1=>⟨rfl,ps,rfl,hp,by omega⟩
   rw[decide_eq_true_eq] at h2
   have i2:m.toNat - 1 < l.length:=by omega
   have e2:m - 1=((m.toNat - 1:Nat):Int):=by omega
   refine(a00 (O00 (j:=0) (y50 hll)) ?_ :)
   refine(a00 (o:=T30 (.tup (l.map D.int)) (.int (m - 1))) (a:=.int l[m.toNat - 1]) (by rw[e2];exact O00 (y50 i2)) ?_ :)
   refine ip ⟨rfl,by rw[length_map];simp only[most];omega⟩ ?_
   have h3:=lm _ (getElem_mem hll)
   have h4:=lm _ (getElem_mem i2)
   exact⟨rfl,ps++[(l[0],l[m.toNat - 1])],(l31 (p:=(l[0],l[m.toNat - 1]))).symm,O10 hp ⟨h3.1,h3.2,h4.1,h4.2,T41 nd hll i2 (by omega)⟩,by rw[f12];omega⟩
  ·rintro ρ z5 ⟨rfl,ps,rfl,hp,hl⟩
   refine e62 (λρ z6=>z6=z5∧∃ (ps:List (Int × Int)) (o6:Option S),ρ=f22 mo m l wn ps o6 none none none∧(∀ p∈ps,OkP m p)∧ps.length≤7) ?_ ?_
   ·refine ib (b:=(wn:Int) == 4) (λh1=>⟨rfl,ps.drop 1,H20 (T50 (.fr (cutD (ps.map pr) (some 1) none))) o6,?_,λp hp'=>hp p (List.mem_of_mem_drop hp'),by rw[length_drop];omega⟩) λh1=>⟨rfl,ps,o6,rfl,hp,hl⟩
    have e:(ps.drop 1).map pr=cutD (ps.map pr) (some 1) none:=by rw[List.map_drop];exact(w80 _ 1).symm
    exact Eq.symm (congrArg (λx=>[some S.z,some (.d (.int mo)),some (.d (.int m)),some (.d (.tup (l.map D.int))),some (.d (.int wn)),some (.fr x),H20 (T50 (.fr (cutD (ps.map pr) (some 1) none))) o6,none,none,none]) e)
   ·rintro ρ z6 ⟨rfl,ps,o6,rfl,hp,hl⟩
    refine(h50 (k + 1) 5 hz4 (by decide) (by decide)).imp λs z5 ⟨hz5,t,e,ht⟩=>?_
    subst e
    refine(a00 (N90 (m:=t) (by omega) (by omega)) ?_ :)
    refine d51 (λxs ρ z=>ZI z∧∃ (ps:List (Int × Int)) (o6 o7 o8 o9:Option S),ρ=f22 mo m l wn ps o6 o7 o8 o9∧(∀ p∈ps,OkP m p)∧ps.length + xs.length≤11) _ ⟨hz5,ps,_,_,_,_,rfl,hp,by simp;omega⟩ ?_ ?_
    ·rintro x r ρ z2 ⟨hz2,ps,o6,o7,o8,o9,rfl,hp,hl⟩
     refine(h50 (k + 1) m hz2 (by omega) (by omega)).imp λs z3 ⟨hz3,a,e,a1⟩=>?_
     subst e
     refine(h50 (k + 1) m hz3 (by omega) (by omega)).imp λs z4 ⟨hz4,b,e,b1⟩=>?_
     subst e
     refine ib (b:=!((a:Int) == (b:Int))) (λhab=>?_) λhab=>⟨hz4,ps,_,_,_,_,rfl,hp,by simp only[length_cons] at hl;omega⟩
     refine ip ⟨rfl,by rw[length_map];simp only[most,length_cons] at hl ⊢;omega⟩ ?_
     exact⟨hz4,ps++[((a:Int),(b:Int))],_,_,_,_,(l31 (p:=((a:Int),(b:Int)))).symm,O10 hp ⟨by omega,a1,by omega,b1,by simpa using hab⟩,by rw[f12];simp only[length_cons] at hl;omega⟩
    ·rintro ρ z2 ⟨hz2,ps,o6,o7,o8,o9,rfl,hp,hl⟩
     refine e62 (λρ z3=>ZI z3∧∃ ps:List (Int × Int),ρ=f22 mo m l wn ps o6 o7 o8 o9∧(∀ p∈ps,OkP m p)∧ps.length≤12) ?_ ?_
     ·have hl:ps.length≤11:=hl
      refine(a00 (ne_nil (D51 ps)) ?_ :)
      cases ps with
      |nil=>exact⟨hz2,[],rfl,hp,by simp⟩
      |cons p r =>
       refine(h50 (k + 1) 3 hz2 (by decide) (by decide)).imp λs z3 ⟨hz3,a,e,a1⟩=>?_
       subst e
       refine ib (b:=(a:Int) == 0) (λha=>?_) λha=>⟨hz3,p::r,rfl,hp,by omega⟩
       have hll:(((p::r).map pr).length:Int)=((p::r).length:Nat):=by rw[length_map]
       refine(h50 (k + 1) (((p::r).map pr).length:Int) hz3 (by rw[hll];simp only[length_cons];omega) (by rw[hll];omega)).imp λs z4 ⟨hz4,j,e,b1⟩=>?_
       subst e
       have hj:j < (p::r).length:=by rw[hll] at b1;omega
       refine(a00 (e51 (l:=(p::r).map pr) (x:=pr (p::r)[j]) (by rw[List.getElem?_map,List.getElem?_eq_getElem hj];rfl)) ?_ :)
       refine ip ⟨rfl,by rw[length_map];simp only[most];omega⟩ ?_
       exact⟨hz4,(p::r)++[(p::r)[j]],(l31 (p:=(p::r)[j])).symm,O10 hp (hp _ (getElem_mem hj)),by rw[f12];omega⟩
     ·rintro ρ z3 ⟨hz3,ps,rfl,hp,hl⟩
      have e1:cutD (ps.map pr) none (some mo)=(ps.take mo.toNat).map pr:=by rw[D71 _ h0,List.map_take]
      have mm:(cutD (ps.map pr) none (some mo)).map (λx=>match x with | .tup [.int a,.int b]=>pr (min a b,max a b) | x=>x)=((ps.take mo.toNat).map λp=>(min p.1 p.2,max p.1 p.2)).map pr:=by
       rw[e1,List.map_map,List.map_map];rfl
      refine ip (c:=(cutD (ps.map pr) none (some mo)).length≤most) (by rw[e1,length_map,length_take];simp only[most];omega) (d61 (λx=>match x with | .tup [.int a,.int b]=>pr (min a b,max a b) | x=>x) (λd hd=>?_) ?_)
      ·rw[e1] at hd
       obtain⟨p,hp',rfl⟩:=List.mem_map.mp hd
       exact⟨by show D.tup [.int _,.int _]=pr (min p.1 p.2,max p.1 p.2);rw[(T51 p.1 p.2).1,(T51 p.1 p.2).2];rfl,rfl⟩
      ·rw[mm]
       refine(a00 (D41 (l:=(ps.take mo.toNat).map λp=>(min p.1 p.2,max p.1 p.2)) (by rw[length_map,length_take];omega)) ?_ :)
       have hperm:=J40 ((ps.take mo.toNat).map λp=>(min p.1 p.2,max p.1 p.2))
       have hlen:=hperm.length_eq
       rw[length_map,length_take] at hlen
       refine⟨hz3,m,_,rfl,⟨m1,m6,by omega,λq hq=>?_,l01 _⟩,by omega⟩
       obtain⟨p,hp',rfl⟩:=List.mem_map.mp (hperm.mem_iff.mp hq)
       obtain⟨a0,a1,b0,b1,hab⟩:=hp p (List.mem_of_mem_take hp')
       dsimp only
       omega
theorem O21(hj:0 < j)(hb:big j):E00 .fdiv (.int i) (.int j)=some (.d (.int (i / j))):=by
 show(if 0 < j∧j.natAbs < I30 then some (S.d (.int (i / j))) else none)=_
 rw[if_pos ⟨hj,e31 (by omega) hb⟩]
theorem e71(i0:0≤i)(hi:big i)(j0:0≤j)(hj:big j):E00 .mul (.int i) (.int j)=some (.d (.int (i * j))):=by
 show(if i.natAbs < I30∧j.natAbs < I30 then some (S.d (.int (i * j))) else none)=_
 rw[if_pos ⟨e31 i0 hi,e31 j0 hj⟩]
theorem q20(h:0 < b):0 < ((gcd t b:Nat):Int):=by
 have:=Int.gcd_pos_of_ne_zero_right (a:=t) (b:=b) (by omega)
 omega
theorem O20(h:0 < b)(hb:big b):big (gcd t b:Int):=Int.lt_of_le_of_lt (le_of_dvd h (Int.gcd_dvd_right t b)) hb
def f30(t b:Int):Int × Int:=(t / gcd t b,b / gcd t b)
theorem G20(k:Nat)(t b:Int)(z:Z)(h0:0 < b)(h1:big b):b10 T (k + 4) B90 [.d (.int t),.d (.int b)] z=some (.ok (.d (pr (f30 t b))) z):=by
 refine W.ok (g00 (ps:=2) (ns:=3) (b:=N30) rfl rfl (by decide) (Wo (l80 k t b z h0 h1) ?_))
 refine(a00 (O21 (i:=t) (q20 (t:=t) h0) (O20 h0 h1)) ?_ :)
 refine(a00 (O21 (i:=b) (q20 (t:=t) h0) (O20 h0 h1)) ?_ :)
 exact sd rfl
theorem y60(k:Nat)(t b:Int)(z:Z)(h0:0 < b)(h1:big b):b10 T (k + 3) g40 [.d (.int t),.d (.int b)] z=some (.ok (.d (pr (f30 t b))) z):=by
 refine W.ok (g00 (ps:=2) (ns:=4) (b:=k70) rfl rfl (by decide) (e72 (λn ρ z1=>z1=z∧∃ c d:Int,ρ=[some (.d (.int t)),some (.d (.int b)),some (.d (.int c)),some (.d (.int d))]∧GT n c d∧gcd c d=gcd t b∧(d=0→0≤c)) (2 * 4000 + 1) ⟨rfl,_,b,rfl,⟨Int.le_of_lt h0,.inl ⟨4000,rfl,h1⟩⟩,?_,λh=>by omega⟩ (by decide) ?_))
 ·show gcd (if t < 0 then -t else t) b=_
  split
  ·rw[Int.neg_gcd]
  ·rfl
 ·rintro n ρ z1 ⟨rfl,c,d,rfl,g,hg,hc⟩
  refine ib (b:=!(d == 0)) (λhd=>?_) λhd=>?_
  ·rw[not_eq_true',beq_eq_false_iff_ne] at hd
   have hd':0 < d:=by have:=g.1;omega
   obtain⟨m,hm,g'⟩:=g.step hd'
   refine(a00 (O01 (i:=c) hd') ?_ :)
   exact⟨m,hm,rfl,d,c % d,rfl,g',(C61 c d).trans hg,λ_=>Int.le_of_lt hd'⟩
  ·rw[not_eq_false',beq_iff_eq] at hd
   subst hd
   rw[Int.gcd_zero_right] at hg
   have e:c=((gcd t b:Nat):Int):=by have:=hc rfl;omega
   subst e
   refine(a00 (O21 (i:=t) (q20 (t:=t) h0) (O20 h0 h1)) ?_ :)
   refine(a00 (O21 (i:=b) (q20 (t:=t) h0) (O20 h0 h1)) ?_ :)
   exact sd rfl
structure Bd(n:Nat)(c:Int × Int):Prop where
 t0:0≤c.1
 tb:c.1≤c.2
 b0:0 < c.2
 bb:c.2≤2 ^ n
theorem G30(h:n≤3999)(hi:i≤2 ^ n):big i:=by
 refine Int.lt_of_le_of_lt hi ?_
 have h2:(2:Nat) ^ n < 2 ^ 4000:=Nat.pow_lt_pow_right (by decide) (by omega)
 have e:((2 ^ n:Nat):Int) < ((2 ^ 4000:Nat):Int):=Int.ofNat_lt.mpr h2
 rwa [natCast_pow,natCast_pow] at e
theorem Bd.t(h:Bd n c)(hn:n≤3999):big c.1:=G30 hn (Int.le_trans h.tb h.bb)
theorem Bd.b(h:Bd n c)(hn:n≤3999):big c.2:=G30 hn h.bb
theorem Bd.mul(hc:Bd n c)(hd:Bd m d):Bd (n + m) (c.1 * d.1,c.2 * d.2):=⟨mul_nonneg hc.t0 hd.t0,mul_le_mul hc.tb hd.tb hd.t0 (Int.le_of_lt hc.b0),mul_pos hc.b0 hd.b0,by
 rw[pow_add]
 exact mul_le_mul hc.bb hd.bb (Int.le_of_lt hd.b0) (Int.le_trans (Int.le_of_lt hc.b0) hc.bb)⟩
theorem l41(k:Nat)(hc:Bd n c)(hd:Bd m d)(hn:n + m≤3999)(z:Z):b10 T (k + 5) d71 [.d (pr c),.d (pr d)] z=some (.ok (.d (pr (f30 (c.1 * d.1) (c.2 * d.2)))) z):=by
 have hm:=hc.mul hd
 refine W.ok (g00 (ps:=2) (ns:=2) (b:=d81) rfl rfl (by decide) ?_)
 refine(a00 (e71 hc.t0 (hc.t (by omega)) hd.t0 (hd.t (by omega))) ?_ :)
 refine(a00 (e71 (Int.le_of_lt hc.b0) (hc.b (by omega)) (Int.le_of_lt hd.b0) (hd.b (by omega))) ?_ :)
 exact Wo (G20 k _ _ z hm.b0 (hm.b (by omega))) (sd rfl)
theorem f32(k:Nat)(hc:Bd n c)(hd:Bd m d)(hn:n + m≤3998)(z:Z):b10 T (k + 5) T21 [.d (pr c),.d (pr d)] z=some (.ok (.d (pr (f30 (c.1 * d.2 + d.1 * c.2) (c.2 * d.2)))) z):=by
 have hm:=hc.mul hd
 refine W.ok (g00 (ps:=2) (ns:=2) (b:=C21) rfl rfl (by decide) ?_)
 refine(a00 (e71 hc.t0 (hc.t (by omega)) (Int.le_of_lt hd.b0) (hd.b (by omega))) ?_ :)
 refine(a00 (e71 hd.t0 (hd.t (by omega)) (Int.le_of_lt hc.b0) (hc.b (by omega))) ?_ :)
 refine(a00 (e71 (Int.le_of_lt hc.b0) (hc.b (by omega)) (Int.le_of_lt hd.b0) (hd.b (by omega))) ?_ :)
 exact Wo (G20 k _ _ z hm.b0 (hm.b (by omega))) (sd rfl)
theorem f42(k:Nat)(c:Int × Int)(z:Z):b10 T (k + 3) T31 [.d (pr c)] z=some (.ok (.d (pr (c.2 - c.1,c.2))) z) :=
 W.ok (g00 (ps:=1) (ns:=1) (b:=C31) rfl rfl (by decide) (sd rfl))
theorem O30(h0:0 < b):t=gcd t b * (f30 t b).1∧b=gcd t b * (f30 t b).2:=by
 constructor
 ·exact(Int.mul_ediv_cancel' (Int.gcd_dvd_left t b)).symm
 ·exact(Int.mul_ediv_cancel' (Int.gcd_dvd_right t b)).symm
theorem e81(h0:0 < b):gcd (f30 t b).1 (f30 t b).2=1:=Int.gcd_ediv_gcd_ediv_gcd_of_ne_zero_right (by omega)
theorem y70(h0:0 < b):0 < (f30 t b).2:=by
 have g0:=q20 (t:=t) h0
 obtain⟨_,e⟩:=O30 (t:=t) h0
 refine Int.pos_of_mul_pos_right (a:=gcd t b) ?_ g0
 omega
theorem D91(h0:0 < b)(h1:0≤t)(h2:t≤b):0≤(f30 t b).1∧(f30 t b).1≤(f30 t b).2∧(f30 t b).2≤b:=by
 have g0:=q20 (t:=t) h0
 have p0:=y70 (t:=t) h0
 obtain⟨e1,e2⟩:=O30 (t:=t) h0
 refine⟨Int.ediv_nonneg h1 (Int.le_of_lt g0),Int.le_of_mul_le_mul_left (a:=gcd t b) (by omega) g0,?_⟩
 have:1 * (f30 t b).2≤(gcd t b:Int) * (f30 t b).2:=Int.mul_le_mul_of_nonneg_right (by omega) (by omega)
 omega
theorem E01(h:gcd a b=1)(hd:b∣a * d):b∣d:=by
 have h1:Nat.Coprime b.natAbs a.natAbs:=by rw[Nat.coprime_comm];exact h
 exact Int.natAbs_dvd_natAbs.mp (h1.dvd_of_dvd_mul_left (by rw[← natAbs_mul];exact Int.natAbs_dvd_natAbs.mpr hd))
theorem J50(hb:0 < b)(hd:0 < d)(h1:gcd a b=1)(h2:gcd c d=1)(h:a * d=c * b):a=c∧b=d:=by
 have k1:b∣d:=E01 h1 ⟨c,by rw[h,Int.mul_comm]⟩
 have k2:d∣b:=E01 h2 ⟨a,by rw[← h,Int.mul_comm]⟩
 have e:b=d:=Int.le_antisymm (le_of_dvd hd k1) (le_of_dvd hb k2)
 subst e
 exact⟨Int.eq_of_mul_eq_mul_right (by omega) h,rfl⟩
def IsC(c:Int × Int):Prop:=1≤c.2∧c.2≤1000∧0≤c.1∧c.1≤c.2∧gcd c.1 c.2=1
theorem IsC.ch(h:IsC c):chD (pr c)=true:=by
 obtain⟨h1,h2,h3,h4,h5⟩:=h
 show chI c.1 c.2=true
 unfold chI
 rw[h5,decide_eq_true h1,decide_eq_true h2,decide_eq_true h3,decide_eq_true h4];rfl
theorem f52(h0:0 < b)(hb:b≤1000)(h1:0≤t)(h2:t≤b):IsC (f30 t b):=by
 obtain⟨y0,yx,xb⟩:=D91 h0 h1 h2
 have:=y70 (t:=t) h0
 exact⟨by omega,by omega,y0,yx,e81 h0⟩
theorem W70(k:Nat)(hz:ZI z):W (b10 T (k + 4) w70 [.z]) z (λs z1=>ZI z1∧∃ c,s=.d (pr c)∧IsC c) NE:=by
 refine i42 hz (ps:=1) (ns:=3) (b:=m90) rfl rfl (by decide) ?_
 refine(h50 k 8 hz (by decide) (by decide)).imp λs z1 ⟨hz1,v,e,v1⟩=>?_
 subst e
 refine ib (b:=decide ((v:Int) < 2)) (λh2=>?_) λh2=>?_
 ·rw[decide_eq_true_eq] at h2
  have:v=0∨v=1:=by omega
  rcases this with rfl | rfl
  ·exact⟨hz1,(0,1),rfl,by decide,by decide,by decide,by decide,by decide⟩
  ·exact⟨hz1,(1,1),rfl,by decide,by decide,by decide,by decide,by decide⟩
 ·rw[decide_eq_false_iff_not] at h2
  refine(h50 k 12 hz1 (by decide) (by decide)).imp λs z2 ⟨hz2,a,e,a1⟩=>?_
  subst e
  refine(h50 k 1000 hz2 (by decide) (by decide)).imp λs z3 ⟨hz3,b,e,b1⟩=>?_
  subst e
  obtain⟨x,ex,hx⟩:=e61 (L:=[D.int 2,.int 3,.int 4,.int (1 + a),.int (1 + b),.int 1000]) (n:=v - 2) (btw 1 1000) (by simp only[length_cons,length_nil];omega) (by
   simp only[all_cons,all_nil,Bool.and_true,and_eq_true]
   refine⟨rfl,rfl,rfl,W60 ?_ ?_,W60 ?_ ?_,rfl⟩ <;> omega)
  obtain⟨u,rfl,u1,u2⟩:=D61 hx
  have e2:(v:Int) - 2=((v - 2:Nat):Int):=by omega
  refine(a00 (o:=T30 (.lst [D.int 2,.int 3,.int 4,.int (1 + a),.int (1 + b),.int 1000]) (.int ((v:Int) - 2))) (a:=.int u) (by rw[e2];exact e51 ex) ?_ :)
  refine(h50 k (u + 1) hz3 (by omega) (by omega)).imp λs z4 ⟨hz4,t,e,t1⟩=>?_
  subst e
  exact Wo (y60 k _ _ _ (by omega) (w90 (by omega))) ⟨hz4,f30 t u,rfl,f52 (by omega) u2 (by omega) (by omega)⟩
theorem W80{P:Int × Int→Prop}:∀ {xs ys:List D},PySem.Paired (λ_ y=>∃ c,y=pr c∧P c) xs ys→∃ cs:List (Int × Int),ys=cs.map pr∧cs.length=xs.length∧∀ c∈cs,P c
 |[],_,h=>by cases h;exact⟨[],rfl,rfl,λc hc=>nomatch hc⟩
 |x::r,_,h=>by
  cases h with
  |cons h1 h2 =>
   obtain⟨c,rfl,hc⟩:=h1
   obtain⟨cs,rfl,hl,ha⟩:=W80 h2
   refine⟨c::cs,rfl,by rw[length_cons,hl];rfl,λd hd=>?_⟩
   rcases List.mem_cons.mp hd with rfl | hd
   ·exact hc
   ·exact ha d hd
theorem O40(k:Nat){m:Int}{ts:List D}{z:Z}(hz:ZI z)(hl:ts.length≤8):W (b10 T (k + 5) s80 [.z,.d (.tup [.int m,.tup ts])]) z (λs z1=>ZI z1∧∃ cs:List (Int × Int),s=.d (.tup (cs.map pr))∧cs.length=ts.length∧∀ c∈cs,IsC c) NE:=by
 refine i42 hz (ps:=2) (ns:=2) (b:=k80) rfl rfl (by decide) (ip (o00 (by omega)) (U42 (I:=ZI) (P:=λ_ y=>∃ c,y=pr c∧IsC c) hz (λx hx z1 hz1=>?_) λys z1 hz1 hp=>?_))
 ·refine(W70 k hz1).imp λs z2 ⟨hz2,c,e,hc⟩=>?_
  subst e
  exact⟨hz2,c,rfl,hc⟩
 ·obtain⟨cs,rfl,hl,ha⟩:=W80 hp
  exact⟨hz1,cs,rfl,hl,ha⟩
theorem T61{cs:List (Int × Int)}{n:Nat}(h:cs.length=n)(ha:∀ c∈cs,IsC c):v72 n (.tup (cs.map pr))=true:=by
 unfold v72
 rw[and_eq_true,beq_iff_eq,length_map,all_eq_true]
 refine⟨h,λd hd=>?_⟩
 obtain⟨c,hc,rfl⟩:=List.mem_map.mp hd
 exact(ha c hc).ch
def ltP:D→Bool
 |.tup [.int a,.int b]=>decide (a < b)
 |_=>false
def E11(l:List D):Bool:=(B20 l (l.drop 1)).all ltP
def L72(m:Int):D→Bool
 |.tup l=>(l.all (λx=>d00 x m)&&E11 l)&&!l.isEmpty
 |_=>false
def short:D→Bool
 |.tup l=>decide (l.length≤1000)
 |_=>true
theorem O31(k:Nat)(h:∀ x∈l,d00 x m=true)(hl:l.length≤1000)(z:Z):b10 T (k + 3) C01 [.d (.tup l)] z=some (.ok (.d (.bl (E11 l))) z):=by
 have e1:cutD l (some 1) none=l.drop 1:=w80 l 1
 refine W.ok (g00 (ps:=1) (ns:=1) (b:=d91) rfl rfl (by decide) (ip (c:=(B20 l (cutD l (some 1) none)).length≤most) (Nat.le_trans (N80 _ _) (o00 hl)) (d61 (λx=>.bl (ltP x)) (λx hx=>?_) (a00 (J30 _ ltP) ?_ :))))
 ·obtain⟨u,hu,v,hv,rfl⟩:=e11 hx
  rw[e1] at hv
  obtain⟨i,rfl,_⟩:=l70 (h u hu)
  obtain⟨j,rfl,_⟩:=l70 (h v (List.mem_of_mem_drop hv))
  exact⟨rfl,rfl⟩
 ·exact sb (b:=(B20 l (cutD l (some 1) none)).all ltP) (by rw[e1];rfl)
theorem W90(k:Nat)(m:Int)(hs:short x=true)(z:Z):b10 T (k + 5) l60 [.d x,.d (.int m)] z=some (.ok (.d (.bl (match x with | .tup l=>l.all (λx=>d00 x m)&&E11 l | _=>false))) z):=by
 refine W.ok (g00 (ps:=2) (ns:=2) (b:=g20) rfl rfl (by decide) ?_)
 cases x with
 |tup l =>
  have hl:l.length≤1000:=of_decide_eq_true hs
  refine ip (o00 hl) (d61 (λx=>.bl (d00 x m)) (λx _=>Wo (n00 k x m z) ⟨rfl,rfl⟩) (a00 (J30 l λx=>d00 x m) ?_ :))
  refine ib (b:=l.all λx=>d00 x m) (λh=>?_) λh=>sb (show false=(l.all (λx=>d00 x m)&&E11 l) by rw[h];rfl)
  exact Wo (O31 (k + 1) (List.all_eq_true.mp h) hl z) (sb (show E11 l=(l.all (λx=>d00 x m)&&E11 l) by rw[h];rfl))
 |_=>exact sb rfl
theorem e10(k:Nat)(z:Z)(h:L72 m x=true)(hs:short x=true):b10 T (k + 6) d50 [.d (.tup [.int m,t]),.d x] z=some (.ok (.d .non) z):=by
 refine W.ok (g00 (ps:=2) (ns:=2) (b:=k30) rfl rfl (by decide) (Wo (W90 k m hs z) ?_))
 cases x with
 |tup l =>
  have h:((l.all (λx=>d00 x m)&&E11 l)&&!l.isEmpty)=true:=h
  rw[and_eq_true] at h
  refine ie (b:=!(l.all (λx=>d00 x m)&&E11 l)) (by rw[h.1];rfl) ?_
  cases l with
  |nil=>cases h.2
  |cons y r=>exact sd rfl
 |_=>cases h
def b30(n:Nat):D:=.int n
structure c30(m:Int)(l:List Nat):Prop where
 ne:l≠[]
 up:l.Pairwise (· < ·)
 lt:∀ p∈l,(p:Int) < m
theorem T71:∀ {l:List Nat},l.Pairwise (· < ·)→E11 (l.map b30)=true
 |[],_=>rfl
 |[_],_=>rfl
 |a::b::r,h=>by
  have ih:=T71 (List.Pairwise.of_cons h)
  show(decide ((a:Int) < (b:Int))&&E11 ((b::r).map b30))=true
  rw[ih,decide_eq_true (by have:=(List.pairwise_cons.mp h).1 b mem_cons_self;omega)];rfl
theorem c30.pls(g:c30 m l):L72 m (.tup (l.map b30))=true:=by
 show(((l.map b30).all (λx=>d00 x m)&&E11 (l.map b30))&&!(l.map b30).isEmpty)=true
 rw[T71 g.up,Bool.and_true,and_eq_true]
 refine⟨List.all_eq_true.mpr λx hx=>?_,?_⟩
 ·obtain⟨p,hp,rfl⟩:=List.mem_map.mp hx
  have:=g.lt p hp
  show(decide (0≤(p:Int))&&decide ((p:Int) < m))=true
  rw[decide_eq_true this,decide_eq_true (by omega)];rfl
 ·cases l with
  |nil=>exact absurd rfl g.ne
  |cons _ _=>rfl
theorem c30.len(g:c30 m l)(h6:m≤6):l.length≤6:=by
 have:l.Sublist (range 6):=by
  have e:l=(range 6).filter λx=>l.contains x:=by
   refine List.Perm.eq_of_pairwise (le:=(· < ·)) ?_ g.up (List.Pairwise.filter _ pairwise_lt_range) ?_
   ·intro a b _ _ h1 h2;omega
   ·refine(List.perm_ext_iff_of_nodup (g.up.imp λh e=>by omega) (List.Pairwise.filter _ nodup_range)).mpr λa=>?_
    rw[mem_filter,mem_range,contains_iff_mem]
    exact⟨λh=>⟨by have:=g.lt a h;omega,h⟩,λh=>h.2⟩
  rw[e];exact List.filter_sublist
 simpa using this.length_le
theorem O41:∀ {ys:List D}{l:List Nat},ys.Sublist (l.map b30)→∃ l':List Nat,ys=l'.map b30∧l'.Sublist l:=λ{ys l} h=>by
 obtain⟨l',h1,h2⟩:=List.sublist_map_iff.mp h
 exact⟨l',h2,h1⟩
theorem f62(n:Nat):((range n).map λ(i:Nat)=>D.int i)=(range n).map b30:=rfl
theorem X00(k:Nat)(m1:1≤m)(m6:m≤6)(hz:ZI z):W (b10 T (k + 4) w60 [.z,.d (.tup [.int m,t])]) z (λs z1=>ZI z1∧∃ l,s=.d (.tup (l.map b30))∧c30 m l) NE:=by
 refine i42 hz (ps:=2) (ns:=3) (b:=m80) rfl rfl (by decide) ?_
 refine(a00 (N90 (m:=m) (by omega) (by omega)) ?_ :)
 refine ip (by rw[length_map,length_range];simp only[most];omega) (v42 (I:=ZI) (λx=>x) hz (λx hx z1 hz1=>?_) λys z1 hz1 hs=>?_)
 ·refine(h50 k 2 hz1 (by decide) (by decide)).imp λs z2 ⟨hz2,a,e,a1⟩=>?_
  subst e
  exact⟨hz2,(a:Int) == 0,rfl,λ_=>⟨rfl,rfl⟩⟩
 ·rw[map_id',f62] at hs
  obtain⟨l,rfl,hl⟩:=O41 hs
  have up:l.Pairwise (· < ·):=List.Pairwise.sublist hl pairwise_lt_range
  have lt:∀ p∈l,(p:Int) < m:=λp hp=>by have:=List.mem_range.mp (hl.mem hp);omega
  have g1:∀ p:Nat,(p:Int) < m→c30 m [p]:=λp hp=>⟨by simp,.cons (λ_ h=>nomatch h) .nil,λq hq=>by rw[List.mem_singleton.mp hq];exact hp⟩
  have g2:c30 m (range m.toNat):=⟨by intro h;have:=congrArg List.length h;rw[length_range] at this;simp at this;omega,pairwise_lt_range,λp hp=>by have:=List.mem_range.mp hp;omega⟩
  have fin:∀ (L:List D) (v:Nat) (z2:Z),L.length=3→v < 3→ZI z2→(∀ x∈L,∃ l,x=.tup (l.map b30)∧c30 m l)→∃ x,T30 (.lst L) (.int v)=some x∧(ZI z2∧∃ l,S.d x=.d (.tup (l.map b30))∧c30 m l):=λL v z2 h3 hv hz2 h=>by
   have hlt:v < L.length:=by omega
   obtain⟨l,e,g⟩:=h _ (getElem_mem hlt)
   exact⟨L[v],e51 (List.getElem?_eq_getElem hlt),hz2,l,by rw[e],g⟩
  have e1:(m - 1)=((m.toNat - 1:Nat):Int):=by omega
  cases l with
  |nil =>
   refine(a00 (N90 (m:=m) (by omega) (by omega)) ?_ :)
   refine(h50 k 3 hz1 (by decide) (by decide)).imp λs z2 ⟨hz2,v,e,v1⟩=>?_
   subst e
   obtain⟨x,ex,q⟩:=fin [.tup [.int 0],.tup ((range m.toNat).map λ(i:Nat)=>D.int i),.tup [.int (m - 1)]] v z2 rfl (by omega) hz2 λx hx=>by
    simp only[mem_cons,not_mem_nil,or_false] at hx
    rcases hx with rfl | rfl | rfl
    ·exact⟨[0],rfl,g1 0 (by omega)⟩
    ·exact⟨_,rfl,g2⟩
    ·exact⟨[m.toNat - 1],by rw[e1];rfl,g1 _ (by omega)⟩
   refine(a00 ex ?_ :)
   exact q
  |cons p r =>
   refine(a00 (N90 (m:=m) (by omega) (by omega)) ?_ :)
   refine(h50 k 3 hz1 (by decide) (by decide)).imp λs z2 ⟨hz2,v,e,v1⟩=>?_
   subst e
   obtain⟨x,ex,q⟩:=fin [.tup ((p::r).map b30),.tup ((range m.toNat).map λ(i:Nat)=>D.int i),.tup ((p::r).map b30)] v z2 rfl (by omega) hz2 λx hx=>by
    simp only[mem_cons,not_mem_nil,or_false] at hx
    rcases hx with rfl | rfl | rfl
    ·exact⟨_,rfl,by simp,up,lt⟩
    ·exact⟨_,rfl,g2⟩
    ·exact⟨_,rfl,by simp,up,lt⟩
   refine(a00 ex ?_ :)
   exact q
section
variable (ps:List (Int × Int))
abbrev tA(n:Nat):Nat:=(ps.getD n (0,0)).1.toNat
abbrev tB(n:Nat):Nat:=(ps.getD n (0,0)).2.toNat
def u70(mk:List Int)(n:Nat):List Int:=mk.map λx=>if x=mk.getD (tB ps n) 0 then mk.getD (tA ps n) 0 else x
def z90(m:Nat)(lot:List Nat):List Int:=lot.foldl (u70 ps) ((range m).map λ(i:Nat)=>(i:Int))
def w12(mk:List Int)(pl:List Nat):Bool:=pl.all λp=>mk.getD p 0 == mk.getD (pl.getD 0 0) 0
def b40(m:Nat)(pl lot:List Nat):Bool:=w12 (z90 ps m lot) pl
variable {ps}
theorem O50(mk:List Int)(n:Nat):(u70 ps mk n).length=mk.length:=length_map _
theorem step_get(h:x < mk.length):(u70 ps mk n).getD x 0=if mk.getD x 0=mk.getD (tB ps n) 0 then mk.getD (tA ps n) 0 else mk.getD x 0:=by
 unfold u70
 rw[List.getD_eq_getElem?_getD,List.getElem?_map,List.getElem?_eq_getElem h]
 simp[List.getD_eq_getElem?_getD,List.getElem?_eq_getElem h]
theorem E21:(z90 ps m lot).length=m:=by
 unfold z90
 have:∀ (l:List Nat) (mk:List Int),(l.foldl (u70 ps) mk).length=mk.length:=by
  intro l
  induction l with
  |nil=>intro mk;rfl
  |cons n r ih=>intro mk;rw[List.foldl_cons,ih,O50]
 rw[this];simp
theorem p31(hr:∀ n < ps.length,tA ps n < m∧tB ps n < m):∀ (lot:List Nat) (mk:List Int),mk.length=m→(∀ n∈lot,n < ps.length) →
  (∀ x y,x < m→y < m→mk.getD x 0=mk.getD y 0→(lot.foldl (u70 ps) mk).getD x 0=(lot.foldl (u70 ps) mk).getD y 0)∧(∀ n∈lot,(lot.foldl (u70 ps) mk).getD (tA ps n) 0=(lot.foldl (u70 ps) mk).getD (tB ps n) 0) ∧
  ∀ f:Nat→Int,(∀ x y,x < m→y < m→mk.getD x 0=mk.getD y 0→f x=f y)→(∀ n∈lot,f (tA ps n)=f (tB ps n))→∀ x y,x < m→y < m→(lot.foldl (u70 ps) mk).getD x 0=(lot.foldl (u70 ps) mk).getD y 0→f x=f y:=by
 intro lot
 induction lot with
 |nil=>exact λmk _ _=>⟨λ_ _ _ _ h=>h,(λ_ h=>nomatch h),λf h _=>h⟩
 |cons n r ih =>
  intro mk hl hn
  obtain⟨ha,hb⟩:=hr n (hn n mem_cons_self)
  obtain⟨i1,i2,i3⟩:=ih (u70 ps mk n) (by rw[O50];exact hl) λk hk=>hn k (mem_cons_of_mem _ hk)
  have st:∀ x,x < m→(u70 ps mk n).getD x 0=if mk.getD x 0=mk.getD (tB ps n) 0 then mk.getD (tA ps n) 0 else mk.getD x 0:=λx hx=>step_get (by omega)
  refine⟨λx y hx hy h=>i1 x y hx hy (by rw[st x hx,st y hy,h]),λk hk=>?_,λf h1 h2=>?_⟩
  ·rcases List.mem_cons.mp hk with rfl | hk
   ·refine i1 _ _ ha hb ?_
    rw[st _ ha,st _ hb,if_pos rfl]
    split <;> rfl
   ·exact i2 k hk
  ·refine i3 f (λx y hx hy h=>?_) λk hk=>h2 k (mem_cons_of_mem _ hk)
   have e:=h2 n mem_cons_self
   rw[st x hx,st y hy] at h
   split at h
   ·rename_i hxb
    have fx:=h1 _ _ hx hb hxb
    split at h
    ·rename_i hyb
     rw[fx,h1 _ _ hy hb hyb]
    ·rw[fx,← e];exact h1 _ _ ha hy h
   ·split at h
    ·rename_i hyb
     rw[h1 _ _ hy hb hyb,← e];exact h1 _ _ hx ha h
    ·exact h1 _ _ hx hy h
theorem X10(h:x < m):(((range m).map λ(i:Nat)=>(i:Int))).getD x 0=(x:Int):=by
 rw[List.getD_eq_getElem?_getD,List.getElem?_map,List.getElem?_range h];rfl
theorem O60{m:Nat}(hr:∀ n < ps.length,tA ps n < m∧tB ps n < m){pl lot:List Nat}(hp:∀ p∈pl,p < m)(hl:∀ n∈lot,n < ps.length):b40 ps m pl lot=true↔∀ f:Nat→Int,(∀ n∈lot,f (tA ps n)=f (tB ps n))→∀ p∈pl,f p=f (pl.getD 0 0):=by
 obtain⟨_,h2,h3⟩:=p31 hr lot ((range m).map λ(i:Nat)=>(i:Int)) (by simp) hl
 unfold b40 w12
 rw[all_eq_true]
 have h0:∀ p∈pl,pl.getD 0 0 < m:=λp hp'=>by
  cases pl with
  |nil=>cases hp'
  |cons q r=>exact hp q mem_cons_self
 constructor
 ·intro h f hf p hp'
  refine h3 f (λx y hx hy e=>?_) hf p _ (hp p hp') (h0 p hp') (beq_iff_eq.mp (h p hp'))
  rw[X10 hx,X10 hy] at e
  rw[Int.ofNat_inj.mp e]
 ·intro h p hp'
  rw[beq_iff_eq]
  exact h (λx=>(z90 ps m lot).getD x 0) h2 p hp'
theorem good_mono{m:Nat}(hr:∀ n < ps.length,tA ps n < m∧tB ps n < m){pl a b:List Nat}(hp:∀ p∈pl,p < m)(hb:∀ n∈b,n < ps.length)(hab:∀ n∈a,n∈b)(h:b40 ps m pl a=true):b40 ps m pl b=true :=
 (O60 hr hp hb).mpr λf hf=>(O60 hr hp λn hn=>hb n (hab n hn)).mp h f λn hn=>hf n (hab n hn)
end
section
variable (g:List Nat→Bool) (c:Nat→Int × Int)
def tot:List Nat→List Nat→Int
 |[],h=>if g h then 1 else 0
 |n::r,h=>(c n).1 * tot r (n::h) + ((c n).2 - (c n).1) * tot r h
def q30(ns:List Nat):Int:=(ns.map λn=>(c n).2).foldr (· * ·) 1
variable {g c}
theorem d40(n:Nat)(r:List Nat):q30 c (n::r)=(c n).2 * q30 c r:=rfl
theorem l90(h:a.Perm b):q30 c a=q30 c b:=by
 induction h with
 |nil=>rfl
 |cons x _ ih=>rw[d40,d40,ih]
 |swap x y l=>rw[d40,d40,d40,d40,← mul_assoc,← mul_assoc,Int.mul_comm (c y).2]
 |trans _ _ h1 h2=>rw[h1,h2]
def i52(N:Nat)(g:List Nat→Bool):Prop:=∀ a b:List Nat,(∀ n∈a,n < N)→(∀ n∈b,n < N)→(∀ n,n∈a↔n∈b)→g a=g b
theorem x10(hg:i52 N g):∀ (ns a b:List Nat),(∀ n∈ns,n < N)→(∀ n∈a,n < N)→(∀ n∈b,n < N)→(∀ n,n∈a↔n∈b)→tot g c ns a=tot g c ns b
 |[],a,b,_,ha,hb,h=>by unfold tot;rw[hg a b ha hb h]
 |n::r,a,b,hn,ha,hb,h=>by
  have hr:∀ k∈r,k < N:=λk hk=>hn k (mem_cons_of_mem _ hk)
  have hc:∀ {l:List Nat},(∀ n∈l,n < N)→∀ k∈n::l,k < N:=λhl k hk=>by
   rcases List.mem_cons.mp hk with rfl | hk
   ·exact hn _ mem_cons_self
   ·exact hl k hk
  unfold tot
  rw[x10 hg r a b hr ha hb h,x10 hg r (n::a) (n::b) hr (hc ha) (hc hb) λk=>by rw[mem_cons,mem_cons,h k]]
theorem r40(hg:i52 N g)(h:a.Perm b):∀ held:List Nat,(∀ n∈a,n < N)→(∀ n∈held,n < N)→tot g c a held=tot g c b held:=by
 induction h with
 |nil=>exact λ_ _ _=>rfl
 |cons x h ih =>
  intro held ha hh
  have hr:=λk hk=>ha k (mem_cons_of_mem _ hk)
  unfold tot
  rw[ih held hr hh,ih (x::held) hr λk hk=>by
   rcases List.mem_cons.mp hk with rfl | hk
   ·exact ha _ mem_cons_self
   ·exact hh k hk]
 |swap x y l =>
  intro held ha hh
  have hl:∀ k∈l,k < N:=λk hk=>ha k (mem_cons_of_mem _ (mem_cons_of_mem _ hk))
  have hx:=ha x (mem_cons_of_mem _ mem_cons_self)
  have hy:=ha y mem_cons_self
  have hxy:∀ k∈[x,y]++held,k < N:=λk hk=>by
   simp only[cons_append,nil_append,mem_cons] at hk
   rcases hk with rfl | rfl | hk
   ·exact hx
   ·exact hy
   ·exact hh k hk
  have e:=x10 (c:=c) hg l (x::y::held) (y::x::held) hl hxy (λk hk=>hxy k (by simp only[cons_append,nil_append,mem_cons] at hk ⊢;rcases hk with h | h | h <;> simp[h])) λk=>by simp only[mem_cons];constructor <;> (rintro (h | h | h) <;> simp[h])
  simp only[tot]
  rw[e]
  generalize tot g c l (y::x::held)=t1
  generalize tot g c l (y::held)=t2
  generalize tot g c l (x::held)=t3
  generalize tot g c l held=t4
  generalize (c x).1=p
  generalize (c x).2=q
  generalize (c y).1=u
  generalize (c y).2=v
  grind
 |trans h1 h2 i1 i2=>exact λheld ha hh=>(i1 held ha hh).trans (i2 held (λk hk=>ha k (h1.mem_iff.mpr hk)) hh)
theorem e91(mono:∀ a b:List Nat,(∀ n∈b,n < N)→(∀ n∈a,n∈b)→g a=true→g b=true):∀ (ns held:List Nat),(∀ n∈ns,n < N)→(∀ n∈held,n < N)→g held=true→tot g c ns held=q30 c ns
 |[],held,_,_,h=>by unfold tot;rw[if_pos h];rfl
 |n::r,held,hn,hh,h=>by
  have hr:=λk hk=>hn k (mem_cons_of_mem _ hk)
  have hc:∀ k∈n::held,k < N:=λk hk=>by
   rcases List.mem_cons.mp hk with rfl | hk
   ·exact hn _ mem_cons_self
   ·exact hh k hk
  unfold tot
  rw[e91 mono r held hr hh h,e91 mono r (n::held) hr hc (mono _ _ hc (λk hk=>mem_cons_of_mem _ hk) h),d40,← add_mul]
  congr 1;omega
theorem O70(mono:∀ a b:List Nat,(∀ n∈b,n < N)→(∀ n∈a,n∈b)→g a=true→g b=true):∀ (ns held:List Nat),(∀ n∈ns,n < N)→(∀ n∈held,n < N)→g (ns++held)=false→tot g c ns held=0
 |[],held,_,_,h=>by unfold tot;rw[if_neg (by rw[show g held=false from h];exact Bool.false_ne_true)]
 |n::r,held,hn,hh,h=>by
  have hr:=λk hk=>hn k (mem_cons_of_mem _ hk)
  have hc:∀ k∈n::held,k < N:=λk hk=>by
   rcases List.mem_cons.mp hk with rfl | hk
   ·exact hn _ mem_cons_self
   ·exact hh k hk
  have ha:∀ k∈n::r++held,k < N:=λk hk=>by
   rcases List.mem_append.mp hk with hk | hk
   ·exact hn k hk
   ·exact hh k hk
  have no:∀ l:List Nat,(∀ k∈l,k∈n::r++held)→g l=false:=λl hl=>by
   cases e:g l with
   |false=>rfl
   |true=>rw[mono l _ ha hl e] at h;cases h
  unfold tot
  rw[O70 mono r held hr hh (no _ λk hk=>mem_cons_of_mem _ hk),O70 mono r (n::held) hr hc (no _ λk hk=>?_),Int.mul_zero,Int.mul_zero];rfl
  simp only[mem_append,mem_cons,cons_append] at hk ⊢
  rcases hk with h | h | h <;> simp[h]
def k90:Nat→List (List Nat)
 |0=>[[]]
 |j + 1=>k90 j++(k90 j).map (·++[j])
def amt(c:Nat→Int × Int)(j:Nat)(lot:List Nat):Int:=(range j).foldl (λa n=>a * (if n∈lot then(c n).1 else(c n).2 - (c n).1)) 1
theorem r50:amt c (j + 1) lot=amt c j lot * (if j∈lot then(c j).1 else(c j).2 - (c j).1):=by
 unfold amt
 rw[range_succ,List.foldl_append];rfl
theorem f72(h:j≤k):amt c j (lot++[k])=amt c j lot:=by
 induction j with
 |zero=>rfl
 |succ j ih =>
  rw[r50,r50,ih (by omega)]
  have:j∈lot++[k]↔j∈lot:=by rw[mem_append,mem_singleton];constructor <;> (intro h;first | (rcases h with h | h;exact h;omega) | exact .inl h)
  simp only[this]
theorem G40:∀ {j:Nat}{lot:List Nat},lot∈k90 j→∀ n∈lot,n < j
 |0,lot,h,n,hn=>by rw[List.mem_singleton.mp h] at hn;cases hn
 |j + 1,lot,h,n,hn=>by
  rcases List.mem_append.mp h with h | h
  ·exact lt_succ_of_lt (G40 h n hn)
  ·obtain⟨l,hl,rfl⟩:=List.mem_map.mp h
   rcases List.mem_append.mp hn with hn | hn
   ·exact lt_succ_of_lt (G40 hl n hn)
   ·rw[List.mem_singleton.mp hn];exact lt_succ_self j
def desc:Nat→List Nat
 |0=>[]
 |j + 1=>j::desc j
def H00(l:List (List Nat))(f:List Nat→Int):Int:=(l.map f).foldr (· + ·) 0
theorem O51:H00 (a++b) f=H00 a f + H00 b f:=by
 unfold H00
 rw[List.map_append]
 induction a with
 |nil=>simp
 |cons x r ih=>simp only[map_cons,cons_append,List.foldr_cons,ih,Int.add_assoc]
theorem l51(e:∀ x∈a,h x=k * f x):H00 a h=k * H00 a f:=by
 unfold H00
 induction a with
 |nil=>simp
 |cons x r ih=>simp only[map_cons,List.foldr_cons,ih λy hy=>e y (mem_cons_of_mem _ hy),e x mem_cons_self,Int.mul_add]
theorem O61:H00 (a.map t) f=H00 a λx=>f (t x):=by
 unfold H00;rw[List.map_map];rfl
theorem O80(hg:i52 N g):∀ (j:Nat) (held:List Nat),j≤N→(∀ n∈held,n < N)→H00 (k90 j) (λlot=>if g (lot++held) then amt c j lot else 0)=tot g c (desc j) held
 |0,held,_,_=>by
  show(if g ([]++held) then amt c 0 [] else 0) + 0=_
  rw[Int.add_zero];rfl
 |j + 1,held,hj,hh=>by
  have hc:∀ k∈j::held,k < N:=λk hk=>by
   rcases List.mem_cons.mp hk with rfl | hk
   ·omega
   ·exact hh k hk
  show H00 (k90 j++(k90 j).map (·++[j])) _=(c j).1 * tot g c (desc j) (j::held) + ((c j).2 - (c j).1) * tot g c (desc j) held
  rw[O51,O61,← O80 hg j held (by omega) hh,← O80 hg j (j::held) (by omega) hc,Int.add_comm]
  congr 1
  ·refine l51 λlot hl=>?_
   have lt:=G40 hl
   have e:g (lot++[j]++held)=g (lot++j::held):=by rw[append_assoc];rfl
   rw[e]
   split
   ·rw[r50,f72 (Nat.le_refl j),if_pos (by simp),Int.mul_comm]
   ·rw[Int.mul_zero]
  ·refine l51 λlot hl=>?_
   have lt:=G40 hl
   split
   ·rw[r50,if_neg (λh=>Nat.lt_irrefl _ (lt j h)),Int.mul_comm]
   ·rw[Int.mul_zero]
theorem X20:∀ n:Nat,(desc n).Perm (range n)
 |0=>.refl _
 |n + 1=>by
  rw[range_succ]
  exact((X20 n).cons n).trans (List.perm_append_singleton n (range n)).symm
end
theorem itE{it:It}{e:Ex}{l:List S}{ρ:Env}(h:T70 l=true):w21 it e l ρ=T80 it e l ρ:=by unfold w21;rw[h,i01];rfl
theorem J60:∀ l:List Nat,t50 (l.map b30)=true
 |[]=>rfl
 |_::r=>J60 r
structure Row(x:D)(lot:List Nat):Prop where
 sq:a91 x=some (lot.map b30)
 br:Z31 x=true
theorem Row.t(lot:List Nat):Row (.tup (lot.map b30)) lot:=⟨rfl,J60 lot⟩
theorem Row.ba(h:Row x lot):T70 [.d x]=true:=by
 show(Z31 x&&true)=true
 rw[h.br];rfl
theorem E31{mk:List Int}{a:Int}(h0:0≤a)(h:a.toNat < mk.length):T30 (.lst (mk.map D.int)) (.int a)=some (.int (mk.getD a.toNat 0)):=by
 obtain⟨n,rfl⟩:=eq_ofNat_of_zero_le h0
 rw[toNat_natCast] at h ⊢
 rw[List.getD_eq_getElem?_getD,List.getElem?_eq_getElem h]
 exact e51 (y50 h)
theorem X30{ps:List (Int × Int)}{n:Nat}(h:n < ps.length):T30 (.tup (ps.map pr)) (.int n)=some (pr (ps.getD n (0,0))):=by
 rw[List.getD_eq_getElem?_getD,List.getElem?_eq_getElem h]
 exact O00 (by rw[List.getElem?_map,List.getElem?_eq_getElem h];rfl)
theorem getD_mem{ps:List (Int × Int)}{n:Nat}(h:n < ps.length):ps.getD n (0,0)∈ps:=by
 rw[List.getD_eq_getElem?_getD,List.getElem?_eq_getElem h];exact getElem_mem h
theorem c10.rng{m:Int}{ps:List (Int × Int)}(g:c10 m ps):∀ n < ps.length,tA ps n < m.toNat∧tB ps n < m.toNat:=λn hn=>by
 have:=g.tie _ (getD_mem hn)
 unfold tA tB
 omega
def L82(a b:Int):D→D
 |.int v=>.int (if v=b then a else v)
 |x=>x
theorem f82{F:FT}{z:Z}{mk:List Int}(a b:Int){Q:List D→Z→Prop}{E:Nat→Z→Prop}(q:Q ((mk.map λx=>if x=b then a else x).map D.int) z):W (turns (r80 (ev F .nil) (ev F (.ite (.cmp .eq (.var 0) (.var 2)) (.var 1) (.var 0))) (.v 0) [none,some (.d (.int a)),some (.d (.int b))]) (mk.map D.int)) z Q E:=by
 refine d61 (L82 a b) (λx hx=>?_) ?_
 ·obtain⟨v,_,rfl⟩:=List.mem_map.mp hx
  refine ib (b:=v == b) (λh=>⟨?_,rfl⟩) λh=>⟨?_,rfl⟩
  ·show D.int a=.int (if v=b then a else v)
   rw[if_pos (beq_iff_eq.mp h)]
  ·show D.int v=.int (if v=b then a else v)
   rw[if_neg (by simpa using h)]
 ·have e:(mk.map D.int).map (L82 a b)=(mk.map λx=>if x=b then a else x).map D.int:=by rw[List.map_map,List.map_map];rfl
  rw[e];exact q
theorem f01(k:Nat){m:Int}{ps:List (Int × Int)}(g:c10 m ps){x:D}{lot:List Nat}(hx:Row x lot)(hl:∀ n∈lot,n < ps.length)(z:Z):b10 T (k + 3) I90 [.d (x00 m ps),.d x] z=some (.ok (.fr ((z90 ps m.toNat lot).map D.int)) z):=by
 have m6:=g.m6
 have m1:=g.m1
 refine W.ok (g00 (ps:=2) (ns:=10) (b:=y20) rfl rfl (by decide) ?_)
 refine(a00 (o:=lrD [.int m]) (N90 (by omega) (by omega)) ?_ :)
 refine a00 (o:=a91 x) hx.sq ?_
 refine d51 (λxs ρ z1=>z1=z∧∃ (rest:List Nat) (mk:List Int) (o5 o6 o7 o8 o9:Option S),xs=rest.map b30∧(∀ n∈rest,n < ps.length)∧mk.length=m.toNat∧rest.foldl (u70 ps) mk=z90 ps m.toNat lot∧ρ=[some (.d (x00 m ps)),some (.d x),some (.d (.int m)),some (.d (.tup (ps.map pr))),some (.fr (mk.map D.int)),o5,o6,o7,o8,o9]) _ ⟨rfl,lot,(range m.toNat).map λ(i:Nat)=>(i:Int),none,none,none,none,none,rfl,hl,by simp,rfl,(itE hx.ba).trans ?_⟩ ?_ ?_
 ·rw[← k81];rfl
 ·rintro y r ρ z1 ⟨rfl,rest,mk,o5,o6,o7,o8,o9,e,hr,hm,hf,rfl⟩
  cases rest with
  |nil=>cases e
  |cons n rest =>
   cases e
   have hn:=hr n mem_cons_self
   have ht:=g.tie _ (getD_mem hn)
   refine(a00 (X30 hn) ?_ :)
   refine(a00 (E31 (mk:=mk) ht.1 (by omega)) ?_ :)
   refine(a00 (E31 (mk:=mk) (a:=(ps.getD n (0,0)).2) (by omega) (by omega)) ?_ :)
   refine ip (by rw[length_map];simp only[most];omega) (f82 _ _ ?_)
   exact⟨rfl,rest,u70 ps mk n,_,_,_,_,_,rfl,λk hk=>hr k (mem_cons_of_mem _ hk),by rw[O50];exact hm,hf,rfl⟩
 ·rintro ρ z1 ⟨rfl,rest,mk,o5,o6,o7,o8,o9,e,hr,hm,hf,rfl⟩
  cases rest with
  |nil=>exact sd (by rw[← hf];rfl)
  |cons _ _=>cases e
section
variable {m:Int}{ps:List (Int × Int)}{pl lot:List Nat}
theorem w22{mk:List Int}{p:Nat}(h:p < mk.length):T30 (.lst (mk.map D.int)) (.int p)=some (.int (mk.getD p 0)):=E31 (a:=(p:Int)) (by omega) (by rw[toNat_natCast];exact h)
theorem w32(h:pl≠[]):T30 (.tup (pl.map b30)) (.int 0)=some (b30 (pl.getD 0 0)):=by
 cases pl with
 |nil=>exact absurd rfl h
 |cons p r=>exact O00 (j:=0) rfl
theorem c30.p0(hp:c30 m pl):pl.getD 0 0 < m.toNat:=by
 have h:=hp.ne
 have h2:=hp.lt
 cases pl with
 |nil=>exact absurd rfl h
 |cons p r=>have:=h2 p mem_cons_self;show p < _;omega
def eqM(mk:List Int)(p0:Nat):D→Bool
 |.int p=>mk.getD p.toNat 0 == mk.getD p0 0
 |_=>false
theorem f92(l:List Nat):(l.map b30).all (eqM mk p0)=l.all λp=>mk.getD p 0 == mk.getD p0 0:=by rw[all_map];rfl
theorem c40(k:Nat)(g:c10 m ps)(hp:c30 m pl){x:D}(hx:Row x lot)(hl:∀ n∈lot,n < ps.length)(z:Z):b10 T (k + 4) e90 [.d (x00 m ps),.d x,.d (.tup (pl.map b30))] z=some (.ok (.d (.bl (b40 ps m.toNat pl lot))) z):=by
 have hlen:=hp.len g.m6
 refine W.ok (g00 (ps:=3) (ns:=4) (b:=p40) rfl rfl (by decide) (Wo (f01 k g hx hl z) ?_))
 have ml:(z90 ps m.toNat lot).length=m.toNat:=E21
 generalize hmk:z90 ps m.toNat lot=mk at ml
 refine ip (by rw[length_map];simp only[most];omega) (d61 (λx=>.bl (eqM mk (pl.getD 0 0) x)) (λy hy=>?_) (a00 (J30 _ (eqM mk (pl.getD 0 0))) ?_ :))
 ·obtain⟨p,hp',rfl⟩:=List.mem_map.mp hy
  have:=hp.lt p hp'
  refine(a00 (w22 (mk:=mk) (p:=p) (by omega)) ?_ :)
  refine(a00 (w32 hp.ne) ?_ :)
  refine(a00 (w22 (mk:=mk) (by rw[ml];exact hp.p0)) ?_ :)
  exact⟨rfl,rfl⟩
 ·refine sb (b:=(pl.map b30).all (eqM mk (pl.getD 0 0))) ?_
  rw[f92,← hmk];rfl
theorem O90(l:List Nat)(f:D→Bool):(l.map b30).filter f=(l.filter λn=>f (b30 n)).map b30:=filter_map ..
end
def x50(l:List Nat):D:=.tup (l.map b30)
theorem P00:∀ {j:Nat}{lot:List Nat},lot∈k90 j→lot.length≤j
 |0,lot,h=>by rw[List.mem_singleton.mp h];exact Nat.le_refl _
 |j + 1,lot,h=>by
  rcases List.mem_append.mp h with h | h
  ·exact Nat.le_succ_of_le (P00 h)
  ·obtain⟨l,hl,rfl⟩:=List.mem_map.mp h
   rw[f12];exact succ_le_succ (P00 hl)
theorem C20:∀ j:Nat,(k90 j).length=2 ^ j
 |0=>rfl
 |j + 1=>by
  show(k90 j++(k90 j).map (·++[j])).length=_
  rw[length_append,length_map,C20 j,Nat.pow_succ];omega
theorem E41(h:j≤8):2 ^ j≤256:=Nat.pow_le_pow_right (n:=2) (by decide) h
theorem add_l(h:a.length + b.length≤1000):E00 .add (.lst a) (.lst b)=some (.fr (a++b)):=by
 show(if a.length + b.length≤most then some (S.fr (a++b)) else none)=_
 rw[if_pos (o00 h)]
theorem O71(h:a.length + b.length≤1000):E00 .add (.tup a) (.tup b)=some (.d (.tup (a++b))):=by
 show(if a.length + b.length≤most then some (S.d (.tup (a++b))) else none)=_
 rw[if_pos (o00 h)]
def L92(j:Nat):D→D
 |.tup l=>.tup (l++[b30 j])
 |x=>x
theorem O81:((k90 j).map x50).map (L92 j)=((k90 j).map (·++[j])).map x50:=by
 rw[List.map_map,List.map_map]
 refine map_congr_left λl _=>?_
 show D.tup (l.map b30++[b30 j])=.tup ((l++[j]).map b30)
 rw[List.map_append];rfl
theorem P10{n:Nat}(h:n < 100000):itD .rng1 [.int n]=some ((range' 0 n).map b30):=by
 rw[N90 (by omega) (by omega),toNat_natCast,range_eq_range'];rfl
abbrev cf(cs:List (Int × Int))(n:Nat):Int × Int:=cs.getD n (0,1)
def s10(cs:List (Int × Int)):Int:=(cs.map (·.2)).foldr (· * ·) 1
theorem g02:q30 (cf cs) (range cs.length)=s10 cs:=by
 unfold q30 s10
 congr 1
 refine ext_getElem (by simp) λi h1 h2=>?_
 have hi:i < cs.length:=by simpa using h1
 simp[List.getD_eq_getElem?_getD,List.getElem?_eq_getElem hi]
theorem P20:∀ {cs:List (Int × Int)},(∀ c∈cs,IsC c)→0 < s10 cs∧s10 cs≤2 ^ (10 * cs.length)
 |[],_=>by decide
 |c::r,h=>by
  obtain⟨h1,h2⟩:=P20 λd hd=>h d (mem_cons_of_mem _ hd)
  obtain⟨c1,c2,_⟩:=h c mem_cons_self
  refine⟨mul_pos (show(0:Int) < c.2 by omega) h1,?_⟩
  show c.2 * s10 r≤_
  rw[length_cons,mul_add,pow_add,Int.mul_comm]
  exact mul_le_mul h2 (by omega) (by omega) (by have:=Int.le_trans (Int.le_of_lt h1) h2;exact this)
theorem IsC.w(h:IsC c)(b:Prop)[Decidable b]:0≤(if b then c.1 else c.2 - c.1)∧(if b then c.1 else c.2 - c.1)≤1000:=by
 obtain⟨c1,c2,c3,c4,_⟩:=h
 split <;> omega
theorem u80(ha:∀ c∈cs,IsC c)(h:n < cs.length):IsC (cf cs n):=ha _ (by rw[cf,List.getD_eq_getElem?_getD,List.getElem?_eq_getElem h];exact getElem_mem h)
theorem T81(ha:∀ c∈cs,IsC c):∀ {j:Nat},j≤cs.length→0≤amt (cf cs) j lot∧amt (cf cs) j lot≤2 ^ (10 * j)
 |0,_=>by show(0:Int)≤1∧(1:Int)≤1;omega
 |j + 1,h=>by
  obtain⟨h1,h2⟩:=T81 (lot:=lot) ha (j:=j) (by omega)
  obtain⟨w1,w2⟩:=(u80 ha (n:=j) (by omega)).w (j∈lot)
  rw[r50]
  refine⟨mul_nonneg h1 w1,?_⟩
  rw[mul_add,pow_add]
  exact mul_le_mul h2 (by omega) w1 (by have:=Int.le_trans h1 h2;exact this)
theorem l61(n:Nat):∀ l:List Nat,memD (b30 n) (l.map b30)=decide (n∈l)
 |[]=>rfl
 |x::r=>by
  show((x:Int) == (n:Int) || memD (b30 n) (r.map b30))=_
  rw[l61 n r,Bool.eq_iff_iff,or_eq_true,beq_iff_eq,decide_eq_true_eq,decide_eq_true_eq,mem_cons]
  constructor
  ·rintro (h | h)
   ·exact .inl (by omega)
   ·exact .inr h
  ·rintro (h | h)
   ·exact .inl (by omega)
   ·exact .inr h
theorem X40(l:List Nat):h52 (l.map b30)=true:=by
 have e:l.map b30=(l.map λ(n:Nat)=>(n:Int)).map D.int:=by rw[List.map_map];rfl
 obtain⟨h1,h2⟩:=e41 (l.map λ(n:Nat)=>(n:Int))
 unfold h52
 rw[e,h1,h2];rfl
theorem G50{n:Nat}{l:List Nat}:a71 (b30 n) (l.map b30)=some (decide (n∈l)):=by
 unfold a71
 rw[X40,l61];rfl
theorem l71{n:Nat}(h:n < cs.length):T30 (.tup (cs.map pr)) (.int n)=some (pr (cf cs n)):=by
 rw[cf,List.getD_eq_getElem?_getD,List.getElem?_eq_getElem h]
 exact O00 (by rw[List.getElem?_map,List.getElem?_eq_getElem h];rfl)
section
variable {m:Int}{ps cs:List (Int × Int)}{pl:List Nat}
theorem C30(g:c10 m ps)(hp:c30 m pl):i52 ps.length (b40 ps m.toNat pl):=λa b ha hb h=>by
 have hm:∀ p∈pl,p < m.toNat:=λp q=>by have:=hp.lt p q;omega
 rw[Bool.eq_iff_iff]
 exact⟨good_mono g.rng hm hb λn hn=>(h n).mp hn,good_mono g.rng hm ha λn hn=>(h n).mpr hn⟩
theorem f11(g:c10 m ps)(hp:c30 m pl):∀ a b:List Nat,(∀ n∈b,n < ps.length)→(∀ n∈a,n∈b)→b40 ps m.toNat pl a=true→b40 ps m.toNat pl b=true:=λ_ _ hb hab h=>good_mono g.rng (λp q=>by have:=hp.lt p q;omega) hb hab h
def e40(m:Int)(ps cs:List (Int × Int))(pl:List Nat):Int × Int:=f30 (H00 (k90 ps.length) λlot=>if b40 ps m.toNat pl lot then amt (cf cs) ps.length lot else 0) (s10 cs)
theorem q40(g:c10 m ps)(hp:c30 m pl)(hc:cs.length=ps.length):e40 m ps cs pl=f30 (tot (b40 ps m.toNat pl) (cf cs) (range ps.length) []) (q30 (cf cs) (range ps.length)):=by
 have hg:=C30 g hp
 have h1:=O80 (c:=cf cs) hg ps.length [] (Nat.le_refl _) (λ_ h=>nomatch h)
 simp only[append_nil] at h1
 have hd:=X20 ps.length
 unfold e40
 rw[h1,r40 hg hd [] (λn hn=>List.mem_range.mp (hd.mem_iff.mp hn)) (λ_ h=>nomatch h),← hc,g02]
end
def frees(K:Nat)(held b00:List Nat):List Nat:=(range K).filter λn=>!(held.contains n || b00.contains n)
theorem j10:n∈frees K held b00↔n < K∧n ∉ held∧n ∉ b00:=by
 unfold frees
 rw[mem_filter,mem_range,not_eq_true',Bool.or_eq_false_iff,contains_eq_mem,contains_eq_mem,decide_eq_false_iff_not,decide_eq_false_iff_not]
theorem P30:(frees K held b00).Nodup:=List.Pairwise.filter _ nodup_range
theorem O91:frees K (held++[n]) b00=frees K held (b00++[n]):=by
 unfold frees
 refine filter_congr λk _=>?_
 rw[not_inj_iff,Bool.eq_iff_iff,or_eq_true,or_eq_true,contains_iff_mem,contains_iff_mem,contains_iff_mem,contains_iff_mem,mem_append,mem_append,mem_singleton,or_assoc,or_comm (a:=k=n)]
theorem y80(h1:n < K)(h2:n ∉ b00)(h3:n ∉ held):(frees K held b00).Perm (n::frees K held (b00++[n])):=by
 refine(List.perm_ext_iff_of_nodup P30 (List.nodup_cons.mpr ⟨λh=>(j10.mp h).2.2 (mem_append_right _ (List.mem_singleton.mpr rfl)),P30⟩)).mpr λk=>?_
 rw[mem_cons,j10,j10,mem_append,mem_singleton]
 constructor
 ·rintro ⟨a,b,c⟩
  by_cases e:k=n
  ·exact .inl e
  ·exact .inr ⟨a,b,λh=>h.elim c e⟩
 ·rintro (rfl | ⟨a,b,c⟩)
  ·exact⟨h1,h3,h2⟩
  ·exact⟨a,b,λh=>c (.inl h)⟩
section
variable {g:List Nat→Bool}{c:Nat→Int × Int}
theorem J70:∀ (ns held:List Nat),(∀ n∈ns,IsC (c n))→0≤tot g c ns held∧tot g c ns held≤q30 c ns
 |[],held,_=>by
  unfold tot
  show _∧_≤1
  split <;> decide
 |n::r,held,h=>by
  obtain⟨c1,c2,c3,c4,_⟩:=h n mem_cons_self
  have hr:=λk hk=>h k (mem_cons_of_mem _ hk)
  obtain⟨a0,a1⟩:=J70 r (n::held) hr
  obtain⟨b0,b1⟩:=J70 r held hr
  unfold tot
  rw[d40]
  have p1:=mul_nonneg c3 a0
  have p2:=mul_nonneg (show 0≤(c n).2 - (c n).1 by omega) b0
  have q1:=Int.mul_le_mul_of_nonneg_left a1 c3
  have q2:=Int.mul_le_mul_of_nonneg_left b1 (show 0≤(c n).2 - (c n).1 by omega)
  refine⟨by omega,?_⟩
  have e:(c n).2 * q30 c r=(c n).1 * q30 c r + ((c n).2 - (c n).1) * q30 c r:=by rw[← add_mul];congr 1;omega
  omega
theorem n10:∀ {ns:List Nat},(∀ n∈ns,IsC (c n))→0 < q30 c ns∧q30 c ns≤2 ^ (10 * ns.length)
 |[],_=>by show(0:Int) < 1∧(1:Int)≤1;omega
 |n::r,h=>by
  obtain⟨h1,h2⟩:=n10 λk hk=>h k (mem_cons_of_mem _ hk)
  obtain⟨c1,c2,_⟩:=h n mem_cons_self
  rw[d40]
  refine⟨mul_pos (by omega) h1,?_⟩
  rw[length_cons,mul_add,pow_add,Int.mul_comm]
  exact mul_le_mul h2 (by omega) (by omega) (Int.le_trans (Int.le_of_lt h1) h2)
end
structure Fr(v:Int × Int)(t b:Int):Prop where
 t0:0≤v.1
 b0:0 < v.2
 one:gcd v.1 v.2=1
 eq:v.1 * b=v.2 * t
theorem Fr.bd(h:Fr v t b)(hb:0 < b)(ht:t≤b)(hn:b≤2 ^ n):Bd n v:=by
 refine⟨h.t0,?_,h.b0,?_⟩
 ·refine Int.le_of_mul_le_mul_right (a:=b) ?_ hb
  rw[h.eq]
  exact Int.mul_le_mul_of_nonneg_left ht (Int.le_of_lt h.b0)
 ·exact Int.le_trans (le_of_dvd hb (E01 h.one ⟨t,h.eq⟩)) hn
theorem X50(h0:0 < b):(f30 t b).1 * b=(f30 t b).2 * t:=by
 obtain⟨e1,e2⟩:=O30 (t:=t) h0
 generalize (f30 t b).1=x at *
 generalize (f30 t b).2=y at *
 generalize ((gcd t b:Nat):Int)=k at *
 rw[e1,e2]
 grind
theorem Fr.low(hb:0 < b)(ht:0≤t):Fr (f30 t b) t b:=⟨Int.ediv_nonneg ht (Int.le_of_lt (q20 hb)),y70 hb,e81 hb,X50 hb⟩
theorem Fr.unique(h:Fr v t b)(hb:0 < b)(ht:0≤t):v=f30 t b:=by
 have l:=Fr.low hb ht
 have e:v.1 * (f30 t b).2=(f30 t b).1 * v.2:=by
  have h1:=h.eq
  have h2:=l.eq
  refine Int.eq_of_mul_eq_mul_right (a:=b) (by omega) ?_
  calc v.1 * (f30 t b).2 * b=(v.1 * b) * (f30 t b).2:=by rw[mul_assoc,Int.mul_comm (f30 t b).2,← mul_assoc]
   _=v.2 * ((f30 t b).2 * t):=by rw[h1,mul_assoc,Int.mul_comm t]
   _=(f30 t b).1 * v.2 * b:=by rw[← h2,← mul_assoc,Int.mul_comm v.2]
 obtain⟨a,b'⟩:=J50 h.b0 l.b0 h.one l.one e
 exact Prod.ext a b'
theorem Fr.step{t1 t0 b:Int}(hc:IsC c)(hv:Fr v t1 b)(hw:Fr w t0 b)(v1:v.1≤v.2)(w1:w.1≤w.2)(hb:0 < b)(h1:0≤t1)(h0:0≤t0) :
  Fr (f30 ((f30 (c.1 * v.1) (c.2 * v.2)).1 * (f30 ((c.2 - c.1) * w.1) (c.2 * w.2)).2 + (f30 ((c.2 - c.1) * w.1) (c.2 * w.2)).1 * (f30 (c.1 * v.1) (c.2 * v.2)).2) ((f30 (c.1 * v.1) (c.2 * v.2)).2 * (f30 ((c.2 - c.1) * w.1) (c.2 * w.2)).2)) (c.1 * t1 + (c.2 - c.1) * t0) (c.2 * b):=by
 obtain⟨c1,c2,c3,c4,_⟩:=hc
 have x:=Fr.low (t:=c.1 * v.1) (b:=c.2 * v.2) (mul_pos (by omega) hv.b0) (mul_nonneg c3 hv.t0)
 have y:=Fr.low (t:=(c.2 - c.1) * w.1) (b:=c.2 * w.2) (mul_pos (by omega) hw.b0) (mul_nonneg (by omega) hw.t0)
 generalize f30 (c.1 * v.1) (c.2 * v.2)=p at *
 generalize f30 ((c.2 - c.1) * w.1) (c.2 * w.2)=q at *
 have r:=Fr.low (t:=p.1 * q.2 + q.1 * p.2) (b:=p.2 * q.2) (mul_pos x.b0 y.b0) (by have:=mul_nonneg x.t0 (Int.le_of_lt y.b0);have:=mul_nonneg y.t0 (Int.le_of_lt x.b0);omega)
 refine⟨r.t0,r.b0,r.one,?_⟩
 have e1:=x.eq
 have e2:=y.eq
 have e3:=r.eq
 have e4:=hv.eq
 have e5:=hw.eq
 generalize (f30 (p.1 * q.2 + q.1 * p.2) (p.2 * q.2)).1=A at *
 generalize (f30 (p.1 * q.2 + q.1 * p.2) (p.2 * q.2)).2=B at *
 have m0:0 < (p.2 * q.2) * (v.2 * w.2):=mul_pos (mul_pos x.b0 y.b0) (mul_pos hv.b0 hw.b0)
 refine Int.eq_of_mul_eq_mul_right (a:=(p.2 * q.2) * (v.2 * w.2)) (by omega) ?_
 generalize c.2 - c.1=u at *
 calc A * (c.2 * b) * (p.2 * q.2 * (v.2 * w.2))=(A * (p.2 * q.2)) * (c.2 * b * (v.2 * w.2)):=by grind
  _=B * ((p.1 * (c.2 * v.2)) * q.2 * b * w.2 + (q.1 * (c.2 * w.2)) * p.2 * b * v.2):=by rw[e3];grind
  _=B * (p.2 * q.2 * w.2 * c.1 * (v.1 * b) + q.2 * p.2 * v.2 * u * (w.1 * b)):=by rw[e1,e2];grind
  _=B * (c.1 * t1 + u * t0) * (p.2 * q.2 * (v.2 * w.2)):=by rw[e4,e5];grind
def P40(k:Nat):List (List Nat):=(TS.sN k).map (TS.D30 k 0)
theorem X60(h:k≤8):k90 k=(range (2 ^ k)).map (TS.D30 k 0):=by
 have:∀ k,k < 9→k90 k=(range (2 ^ k)).map (TS.D30 k 0):=by decide +kernel
 exact this k (by omega)
theorem G60(h:k≤8):(P40 k).Perm (k90 k):=by
 have:∀ k,k < 9→(TS.sN k).isPerm (range (2 ^ k))=true:=by decide +kernel
 rw[X60 h]
 exact(List.isPerm_iff.mp (this k (by omega))).map _
theorem w42(h:k≤8):(k90 k).map x50=h70 k:=by
 rw[X60 h]
 unfold h70
 rw[List.map_map];rfl
theorem f21(h:k≤8):bfD .sorted [.lst ((k90 k).map x50)]=some (.fr ((P40 k).map x50)):=by
 have h1:∀ k,k < 9→s40 (h70 k)=false:=by decide +kernel
 have h2:∀ k,k < 9→((range 9).find? λj=>Z00 (h70 k) (h70 j))=some k:=by decide +kernel
 rw[w42 h]
 show(if (h70 k).length < 64∧s40 (h70 k)=true then some (S.fr (A70 (h70 k))) else((((range 9).find? λj=>Z00 (h70 k) (h70 j)).map L01).map S.fr))=_
 rw[if_neg (λq=>by rw[h1 k (by omega)] at q;cases q.2),h2 k (by omega)]
 show some (S.fr (L01 k))=some (S.fr ((P40 k).map x50))
 rw[P40,List.map_map];rfl
theorem f31(k:Nat)(h8:ts.length≤8)(z:Z):b10 T (k + 3) J00 [.d (.tup [.int m,.tup ts])] z=some (.ok (.fr ((P40 ts.length).map x50)) z):=by
 refine W.ok (g00 (ps:=1) (ns:=3) (b:=y30) rfl rfl (by decide) ?_)
 refine(a00 (P10 (n:=ts.length) (by omega)) ?_ :)
 refine d51 (λxs ρ z1=>z1=z∧∃ (j r:Nat) (o2:Option S),j + r=ts.length∧xs=(range' j r).map b30∧ρ=[some (.d (.tup [.int m,.tup ts])),some (.fr ((k90 j).map x50)),o2]) _ ⟨rfl,0,ts.length,none,zero_add _,rfl,rfl⟩ ?_ ?_
 ·rintro x r ρ z1 ⟨rfl,j,r',o2,hj,e,rfl⟩
  cases r' with
  |zero=>cases e
  |succ r' =>
   rw[List.range'_succ] at e
   cases e
   have hp:=E41 (j:=j) (by omega)
   refine ip (by rw[length_map,C20];simp only[most];omega) (d61 (L92 j) (λy hy=>?_) ?_)
   ·obtain⟨l,hl,rfl⟩:=List.mem_map.mp hy
    have:=P00 hl
    refine(a00 (O71 (a:=l.map b30) (b:=[b30 j]) (by rw[length_map];show _ + 1≤_;omega)) ?_ :)
    exact⟨rfl,rfl⟩
   ·rw[O81]
    refine(a00 (add_l (a:=(k90 j).map x50) (b:=((k90 j).map (·++[j])).map x50) (by rw[length_map,length_map,length_map,C20];omega)) ?_ :)
    refine⟨rfl,j + 1,r',some (.d (b30 j)),by omega,rfl,?_⟩
    exact congrArg (λl=>[some (S.d (.tup [.int m,.tup ts])),some (.fr l),some (.d (b30 j))]) List.map_append.symm
 ·rintro ρ z1 ⟨rfl,j,r',o2,hj,e,rfl⟩
  cases r' with
  |zero =>
   have hj:j=ts.length:=hj
   subst hj
   refine(a00 (f21 h8) ?_ :)
   exact sd rfl
  |succ r'=>rw[List.range'_succ] at e;cases e
def X70:D→List Nat
 |.tup l=>l.map λx=>match x with | .int i=>i.toNat | _=>0
 |_=>[]
theorem C40(l:List Nat):X70 (x50 l)=l:=by
 show(l.map b30).map _=l
 rw[List.map_map]
 exact map_id l
theorem g12(h:k≤8)(hl:lot∈P40 k):∀ n∈lot,n < k:=G40 ((G60 h).mem_iff.mp hl)
theorem l81(h:k≤8):(P40 k).length≤256:=by rw[(G60 h).length_eq,C20];exact E41 h
section
variable {m:Int}{ps cs:List (Int × Int)}{pl:List Nat}
abbrev E51(m:Int)(ps:List (Int × Int))(pl:List Nat):List (List Nat):=(P40 ps.length).filter (b40 ps m.toNat pl)
theorem X80(k:Nat)(g:c10 m ps)(hp:c30 m pl)(z:Z):b10 T (k + 9) F40 [.d (x00 m ps),.d (.tup (pl.map b30))] z=some (.ok (.fr ((E51 m ps pl).map x50)) z):=by
 have h8:=g.len
 have h6:=hp.len g.m6
 refine W.ok (g00 (ps:=2) (ns:=2) (b:=u30) rfl rfl (by decide) (Wo (f00 k z g.web) (Wo (e10 (k + 2) (t:=.tup (ps.map pr)) z hp.pls (decide_eq_true (by rw[length_map];omega))) (Wo (f31 (k + 5) (m:=m) (ts:=ps.map pr) (by rw[length_map];exact h8) z) ?_))))
 rw[length_map]
 refine ip (by rw[length_map];exact o00 (Nat.le_trans (l81 h8) (by decide))) (i32 (λx=>b40 ps m.toNat pl (X70 x)) id (λx hx=>?_) ?_)
 ·obtain⟨l,hl,rfl⟩:=List.mem_map.mp hx
  refine Wo (c40 (k + 4) g hp (Row.t l) (g12 h8 hl) z) ⟨?_,rfl,λ_=>⟨rfl,rfl⟩⟩
  rw[C40]
 ·refine sd ?_
  rw[map_id,filter_map]
  have:(P40 ps.length).filter ((λx=>b40 ps m.toNat pl (X70 x)) ∘ x50)=E51 m ps pl:=filter_congr λl _=>by show b40 ps m.toNat pl (X70 (x50 l))=_;rw[C40]
  rw[this]
theorem p41(k:Nat)(hl:cs.length≤8)(ha:∀ c∈cs,IsC c)(lot:List Nat)(z:Z):b10 T (k + 3) V90 [.d (.tup (cs.map pr)),.d (x50 lot)] z=some (.ok (.d (.int (amt (cf cs) cs.length lot))) z):=by
 refine W.ok (g00 (ps:=2) (ns:=6) (b:=G00) rfl rfl (by decide) ?_)
 refine d51 (λxs ρ z1=>z1=z∧∃ (j:Nat) (o3 o4 o5:Option S),j≤cs.length∧xs=t40 ((cs.drop j).map pr) j∧ρ=[some (.d (.tup (cs.map pr))),some (.d (x50 lot)),some (.d (.int (amt (cf cs) j lot))),o3,o4,o5]) _ ⟨rfl,0,none,none,none,zero_le _,rfl,(itE (by show(t50 _&&true)=true;rw[C10];rfl)).trans rfl⟩ ?_ ?_
 ·rintro x r ρ z1 ⟨rfl,j,o3,o4,o5,hj,e,rfl⟩
  by_cases h:j < cs.length
  ·rw[List.drop_eq_getElem_cons h] at e
   cases e
   have ec:cs[j]=cf cs j:=by rw[cf,List.getD_eq_getElem?_getD,List.getElem?_eq_getElem h];rfl
   rw[ec]
   obtain⟨a1,a2⟩:=T81 (lot:=lot) ha (j:=j) (by omega)
   refine(a00 (G50 (n:=j) (l:=lot)) ?_ :)
   have fin:∀ w:Int,0≤w→w≤1000→w=(if j∈lot then(cf cs j).1 else(cf cs j).2 - (cf cs j).1)→E00 .mul (.int (amt (cf cs) j lot)) (.int w)=some (.d (.int (amt (cf cs) (j + 1) lot))):=λw w0 w1 e=>by
    rw[e71 a1 (G30 (n:=10 * j) (by omega) a2) w0 (w90 (by omega)),r50,e]
   obtain⟨w1,w2⟩:=(u80 ha h).w (j∈lot)
   refine ib (b:=decide (j∈lot)) (λhm=>?_) λhm=>?_
   ·rw[decide_eq_true_eq] at hm
    rw[if_pos hm] at w1 w2
    refine(a00 (fin _ w1 w2 (by rw[if_pos hm])) ?_ :)
    exact⟨rfl,j + 1,_,_,_,h,rfl,rfl⟩
   ·rw[decide_eq_false_iff_not] at hm
    rw[if_neg hm] at w1 w2
    refine(a00 (fin _ w1 w2 (by rw[if_neg hm])) ?_ :)
    exact⟨rfl,j + 1,_,_,_,h,rfl,rfl⟩
  ·rw[List.drop_eq_nil_of_le (by omega)] at e;cases e
 ·rintro ρ z1 ⟨rfl,j,o3,o4,o5,hj,e,rfl⟩
  by_cases h:j < cs.length
  ·rw[List.drop_eq_getElem_cons h] at e;cases e
  ·have hj:j=cs.length:=by omega
   subst hj
   exact sd rfl
theorem H70(k:Nat)(hl:cs.length≤8)(ha:∀ c∈cs,IsC c)(z:Z):b10 T (k + 3) w50 [.d (.tup (cs.map pr))] z=some (.ok (.d (.int (s10 cs))) z):=by
 obtain⟨b0,b1⟩:=P20 ha
 refine W.ok (g00 (ps:=1) (ns:=3) (b:=m70) rfl rfl (by decide) ?_)
 refine d51 (λxs ρ z2=>z2=z∧∃ (rest:List (Int × Int)) (b:Int) (o:Option S),xs=rest.map pr∧(∀ c∈rest,IsC c)∧0 < b∧b * s10 rest=s10 cs∧ρ=[some (.d (.tup (cs.map pr))),some (.d (.int b)),o]) _ ⟨rfl,cs,1,none,rfl,ha,by decide,one_mul _,(itE (by show(t50 _&&true)=true;rw[C10];rfl)).trans rfl⟩ ?_ ?_
 ·rintro x r ρ z2 ⟨rfl,rest,b,o,e,hr,hb,ht,rfl⟩
  cases rest with
  |nil=>cases e
  |cons c rest =>
   cases e
   have hc':=hr c mem_cons_self
   have hr':∀ c∈rest,IsC c:=λd hd=>hr d (mem_cons_of_mem _ hd)
   have ht':b * (c.2 * s10 rest)=s10 cs:=ht
   have p0:=(P20 hr').1
   have hle:b≤s10 cs:=by
    rw[← ht']
    have h1:0 < c.2 * s10 rest:=mul_pos (by have:=hc'.1;omega) p0
    have:b * 1≤b * (c.2 * s10 rest):=Int.mul_le_mul_of_nonneg_left (by omega) (by omega)
    omega
   refine(a00 (e71 (i:=b) (j:=c.2) (by omega) (G30 (n:=10 * cs.length) (by omega) (Int.le_trans hle b1)) (by have:=hc'.1;omega) (w90 (by have:=hc'.2.1;omega))) ?_ :)
   exact⟨rfl,rest,b * c.2,_,rfl,hr',mul_pos hb (by have:=hc'.1;omega),by rw[mul_assoc];exact ht',rfl⟩
 ·rintro ρ z2 ⟨rfl,rest,b,o,e,hr,hb,ht,rfl⟩
  cases rest with
  |cons _ _=>cases e
  |nil =>
   have ht:b * 1=s10 cs:=ht
   rw[Int.mul_one] at ht
   subst ht
   exact sd rfl
theorem sum_ints(f:List Nat→Int):∀ ls:List (List Nat),L11 ((ls.map x50).map λx=>.int (f (X70 x)))=some (H00 ls f)
 |[]=>rfl
 |l::r=>by
  show(L11 ((r.map x50).map λx=>.int (f (X70 x)))).map (f (X70 (x50 l)) + ·)=_
  rw[sum_ints f r,C40];rfl
theorem P50(k:Nat)(hl:cs.length≤8)(ha:∀ c∈cs,IsC c)(hls:ls.length≤256)(z:Z):b10 T (k + 5) p20 [.d (.tup (cs.map pr)),.d (.lst (ls.map x50))] z=some (.ok (.d (pr (f30 (H00 ls (amt (cf cs) cs.length)) (s10 cs)))) z):=by
 obtain⟨b0,b1⟩:=P20 ha
 refine W.ok (g00 (ps:=2) (ns:=2) (b:=p90) rfl rfl (by decide) ?_)
 refine ip (by rw[length_map];exact o00 (by omega)) (d61 (λx=>.int (amt (cf cs) cs.length (X70 x))) (λx hx=>?_) ?_)
 ·obtain⟨l,_,rfl⟩:=List.mem_map.mp hx
  refine Wo (p41 (k + 1) hl ha l z) ⟨?_,rfl⟩
  rw[C40]
 ·refine(a00 (o:=bfD .sum [.lst _]) (a:=.d (.int (H00 ls (amt (cf cs) cs.length)))) (by show(((a91 (.lst _)).bind L11).map _)=_;show(L11 _).map _=_;rw[sum_ints];rfl) ?_ :)
  exact Wo (H70 (k + 1) hl ha z) (Wo (G20 k _ _ z b0 (G30 (n:=10 * cs.length) (by omega) b1)) (sd rfl))
theorem E61(h:a.Perm b):H00 a f=H00 b f:=by
 unfold H00
 exact(h.map f).foldr_eq' (λx _ y _ z=>by omega) 0
theorem X90(g:List Nat→Bool)(f:List Nat→Int):∀ a:List (List Nat),H00 (a.filter g) f=H00 a λl=>if g l then f l else 0
 |[]=>rfl
 |x::r=>by
  have ih:=X90 g f r
  show _=(if g x=true then f x else 0) + H00 r _
  rw[List.filter_cons,← ih]
  cases g x with
  |true=>rfl
  |false=>show _=0 + _;rw[Int.zero_add];rfl
theorem P60(k:Nat)(g:c10 m ps)(hc:cs.length=ps.length)(ha:∀ c∈cs,IsC c)(z:Z):b10 T (k + 5) p20 [.d (.tup (cs.map pr)),.d (.lst ((E51 m ps pl).map x50))] z=some (.ok (.d (pr (e40 m ps cs pl))) z):=by
 have h8:=g.len
 rw[P50 k (by omega) ha (Nat.le_trans (length_filter_le _ _) (l81 h8)) z,X90,E61 (G60 h8),hc]
 rfl
theorem l91(g:c10 m ps)(hp:c30 m pl)(hc:cs.length=ps.length)(ha:∀ c∈cs,IsC c):Bd 80 (e40 m ps cs pl):=by
 have h8:=g.len
 have hcf:∀ n∈range ps.length,IsC (cf cs n):=λn hn=>u80 ha (by rw[hc];exact List.mem_range.mp hn)
 obtain⟨b0,b1⟩:=n10 hcf
 obtain⟨t0,t1⟩:=J70 (g:=b40 ps m.toNat pl) _ [] hcf
 rw[q40 g hp hc]
 refine(Fr.low b0 t0).bd b0 t1 (Int.le_trans b1 ?_)
 rw[length_range]
 exact_mod_cast Nat.pow_le_pow_right (n:=2) (by decide) (show 10 * ps.length≤80 by omega)
theorem C50(k:Nat)(g:c10 m ps)(hp:c30 m pl)(hc:cs.length=ps.length)(ha:∀ c∈cs,IsC c)(z:Z):b10 T (k + 11) F50 [.d (x00 m ps),.d (.tup (cs.map pr)),.d (.tup (pl.map b30))] z=some (.ok (.d (pr (e40 m ps cs pl))) z):=by
 have h6:=hp.len g.m6
 exact W.ok (g00 (ps:=3) (ns:=3) (b:=e01) rfl rfl (by decide) (Wo (n80 k (m:=m) (ts:=ps.map pr) g.web z (T61 (by rw[length_map];exact hc) ha)) (Wo (e10 (k + 4) (t:=.tup (ps.map pr)) z hp.pls (decide_eq_true (by rw[length_map];omega))) (Wo (X80 (k + 1) g hp z) (Wo (P60 (k + 5) g hc ha z) (sd rfl))))))
end
def tl:Sm→Sm
 |.seq _ r=>r
 |s=>s
structure Bs(n:Nat)(c:Int × Int):Prop where
 t:c.1.natAbs≤2 ^ n
 b0:0 < c.2
 b:c.2.natAbs≤2 ^ n
theorem P70(h:n≤3999)(hi:i≤2 ^ n):i < I30:=Nat.lt_of_le_of_lt hi (Nat.pow_lt_pow_right (by decide) (by omega))
theorem E71(h:n≤3999)(hi:i.natAbs≤2 ^ n)(hj:j.natAbs≤2 ^ n):E00 .mul (.int i) (.int j)=some (.d (.int (i * j))):=by
 show(if i.natAbs < I30∧j.natAbs < I30 then some (S.d (.int (i * j))) else none)=_
 rw[if_pos ⟨P70 h hi,P70 h hj⟩]
theorem P80{n m:Nat}{i j:Int}(hi:i.natAbs≤2 ^ n)(hj:j.natAbs≤2 ^ m):(i * j).natAbs≤2 ^ (n + m):=by
 rw[natAbs_mul,Nat.pow_add];exact Nat.mul_le_mul hi hj
theorem E81(h:n≤3999)(hi:i.natAbs≤2 ^ n):big i:=by
 have:=P70 h hi
 show i < 2 ^ 4000
 have e:((I30:Nat):Int)=2 ^ 4000:=by unfold I30;exact natCast_pow 2 4000
 rw[← e];omega
theorem Bd.s(h:Bd n c):Bs n c:=by
 have e:((2 ^ n:Nat):Int)=2 ^ n:=natCast_pow 2 n
 have h1:=h.t0;have h2:=h.tb;have h3:=h.b0;have h4:=h.bb
 rw[← e] at h4
 exact⟨by omega,h3,by omega⟩
theorem IsC.s(h:IsC c):Bs 10 c:=by
 obtain⟨h1,h2,h3,h4,_⟩:=h
 exact⟨by show _≤1024;omega,by omega,by show _≤1024;omega⟩
theorem p51(k:Nat)(hc:Bs n c)(hd:Bs n d)(hn:n + n≤3999)(z:Z):b10 T (k + 4) F60 [.d (pr c),.d (pr d)] z=some (.ok (.d (pr (f30 (c.1 * d.2 + d.1 * c.2) (c.2 * d.2)))) z):=by
 have h1:n≤3999:=by omega
 refine W.ok (g00 (ps:=2) (ns:=2) (b:=u40) rfl rfl (by decide) ?_)
 refine(a00 (E71 h1 hc.t hd.b) ?_ :)
 refine(a00 (E71 h1 hd.t hc.b) ?_ :)
 refine(a00 (E71 h1 hc.b hd.b) ?_ :)
 exact Wo (y60 k _ _ z (mul_pos hc.b0 hd.b0) (E81 hn (P80 hc.b hd.b))) (sd rfl)
theorem E91(h0:0 < b):(f30 t b).1.natAbs≤t.natAbs∧(f30 t b).2.natAbs≤b.natAbs:=by
 obtain⟨e1,e2⟩:=O30 (t:=t) h0
 have g0:=q20 (t:=t) h0
 generalize f30 t b=v at *
 generalize hg:gcd t b=g at *
 have g1:1≤g:=by omega
 constructor
 ·rw[e1,natAbs_mul,Int.natAbs_natCast];exact Nat.le_mul_of_pos_left _ g1
 ·rw[e2,natAbs_mul,Int.natAbs_natCast];exact Nat.le_mul_of_pos_left _ g1
structure Rt(v:Int × Int)(t b:Int):Prop where
 b0:0 < v.2
 one:gcd v.1 v.2=1
 eq:v.1 * b=t * v.2
theorem Rt.low(hb:0 < b):Rt (f30 t b) t b:=⟨y70 hb,e81 hb,by rw[X50 hb,Int.mul_comm]⟩
theorem Rt.conv(h:Rt v t b)(hb:0 < b)(e:t * b'=t' * b):Rt v t' b':=by
 refine⟨h.b0,h.one,Int.eq_of_mul_eq_mul_right (a:=b) (by omega) ?_⟩
 have:=h.eq
 calc v.1 * b' * b=(v.1 * b) * b':=by grind
  _=(t * b') * v.2:=by rw[this];grind
  _=t' * v.2 * b:=by rw[e];grind
theorem Rt.eqv(hv:Rt v t b)(hw:Rt w t b)(hb:0 < b):v=w:=by
 have e:v.1 * w.2=w.1 * v.2:=by
  have h1:=hv.eq
  have h2:=hw.eq
  refine Int.eq_of_mul_eq_mul_right (a:=b) (by omega) ?_
  calc v.1 * w.2 * b=(v.1 * b) * w.2:=by grind
   _=(t * w.2) * v.2:=by rw[h1];grind
   _=w.1 * v.2 * b:=by rw[← h2];grind
 obtain⟨a,b'⟩:=J50 hv.b0 hw.b0 hv.one hw.one e
 exact Prod.ext a b'
theorem Rt.add(hv:Rt v t b)(hw:Rt w t' b'):Rt (f30 (v.1 * w.2 + w.1 * v.2) (v.2 * w.2)) (t * b' + t' * b) (b * b'):=by
 have y:=mul_pos hv.b0 hw.b0
 refine(Rt.low y).conv y ?_
 have h1:=hv.eq
 have h2:=hw.eq
 calc (v.1 * w.2 + w.1 * v.2) * (b * b')=(v.1 * b) * (w.2 * b') + (w.1 * b') * (v.2 * b):=by grind
  _=(t * b' + t' * b) * (v.2 * w.2):=by rw[h1,h2];grind
theorem Rt.mul(hv:Rt v t b)(hw:Rt w t' b'):Rt (f30 (v.1 * w.1) (v.2 * w.2)) (t * t') (b * b'):=by
 have y:=mul_pos hv.b0 hw.b0
 refine(Rt.low y).conv y ?_
 have h1:=hv.eq
 have h2:=hw.eq
 calc v.1 * w.1 * (b * b')=(v.1 * b) * (w.1 * b'):=by grind
  _=t * t' * (v.2 * w.2):=by rw[h1,h2];grind
theorem IsC.rt(h:IsC c):Rt c c.1 c.2:=⟨by have:=h.1;omega,h.2.2.2.2,rfl⟩
section
variable {g:List Nat→Bool}{c c':Nat→Int × Int}
theorem G70:∀ (ns held:List Nat),(∀ n∈ns,c n=c' n)→tot g c ns held=tot g c' ns held
 |[],_,_=>rfl
 |n::r,held,h=>by
  unfold tot
  rw[h n mem_cons_self,G70 r held λk hk=>h k (mem_cons_of_mem _ hk),G70 r (n::held) λk hk=>h k (mem_cons_of_mem _ hk)]
theorem p61(h:∀ n∈ns,c n=c' n):q30 c ns=q30 c' ns:=by
 unfold q30
 rw[map_congr_left λn hn=>by rw[h n hn]]
end
abbrev Tr:=(Int × Int) × Nat
def trD(t:Tr):D:=.tup [pr t.1,b30 t.2]
def tk(t:Tr):List Int:=[t.1.1,t.1.2,(t.2:Int)]
def G61(k:Tr):List Tr→List Tr
 |[]=>[k]
 |y::r=>if MySort.g60 (tk y) (tk k) then y::G61 k r else k::y::r
def p71:List Tr→List Tr
 |[]=>[]
 |k::r=>G61 k (p71 r)
theorem Y00(k:Tr):∀ l,(G61 k l).Perm (k::l)
 |[]=>.refl _
 |y::r=>by
  unfold G61
  split
  ·exact((Y00 k r).cons y).trans (.swap _ _ _)
  ·exact .refl _
theorem J80:∀ l,(p71 l).Perm l
 |[]=>.refl _
 |k::r=>(Y00 k _).trans ((J80 r).cons k)
theorem F01:HT.leB (ky p) (ky q)=true↔p.1 < q.1∨(p.1=q.1∧p.2≤q.2):=by
 unfold HT.leB ky
 rw[I82]
 by_cases h1:q.1=p.1
 ·rw[if_pos h1]
  by_cases h2:q.2=p.2
  ·rw[if_pos h2];simp;omega
  ·rw[if_neg h2];simp;omega
 ·rw[if_neg h1];simp;omega
theorem w52:MySort.g60 (tk p) (tk q)=true↔p.1.1 < q.1.1∨(p.1.1=q.1.1∧(p.1.2 < q.1.2∨(p.1.2=q.1.2∧p.2 < q.2))):=by
 show(if p.1.1=q.1.1 then(if p.1.2=q.1.2 then(if (p.2:Int)=q.2 then false else decide ((p.2:Int) < q.2)) else decide (p.1.2 < q.1.2)) else decide (p.1.1 < q.1.1))=true↔_
 by_cases h1:p.1.1=q.1.1
 ·rw[if_pos h1]
  by_cases h2:p.1.2=q.1.2
  ·rw[if_pos h2]
   by_cases h3:(p.2:Int)=q.2
   ·rw[if_pos h3];simp;omega
   ·rw[if_neg h3,decide_eq_true_eq];omega
  ·rw[if_neg h2,decide_eq_true_eq];omega
 ·rw[if_neg h1,decide_eq_true_eq];omega
theorem w62(h:MySort.g60 (tk p) (tk q)=true):HT.leB (ky p.1) (ky q.1)=true:=by rw[F01];rw[w52] at h;omega
theorem w72(h:¬ MySort.g60 (tk p) (tk q)=true):HT.leB (ky q.1) (ky p.1)=true:=by rw[F01];rw[w52] at h;omega
theorem F11(k:Tr):∀ l:List Tr,Ch (l.map (·.1))→Ch ((G61 k l).map (·.1))
 |[],_=>trivial
 |[y],_=>by
  unfold G61
  split
  ·rename_i h;exact⟨w62 h,trivial⟩
  ·rename_i h;exact⟨w72 h,trivial⟩
 |y::x::r,h=>by
  obtain⟨h1,h2⟩:=h
  have ih:=F11 k (x::r) h2
  unfold G61
  split
  ·rename_i hy
   unfold G61 at ih ⊢
   split at ih
   ·rename_i hx;rw[if_pos hx];exact⟨h1,ih⟩
   ·rename_i hx;rw[if_neg hx];exact⟨w62 hy,ih⟩
  ·rename_i hy;exact⟨w72 hy,h1,h2⟩
theorem m01:∀ l:List Tr,Ch ((p71 l).map (·.1))
 |[]=>trivial
 |k::r=>F11 k _ (m01 r)
theorem F21(k:Tr):∀ l:List Tr,q51 (trD k) (l.map trD)=(G61 k l).map trD
 |[]=>rfl
 |y::r=>by
  unfold G61
  show(if MySort.g60 (tk y) (tk k) then trD y::q51 (trD k) (r.map trD) else trD k::trD y::r.map trD)=_
  split
  ·rw[F21 k r];rfl
  ·rfl
theorem m11:∀ l:List Tr,A70 (l.map trD)=(p71 l).map trD
 |[]=>rfl
 |k::r=>by
  show q51 (trD k) (A70 (r.map trD))=_
  rw[m11 r,F21];rfl
theorem g22(p q:Tr):l30 (trD p) (trD q)=true:=by
 have e:ltD (trD p) (trD q)=some (MySort.g60 (tk p) (tk q)):=by
  show(if ((p.1.1 == q.1.1)&&((p.1.2 == q.1.2)&&true))=true then(if ((p.2:Int) == q.2)=true then some false else some (decide ((p.2:Int) < q.2))) else ltD (pr p.1) (pr q.1))=some (if p.1.1=q.1.1 then(if p.1.2=q.1.2 then(if (p.2:Int)=q.2 then false else decide ((p.2:Int) < q.2)) else decide (p.1.2 < q.1.2)) else decide (p.1.1 < q.1.1))
  rw[v82]
  unfold ky
  rw[I82]
  by_cases h1:p.1.1=q.1.1 <;> by_cases h2:p.1.2=q.1.2 <;> by_cases h3:(p.2:Int)=q.2 <;> simp[h1,h2,h3]
 unfold l30
 rw[e]
 show(true&&((some (MySort.g60 (tk p) (tk q)) == some (MySort.g60 (tk p) (tk q)))&&((((p.1.1 == q.1.1)&&((p.1.2 == q.1.2)&&true))&&(((p.2:Int) == q.2)&&true)) || !([p.1.1,p.1.2,(p.2:Int)] == [q.1.1,q.1.2,(q.2:Int)]))))=true
 rw[beq_self_eq_true,Bool.true_and,Bool.true_and,Bool.and_true,Bool.and_true]
 by_cases h1:p.1.1=q.1.1 <;> by_cases h2:p.1.2=q.1.2 <;> by_cases h3:(p.2:Int)=q.2 <;> simp[h1,h2,h3]
theorem F31(h:l.length < 64):bfD .sorted [.lst (l.map trD)]=some (.fr ((p71 l).map trD)):=by
 have ok:s40 (l.map trD)=true:=by
  refine List.all_eq_true.mpr λx hx=>?_
  obtain⟨p,_,rfl⟩:=List.mem_map.mp hx
  show(true&&(true&&(l.map trD).all (l30 (trD p))))=true
  refine List.all_eq_true.mpr λy hy=>?_
  obtain⟨q,_,rfl⟩:=List.mem_map.mp hy
  exact g22 p q
 show(if (l.map trD).length < 64∧s40 (l.map trD)=true then some (S.fr (A70 (l.map trD))) else(C62 (l.map trD)).map S.fr)=_
 rw[if_pos ⟨by rw[length_map];exact h,ok⟩,m11]
theorem w82:∀ {l:List (Int × Int)},Ch l→l.Pairwise λp q=>HT.leB (ky p) (ky q)=true
 |[],_=>.nil
 |[a],_=>List.pairwise_singleton _ _
 |a::b::r,h=>by
  have ih:=w82 h.2
  refine .cons (λq hq=>?_) ih
  rcases List.mem_cons.mp hq with rfl | hq
  ·exact h.1
  ·have h1:=F01.mp h.1
   have h2:=F01.mp (List.rel_of_pairwise_cons ih hq)
   rw[F01];omega
theorem w92:∀ {l:List (Int × Int)},l.Pairwise (λp q=>HT.leB (ky p) (ky q)=true)→Ch l
 |[],_=>trivial
 |[a],_=>trivial
 |a::b::r,h=>⟨List.rel_of_pairwise_cons h mem_cons_self,w92 h.of_cons⟩
theorem c10.cut(g:c10 m ps)(n:Nat):c10 m (ps.eraseIdx n) :=
 ⟨g.m1,g.m6,Nat.le_trans (List.length_eraseIdx_le ..) g.len,λp hp=>g.tie p ((List.eraseIdx_sublist _ _).mem hp),w92 ((w82 g.ch).sublist (List.eraseIdx_sublist _ _))⟩
section
variable {g g':List Nat→Bool}{c c':Nat→Int × Int}
theorem P90(hg:∀ l:List Nat,(∀ j∈l,j < K)→g' l=g (l.map old++base))(hc:∀ j,c' j=c (old j)):∀ js h:List Nat,(∀ j∈js,j < K)→(∀ j∈h,j < K)→tot g' c' js h=tot g c (js.map old) (h.map old++base)
 |[],h,_,hh=>by unfold tot;rw[hg h hh];rfl
 |j::r,h,hj,hh=>by
  have hr:=λk hk=>hj k (mem_cons_of_mem _ hk)
  have i1:=P90 hg hc r (j::h) hr λk hk=>by
   rcases List.mem_cons.mp hk with rfl | hk
   ·exact hj _ mem_cons_self
   ·exact hh k hk
  have i2:=P90 hg hc r h hr hh
  show(c' j).1 * tot g' c' r (j::h) + ((c' j).2 - (c' j).1) * tot g' c' r h=(c (old j)).1 * tot g c (r.map old) (old j::(h.map old++base)) + ((c (old j)).2 - (c (old j)).1) * tot g c (r.map old) (h.map old++base)
  rw[i1,i2,hc j];rfl
theorem m21(hc:∀ j,c' j=c (old j))(js:List Nat):q30 c' js=q30 c (js.map old):=by
 unfold q30
 rw[List.map_map]
 exact congrArg (List.foldr _ _) (map_congr_left λj _=>by rw[hc j];rfl)
theorem Q00(hs:i52 N g)(hi:i < N)(he:∀ l:List Nat,(∀ k∈l,k < N)→n∈l→g (i::l)=g l):∀ r h:List Nat,(∀ k∈r,k < N)→(∀ k∈h,k < N)→n∈h→tot g c r (i::h)=tot g c r h
 |[],h,_,hh,hn=>by unfold tot;rw[he h hh hn]
 |k::r,h,hr,hh,hn=>by
  have hr':=λj hj=>hr j (mem_cons_of_mem _ hj)
  have hk:=hr k mem_cons_self
  have hkh:∀ j∈k::h,j < N:=λj hj=>by
   rcases List.mem_cons.mp hj with rfl | hj
   ·exact hk
   ·exact hh j hj
  have i1:=Q00 hs hi he r (k::h) hr' hkh (mem_cons_of_mem _ hn)
  have i2:=Q00 hs hi he r h hr' hh hn
  have e:tot g c r (k::i::h)=tot g c r (i::k::h):=x10 hs r _ _ hr' (λj hj=>by
   rcases List.mem_cons.mp hj with rfl | hj
   ·exact hk
   ·rcases List.mem_cons.mp hj with rfl | hj
    ·exact hi
    ·exact hh j hj) (λj hj=>by
   rcases List.mem_cons.mp hj with rfl | hj
   ·exact hi
   ·exact hkh j hj) λj=>by simp only[mem_cons];exact⟨λq=>by rcases q with q | q | q <;> simp[q],λq=>by rcases q with q | q | q <;> simp[q]⟩
  unfold tot
  rw[e,i1,i2]
theorem Y10(hs:i52 N g):∀ (al r h:List Nat),(∀ i∈al,i < N∧∀ l:List Nat,(∀ k∈l,k < N)→n∈l→g (i::l)=g l)→(∀ k∈r,k < N)→(∀ k∈h,k < N)→n∈h→tot g c (al++r) h=q30 c al * tot g c r h
 |[],r,h,_,_,_,_=>by show tot g c r h=1 * _;rw[one_mul]
 |i::al,r,h,ha,hr,hh,hn=>by
  obtain⟨i1,i2⟩:=ha i mem_cons_self
  have ih:=Y10 hs al r h (λk hk=>ha k (mem_cons_of_mem _ hk)) hr hh hn
  have hal:∀ k∈al++r,k < N:=λk hk=>by
   rcases List.mem_append.mp hk with hk | hk
   ·exact(ha k (mem_cons_of_mem _ hk)).1
   ·exact hr k hk
  show(c i).1 * tot g c (al++r) (i::h) + ((c i).2 - (c i).1) * tot g c (al++r) h=_
  rw[Q00 hs i1 i2 _ h hal hh hn,ih,d40]
  rw[mul_assoc]
  generalize q30 c al * tot g c r h=x
  rw[← add_mul,show(c i).1 + ((c i).2 - (c i).1)=(c i).2 by omega]
end
def nm(A B p:Nat):Nat:=if p=B then A else if B < p then p - 1 else p
def rn(A B:Nat)(p:Int × Int):Int × Int:=(((min (nm A B p.1.toNat) (nm A B p.2.toNat):Nat):Int),((max (nm A B p.1.toNat) (nm A B p.2.toNat):Nat):Int))
theorem F41(h1:A < B)(h2:B < m)(h:p < m):nm A B p < m - 1:=by
 unfold nm
 split
 ·omega
 ·split <;> omega
theorem g32{A B p:Nat}(h1:A < B){f:Nat→Int}(hf:f A=f B):f (if nm A B p < B then nm A B p else nm A B p + 1)=f p:=by
 unfold nm
 by_cases e:p=B
 ·rw[if_pos e,if_pos h1,e];exact hf
 ·rw[if_neg e]
  by_cases l:B < p
  ·rw[if_pos l,if_neg (by omega),show p - 1 + 1=p by omega]
  ·rw[if_neg l,if_pos (by omega)]
theorem I92(h1:A < B)(h:x < y)(hn:¬ (x=A∧y=B)):nm A B x≠nm A B y:=by
 unfold nm
 split <;> split <;> (try split) <;> (try split) <;> omega
abbrev pf(ps:List (Int × Int))(i:Nat):Int × Int:=ps.getD i (0,0)
section
variable {m:Int}{ps cs:List (Int × Int)}{pl:List Nat}
theorem T91(h:i < ps.length):pf ps i∈ps:=by
 rw[pf,List.getD_eq_getElem?_getD,List.getElem?_eq_getElem h];exact getElem_mem h
def kept(ps:List (Int × Int))(n:Nat):List Nat:=(range ps.length).filter λi=>!(pf ps i == pf ps n)
def u90(ps:List (Int × Int))(n:Nat):List Tr:=p71 ((kept ps n).map λi=>(rn (tA ps n) (tB ps n) (pf ps i),i))
def b80(ps:List (Int × Int))(n:Nat):List (Int × Int):=(u90 ps n).map (·.1)
def r60(ps:List (Int × Int))(n:Nat):List Nat:=(u90 ps n).map (·.2)
theorem G80(n:Nat):(u90 ps n).Perm ((kept ps n).map λi=>(rn (tA ps n) (tB ps n) (pf ps i),i)):=J80 _
theorem j60(n:Nat):(r60 ps n).Perm (kept ps n):=by
 have:=(G80 (ps:=ps) n).map (·.2)
 rw[List.map_map] at this
 exact this.trans (by rw[show((λt:Tr=>t.2) ∘ λi=>(rn (tA ps n) (tB ps n) (pf ps i),i))=id from rfl,map_id])
theorem r70:i∈kept ps n↔i < ps.length∧pf ps i≠pf ps n:=by
 unfold kept
 rw[mem_filter,mem_range]
 simp
theorem Q10:(r60 ps n).length=(b80 ps n).length:=by unfold r60 b80;rw[length_map,length_map]
theorem Y20:(b80 ps n).length≤ps.length:=by
 rw[← Q10,(j60 n).length_eq]
 exact Nat.le_trans (length_filter_le _ _) (by rw[length_range];exact Nat.le_refl _)
theorem Y30(h:j < (b80 ps n).length):pf (b80 ps n) j=rn (tA ps n) (tB ps n) (pf ps ((r60 ps n).getD j 0))∧(r60 ps n).getD j 0∈kept ps n:=by
 have hj:j < (u90 ps n).length:=by unfold b80 at h;rw[length_map] at h;exact h
 have e1:pf (b80 ps n) j=(u90 ps n)[j].1:=by
  unfold b80
  rw[pf,List.getD_eq_getElem?_getD,List.getElem?_map,List.getElem?_eq_getElem hj];rfl
 have e2:(r60 ps n).getD j 0=(u90 ps n)[j].2:=by
  unfold r60
  rw[List.getD_eq_getElem?_getD,List.getElem?_map,List.getElem?_eq_getElem hj];rfl
 obtain⟨i,hi,e⟩:=List.mem_map.mp ((G80 n).mem_iff.mp (getElem_mem hj))
 rw[e1,e2,← e]
 exact⟨rfl,hi⟩
def q50(ps:List (Int × Int))(n:Nat)(pl:List Nat):List Nat:=(range 8).filter λq=>(pl.map (nm (tA ps n) (tB ps n))).contains q
theorem c10.ab(g:c10 m ps)(hn:n < ps.length):tA ps n < tB ps n∧tB ps n < m.toNat∧pf ps n=((tA ps n:Int),(tB ps n:Int)):=by
 have:=g.tie _ (T91 hn)
 refine⟨by show(pf ps n).1.toNat < (pf ps n).2.toNat;omega,by show(pf ps n).2.toNat < _;omega,Prod.ext ?_ ?_⟩
 ·show(pf ps n).1=((pf ps n).1.toNat:Int);omega
 ·show(pf ps n).2=((pf ps n).2.toNat:Int);omega
theorem m00(g:c10 m ps)(hp:c30 m pl)(hn:n < ps.length):q∈q50 ps n pl↔∃ p∈pl,nm (tA ps n) (tB ps n) p=q:=by
 obtain⟨h1,h2,_⟩:=g.ab hn
 have h6:=g.m6
 unfold q50
 rw[mem_filter,mem_range,contains_iff_mem,List.mem_map]
 refine⟨λh=>h.2,λh=>⟨?_,h⟩⟩
 obtain⟨p,h3,rfl⟩:=h
 have:=F41 h1 h2 (p:=p) (by have:=hp.lt p h3;omega)
 omega
theorem c10.drawn(g:c10 m ps)(hn:n < ps.length):c10 (m - 1) (b80 ps n):=by
 obtain⟨h1,h2,_⟩:=g.ab hn
 have h6:=g.m6
 refine⟨by omega,by omega,Nat.le_trans Y20 g.len,λp hp=>?_,m01 _⟩
 obtain⟨t,ht,rfl⟩:=List.mem_map.mp hp
 obtain⟨i,hi,rfl⟩:=List.mem_map.mp ((G80 n).mem_iff.mp ht)
 obtain⟨i1,i2⟩:=r70.mp hi
 obtain⟨j1,j2,j3⟩:=g.ab i1
 have k1:=F41 h1 h2 (p:=tA ps i) (by omega)
 have k2:=F41 h1 h2 (p:=tB ps i) j2
 have k3:=I92 h1 j1 (λq=>i2 (by rw[j3,q.1,q.2,(g.ab hn).2.2]))
 show 0≤(((min (nm (tA ps n) (tB ps n) (tA ps i)) (nm (tA ps n) (tB ps n) (tB ps i)):Nat)):Int)∧(((min (nm (tA ps n) (tB ps n) (tA ps i)) (nm (tA ps n) (tB ps n) (tB ps i)):Nat)):Int) < (((max (nm (tA ps n) (tB ps n) (tA ps i)) (nm (tA ps n) (tB ps n) (tB ps i)):Nat)):Int)∧(((max (nm (tA ps n) (tB ps n) (tA ps i)) (nm (tA ps n) (tB ps n) (tB ps i)):Nat)):Int) < m - 1
 omega
theorem c30.drawn(g:c10 m ps)(hp:c30 m pl)(hn:n < ps.length):c30 (m - 1) (q50 ps n pl):=by
 obtain⟨h1,h2,_⟩:=g.ab hn
 refine⟨λe=>?_,List.Pairwise.filter _ pairwise_lt_range,λq hq=>?_⟩
 ·obtain⟨p,hp'⟩:=List.exists_mem_of_ne_nil _ hp.ne
  have:=(m00 g hp hn).mpr ⟨p,hp',rfl⟩
  rw[e] at this
  cases this
 ·obtain⟨p,h3,rfl⟩:=(m00 g hp hn).mp hq
  have:=F41 h1 h2 (p:=p) (by have:=hp.lt p h3;omega)
  omega
theorem m10(g:c10 m ps)(hp:c30 m pl)(hl:∀ n∈lot,n < ps.length):b40 ps m.toNat pl lot=true↔∀ f:Nat→Int,(∀ n∈lot,f (tA ps n)=f (tB ps n))→∀ p∈pl,∀ q∈pl,f p=f q:=by
 rw[O60 g.rng (λp q=>by have:=hp.lt p q;omega) hl]
 refine⟨λh f hf p h1 q h2=>(h f hf p h1).trans (h f hf q h2).symm,λh f hf p h1=>h f hf p h1 _ ?_⟩
 cases pl with
 |nil=>cases h1
 |cons a r=>exact mem_cons_self
theorem J02{f:Nat→Int}{x y:Nat}:f (min x y)=f (max x y)↔f x=f y:=by
 rcases Nat.le_total x y with h | h
 ·rw[Nat.min_eq_left h,Nat.max_eq_right h]
 ·rw[Nat.min_eq_right h,Nat.max_eq_left h];exact eq_comm
theorem p81(g:c10 m ps)(hp:c30 m pl){n:Nat}(hn:n < ps.length){lot:List Nat}(hl:∀ j∈lot,j < (b80 ps n).length):b40 (b80 ps n) (m - 1).toNat (q50 ps n pl) lot=b40 ps m.toNat pl (lot.map (λj=>(r60 ps n).getD j 0)++[n]):=by
 obtain⟨h1,h2,_⟩:=g.ab hn
 have hlo:∀ i∈lot.map (λj=>(r60 ps n).getD j 0)++[n],i < ps.length:=λi hi=>by
  rcases List.mem_append.mp hi with hi | hi
  ·obtain⟨j,hj,rfl⟩:=List.mem_map.mp hi
   exact(r70.mp (Y30 (hl j hj)).2).1
  ·rw[List.mem_singleton.mp hi];exact hn
 have ends:∀ (f:Nat→Int) (j:Nat),j∈lot→(f (tA (b80 ps n) j)=f (tB (b80 ps n) j)↔f (nm (tA ps n) (tB ps n) (tA ps ((r60 ps n).getD j 0)))=f (nm (tA ps n) (tB ps n) (tB ps ((r60 ps n).getD j 0)))):=λf j hj=>by
  have e:=(Y30 (hl j hj)).1
  show f ((pf (b80 ps n) j).1.toNat)=f ((pf (b80 ps n) j).2.toNat)↔_
  rw[e]
  exact J02
 rw[Bool.eq_iff_iff,m10 (g.drawn hn) (c30.drawn g hp hn) hl,m10 g hp hlo]
 constructor
 ·intro h f hf p p1 q q1
  have fn:f (tA ps n)=f (tB ps n):=hf n (List.mem_append.mpr (.inr (List.mem_singleton.mpr rfl)))
  have back:=λp=>g32 h1 fn (p:=p)
  have:=h (λq=>f (if q < tB ps n then q else q + 1)) (λj hj=>by
   rw[ends (λq=>f (if q < tB ps n then q else q + 1)) j hj]
   show f (if nm _ _ _ < _ then _ else _)=f (if nm _ _ _ < _ then _ else _)
   rw[back,back]
   exact hf _ (List.mem_append.mpr (.inl (List.mem_map.mpr ⟨j,hj,rfl⟩)))) _ ((m00 g hp hn).mpr ⟨p,p1,rfl⟩) _ ((m00 g hp hn).mpr ⟨q,q1,rfl⟩)
  have this:f (if nm (tA ps n) (tB ps n) p < tB ps n then nm (tA ps n) (tB ps n) p else nm (tA ps n) (tB ps n) p + 1)=f (if nm (tA ps n) (tB ps n) q < tB ps n then nm (tA ps n) (tB ps n) q else nm (tA ps n) (tB ps n) q + 1):=this
  rw[back,back] at this
  exact this
 ·intro h f hf p p1 q q1
  obtain⟨p',p2,rfl⟩:=(m00 g hp hn).mp p1
  obtain⟨q',q2,rfl⟩:=(m00 g hp hn).mp q1
  refine h (λx=>f (nm (tA ps n) (tB ps n) x)) (λi hi=>?_) p' p2 q' q2
  rcases List.mem_append.mp hi with hi | hi
  ·obtain⟨j,hj,rfl⟩:=List.mem_map.mp hi
   exact(ends f j hj).mp (hf j hj)
  ·rw[List.mem_singleton.mp hi]
   show f (nm _ _ (tA ps n))=f (nm _ _ (tB ps n))
   rw[show nm (tA ps n) (tB ps n) (tA ps n)=tA ps n from by unfold nm;rw[if_neg (by omega),if_neg (by omega)],show nm (tA ps n) (tB ps n) (tB ps n)=tA ps n from by unfold nm;rw[if_pos rfl]]
theorem f41{α:Type}{l:List α}{d:α}{n j:Nat}:(l.eraseIdx n).getD j d=l.getD (if j < n then j else j + 1) d:=by
 rw[List.getD_eq_getElem?_getD,List.getD_eq_getElem?_getD,List.getElem?_eraseIdx]
 by_cases h:j < n
 ·rw[if_pos h,if_pos h]
 ·rw[if_neg h,if_neg h]
theorem P01(g:c10 m ps)(hp:c30 m pl){n:Nat}(hn:n < ps.length){lot:List Nat}(hl:∀ j∈lot,j < (ps.eraseIdx n).length):b40 (ps.eraseIdx n) m.toNat pl lot=b40 ps m.toNat pl (lot.map (λj=>if j < n then j else j + 1)++[]):=by
 rw[append_nil]
 have hlen:(ps.eraseIdx n).length=ps.length - 1:=length_eraseIdx_of_lt hn
 have hlo:∀ i∈lot.map (λj=>if j < n then j else j + 1),i < ps.length:=λi hi=>by
  obtain⟨j,hj,rfl⟩:=List.mem_map.mp hi
  have:=hl j hj
  split <;> omega
 have eA:∀ j,tA (ps.eraseIdx n) j=tA ps (if j < n then j else j + 1):=λj=>by unfold tA;rw[f41]
 have eB:∀ j,tB (ps.eraseIdx n) j=tB ps (if j < n then j else j + 1):=λj=>by unfold tB;rw[f41]
 rw[Bool.eq_iff_iff,m10 (g.cut n) hp hl,m10 g hp hlo]
 refine⟨λh f hf=>h f λj hj=>?_,λh f hf=>h f λi hi=>?_⟩
 ·rw[eA,eB];exact hf _ (List.mem_map.mpr ⟨j,hj,rfl⟩)
 ·obtain⟨j,hj,rfl⟩:=List.mem_map.mp hi
  rw[← eA,← eB];exact hf j hj
theorem p91(g:c10 m ps)(hp:c30 m pl)(hi:i < ps.length)(e:pf ps i=pf ps n)(hl:∀ k∈l,k < ps.length)(hn:n∈l):b40 ps m.toNat pl (i::l)=b40 ps m.toNat pl l:=by
 have hil:∀ k∈i::l,k < ps.length:=λk hk=>by
  rcases List.mem_cons.mp hk with rfl | hk
  ·exact hi
  ·exact hl k hk
 rw[Bool.eq_iff_iff,m10 g hp hil,m10 g hp hl]
 refine⟨λh f hf=>h f λk hk=>?_,λh f hf=>h f λk hk=>hf k (mem_cons_of_mem _ hk)⟩
 rcases List.mem_cons.mp hk with rfl | hk
 ·have:=hf n hn
  show f ((pf ps k).1.toNat)=f ((pf ps k).2.toNat)
  rw[e];exact this
 ·exact hf k hk
theorem Q20:∀ a b:List Nat,q30 c (a++b)=q30 c a * q30 c b
 |[],b=>(one_mul _).symm
 |x::a,b=>by
  show(c x).2 * q30 c (a++b)=(c x).2 * q30 c a * q30 c b
  rw[Q20 a b,mul_assoc]
theorem Q30(n:Nat):(range (b80 ps n).length).map (λj=>(r60 ps n).getD j 0)=r60 ps n:=by
 refine ext_getElem (by rw[length_map,length_range,Q10]) λj h1 h2=>?_
 rw[List.getElem_map,List.getElem_range,List.getD_eq_getElem?_getD,List.getElem?_eq_getElem h2];rfl
theorem f51(hn:n < ps.length):(frees ps.length [] [n]).Perm ((frees ps.length [] [n]).filter (λi=>pf ps i == pf ps n)++kept ps n):=by
 have e:(frees ps.length [] [n]).filter (λi=>!(pf ps i == pf ps n))=kept ps n:=by
  unfold frees kept
  rw[List.filter_filter]
  refine filter_congr λi _=>?_
  by_cases h:i=n
  ·subst h;simp
  ·simp[h]
 rw[← e]
 exact(List.filter_append_perm _ _).symm
theorem F51(hn:n < ps.length):((range (ps.eraseIdx n).length).map λj=>if j < n then j else j + 1).Perm (frees ps.length [] [n]):=by
 rw[length_eraseIdx_of_lt hn]
 refine(List.perm_ext_iff_of_nodup ?_ P30).mpr λi=>?_
 ·refine List.Pairwise.map _ (λa b h=>?_) pairwise_lt_range
  split <;> split <;> omega
 ·rw[j10,List.mem_map]
  constructor
  ·rintro ⟨j,hj,rfl⟩
   have:=List.mem_range.mp hj
   refine⟨by split <;> omega,(λh=>nomatch h),λh=>?_⟩
   have:=List.mem_singleton.mp h
   split at this <;> omega
  ·rintro ⟨h1,_,h3⟩
   have h3:i≠n:=λe=>h3 (List.mem_singleton.mpr e)
   by_cases h:i < n
   ·exact⟨i,List.mem_range.mpr (by omega),if_pos h⟩
   ·exact⟨i - 1,List.mem_range.mpr (by omega),by rw[if_neg (by omega)];omega⟩
def q61(ps cs:List (Int × Int))(n:Nat):List (Int × Int):=(r60 ps n).map (cf cs)
theorem Q40:(q61 ps cs n).length=(b80 ps n).length:=by unfold q61;rw[length_map,Q10]
theorem F61(hc:cs.length=ps.length)(ha:∀ c∈cs,IsC c):∀ c∈q61 ps cs n,IsC c:=λc h=>by
 obtain⟨i,hi,rfl⟩:=List.mem_map.mp h
 exact u80 ha (by rw[hc];exact(r70.mp ((j60 n).mem_iff.mp hi)).1)
theorem F71(ha:∀ c∈cs,IsC c):∀ c∈cs.eraseIdx n,IsC c:=λc h=>ha c ((List.eraseIdx_sublist _ _).mem h)
theorem g42(h:IsC c):Rt (c.2 - c.1,c.2) (c.2 - c.1) c.2:=⟨by have:=h.1;show 0 < c.2;omega,by show gcd (c.2 - c.1) c.2=1;rw[gcd_comm,Int.gcd_self_sub_right];rw[gcd_comm];exact h.2.2.2.2,rfl⟩
theorem three(g:c10 m ps)(hp:c30 m pl)(hc:cs.length=ps.length)(ha:∀ c∈cs,IsC c){n:Nat}(hn:n < ps.length):∃ T1 t0 x B:Int,0 < x∧0 < B∧Rt (e40 (m - 1) (b80 ps n) (q61 ps cs n) (q50 ps n pl)) T1 B∧Rt (e40 m (ps.eraseIdx n) (cs.eraseIdx n) pl) t0 (x * B)∧Rt (e40 m ps cs pl) ((cf cs n).1 * (x * T1) + ((cf cs n).2 - (cf cs n).1) * t0) ((cf cs n).2 * (x * B)):=by
 have mem:∀ k∈frees ps.length [] [n],k < ps.length:=λk hk=>(j10.mp hk).1
 have km:∀ k∈kept ps n,k < ps.length:=λk hk=>(r70.mp hk).1
 have hs:=C30 g hp
 have sp:=f51 (ps:=ps) hn
 have nl:∀ k∈[n],k < ps.length:=λk hk=>by rw[List.mem_singleton.mp hk];exact hn
 let al:=(frees ps.length [] [n]).filter (λi=>pf ps i == pf ps n)
 have am:∀ k∈al,k < ps.length:=λk hk=>mem k (List.mem_filter.mp hk).1
 refine⟨tot (b40 ps m.toNat pl) (cf cs) (kept ps n) [n],tot (b40 ps m.toNat pl) (cf cs) (frees ps.length [] [n]) [],q30 (cf cs) al,q30 (cf cs) (kept ps n),(n10 λk hk=>u80 ha (by rw[hc];exact am k hk)).1,(n10 λk hk=>u80 ha (by rw[hc];exact km k hk)).1,?_,?_,?_⟩
 ·have ec:∀ j,j∈range (b80 ps n).length→cf (q61 ps cs n) j=cf cs ((r60 ps n).getD j 0):=λj hj=>by
   have hj:=List.mem_range.mp hj
   rw[← Q10] at hj
   unfold q61
   rw[cf,List.getD_eq_getElem?_getD,List.getElem?_map,List.getElem?_eq_getElem hj,List.getD_eq_getElem?_getD,List.getElem?_eq_getElem hj];rfl
  have e1:=P90 (g:=b40 ps m.toNat pl) (g':=b40 (b80 ps n) (m - 1).toNat (q50 ps n pl)) (c:=cf cs) (c':=λj=>cf cs ((r60 ps n).getD j 0)) (old:=λj=>(r60 ps n).getD j 0) (base:=[n]) (K:=(b80 ps n).length) (λl hl=>p81 g hp hn hl) (λ_=>rfl) (range (b80 ps n).length) [] (λj hj=>List.mem_range.mp hj) (λ_ h=>nomatch h)
  have e2:=m21 (c:=cf cs) (c':=λj=>cf cs ((r60 ps n).getD j 0)) (old:=λj=>(r60 ps n).getD j 0) (λ_=>rfl) (range (b80 ps n).length)
  rw[Q30] at e1 e2
  rw[q40 (g.drawn hn) (c30.drawn g hp hn) Q40,G70 _ _ ec,p61 ec,e1,e2,l90 (j60 n)]
  have om:∀ k∈r60 ps n,k < ps.length:=λk hk=>km k ((j60 n).mem_iff.mp hk)
  rw[map_nil,nil_append,r40 hs (j60 n) [n] om nl]
  exact Rt.low (n10 λk hk=>u80 ha (by rw[hc];exact km k hk)).1
 ·have hl:(cs.eraseIdx n).length=(ps.eraseIdx n).length:=by rw[length_eraseIdx_of_lt hn,length_eraseIdx_of_lt (by omega),hc]
  have ec:∀ j,cf (cs.eraseIdx n) j=cf cs (if j < n then j else j + 1):=λj=>f41
  have e1:=P90 (g:=b40 ps m.toNat pl) (g':=b40 (ps.eraseIdx n) m.toNat pl) (c:=cf cs) (c':=cf (cs.eraseIdx n)) (old:=λj=>if j < n then j else j + 1) (base:=[]) (K:=(ps.eraseIdx n).length) (λl hl=>P01 g hp hn hl) ec (range (ps.eraseIdx n).length) [] (λj hj=>List.mem_range.mp hj) (λ_ h=>nomatch h)
  have e2:=m21 (c:=cf cs) (c':=cf (cs.eraseIdx n)) (old:=λj=>if j < n then j else j + 1) ec (range (ps.eraseIdx n).length)
  have pm:=F51 (ps:=ps) hn
  rw[q40 (g.cut n) hp hl,e1,e2,l90 pm,map_nil,nil_append,r40 hs pm [] (λk hk=>mem k (pm.mem_iff.mp hk)) (λ_ h=>nomatch h),← Q20,← l90 sp]
  exact Rt.low (n10 λk hk=>u80 ha (by rw[hc];exact mem k hk)).1
 ·have ho:=u80 ha (n:=n) (by rw[hc];exact hn)
  have hq:=y80 (K:=ps.length) (held:=[]) (b00:=[]) hn (λh=>nomatch h) (λh=>nomatch h)
  rw[show frees ps.length [] []=range ps.length from List.filter_eq_self.mpr λ_ _=>rfl,nil_append] at hq
  have hk:tot (b40 ps m.toNat pl) (cf cs) (frees ps.length [] [n]) [n]=q30 (cf cs) al * tot (b40 ps m.toNat pl) (cf cs) (kept ps n) [n]:=by
   rw[r40 hs sp [n] mem nl]
   exact Y10 hs al (kept ps n) [n] (λi hi=>⟨am i hi,λl hl hnl=>p91 g hp (am i hi) (eq_of_beq (List.mem_filter.mp hi).2) hl hnl⟩) km nl (List.mem_singleton.mpr rfl)
  rw[q40 g hp hc,r40 hs hq [] (λk hk=>List.mem_range.mp hk) (λ_ h=>nomatch h),l90 hq,d40,← Q20,← l90 sp,← hk]
  have b0:0 < (cf cs n).2 * q30 (cf cs) (frees ps.length [] [n]):=mul_pos (by have:=ho.1;omega) (n10 λk hk=>u80 ha (by rw[hc];exact mem k hk)).1
  exact Rt.low b0
theorem x02(g:c10 m ps)(hp:c30 m pl)(hc:cs.length=ps.length)(ha:∀ c∈cs,IsC c)(hn:n < ps.length)(hv:v=f30 ((cf cs n).1 * (e40 (m - 1) (b80 ps n) (q61 ps cs n) (q50 ps n pl)).1) ((cf cs n).2 * (e40 (m - 1) (b80 ps n) (q61 ps cs n) (q50 ps n pl)).2))(hw:w=f30 (((cf cs n).2 - (cf cs n).1) * (e40 m (ps.eraseIdx n) (cs.eraseIdx n) pl).1) ((cf cs n).2 * (e40 m (ps.eraseIdx n) (cs.eraseIdx n) pl).2)):e40 m ps cs pl=f30 (v.1 * w.2 + w.1 * v.2) (v.2 * w.2):=by
 obtain⟨T1,t0,x,B,hx,hB,r1,r0,r⟩:=three g hp hc ha hn
 have ho:=u80 ha (n:=n) (by rw[hc];exact hn)
 have p2:0 < (cf cs n).2:=by have:=ho.1;omega
 have rv:Rt v ((cf cs n).1 * T1) ((cf cs n).2 * B):=by rw[hv];exact ho.rt.mul r1
 have rw':Rt w (((cf cs n).2 - (cf cs n).1) * t0) ((cf cs n).2 * (x * B)):=by rw[hw];exact(g42 ho).mul r0
 have hxb:=mul_pos hx hB
 refine r.eqv ((rv.add rw').conv (mul_pos (mul_pos p2 hB) (mul_pos p2 hxb)) ?_) (mul_pos p2 hxb)
 generalize (cf cs n).1=c1
 generalize (cf cs n).2=c2
 grind
end
theorem q60(k:Nat)(z:Z)(h:d00 x ts.length=true):b10 T (k + 5) k20 [.d (.tup [a,.tup ts]),.d x] z=some (.ok (.d .non) z) :=
 W.ok (g00 (ps:=2) (ns:=2) (b:=k40) rfl rfl (by decide) (Wo (n00 k x ts.length z) (ie (b:=!d00 x ts.length) (by rw[h];rfl) (sd rfl))))
theorem Y40{n K:Nat}(h:n < K):d00 (.int n) K=true:=by
 show(decide (0≤(n:Int))&&decide ((n:Int) < (K:Int)))=true
 rw[decide_eq_true (by omega),decide_eq_true (by omega)];rfl
theorem Bs.up(h:Bs n c)(hm:n≤m):Bs m c :=
 have e:=Nat.pow_le_pow_right (n:=2) (by decide) hm
 ⟨Nat.le_trans h.t e,h.b0,Nat.le_trans h.b e⟩
theorem Bs.low{n:Nat}{t b:Int}(h0:0 < b)(ht:t.natAbs≤2 ^ n)(hb:b.natAbs≤2 ^ n):Bs n (f30 t b) :=
 ⟨Nat.le_trans (E91 h0).1 ht,y70 h0,Nat.le_trans (E91 h0).2 hb⟩
theorem Bs.mul{n:Nat}(hc:Bs n c)(hd:Bs n d):Bs (n + n) (f30 (c.1 * d.1) (c.2 * d.2)):=.low (mul_pos hc.b0 hd.b0) (P80 hc.t hd.t) (P80 hc.b hd.b)
theorem G90(k:Nat)(hc:Bs n c)(hd:Bs n d)(hn:n + n≤3999)(z:Z):b10 T (k + 4) p30 [.d (pr c),.d (pr d)] z=some (.ok (.d (pr (f30 (c.1 * d.1) (c.2 * d.2)))) z):=by
 have h1:n≤3999:=by omega
 refine W.ok (g00 (ps:=2) (ns:=2) (b:=q00) rfl rfl (by decide) ?_)
 refine(a00 (E71 h1 hc.t hd.t) ?_ :)
 refine(a00 (E71 h1 hc.b hd.b) ?_ :)
 exact Wo (y60 k _ _ z (mul_pos hc.b0 hd.b0) (E81 hn (P80 hc.b hd.b))) (sd rfl)
theorem M02(a:Int × Int):(!((a.1 == a.1)&&((a.2 == a.2)&&true)))=false:=by rw[beq_self_eq_true,beq_self_eq_true];rfl
theorem Y50(k p b:Nat)(z:Z):b10 T (k + 3) F20 [.d (b30 p),.d (.int b)] z=some (.ok (.d (b30 (if b < p then p - 1 else p))) z):=by
 refine W.ok (g00 (ps:=2) (ns:=2) (b:=u00) rfl rfl (by decide) ?_)
 refine ib (b:=decide ((b:Int) < p)) (λh=>?_) λh=>?_
 ·have h:=of_decide_eq_true h
  refine sd ?_
  show S.d (.int ((p:Int) - 1))=S.d (.int ((if b < p then p - 1 else p:Nat):Int))
  rw[if_pos (by omega),show(((p - 1:Nat)):Int)=(p:Int) - 1 by omega]
 ·have h:=of_decide_eq_false h
  refine sd ?_
  rw[if_neg (by omega)];rfl
theorem F81(k x y:Nat)(z:Z):b10 T (k + 3) k61 [.d (b30 x),.d (b30 y)] z=some (.ok (.d (pr (((min x y:Nat):Int),((max x y:Nat):Int)))) z):=by
 refine W.ok (g00 (ps:=2) (ns:=2) (b:=N60) rfl rfl (by decide) ?_)
 refine sd ?_
 show S.d (.tup [.int (if (y:Int) < x then(y:Int) else x),.int (if (y:Int) > x then(y:Int) else x)])=S.d (.tup [.int ((min x y:Nat):Int),.int ((max x y:Nat):Int)])
 rw[show(if (y:Int) < x then(y:Int) else x)=((min x y:Nat):Int) by split <;> omega,show(if (y:Int) > x then(y:Int) else x)=((max x y:Nat):Int) by split <;> omega]
abbrev i62(M A B:Nat):List D:=(range M).map λp=>b30 (nm A B p)
theorem F91{M A B:Nat}{p:Int}(h0:0≤p)(h:p.toNat < M):T30 (.tup (i62 M A B)) (.int p)=some (b30 (nm A B p.toNat)):=by
 obtain⟨n,rfl⟩:=eq_ofNat_of_zero_le h0
 rw[toNat_natCast] at h ⊢
 exact O00 (by rw[List.getElem?_map,List.getElem?_range h];rfl)
theorem q01(k:Nat){M A B:Nat}(h1:0≤p.1)(h2:p.1.toNat < M)(h3:0≤p.2)(h4:p.2.toNat < M)(z:Z):b10 T (k + 4) V70 [.d (pr p),.d (.tup (i62 M A B))] z=some (.ok (.d (pr (rn A B p))) z):=by
 refine W.ok (g00 (ps:=2) (ns:=4) (b:=F80) rfl rfl (by decide) ?_)
 refine(a00 (F91 h1 h2) ?_ :)
 refine(a00 (F91 h3 h4) ?_ :)
 exact Wo (F81 k _ _ z) (sd rfl)
theorem Q50(k p a b:Nat)(z:Z):b10 T (k + 4) z20 [.d (b30 p),.d (pr ((a:Int),(b:Int)))] z=some (.ok (.d (b30 (nm a b p))) z):=by
 refine W.ok (g00 (ps:=2) (ns:=4) (b:=p50) rfl rfl (by decide) ?_)
 refine ib (b:=(p:Int) == b) (λh=>?_) λh=>?_
 ·have h:=eq_of_beq h
  refine sd ?_
  unfold nm
  rw[if_pos (by omega)];rfl
 ·have h:=ne_of_beq_false h
  refine Wo (Y50 k p b z) (sd ?_)
  unfold nm
  rw[if_neg (c:=p=b) (by omega)]
theorem f61:t40 (ps.map pr) 0=(range ps.length).map λi=>.tup [b30 i,pr (pf ps i)]:=by
 have:∀ (l:List (Int × Int)) (j:Nat),t40 (l.map pr) j=(range l.length).map λi=>.tup [b30 (j + i),pr (pf l i)]
 :=by
  intro l
  induction l with
  |nil=>intro _;rfl
  |cons p r ih =>
   intro j
   rw[length_cons,List.range_succ_eq_map]
   show .tup [.int j,pr p]::t40 (r.map pr) (j + 1)=D.tup [b30 (j + 0),pr p]::((range r.length).map Nat.succ).map _
   rw[ih (j + 1),List.map_map]
   refine congr (congrArg _ rfl) (map_congr_left λi _=>?_)
   show D.tup [b30 (j + 1 + i),_]=D.tup [b30 (j + (i + 1)),_]
   rw[show j + 1 + i=j + (i + 1) by omega];rfl
 rw[this ps 0]
 exact map_congr_left λi _=>by rw[zero_add]
theorem U01(a b:Int × Int):((a.1 == b.1)&&((a.2 == b.2)&&true))=(a == b):=by rw[Bool.and_true];rfl
section
variable {m:Int}{ps cs:List (Int × Int)}{pl:List Nat}
def f71:D→Nat
 |.tup [.int i,_]=>i.toNat
 |_=>0
theorem Q60(k:Nat)(g:c10 m ps){n:Nat}(hn:n < ps.length)(z:Z):b10 T (k + 5) z30 [.d (.tup (ps.map pr)),.d (.tup (i62 m.toNat (tA ps n) (tB ps n))),.d (pr (pf ps n))] z=some (.ok (.fr ((u90 ps n).map trD)) z):=by
 have h8:=g.len
 refine W.ok (g00 (ps:=3) (ns:=3) (b:=p60) rfl rfl (by decide) ?_)
 refine ip (by show(t40 (ps.map pr) 0).length≤most;rw[f61,length_map,length_range];exact o00 (by omega)) ?_
 refine i32 (λx=>!(pf ps (f71 x) == pf ps n)) (λx=>trD (rn (tA ps n) (tB ps n) (pf ps (f71 x)),f71 x)) (λx hx=>?_) ?_
 ·rw[f61] at hx
  obtain⟨i,hi,rfl⟩:=List.mem_map.mp hx
  have hi:=List.mem_range.mp hi
  obtain⟨j1,j2,j3⟩:=g.ab hi
  have tie:=g.tie _ (T91 hi)
  have eo:f71 (.tup [b30 i,pr (pf ps i)])=i:=toNat_natCast i
  refine⟨?_,rfl,λhk=>?_⟩
  ·rw[eo]
   exact congrArg (λb=>S.d (.bl (!b))) (U01 _ _)
  ·refine Wo (q01 (k + 0) (p:=pf ps i) tie.1 (by show tA ps i < _;omega) (by omega) j2 z) ⟨?_,rfl⟩
   rw[eo];rfl
 ·rw[f61,filter_map,List.map_map]
  refine(a00 (o:=bfD .sorted [.lst _]) (a:=.fr ((u90 ps n).map trD)) ?_ ?_ :)
  ·have e:(((range ps.length).filter ((λx=>!(pf ps (f71 x) == pf ps n)) ∘ λi=>D.tup [b30 i,pr (pf ps i)])).map ((λx=>trD (rn (tA ps n) (tB ps n) (pf ps (f71 x)),f71 x)) ∘ λi=>D.tup [b30 i,pr (pf ps i)]))=((kept ps n).map λi=>(rn (tA ps n) (tB ps n) (pf ps i),i)).map trD:=by
    rw[List.map_map]
    exact rfl
   rw[e,F31 (by rw[length_map];exact Nat.lt_of_le_of_lt (length_filter_le _ _) (by rw[length_range];omega))];rfl
  ·exact sd rfl
def i72:D→D
 |.tup [a,_]=>a
 |x=>x
def M12:D→D
 |.tup [_,b]=>b
 |x=>x
def natOf:D→Nat
 |.int i=>i.toNat
 |_=>0
theorem m31(g:c10 m ps):(u90 ps n).length≤8:=by
 have:=Y20 (ps:=ps) (n:=n)
 unfold b80 at this
 rw[length_map] at this
 have:=g.len
 omega
theorem q11(g:c10 m ps){n:Nat}{tp:Bool}:WS F tp (tl (tl (tl (tl (tl N70))))) [some (.d (x00 m ps)),some (.d (.int n)),some (.d (.int m)),some (.d (.tup (ps.map pr))),some (.d (.tup ns)),some (.fr ((u90 ps n).map trD)),o6] z (λo z1=>match o with
  |.rt s=>s=S.d (.tup [x00 (m - 1) (b80 ps n),.tup ns,.tup ((r60 ps n).map b30)])∧H30 z z1=z
  |.nx _=>S.d .non=S.d (.tup [x00 (m - 1) (b80 ps n),.tup ns,.tup ((r60 ps n).map b30)])∧H30 z z1=z) NE:=by
 have sl:=m31 g (n:=n)
 refine ip (by rw[length_map];exact o00 (by omega)) (d61 i72 (λx hx=>?_) ?_)
 ·obtain⟨t,_,rfl⟩:=List.mem_map.mp hx
  exact⟨rfl,rfl⟩
 ·have hb:T50 (S.d (.tup [.int (m - 1),.tup (((u90 ps n).map trD).map i72)]))=true:=by
   show(true&&(t50 (((u90 ps n).map trD).map i72)&&true))=true
   have e:((u90 ps n).map trD).map i72=(b80 ps n).map pr:=by unfold b80;rw[List.map_map,List.map_map];rfl
   rw[e,C10];rfl
  refine(a00 (o:=Option.bind (plA [plS (if T50 (S.d (.tup [.int (m - 1),.tup (((u90 ps n).map trD).map i72)]))=true then S.fr ((u90 ps n).map trD) else S.d (.lst ((u90 ps n).map trD)))]) (itD .seq)) (a:=(u90 ps n).map trD) (by rw[hb];rfl) ?_ :)
  refine ip (by rw[length_map];exact o00 (by omega)) (d61 M12 (λx hx=>?_) ?_)
  ·obtain⟨t,_,rfl⟩:=List.mem_map.mp hx
   exact⟨rfl,rfl⟩
  ·refine sd ?_
   show S.d (.tup [.tup [.int (m - 1),.tup (((u90 ps n).map trD).map i72)],.tup _,.tup (((u90 ps n).map trD).map M12)])=_
   rw[List.map_map,List.map_map]
   unfold x00 b80 r60
   rw[List.map_map,List.map_map]
   rfl
theorem P11(k:Nat)(g:c10 m ps){n:Nat}(hn:n < ps.length)(z:Z):b10 T (k + 9) C11 [.d (x00 m ps),.d (.int n)] z=some (.ok (.d (.tup [x00 (m - 1) (b80 ps n),.tup (i62 m.toNat (tA ps n) (tB ps n)),.tup ((r60 ps n).map b30)])) z):=by
 have h8:=g.len
 have h6:=g.m6
 have h1:=g.m1
 have ab:=(g.ab hn).2.2
 have sl:=m31 g (n:=n)
 refine W.ok (g00 (ps:=2) (ns:=7) (b:=N70) rfl rfl (by decide) (Wo (f00 k z g.web) (Wo (q60 (k + 3) z (by rw[length_map];exact Y40 hn)) ?_)))
 refine(a00 (N90 (m:=m) (by omega) (by omega)) ?_ :)
 refine ip (by rw[length_map,length_range];exact o00 (by omega)) (d61 (λx=>b30 (nm (tA ps n) (tB ps n) (natOf x))) (λx hx=>?_) ?_)
 ·obtain⟨p,_,rfl⟩:=List.mem_map.mp hx
  refine(a00 (X30 hn) ?_ :)
  have c:=Q50 (k + 4) p (tA ps n) (tB ps n) z
  rw[← ab] at c
  exact Wo c ⟨rfl,rfl⟩
 ·rw[List.map_map]
  refine(a00 (X30 hn) ?_ :)
  refine Wo (Q60 (k + 3) g hn z) ?_
  exact q11 g
theorem g52{n:Nat}(l:List (Int × Int)):cutD (l.map pr) none (some (n:Int))++cutD (l.map pr) (some ((n:Int) + 1)) none=(l.eraseIdx n).map pr:=by
 rw[D71 _ (by omega),toNat_natCast,show((n:Int) + 1)=((n + 1:Nat):Int) by omega,w80,List.eraseIdx_eq_take_drop_succ,List.map_append,List.map_take,List.map_drop]
theorem x12{l:List (Int × Int)}{n:Nat}(hl:l.length≤8):E00 .add (.tup (cutD (l.map pr) none (some (n:Int)))) (.tup (cutD (l.map pr) (some ((n:Int) + 1)) none))=some (.d (.tup ((l.eraseIdx n).map pr))):=by
 have e1:(cutD (l.map pr) none (some (n:Int))).length≤8:=by rw[D71 _ (by omega),length_take,length_map];omega
 have e2:(cutD (l.map pr) (some ((n:Int) + 1)) none).length≤8:=by rw[show((n:Int) + 1)=((n + 1:Nat):Int) by omega,w80,length_drop,length_map];omega
 rw[O71 (by omega),g52]
theorem q21(k:Nat)(g:c10 m ps){n:Nat}(hn:n < ps.length)(z:Z):b10 T (k + 9) V80 [.d (x00 m ps),.d (.int n)] z=some (.ok (.d (x00 m (ps.eraseIdx n))) z):=by
 refine W.ok (g00 (ps:=2) (ns:=4) (b:=F90) rfl rfl (by decide) (Wo (f00 k z g.web) (Wo (q60 (k + 3) z (by rw[length_map];exact Y40 hn)) ?_)))
 refine(a00 (x12 (l:=ps) (n:=n) g.len) ?_ :)
 exact sd rfl
end
mutual
noncomputable def sok:D→Bool
 |.str x=>PySem.PyData.strOk x
 |.tup l=>J12 l
 |.lst l=>J12 l
 |_=>true
noncomputable def J12:List D→Bool
 |[]=>true
 |x::r=>sok x&&J12 r
end
def rest(K:Nat)(b00:List Nat):List Nat:=(range K).filter λn=>!b00.contains n
def fre(K:Nat)(held b00:List Nat)(i:Int):Bool:=(decide (0≤i)&&decide (i.toNat < K))&&(!decide (i.toNat∈b00)&&!decide (i.toNat∈held))
def gp(K:Nat)(g:List Nat→Bool):Nat→List Nat→List Nat→D→Bool
 |f + 1,held,b00,.tup [.str w]=>if w == "yes" then g held else(w == "no"&&!g (rest K b00))
 |f + 1,held,b00,.tup [.str w,.int i,a,b]=>(w == "tie")&&(fre K held b00 i&&(gp K g f (held++[i.toNat]) b00 a&&gp K g f held (b00++[i.toNat]) b))
 |_,_,_,_=>false
theorem f81{w v:PySem.Str}(h:PySem.PyData.strOk w=true)(h2:PySem.PyData.strOk v=true):A60 .eq (.str w) (.str v)=some (w == v):=by
 show(if okD (.str w)&&okD (.str v) then some (w == v) else _)=_
 rw[show okD (.str w)=true from by show(PySem.PyData.strOk w&&true)=true;rw[h];rfl,show okD (.str v)=true from by show(PySem.PyData.strOk v&&true)=true;rw[h2];rfl];rfl
theorem J22{w v:PySem.Str}(h:PySem.PyData.strOk w=true)(h2:PySem.PyData.strOk v=true):A60 .ne (.str w) (.str v)=some (!(w == v)):=by
 show(if okD (.str w)&&okD (.str v) then some (w == v) else none).map (!·)=_
 rw[show okD (.str w)=true from by show(PySem.PyData.strOk w&&true)=true;rw[h];rfl,show okD (.str v)=true from by show(PySem.PyData.strOk v&&true)=true;rw[h2];rfl];rfl
theorem G01{i:Int}{l:List Nat}:a71 (.int i) (l.map b30)=some (decide (0≤i)&&decide (i.toNat∈l)):=by
 by_cases h:0≤i
 ·obtain⟨n,rfl⟩:=eq_ofNat_of_zero_le h
  rw[decide_eq_true h,toNat_natCast,Bool.true_and];exact G50
 ·unfold a71
  rw[X40,decide_eq_false h,Bool.false_and]
  show some (memD (.int i) (l.map b30))=some false
  congr 1
  induction l with
  |nil=>rfl
  |cons x r ih =>
   show((x:Int) == i || memD (.int i) (r.map b30))=false
   rw[ih,Bool.or_false,beq_eq_false_iff_ne];omega
theorem P21:(rest K b00).filter (λk=>!(k == n))=rest K (b00++[n]):=by
 unfold rest
 rw[List.filter_filter]
 refine filter_congr λk _=>?_
 rw[contains_eq_mem,contains_eq_mem,← Bool.not_or,not_inj_iff,Bool.eq_iff_iff,or_eq_true,beq_iff_eq,decide_eq_true_eq,decide_eq_true_eq,mem_append,mem_singleton,Or.comm]
theorem j70:n∈rest K b00↔n < K∧n ∉ b00:=by
 unfold rest
 rw[mem_filter,mem_range,not_eq_true',contains_eq_mem,decide_eq_false_iff_not]
theorem A00(k:Nat)(hK:K≤8)(z:Z):b10 T (k + 3) t80 [.d (.tup ((rest K b00).map b30)),.d (b30 n)] z=some (.ok (.d (.tup ((rest K (b00++[n])).map b30))) z):=by
 have hl:(rest K b00).length≤8:=Nat.le_trans (length_filter_le _ _) (by rw[length_range];exact hK)
 refine W.ok (g00 (ps:=2) (ns:=2) (b:=u20) rfl rfl (by decide) (ip (by rw[length_map];simp only[most];omega) (i32 (λx=>match x with | .int i=>!(i == (n:Int)) | _=>true) (λx=>x) (λy hy=>?_) ?_)))
 ·obtain⟨p,hp,rfl⟩:=List.mem_map.mp hy
  exact⟨rfl,rfl,λ_=>⟨rfl,rfl⟩⟩
 ·rw[map_id',O90]
  refine sd ?_
  show S.d (.tup _)=_
  rw[← P21]
  congr 3
  refine filter_congr λk _=>?_
  show(!((k:Int) == (n:Int)))=_
  rw[not_inj_iff,Bool.eq_iff_iff,beq_iff_eq,beq_iff_eq];omega
section
variable {m:Int}{ps:List (Int × Int)}{pl:List Nat}
theorem Y60(k:Nat)(g:c10 m ps)(hp:c30 m pl){held b00:List Nat}(hh:∀ n∈held,n < ps.length){w:PySem.Str}(hw:PySem.PyData.strOk w=true)(z:Z):b10 T (k + 5) s60 [.d (x00 m ps),.d (.tup (pl.map b30)),.d (.tup (held.map b30)),.d (.tup ((rest ps.length b00).map b30)),.d (.str w)] z=some (.ok (.d (.bl (if w == "yes" then b40 ps m.toNat pl held else(w == "no"&&!b40 ps m.toNat pl (rest ps.length b00))))) z):=by
 refine W.ok (g00 (ps:=5) (ns:=5) (b:=k50) rfl rfl (by decide) ?_)
 refine(a00 (f81 (v:="yes") hw (by decide +kernel)) ?_ :)
 refine ib (b:=w == "yes") (λh=>Wo (c40 k g hp (Row.t held) hh z) (sb (by rw[if_pos h]))) λh=>?_
 refine(a00 (f81 (v:="no") hw (by decide +kernel)) ?_ :)
 rw[h]
 refine ib (b:=w == "no") (λh=>Wo (c40 k g hp (Row.t (rest ps.length b00)) (λn hn=>(j70.mp hn).1) z) (sb ?_)) λh=>sb ?_
 ·show(!b40 ps m.toNat pl (rest ps.length b00))=((w == "no")&&_)
  rw[h,Bool.true_and]
 ·show false=((w == "no")&&_)
  rw[h];rfl
theorem P31{l:List Nat}{K:Nat}(nd:l.Nodup)(h:∀ n∈l,n < K):l.length≤K:=by
 have hp:l.Perm ((range K).filter λx=>l.contains x):=(List.perm_ext_iff_of_nodup nd (List.Pairwise.filter _ nodup_range)).mpr λa=>by
  rw[mem_filter,mem_range,contains_iff_mem]
  exact⟨λq=>⟨h a q,q⟩,λq=>q.2⟩
 rw[hp.length_eq]
 exact Nat.le_trans (length_filter_le _ _) (by rw[length_range];exact Nat.le_refl _)
theorem M22:gp K g f h l (.tup [y,a])=false:=by cases f <;> cases y <;> cases a <;> rfl
theorem M32:gp K g f h l (.tup [y,a,b])=false:=by cases f <;> cases y <;> cases a <;> rfl
theorem M42:gp K g f h l (.tup (y::a::b::c::d::r))=false:=by cases f <;> cases y <;> cases a <;> rfl
structure Tk(K f:Nat)(held b00:List Nat):Prop where
 nd:(held++b00).Nodup
 lt:∀ n∈held++b00,n < K
 num:held.length + b00.length + f=K + 1
theorem Tk.pos{K f:Nat}{held b00:List Nat}(t:Tk K f held b00):∃ f',f=f' + 1:=by
 have h1:=P31 t.nd t.lt
 rw[length_append] at h1
 have:=t.num
 exact⟨f - 1,by omega⟩
theorem U11(h:fre K held b00 i=true):∃ n:Nat,i=n∧n < K∧n ∉ b00∧n ∉ held:=by
 unfold fre at h
 rw[and_eq_true,and_eq_true,and_eq_true,decide_eq_true_eq,decide_eq_true_eq,not_eq_true',decide_eq_false_iff_not,not_eq_true',decide_eq_false_iff_not] at h
 exact⟨i.toNat,by omega,h.1.2,h.2.1,h.2.2⟩
theorem Tk.hold(t:Tk K (f + 1) held b00)(h1:n < K)(h2:n ∉ b00)(h3:n ∉ held):Tk K f (held++[n]) b00:=by
 have hp:(held++[n]++b00).Perm (n::(held++b00)):=by rw[append_assoc];exact List.perm_middle
 refine⟨hp.nodup_iff.mpr (List.nodup_cons.mpr ⟨λh=>?_,t.nd⟩),λk hk=>?_,by rw[f12];have:=t.num;omega⟩
 ·rcases List.mem_append.mp h with h | h
  ·exact h3 h
  ·exact h2 h
 ·rcases List.mem_cons.mp (hp.mem_iff.mp hk) with rfl | hk
  ·exact h1
  ·exact t.lt k hk
theorem Tk.b00{K f n:Nat}{held b00:List Nat}(t:Tk K (f + 1) held b00)(h1:n < K)(h2:n ∉ b00)(h3:n ∉ held):Tk K f held (b00++[n]):=by
 have hp:(held++(b00++[n])).Perm (n::(held++b00)):=by rw[← append_assoc];exact List.perm_append_singleton _ _
 refine⟨hp.nodup_iff.mpr (List.nodup_cons.mpr ⟨λh=>?_,t.nd⟩),λk hk=>?_,by rw[f12];have:=t.num;omega⟩
 ·rcases List.mem_append.mp h with h | h
  ·exact h3 h
  ·exact h2 h
 ·rcases List.mem_cons.mp (hp.mem_iff.mp hk) with rfl | hk
  ·exact h1
  ·exact t.lt k hk
theorem Y70(g:c10 m ps)(hp:c30 m pl):∀ (f k:Nat) (held b00:List Nat) (x:D) (z:Z),Tk ps.length f held b00→sok x=true→b10 T (k + f + 5) g30 [.d (x00 m ps),.d (.tup (pl.map b30)),.d (.tup (held.map b30)),.d (.tup ((rest ps.length b00).map b30)),.d x] z=some (.ok (.d (.bl (gp ps.length (b40 ps m.toNat pl) f held b00 x))) z):=by
 intro f
 induction f with
 |zero =>
  intro k held b00 x z t
  obtain⟨_,h⟩:=t.pos
  cases h
 |succ f ih =>
  intro k held b00 x z t hs
  have hh:∀ n∈held,n < ps.length:=λn hn=>t.lt n (mem_append_left _ hn)
  have h8:=g.len
  refine W.ok (g00 (ps:=5) (ns:=8) (b:=k60) rfl rfl (by decide) ?_)
  cases x with
  |tup l =>
   match l with
   |[]=>exact sb rfl
   |[y] =>
    cases y with
    |str w =>
     have hw:PySem.PyData.strOk w=true:=by
      have:(PySem.PyData.strOk w&&true)=true:=hs
      rwa [Bool.and_true] at this
     exact Wo (Y60 (k + f) g hp hh hw z) (sb rfl)
    |_=>exact sb rfl
   |[y,n,a,b] =>
    cases y with
    |str w =>
     have hs':(PySem.PyData.strOk w&&(sok n&&(sok a&&(sok b&&true))))=true:=hs
     rw[and_eq_true,and_eq_true,and_eq_true,Bool.and_true] at hs'
     refine(a00 (J22 (v:="tie") hs'.1 (by decide +kernel)) ?_ :)
     refine ib (b:=!(w == "tie")) (λh=>sb ?_) λh=>?_
     ·rw[not_eq_true'] at h
      cases n with
      |int i=>show false=((w == "tie")&&_);rw[h];rfl
      |_=>rfl
     ·rw[not_eq_false'] at h
      refine Wo (j00 (k + f + 2) n z) ?_
      cases n with
      |int i =>
       refine(a00 (o:=(a71 (.int i) ((rest ps.length b00).map b30)).map (!·)) (a:=!(decide (0≤i)&&decide (i.toNat∈rest ps.length b00))) (by rw[G01];rfl) ?_ :)
       have no:fre ps.length held b00 i=false→false=gp ps.length (b40 ps m.toNat pl) (f + 1) held b00 (.tup [.str w,.int i,a,b]):=λe=>by
        show false=((w == "tie")&&(fre ps.length held b00 i&&_))
        rw[e,Bool.false_and,Bool.and_false]
       refine ib (b:=!(decide (0≤i)&&decide (i.toNat∈rest ps.length b00))) (λh2=>sb (no ?_)) λh2=>?_
       ·rw[not_eq_true',Bool.and_eq_false_iff,decide_eq_false_iff_not,decide_eq_false_iff_not,j70] at h2
        cases e:fre ps.length held b00 i with
        |false=>rfl
        |true =>
         obtain⟨n,rfl,q1,q2,q3⟩:=U11 e
         rcases h2 with h2 | h2
         ·exact absurd (by omega) h2
         ·exact absurd ⟨by rw[toNat_natCast];exact q1,by rw[toNat_natCast];exact q2⟩ h2
       ·rw[not_eq_false',and_eq_true,decide_eq_true_eq,decide_eq_true_eq,j70] at h2
        obtain⟨i0,h2,h3⟩:=h2
        obtain⟨n,rfl⟩:=eq_ofNat_of_zero_le i0
        rw[toNat_natCast] at h2 h3
        refine(a00 (G50 (n:=n) (l:=held)) ?_ :)
        refine ib (b:=decide (n∈held)) (λh4=>sb (no ?_)) λh4=>?_
        ·unfold fre
         rw[toNat_natCast,h4]
         simp
        ·rw[decide_eq_false_iff_not] at h4
         have e1:fre ps.length held b00 n=true:=by
          unfold fre
          rw[toNat_natCast,decide_eq_true i0,decide_eq_true h2,decide_eq_false h3,decide_eq_false h4];rfl
         have eg:gp ps.length (b40 ps m.toNat pl) (f + 1) held b00 (.tup [.str w,.int n,a,b])=(gp ps.length (b40 ps m.toNat pl) f (held++[n]) b00 a&&gp ps.length (b40 ps m.toNat pl) f held (b00++[n]) b):=by
          show((w == "tie")&&(fre ps.length held b00 n&&(gp _ _ f (held++[(n:Int).toNat]) b00 a&&gp _ _ f held (b00++[(n:Int).toNat]) b)))=_
          rw[h,e1,toNat_natCast];rfl
         have t1:=t.hold h2 h3 h4
         have hl1:held.length≤9:=by have:=t.num;omega
         refine(a00 (O71 (a:=held.map b30) (b:=[b30 n]) (by rw[length_map];show _ + 1≤_;omega)) ?_ :)
         have c1:=ih k (held++[n]) b00 a z t1 hs'.2.2.1
         rw[List.map_append] at c1
         refine Wo c1 (ib (b:=!gp ps.length (b40 ps m.toNat pl) f (held++[n]) b00 a) (λh5=>sb ?_) λh5=>?_)
         ·rw[not_eq_true'] at h5
          rw[eg,h5];rfl
         ·rw[not_eq_false'] at h5
          refine Wo (A00 (k + f + 2) (n:=n) h8 z) (Wo (ih k held (b00++[n]) b z (t.b00 h2 h3 h4) hs'.2.2.2) (sb ?_))
          rw[eg,h5];rfl
      |_=>exact sb rfl
    |_=>exact sb rfl
   |[y,a]=>cases y <;> exact sb M22.symm
   |[y,a,b]=>cases y <;> exact sb M32.symm
   |y::a::b::c::d::r =>
    refine(a00 (O00 (l:=y::a::b::c::d::r) (j:=0) rfl) ?_ :)
    cases y <;> exact sb M42.symm
  |_=>exact sb rfl
end
def g62(l:List Nat):D→Bool
 |.int i=>!(decide (0≤i)&&decide (i.toNat∈l))
 |_=>true
inductive Pap where
 |yes | no | tie (n:Nat) (a b:Pap)
def Pap.d:Pap→D
 |.yes=>.tup [.str "yes"]
 |.no=>.tup [.str "no"]
 |.tie n a b=>.tup [.str "tie",b30 n,a.d,b.d]
def Pap.dp:Pap→Nat
 |.yes=>1
 |.no=>1
 |.tie _ a b=>Nat.max a.dp b.dp + 1
theorem Pap.sok:∀ p:Pap,K3.sok p.d=true
 |.yes=>by decide +kernel
 |.no=>by decide +kernel
 |.tie n a b=>by
  show(PySem.PyData.strOk "tie"&&(true&&(K3.sok a.d&&(K3.sok b.d&&true))))=true
  rw[a.sok,b.sok]
  decide +kernel
section
variable {m:Int}{ps:List (Int × Int)}{pl:List Nat}
theorem g72(g:c10 m ps)(hp:c30 m pl):∀ (f k:Nat) (held b00:List Nat) (z:Z),Tk ps.length f held b00→∃ p:Pap,p.dp≤f∧gp ps.length (b40 ps m.toNat pl) f held b00 p.d=true∧b10 T (k + f + 4) m50 [.d (x00 m ps),.d (.tup (pl.map b30)),.d (.tup (held.map b30)),.d (.tup ((rest ps.length b00).map b30))] z=some (.ok (.d p.d) z):=by
 intro f
 induction f with
 |zero =>
  intro k held b00 z t
  obtain⟨_,h⟩:=t.pos
  cases h
 |succ f ih =>
  intro k held b00 z t
  have hh:∀ n∈held,n < ps.length:=λn hn=>t.lt n (mem_append_left _ hn)
  have h8:=g.len
  have hn:=t.num
  have hr:∀ n∈rest ps.length b00,n < ps.length:=λn hn=>(j70.mp hn).1
  cases h1:b40 ps m.toNat pl held with
  |true =>
   refine⟨.yes,succ_le_succ (zero_le f),h1,W.ok (g00 (ps:=4) (ns:=7) (b:=i90) rfl rfl (by decide) (Wo (c40 (k + f) g hp (Row.t held) hh z) (it (b:=b40 ps m.toNat pl held) h1 (sd rfl))))⟩
  |false =>
   cases h2:b40 ps m.toNat pl (rest ps.length b00) with
   |false =>
    refine⟨.no,succ_le_succ (zero_le f),?_,W.ok (g00 (ps:=4) (ns:=7) (b:=i90) rfl rfl (by decide) (Wo (c40 (k + f) g hp (Row.t held) hh z) (ie (b:=b40 ps m.toNat pl held) h1 (Wo (c40 (k + f) g hp (Row.t (rest ps.length b00)) hr z) (it (b:=!b40 ps m.toNat pl (rest ps.length b00)) (by rw[h2];rfl) (sd rfl))))))⟩
    show(if ("no":PySem.Str) == "yes" then _ else(("no":PySem.Str) == "no"&&!b40 ps m.toNat pl (rest ps.length b00)))=true
    rw[h2,if_neg (by decide +kernel)]
    decide +kernel
   |true =>
    have ex:(rest ps.length b00).filter (λn=>!decide (n∈held))≠[]:=λe=>by
     have sub:∀ n∈rest ps.length b00,n∈held:=λn hn=>by
      by_cases q:n∈held
      ·exact q
      ·have:n∈(rest ps.length b00).filter (λn=>!decide (n∈held)):=List.mem_filter.mpr ⟨hn,by rw[decide_eq_false q];rfl⟩
       rw[e] at this;cases this
     rw[good_mono g.rng (λp q=>by have:=hp.lt p q;omega) hh sub h2] at h1
     cases h1
    obtain⟨n,r,e⟩:=List.exists_cons_of_ne_nil ex
    have hm:n∈(rest ps.length b00).filter (λn=>!decide (n∈held)):=by rw[e];exact mem_cons_self
    obtain⟨q1,q2⟩:=List.mem_filter.mp hm
    obtain⟨n1,n2⟩:=j70.mp q1
    have n3:n ∉ held:=by rw[not_eq_true',decide_eq_false_iff_not] at q2;exact q2
    obtain⟨a,a1,a2,a3⟩:=ih k (held++[n]) b00 z (t.hold n1 n2 n3)
    obtain⟨b,b1,b2,b3⟩:=ih k held (b00++[n]) z (t.b00 n1 n2 n3)
    rw[List.map_append] at a3
    refine⟨.tie n a b,succ_le_succ (Nat.max_le.mpr ⟨a1,b1⟩),?_,W.ok (g00 (ps:=4) (ns:=7) (b:=i90) rfl rfl (by decide) (Wo (c40 (k + f) g hp (Row.t held) hh z) (ie (b:=b40 ps m.toNat pl held) h1 (Wo (c40 (k + f) g hp (Row.t (rest ps.length b00)) hr z) (ie (b:=!b40 ps m.toNat pl (rest ps.length b00)) (by rw[h2];rfl) ?_)))))⟩
    ·show(("tie":PySem.Str) == "tie"&&(fre ps.length held b00 n&&(gp _ _ f (held++[(n:Int).toNat]) b00 a.d&&gp _ _ f held (b00++[(n:Int).toNat]) b.d)))=true
     rw[toNat_natCast,a2,b2]
     unfold fre
     rw[toNat_natCast,decide_eq_true n1,decide_eq_false n2,decide_eq_false n3,decide_eq_true (by omega)]
     decide +kernel
    ·have hl:(rest ps.length b00).length≤8:=Nat.le_trans (length_filter_le _ _) (by rw[length_range];exact h8)
     refine ip (by rw[length_map];simp only[most];omega) (i32 (g62 held) (λx=>x) (λy hy=>?_) ?_)
     ·obtain⟨k,_,rfl⟩:=List.mem_map.mp hy
      refine(a00 (o:=(a71 (b30 k) (held.map b30)).map (!·)) (a:=g62 held (b30 k)) (by show(a71 (.int k) _).map _=_;rw[G01];rfl) ?_ :)
      exact⟨rfl,rfl,λ_=>⟨rfl,rfl⟩⟩
     ·have e2:(rest ps.length b00).filter (λn=>g62 held (b30 n))=n::r:=by
       rw[← e]
       refine filter_congr λk _=>?_
       show(!(decide (0≤(k:Int))&&decide ((k:Int).toNat∈held)))=_
       rw[decide_eq_true (by omega),Bool.true_and,toNat_natCast]
      rw[map_id',O90,e2]
      refine(a00 (e51 (l:=(n::r).map b30) (j:=0) (x:=b30 n) rfl) ?_ :)
      refine(a00 (O71 (a:=held.map b30) (b:=[b30 n]) (by rw[length_map];show _ + 1≤_;omega)) ?_ :)
      exact Wo a3 (Wo (A00 (k + f + 1) (n:=n) h8 z) (Wo b3 (sd rfl)))
end
theorem x22(h:gp K g (f + 1) held b00 x=true):(∃ w,x=.tup [.str w]∧(if w == "yes" then g held else(w == "no"&&!g (rest K b00)))=true) ∨
  ∃ n a b,x=.tup [.str "tie",b30 n,a,b]∧n < K∧n ∉ b00∧n ∉ held∧gp K g f (held++[n]) b00 a=true∧gp K g f held (b00++[n]) b=true:=by
 cases x with
 |tup l =>
  match l with
  |[]=>cases h
  |[y] =>
   cases y with
   |str w=>exact .inl ⟨w,rfl,h⟩
   |_=>cases h
  |[y,a]=>rw[M22] at h;cases h
  |[y,a,b]=>rw[M32] at h;cases h
  |[y,n,a,b] =>
   cases y with
   |str w =>
    cases n with
    |int i =>
     have h:((w == "tie")&&(fre K held b00 i&&(gp K g f (held++[i.toNat]) b00 a&&gp K g f held (b00++[i.toNat]) b)))=true:=h
     rw[and_eq_true,and_eq_true,and_eq_true,beq_iff_eq] at h
     obtain⟨rfl,hf,ga,gb⟩:=h
     obtain⟨n,rfl,n1,n2,n3⟩:=U11 hf
     rw[toNat_natCast] at ga gb
     exact .inr ⟨n,a,b,rfl,n1,n2,n3,ga,gb⟩
    |_=>cases h
   |_=>cases h
  |y::a::b::c::d::r=>rw[M42] at h;cases h
 |_=>cases h
section
variable {m:Int}{ps cs:List (Int × Int)}{pl:List Nat}
theorem x20:∀ n∈frees K held b00,n < K:=λ_ h=>(j10.mp h).1
theorem G11:(frees K held b00).length≤K:=Nat.le_trans (length_filter_le _ _) (by rw[length_range];exact Nat.le_refl _)
theorem P41(g:c10 m ps)(hp:c30 m pl)(hc:cs.length=ps.length)(ha:∀ c∈cs,IsC c):∀ (f k:Nat) (held b00:List Nat) (x:D) (z:Z),Tk ps.length f held b00→sok x=true→gp ps.length (b40 ps m.toNat pl) f held b00 x=true →
  ∃ v,Fr v (tot (b40 ps m.toNat pl) (cf cs) (frees ps.length held b00) held) (q30 (cf cs) (frees ps.length held b00))∧b10 T (k + f + 5) h80 [.d (.tup (cs.map pr)),.d x] z=some (.ok (.d (pr v)) z):=by
 intro f
 induction f with
 |zero =>
  intro k held b00 x z t
  obtain⟨_,h⟩:=t.pos
  cases h
 |succ f ih =>
  intro k held b00 x z t hs hg
  have hh:∀ n∈held,n < ps.length:=λn hn=>t.lt n (mem_append_left _ hn)
  have h8:=g.len
  have hn:=t.num
  have hcf:∀ {h l:List Nat},∀ n∈frees ps.length h l,IsC (cf cs n):=λn hn=>u80 ha (by rw[hc];exact x20 n hn)
  rcases x22 hg with ⟨w,rfl,hq⟩ | ⟨n,a,b,rfl,n1,n2,n3,ga,gb⟩
  ·have hw:PySem.PyData.strOk w=true:=by
    have:(PySem.PyData.strOk w&&true)=true:=hs
    rwa [Bool.and_true] at this
   cases hy:w == "yes" with
   |true =>
    rw[hy] at hq
    refine⟨(1,1),⟨by decide,by decide,by decide,?_⟩,W.ok (g00 (ps:=2) (ns:=7) (b:=f70) rfl rfl (by decide) ?_)⟩
    ·rw[e91 (f11 g hp) _ held x20 hh hq]
    ·refine(a00 (f81 (v:="yes") hw (by decide +kernel)) ?_ :)
     exact it (b:=w == "yes") hy (sd rfl)
   |false =>
    rw[hy] at hq
    have hq:((w == "no")&&!b40 ps m.toNat pl (rest ps.length b00))=true:=hq
    rw[and_eq_true,not_eq_true'] at hq
    refine⟨(0,1),⟨by decide,by decide,by decide,?_⟩,W.ok (g00 (ps:=2) (ns:=7) (b:=f70) rfl rfl (by decide) ?_)⟩
    ·rw[O70 (f11 g hp) _ held x20 hh ?_]
     ·simp
     ·cases e:b40 ps m.toNat pl (frees ps.length held b00++held) with
      |false=>rfl
      |true =>
       rw[f11 g hp _ (rest ps.length b00) (λn hn=>(j70.mp hn).1) (λn hn=>?_) e] at hq
       ·cases hq.2
       ·rcases List.mem_append.mp hn with hn | hn
        ·obtain⟨q1,q2,q3⟩:=j10.mp hn
         exact j70.mpr ⟨q1,q3⟩
        ·exact j70.mpr ⟨hh n hn,λq=>(List.nodup_append.mp t.nd).2.2 n hn n q rfl⟩
    ·refine(a00 (f81 (v:="yes") hw (by decide +kernel)) ?_ :)
     refine ie (b:=w == "yes") hy ?_
     refine(a00 (f81 (v:="no") hw (by decide +kernel)) ?_ :)
     exact it (b:=w == "no") hq.1 (sd rfl)
  ·have hs':(_&&(true&&(sok a&&(sok b&&true))))=true:=hs
   rw[and_eq_true,and_eq_true,and_eq_true,Bool.and_true] at hs'
   obtain⟨v,fv,cv⟩:=ih k (held++[n]) b00 a z (t.hold n1 n2 n3) hs'.2.2.1 ga
   obtain⟨w,fw,cw⟩:=ih k held (b00++[n]) b z (t.b00 n1 n2 n3) hs'.2.2.2 gb
   rw[O91] at fv
   have hcn:=u80 ha (n:=n) (by omega)
   have bb:=n10 (c:=cf cs) (ns:=frees ps.length held (b00++[n])) hcf
   have tv:=J70 (g:=b40 ps m.toNat pl) (c:=cf cs) (frees ps.length held (b00++[n])) (held++[n]) hcf
   have tw:=J70 (g:=b40 ps m.toNat pl) (c:=cf cs) (frees ps.length held (b00++[n])) held hcf
   have fl:=G11 (K:=ps.length) (held:=held) (b00:=b00++[n])
   have bv:=fv.bd bb.1 tv.2 bb.2
   have bw:=fw.bd bb.1 tw.2 bb.2
   have bc:Bd 10 (cf cs n):=⟨hcn.2.2.1,hcn.2.2.2.1,by have:=hcn.1;omega,by have:=hcn.2.1;omega⟩
   have bl:Bd 10 ((cf cs n).2 - (cf cs n).1,(cf cs n).2):=⟨by have:=hcn.2.2.2.1;show 0≤(cf cs n).2 - _;omega,by have:=hcn.2.2.1;show(cf cs n).2 - _≤(cf cs n).2;omega,bc.b0,bc.bb⟩
   have lowB:∀ {N:Nat}{t b:Int},Bd N (t,b)→Bd N (f30 t b):=λ{N t b} h=>by
    obtain⟨q1,q2,q3⟩:=D91 h.b0 h.t0 h.tb
    exact⟨q1,q2,y70 h.b0,Int.le_trans q3 h.bb⟩
   have et:tot (b40 ps m.toNat pl) (cf cs) (frees ps.length held b00) held=(cf cs n).1 * tot (b40 ps m.toNat pl) (cf cs) (frees ps.length held (b00++[n])) (held++[n]) + ((cf cs n).2 - (cf cs n).1) * tot (b40 ps m.toNat pl) (cf cs) (frees ps.length held (b00++[n])) held:=by
    rw[r40 (C30 g hp) (y80 n1 n2 n3) held x20 hh]
    have hc1:∀ k∈n::held,k < ps.length:=λk hk=>by
     rcases List.mem_cons.mp hk with rfl | hk
     ·exact n1
     ·exact hh k hk
    show _ * tot _ _ _ (n::held) + _=_
    rw[x10 (C30 g hp) _ (n::held) (held++[n]) x20 hc1 (λk hk=>hc1 k ?_) λk=>by rw[mem_cons,mem_append,mem_singleton,or_comm]]
    rw[mem_append,mem_singleton,or_comm] at hk
    exact List.mem_cons.mpr hk
   have eb:q30 (cf cs) (frees ps.length held b00)=(cf cs n).2 * q30 (cf cs) (frees ps.length held (b00++[n])):=(l90 (y80 n1 n2 n3)).trans (d40 _ _)
   refine⟨_,by rw[et,eb];exact Fr.step hcn fv fw bv.tb bw.tb bb.1 tv.1 tw.1,W.ok (g00 (ps:=2) (ns:=7) (b:=f70) rfl rfl (by decide) ?_)⟩
   refine(a00 (f81 (w:="tie") (v:="yes") (by decide +kernel) (by decide +kernel)) ?_ :)
   refine(a00 (f81 (w:="tie") (v:="no") (by decide +kernel) (by decide +kernel)) ?_ :)
   refine(a00 (l71 (cs:=cs) (n:=n) (by omega)) ?_ :)
   refine Wo cv (Wo (l41 (k + f) (n:=10) (m:=10 * (frees ps.length held (b00++[n])).length) bc bv (by omega) z) ?_)
   refine Wo (f42 (k + f + 2) (cf cs n) z) (Wo cw (Wo (l41 (k + f) (n:=10) (m:=10 * (frees ps.length held (b00++[n])).length) bl bw (by omega) z) ?_))
   exact Wo (f32 (k + f) (lowB (bc.mul bv)) (lowB (bl.mul bw)) (by omega) z) (sd rfl)
end
theorem P51(K:Nat):rest K []=range K:=by
 unfold rest
 exact List.filter_eq_self.mpr λ_ _=>rfl
theorem G21(K:Nat):frees K [] []=range K:=by
 unfold frees
 exact List.filter_eq_self.mpr λ_ _=>rfl
theorem Tk.start(K:Nat):Tk K (K + 1) [] []:=⟨.nil,(λ_ h=>nomatch h),by simp⟩
theorem m41{ps:List (Int × Int)}:(range' 0 (ps.map pr).length).map b30=(rest ps.length []).map b30:=by rw[length_map,P51,range_eq_range']
section
variable {m:Int}{ps cs:List (Int × Int)}{pl:List Nat}
theorem n90(k:Nat)(g:c10 m ps)(hp:c30 m pl)(hs:sok x=true)(z:Z):b10 T (k + ps.length + 9) i60 [.d (x00 m ps),.d (.tup (pl.map b30)),.d x] z=some (.ok (.d (.bl (gp ps.length (b40 ps m.toNat pl) (ps.length + 1) [] [] x))) z):=by
 have h8:=g.len
 have h6:=hp.len g.m6
 refine W.ok (g00 (ps:=3) (ns:=3) (b:=i80) rfl rfl (by decide) (Wo (f00 (k + ps.length) z g.web) (Wo (e10 (k + ps.length + 2) (t:=.tup (ps.map pr)) z hp.pls (decide_eq_true (by rw[length_map];omega))) ?_)))
 refine(a00 (o:=lrD [.int ((ps.map pr).length:Nat)]) (P10 (n:=(ps.map pr).length) (by rw[length_map];omega)) ?_ :)
 rw[m41]
 have c1:=Y70 g hp (ps.length + 1) (k + 2) [] [] x z (Tk.start _) hs
 rw[show k + 2 + (ps.length + 1) + 5=k + ps.length + 6 + 2 from by omega] at c1
 exact Wo c1 (sb rfl)
theorem Q70(k:Nat)(g:c10 m ps)(hp:c30 m pl)(z:Z):∃ p:Pap,p.dp≤ps.length + 1∧gp ps.length (b40 ps m.toNat pl) (ps.length + 1) [] [] p.d=true∧b10 T (k + ps.length + 9) z40 [.d (x00 m ps),.d (.tup (pl.map b30))] z=some (.ok (.d p.d) z):=by
 have h8:=g.len
 have h6:=hp.len g.m6
 obtain⟨p,p1,p2,p3⟩:=g72 g hp (ps.length + 1) (k + 3) [] [] z (Tk.start _)
 refine⟨p,p1,p2,W.ok (g00 (ps:=2) (ns:=2) (b:=p70) rfl rfl (by decide) (Wo (f00 (k + ps.length) z g.web) (Wo (e10 (k + ps.length + 2) (t:=.tup (ps.map pr)) z hp.pls (decide_eq_true (by rw[length_map];omega))) ?_)))⟩
 refine(a00 (o:=lrD [.int ((ps.map pr).length:Nat)]) (P10 (n:=(ps.map pr).length) (by rw[length_map];omega)) ?_ :)
 rw[m41]
 rw[show k + 3 + (ps.length + 1) + 4=k + ps.length + 6 + 2 from by omega] at p3
 exact Wo p3 (sd rfl)
theorem Q80(k:Nat)(g:c10 m ps)(hp:c30 m pl)(hc:cs.length=ps.length)(ha:∀ c∈cs,IsC c)(hs:sok x=true)(hx:gp ps.length (b40 ps m.toNat pl) (ps.length + 1) [] [] x=true)(z:Z):b10 T (k + ps.length + 11) z50 [.d (x00 m ps),.d (.tup (cs.map pr)),.d (.tup (pl.map b30)),.d x] z=some (.ok (.d (pr (e40 m ps cs pl))) z):=by
 have h6:=hp.len g.m6
 obtain⟨v,fv,cv⟩:=P41 g hp hc ha (ps.length + 1) (k + 4) [] [] x z (Tk.start _) hs hx
 rw[G21] at fv
 rw[show k + 4 + (ps.length + 1) + 5=k + ps.length + 8 + 2 from by omega] at cv
 have c1:=n90 (k + 1) g hp hs z
 rw[show k + 1 + ps.length + 9=k + ps.length + 8 + 2 from by omega] at c1
 have hcf:∀ n∈range ps.length,IsC (cf cs n):=λn hn=>u80 ha (by rw[hc];exact List.mem_range.mp hn)
 have ev:v=e40 m ps cs pl:=by rw[q40 g hp hc];exact fv.unique (n10 hcf).1 (J70 _ _ hcf).1
 subst ev
 exact W.ok (g00 (ps:=4) (ns:=4) (b:=p80) rfl rfl (by decide) (Wo (n80 (k + ps.length) (m:=m) (ts:=ps.map pr) g.web z (T61 (by rw[length_map];exact hc) ha)) (Wo (e10 (k + ps.length + 4) (t:=.tup (ps.map pr)) z hp.pls (decide_eq_true (by rw[length_map];omega))) (Wo c1 (ie (b:=!gp ps.length (b40 ps m.toNat pl) (ps.length + 1) [] [] x) (by rw[hx];rfl) (Wo cv (sd rfl)))))))
end
theorem g82{l:List (Int × Int)}:A60 .ne (.tup (l.map pr)) (.tup [])=some (!(l.map pr).isEmpty):=by
 show(eqO (.tup (l.map pr)) (.tup [])).map (!·)=_
 unfold eqO
 rw[f02]
 cases l <;> rfl
theorem f91(k:Nat)(c:Int × Int)(z:Z):b10 T (k + 3) F70 [.d (pr c)] z=some (.ok (.d (pr (c.2 - c.1,c.2))) z) :=
 W.ok (g00 (ps:=1) (ns:=1) (b:=u50) rfl rfl (by decide) (sd rfl))
theorem J90:∀ l:List Nat,(∀ p∈l,p < 8)→I40 (l.map b30)=some l
 |[],_=>rfl
 |p::r,h=>by
  show(if 0≤(p:Int)∧(p:Int) < 8 then(I40 (r.map b30)).map ((p:Int).toNat::·) else none)=_
  have:=h p mem_cons_self
  rw[if_pos ⟨by omega,by omega⟩,J90 r λq hq=>h q (mem_cons_of_mem _ hq),toNat_natCast];rfl
section
variable {m:Int}{ps cs:List (Int × Int)}{pl:List Nat}
theorem g92(g:c10 m ps)(hp:c30 m pl)(hn:n < ps.length):bfD .sset [.lst ((pl.map b30).map λx=>b30 (nm (tA ps n) (tB ps n) (natOf x)))]=some (.fr ((q50 ps n pl).map b30)):=by
 obtain⟨h1,h2,_⟩:=g.ab hn
 have h6:=g.m6
 have e:((pl.map b30).map λx=>b30 (nm (tA ps n) (tB ps n) (natOf x)))=(pl.map (nm (tA ps n) (tB ps n))).map b30:=by rw[List.map_map,List.map_map];rfl
 rw[e]
 show(I40 ((pl.map (nm (tA ps n) (tB ps n))).map b30)).map _=_
 rw[J90 _ λq hq=>by
  obtain⟨p,hp',rfl⟩:=List.mem_map.mp hq
  have:=F41 h1 h2 (p:=p) (by have:=hp.lt p hp';omega)
  omega];rfl
abbrev J32(m:Int)(ps cs:List (Int × Int))(pl:List Nat)(n:Nat)(r:Env):Env:=some (.d (x00 m ps))::some (.d (.tup (cs.map pr)))::some (.d (.tup (pl.map b30)))::some (.d (.int n))::r
theorem U62(k:Nat)(g:c10 m ps)(hn:n < ps.length)(q:Q (.rt (.d (.bl true))) z) :
  WS (b11 T k) tp (tl (tl (tl (tl (tl (tl (tl (tl (tl (tl c20)))))))))) (J32 m ps cs pl n [some (.d o4),some (.d o5),some (.d o6),some (.d o7),some (.d (.tup ((r60 ps n).map b30))),some (.d o9),some (.d o10),some (.d o11),some (.d o12),some (.d o13),o14]) z Q E:=by
 have h8:=g.len
 refine(a00 (P10 (n:=(ps.map pr).length) (by rw[length_map];omega)) ?_ :)
 refine ip (by rw[length_map,List.length_range',length_map];exact o00 (by omega)) (i32 (λx=>!decide (natOf x∈r60 ps n)) id (λx hx=>?_) ?_)
 ·obtain⟨i,hi,rfl⟩:=List.mem_map.mp hx
  refine(a00 (o:=(a71 (b30 i) ((r60 ps n).map b30)).map (!·)) (a:=!decide (i∈r60 ps n)) (by rw[G50];rfl) ?_ :)
  exact⟨rfl,rfl,λ_=>⟨rfl,rfl⟩⟩
 ·rw[map_id,O90,length_map,← range_eq_range']
  have gm:∀ i,i∈(range ps.length).filter (λi=>!decide (natOf (b30 i)∈r60 ps n))↔i < ps.length∧pf ps i=pf ps n:=λi=>by
   rw[mem_filter,mem_range,show natOf (b30 i)=i from toNat_natCast i,not_eq_true',decide_eq_false_iff_not,(j60 n).mem_iff,r70]
   refine⟨λh=>⟨h.1,Classical.byContradiction λe=>h.2 ⟨h.1,e⟩⟩,λh=>⟨h.1,λe=>e.2 h.2⟩⟩
  have gl:((range ps.length).filter (λi=>!decide (natOf (b30 i)∈r60 ps n))).length≤8:=Nat.le_trans (length_filter_le _ _) (by rw[length_range];exact h8)
  generalize (range ps.length).filter (λi=>!decide (natOf (b30 i)∈r60 ps n))=gone at gm gl ⊢
  refine(a00 (o:=(a71 (b30 n) (gone.map b30)).map (!·)) (a:=!decide (n∈gone)) (by rw[G50];rfl) ?_ :)
  refine ie (b:=!decide (n∈gone)) (by rw[decide_eq_true ((gm n).mpr ⟨hn,rfl⟩)];rfl) ?_
  refine ip (by rw[length_map];exact o00 (by omega)) (i32 (λx=>!(pf ps (natOf x) == pf ps n)) id (λx hx=>?_) ?_)
  ·obtain⟨i,hi,rfl⟩:=List.mem_map.mp hx
   refine(a00 (X30 ((gm i).mp hi).1) ?_ :)
   refine(a00 (X30 hn) ?_ :)
   exact⟨congrArg (λb=>S.d (.bl (!b))) (U01 _ _),rfl,λ_=>⟨rfl,rfl⟩⟩
  ·have e:(gone.map b30).filter (λx=>!(pf ps (natOf x) == pf ps n))=[]:=by
    refine List.filter_eq_nil_iff.mpr λx hx=>?_
    obtain⟨i,hi,rfl⟩:=List.mem_map.mp hx
    rw[show natOf (b30 i)=i from toNat_natCast i,((gm i).mp hi).2,beq_self_eq_true]
    decide
   rw[e]
   exact q
theorem U72(k:Nat)(g:c10 m ps)(hp:c30 m pl)(hc:cs.length=ps.length)(ha:∀ c∈cs,IsC c)(hn:n < ps.length)(q:Q (.rt (.d (.bl true))) z) :
  WS (b11 T (k + 11)) tp (tl (tl (tl (tl (tl (tl (tl c20))))))) (J32 m ps cs pl n [some (.d o4),some (.d o5),some (.d o6),some (.d o7),some (.d (.tup ((r60 ps n).map b30))),some (.d o9),some (.d (pr (e40 (m - 1) (b80 ps n) (q61 ps cs n) (q50 ps n pl)))),some (.d (pr (e40 m (ps.eraseIdx n) (cs.eraseIdx n) pl))),o12,o13,o14]) z Q E:=by
 have ho:=u80 ha (n:=n) (by rw[hc];exact hn)
 have hl:(cs.eraseIdx n).length=(ps.eraseIdx n).length:=by rw[length_eraseIdx_of_lt hn,length_eraseIdx_of_lt (by omega),hc]
 have b1:=(l91 (g.drawn hn) (c30.drawn g hp hn) (Q40 (cs:=cs)) (F61 hc ha)).s
 have b0:=(l91 (g.cut n) hp hl (F71 ha)).s
 have e:=x02 g hp hc ha hn rfl rfl
 generalize e40 (m - 1) (b80 ps n) (q61 ps cs n) (q50 ps n pl)=s1 at b1 e ⊢
 generalize e40 m (ps.eraseIdx n) (cs.eraseIdx n) pl=s0 at b0 e ⊢
 have bc:Bs 80 (cf cs n):=ho.s.up (by decide)
 have bl:Bs 80 ((cf cs n).2 - (cf cs n).1,(cf cs n).2):=by
  obtain⟨h1,h2,h3,h4,_⟩:=ho
  exact⟨by show((cf cs n).2 - (cf cs n).1).natAbs≤_;exact Nat.le_trans (show _≤1000 by omega) (by decide),by show 0 < (cf cs n).2;omega,bc.b⟩
 have q1:=G90 (k + 7) bc b1 (by decide) z
 have q0:=G90 (k + 7) bl b0 (by decide) z
 have q2:=p51 (k + 7) (bc.mul b1) (bl.mul b0) (by decide) z
 rw[← e] at q2
 refine(a00 (l71 (cs:=cs) (n:=n) (by omega)) ?_ :)
 refine Wo q1 ?_
 refine(a00 (l71 (cs:=cs) (n:=n) (by omega)) ?_ :)
 refine Wo (f91 (k + 8) (cf cs n) z) (Wo q0 (Wo (C50 k g hp hc ha z) (Wo q2 (ie (M02 (e40 m ps cs pl)) ?_))))
 exact U62 (k + 11) g hn q
theorem x32:((r60 ps n).map b30).map (λx=>pr (cf cs (natOf x)))=(q61 ps cs n).map pr:=by
 unfold q61
 rw[List.map_map,List.map_map];rfl
theorem U82(k:Nat)(g:c10 m ps)(hp:c30 m pl)(hc:cs.length=ps.length)(ha:∀ c∈cs,IsC c)(hn:n < ps.length)(q:Q (.rt (.d (.bl true))) z) :
  WS (b11 T (k + 11)) tp (tl (tl (tl (tl c20)))) (J32 m ps cs pl n [some (.d (x00 m (ps.eraseIdx n))),some (.d o5),some (.d (x00 (m - 1) (b80 ps n))),some (.d (.tup (i62 m.toNat (tA ps n) (tB ps n)))),some (.d (.tup ((r60 ps n).map b30))),o9,o10,o11,o12,o13,o14]) z Q E:=by
 have h6:=hp.len g.m6
 have h8:=g.len
 have hl:(cs.eraseIdx n).length=(ps.eraseIdx n).length:=by rw[length_eraseIdx_of_lt hn,length_eraseIdx_of_lt (by omega),hc]
 refine ip (by rw[length_map];exact o00 (by omega)) (d61 (λx=>b30 (nm (tA ps n) (tB ps n) (natOf x))) (λx hx=>?_) ?_)
 ·obtain⟨p,hp',rfl⟩:=List.mem_map.mp hx
  have:=hp.lt p hp'
  refine(a00 (F91 (M:=m.toNat) (A:=tA ps n) (B:=tB ps n) (p:=(p:Int)) (by omega) (by omega)) ?_ :)
  exact⟨rfl,rfl⟩
 ·refine(a00 (g92 g hp hn) ?_ :)
  refine ip (by rw[length_map,(j60 n).length_eq];exact o00 (Nat.le_trans (length_filter_le _ _) (by rw[length_range];omega))) (d61 (λx=>pr (cf cs (natOf x))) (λx hx=>?_) ?_)
  ·obtain⟨i,hi,rfl⟩:=List.mem_map.mp hx
   refine(a00 (l71 (cs:=cs) (n:=i) (by rw[hc];exact(r70.mp ((j60 n).mem_iff.mp hi)).1)) ?_ :)
   exact⟨rfl,rfl⟩
  ·rw[x32]
   refine Wo (C50 k (g.drawn hn) (c30.drawn g hp hn) Q40 (F61 hc ha) z) ?_
   refine(a00 (x12 (l:=cs) (n:=n) (by omega)) ?_ :)
   refine Wo (C50 k (g.cut n) hp hl (F71 ha) z) ?_
   exact U72 k g hp hc ha hn q
theorem Y80(k:Nat)(g:c10 m ps)(hp:c30 m pl)(hc:cs.length=ps.length)(ha:∀ c∈cs,IsC c)(hn:n < ps.length)(z:Z):b10 T (k + 12) n70 [.d (x00 m ps),.d (.tup (cs.map pr)),.d (.tup (pl.map b30)),.d (.int n)] z=some (.ok (.d (.bl true)) z):=by
 have w1:=G10 (k + 4) (x00 m (ps.eraseIdx n)) z
 rw[(g.cut n).web] at w1
 have w2:=G10 (k + 4) (x00 (m - 1) (b80 ps n)) z
 rw[(g.drawn hn).web] at w2
 have h1:=g.m1
 refine W.ok (g00 (k:=k + 9) (ps:=4) (ns:=15) (b:=c20) rfl rfl (by decide) (Wo (q21 (k + 2) g hn z) (Wo (P11 (k + 2) g hn z) (Wo w1 (Wo w2 ?_)))))
 refine ie (b:=!((m - 1) == (m - 1))) (by rw[beq_self_eq_true];rfl) ?_
 refine ie (b:=!((((i62 m.toNat (tA ps n) (tB ps n)).length:Nat):Int) == m)) (by rw[length_map,length_range,toNat_of_nonneg (by omega),beq_self_eq_true];rfl) ?_
 exact U82 k g hp hc ha hn (sd rfl)
abbrev M52(ns:List Int)(j:Nat)(m:Int)(ps cs:List (Int × Int))(pl:List Nat)(o6 o7:Option S):Env:=[some (.d (.lst (ns.map D.int))),some (.d (.int j)),some .z,some (.d (x00 m ps)),some (.d (.tup (pl.map b30))),some (.d (.tup (cs.map pr))),o6,o7]
theorem P61(k:Nat)(g:c10 m ps)(hp:c30 m pl)(hc:cs.length=ps.length)(ha:∀ c∈cs,IsC c)(hz:ZI z)
  (q:∀ (z:Z) (o6 o7:Option S),Q (.nx (M52 ns j m ps cs pl o6 o7)) z) :
  WS (b11 T (k + 37 + 2)) true (match N81 with | .seq (.fr _ _ _ (.seq _ (.seq _ (.seq _ r)))) _=>r | _=>.nil) (M52 ns j m ps cs pl o6 o7) z Q E:=by
 have h8:=g.len
 obtain⟨p,p1,p2,p3⟩:=Q70 (k + 30 - ps.length) g hp z
 rw[show k + 30 - ps.length + ps.length + 9=k + 37 + 2 from by omega] at p3
 have c1:=n90 (k + 30 - ps.length) g hp p.sok z
 rw[show k + 30 - ps.length + ps.length + 9=k + 37 + 2 from by omega,p2] at c1
 have c2:=Q80 (k + 28 - ps.length) g hp hc ha p.sok p2 z
 rw[show k + 28 - ps.length + ps.length + 11=k + 37 + 2 from by omega] at c2
 refine Wo p3 (Wo c1 (Wo c2 (Wo (C50 (k + 28) g hp hc ha z) (ie (M02 (e40 m ps cs pl)) ?_))))
 refine(a00 g82 ?_ :)
 refine ib (b:=!(ps.map pr).isEmpty) (λhe=>?_) λhe=>q _ _ _
 have h0:0 < ps.length:=by cases ps with | nil=>cases he | cons _ _=>exact Nat.succ_pos _
 refine(h50 (k + 36) (((ps.map pr).length:Nat):Int) hz (by rw[length_map];omega) (by rw[length_map];omega)).imp λs z1 ⟨hz1,n,e,hn⟩=>?_
 subst e
 rw[length_map] at hn
 exact Wo (Y80 (k + 27) g hp hc ha (n:=n) (by omega) z1) (q _ _ _)
end
theorem h02(b:Bool):∃ mo:Int,T30 (.lst [.int 5,.int 8]) (.int (if b=true then 1 else 0))=some (.int mo)∧0≤mo∧mo≤8:=by
 cases b with
 |true=>exact⟨8,rfl,by decide,by decide⟩
 |false=>exact⟨5,rfl,by decide,by decide⟩
abbrev y52(L:Int):Int:=if (if (5:Int) < L then 5 else L) > 1 then(if (5:Int) < L then 5 else L) else 1
theorem x42(k:Nat)(ns:List Int):b10 T (k + 40) v52 [.d (.lst (ns.map D.int))] none=some (.ok (.d (.bl true)) none):=by
 refine W.ok (g00 (k:=k + 37) (ps:=1) (ns:=8) (b:=N81) rfl rfl (by decide) ?_)
 have hN:0≤y52 ((ns.map D.int).length:Int)∧y52 ((ns.map D.int).length:Int) < 100000:=by
  unfold y52
  split <;> (try split) <;> omega
 refine(a00 (N90 (m:=y52 ((ns.map D.int).length:Int)) hN.1 hN.2) ?_ :)
 refine d51 (λxs ρ z=>(∀ x∈xs,∃ j:Nat,x=.int j)∧∃ o1 o2 o3 o4 o5 o6 o7:Option S,ρ=[some (.d (.lst (ns.map D.int))),o1,o2,o3,o4,o5,o6,o7]) _ ⟨λx hx=>?_,_,_,_,_,_,_,_,rfl⟩ ?_ ?_
 ·obtain⟨i,_,rfl⟩:=List.mem_map.mp hx
  exact⟨i,rfl⟩
 ·rintro x r ρ z1 ⟨hx,o1,o2,o3,o4,o5,o6,o7,rfl⟩
  obtain⟨j,rfl⟩:=hx x mem_cons_self
  obtain⟨sn,sb,hz1,hst⟩:=O11 (k + 35) ns j z1
  obtain⟨mo,emo,h0,h8⟩:=h02 ((j:Int) == 0)
  refine Wo hst ?_
  refine(a00 emo ?_ :)
  refine(D81 (k + 34) hz1 h0 h8).imp λs z2 ⟨hz2,m,ps,e,g,_⟩=>?_
  subst e
  refine(X00 (k + 35) (t:=.tup (ps.map pr)) g.m1 g.m6 hz2).imp λs z3 ⟨hz3,pl,e,hp⟩=>?_
  subst e
  refine(O40 (k + 34) (m:=m) (ts:=ps.map pr) hz3 (by rw[length_map];exact g.len)).imp λs z4 ⟨hz4,cs,e,hc,ha⟩=>?_
  subst e
  rw[length_map] at hc
  exact P61 k g hp hc ha hz4 λ_ _ _=>⟨λx hx'=>hx x (mem_cons_of_mem _ hx'),_,_,_,_,_,_,_,rfl⟩
 ·rintro ρ z1 ⟨_,o1,o2,o3,o4,o5,o6,o7,rfl⟩
  exact⟨rfl,rfl⟩
theorem pure:∀ ns:List Int,ns.length≤63→b10 (tabOf rows) 40 v52 [.d (.lst (ns.map D.int))] none=some (.ok (.d (.bl true)) none):=λns _=>by
 rw[U52]
 exact x42 0 ns
end K3
namespace K3
open PySem L2 Q
theorem ok:rows.all (i22 (H50 rows) nums cn)=true:=by decide +kernel
theorem bd:p00 rows:=⟨λ_ _ _ _ _ _ us hl=>by obtain⟨_,_,rfl⟩:=us2 hl;rfl,
 λ_ _ _ _ _ _ us hl=>by obtain⟨_,_,rfl⟩:=us2 hl;rfl,
 λ_ _ _ _ _ _ us hl=>by obtain⟨_,_,rfl⟩:=us2 hl;rfl,
 λ_ _ _ _ _ _ us hl=>by obtain⟨_,_,rfl⟩:=us2 hl;rfl,
 λ_ _ _ _ _ _ us hl=>by obtain⟨_,rfl⟩:=us1 hl;rfl,
 λ_ _ _ _ _ _ us hl=>by obtain⟨_,rfl⟩:=us1 hl;rfl,
 λ_ _ _ _ _ _ us hl=>by obtain⟨_,_,rfl⟩:=us2 hl;rfl,
 λ_ _ _ _ _ _ us hl=>by obtain⟨_,_,rfl⟩:=us2 hl;rfl,
 λ_ _ _ _ _ _ us hl=>by obtain⟨_,_,rfl⟩:=us2 hl;rfl,
 λ_ _ _ _ _ _ us hl=>by obtain⟨_,rfl⟩:=us1 hl;rfl,
 λ_ _ _ _ _ _ us hl=>by obtain⟨_,rfl⟩:=us1 hl;rfl,
 λ_ _ _ _ _ _ us hl=>by obtain⟨_,_,rfl⟩:=us2 hl;rfl,
 λ_ _ _ _ _ _ us hl=>by obtain⟨_,rfl⟩:=us1 hl;rfl,
 λ_ _ _ _ _ _ us hl=>by obtain⟨_,_,rfl⟩:=us2 hl;rfl,
 λ_ _ _ _ _ _ us hl=>by obtain⟨_,_,rfl⟩:=us2 hl;rfl,
 λ_ _ _ _ _ _ us hl=>by obtain⟨_,_,rfl⟩:=us2 hl;rfl,
 λ_ _ _ _ _ _ us hl=>by obtain⟨_,_,rfl⟩:=us2 hl;rfl,
 λ_ _ _ _ _ _ us hl=>by obtain⟨_,_,rfl⟩:=us2 hl;rfl,
 λ_ _ _ _ _ _ us hl=>by obtain⟨_,_,rfl⟩:=us2 hl;rfl,
 λ_ _ _ _ _ _ us hl=>by obtain⟨_,_,_,rfl⟩:=us3 hl;rfl,
 λ_ _ _ _ _ _ us hl=>by obtain⟨_,rfl⟩:=us1 hl;rfl,
 λ_ _ _ _ _ _ us hl=>by obtain⟨_,_,rfl⟩:=us2 hl;rfl,
 λ_ _ _ _ _ _ us hl=>by obtain⟨_,_,rfl⟩:=us2 hl;rfl,
 λ_ _ _ _ _ _ us hl=>by obtain⟨_,_,rfl⟩:=us2 hl;rfl,
 λ_ _ _ _ _ _ us hl=>by obtain⟨_,_,rfl⟩:=us2 hl;rfl,
 λ_ _ _ _ _ _ us hl=>by obtain⟨_,_,_,rfl⟩:=us3 hl;rfl,
 λ_ _ _ _ _ _ us hl=>by obtain⟨_,_,rfl⟩:=us2 hl;rfl,
 λ_ _ _ _ _ _ us hl=>by obtain⟨_,_,rfl⟩:=us2 hl;rfl,
 λ_ _ _ _ _ _ us hl=>by obtain⟨_,_,_,_,_,rfl⟩:=us5 hl;rfl,
 λ_ _ _ _ _ _ us hl=>by obtain⟨_,_,_,_,_,rfl⟩:=us5 hl;rfl,
 λ_ _ _ _ _ _ us hl=>by obtain⟨_,_,_,rfl⟩:=us3 hl;rfl,
 λ_ _ _ _ _ _ us hl=>by obtain⟨_,_,_,_,rfl⟩:=us4 hl;rfl,
 λ_ _ _ _ _ _ us hl=>by obtain⟨_,_,rfl⟩:=us2 hl;rfl,
 λ_ _ _ _ _ _ us hl=>by obtain⟨_,_,rfl⟩:=us2 hl;rfl,
 λ_ _ _ _ _ _ us hl=>by obtain⟨_,_,_,_,rfl⟩:=us4 hl;rfl,
 λ_ _ _ _ _ _ us hl=>by obtain⟨_,rfl⟩:=us1 hl;rfl,
 λ_ _ _ _ _ _ us hl=>by obtain⟨_,_,rfl⟩:=us2 hl;rfl,
 λ_ _ _ _ _ _ us hl=>by obtain⟨_,rfl⟩:=us1 hl;rfl,
 λ_ _ _ _ _ _ us hl=>by obtain⟨_,_,rfl⟩:=us2 hl;rfl,
 λ_ _ _ _ _ _ us hl=>by obtain⟨_,_,rfl⟩:=us2 hl;rfl,
 λ_ _ _ _ _ _ us hl=>by obtain⟨_,_,_,rfl⟩:=us3 hl;rfl,
 λ_ _ _ _ _ _ us hl=>by obtain⟨_,_,rfl⟩:=us2 hl;rfl,
 λ_ _ _ _ _ _ us hl=>by obtain⟨_,_,rfl⟩:=us2 hl;rfl,
 λ_ _ _ _ _ _ us hl=>by obtain⟨_,_,rfl⟩:=us2 hl;rfl,
 λ_ _ _ _ _ _ us hl=>by obtain⟨_,rfl⟩:=us1 hl;rfl,
 λ_ _ _ _ _ _ us hl=>by obtain⟨_,_,rfl⟩:=us2 hl;rfl,
 λ_ _ _ _ _ _ us hl=>by obtain⟨_,_,rfl⟩:=us2 hl;rfl,
 λ_ _ _ _ _ _ us hl=>by obtain⟨_,_,rfl⟩:=us2 hl;rfl,
 λ_ _ _ _ _ _ us hl=>by obtain⟨_,_,rfl⟩:=us2 hl;rfl,
 λ_ _ _ _ _ _ us hl=>by obtain⟨_,_,rfl⟩:=us2 hl;rfl,
 λ_ _ _ _ _ _ us hl=>by obtain⟨_,_,rfl⟩:=us2 hl;rfl,
 λ_ _ _ _ _ _ us hl=>by obtain⟨_,rfl⟩:=us1 hl;rfl,
 λ_ _ _ _ _ _ us hl=>by obtain⟨_,_,rfl⟩:=us2 hl;rfl,
 λ_ _ _ _ _ _ us hl=>by obtain⟨_,_,_,_,rfl⟩:=us4 hl;rfl,
 λ_ _ _ _ _ _ us hl=>by obtain⟨_,rfl⟩:=us1 hl;rfl,trivial⟩
def asks:o20:=V50 rows nums cn
def prg:Program:=PySem.Challenge.pw_tiechances_k43_whole_cases
def vq:Program:=view prg [71]
def loose:List Str:=prg.boundNames.filter λx=>!(x == ("law":Str))
def runL(w:World)(os:OsState):=(F10 PySem.W.through (PySem.W.stepOk 11 (some (.ref 6))) (PySem.W.stepT (denote treeTable) prg w) 20000 (d82 w os) (PySem.W.topStub prg)).map (λs =>
   (PySem.W.staticsOk (importedModules prg.main.body) (PySem.W.boot_heap w.params) s.abs.heap&&PySem.W.namesBound prg s.abs.heap&&PySem.W.gensDone s.abs&&PySem.W.laidKept (PySem.W.boot_heap w.params) s.abs.heap,
    PySem.W.openSeen vq loose (importedModules prg.main.body) (λ_=>true) true s.abs,asks.obs s.abs))
def runR(w:World):=some (true,PySem.W.openGood vq loose,asks.due w)
def _root_.PySem.W.Fast.tw16539864215062224854:PySem.Program:=PySem.Challenge.pw_tiechances_k43_whole_cases
theorem _root_.PySem.W.Fast.te16539864215062224854:PySem.Challenge.pw_tiechances_k43_whole_cases=PySem.W.Fast.tw16539864215062224854:=rfl
theorem twins:(λ(_:runL=runL∧runR=runR)=>true) ⟨rfl,rfl⟩=true:=by k_qdec
theorem run_eq:∀ (w:World) (os:OsState),PySem.W.Fast.tw14075725262101462980 w os=PySem.W.Fast.tw18139657281711212703 w:=λw os=>by kernel_rfl
theorem left:PySem.W.LeftO PySem.Challenge.pw_tiechances_k43_whole_cases vq loose (λ_=>true) asks.hook.obs asks.hook.val 20000:=d92 (by kernel_rfl) rfl (λ_=>by kernel_rfl) λw os =>
 (congrFun (congrFun PySem.W.Fast.te14075725262101462980 w) os).trans ((run_eq w os).trans (congrFun PySem.W.Fast.te18139657281711212703 w).symm)
end K3
open PySem PySem.W PyProof.Rows
set_option maxRecDepth 100000 in
set_option maxHeartbeats 0 in
theorem PySem.Challenge.cw_tiechances_k43_whole_cases_holds : PySem.Challenge.rw_tiechances_k43_whole_cases.Holds := by
 w_on;o_law
 refine holds_open (q:=K3.vq) (loose:=K3.loose) (Xt:=λ_=>true) (XP:=λ_ _=>True) (Yf:=K3.asks.hook.obs) (Ya:=K3.asks.hook.val) (YP:=K3.asks.hook.says) K3.left K3.asks.hook.of K3.asks.hook.keeps (λ_ _=>trivial) (λ_ _ _ _ _=>trivial) (by rfl) (by rfl) (by rfl) (λs _=>recFacts_of rfl) rfl (by first | assumption | decide +kernel) (by decide +kernel) ⟨rfl,rfl,rfl,rfl,rfl,by decide +kernel⟩ ?hw ?hc
 case hw=>w_witness2
 case hc=>exact Q.N71 (l:=PySem.Challenge.rw_tiechances_k43_whole_cases) (n:=63) (k:=40) (x:="_law_script") rfl (by decide) rfl ⟨rfl,by decide,by decide⟩ (Q.e42 (k:=37) (iL:=54) K3.ok K3.bd rfl rfl rfl K3.pure)
