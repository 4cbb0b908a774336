import PyProof.Rows.All
import Wide.All
import OpenK.AllK
import Wide.FinOn
import Lean
import PyProof.EqAt
import PyProof.EqKinds
import PyProof.TupleCall
import KE.KSortTup
import OpenK.KRaise
import OpenK.KOwn
import PyProof.ExcBaseAll.ValueError
import KE.KIsAll
import PyProof.ExcAttrAll.ValueError
import PyProof.NsDelKeeps
import PyProof.RulesAs
import KE.KTryMore
import KE.KLam
import KE.KNestM
import OpenK.KEqL
import PyProof.Rows.EqDataRows
import PyProof.NeKinds
import PyProof.FactsAll.dict
import PyProof.FactsAll.subtypes
import PyProof.ListRange
import PyProof.TupleOfGen
import PyProof.TupleOfSeq
import KE.KTupSum
import PyProof.Rows.SumAny
import PySem.Challenge.RW_tiechances_k40_webs_cut_and_drawn
local macro_rules
|`(command|def $i:declId $s:optDeclSig $v)=>`(noncomputable def $i:declId $s:optDeclSig $v)
|`(command|abbrev $i:declId $s:optDeclSig $v)=>`(noncomputable abbrev $i:declId $s:optDeclSig $v)
open PySem.W (methodObj hideAll hideAll_get of_hideAll callWith_K cellsFrom_some fnOf codeRec_of kitx_none kitx_bool kitx_int kitx_str kitx_tuple kitx_list kitx_dict kitAny kia_tup envX kla_fn codeHd_of_K kla_obj mg_none_of mg_of view)
open PySem.Heap (lt_size size_push)
open List (range filterMap_cons mem_cons_self mem_cons_of_mem mem_append_left mem_append_right append_nil of_mem_zip replicate length_take mem_of_getElem? length_append length_map size_toArray length_drop map_nil map_cons length_set reverse_cons replicate_succ flatten_cons foldl append_assoc lookup_cons forIn_cons toArray mem_cons not_mem_nil ext_getElem zip_cons_cons length_cons length_nil nil_append all_eq_true map_id all_nil map_congr_left length_range getElem_mem all_cons range' range_eq_range' getElem_range drop_length map_append filter_cons mem_filter mem_range length_filter_le filter_map getElem_map)
open Array (length_toList toList getD toArray_toList)
open Nat (ne_of_gt zero_le le_add_right not_lt_zero ble zero_add lt_succ_self)
open PyProof.Rows (lt_int)
open Int (toNat_natCast emod_nonneg emod_lt_of_pos gcd natAbs_mul mul_pos)
open PySem.Builtin.Slice (sliceAdjust slicePlaces sliceApplied sliceFields)
open PySem.Builtin.Tuple (tupleItemsOf tupleExact tupleCompareSizes tupleTooMany tupleIsExact)
open Bool (and_eq_true false_eq_true not_eq_true' or_eq_true)
open Option (getD_none map_eq_some_iff map)
open ForInStep (yield)
open PySem.Builtin.SmallTypes (nextOf ownedTupleIsFree ownedTupleHandOut)
set_option bootstrap.genMatcherCode false
set_option compiler.extract_closed false
set_option genInjectivity false
set_option genSizeOf false
set_option autoImplicit true
set_option relaxedAutoImplicit true
set_option Elab.async false
set_option linter.all false
set_option maxRecDepth 100000
namespace L2
open PySem PySem.Spec PyProof.Rows
abbrev Key:=Sum Int Str
def M41:Key→Value→Bool
 |.inl k,v=>Value.isInt k v
 |.inr x,v=>Value.isStrOf x v
def q42(w:World):Key→Int
 |.inl k=>hashInt k
 |.inr x=>hashStr w x
theorem c50:∀ {k:Key}{v:Value},M41 k v=true→(∃ i t,k=Sum.inl i∧v=Value.int i t)∨(∃ x t,k=Sum.inr x∧v=Value.str x t)
 |.inl i,v,h=>by
  obtain⟨t,e⟩:=Value.isInt_shape (k:=i) (v:=v) h
  exact .inl ⟨i,t,rfl,e⟩
 |.inr x,v,h=>by
  obtain⟨t,e⟩:=Value.isStrOf_shape (x:=x) (v:=v) h
  exact .inr ⟨x,t,rfl,e⟩
theorem M51(a b:Int):decide ((Sum.inl a:Key)=Sum.inl b)=(a == b):=by
 by_cases e:a=b
 ·subst e;simp
 ·have h:¬ (Sum.inl a:Key)=Sum.inl b:=λq=>e (Sum.inl.inj q)
  rw[decide_eq_false h]
  exact(beq_eq_false_iff_ne.mpr e).symm
theorem M61(a b:Str):decide ((Sum.inr a:Key)=Sum.inr b)=decide (a=b):=by
 by_cases e:a=b
 ·subst e;simp
 ·have h:¬ (Sum.inr a:Key)=Sum.inr b:=λq=>e (Sum.inr.inj q)
  rw[decide_eq_false h,decide_eq_false e]
theorem M71(a:Int)(b:Str):decide ((Sum.inl a:Key)=Sum.inr b)=false:=decide_eq_false (λq=>nomatch q)
theorem M81(a:Str)(b:Int):decide ((Sum.inr a:Key)=Sum.inl b)=false:=decide_eq_false (λq=>nomatch q)
def Z50(prog:Program)(w:World):PySem.KeyKind prog w Key where
 is:=M41
 hash:=q42 w
 inj:=λv a b ha hb=>by
  rcases c50 ha with ⟨i,t,rfl,rfl⟩ | ⟨x,t,rfl,rfl⟩
  ·rcases c50 hb with ⟨j,u,rfl,e⟩ | ⟨y,u,rfl,e⟩
   ·injection e with e1 _;rw[e1]
   ·exact nomatch e
  ·rcases c50 hb with ⟨j,u,rfl,e⟩ | ⟨y,u,rfl,e⟩
   ·exact nomatch e
   ·injection e with e1 _;rw[e1]
 byValue:=λk v h=>by
  rcases c50 h with ⟨i,t,rfl,rfl⟩ | ⟨x,t,rfl,rfl⟩ <;> rfl
 pyHash:=λhv h=>by
  rcases c50 hv with ⟨i,t,rfl,rfl⟩ | ⟨x,t,rfl,rfl⟩
  ·exact wpAny_pyHash_int h
  ·exact wpAny_pyHash_str h
 eqBool:=λhu hv h=>by
  rcases c50 hu with ⟨i,t,rfl,rfl⟩ | ⟨x,t,rfl,rfl⟩
  ·rcases c50 hv with ⟨j,u,rfl,rfl⟩ | ⟨y,u,rfl,rfl⟩
   ·rw[M51] at h;exact wpAny_eqBool_int h
   ·rw[M71] at h;exact SeqAt.EqAt.int_str i t y u _ _ _ _ h
  ·rcases c50 hv with ⟨j,u,rfl,rfl⟩ | ⟨y,u,rfl,rfl⟩
   ·rw[M81] at h;exact SeqAt.EqAt.str_int x t j u _ _ _ _ h
   ·rw[M61] at h;exact wpAny_eqBool_str h
 «strs»:=λk x t v h=>by
  rcases c50 h with ⟨i,u,rfl,e⟩ | ⟨y,u,rfl,e⟩
  ·exact nomatch e
  ·injection e with e1 _
   subst e1
   cases v <;> rfl
inductive V where
 |non | bl (b:Bool) | int (i:Int) | str (x:Str) | byt (b:Array UInt8) | flt (b:UInt64) | ref (a:Addr) | ty (n:String)
 deriving DecidableEq
def RelV:V→Value→Prop
 |.non,u=>u=Value.none
 |.bl b,u=>u=Value.bool b
 |.int i,u=>∃ t,u=Value.int i t
 |.str x,u=>∃ t,u=Value.str x t
 |.byt b,u=>∃ t,u=Value.bytes b t
 |.flt b,u=>∃ t,u=Value.float b t
 |.ref a,u=>u=Value.ref a
 |.ty n,u=>u=Value.type n
abbrev Vals:List V→List Value→Prop:=Paired RelV
theorem Vals.length{xs:List V}{us:List Value}(r:Vals xs us):xs.length=us.length:=Paired.length r
theorem Vals.get:∀ {xs:List V}{us:List Value}{i:Nat}{x:V},Vals xs us→xs[i]?=some x→∃ u,us[i]?=some u∧RelV x u
 |_,_,_,_,.nil,e=>by simp at e
 |_,_,0,_,.cons r _,e=>by simp at e;subst e;exact⟨_,rfl,r⟩
 |_,_,i + 1,x,.cons _ t,e=>by
  obtain⟨u,h1,h2⟩:=Vals.get (i:=i) (x:=x) t (by simpa using e)
  exact⟨u,by simpa using h1,h2⟩
theorem Vals.set{x:V}{u:Value}(r:RelV x u):∀ {xs:List V}{us:List Value} (i:Nat),Vals xs us→Vals (xs.set i x) (us.set i u)
 |_,_,_,.nil=>.nil
 |_,_,0,.cons _ t=>.cons r t
 |_,_,i + 1,.cons q t=>.cons q (Vals.set r i t)
theorem Vals.append:∀ {xs ys:List V}{us ws:List Value},Vals xs us→Vals ys ws→Vals (xs++ys) (us++ws)
 |_,_,_,_,.nil,s=>s
 |_,_,_,_,.cons r t,s=>.cons r (Vals.append t s)
theorem Vals.take:∀ {xs:List V}{us:List Value} (n:Nat),Vals xs us→Vals (xs.take n) (us.take n)
 |_,_,0,_=>.nil
 |_,_,_ + 1,.nil=>.nil
 |_,_,n + 1,.cons r t=>.cons r (Vals.take n t)
theorem Vals.drop:∀ {xs:List V}{us:List Value} (n:Nat),Vals xs us→Vals (xs.drop n) (us.drop n)
 |_,_,0,r=>r
 |_,_,_ + 1,.nil=>.nil
 |_,_,n + 1,.cons _ t=>Vals.drop n t
def n82:Option V→Option Value→Prop
 |some v,some u=>RelV v u
 |none,none=>True
 |_,_=>False
def KV{κ:Type}:List (κ × V)→List (κ × Value)→Prop:=Paired λ(p:κ × V) (q:κ × Value)=>p.1=q.1∧RelV p.2 q.2
def kV:Key→V
 |.inl i=>.int i
 |.inr x=>.str x
inductive HO where
 |lst (xs:List V)
 |tup (xs:List V)
 |dK (kvs:List (Key × V)) | dT (kvs:List (List Key × V))
 |set (S:Int→Bool) (n:Nat)
 |ins (C dx:Addr) (fs:List (Str × V))
 |own (x:Addr)
 |xd (fs:List (Str × V))
 |met (f x:Addr)
 |rng (lo hi:Int)
 |frz (o:Obj) (u:HO)
 |tbl (ps:Array Value)
 |ext (φ:Heap→Prop)
abbrev Hp:=Addr→Option HO
def upd(H:Hp)(a:Addr)(o:HO):Hp:=λb=>if b=a then some o else H b
theorem a80{H:Hp}{a:Addr}{o:HO}:upd H a o a=some o:=by unfold upd;rw[if_pos rfl]
theorem a20{H:Hp}{a b:Addr}{o:HO}(h:b≠a):upd H a o b=H b:=by unfold upd;rw[if_neg h]
theorem a60{H:Hp}{a b:Addr}{o:HO}(h:H a=some o)(h':H b=none):a≠b:=by
 intro e;subst e;rw[h] at h';cases h'
section
variable (P:Program) (w:World)
def f30(H:Hp)(h:Heap)(a:Addr):HO→Prop
 |.lst xs=>xs.length≤sizeLine∧∃ (its:List Value) (n:Nat),Vals xs its∧h.get? a=some { cls:=.type "list",data:=.seq its.toArray n }
 |.tup xs=>xs.length≤sizeLine∧∃ its:List Value,Vals xs its∧IsTup h a its.toArray
 |.dK kvs=>kvs.length≤sizeLine∧(a == sysModules)=false∧∃ vs,KV kvs vs∧h.DictOf (Z50 P w) a vs
 |.dT kvs=>kvs.length≤sizeLine∧(a == sysModules)=false∧∃ xs:List (List Key × Addr × Value),
   Paired (λ(p:List Key × V) (q:List Key × Addr × Value)=>p.1=q.1∧H q.2.1=some (.tup (p.1.map kV))∧RelV p.2 q.2.2) kvs xs ∧
   ∃ o es ep,h.get? a=some o∧o.ExactDict∧o.data=.dict es ep∧es.toList=xs.map (entryOfKey (tupleKind (Z50 P w)))∧(xs.map (·.1)).Nodup
 |.set S n=>h.SetOf (intKind P w) a S n
 |.ins C dx fs=>H dx=some (.own a)∧fs.length≤1000∧dx≠a∧h.get? a=some (PySem.W.instObj C dx) ∧
   ∃ mA,h.Ns1 dx mA∧(∀ f,n82 (fs.lookup f) (mA f))∧PySem.Within mA (fs.map (·.1))
 |.own _=>∃ o,h.get? a=some o
 |.xd fs=>∃ mA,h.Ns1 a mA∧∀ f,n82 (fs.lookup f) (mA f)
 |.rng lo hi=>∃ t u v,h.get? a=some { cls:=.type "range",data:=.fields #[.int lo t,.int hi u,.int 1 v] }
 |.frz o u=>h.get? a=some o∧f30 H h a u
 |.tbl ps=>h.get? a=some { cls:=.none,data:=.fields ps }
 |.met f x=>h.get? a=some (methodObj (.ref f) (.ref x))
 |.ext φ=>φ h∧(∃ o,h.get? a=some o)∧∀ h1 h2:Heap,φ h1→(∀ o,h1.get? a=some o→h2.get? a=some o)→φ h2
def HOk(H:Hp)(h:Heap):Prop:=∀ a o,H a=some o→f30 P w H h a o
end
section
variable {P:Program}{w:World}{H H':Hp}{h h':Heap}{a:Addr}{o:HO}
theorem f30.lt(x:f30 P w H h a o):a < h.objs.size:=by
 cases o with
 |lst xs=>obtain⟨_,_,_,_,e⟩:=x;exact lt_size e
 |tup xs=>obtain⟨_,_,_,p⟩:=x;exact p.lt
 |dK kvs=>obtain⟨_,_,_,_,o,_,_,e,_⟩:=x;exact lt_size e
 |dT kvs=>obtain⟨_,_,_,_,o,_,_,e,_⟩:=x;exact lt_size e
 |set S n=>obtain⟨o,_,_,_,e,_⟩:=x;exact lt_size e
 |ins C dx fs=>obtain⟨_,_,_,e,_⟩:=x;exact lt_size e
 |own y=>obtain⟨_,e⟩:=x;exact lt_size e
 |xd fs=>obtain⟨_,⟨_,_,_,e,_⟩,_⟩:=x;exact lt_size e
 |rng lo hi=>obtain⟨_,_,_,e⟩:=x;exact lt_size e
 |frz ob u=>obtain⟨e,_⟩:=x;exact lt_size e
 |tbl ps=>exact lt_size (show h.get? a=some _ from x)
 |met f y=>exact lt_size (show h.get? a=some _ from x)
 |ext φ=>obtain⟨_,⟨_,e⟩,_⟩:=x;exact lt_size e
theorem Paired.x81{α β:Type}{F G:α→β→Prop}:∀ {l₁:List α}{l₂:List β},Paired F l₁ l₂→(∀ a b,F a b→G a b)→Paired G l₁ l₂
 |_,_,.nil,_=>.nil
 |_,_,.cons r t,f=>.cons (f _ _ r) (Paired.x81 t f)
theorem f30.j40(x:f30 P w H h a o)(k:∀ b u,(b=a∨H b=some (.own a))→h.get? b=some u→h'.get? b=some u)
  (ho:∀ b,H b=some (.own a)→H' b=some (.own a)) (ht:∀ b xs,H b=some (.tup xs)→H' b=some (.tup xs)):f30 P w H' h' a o:=by
 induction o with
 |lst xs=>obtain⟨z,its,n,r,e⟩:=x;exact⟨z,its,n,r,k _ _ (.inl rfl) e⟩
 |tup xs=>obtain⟨z,its,r,ob,e,c⟩:=x;exact⟨z,its,r,ob,k _ _ (.inl rfl) e,c⟩
 |dK kvs=>obtain⟨z,y,vs,r,ob,es,ep,e,c⟩:=x;exact⟨z,y,vs,r,ob,es,ep,k _ _ (.inl rfl) e,c⟩
 |dT kvs =>
  obtain⟨z,y,xs,r,ob,es,ep,e,c⟩:=x
  exact⟨z,y,xs,Paired.x81 r λp q z=>⟨z.1,ht _ _ z.2.1,z.2.2⟩,ob,es,ep,k _ _ (.inl rfl) e,c⟩
 |set S n=>obtain⟨ob,es,ep,t,e,c⟩:=x;exact⟨ob,es,ep,t,k _ _ (.inl rfl) e,c⟩
 |ins C dx fs =>
  obtain⟨d,z,ne,e,mA,⟨od,es,ep,e2,c⟩,r⟩:=x
  exact⟨ho _ d,z,ne,k _ _ (.inl rfl) e,mA,⟨od,es,ep,k _ _ (.inr d) e2,c⟩,r⟩
 |own y=>obtain⟨ob,e⟩:=x;exact⟨ob,k _ _ (.inl rfl) e⟩
 |xd fs=>obtain⟨mA,⟨od,es,ep,e,c⟩,r⟩:=x;exact⟨mA,⟨od,es,ep,k _ _ (.inl rfl) e,c⟩,r⟩
 |rng lo hi=>obtain⟨t,u,v,e⟩:=x;exact⟨t,u,v,k _ _ (.inl rfl) e⟩
 |frz ob u ih=>obtain⟨e,q⟩:=x;exact⟨k _ _ (.inl rfl) e,ih q⟩
 |tbl ps =>
  have e:h.get? a=some { cls:=.none,data:=.fields ps }:=x
  show h'.get? a=some { cls:=.none,data:=.fields ps }
  exact k a _ (.inl rfl) e
 |met f y =>
  have e:h.get? a=some (methodObj (.ref f) (.ref y)):=x
  show h'.get? a=some (methodObj (.ref f) (.ref y))
  exact k a _ (.inl rfl) e
 |ext φ=>obtain⟨p,⟨o,e⟩,st⟩:=x;exact⟨st _ _ p λo q=>k _ _ (.inl rfl) q,⟨o,k _ _ (.inl rfl) e⟩,st⟩
theorem HOk.lt(x:HOk P w H h)(e:H a=some o):a < h.objs.size:=(x a o e).lt
theorem HOk.fresh(x:HOk P w H h)(e:h.objs.size≤a):H a=none:=by
 cases q:H a with
 |none=>rfl
 |some u=>exact absurd (Nat.lt_of_lt_of_le (x.lt q) e) (Nat.lt_irrefl _)
theorem HOk.kept(x:HOk P w H h)(k:∀ b u,h.get? b=some u→h'.get? b=some u):HOk P w H h':=λa o e =>
 (x a o e).j40 (λb u _ q=>k b u q) (λ_ q=>q) λ_ _ q=>q
theorem HOk.laid(x:HOk P w H h)(k:∀ b u,h.get? b=some u→h'.get? b=some u)(hp:h.objs.size≤a)(new:f30 P w (upd H a o) h' a o):HOk P w (upd H a o) h':=λb u e=>by
 have hn:=x.fresh hp
 by_cases hb:b=a
 ·subst hb;rw[a80] at e;cases e;exact new
 ·rw[a20 hb] at e
  exact(x b u e).j40 (λc v _ q=>k c v q) (λc q=>by rw[a20 (a60 q hn)];exact q) λc xs q=>by rw[a20 (a60 q hn)];exact q
end
def Rd(H:Hp)(a:Addr)(u:HO):Prop:=H a=some u∨∃ o,H a=some (.frz o u)
theorem Rd.ok{P:Program}{w:World}{H:Hp}{h:Heap}{a:Addr}{u:HO}(r:Rd H a u)(x:HOk P w H h):f30 P w H h a u:=by
 rcases r with r | ⟨o,r⟩
 ·exact x a u r
 ·obtain⟨_,q⟩:=x a _ r
  exact q
def Mut:Option HO→Prop
 |some (.lst _)=>True
 |some (.dK _)=>True
 |some (.dT _)=>True
 |some (.set _ _)=>True
 |some (.ins _ _ _)=>True
 |some (.ext _)=>True
 |_=>False
section
variable {P:Program}{w:World}{H:Hp}{h h':Heap}{x e:Addr}{o':HO}
theorem HOk.write(ok:HOk P w H h)(mu:Mut (H x))(he:e=x∨H e=some (.own x))(k:∀ b u,b≠e→h.get? b=some u→h'.get? b=some u)(heo:∃ u,h'.get? e=some u)
  (new:f30 P w (upd H x o') h' x o'):HOk P w (upd H x o') h':=λb u q=>by
 have nown:∀ c y,H c=some (.own y)→c≠x:=λc y r z=>by subst z;rw[r] at mu;exact mu
 have ntup:∀ c xs,H c=some (.tup xs)→c≠x:=λc xs r z=>by subst z;rw[r] at mu;exact mu
 by_cases hb:b=x
 ·subst hb;rw[a80] at q;cases q;exact new
 ·rw[a20 hb] at q
  by_cases hbe:b=e
  ·have q':H b=some (.own x):=by
    rcases he with z | z
    ·exact absurd (hbe.trans z) hb
    ·rw[hbe];exact z
   rw[q] at q';cases q'
   obtain⟨v,hv⟩:=heo
   exact⟨v,by rw[hbe];exact hv⟩
  ·refine(ok b u q).j40 (λc v hc r=>k c v ?_ r) (λc r=>by rw[a20 (nown c b r)];exact r) λc xs r=>by rw[a20 (ntup c xs r)];exact r
   rcases hc with rfl | hc
   ·exact hbe
   ·rintro rfl
    rcases he with z | z
    ·exact nown c b hc z
    ·rw[hc] at z;cases z;exact hb rfl
end
structure Un(fs ex:List Addr)(H H':Hp)(h h':Heap):Prop where
 keep:∀ b o,h.get? b=some o→H b=none→b ∉ fs→b ∉ ex→h'.get? b=some o
 slot:∀ b o,h.get? b=some o→H b=none→b∈fs→b ∉ ex→∃ sl,h'.get? b=some { o with slots:=sl }
 free:∀ b o,h.get? b=some o→H b=none→b ∉ ex→H' b=none
 there:∀ b o,h.get? b=some o→b ∉ ex→∃ o',h'.get? b=some o'
 tups:∀ b xs,H b=some (.tup xs)→H' b=some (.tup xs)
 frzs:∀ b o u,H b=some (.frz o u)→H' b=some (.frz o u)
 tbls:∀ b ps,H b=some (.tbl ps)→∃ more,H' b=some (.tbl (ps++more))
section
variable {fs fs' ex ex':List Addr}{H H1 H2:Hp}{h h1 h2 h':Heap}{a x e:Addr}{o:HO}
theorem Un.any(u:Un fs ex H H1 h h1){b:Addr}{ob:Obj}(q:h.get? b=some ob)(n:H b=none)(hx:b ∉ ex):∃ sl,h1.get? b=some { ob with slots:=sl }:=by
 by_cases hb:b∈fs
 ·exact u.slot b ob q n hb hx
 ·exact⟨ob.slots,u.keep b ob q n hb hx⟩
theorem Un.trans(a:Un fs ex H H1 h h1)(b:Un fs ex H1 H2 h1 h2):Un fs ex H H2 h h2 where
 keep:=λc ob q n hc hx=>b.keep c ob (a.keep c ob q n hc hx) (a.free c ob q n hx) hc hx
 slot:=λc ob q n hc hx=>by
  obtain⟨sl,e1⟩:=a.slot c ob q n hc hx
  obtain⟨sl',e2⟩:=b.slot c _ e1 (a.free c ob q n hx) hc hx
  exact⟨sl',e2⟩
 free:=λc ob q n hx=>by
  obtain⟨o',e1⟩:=a.there c ob q hx
  exact b.free c o' e1 (a.free c ob q n hx) hx
 there:=λc ob q hx=>by
  obtain⟨o',e1⟩:=a.there c ob q hx
  exact b.there c o' e1 hx
 tups:=λc xs q=>b.tups c xs (a.tups c xs q)
 frzs:=λc ob xs q=>b.frzs c ob xs (a.frzs c ob xs q)
 tbls:=λc ps q=>by
  obtain⟨m1,e1⟩:=a.tbls c ps q
  obtain⟨m2,e2⟩:=b.tbls c _ e1
  exact⟨m1++m2,by rw[e2,Array.append_assoc]⟩
theorem Un.kept(k:∀ b u,h.get? b=some u→h'.get? b=some u):Un fs ex H H h h' :=
 ⟨λb ob q _ _ _=>k b ob q,λb ob q _ _ _=>⟨ob.slots,k b ob q⟩,λ_ _ _ n _=>n,λb ob q _=>⟨ob,k b ob q⟩,λ_ _ q=>q,λ_ _ _ q=>q,λ_ ps q=>⟨#[],by rw[q];simp⟩⟩
theorem Un.refl:Un fs ex H H h h:=Un.kept λ_ _ q=>q
theorem Un.laid(k:∀ b u,h.get? b=some u→h'.get? b=some u)(hp:h.objs.size≤a)(hn:H a=none):Un fs ex H (upd H a o) h h' where
 keep:=λb u q _ _ _=>k b u q
 slot:=λb u q _ _ _=>⟨u.slots,k b u q⟩
 free:=λb u q n _=>by rw[a20 (Nat.ne_of_lt (Nat.lt_of_lt_of_le (lt_size q) hp))];exact n
 there:=λb u q _=>⟨u,k b u q⟩
 tups:=λb xs q=>by rw[a20 (a60 q hn)];exact q
 frzs:=λb u xs q=>by rw[a20 (a60 q hn)];exact q
 tbls:=λb ps q=>⟨#[],by rw[a20 (a60 q hn),q];simp⟩
theorem Un.write(mu:Mut (H x))(he:e=x∨H e=some (.own x))(k:∀ b u,b≠e→h.get? b=some u→h'.get? b=some u)(heo:∃ u,h'.get? e=some u):Un fs ex H (upd H x o) h h':=by
 have hx:∀ b,H b=none→b≠x:=λb n z=>by subst z;rw[n] at mu;exact mu
 have hb:∀ b,H b=none→b≠e:=λb n z=>by
  subst z
  rcases he with r | r
  ·exact hx b n r
  ·rw[n] at r;cases r
 have hm:∀ b u,H b=some u→¬ Mut (some u)→b≠x:=λb u q nm z=>by subst z;rw[q] at mu;exact nm mu
 refine⟨λb u q n _ _=>k b u (hb b n) q,λb u q n _ _=>⟨u.slots,k b u (hb b n) q⟩,λb u q n _=>by rw[a20 (hx b n)];exact n,λb u q _=>?_,
  λb xs q=>by rw[a20 (hm b _ q λz=>z)];exact q,λb u xs q=>by rw[a20 (hm b _ q λz=>z)];exact q,λb ps q=>⟨#[],by rw[a20 (hm b _ q λz=>z),q];simp⟩⟩
 by_cases hbe:b=e
 ·subst hbe;exact heo
 ·exact⟨u,k b u hbe q⟩
theorem Un.mono(u:Un fs ex H H1 h h1)(hs:∀ b∈fs,b∈fs')(hx:∀ b∈ex,b∈ex'):Un fs' ex' H H1 h h1 :=
 ⟨λb ob q n hb he=>u.keep b ob q n (λz=>hb (hs b z)) λz=>he (hx b z),λ_ _ q n _ he=>u.any q n λz=>he (hx _ z),λb ob q n he=>u.free b ob q n λz=>he (hx b z),λb ob q he=>u.there b ob q λz=>he (hx b z),u.tups,u.frzs,u.tbls⟩
end
def trk(h:Heap)(H:Hp):List Addr:=(range h.objs.size).filter λa=>(H a).isSome
def p51(h:Heap)(H:Hp):Heap:=hideAll h (trk h H)
theorem Z60(h:Heap)(H:Hp):(p51 h H).objs.size=h.objs.size:=PySem.W.hideAll_size _ _
theorem z10{h:Heap}{H:Hp}{b:Addr}{o:Obj}(e:h.get? b=some o)(n:H b=none):(p51 h H).get? b=some o :=
 hideAll_get _ e λhm=>by
  have q:(H b).isSome=true:=(List.mem_filter.mp hm).2
  rw[n] at q;simp at q
theorem B71{h:Heap}{H:Hp}{b:Addr}{o:Obj}(e:(p51 h H).get? b=some o):h.get? b=some o∧H b=none:=by
 have e':h.get? b=some o:=of_hideAll (trk h H) e
 refine⟨e',?_⟩
 cases q:H b with
 |none=>rfl
 |some x =>
  have hm:b∈trk h H:=List.mem_filter.mpr ⟨List.mem_range.mpr (lt_size e'),by simp[q]⟩
  have z:(p51 h H).get? b=none:=PySem.W.hideAll_none (trk h H) hm
  rw[z] at e;cases e
structure Mod(K:PySem.W.Frag)(mg:Str→Option Value)(base:Heap):Prop where
 kin:K.In base
 glob:base.Ns mainGlobals mg
 blt:∃ mb,base.Ns builtinsNs mb∧∀ x:Str,x≠"__name__"→mb x=bootBuiltins x
 nolimit:base.NoLimit
structure Cx where
 prog:Program
 w:World
 K:PySem.W.Frag
 mg:Str→Option Value
 base:Heap
 A:Around
 N:List Str
 s₀:Shared
 H₀:Hp
 env:Env
 outer:List Env
 stack:List Env
 ex:List Addr
 fn:Str→Bool
 calm:Bool
 pn:List (Addr × Obj)
 xe:Value→Shared→Prop
def frs(l:List Env):List Addr:=l.filterMap (·.frame)
abbrev Cx.fs(X:Cx):List Addr:=frs X.outer
def Vis(sc:Scope)(x:Str):Prop:=sc.names.lookup x=some .local∨sc.names.lookup x=some .cell∨sc.names.lookup x=some .free
def Loc(sc:Scope)(x:Str):Prop:=sc.names.lookup x=some .local∨sc.names.lookup x=some .cell
def Look(env:Env)(h:Heap)(m:Str→Option Value)(x:Str)(u:Value):Prop :=
 (env.kindOf x=some .local∧m x=some u)∨((env.kindOf x=some .cell∨env.kindOf x=some .free)∧∃ c,env.cells.lookup x=some c∧h.IsCell c (some u))
structure Cx.Ok(X:Cx):Prop where
 mod:Mod X.K X.mg X.base
 kind:X.env.scope.kind=.function
 glob:X.env.globals=mainGlobals
 blt:X.env.builtins=builtinsNs
 above:X.s₀.heap.objs.size≤X.env.locals
 inj:∀ x y c,X.env.cells.lookup x=some c→X.env.cells.lookup y=some c→x=y
 has:∀ x,(X.env.kindOf x=some .cell∨X.env.kindOf x=some .free)→∃ c,X.env.cells.lookup x=some c
 cab:∀ x c,X.fn x=true→X.env.cells.lookup x=some c→X.s₀.heap.objs.size≤c
 hd:X.calm=true→X.A.handled=none
 frames:X.A.frames=some X.stack
 stk:X.stack=X.outer∨(X.stack=X.env::X.outer∧X.env.frame=some X.env.locals)
 exf:∀ b∈X.ex,b≠X.env.locals∧∀ x c,X.env.cells.lookup x=some c→c≠b
 bs:∀ b o,X.base.get? b=some o→X.s₀.heap.get? b=some o∧X.H₀ b=none
 bsz:X.base.objs.size≤X.s₀.heap.objs.size
 noex:∀ b o,X.base.get? b=some o→b ∉ X.ex
 exfs:∀ b∈X.ex,b ∉ X.fs
 V40:X.s₀.heap.FunFrames X.base X.outer
 frf:∀ b∈X.fs,X.H₀ b=none
structure Inv(X:Cx)(pins:List (Addr × Obj))(σ:List (Option V))(H:Hp)(s:Shared):Prop where
 ok:X.Ok
 os:s.os=X.s₀.os
 bare:AllBare s.gens
 base:Un X.fs X.ex X.H₀ H X.s₀.heap s.heap
 loc:∃ m,s.heap.Ns X.env.locals m∧∀ (i:Nat) (x:Str) (v:V),X.N[i]?=some x→σ[i]?=some (some v)→Vis X.env.scope x→∃ u,RelV v u∧Look X.env s.heap m x u
 cell:∀ x c,X.env.cells.lookup x=some c→∃ v,s.heap.IsCell c v
 free:H X.env.locals=none
 freeC:∀ x c,X.env.cells.lookup x=some c→H c=none
 pin:∀ p∈X.pn++pins,s.heap.get? p.1=some p.2∧H p.1=none∧p.1≠X.env.locals∧p.1 ∉ X.fs∧∀ v,p.2.data≠.cell v
 hok:HOk X.prog X.w H s.heap
 len:σ.length=X.N.length
section
variable {X:Cx}{pins:List (Addr × Obj)}{σ:List (Option V)}{H H':Hp}{s:Shared}{h':Heap}
theorem Cx.Ok.q52(ok:X.Ok){b:Addr}{o:Obj}(e:X.base.get? b=some o):b ∉ X.fs:=λhb=>by
 have:=(ok.V40.mem hb).1
 rw[e] at this;cases this
theorem Inv.bs(I:Inv X pins σ H s):∀ b o,X.base.get? b=some o→s.heap.get? b=some o∧H b=none:=λb o e =>
 ⟨I.base.keep b o (I.ok.bs b o e).1 (I.ok.bs b o e).2 (I.ok.q52 e) (I.ok.noex b o e),I.base.free b o (I.ok.bs b o e).1 (I.ok.bs b o e).2 (I.ok.noex b o e)⟩
theorem Inv.bk(I:Inv X pins σ H s):∀ b o,X.base.get? b=some o→s.heap.get? b=some o:=λb o e=>(I.bs b o e).1
theorem Inv.mod(I:Inv X pins σ H s):Mod X.K X.mg X.base:=I.ok.mod
theorem Inv.kIn(I:Inv X pins σ H s):X.K.In s.heap:=I.ok.mod.kin.keeps I.bk
theorem Inv.lt(I:Inv X pins σ H s):X.env.locals < s.heap.objs.size:=let ⟨_,hn,_⟩:=I.loc;hn.lt
theorem Inv.sz(I:Inv X pins σ H s):X.s₀.heap.objs.size≤s.heap.objs.size:=Nat.le_trans I.ok.above (Nat.le_of_lt I.lt)
theorem Inv.q62(I:Inv X pins σ H s){a:Addr}(h:s.heap.objs.size≤a):a ∉ X.fs:=λhb=>by
 obtain⟨_,o,ho,_⟩:=I.ok.V40.mem hb
 exact absurd (Nat.lt_of_lt_of_le (lt_size ho) (Nat.le_trans I.sz h)) (Nat.lt_irrefl _)
theorem Inv.cne(I:Inv X pins σ H s):∀ x c,X.env.cells.lookup x=some c→c≠X.env.locals:=λx c e z=>by
 obtain⟨v,o,ho,hd⟩:=I.cell x c e
 obtain⟨m,⟨o',es,ep,ho',hd',_⟩,_⟩:=I.loc
 rw[z,ho'] at ho;cases ho;rw[hd'] at hd;cases hd
theorem Inv.V40(I:Inv X pins σ H s):s.heap.FunFrames X.base X.outer:=by
 have all:∀ (l:List Env),(∀ b∈frs l,b∈X.fs)→X.s₀.heap.FunFrames X.base l→s.heap.FunFrames X.base l:=by
  intro l
  induction l with
  |nil=>intro _ _;trivial
  |cons env r ih =>
   intro hs hl
   obtain⟨hk,⟨L,o,hf,hn,ho,hd⟩,hr⟩:=hl
   have hL:L∈X.fs:=hs L (by unfold frs;rw[filterMap_cons,hf];exact mem_cons_self)
   obtain⟨sl,e⟩:=I.base.slot L o ho (I.ok.frf L hL) hL λz=>I.ok.exfs L z hL
   exact⟨hk,⟨L,_,hf,hn,e,hd⟩,ih (λb hb=>hs b (by unfold frs;rw[filterMap_cons,hf];exact mem_cons_of_mem _ hb)) hr⟩
 exact all X.outer (λ_ hb=>hb) I.ok.V40
theorem Inv.stack(I:Inv X pins σ H s):s.heap.FunFrames X.base X.stack:=by
 rcases I.ok.stk with e | ⟨e,hf⟩
 ·rw[e];exact I.V40
 ·rw[e]
  obtain⟨m,hn,_⟩:=I.loc
  refine .cons (by rw[I.ok.kind];decide) hf hn ?_ I.V40
  exact Heap.get?_none_of_le (Nat.le_trans I.ok.bsz I.ok.above)
theorem Inv.Z70(I:Inv X pins σ H s):∀ b∈frs X.stack,b∈X.env.locals::X.fs:=λb hb=>by
 rcases I.ok.stk with e | ⟨e,hf⟩
 ·rw[e] at hb;exact mem_cons_of_mem _ hb
 ·rw[e] at hb
  unfold frs at hb
  rw[filterMap_cons,hf] at hb
  exact hb
theorem Inv.p40(I:Inv X pins σ H s):∀ b∈frs X.stack,H b=none:=λb hb=>by
 rcases List.mem_cons.mp (I.Z70 b hb) with e | hb
 ·rw[e];exact I.free
 ·obtain⟨_,o,ho,_⟩:=I.ok.V40.mem hb
  exact I.base.free b o ho (I.ok.frf b hb) λz=>I.ok.exfs b z hb
theorem Inv.step{g':Array GenState}{t':Nat}{d':Drawn}{ch:List Addr}(I:Inv X pins σ H s)
  (hch:∀ b∈ch,(b∈X.ex∨X.s₀.heap.objs.size≤b)∧b≠X.env.locals∧(∀ x c,X.env.cells.lookup x=some c→c≠b)∧∀ p∈X.pn++pins,p.1≠b)
  (keep:∀ b o,b≠X.env.locals→b ∉ X.fs→b ∉ ch→s.heap.get? b=some o→H b=none→h'.get? b=some o)
  (slot:∀ b o,b≠X.env.locals→b∈X.fs→b ∉ ch→s.heap.get? b=some o→H b=none→∃ sl,h'.get? b=some { o with slots:=sl }) (free:∀ b o,b ∉ ch→s.heap.get? b=some o→H b=none→H' b=none)
  (there:∀ b o,b ∉ ch→s.heap.get? b=some o→∃ o',h'.get? b=some o')
  (tups:∀ b xs,H b=some (.tup xs)→H' b=some (.tup xs)) (frzs:∀ b o u,H b=some (.frz o u)→H' b=some (.frz o u)) (tbls:∀ b ps,H b=some (.tbl ps)→∃ more,H' b=some (.tbl (ps++more)))
  (ns:∀ m,s.heap.Ns X.env.locals m→h'.Ns X.env.locals m) (hok:HOk X.prog X.w H' h') (hg:AllBare g') :
  Inv X pins σ H' { s with heap:=h',gens:=g',drawn:=d',toks:=t' }:=by
 have neL:∀ b o,X.s₀.heap.get? b=some o→b≠X.env.locals:=λb o e=>Nat.ne_of_lt (Nat.lt_of_lt_of_le (lt_size e) I.ok.above)
 have neC:∀ b o,X.s₀.heap.get? b=some o→b ∉ X.ex→b ∉ ch:=λb o e hx hb=>by
  rcases (hch b hb).1 with z | z
  ·exact hx z
  ·exact absurd (Nat.lt_of_lt_of_le (lt_size e) z) (Nat.lt_irrefl _)
 have cellK:∀ x c,X.env.cells.lookup x=some c→∀ v,s.heap.IsCell c v→h'.IsCell c v:=λx c e v ⟨o,ho,hd⟩=>by
  have nch:c ∉ ch:=λz=>(hch c z).2.2.1 x c e rfl
  by_cases hc:c∈X.fs
  ·obtain⟨sl,q⟩:=slot c o (I.cne x c e) hc nch ho (I.freeC x c e)
   exact⟨_,q,hd⟩
  ·exact⟨o,keep c o (I.cne x c e) hc nch ho (I.freeC x c e),hd⟩
 refine⟨I.ok,I.os,hg,⟨λb o e n hb hx=>?_,λb o e n hb hx=>?_,λb o e n hx=>?_,λb o e hx=>?_,λb xs e=>tups b xs (I.base.tups b xs e),λb o xs e=>frzs b o xs (I.base.frzs b o xs e),λb ps e=>?_⟩,?_,λx c e=>?_,?_,λx c e=>?_,λp hp=>?_,hok,I.len⟩
 ·exact keep b o (neL b o e) hb (neC b o e hx) (I.base.keep b o e n hb hx) (I.base.free b o e n hx)
 ·obtain⟨sl,e1⟩:=I.base.slot b o e n hb hx
  obtain⟨sl',e2⟩:=slot b _ (neL b o e) hb (neC b o e hx) e1 (I.base.free b o e n hx)
  exact⟨sl',e2⟩
 ·obtain⟨o',e1⟩:=I.base.there b o e hx
  exact free b o' (neC b o e hx) e1 (I.base.free b o e n hx)
 ·obtain⟨o',e1⟩:=I.base.there b o e hx
  exact there b o' (neC b o e hx) e1
 ·obtain⟨m1,e1⟩:=I.base.tbls b ps e
  obtain⟨m2,e2⟩:=tbls b _ e1
  exact⟨m1++m2,by rw[e2,Array.append_assoc]⟩
 ·obtain⟨m,hn,hl⟩:=I.loc
  refine⟨m,ns m hn,λi x v e1 e2 e3=>?_⟩
  obtain⟨u,r,l⟩:=hl i x v e1 e2 e3
  refine⟨u,r,?_⟩
  rcases l with l | ⟨k,c,e,z⟩
  ·exact .inl l
  ·exact .inr ⟨k,c,e,cellK x c e _ z⟩
 ·obtain⟨v,z⟩:=I.cell x c e
  exact⟨v,cellK x c e v z⟩
 ·obtain⟨m,⟨o,_,_,ho,_⟩,_⟩:=I.loc
  exact free _ o (λz=>(hch _ z).2.1 rfl) ho I.free
 ·obtain⟨v,o,ho,hd⟩:=I.cell x c e
  exact free c o (λz=>(hch c z).2.2.1 x c e rfl) ho (I.freeC x c e)
 ·obtain⟨e,n,ne,nf,d⟩:=I.pin p hp
  have nch:p.1 ∉ ch:=λz=>(hch p.1 z).2.2.2 p hp rfl
  exact⟨keep p.1 p.2 ne nf nch e n,free p.1 p.2 nch e n,ne,nf,d⟩
theorem Inv.un{t':Nat}(I:Inv X pins σ H s)(u:Un X.fs [] H H' s.heap h')(hok:HOk X.prog X.w H' h'):Inv X pins σ H' { s with heap:=h',toks:=t' }:=by
 obtain⟨m,⟨o,es,ep,ho,r⟩,_⟩:=id I.loc
 obtain⟨sl,hL⟩:=u.any ho I.free (by simp)
 exact I.step (g':=s.gens) (d':=s.drawn) (ch:=[]) (λ_ z=>nomatch z) (λb o _ hb _ e n=>u.keep b o e n hb (by simp)) (λb o _ hb _ e n=>u.slot b o e n hb (by simp)) (λb o _ e n=>u.free b o e n (by simp)) (λb o _ e=>u.there b o e (by simp)) u.tups u.frzs u.tbls (λm' hm=>by
  obtain⟨o',es',ep',ho',r'⟩:=hm
  rw[ho] at ho';cases ho'
  exact⟨_,es',ep',hL,r'⟩) hok I.bare
theorem Inv.call{g':Array GenState}{t':Nat}{d':Drawn}{ch:List Addr}(I:Inv X pins σ H s)(u:Un (frs X.stack) ch H H' s.heap h')(hok:HOk X.prog X.w H' h')(hg:AllBare g')
  (hch:∀ b∈ch,(b∈X.ex∨X.s₀.heap.objs.size≤b)∧b≠X.env.locals∧(∀ x c,X.env.cells.lookup x=some c→c≠b)∧∀ p∈X.pn++pins,p.1≠b) :
  Inv X pins σ H' { s with heap:=h',gens:=g',drawn:=d',toks:=t' }:=by
 obtain⟨m,⟨o,es,ep,ho,r⟩,_⟩:=id I.loc
 obtain⟨sl,hL⟩:=u.any ho I.free λz=>(hch _ z).2.1 rfl
 exact I.step (ch:=ch) hch (λb o hL hb hc e n=>u.keep b o e n (λz=>(List.mem_cons.mp (I.Z70 b z)).elim hL hb) hc) (λb o _ _ hc e n=>u.any e n hc) (λb o hc e n=>u.free b o e n hc) (λb o hc e=>u.there b o e hc) u.tups u.frzs u.tbls (λm' hm=>by
  obtain⟨o',es',ep',ho',r'⟩:=hm
  rw[ho] at ho';cases ho'
  exact⟨_,es',ep',hL,r'⟩) hok hg
theorem Inv.turned{t':Nat}{it:Addr}(I:Inv X pins σ H s)(k:∀ b o,b≠it→s.heap.get? b=some o→h'.get? b=some o)(hn:H it=none)(hL:it≠X.env.locals)
  (h1:it∈X.ex∨X.s₀.heap.objs.size≤it) (h2:∀ x c,X.env.cells.lookup x=some c→c≠it) (h3:∀ p∈X.pn++pins,p.1≠it):Inv X pins σ H { s with heap:=h',toks:=t' }:=by
 have nit:∀ b u,H b=some u→b≠it:=λb u e z=>by rw[z,hn] at e;cases e
 refine I.step (g':=s.gens) (d':=s.drawn) (ch:=[it]) (λb hb=>?_) (λb o _ _ hc e _=>k b o (λz=>hc (by simp[z])) e) (λb o _ _ hc e _=>⟨o.slots,k b o (λz=>hc (by simp[z])) e⟩) (λ_ _ _ _ n=>n)
  (λb o hc e=>⟨o,k b o (λz=>hc (by simp[z])) e⟩) (λ_ _ e=>e) (λ_ _ _ e=>e) (λb ps e=>⟨#[],by rw[e];simp⟩) (λm hm=>?_) (λb u e=>?_) I.bare
 ·have e:b=it:=by simpa using hb
  subst e
  exact⟨h1,hL,h2,h3⟩
 ·obtain⟨o,es,ep,ho,r⟩:=hm
  exact⟨o,es,ep,k _ o (Ne.symm hL) ho,r⟩
 ·refine(I.hok b u e).j40 (λc v hc q=>k c v ?_ q) (λ_ q=>q) λ_ _ q=>q
  rcases hc with z | z
  ·rw[z];exact nit b u e
  ·exact nit c _ z
theorem Inv.tok(I:Inv X pins σ H s)(t:Nat):Inv X pins σ H { s with toks:=t }:=I.un (h':=s.heap) (t':=t) Un.refl I.hok
theorem Inv.kept{t':Nat}(I:Inv X pins σ H s)(k:∀ b u,s.heap.get? b=some u→h'.get? b=some u):Inv X pins σ H { s with heap:=h',toks:=t' }:=I.un (Un.kept k) (I.hok.kept k)
theorem Inv.laid{a:Addr}{o:HO}{t':Nat}(I:Inv X pins σ H s)(k:∀ b u,s.heap.get? b=some u→h'.get? b=some u)(hp:s.heap.objs.size≤a)(new:f30 X.prog X.w (upd H a o) h' a o) :
  Inv X pins σ (upd H a o) { s with heap:=h',toks:=t' }:=I.un (Un.laid k hp (I.hok.fresh hp)) (I.hok.laid k hp new)
theorem Inv.write{x e:Addr}{o:HO}{t':Nat}(I:Inv X pins σ H s)(mu:Mut (H x))(he:e=x∨H e=some (.own x))(k:∀ b u,b≠e→s.heap.get? b=some u→h'.get? b=some u)(heo:∃ u,h'.get? e=some u)
  (new:f30 X.prog X.w (upd H x o) h' x o):Inv X pins σ (upd H x o) { s with heap:=h',toks:=t' }:=I.un (Un.write mu he k heo) (I.hok.write mu he k heo new)
theorem Inv.t10{pins':List (Addr × Obj)}(I:Inv X pins σ H s)(h:∀ p∈pins',s.heap.get? p.1=some p.2∧H p.1=none∧p.1≠X.env.locals∧p.1 ∉ X.fs∧∀ v,p.2.data≠.cell v):Inv X pins' σ H s :=
 ⟨I.ok,I.os,I.bare,I.base,I.loc,I.cell,I.free,I.freeC,λp hp=>(List.mem_append.mp hp).elim (λz=>I.pin p (mem_append_left _ z)) (h p),I.hok,I.len⟩
theorem P10{N:List Str}(hN:N.Nodup){i j:Nat}{x:Str}(a:N[i]?=some x)(b:N[j]?=some x):i=j:=by
 obtain⟨h1,e1⟩:=List.getElem?_eq_some_iff.mp a
 obtain⟨h2,e2⟩:=List.getElem?_eq_some_iff.mp b
 exact(List.getElem_inj hN).mp (e1.trans e2.symm)
theorem t20{M:Model}{A:Around}{E:Value→Shared→Prop}{i:Nat}{x:Str}{v:V}{u:Value}{Q:Unit→Shared→Prop}(I:Inv X pins σ H s)(hN:X.N.Nodup)(hi:X.N[i]?=some x)(hx:Loc X.env.scope x)(r:RelV v u)
  (h:∀ s',Inv X pins (σ.set i (some v)) H s'→(∃ a,Heap.SameBut a s.heap s'.heap∧(a=X.env.locals∨X.env.cells.lookup x=some a))→Q () s') (hf:X.fn x=true∨X.env.scope.names.lookup x=some .local:=by first | exact .inl rfl | exact .inr rfl | assumption):wpAny M A (storeName X.env x u) Q E s:=by
 obtain⟨m,hn,hl⟩:=id I.loc
 have hcls:(X.env.scope.kind == .class || (X.env.scope.kind == .module&&X.env.locals != X.env.globals))=false:=by rw[I.ok.kind];rfl
 have hiσ:i < σ.length:=by rw[I.len];exact(List.getElem?_eq_some_iff.mp hi).1
 have cne:=I.cne
 have tracked:∀ {a:Addr}{h':Heap},(∃ o,s.heap.get? a=some o∧H a=none)→Heap.SameBut a s.heap h'→HOk X.prog X.w H h':=λ{a h'} ha hs b ob e=>by
  obtain⟨_,_,hfree⟩:=ha
  refine(I.hok b ob e).j40 (λc w' hc q=>(hs.2 c ?_).trans q) (λ_ q=>q) λ_ _ q=>q
  rintro rfl
  rcases hc with rfl | hc
  ·rw[hfree] at e;cases e
  ·rw[hfree] at hc;cases hc
 rcases hx with hk | hk
 ·refine wpAny_storeName_local hk hn (λh' hn' hs=>?_) hcls
  obtain⟨oL,_,_,hoL,_⟩:=id hn
  refine h _ ⟨I.ok,I.os,I.bare,⟨λb o e n hb hx=>?_,λb o e n hb hx=>?_,I.base.free,λb o e hx=>?_,I.base.tups,I.base.frzs,I.base.tbls⟩,⟨_,hn',λj y v' e1 e2 e3=>?_⟩,λy c e=>?_,I.free,I.freeC,λp hp=>?_,tracked ⟨oL,hoL,I.free⟩ hs,by simpa using I.len⟩ ⟨_,hs,.inl rfl⟩
  ·exact(hs.2 b (Nat.ne_of_lt (Nat.lt_of_lt_of_le (lt_size e) I.ok.above))).trans (I.base.keep b o e n hb hx)
  ·obtain⟨sl,e1⟩:=I.base.slot b o e n hb hx
   exact⟨sl,(hs.2 b (Nat.ne_of_lt (Nat.lt_of_lt_of_le (lt_size e) I.ok.above))).trans e1⟩
  ·obtain⟨o',e1⟩:=I.base.there b o e hx
   exact⟨o',(hs.2 b (Nat.ne_of_lt (Nat.lt_of_lt_of_le (lt_size e) I.ok.above))).trans e1⟩
  ·by_cases hj:j=i
   ·subst hj
    rw[hi] at e1;cases e1
    rw[List.getElem?_set_self hiσ] at e2
    cases e2
    exact⟨u,r,.inl ⟨hk,by simp⟩⟩
   ·rw[List.getElem?_set_ne (Ne.symm hj)] at e2
    obtain⟨u',r',q⟩:=hl j y v' e1 e2 e3
    refine⟨u',r',?_⟩
    rcases q with ⟨k,e⟩ | ⟨k,c,e,z⟩
    ·refine .inl ⟨k,?_⟩
     have:y≠x:=λe=>hj (P10 hN e1 (e ▸ hi))
     simp[this,e]
    ·exact .inr ⟨k,c,e,z.sameBut hs (cne y c e)⟩
  ·obtain⟨w',z⟩:=I.cell y c e
   exact⟨w',z.sameBut hs (cne y c e)⟩
  ·obtain⟨e,n,ne,nf,d⟩:=I.pin p hp
   exact⟨(hs.2 p.1 ne).trans e,n,ne,nf,d⟩
 ·have hfn:X.fn x=true:=by
   rcases hf with z | z
   ·exact z
   ·rw[z] at hk;cases hk
  obtain⟨c,hc⟩:=I.ok.has x (.inl hk)
  obtain⟨w',z⟩:=I.cell x c hc
  refine wpAny_storeName_cell I.ok.kind hk hc z (λh' hc' hs=>?_)
  obtain⟨oc,hoc,hocd⟩:=id z
  refine h { s with heap:=h' } ⟨I.ok,I.os,I.bare,⟨λb o e n hb hx=>?_,λb o e n hb hx=>?_,I.base.free,λb o e hx=>?_,I.base.tups,I.base.frzs,I.base.tbls⟩,⟨m,hn.sameBut hs (Ne.symm (cne x c hc)),λj y v' e1 e2 e3=>?_⟩,λy c' e=>?_,I.free,I.freeC,λp hp=>?_,tracked ⟨oc,hoc,I.freeC x c hc⟩ hs,by simpa using I.len⟩ ⟨c,hs,.inr hc⟩
  ·exact(hs.2 b (Nat.ne_of_lt (Nat.lt_of_lt_of_le (lt_size e) (I.ok.cab x c hfn hc)))).trans (I.base.keep b o e n hb hx)
  ·obtain⟨sl,e1⟩:=I.base.slot b o e n hb hx
   exact⟨sl,(hs.2 b (Nat.ne_of_lt (Nat.lt_of_lt_of_le (lt_size e) (I.ok.cab x c hfn hc)))).trans e1⟩
  ·obtain⟨o',e1⟩:=I.base.there b o e hx
   exact⟨o',(hs.2 b (Nat.ne_of_lt (Nat.lt_of_lt_of_le (lt_size e) (I.ok.cab x c hfn hc)))).trans e1⟩
  ·by_cases hj:j=i
   ·subst hj
    rw[hi] at e1;cases e1
    rw[List.getElem?_set_self hiσ] at e2
    cases e2
    exact⟨u,r,.inr ⟨.inl hk,c,hc,hc'⟩⟩
   ·rw[List.getElem?_set_ne (Ne.symm hj)] at e2
    obtain⟨u',r',q⟩:=hl j y v' e1 e2 e3
    refine⟨u',r',?_⟩
    rcases q with q | ⟨k,c',e,z'⟩
    ·exact .inl q
    ·refine .inr ⟨k,c',e,z'.sameBut hs ?_⟩
     rintro rfl
     exact hj (P10 hN e1 (I.ok.inj _ _ _ e hc ▸ hi))
  ·by_cases hcc:c'=c
   ·subst hcc;exact⟨_,hc'⟩
   ·obtain⟨w2,z2⟩:=I.cell y c' e
    exact⟨w2,z2.sameBut hs hcc⟩
  ·obtain⟨e,n,ne,nf,d⟩:=I.pin p hp
   refine⟨(hs.2 p.1 ?_).trans e,n,ne,nf,d⟩
   intro q
   rw[q,hoc] at e
   have q':oc=p.2:=Option.some.inj e
   exact d w' (by rw[← q'];exact hocd)
theorem n40{M:Model}{A:Around}{E:Value→Shared→Prop}{i:Nat}{x:Str}{v:V}{u:Value}{Q:Unit→Shared→Prop}(I:Inv X pins σ H s)(hN:X.N.Nodup)(hi:X.N[i]?=some x)(hx:Loc X.env.scope x)(r:RelV v u)
  (h:∀ s',Inv X pins (σ.set i (some v)) H s'→Q () s') (hf:X.fn x=true∨X.env.scope.names.lookup x=some .local:=by first | exact .inl rfl | exact .inr rfl | assumption):wpAny M A (storeName X.env x u) Q E s :=
 t20 I hN hi hx r (λs' I' _=>h s' I') hf
theorem Inv.M91{s':Shared}{ch:List Addr}(I:Inv X pins σ H s)(ho:s'.os=s.os)(u:Un (frs X.stack) ch H H' s.heap s'.heap)(hok:HOk X.prog X.w H' s'.heap)(hg:AllBare s'.gens)
  (hch:∀ b∈ch,(b∈X.ex∨X.s₀.heap.objs.size≤b)∧b≠X.env.locals∧(∀ x c,X.env.cells.lookup x=some c→c≠b)∧∀ p∈X.pn++pins,p.1≠b):Inv X pins σ H' s':=by
 obtain⟨h',g',d',t',o'⟩:=s'
 have e:o'=s.os:=ho
 subst e
 exact I.call (g':=g') (t':=t') (d':=d') u hok hg hch
end
abbrev XK:=Value→Option Addr→Hp→Prop
abbrev St:=List (Option V)
abbrev VK:=V→Hp→Prop
abbrev TE:=St→Hp→VK→Prop
abbrev TT:=St→Hp→(Bool→Hp→Prop)→Prop
abbrev TA:=St→Hp→(List V→Hp→Prop)→Prop
structure Ends where
 nx:St→Hp→Prop
 rt:VK
 bk:St→Hp→Prop:=λ_ _=>False
 ct:St→Hp→Prop:=λ_ _=>False
abbrev TS:=Ends→St→Hp→Prop
def EP(X:Cx)(pins:List (Addr × Obj))(σ:St)(Q:VK)(u:Value)(s':Shared):Prop:=∃ v H',Inv X pins σ H' s'∧RelV v u∧Q v H'
def TP(X:Cx)(pins:List (Addr × Obj))(σ:St)(Q:Bool→Hp→Prop)(b:Bool)(s':Shared):Prop:=∃ H',Inv X pins σ H' s'∧Q b H'
def AP(X:Cx)(pins:List (Addr × Obj))(σ:St)(Q:List V→Hp→Prop)(us:List Value)(s':Shared):Prop:=∃ vs H',Inv X pins σ H' s'∧Vals vs us∧Q vs H'
def SP(X:Cx)(pins:List (Addr × Obj))(D:Ends)(f:Flow)(s':Shared):Prop :=
 match f with
 |.next=>∃ σ' H',Inv X pins σ' H' s'∧D.nx σ' H'
 |.brk=>∃ σ' H',Inv X pins σ' H' s'∧D.bk σ' H'
 |.cont=>∃ σ' H',Inv X pins σ' H' s'∧D.ct σ' H'
 |.ret u=>∃ v σ' H',Inv X pins σ' H' s'∧RelV v u∧D.rt v H'
def PE(X:Cx)(e:Expr)(t:TE):Prop :=
 ∀ (pins:List (Addr × Obj)) (s:Shared) (σ:St) (H:Hp) (Q:VK),Inv X pins σ H s→t σ H Q→wpAny (model X.prog X.w) X.A (eval e X.env) (EP X pins σ Q) X.xe s
def PT(X:Cx)(e:Expr)(t:TT):Prop :=
 ∀ (pins:List (Addr × Obj)) (s:Shared) (σ:St) (H:Hp) (Q:Bool→Hp→Prop),Inv X pins σ H s→t σ H Q→wpAny (model X.prog X.w) X.A (isTrue e X.env (eval e X.env)) (TP X pins σ Q) X.xe s
def PW(X:Cx)(e:Expr)(t:TT):Prop :=
 ∀ (whole:Sem Value) (pins:List (Addr × Obj)) (s:Shared) (σ:St) (H:Hp) (Q:Bool→Hp→Prop),Inv X pins σ H s→t σ H Q→wpAny (model X.prog X.w) X.A (isTrue e X.env whole) (TP X pins σ Q) X.xe s
theorem PW.pt{X:Cx}{e:Expr}{t:TT}(h:PW X e t):PT X e t:=h _
def PA(X:Cx)(es:List Expr)(t:TA):Prop :=
 ∀ (pos:Pos) (pins:List (Addr × Obj)) (s:Shared) (σ:St) (H:Hp) (Q:List V→Hp→Prop),Inv X pins σ H s→t σ H Q→wpAny (model X.prog X.w) X.A (spliced (backTo pos (starEach es X.env))) (AP X pins σ Q) X.xe s
def PS(X:Cx)(st:Stmt)(t:TS):Prop :=
 ∀ (pins:List (Addr × Obj)) (s:Shared) (σ:St) (H:Hp) (D:Ends),Inv X pins σ H s→t D σ H→wpAny (model X.prog X.w) X.A (exec st X.env) (SP X pins D) X.xe s
def PSs(X:Cx)(st:List Stmt)(t:TS):Prop :=
 ∀ (pins:List (Addr × Obj)) (s:Shared) (σ:St) (H:Hp) (D:Ends),Inv X pins σ H s→t D σ H→wpAny (model X.prog X.w) X.A (execs st X.env) (SP X pins D) X.xe s
theorem thn{α:Type}{t:Sem α}{Q Q':α→Shared→Prop}{M:Model}{A:Around}{E:Value→Shared→Prop}{s:Shared}(h:wpAny M A t Q E s)(hQ:∀ a s,Q a s→Q' a s):wpAny M A t Q' E s:=wpAny_mono h hQ λ_ _ x=>x
section
variable {X:Cx}
def L61(i:Nat):TE:=λσ H Q=>∃ v,σ[i]?=some (some v)∧Q v H
def tC(v:V):TE:=λ_ H Q=>Q v H
theorem h00{i:Nat}{x:Str}{pos:Pos}(hN:X.N[i]?=some x)(hv:Vis X.env.scope x)(hd:(x == ("__debug__":Str))=false:=by decide)(hcd:(x == ("__classdict__":Str))=false:=by decide):PE X (.Name x pos) (L61 i):=by
 intro pins s σ H Q I h
 obtain⟨v,e,h⟩:=h
 obtain⟨m,hn,hl⟩:=I.loc
 obtain⟨u,r,l⟩:=hl i x v hN e hv
 have fin:EP X pins σ Q u s:=⟨v,H,I,r,h⟩
 rcases l with ⟨hk,hm⟩ | ⟨hk,c,hc,hcell⟩
 ·exact wpAny_Name (wpAny_loadName_local I.ok.kind hk hn hm fin) hd
 ·rcases hk with hk | hk
  ·exact wpAny_Name (wpAny_loadName_cell I.ok.kind hk hc hcell fin) hd
  ·exact wpAny_Name (wpAny_loadName_free I.ok.kind hk hc hcell fin hcd) hd
theorem P20{i j pos}:PE X (.Constant (.int i) j pos) (tC (.int i)):=λ_ _ _ H _ I h=>wpAny_Constant_int ⟨.int i,H,I.tok _,⟨_,rfl⟩,h⟩
theorem d22{b j pos}:PE X (.Constant (.bool b) j pos) (tC (.bl b)):=λ_ _ _ H _ I h=>Constant_bool ⟨.bl b,H,I,rfl,h⟩
theorem Z80{j pos}:PE X (.Constant .none j pos) (tC .non):=λ_ _ _ H _ I h=>Constant_none ⟨.non,H,I,rfl,h⟩
theorem x91{x j pos}:PE X (.Constant (.str x) j pos) (tC (.str x)):=λ_ _ _ H _ I h=>Calls.Constant_str ⟨.str x,H,I.tok _,⟨_,rfl⟩,h⟩
def Gl(X:Cx)(x:Str):Prop:=X.env.kindOf x=some .globalImplicit
theorem t30{E:Value→Shared→Prop}{pins:List (Addr × Obj)}{s:Shared}{σ:St}{H:Hp}{x:Str}{u:Value}{pos:Pos}{Q:Value→Shared→Prop}(I:Inv X pins σ H s)(hg:Gl X x)(hm:X.mg x=some u)(h:Q u s)
  (hd:(x == ("__debug__":Str))=false:=by decide):wpAny (model X.prog X.w) X.A (eval (.Name x pos) X.env) Q E s :=
 Calls.Name_function_global I.ok.kind hg (Calls.loadGlobal_global (by rw[I.ok.glob];exact I.mod.glob.keeps I.bk) hm h) hd
theorem n50{E:Value→Shared→Prop}{pins:List (Addr × Obj)}{s:Shared}{σ:St}{H:Hp}{x:Str}{u:Value}{pos:Pos}{Q:Value→Shared→Prop}(I:Inv X pins σ H s)(hg:Gl X x)(hm:X.mg x=none)(hv:bootBuiltins x=some u)(h:Q u s)
  (hn:x≠"__name__":=by decide) (hd:(x == ("__debug__":Str))=false:=by decide):wpAny (model X.prog X.w) X.A (eval (.Name x pos) X.env) Q E s:=by
 obtain⟨mb,h1,h2⟩:=I.mod.blt
 exact Calls.Name_function_global I.ok.kind hg (Calls.loadGlobal_builtin (by rw[I.ok.glob];exact I.mod.glob.keeps I.bk) hm (by rw[I.ok.blt];exact h1.keeps I.bk) ((h2 x hn).trans hv) h) hd
theorem e30{x:Str}{v:V}{u:Value}{pos:Pos}(hg:Gl X x)(hm:X.mg x=some u)(r:RelV v u)(hd:(x == ("__debug__":Str))=false:=by decide):PE X (.Name x pos) (tC v) :=
 λ_ _ _ H _ I h=>t30 I hg hm ⟨v,H,I,r,h⟩ hd
theorem z20{x:Str}{v:V}{u:Value}{pos:Pos}(hg:Gl X x)(hm:X.mg x=none)(hv:bootBuiltins x=some u)(r:RelV v u)(hn:x≠"__name__":=by decide)(hd:(x == ("__debug__":Str))=false:=by decide):PE X (.Name x pos) (tC v) :=
 λ_ _ _ H _ I h=>n50 I hg hm hv ⟨v,H,I,r,h⟩ hn hd
variable {a b:Expr}{ta tb:TE}{pos:Pos}
def tB(t:TE):TT:=λσ H Q=>t σ H λx H1=>∃ c,x=.bl c∧Q c H1
theorem Z90{e:Expr}{t:TE}(h:PE X e t)(he:∀ whole,isTrue e X.env whole=(do let v ← whole;standAt e.pos;holding [v] (truthy v)):=by intro _;rfl):PT X e (tB t):=by
 intro pins s σ H Q I hw
 refine isTrue_plain (thn (h pins s σ H _ I hw) λv s1 ⟨x,H1,I1,r1,q1⟩=>?_) (he _)
 obtain⟨d,rfl,q⟩:=q1
 cases r1
 exact wpAny_truthy_bool ⟨H1,I1,q⟩
variable {tA tB':TT}{rest:List Expr}
def q72(t u:TT):TT:=λσ H Q=>t σ H λc H1=>if c=true then u σ H1 Q else Q false H1
def tOr(t u:TT):TT:=λσ H Q=>t σ H λc H1=>if c=true then Q true H1 else u σ H1 Q
def q82(t:TT):TT:=λσ H Q=>t σ H λc H1=>Q (!c) H1
theorem B81(ha:PT X a tA):PW X (.BoolOp .And [a] pos) tA:=by
 intro wh pins s σ H Q I h
 refine isTrue_and (thn (ha pins s σ H Q I h) λc s1 e=>?_)
 cases c with
 |true=>exact isTrue_and_nil e
 |false=>exact e
theorem N01(ha:PT X a tA):PW X (.BoolOp .Or [a] pos) tA:=by
 intro wh pins s σ H Q I h
 refine isTrue_or (thn (ha pins s σ H Q I h) λc s1 e=>?_)
 cases c with
 |false=>exact isTrue_or_nil e
 |true=>exact e
theorem N11(ha:PT X a tA)(hb:PW X (.BoolOp .And (b::rest) pos) tB'):PW X (.BoolOp .And (a::b::rest) pos) (q72 tA tB'):=by
 intro wh pins s σ H Q I h
 refine isTrue_and (thn (ha pins s σ H _ I h) λc s1 ⟨H1,I1,q1⟩=>?_)
 cases c with
 |true=>exact hb wh pins s1 σ H1 Q I1 q1
 |false=>exact⟨H1,I1,q1⟩
theorem d32(ha:PT X a tA)(hb:PW X (.BoolOp .Or (b::rest) pos) tB'):PW X (.BoolOp .Or (a::b::rest) pos) (tOr tA tB'):=by
 intro wh pins s σ H Q I h
 refine isTrue_or (thn (ha pins s σ H _ I h) λc s1 ⟨H1,I1,q1⟩=>?_)
 cases c with
 |true=>exact⟨H1,I1,q1⟩
 |false=>exact hb wh pins s1 σ H1 Q I1 q1
theorem y01(ha:PT X a tA):PT X (.UnaryOp .Not a pos) (q82 tA):=by
 intro pins s σ H Q I h
 exact isTrue_not (ha pins s σ H (λc H1=>Q (!c) H1) I h)
def d42(ta tb:TE):TE:=λσ H Q=>ta σ H λx H1=>∃ c,x=.bl c∧if c=true then tb σ H1 Q else Q (.bl false) H1
def q92(ta tb:TE):TE:=λσ H Q=>ta σ H λx H1=>∃ c,x=.bl c∧if c=true then Q (.bl true) H1 else tb σ H1 Q
def d52(ta:TE):TE:=λσ H Q=>ta σ H λx H1=>∃ c,x=.bl c∧Q (.bl (!c)) H1
theorem N21{op}{t:TE}(h:PE X a t):PE X (.BoolOp op [a] pos) t:=λpins s σ H Q I hw=>BoolOp_one (h pins s σ H Q I hw)
theorem N31(ha:PE X a ta)(hb:PE X (.BoolOp .And (b::rest) pos) tb):PE X (.BoolOp .And (a::b::rest) pos) (d42 ta tb):=by
 intro pins s σ H Q I h
 refine BoolOp_and (thn (ha pins s σ H _ I h) λv s1 ⟨x,H1,I1,r1,q1⟩=>?_)
 obtain⟨c,rfl,q1⟩:=q1
 cases r1
 refine wpAny_truthy_bool ?_
 cases c with
 |true=>exact hb pins s1 σ H1 Q I1 q1
 |false=>exact⟨.bl false,H1,I1,rfl,q1⟩
theorem d62(ha:PE X a ta)(hb:PE X (.BoolOp .Or (b::rest) pos) tb):PE X (.BoolOp .Or (a::b::rest) pos) (q92 ta tb):=by
 intro pins s σ H Q I h
 refine BoolOp_or (thn (ha pins s σ H _ I h) λv s1 ⟨x,H1,I1,r1,q1⟩=>?_)
 obtain⟨c,rfl,q1⟩:=q1
 cases r1
 refine wpAny_truthy_bool ?_
 cases c with
 |false=>exact hb pins s1 σ H1 Q I1 q1
 |true=>exact⟨.bl true,H1,I1,rfl,q1⟩
theorem N41(ha:PE X a ta):PE X (.UnaryOp .Not a pos) (d52 ta):=by
 intro pins s σ H Q I h
 refine UnaryOp_ (thn (ha pins s σ H _ I h) λv s1 ⟨x,H1,I1,r1,q1⟩=>?_)
 obtain⟨c,rfl,q1⟩:=q1
 cases r1
 exact not_of (wpAny_truthy_bool ⟨.bl (!c),H1,I1,rfl,q1⟩)
def tIf(t:TT)(ta tb:TE):TE:=λσ H Q=>t σ H λc H1=>if c=true then ta σ H1 Q else tb σ H1 Q
theorem p61{c:Expr}(hc:PT X c tA)(ha:PE X a ta)(hb:PE X b tb):PE X (.IfExp c a b pos) (tIf tA ta tb):=by
 intro pins s σ H Q I h
 refine wpAny_IfExp (thn (hc pins s σ H _ I h) λd s1 ⟨H1,I1,q1⟩=>?_)
 cases d with
 |true=>exact ha pins s1 σ H1 Q I1 q1
 |false=>exact hb pins s1 σ H1 Q I1 q1
end
def SqL(K:PySem.W.Frag)(H:Hp)(a:Addr)(xs:List V):Prop :=
 Rd H a (.lst xs) ∨
  ∃ (o:Obj) (its:Array Value) (n:Nat),K.lookup a=some o∧o.cls=.type "list"∧o.dict=none∧o.data=.seq its n∧its.size≤sizeLine∧Vals xs its.toList
def SqT(K:PySem.W.Frag)(H:Hp)(a:Addr)(xs:List V):Prop :=
 Rd H a (.tup xs) ∨
  ∃ (o:Obj) (its:Array Value) (n:Nat),K.lookup a=some o∧o.cls=.type "tuple"∧o.data=.seq its n∧its.size≤sizeLine∧Vals xs its.toList
def r02:Value→Option V
 |.none=>some .non
 |.bool b=>some (.bl b)
 |.int i _=>some (.int i)
 |.str x _=>some (.str x)
 |.bytes b _=>some (.byt b)
 |.float b _=>some (.flt b)
 |.ref a=>some (.ref a)
 |.type n=>some (.ty n)
 |_=>none
theorem RelV.abs{x:V}{u:Value}(r:RelV x u):r02 u=some x:=by
 cases x with
 |non=>cases r;rfl
 |bl _=>cases r;rfl
 |int _=>obtain⟨t,rfl⟩:=r;rfl
 |str _=>obtain⟨t,rfl⟩:=r;rfl
 |byt _=>obtain⟨t,rfl⟩:=r;rfl
 |flt _=>obtain⟨t,rfl⟩:=r;rfl
 |ref _=>cases r;rfl
 |ty _=>cases r;rfl
theorem RelV.inj{x y:V}{u:Value}(r:RelV x u)(q:RelV y u):x=y:=Option.some.inj (r.abs.symm.trans q.abs)
theorem Vals.inj:∀ {xs ys:List V}{us:List Value},Vals xs us→Vals ys us→xs=ys
 |_,_,_,.nil,.nil=>rfl
 |_,_,_,.cons r t,.cons r' t'=>by rw[r.inj r',Vals.inj t t']
section
variable {X:Cx}{pins:List (Addr × Obj)}{σ:St}{H:Hp}{s:Shared}{a:Addr}{xs ys:List V}
theorem SqL.of{K:PySem.W.Frag}(h:H a=some (.lst xs)):SqL K H a xs:=.inl (.inl h)
theorem SqT.of{K:PySem.W.Frag}(h:H a=some (.tup xs)):SqT K H a xs:=.inl (.inl h)
theorem Inv.list(I:Inv X pins σ H s)(h:SqL X.K H a xs):∃ its:List Value,Vals xs its∧PlainL s.heap a its.toArray∧xs.length≤sizeLine:=by
 rcases h with h | ⟨o,its,n,hk,hc,hd,hs,hz,r⟩
 ·obtain⟨z,its,n,r,e⟩:=h.ok I.hok
  exact⟨its,r,⟨_,n,e,rfl,rfl,rfl⟩,z⟩
 ·refine⟨its.toList,r,⟨o,n,I.kIn a o hk,hc,hd,by simpa using hs⟩,?_⟩
  have e:=r.length
  simp only[length_toList] at e
  omega
theorem Inv.tuple(I:Inv X pins σ H s)(h:SqT X.K H a xs):∃ its:List Value,Vals xs its∧IsTup s.heap a its.toArray∧xs.length≤sizeLine:=by
 rcases h with h | ⟨o,its,n,hk,hc,hs,hz,r⟩
 ·obtain⟨z,its,r,p⟩:=h.ok I.hok
  exact⟨its,r,p,z⟩
 ·refine⟨its.toList,r,⟨o,I.kIn a o hk,hc,n,by simpa using hs⟩,?_⟩
  have e:=r.length
  simp only[length_toList] at e
  omega
theorem Inv.P30(I:Inv X pins σ H s)(h:SqL X.K H a xs)(h':SqL X.K H a ys):xs=ys:=by
 obtain⟨its,r,⟨o,n,e,_,_,d⟩,_⟩:=I.list h
 obtain⟨its',r',⟨o',n',e',_,_,d'⟩,_⟩:=I.list h'
 rw[e] at e';cases e'
 rw[d] at d'
 injection d' with d1 _
 have:its=its':=by simpa using congrArg toList d1
 subst this
 exact r.inj r'
theorem Inv.E30(I:Inv X pins σ H s)(h:SqT X.K H a xs)(h':SqT X.K H a ys):xs=ys:=by
 obtain⟨its,r,⟨o,e,_,n,d⟩,_⟩:=I.tuple h
 obtain⟨its',r',⟨o',e',_,n',d'⟩,_⟩:=I.tuple h'
 rw[e] at e';cases e'
 rw[d] at d'
 injection d' with d1 _
 have:its=its':=by simpa using congrArg toList d1
 subst this
 exact r.inj r'
end
abbrev Cx.p01(X:Cx)(E:Value→Shared→Prop):Cx:={ X with xe:=E }
abbrev Cx.nox(X:Cx):Cx:=X.p01 λ_ _=>False
theorem Cx.Ok.p01{X:Cx}(ok:X.Ok)(E:Value→Shared→Prop):(X.p01 E).Ok :=
 ⟨ok.mod,ok.kind,ok.glob,ok.blt,ok.above,ok.inj,ok.has,ok.cab,ok.hd,ok.frames,ok.stk,ok.exf,ok.bs,ok.bsz,ok.noex,ok.exfs,ok.V40,ok.frf⟩
theorem Cx.Ok.q90{X:Cx}{E:Value→Shared→Prop}(ok:(X.p01 E).Ok):X.Ok :=
 ⟨ok.mod,ok.kind,ok.glob,ok.blt,ok.above,ok.inj,ok.has,ok.cab,ok.hd,ok.frames,ok.stk,ok.exf,ok.bs,ok.bsz,ok.noex,ok.exfs,ok.V40,ok.frf⟩
section
variable {X:Cx}{pins:List (Addr × Obj)}{σ:St}{H:Hp}{s:Shared}{E:Value→Shared→Prop}
theorem Inv.p01(I:Inv X pins σ H s)(E:Value→Shared→Prop):Inv (X.p01 E) pins σ H s:=⟨I.ok.p01 E,I.os,I.bare,I.base,I.loc,I.cell,I.free,I.freeC,I.pin,I.hok,I.len⟩
theorem Inv.q90(I:Inv (X.p01 E) pins σ H s):Inv X pins σ H s:=⟨I.ok.q90,I.os,I.bare,I.base,I.loc,I.cell,I.free,I.freeC,I.pin,I.hok,I.len⟩
theorem SP.q90{D:Ends}{f:Flow}{s':Shared}(h:SP (X.p01 E) pins D f s'):SP X pins D f s':=by
 cases f with
 |next=>obtain⟨σ',H',I,q⟩:=h;exact⟨σ',H',I.q90,q⟩
 |brk=>obtain⟨σ',H',I,q⟩:=h;exact⟨σ',H',I.q90,q⟩
 |cont=>obtain⟨σ',H',I,q⟩:=h;exact⟨σ',H',I.q90,q⟩
 |ret u=>obtain⟨v,σ',H',I,r,q⟩:=h;exact⟨v,σ',H',I.q90,r,q⟩
theorem PSs.nox{st:List Stmt}{t:TS}(h:PSs X.nox st t):PSs X st t:=λpins s σ H D I hw =>
 wpAny_mono (h pins s σ H D (I.p01 _) hw) (λ_ _ q=>q.q90) λ_ _ z=>False.elim z
end
section
variable {X:Cx}{st:Stmt}{rest:List Stmt}{t u:TS}{e:Expr}{te:TE}{pos:Pos}
def d72:TS:=λD σ H=>D.nx σ H
def r12(t u:TS):TS:=λD σ H=>t { D with nx:=u D } σ H
theorem K20:PSs X [] d72:=λ_ _ σ H _ I h=>wpAny_execs_nil ⟨σ,H,I,h⟩
theorem d40(h1:PS X st t)(h2:PSs X rest u):PSs X (st::rest) (r12 t u):=by
 intro pins s σ H D I h
 refine wpAny_execs_cons (thn (h1 pins s σ H { D with nx:=u D } I h) λf s1 q=>?_)
 cases f with
 |next =>
  obtain⟨σ',H',I',q⟩:=q
  exact h2 pins s1 σ' H' D I' q
 |ret v=>exact q
 |brk=>exact q
 |cont=>exact q
theorem a01(h1:PS X st t):PSs X [st] t:=by
 intro pins s σ H D I h
 refine wpAny_execs_cons (thn (h1 pins s σ H D I h) λf s1 q=>?_)
 cases f with
 |next=>exact wpAny_execs_nil q
 |ret v=>exact q
 |brk=>exact q
 |cont=>exact q
theorem Inv.quiet{pins:List (Addr × Obj)}{σ:St}{H:Hp}{s:Shared}(I:Inv X pins σ H s):interactive X.env=false:=by simp[interactive,I.ok.kind]
def N51(te:TE):TS:=λD σ H=>te σ H λ_ H1=>D.nx σ H1
theorem z30(he:PE X e te)(hs:swapsWith e none pos.line X.env=pure false:=by rfl):PS X (.Expr e pos) (N51 te):=by
 intro pins s σ H D I h
 exact wpAny_Expr_any (thn (he pins s σ H _ I h) λv s1 ⟨x,H1,I1,r1,q1⟩=>⟨σ,H1,I1,q1⟩) I.quiet hs
def r22(te:TE):TS:=λD σ H=>te σ H D.rt
theorem P40(he:PE X e te):PS X (.Return (some e) pos) (r22 te):=by
 intro pins s σ H D I h
 exact wpAny_Return_some (thn (he pins s σ H _ I h) λv s1 ⟨x,H1,I1,r1,q1⟩=>⟨x,σ,H1,I1,r1,q1⟩)
def d82:TS:=λD _ H=>D.rt .non H
theorem B91:PS X (.Return none pos) d82:=λ_ _ σ H _ I h=>wpAny_Return_none ⟨.non,σ,H,I,rfl,h⟩
def r32(c:TT)(t u:TS):TS:=λD σ H=>c σ H λb H1=>if b=true then t D σ H1 else u D σ H1
theorem C01{c:Expr}{a b:List Stmt}{tc:TT}(hc:PT X c tc)(ha:PSs X a t)(hb:PSs X b u):PS X (.If c a b pos) (r32 tc t u):=by
 intro pins s σ H D I h
 refine wpAny_If (thn (hc pins s σ H _ I h) λd s1 ⟨H1,I1,q1⟩=>?_)
 cases d with
 |true=>exact ha pins s1 σ H1 D I1 q1
 |false=>exact hb pins s1 σ H1 D I1 q1
end
abbrev TG:=V→St→Hp→(St→Hp→Prop)→Prop
abbrev TGs:=List V→St→Hp→(St→Hp→Prop)→Prop
def PG(X:Cx)(target:Expr)(t:TG):Prop :=
 ∀ (pins:List (Addr × Obj)) (s:Shared) (σ:St) (H:Hp) (v:V) (u:Value) (Q:St→Hp→Prop),Inv X pins σ H s→RelV v u→t v σ H Q →
  wpAny (model X.prog X.w) X.A (assign target X.env u) (λ_ s'=>∃ σ' H',Inv X pins σ' H' s'∧Q σ' H') X.xe s
def PGs(X:Cx)(ts:List Expr)(t:TGs):Prop :=
 ∀ (pins:List (Addr × Obj)) (s:Shared) (σ:St) (H:Hp) (vs:List V) (us:List Value) (Q:St→Hp→Prop),Inv X pins σ H s→Vals vs us→t vs σ H Q →
  wpAny (model X.prog X.w) X.A (assignInOrder ((assignEach ts X.env).map (·.2)) us) (λ_ s'=>∃ σ' H',Inv X pins σ' H' s'∧Q σ' H') X.xe s
abbrev N61:=V→V→V→Hp→(Hp→Prop)→Prop
def d92(X:Cx)(t:N61):Prop :=
 ∀ (pins:List (Addr × Obj)) (s:Shared) (σ:St) (H:Hp) (o i v:V) (ov iv u:Value) (Q:Hp→Prop),Inv X pins σ H s→RelV o ov→RelV i iv→RelV v u→t o i v H Q →
  wpAny (model X.prog X.w) X.A (setItem ov iv u) (λ_ s'=>∃ H',Inv X pins σ H' s'∧Q H') X.xe s
abbrev TIp:=V→V→Hp→VK→Prop
def PIp(X:Cx)(op:Operator)(t:TIp):Prop :=
 ∀ (pins:List (Addr × Obj)) (s:Shared) (σ:St) (H:Hp) (x y:V) (v u:Value) (Q:VK),Inv X pins σ H s→RelV x v→RelV y u→t x y H Q →
  wpAny (model X.prog X.w) X.A (inplaceOp op v u) (EP X pins σ Q) X.xe s
section
variable {X:Cx}{pos:Pos}
def z40(i:Nat):TG:=λv σ H Q=>Q (σ.set i (some v)) H
theorem K30{i:Nat}{x:Str}(hN:X.N.Nodup)(hi:X.N[i]?=some x)(hx:Loc X.env.scope x)(hf:X.fn x=true∨X.env.scope.names.lookup x=some .local:=by first | exact .inl rfl | exact .inr rfl | assumption):PG X (.Name x pos) (z40 i):=by
 intro pins s σ H v u Q I r h
 exact wpAny_assign_Name (n40 I hN hi hx r (λs' I'=>⟨_,H,I',h⟩) hf)
def n92:TGs:=λvs σ H Q=>vs=[]∧Q σ H
def N71(t:TG)(u:TGs):TGs:=λvs σ H Q=>∃ v r,vs=v::r∧t v σ H λσ' H'=>u r σ' H' Q
theorem C11:PGs X [] n92:=by
 intro pins s σ H vs us Q I r h
 obtain⟨e,h⟩:=h
 subst e
 cases r
 exact assignInOrder_nil ⟨σ,H,I,h⟩
theorem p71{e:Expr}{es:List Expr}{t:TG}{u:TGs}(h1:PG X e t)(h2:PGs X es u)
  (hs:(assignEach (e::es) X.env).map (·.2)=assign e X.env::(assignEach es X.env).map (·.2):=by rfl):PGs X (e::es) (N71 t u):=by
 intro pins s σ H vs us Q I r h
 obtain⟨v,vr,e1,h⟩:=h
 subst e1
 cases r with
 |cons r rr =>
  rw[hs]
  refine assignInOrder_cons (thn (h1 pins s σ H _ _ _ I r h) λ_ s1 ⟨σ1,H1,I1,q1⟩=>?_)
  exact h2 pins s1 σ1 H1 _ _ Q I1 rr q1
def o02(K:PySem.W.Frag)(n:Nat)(t:TGs):TG:=λv σ H Q=>∃ a xs,v=.ref a∧SqT K H a xs∧xs.length=n∧t xs σ H Q
theorem N81{es:List Expr}{k:Nat}{t:TGs}{n:Nat}(hc:X.calm=true)(h:PGs X es t)
  (hn:(assignEach es X.env).length=n:=by rfl) (hst:(assignEach es X.env).findIdx? (·.1)=none:=by rfl):PG X (.Tuple es k pos) (o02 X.K n t):=by
 intro pins s σ H v u Q I r hw
 obtain⟨a,xs,e1,hq,hl,hw⟩:=hw
 subst e1
 cases r
 obtain⟨its,rv,ht,hz⟩:=I.tuple hq
 refine assign_Tuple_tuple (I.ok.hd hc) ht (by simp[hn,← hl,rv.length]) hst λh' hx=>?_
 have I1:Inv X pins σ H { s with heap:=h' }:=I.kept (t':=s.toks) λb o e=>hx b o (Nat.ne_of_lt (lt_size e)) e
 exact h pins _ σ H xs _ Q I1 (by simpa using rv) hw
def r42(to ti:TE)(t:N61):TG:=λv σ H Q=>to σ H λo H1=>ti σ H1 λi H2=>t o i v H2 λH3=>Q σ H3
theorem y11{o i:Expr}{to ti:TE}{t:N61}(ho:PE X o to)(hi:PE X i ti)(hs:d92 X t)
  (ha:∀ v,assign (.Subscript o i pos) X.env v=(do
   let ov ← holding [v] (eval o X.env)
   let iv ← holding [v,ov] (eval i X.env)
   standAt pos
   holding [v,ov,iv] (setItem ov iv v)
   release [v,ov,iv] []):=by intro _;rfl):PG X (.Subscript o i pos) (r42 to ti t):=by
 intro pins s σ H v u Q I r h
 rw[ha]
 refine wpAny_bind (wpAny_holding (thn (ho pins s σ H _ I h) λov s1 ⟨x,H1,I1,r1,q1⟩=>?_))
 refine wpAny_bind (wpAny_holding (thn (hi pins s1 σ H1 _ I1 q1) λiv s2 ⟨y,H2,I2,r2,q2⟩=>?_))
 refine wpAny_bind (wpAny_standAt (wpAny_bind (wpAny_holding (thn (hs pins s2 σ H2 x y v ov iv u _ I2 r1 r2 r q2) λ_ s3 ⟨H3,I3,q3⟩=>?_))))
 exact wpAny_release ⟨σ,H3,I3,q3⟩
def N91(te:TE)(g:TG):TS:=λD σ H=>te σ H λx H1=>g x σ H1 D.nx
theorem a11{tg e:Expr}{te:TE}{g:TG}(he:PE X e te)(hg:PG X tg g)(hs:swapsWithSole [tg] e pos.line X.env=pure false:=by rfl)(hw:swappedStores [tg] e X.env=pure none:=by rfl)
  (h1:(assignEach [tg] X.env).map (·.2)=[assign tg X.env]:=by rfl):PS X (.Assign [tg] e pos) (N91 te g):=by
 intro pins s σ H D I h
 refine wpAny_Assign_stores (thn (he pins s σ H _ I h) λv s1 ⟨x,H1,I1,r1,q1⟩=>?_) hs hw
 rw[h1]
 exact thn (hg pins s1 σ H1 x v _ I1 r1 q1) λ_ s2 q=>q
theorem n60{i:Nat}{x:Str}{e:Expr}{te:TE}{pos':Pos}(hN:X.N.Nodup)(hi:X.N[i]?=some x)(hx:Loc X.env.scope x)(he:PE X e te)(hs:swapsWith e (some (.Name x pos')) pos.line X.env=pure false:=by rfl)(hf:X.fn x=true∨X.env.scope.names.lookup x=some .local:=by first | exact .inl rfl | exact .inr rfl | assumption) :
  PS X (.Assign [.Name x pos'] e pos) (N91 te (z40 i)):=by
 intro pins s σ H D I h
 refine wpAny_Assign_Name (thn (he pins s σ H _ I h) λv s1 ⟨y,H1,I1,r1,q1⟩=>?_) hs
 exact n40 I1 hN hi hx r1 (λs2 I2=>⟨_,H1,I2,q1⟩) hf
def r52(i j:Nat)(ta:TA):TS:=λD σ H=>ta σ H λvs H1=>∃ v w,vs=[v,w]∧D.nx ((σ.set i (some v)).set j (some w)) H1
theorem O01{i j:Nat}{x y:Str}{a b:Expr}{ta:TA}{px py pt:Pos}{kt k2 pt2}(hc:X.calm=true)(hN:X.N.Nodup)(hi:X.N[i]?=some x)(hj:X.N[j]?=some y)(hij:i≠j)
  (hx:X.env.scope.names.lookup x=some .local) (hy:X.env.scope.names.lookup y=some .local) (ha:PA X [a,b] ta)
  (hw:swappedStores [.Tuple [.Name x px,.Name y py] kt pt] (.Tuple [a,b] k2 pt2) X.env=pure (some [x,y]))
  (hs:swapsWithSole [.Tuple [.Name x px,.Name y py] kt pt] (.Tuple [a,b] k2 pt2) pos.line X.env=pure false:=by rfl) :
  PS X (.Assign [.Tuple [.Name x px,.Name y py] kt pt] (.Tuple [a,b] k2 pt2) pos) (r52 i j ta):=by
 intro pins s σ H D I h
 rw[exec_Assign_arm]
 refine wpAny_bind (wpAny_standAt ?_)
 rw[hs]
 refine wpAny_bind (wpAny_pure ?_)
 rw[if_neg (by decide)]
 refine wpAny_bind (Tuple_ (thn (ha _ pins s σ H _ I h) λus s1 ⟨vs,H1,I1,r1,q1⟩=>?_))
 obtain⟨v,w,e1,q1⟩:=q1
 subst e1
 obtain⟨u1,u2,rfl,rv,rw'⟩:∃ u1 u2,us=[u1,u2]∧RelV v u1∧RelV w u2:=by
  cases r1 with
  |cons p q =>
   cases q with
   |cons p' q' =>
    cases q'
    exact⟨_,_,rfl,p,p'⟩
 refine wpAny_newObj_type ?_ (by show 2≤sizeLine;decide)
 have I2:Inv X pins σ H1 { s1 with heap:=s1.heap.push { cls:=.type "tuple",data:=.seq [u1,u2].toArray } }:=I1.kept (t':=s1.toks) λb o e=>Heap.get?_push_of_some _ e
 rw[hw]
 refine wpAny_bind (wpAny_pure ?_)
 show wpAny (model X.prog X.w) X.A (do rule "assign.swapped-stores";let items ← unpackItems (.ref s1.heap.objs.size) 2 none;assignInOrder [λv=>bindName X.env y v,λv=>bindName X.env x v] items.reverse;pure Flow.next) _ _ _
 refine wpAny_bind (wpAny_rule (wpAny_bind (unpackItems_tuple (items:=#[u1,u2]) (I.ok.hd hc) (IsTup.new s1.heap _) λh' hx'=>?_)))
 have I3:=I2.kept (h':=h') (t':=s1.toks) λb o e=>hx' b o (Nat.ne_of_lt (lt_size e)) e
 show wpAny _ _ (assignInOrder [λv=>bindName X.env y v,λv=>bindName X.env x v] [u2,u1] >>= λ_=>pure Flow.next) _ _ _
 refine wpAny_bind (assignInOrder_cons (wpAny_bindName (n40 I3 hN hj (.inl hy) rw' (λs2 I4=>?_) (.inr hy))))
 refine assignInOrder_cons (wpAny_bindName (n40 I4 hN hi (.inl hx) rv (λs3 I5=>assignInOrder_nil (wpAny_pure ?_)) (.inr hx)))
 rw[List.set_comm _ _ (Ne.symm hij)] at I5
 exact⟨_,H1,I5,q1⟩
def r62(i:Nat)(te:TE)(ti:TIp):TS:=λD σ H=>∃ x,σ[i]?=some (some x)∧te σ H λy H1=>ti x y H1 λz H2=>D.nx (σ.set i (some z)) H2
theorem o12{i:Nat}{x:Str}{e:Expr}{te:TE}{op:Operator}{ti:TIp}{pos':Pos}(hN:X.N.Nodup)(hi:X.N[i]?=some x)(hx:Loc X.env.scope x)(he:PE X e te)(ho:PIp X op ti)(hf:X.fn x=true∨X.env.scope.names.lookup x=some .local:=by first | exact .inl rfl | exact .inr rfl | assumption) :
  PS X (.AugAssign (.Name x pos') op e pos) (r62 i te ti):=by
 intro pins s σ H D I h
 obtain⟨v,e1,h⟩:=h
 obtain⟨m,hn,hl⟩:=I.loc
 have vis:Vis X.env.scope x:=by rcases hx with k | k;exact .inl k;exact .inr (.inl k)
 obtain⟨u,r,l⟩:=hl i x v hi e1 vis
 refine wpAny_AugAssign_Name ?_
 have go:wpAny (model X.prog X.w) X.A (eval e X.env) (λw s₂=>wpAny (model X.prog X.w) X.A (inplaceOp op u w) (λr s₃=>wpAny (model X.prog X.w) X.A (storeName X.env x r) (λ_=>SP X pins D .next) X.xe s₃) X.xe s₂) X.xe s:=by
  refine thn (he pins s σ H _ I h) λw s1 ⟨y,H1,I1,r1,q1⟩=>?_
  refine thn (ho pins s1 σ H1 v y u w _ I1 r r1 q1) λz s2 ⟨zv,H2,I2,r2,q2⟩=>?_
  exact n40 I2 hN hi hx r2 (λs3 I3=>⟨_,H2,I3,q2⟩) hf
 rcases l with ⟨hk,hm⟩ | ⟨hk,c,hc,hcell⟩
 ·exact wpAny_loadName_local I.ok.kind hk hn hm go
 ·rcases hk with hk | hk
  ·exact wpAny_loadName_cell I.ok.kind hk hc hcell go
  ·rcases hx with k | k
   ·have:X.env.scope.names.lookup x=some .free:=hk
    rw[k] at this;cases this
   ·have:X.env.scope.names.lookup x=some .free:=hk
    rw[k] at this;cases this
def e02(to ti te:TE)(tget:V→V→Hp→VK→Prop)(tip:TIp)(tset:N61):TS:=λD σ H=>to σ H λo H1=>ti σ H1 λi H2=>tget o i H2 λx H3=>te σ H3 λy H4=>tip x y H4 λz H5=>tset o i z H5 λH6=>D.nx σ H6
def r72(X:Cx)(t:V→V→Hp→VK→Prop):Prop :=
 ∀ (pins:List (Addr × Obj)) (s:Shared) (σ:St) (H:Hp) (o i:V) (ov iv:Value) (Q:VK),Inv X pins σ H s→RelV o ov→RelV i iv→t o i H Q →
  wpAny (model X.prog X.w) X.A (getItem ov iv) (EP X pins σ Q) X.xe s
theorem e12{o i e:Expr}{to ti te:TE}{tget:V→V→Hp→VK→Prop}{tip:TIp}{tset:N61}{op:Operator}{tpos:Pos}(ho:PE X o to)(hi:PE X i ti)(hg:r72 X tget)(he:PE X e te)(hp:PIp X op tip)(hs:d92 X tset)
  (ha:∀ ov iv new,augStore i ov iv new=(do holding [new,ov,iv] (setItem ov iv new);release [new,ov,iv] [];pure .next):=by intros;rfl):PS X (.AugAssign (.Subscript o i tpos) op e pos) (e02 to ti te tget tip tset):=by
 intro pins s σ H D I h
 refine wpAny_AugAssign_SubscriptAny (thn (ho pins s σ H _ I h) λov s1 ⟨x1,H1,I1,r1,q1⟩=>?_) ha
 refine thn (hi pins s1 σ H1 _ I1 q1) λiv s2 ⟨x2,H2,I2,r2,q2⟩=>?_
 refine thn (hg pins s2 σ H2 x1 x2 ov iv _ I2 r1 r2 q2) λold s3 ⟨x3,H3,I3,r3,q3⟩=>?_
 refine thn (he pins s3 σ H3 _ I3 q3) λv s4 ⟨x4,H4,I4,r4,q4⟩=>?_
 refine thn (hp pins s4 σ H4 x3 x4 old v _ I4 r3 r4 q4) λnew s5 ⟨x5,H5,I5,r5,q5⟩=>?_
 exact thn (hs pins s5 σ H5 x1 x2 x5 ov iv new _ I5 r1 r2 r5 q5) λ_ s6 ⟨H6,I6,q6⟩=>⟨σ,H6,I6,q6⟩
def ipI(f:Int→Int→Int):TIp:=λx y H Q=>∃ i j,x=.int i∧y=.int j∧Q (.int (f i j)) H
theorem o22:PIp X .Add (ipI λi j=>i + j):=by
 intro pins s σ H x y v u Q I r1 r2 h
 obtain⟨i,j,e1,e2,q⟩:=h
 subst e1;subst e2
 obtain⟨t,rfl⟩:=r1
 obtain⟨t',rfl⟩:=r2
 exact iadd_int ⟨.int _,H,I.tok _,⟨_,rfl⟩,q⟩
def O11(c:TT)(tb:TS):TS:=λD σ H=>∃ W:Nat→St→Hp→Prop,(∃ m,W m σ H)∧∀ m σ H,W m σ H →
 c σ H λb H1=>if b=true then ∃ N:St→Hp→Prop,(∀ σ' H',N σ' H'→∃ m',m' < m∧W m' σ' H')∧tb { D with nx:=N,ct:=N,bk:=D.nx } σ H1 else D.nx σ H1
theorem p81{c:Expr}{body:List Stmt}{tc:TT}{tb:TS}(hp:PassesOwn (model X.prog X.w) X.A X.env X.xe)(hc:PT X c tc)(hb:PSs X body tb):PS X (.While c body [] pos) (O11 tc tb):=by
 intro pins s σ H D I h
 obtain⟨W,⟨m0,w0⟩,turn⟩:=h
 refine wpAny_While (codeAny_whileLoop (λn s'=>∃ σ' H',Inv X pins σ' H' s'∧W n σ' H') ?_ m0 ⟨σ,H,I,w0⟩)
 rintro n s1 ⟨σ1,H1,I1,w1⟩
 refine wpAny_passesOwn hp (thn (hc pins s1 σ1 H1 _ I1 (turn n σ1 H1 w1)) λb s2 ⟨H2,I2,q2⟩=>?_)
 cases b with
 |true =>
  obtain⟨N,hN,q2⟩:=q2
  rw[if_pos rfl]
  refine wpAny_passesOwn hp (thn (hb pins s2 σ1 H2 _ I2 q2) λf s3 q3=>?_)
  cases f with
  |next =>
   obtain⟨σ3,H3,I3,n3⟩:=q3
   obtain⟨m',hm,w3⟩:=hN σ3 H3 n3
   exact⟨m',hm,σ3,H3,I3,w3⟩
  |cont =>
   obtain⟨σ3,H3,I3,n3⟩:=q3
   obtain⟨m',hm,w3⟩:=hN σ3 H3 n3
   exact⟨m',hm,σ3,H3,I3,w3⟩
  |brk=>exact q3
  |ret v=>exact q3
 |false =>
  rw[if_neg Bool.false_ne_true]
  exact wpAny_execs_nil ⟨σ1,H2,I2,q2⟩
end
structure It where
 go:Nat→Hp→Prop
 yld:Nat→Hp→V→Hp→Prop
 stop:Nat→Hp→Prop
def K40(X:Cx)(pins:List (Addr × Obj))(H:Hp)(b:Addr):Prop :=
 H b=none∧b≠X.env.locals∧b ∉ X.fs∧(b∈X.ex∨X.s₀.heap.objs.size≤b)∧(∀ x c,X.env.cells.lookup x=some c→c≠b)∧∀ p∈X.pn++pins,p.1≠b
theorem Inv.Y90{X:Cx}{pins:List (Addr × Obj)}{σ:St}{H H':Hp}{s:Shared}{b:Addr}(I:Inv X pins σ H s)(hb:s.heap.objs.size≤b)(hn:H' b=none):K40 X pins H' b:=by
 refine⟨hn,ne_of_gt (Nat.lt_of_lt_of_le I.lt hb),I.q62 hb,.inr (Nat.le_trans I.sz hb),λx c e z=>?_,λp hp z=>?_⟩
 ·obtain⟨v,q⟩:=I.cell x c e
  exact absurd (Nat.lt_of_lt_of_le q.lt (by rw[z];exact hb)) (Nat.lt_irrefl _)
 ·exact absurd (Nat.lt_of_lt_of_le (lt_size (I.pin p hp).1) (by rw[z];exact hb)) (Nat.lt_irrefl _)
structure Turn(P:Program)(w:World)(K:PySem.W.Frag)(tg:Expr)(J:It)(fp:List Addr)(it:Addr)(tn:Nat→Heap→Prop):Prop where
 mem:it∈fp
 obj:∀ i h,tn i h→∀ b∈fp,∃ o,h.get? b=some o∧∀ v,o.data≠.cell v
 keep:∀ i h h',tn i h→(∀ b∈fp,∀ o,h.get? b=some o→h'.get? b=some o)→tn i h'
 item:∀ (X:Cx),X.prog=P→X.w=w→X.K=K→X.calm=true→∀ (i:Nat) (pins:List (Addr × Obj)) (s:Shared) (σ:St) (H:Hp) (E:Value→Shared→Prop),Inv X pins σ H s→(∀ b∈fp,K40 X pins H b)→tn i s.heap→J.go i H →
  wpAny (model P w) X.A (pyNext (.ref it)) (λr s1=>∃ u,r=some u ∧
   wpAny (model P w) X.A (letOwnedTupleGo tg (.ref it) u) (λ_ s2=>∃ x H',Inv X pins σ H' s2∧RelV x u∧J.yld i H x H'∧tn (i + 1) s2.heap∧∀ b∈fp,H' b=none) E s1) E s
 done:∀ (X:Cx),X.prog=P→X.w=w→X.K=K→X.calm=true→∀ (i:Nat) (pins:List (Addr × Obj)) (s:Shared) (σ:St) (H:Hp) (E:Value→Shared→Prop),Inv X pins σ H s→(∀ b∈fp,K40 X pins H b)→tn i s.heap→J.stop i H →
  wpAny (model P w) X.A (pyNext (.ref it)) (λr s1=>r=none∧Inv X pins σ H s1) E s
 self:∀ (A:Around) (i:Nat) (s:Shared) (Q:Value→Shared→Prop) (E:Value→Shared→Prop),tn i s.heap→Q (.ref it) s→wpAny (model P w) A (pyIter (.ref it)) Q E s
abbrev TI:=St→Hp→(It→Hp→Prop)→Prop
def PIE(X:Cx)(pins:List (Addr × Obj))(σ:St)(tg:Expr)(R:It→Hp→Prop)(itv:Value)(s2:Shared):Prop :=
 ∃ (it:Addr) (fp:List Addr) (tn:Nat→Heap→Prop) (J:It) (H':Hp),itv=.ref it∧Inv X pins σ H' s2∧Turn X.prog X.w X.K tg J fp it tn∧tn 0 s2.heap∧(∀ b∈fp,K40 X pins H' b)∧R J H'
def PI(X:Cx)(tg iter:Expr)(wi:TI):Prop :=
 ∀ (pins:List (Addr × Obj)) (s:Shared) (σ:St) (H:Hp) (R:It→Hp→Prop),Inv X pins σ H s→wi σ H R →
  wpAny (model X.prog X.w) X.A (eval iter X.env) (λv s1=>wpAny (model X.prog X.w) X.A (pyIter v) (PIE X pins σ tg R) X.xe s1) X.xe s
theorem C21{M:Model}{A:Around}{E:Value→Shared→Prop}{s:Shared}{tg:Expr}{it:Addr}{u:Value}{o:Obj}{n:String}{vs:Array Value}{Q:Unit→Shared→Prop}(ho:s.heap.get? it=some o)(hc:o.cls=.type n)(hd:o.data=.fields vs)
  (hn:["enumerate","zip","dict_itemiterator","dict_reverseitemiterator","odict_iterator","itertools.zip_longest","itertools.pairwise"].contains n=false) (hQ:Q () s):wpAny M A (letOwnedTupleGo tg (.ref it) u) Q E s:=by
 unfold letOwnedTupleGo
 cases tg <;> first
  |exact wpAny_pure hQ
  |(cases u <;> first
    |exact wpAny_pure hQ
    |(refine wpAny_bind (wpAny_load ho ?_)
      rw[hc,hd]
      show wpAny M A (if (["enumerate","zip","dict_itemiterator","dict_reverseitemiterator","odict_iterator","itertools.zip_longest","itertools.pairwise"].contains n&&vs[0]? == some (rawInt _))=true then _ else _) Q E s
      rw[if_neg (by intro h;rw[hn,Bool.false_and] at h;cases h)]
      exact wpAny_pure hQ))
def Itl(K:PySem.W.Frag)(a:Addr):It :=
 ⟨λi H=>∃ xs x,SqL K H a xs∧xs[i]?=some x,λi H x H'=>H'=H∧∀ xs,SqL K H a xs→xs[i]?=some x,λi H=>∃ xs,SqL K H a xs∧xs.length≤i⟩
def Itt(K:PySem.W.Frag)(a:Addr):It :=
 ⟨λi H=>∃ xs x,SqT K H a xs∧xs[i]?=some x,λi H x H'=>H'=H∧∀ xs,SqT K H a xs→xs[i]?=some x,λi H=>∃ xs,SqT K H a xs∧xs.length≤i⟩
def Itr(lo:Int)(n:Nat):It:=⟨λi _=>i < n,λi H x H'=>H'=H∧x=.int (lo + i),λi _=>n≤i⟩
theorem a21{P:Program}{w:World}{K:PySem.W.Frag}{tg:Expr}(a it:Addr):Turn P w K tg (Itl K a) [it] it (λi h=>h.IsListIter it a i) where
 mem:=by simp
 obj:=λi h st b hb=>by
  have e:b=it:=by simpa using hb
  subst e
  obtain⟨o,e,c,d⟩:=st
  exact⟨o,e,λv z=>by rw[d] at z;cases z⟩
 keep:=λi h h' st k=>st.at λo e=>k it (by simp) o e
 item:=by
  intro X hP hw hK hc i pins s σ H E I hf st hg
  subst hP hw hK
  obtain⟨xs,x,hq,hx⟩:=hg
  obtain⟨its,rv,p,hz⟩:=I.list hq
  obtain⟨u,hu,ru⟩:=rv.get hx
  obtain⟨f0,f1,f2,f3,f4,f5⟩:=hf it (by simp)
  refine wpAny_pyNext_list_item st p.isList (x:=u) (by simpa using hu) λh' st' sb=>?_
  have I1:Inv X pins σ H { s with heap:=h' }:=I.turned (t':=s.toks) (λb o hb e=>(sb.2 b hb).trans e) f0 f1 f3 f4 f5
  obtain⟨o,e,c,d⟩:=id st'
  exact⟨u,rfl,C21 (s:={ s with heap:=h' }) e c d (by decide) ⟨x,H,I1,ru,⟨rfl,λys hy=>by rw[I.P30 hy hq];exact hx⟩,st',λb hb=>(hf b hb).1⟩⟩
 done:=by
  intro X hP hw hK hc i pins s σ H E I hf st hg
  subst hP hw hK
  obtain⟨xs,hq,hx⟩:=hg
  obtain⟨its,rv,p,hz⟩:=I.list hq
  obtain⟨f0,f1,f2,f3,f4,f5⟩:=hf it (by simp)
  have hl:=rv.length
  exact wpAny_pyNext_list_end (I.ok.hd hc) st p.isList (by simp;omega) λh' eb=>⟨rfl,I.turned (t':=s.toks) (λb o hb e=>eb b o hb e) f0 f1 f3 f4 f5⟩
 self:=λ_ _ _ _ _ st h=>wpAny_pyIter_listiter st h
theorem V50{P:Program}{w:World}{K:PySem.W.Frag}{tg:Expr}(a it:Addr):Turn P w K tg (Itt K a) [it] it (λi h=>h.IsTupleIter it a i) where
 mem:=by simp
 obj:=λi h st b hb=>by
  have e:b=it:=by simpa using hb
  subst e
  obtain⟨o,e,c,d⟩:=st
  exact⟨o,e,λv z=>by rw[d] at z;cases z⟩
 keep:=λi h h' st k=>st.at λo e=>k it (by simp) o e
 item:=by
  intro X hP hw hK hc i pins s σ H E I hf st hg
  subst hP hw hK
  obtain⟨xs,x,hq,hx⟩:=hg
  obtain⟨its,rv,p,hz⟩:=I.tuple hq
  obtain⟨u,hu,ru⟩:=rv.get hx
  obtain⟨f0,f1,f2,f3,f4,f5⟩:=hf it (by simp)
  refine wpAny_pyNext_tuple_item st (show s.heap.IsTuple a its.toArray from p) (x:=u) (by simpa using hu) λh' st' sb=>?_
  have I1:Inv X pins σ H { s with heap:=h' }:=I.turned (t':=s.toks) (λb o hb e=>(sb.2 b hb).trans e) f0 f1 f3 f4 f5
  obtain⟨o,e,c,d⟩:=id st'
  exact⟨u,rfl,C21 (s:={ s with heap:=h' }) e c d (by decide) ⟨x,H,I1,ru,⟨rfl,λys hy=>by rw[I.E30 hy hq];exact hx⟩,st',λb hb=>(hf b hb).1⟩⟩
 done:=by
  intro X hP hw hK hc i pins s σ H E I hf st hg
  subst hP hw hK
  obtain⟨xs,hq,hx⟩:=hg
  obtain⟨its,rv,p,hz⟩:=I.tuple hq
  obtain⟨f0,f1,f2,f3,f4,f5⟩:=hf it (by simp)
  have hl:=rv.length
  exact wpAny_pyNext_tuple_end (I.ok.hd hc) st (show s.heap.IsTuple a its.toArray from p) (by simp;omega) λh' eb=>⟨rfl,I.turned (t':=s.toks) (λb o hb e=>eb b o hb e) f0 f1 f3 f4 f5⟩
 self:=λ_ _ _ _ _ st h=>wpAny_pyIter_tupleiter st h
theorem V60{P:Program}{w:World}{K:PySem.W.Frag}{tg:Expr}(it:Addr)(lo:Int)(n:Nat):Turn P w K tg (Itr lo n) [it] it (λi h=>IsRangeIter h it (lo + (i:Nat) * 1) ((n:Int) - (i:Nat)) 1) where
 mem:=by simp
 obj:=λi h st b hb=>by
  have e:b=it:=by simpa using hb
  subst e
  exact⟨_,st,λv z=>by
   have z':Data.fields _=Data.cell v:=z
   cases z'⟩
 keep:=λi h h' st k=>k it (by simp) _ st
 item:=by
  intro X hP hw hK hc i pins s σ H E I hf st hg
  subst hP hw hK
  obtain⟨f0,f1,f2,f3,f4,f5⟩:=hf it (by simp)
  have W:=Walks.range (prog:=X.prog) (w:=X.w) (I.ok.hd hc) it lo 1 n
  refine W.item i s _ _ hg st λv h' tk hv st' kk=>?_
  obtain⟨t,rfl⟩:=hv
  have I1:Inv X pins σ H { s with heap:=h',toks:=tk }:=I.turned (λb o hb e=>kk b o (by simpa using hb) e) f0 f1 f3 f4 f5
  refine⟨_,rfl,C21 (s:={ s with heap:=h',toks:=tk }) (n:="range_iterator") st' rfl rfl (by decide) ⟨.int (lo + i),H,I1,⟨t,?_⟩,⟨rfl,rfl⟩,st',λb hb=>(hf b hb).1⟩⟩
  rw[Int.mul_one]
 done:=by
  intro X hP hw hK hc i pins s σ H E I hf st hg
  subst hP hw hK
  obtain⟨f0,f1,f2,f3,f4,f5⟩:=hf it (by simp)
  exact wpAny_pyNext_range_end (I.ok.hd hc) st (by have:n≤i:=hg;omega) λh' eb=>⟨rfl,I.turned (t':=s.toks) (λb o hb e=>eb b o hb e) f0 f1 f3 f4 f5⟩
 self:=λ_ _ _ _ _ st h=>wpAny_pyIter_rangeiter st h
section
variable {X:Cx}{tg:Expr}
def O21(K:PySem.W.Frag)(tl:TE):TI:=λσ H R=>tl σ H λx H1=>∃ a,x=.ref a∧(∃ xs,SqL K H1 a xs)∧R (Itl K a) H1
def r82(K:PySem.W.Frag)(tl:TE):TI:=λσ H R=>tl σ H λx H1=>∃ a,x=.ref a∧(∃ xs,SqT K H1 a xs)∧R (Itt K a) H1
theorem z50{l:Expr}{tl:TE}(hl:PE X l tl):PI X tg l (O21 X.K tl):=by
 intro pins s σ H R I h
 refine thn (hl pins s σ H _ I h) λv s1 ⟨x,H1,I1,r1,q1⟩=>?_
 obtain⟨a,e,⟨xs,hq⟩,q⟩:=q1
 subst e
 cases r1
 obtain⟨its,rv,p,hz⟩:=I1.list hq
 refine wpAny_pyIter_list p.isList ?_
 refine⟨s1.heap.objs.size,[s1.heap.objs.size],_,_,H1,rfl,I1.kept (t':=s1.toks) λb o e=>Heap.get?_push_of_some _ e,a21 a _,⟨_,Heap.get?_push_size _ rfl,rfl,rfl⟩,λb hb=>?_,q⟩
 have e:b=s1.heap.objs.size:=by simpa using hb
 subst e
 exact I1.Y90 (Nat.le_refl _) (I1.hok.fresh (Nat.le_refl _))
theorem y21{l:Expr}{tl:TE}(hl:PE X l tl):PI X tg l (r82 X.K tl):=by
 intro pins s σ H R I h
 refine thn (hl pins s σ H _ I h) λv s1 ⟨x,H1,I1,r1,q1⟩=>?_
 obtain⟨a,e,⟨xs,hq⟩,q⟩:=q1
 subst e
 cases r1
 obtain⟨its,rv,p,hz⟩:=I1.tuple hq
 refine wpAny_pyIter_tuple (show s1.heap.IsTuple a its.toArray from p) ?_
 refine⟨s1.heap.objs.size,[s1.heap.objs.size],_,_,H1,rfl,I1.kept (t':=s1.toks) λb o e=>Heap.get?_push_of_some _ e,V50 a _,⟨_,Heap.get?_push_size _ rfl,rfl,rfl⟩,λb hb=>?_,q⟩
 have e:b=s1.heap.objs.size:=by simpa using hb
 subst e
 exact I1.Y90 (Nat.le_refl _) (I1.hok.fresh (Nat.le_refl _))
theorem P50{pins:List (Addr × Obj)}{σ:St}{H:Hp}{s:Shared}{R:It→Hp→Prop}{E:Value→Shared→Prop}{lo hi:Int}{t u v:Tok}{tk:Nat}(I:Inv X pins σ H s)(h1:-(2 ^ 62)≤lo)(h2:lo < 2 ^ 62)(h3:-(2 ^ 62)≤hi)(h4:hi < 2 ^ 62)
  (q:R (Itr lo (hi - lo).toNat) H):wpAny (model X.prog X.w) X.A (pyIter (.ref s.heap.objs.size)) (PIE X pins σ tg R) E { s with heap:=s.heap.push { cls:=.type "range",data:=.fields #[.int lo t,.int hi u,.int 1 v] },toks:=tk }:=by
 refine wpAny_pyIter_range (IsRange.new ..) (small_one h1 h2 h3 h4) ?_
 have I1:Inv X pins σ H { s with heap:=s.heap.push { cls:=.type "range",data:=.fields #[.int lo t,.int hi u,.int 1 v] },toks:=tk }:=I.kept λb o e=>Heap.get?_push_of_some _ e
 refine⟨(s.heap.push { cls:=.type "range",data:=.fields #[.int lo t,.int hi u,.int 1 v] }).objs.size,[(s.heap.push { cls:=.type "range",data:=.fields #[.int lo t,.int hi u,.int 1 v] }).objs.size],_,_,H,rfl,
  I1.kept (t':=tk) λb o e=>Heap.get?_push_of_some _ e,V60 _ lo (hi - lo).toNat,?_,λb hb=>?_,q⟩
 ·have e1:lo + ((0:Nat):Int) * 1=lo:=by simp
  have e2:(((hi - lo).toNat:Nat):Int) - ((0:Nat):Int)=Builtin.Range.rangeSize lo hi 1:=by rw[rangeSize_one];split <;> omega
  show IsRangeIter _ _ (lo + ((0:Nat):Int) * 1) ((((hi - lo).toNat:Nat):Int) - ((0:Nat):Int)) 1
  rw[e1,e2]
  exact Heap.get?_push_size _ rfl
 ·have e:b=(s.heap.push { cls:=.type "range",data:=.fields #[.int lo t,.int hi u,.int 1 v] }).objs.size:=by simpa using hb
  subst e
  exact I1.Y90 (Nat.le_refl _) (I1.hok.fresh (Nat.le_refl _))
def e22(ta:TA):TI:=λσ H R=>ta σ H λvs H1=>∃ j:Int,vs=[.int j]∧-(2 ^ 62)≤j∧j < 2 ^ 62∧R (Itr 0 j.toNat) H1
def e32(ta:TA):TI:=λσ H R=>ta σ H λvs H1=>∃ i j:Int,vs=[.int i,.int j]∧(-(2 ^ 62)≤i∧i < 2 ^ 62∧-(2 ^ 62)≤j∧j < 2 ^ 62)∧R (Itr i (j - i).toNat) H1
theorem E40{a:Expr}{ta:TA}{p pos:Pos}(hg:Gl X "range")(hm:X.mg "range"=none)(ha:PA X [a] ta)(hs:starEach [a] X.env=[(false,eval a X.env)]:=by rfl):PI X tg (.Call (.Name "range" p) [a] [] pos) (e22 ta):=by
 intro pins s σ H R I h
 refine Call_ (n50 I hg hm boot_range (PyProof.Rows.callWith_type1 (thn (ha pos pins s σ H _ I h) λus s1 ⟨vs,H1,I1,r1,q1⟩=>?_) hs rfl))
 obtain⟨j,e,q1,q2,q⟩:=q1
 subst e
 cases r1 with
 |cons r rr =>
  cases rr
  obtain⟨t,rfl⟩:=r
  exact call_range_1 (P50 I1 (by omega) (by omega) q1 q2 (by simpa using q))
theorem a31{a b:Expr}{ta:TA}{p pos:Pos}(hg:Gl X "range")(hm:X.mg "range"=none)(ha:PA X [a,b] ta)(hs:starEach [a,b] X.env=[(false,eval a X.env),(false,eval b X.env)]:=by rfl)(hs2:starEach [b] X.env=[(false,eval b X.env)]:=by rfl) :
  PI X tg (.Call (.Name "range" p) [a,b] [] pos) (e32 ta):=by
 intro pins s σ H R I h
 refine Call_ (n50 I hg hm boot_range (PyProof.Rows.callWith_type1 (thn (ha pos pins s σ H _ I h) λus s1 ⟨vs,H1,I1,r1,q1⟩=>?_) (by rw[hs,hs2]) (by rw[hs2];rfl)))
 obtain⟨i,j,e,⟨q1,q2,q3,q4⟩,q⟩:=q1
 subst e
 cases r1 with
 |cons r rr =>
  cases rr with
  |cons r' rr =>
   cases rr
   obtain⟨t,rfl⟩:=r
   obtain⟨t',rfl⟩:=r'
   exact call_range_2 (P50 I1 q1 q2 q3 q4 q)
def r92(wi:TI)(g:TG)(tb:TS):TS:=λD σ H=>wi σ H λJ H1=>∃ W:Nat→Nat→St→Hp→Prop,(∃ m,W 0 m σ H1)∧∀ i m σ H,W i m σ H →
 (J.stop i H∧D.nx σ H)∨(J.go i H∧∃ N:St→Hp→Prop,(∀ σ' H',N σ' H'→∃ m',m' < m∧W (i + 1) m' σ' H')∧∀ x H',J.yld i H x H'→g x σ H' λσ2 H2=>tb { D with nx:=N,ct:=N,bk:=D.nx } σ2 H2)
def t40(fp:List Addr)(h:Heap):List (Addr × Obj):=fp.filterMap λb=>(h.get? b).map λo=>(b,o)
theorem i00{fp:List Addr}{h:Heap}{b:Addr}{o:Obj}(hb:b∈fp)(e:h.get? b=some o):(b,o)∈t40 fp h:=List.mem_filterMap.mpr ⟨b,hb,by rw[e];rfl⟩
theorem E50{fp:List Addr}{h:Heap}{p:Addr × Obj}(hp:p∈t40 fp h):p.1∈fp∧h.get? p.1=some p.2:=by
 obtain⟨b,hb,e⟩:=List.mem_filterMap.mp hp
 cases q:h.get? b with
 |none=>rw[q] at e;cases e
 |some o =>
  rw[q] at e
  have e':(b,o)=p:=Option.some.inj e
  subst e'
  exact⟨hb,q⟩
theorem Inv.pinned{pins:List (Addr × Obj)}{σ:St}{H:Hp}{s:Shared}{fp:List Addr}(I:Inv X pins σ H s)(hf:∀ b∈fp,K40 X pins H b)(ho:∀ b∈fp,∃ o,s.heap.get? b=some o∧∀ v,o.data≠.cell v):Inv X (pins++t40 fp s.heap) σ H s :=
 I.t10 λp hp=>(List.mem_append.mp hp).elim (λz=>I.pin p (mem_append_right _ z)) λz=>by
  obtain⟨hb,e⟩:=E50 z
  obtain⟨f0,f1,f2,_⟩:=hf p.1 hb
  obtain⟨o,e',d⟩:=ho p.1 hb
  rw[e] at e';cases e'
  exact⟨e,f0,f1,f2,d⟩
theorem Inv.z60{pins pl:List (Addr × Obj)}{σ:St}{H:Hp}{s:Shared}(I:Inv X (pins++pl) σ H s):Inv X pins σ H s:=I.t10 λp hp=>I.pin p (mem_append_right _ (mem_append_left _ hp))
theorem y31{iter:Expr}{body:List Stmt}{wi:TI}{g:TG}{tb:TS}{pos:Pos}(hp:PassesOwn (model X.prog X.w) X.A X.env X.xe)(hc:X.calm=true)(hi:PI X tg iter wi)(hg:PG X tg g)(hb:PSs X body tb)
  (hs:∀ x,foldedSetIterable iter X.env x=pure x:=by intro _;rfl):PS X (.For tg iter body [] pos) (r92 wi g tb):=by
 intro pins s σ H D I h
 refine wpAny_For (thn (hi pins s σ H _ I h) λv s1 h1=>thn h1 λitv s2 h2=>?_) hs
 obtain⟨it,fp,tn,J,H2,e,I2,T,st2,f2,W,⟨m0,w0⟩,turn⟩:=h2
 subst e
 have stat:∀ {H':Hp},(∀ b∈fp,H' b=none)→∀ b∈fp,K40 X pins H' b:=λhn b hb=>⟨hn b hb,(f2 b hb).2⟩
 refine codeAny_forLoop_any (λn s'=>∃ i σ' H',Inv X pins σ' H' s'∧tn i s'.heap∧(∀ b∈fp,H' b=none)∧W i n σ' H') ?_ m0 ⟨0,σ,H2,I2,st2,λb hb=>(f2 b hb).1,w0⟩
 rintro n s3 ⟨i,σ3,H3,I3,st3,fr3,w3⟩
 rcases turn i n σ3 H3 w3 with ⟨stop,qn⟩ | ⟨go,N,hN,step⟩
 ·refine wpAny_passesOwn hp (thn (T.done X rfl rfl rfl hc i pins s3 σ3 H3 X.xe I3 (stat fr3) st3 stop) λr s4 ⟨hr,I4⟩=>?_)
  subst hr
  exact wpAny_execs_nil ⟨σ3,H3,I4,qn⟩
 ·refine wpAny_passesOwn hp (thn (T.item X rfl rfl rfl hc i pins s3 σ3 H3 X.xe I3 (stat fr3) st3 go) λr s4 ⟨u,hr,h4⟩=>?_)
  subst hr
  refine wpAny_passesOwn hp (thn h4 λ_ s5 ⟨x,H5,I5,r5,y5,st5,fr5⟩=>?_)
  have I5':=I5.pinned (stat fr5) (T.obj _ _ st5)
  refine wpAny_passesOwn hp (thn (hg _ s5 σ3 H5 x u _ I5' r5 (step x H5 y5)) λ_ s6 ⟨σ6,H6,I6,q6⟩=>?_)
  refine wpAny_passesOwn hp (thn (hb _ s6 σ6 H6 _ I6 q6) λf s7 q7=>?_)
  have again:∀ {σ7:St}{H7:Hp},Inv X (pins++t40 fp s5.heap) σ7 H7 s7→N σ7 H7→∃ m,m < n∧∃ i σ' H',Inv X pins σ' H' s7∧tn i s7.heap∧(∀ b∈fp,H' b=none)∧W i m σ' H':=λ{σ7 H7} I7 n7=>by
   obtain⟨m',hm,w7⟩:=hN σ7 H7 n7
   refine⟨m',hm,i + 1,σ7,H7,I7.z60,T.keep _ _ _ st5 λb hb o e=>(I7.pin (b,o) (mem_append_right _ (mem_append_right _ (i00 hb e)))).1,λb hb=>?_,w7⟩
   obtain⟨o,e,d⟩:=T.obj _ _ st5 b hb
   exact(I7.pin (b,o) (mem_append_right _ (mem_append_right _ (i00 hb e)))).2.1
  cases f with
  |next=>obtain⟨σ7,H7,I7,n7⟩:=q7;exact again I7 n7
  |cont=>obtain⟨σ7,H7,I7,n7⟩:=q7;exact again I7 n7
  |brk=>obtain⟨σ7,H7,I7,q7⟩:=q7;exact⟨σ7,H7,I7.z60,q7⟩
  |ret v=>obtain⟨x7,σ7,H7,I7,r7,q7⟩:=q7;exact⟨x7,σ7,H7,I7.z60,r7,q7⟩
end
abbrev R2:=V→V→Hp→VK→Prop
def OpR(X:Cx)(f:Value→Value→Sem Value)(r:R2):Prop :=
 ∀ (pins:List (Addr × Obj)) (s:Shared) (σ:St) (H:Hp) (x y:V) (v u:Value) (Q:VK),Inv X pins σ H s→RelV x v→RelV y u→r x y H Q →
  wpAny (model X.prog X.w) X.A (f v u) (EP X pins σ Q) X.xe s
def UnR(X:Cx)(f:Value→Sem Value)(r:V→Hp→VK→Prop):Prop :=
 ∀ (pins:List (Addr × Obj)) (s:Shared) (σ:St) (H:Hp) (x:V) (v:Value) (Q:VK),Inv X pins σ H s→RelV x v→r x H Q →
  wpAny (model X.prog X.w) X.A (f v) (EP X pins σ Q) X.xe s
def e40(X:Cx)(f:Value)(r:List V→Hp→VK→Prop):Prop :=
 ∀ (pins:List (Addr × Obj)) (s:Shared) (σ:St) (H:Hp) (xs:List V) (us:List Value) (Q:VK),Inv X pins σ H s→Vals xs us→r xs H Q →
  wpAny (model X.prog X.w) X.A (call f us) (EP X pins σ Q) X.xe s
def tOp(r:R2)(ta tb:TE):TE:=λσ H Q=>ta σ H λx H1=>tb σ H1 λy H2=>r x y H2 Q
def tUn(r:V→Hp→VK→Prop)(ta:TE):TE:=λσ H Q=>ta σ H λx H1=>r x H1 Q
def rI(C:Int→Int→Prop)(g:Int→Int→V):R2:=λx y H Q=>∃ i j,x=.int i∧y=.int j∧C i j∧Q (g i j) H
def rI0(g:Int→Int→V):R2:=λx y H Q=>∃ i j,x=.int i∧y=.int j∧Q (g i j) H
def rU(g:Int→V):V→Hp→VK→Prop:=λx H Q=>∃ i,x=.int i∧Q (g i) H
section
variable {X:Cx}{a b c:Expr}{ta tb tc:TE}{pos:Pos}
theorem e42(ha:PE X a ta)(hb:PE X b tb){pins:List (Addr × Obj)}{s:Shared}{σ:St}{H:Hp}{R:V→V→Hp→Prop}(I:Inv X pins σ H s)
  (h:ta σ H λx H1=>tb σ H1 λy H2=>R x y H2) {Q:Value→Shared→Prop}{f:Value→Value→Sem Value}
  (hf:∀ v u s2 x y H2,Inv X pins σ H2 s2→RelV x v→RelV y u→R x y H2→wpAny (model X.prog X.w) X.A (f v u) Q X.xe s2) :
  wpAny (model X.prog X.w) X.A (eval a X.env) (λv s₁=>wpAny (model X.prog X.w) X.A (eval b X.env) (λu s₂=>wpAny (model X.prog X.w) X.A (f v u) Q X.xe s₂) X.xe s₁) X.xe s:=by
 refine thn (ha pins s σ H _ I h) λv s1 ⟨x,H1,I1,r1,q1⟩=>?_
 refine thn (hb pins s1 σ H1 _ I1 q1) λu s2 ⟨y,H2,I2,r2,q2⟩=>?_
 exact hf v u s2 x y H2 I2 r1 r2 q2
theorem p91{op:Operator}{r:R2}(ho:OpR X (binaryOp op) r)(ha:PE X a ta)(hb:PE X b tb):PE X (.BinOp a op b pos) (tOp r ta tb):=by
 intro pins s σ H Q I h
 exact wpAny_BinOp (e42 ha hb I h λv u s2 x y H2 I2 rx ry q=>ho pins s2 σ H2 x y v u Q I2 rx ry q)
theorem e52{op:UnaryOp}{r:V→Hp→VK→Prop}(ho:UnR X (unaryOp op) r)(ha:PE X a ta):PE X (.UnaryOp op a pos) (tUn r ta):=by
 intro pins s σ H Q I h
 exact UnaryOp_ (thn (ha pins s σ H _ I h) λv s1 ⟨x,H1,I1,r1,q1⟩=>ho pins s1 σ H1 x v Q I1 r1 q1)
theorem opI{f:Value→Value→Sem Value}{C:Int→Int→Prop}{g:Int→Int→Int}
  (rule:∀ (i j:Int) (t u:Tok) (s:Shared) (Q:Value→Shared→Prop) (E:Value→Shared→Prop),C i j→Q (.int (g i j) s.toks) { s with toks:=s.toks + 1 }→wpAny (model X.prog X.w) X.A (f (.int i t) (.int j u)) Q E s) :
  OpR X f (rI C λi j=>.int (g i j)):=by
 intro pins s σ H x y v u Q I rx ry h
 obtain⟨i,j,rfl,rfl,hc,q⟩:=h
 obtain⟨t,rfl⟩:=rx
 obtain⟨t',rfl⟩:=ry
 exact rule i j t t' s _ _ hc ⟨.int (g i j),H,I.tok _,⟨_,rfl⟩,q⟩
theorem e62{f:Value→Value→Sem Value}{g:Int→Int→Int}
  (rule:∀ (i j:Int) (t u:Tok) (s:Shared) (Q:Value→Shared→Prop) (E:Value→Shared→Prop),Q (.int (g i j) s.toks) { s with toks:=s.toks + 1 }→wpAny (model X.prog X.w) X.A (f (.int i t) (.int j u)) Q E s) :
  OpR X f (rI0 λi j=>.int (g i j)):=by
 intro pins s σ H x y v u Q I rx ry h
 obtain⟨i,j,rfl,rfl,q⟩:=h
 obtain⟨t,rfl⟩:=rx
 obtain⟨t',rfl⟩:=ry
 exact rule i j t t' s _ _ ⟨.int (g i j),H,I.tok _,⟨_,rfl⟩,q⟩
theorem e72{f:Value→Value→Sem Value}{g:Int→Int→Bool}
  (rule:∀ (i j:Int) (t u:Tok) (s:Shared) (Q:Value→Shared→Prop) (E:Value→Shared→Prop),Q (.bool (g i j)) s→wpAny (model X.prog X.w) X.A (f (.int i t) (.int j u)) Q E s) :
  OpR X f (rI0 λi j=>.bl (g i j)):=by
 intro pins s σ H x y v u Q I rx ry h
 obtain⟨i,j,rfl,rfl,q⟩:=h
 obtain⟨t,rfl⟩:=rx
 obtain⟨t',rfl⟩:=ry
 exact rule i j t t' s _ _ ⟨.bl (g i j),H,I,rfl,q⟩
def o32(i j:Int):Prop:=0≤j∧j≤1000000∧i.natAbs < 2 ^ 64
theorem O31:OpR X (binaryOp .Add) (rI0 λi j=>.int (i + j)):=e62 λ_ _ _ _ _ _ _ q=>add_int q
theorem O41:OpR X (binaryOp .Sub) (rI0 λi j=>.int (i - j)):=e62 λ_ _ _ _ _ _ _ q=>sub_int q
theorem O51:OpR X (binaryOp .Mod) (rI (λ_ j=>0 < j) λi j=>.int (i % j)):=opI λi j _ _ _ _ _ hc q=>by
 have h1:(0:Int) < j:=hc
 exact mod_int' (by omega) (by rw[Int.fmod_eq_emod_of_nonneg i (by omega)];exact q)
theorem O61:OpR X (binaryOp .Pow) (rI o32 λi j=>.int (i ^ j.toNat)):=opI λ_ _ _ _ _ _ _ hc q=>pow_int_small hc.1 hc.2.1 hc.2.2 q
theorem o42:OpR X (binaryOp .LShift) (rI o32 λi j=>.int (i * 2 ^ j.toNat)):=opI λ_ _ _ _ _ _ _ hc q=>lshift_int_small hc.1 hc.2.1 hc.2.2 q
theorem o52:OpR X (binaryOp .BitAnd) (rI0 λi j=>.int (Builtin.bitAnd i j)):=e62 λ_ _ _ _ _ _ _ q=>and_int q
theorem unI{f:Value→Sem Value}{g:Int→Int}
  (rule:∀ (i:Int) (t:Tok) (s:Shared) (Q:Value→Shared→Prop) (E:Value→Shared→Prop),Q (.int (g i) s.toks) { s with toks:=s.toks + 1 }→wpAny (model X.prog X.w) X.A (f (.int i t)) Q E s) :
  UnR X f (rU λi=>.int (g i)):=by
 intro pins s σ H x v Q I rx h
 obtain⟨i,rfl,q⟩:=h
 obtain⟨t,rfl⟩:=rx
 exact rule i t s _ _ ⟨.int (g i),H,I.tok _,⟨_,rfl⟩,q⟩
theorem O71:UnR X (unaryOp .USub) (rU λi=>.int (-i)):=unI λ_ _ _ _ _ q=>neg_int q
theorem P60{pins:List (Addr × Obj)}{σ:St}{H:Hp}{s:Shared}{Q:VK}{k k':Bool}(I:Inv X pins σ H s)(q:Q (.bl k) H)(e:k=k'):EP X pins σ Q (.bool k') s:=by
 subst e
 exact⟨.bl k,H,I,rfl,q⟩
theorem e82:OpR X (compareOp .LtE) (rI0 λi j=>.bl (decide (i≤j))):=e72 λ_ _ _ _ _ _ _ q=>le_int q
theorem e92:OpR X (compareOp .Gt) (rI0 λi j=>.bl (decide (j < i))):=e72 λ_ _ _ _ _ _ _ q=>gt_int q
theorem f02:OpR X (compareOp .GtE) (rI0 λi j=>.bl (decide (j≤i))):=e72 λ_ _ _ _ _ _ _ q=>ge_int q
theorem O81:OpR X (compareOp .Is) (λx y H Q=>y=.non∧Q (.bl (decide (x=.non))) H):=by
 intro pins s σ H x y v u Q I rx ry h
 obtain⟨rfl,q⟩:=h
 cases ry
 refine is_none_gen (P60 I q ?_)
 cases x <;> first
  |(cases rx;rfl)
  |(obtain⟨t,rfl⟩:=rx;rfl)
theorem f12:OpR X (compareOp .IsNot) (λx y H Q=>y=.non∧Q (.bl (!decide (x=.non))) H):=by
 intro pins s σ H x y v u Q I rx ry h
 obtain⟨rfl,q⟩:=h
 cases ry
 refine isnot_none_gen (P60 I q ?_)
 cases x <;> first
  |(cases rx;rfl)
  |(obtain⟨t,rfl⟩:=rx;rfl)
theorem C31{op:CmpOp}{r:R2}(ho:OpR X (compareOp op) r)(ha:PE X a ta)(hb:PE X b tb)(hm:behindInMarks op b=false):PE X (.Compare a [op] [b] pos) (tOp r ta tb):=by
 intro pins s σ H Q I h
 exact wpAny_Compare1 (e42 ha hb I h λv u s2 x y H2 I2 rx ry q=>ho pins s2 σ H2 x y v u Q I2 rx ry q) hm
def O91(t:TE):TT:=λσ H Q=>t σ H λx H'=>∃ k,x=.bl k∧Q k H'
theorem a41{op:CmpOp}{r:R2}(ho:OpR X (compareOp op) r)(ha:PE X a ta)(hb:PE X b tb)(hm:behindInMarks op b=false):PT X (.Compare a [op] [b] pos) (O91 (tOp r ta tb)):=by
 intro pins s σ H Q I h
 refine wpAny_isTrue_Compare1 (thn (ha pins s σ H _ I h) λv s1 ⟨x,H1,I1,r1,q1⟩=>thn (hb pins s1 σ H1 _ I1 q1) λu s2 ⟨y,H2,I2,r2,q2⟩ =>
  thn (ho pins s2 σ H2 x y v u _ I2 r1 r2 q2) λc s3 ⟨z,H3,I3,r3,k,e,q3⟩=>?_) hm
 subst e
 cases r3
 exact wpAny_truthy_bool ⟨H3,I3,q3⟩
def a51(r r':R2)(ta tb tc:TE):TE:=λσ H Q=>ta σ H λx H1=>tb σ H1 λy H2=>r x y H2 λz H3=>∃ k,z=.bl k ∧
 (if k=true then tc σ H3 λw' H4=>r' y w' H4 Q else Q (.bl false) H3)
theorem q01{op op':CmpOp}{r r':R2}(ho:OpR X (compareOp op) r)(ho':OpR X (compareOp op') r')(ha:PE X a ta)(hb:PE X b tb)(hc:PE X c tc)
  (hm:lastMarks [op,op'] [b,c]=false:=by with_unfolding_all rfl):PE X (.Compare a [op,op'] [b,c] pos) (a51 r r' ta tb tc):=by
 intro pins s σ H Q I h
 refine Compare_chain (thn (ha pins s σ H _ I h) λv s1 ⟨x,H1,I1,r1,q1⟩=>chain_link (thn (hb pins s1 σ H1 _ I1 q1) λu s2 ⟨y,H2,I2,r2,q2⟩ =>
  thn (ho pins s2 σ H2 x y v u _ I2 r1 r2 q2) λd s3 ⟨z,H3,I3,r3,k,e,q3⟩=>?_)) hm
 subst e
 cases r3
 refine wpAny_truthy_bool ?_
 cases k with
 |false=>exact ite_ff ⟨.bl false,H3,I3,rfl,q3⟩
 |true=>exact ite_tt (chain_last (thn (hc pins s3 σ H3 _ I3 q3) λw' s4 ⟨z',H4,I4,r4,q4⟩=>ho' pins s4 σ H4 y z' u w' Q I4 r2 r4 q4))
theorem q11{op op':CmpOp}{r r':R2}(ho:OpR X (compareOp op) r)(ho':OpR X (compareOp op') r')(ha:PE X a ta)(hb:PE X b tb)(hc:PE X c tc)
  (hm:lastMarks [op,op'] [b,c]=false:=by with_unfolding_all rfl):PT X (.Compare a [op,op'] [b,c] pos) (O91 (a51 r r' ta tb tc)):=by
 intro pins s σ H Q I h
 refine isTrue_chain (thn (ha pins s σ H _ I h) λv s1 ⟨x,H1,I1,r1,q1⟩=>test_link (thn (hb pins s1 σ H1 _ I1 q1) λu s2 ⟨y,H2,I2,r2,q2⟩ =>
  thn (ho pins s2 σ H2 x y v u _ I2 r1 r2 q2) λd s3 ⟨z,H3,I3,r3,k,e,q3⟩=>?_)) hm
 subst e
 cases r3
 refine wpAny_truthy_bool ?_
 cases k with
 |false =>
  obtain⟨k',e',q'⟩:=q3
  cases e'
  exact ite_ff ⟨H3,I3,q'⟩
 |true =>
  refine ite_tt (test_last (thn (hc pins s3 σ H3 _ I3 q3) λw' s4 ⟨z',H4,I4,r4,q4⟩=>thn (ho' pins s4 σ H4 y z' u w' _ I4 r2 r4 q4) λd' s5 ⟨z2,H5,I5,r5,k2,e2,q5⟩=>?_))
  subst e2
  cases r5
  exact wpAny_truthy_bool ⟨H5,I5,q5⟩
theorem P70:(sizeLine:Nat) < 2 ^ 63:=by rw[sizeLine_eq];decide
theorem vals1{x:V}{us:List Value}(r:Vals [x] us):∃ u,us=[u]∧RelV x u:=by
 cases r with
 |cons r1 r2=>cases r2;exact⟨_,rfl,r1⟩
theorem vals2{x y:V}{us:List Value}(r:Vals [x,y] us):∃ u w',us=[u,w']∧RelV x u∧RelV y w':=by
 cases r with
 |cons r1 r2 =>
  cases r2 with
  |cons r3 r4=>cases r4;exact⟨_,_,rfl,r1,r3⟩
theorem q21:e40 X (.builtin "abs") (λxs H Q=>∃ i,xs=[.int i]∧Q (.int (if i < 0 then -i else i)) H):=by
 intro pins s σ H xs us Q I r h
 obtain⟨i,rfl,q⟩:=h
 obtain⟨u,rfl,t,rfl⟩:=vals1 r
 exact call_abs_int λu tk=>⟨.int (if i < 0 then -i else i),H,I.tok _,⟨_,rfl⟩,q⟩
theorem a61(hc:X.calm=true):e40 X (.builtin "max") (λxs H Q=>∃ i j,xs=[.int i,.int j]∧Q (.int (if j > i then j else i)) H):=by
 intro pins s σ H xs us Q I r h
 obtain⟨i,j,rfl,q⟩:=h
 obtain⟨u,w',rfl,⟨t,rfl⟩,⟨t',rfl⟩⟩:=vals2 r
 refine max_two_ints (I.ok.hd hc) λh' tk k=>⟨_,H,I.kept k,?_,q⟩
 by_cases hj:j > i
 ·rw[if_pos hj,if_pos hj];exact⟨_,rfl⟩
 ·rw[if_neg hj,if_neg hj];exact⟨_,rfl⟩
theorem a71(hc:X.calm=true):e40 X (.builtin "min") (λxs H Q=>∃ i j,xs=[.int i,.int j]∧Q (.int (if j < i then j else i)) H):=by
 intro pins s σ H xs us Q I r h
 obtain⟨i,j,rfl,q⟩:=h
 obtain⟨u,w',rfl,⟨t,rfl⟩,⟨t',rfl⟩⟩:=vals2 r
 refine min_two_ints (I.ok.hd hc) λh' tk k=>⟨_,H,I.kept k,?_,q⟩
 by_cases hj:j < i
 ·rw[if_pos hj,if_pos hj];exact⟨_,rfl⟩
 ·rw[if_neg hj,if_neg hj];exact⟨_,rfl⟩
theorem E60:e40 X (.type "int") (λxs H Q=>(∃ i,xs=[.int i]∧Q (.int i) H)∨∃ k,xs=[.bl k]∧Q (.int (if k then 1 else 0)) H):=by
 intro pins s σ H xs us Q I r h
 rcases h with ⟨i,rfl,q⟩ | ⟨k,rfl,q⟩
 ·obtain⟨u,rfl,t,rfl⟩:=vals1 r
  exact call_int_int ⟨.int i,H,I,⟨_,rfl⟩,q⟩
 ·obtain⟨u,rfl,r1⟩:=vals1 r
  cases r1
  exact call_int_bool ⟨.int (if k then 1 else 0),H,I.tok _,⟨_,rfl⟩,q⟩
end
structure p50(k:Nat)(A:Around):Prop where
 hd:A.handled=none
 dp:A.depth + 3 * k + 5 < recursionLimit
 un:A.units + 16 * k + 200 < cLine
theorem p50.deeper{k:Nat}{A:Around}(r:p50 (k + 1) A)(env:Env):p50 k (A.deeper env) :=
 ⟨r.hd,by have:=r.dp;show A.depth + 1 + 3 * k + 5 < _;omega,by have:=r.un;show A.units + 3 + 16 * k + 200 < _;omega⟩
theorem p50.depth{k:Nat}{A:Around}(r:p50 k A):A.depth < recursionLimit:=by have:=r.dp;omega
theorem p50.units{k:Nat}{A:Around}(r:p50 k A):A.units + 64 < cLine:=by have:=r.un;omega
def o62:TA:=λ_ H Q=>Q [] H
def P01(ta:TE)(tr:TA):TA:=λσ H Q=>ta σ H λx H1=>tr σ H1 λxs H2=>Q (x::xs) H2
section
variable {X:Cx}{e:Expr}{es:List Expr}{te:TE}{t:TA}{pos:Pos}
theorem j80:PA X [] o62:=λ_ _ _ _ H Q I h=>Calls.spliced_nil ⟨[],H,I,.nil,h⟩
theorem d20(ha:PE X e te)(hr:PA X es t)(hs:starEach (e::es) X.env=(false,eval e X.env)::starEach es X.env:=by rfl):PA X (e::es) (P01 te t):=by
 intro pos pins s σ H Q I h
 rw[hs]
 show wpAny _ _ (spliced ((false,eval e X.env)::backTo pos (starEach es X.env))) _ _ s
 refine Calls.spliced_cons (thn (ha pins s σ H _ I h) λu s1 ⟨x,H1,I1,r1,q1⟩=>?_)
 exact thn (hr pos pins s1 σ H1 _ I1 q1) λus s2 ⟨xs,H2,I2,r2,q2⟩=>⟨x::xs,H2,I2,.cons r1 r2,q2⟩
def s02(t:TA):TE:=λσ H Q=>t σ H λxs H1=>xs.length≤sizeLine∧∀ p,H1 p=none→Q (.ref p) (upd H1 p (.tup xs))
def s12(t:TA):TE:=λσ H Q=>t σ H λxs H1=>xs.length≤sizeLine∧∀ p,H1 p=none→Q (.ref p) (upd H1 p (.lst xs))
theorem y41{x1}(h:PA X es t):PE X (.Tuple es x1 pos) (s02 t):=by
 intro pins s σ H Q I hq
 refine wpAny_Tuple_spliced (thn (h pos pins s σ H _ I hq) λus s1 ⟨xs,H1,I1,r,z,q⟩=>⟨by rw[← r.length];exact z,?_⟩)
 have hf:H1 s1.heap.objs.size=none:=I1.hok.fresh (Nat.le_refl _)
 refine⟨.ref s1.heap.objs.size,upd H1 s1.heap.objs.size (.tup xs),I1.laid (t':=s1.toks) (λb u e=>Heap.get?_push_of_some _ e) (Nat.le_refl _) ?_,rfl,q _ hf⟩
 exact⟨z,us,r,⟨_,Heap.get?_push_size _ rfl,rfl,_,rfl⟩⟩
theorem a81(h:PA X es t):PE X (.List es pos) (s12 t):=by
 intro pins s σ H Q I hq
 refine wpAny_List_spliced (thn (h pos pins s σ H _ I hq) λus s1 ⟨xs,H1,I1,r,z,q⟩=>⟨by rw[← r.length];exact z,?_⟩)
 have hf:H1 s1.heap.objs.size=none:=I1.hok.fresh (Nat.le_refl _)
 refine⟨.ref s1.heap.objs.size,upd H1 s1.heap.objs.size (.lst xs),I1.laid (t':=s1.toks) (λb u e=>Heap.get?_push_of_some _ e) (Nat.le_refl _) ?_,rfl,q _ hf⟩
 exact⟨z,us,0,r,Heap.get?_push_size _ rfl⟩
end
abbrev Sp:=List V→Hp→VK→XK→Prop
abbrev CXT:=List Env→Hp→Shared→XK→Value→Shared→Prop
structure C41(P:Program)(w:World)(K:PySem.W.Frag)(mg:Str→Option Value)(base:Heap)(A:Around)(outer:List Env)(s:Shared)(H:Hp):Prop where
 frames:A.frames=some outer
 mod:Mod K mg base
 bs:∀ b o,base.get? b=some o→s.heap.get? b=some o∧H b=none
 bsz:base.objs.size≤s.heap.objs.size
 V40:s.heap.FunFrames base outer
 frf:∀ b∈frs outer,H b=none
 hok:HOk P w H s.heap
 bare:AllBare s.gens
def CE(outer:List Env)(P:Program)(w:World)(H:Hp)(s:Shared)(Q:VK)(u:Value)(s':Shared):Prop :=
 ∃ v H',s'.os=s.os∧AllBare s'.gens∧Un (frs outer) [] H H' s.heap s'.heap∧HOk P w H' s'.heap∧RelV v u∧Q v H'
def CR(CX:CXT)(outer:List Env)(P:Program)(w:World)(H:Hp)(s:Shared)(Q:VK)(E:XK)(r:Result)(s':Shared):Prop :=
 match r with
 |.ok (.ret u)=>CE outer P w H s Q u s'
 |.ok _=>False
 |.error e=>CX outer H s E e s'
structure K00(P:Program)(w:World)(K:PySem.W.Frag)(mg:Str→Option Value)(base:Heap)(CX:CXT)(k:Nat)(f:Addr)(fd:FuncData)(ps:List Str)(sp:Sp):Prop where
 len:∀ vs H Q E,sp vs H Q E→vs.length=ps.length
 run:∀ (A:Around) (outer:List Env) (s:Shared) (H:Hp) (args:Args) (us:List Value) (vs:List V) (Q:VK) (E:XK),p50 k A→C41 P w K mg base A outer s H→BindsTo s fd args (ps.zip us)→Vals vs us→sp vs H Q E →
  codeAny (model P w) A (.call (.ref f) args) (CR CX outer P w H s Q E) s
section
variable {X:Cx}{pins:List (Addr × Obj)}{σ:St}{H:Hp}{s s':Shared}
theorem Inv.b62(I:Inv X pins σ H s):C41 X.prog X.w X.K X.mg X.base X.A X.stack s H :=
 ⟨I.ok.frames,I.ok.mod,I.bs,Nat.le_trans I.ok.bsz I.sz,I.stack,I.p40,I.hok,I.bare⟩
theorem Inv.after{Q:VK}{u:Value}(I:Inv X pins σ H s)(h:CE X.stack X.prog X.w H s Q u s'):EP X pins σ Q u s':=by
 obtain⟨v,H',os,bare,un,hok,r,q⟩:=h
 obtain⟨hh,g,d,t,os'⟩:=s'
 obtain rfl:os'=s.os:=os
 exact⟨v,H',I.call (h':=hh) (g':=g) (d':=d) (t':=t) (ch:=[]) un hok bare (λb z=>absurd z (by simp)),r,q⟩
end
def f22(sp:Sp)(dvs:List V)(E:XK)(t:TA):TE:=λσ H Q=>t σ H λvs H1=>sp (vs++dvs) H1 Q E
def Binds(K:PySem.W.Frag)(fd:FuncData)(ps:List Str)(ds:List Value):Prop :=
 ∀ (s:Shared) (us:List Value),K.In s.heap→(us++ds).length=ps.length→BindsTo s fd ⟨us,[]⟩ (ps.zip (us++ds))
theorem Binds.all{K:PySem.W.Frag}{fd:FuncData}{ps:List Str}(h:∀ us:List Value,us.length=ps.length→bindArgs fd ⟨us,[]⟩=pure (ps.zip us)):Binds K fd ps []:=λs us _ hl=>by
 rw[append_nil] at hl ⊢
 exact .of_eq (h us hl)
def Passes(CX:CXT)(X:Cx)(E:XK):Prop:=∀ (pins:List (Addr × Obj)) (σ:St) (H:Hp) (s:Shared) (e:Value) (s':Shared),Inv X pins σ H s→CX X.stack H s E e s'→X.xe e s'
section
variable {X:Cx}{CX:CXT}{k:Nat}{f C:Addr}{fd:FuncData}{ps:List Str}{sp:Sp}{dvs:List V}{ds:List Value}{E:XK}{x m:Str}{p pos apos:Pos}{e o:Expr}{es:List Expr}{ta:TE}{t:TA}
theorem P11{pins:List (Addr × Obj)}{σ:St}{H:Hp}{s:Shared}{Q:VK}{us:List Value}{vs:List V}(F:K00 X.prog X.w X.K X.mg X.base CX k f fd ps sp)(hr:p50 k X.A)(hb:Binds X.K fd ps ds)(hd:Vals dvs ds)(hx:Passes CX X E)
  (I:Inv X pins σ H s) (r:Vals vs us) (h:sp (vs++dvs) H Q E):wpAny (model X.prog X.w) X.A (call (.ref f) us) (EP X pins σ Q) X.xe s:=by
 have r2:Vals (vs++dvs) (us++ds):=r.append hd
 have hl:(us++ds).length=ps.length:=by rw[← r2.length];exact F.len _ _ _ _ h
 refine wpAny_call (codeAny_mono (F.run X.A X.stack s H ⟨us,[]⟩ (us++ds) (vs++dvs) Q E hr I.b62 (hb s us I.kIn hl) r2 h) λr s' hq=>?_)
 cases r with
 |error e=>exact hx pins σ H s e s' I hq
 |ok fl =>
  cases fl with
  |ret u=>exact I.after hq
  |next=>exact False.elim hq
  |brk=>exact False.elim hq
  |cont=>exact False.elim hq
theorem C51(F:K00 X.prog X.w X.K X.mg X.base CX k f fd ps sp)(hr:p50 k X.A)(hg:Gl X x)(hm:X.mg x=some (.ref f))(hk:PySem.W.keepIn X.K (.ref f)=true)(hb:Binds X.K fd ps ds)(hd:Vals dvs ds)(hx:Passes CX X E)
  (ha:PA X (e::es) t) (hdb:(x == ("__debug__":Str))=false:=by decide) (he:starEach (e::es) X.env=(false,eval e X.env)::starEach es X.env:=by rfl) (hpl:(backTo pos (starEach es X.env)).any (·.1)=false:=by rfl) :
  PE X (.Call (.Name x p) (e::es) [] pos) (f22 sp dvs E t):=by
 intro pins s σ H Q I h
 refine wpAny_Call_Name_kw (t30 I hg hm ?_ hdb)
 refine callWith_K (h₀:=X.base) I.ok.mod.kin hk (thn (ha pos pins s σ H _ I h) λus s1 ⟨vs,H1,I1,r,q⟩=>⟨I1.kIn,?_⟩) he hpl
 exact P11 F hr hb hd hx I1 r q
end
structure h40(N P:List Str)(sc:Scope):Prop where
 kind:sc.kind=.function
 co:sc.isCoroutine=false
 gen:sc.isGenerator=false
 nd:N.Nodup
 pre:N.take P.length=P
 par:∀ x∈P,sc.names.lookup x=some .local∨sc.names.lookup x=some .cell
 nofree:∀ y∈sc.names,y.2≠.free
theorem E70{kindOf:Str→Option NameKind}{x:Str}:∀ {binds:List (Str × Value)}{m:Str→Option Value},(∀ v,(x,v) ∉ binds)→bindL kindOf binds m x=m x
 |[],_,_=>rfl
 |(n,v)::r,m,h=>by
  unfold bindL
  rw[E70 λw hw=>h w (mem_cons_of_mem _ hw)]
  split
  ·have:x≠n:=by rintro rfl;exact h v mem_cons_self
   simp[this]
  ·rfl
theorem E80{kindOf:Str→Option NameKind}{x:Str}:∀ {binds:List (Str × Value)}{m:Str→Option Value},(∀ v,(x,v) ∉ binds)→bindC kindOf binds m x=m x
 |[],_,_=>rfl
 |(n,v)::r,m,h=>by
  unfold bindC
  rw[E80 λw hw=>h w (mem_cons_of_mem _ hw)]
  split
  ·rfl
  ·have:x≠n:=by rintro rfl;exact h v mem_cons_self
   simp[this]
theorem E90{kindOf:Str→Option NameKind}{x:Str}{v:Value}:∀ {P:List Str}{vs:List Value}{i:Nat}{m:Str→Option Value},P.Nodup→P[i]?=some x→vs[i]?=some v→kindOf x=some .local →
  bindL kindOf (P.zip vs) m x=some v
 |[],_,_,_,_,h,_,_=>by simp at h
 |_::_,[],_,_,_,_,h,_=>by simp at h
 |p::P,w::vs,0,m,nd,h1,h2,hk=>by
  simp at h1 h2;subst h1;subst h2
  show bindL kindOf ((p,w)::P.zip vs) m p=_
  unfold bindL
  rw[E70 λv hv=>(List.nodup_cons.mp nd).1 (of_mem_zip hv).1,if_pos hk]
  simp
 |p::P,w::vs,i + 1,m,nd,h1,h2,hk=>by
  show bindL kindOf ((p,w)::P.zip vs) m x=_
  unfold bindL
  exact E90 (i:=i) (List.nodup_cons.mp nd).2 (by simpa using h1) (by simpa using h2) hk
theorem F00{kindOf:Str→Option NameKind}{x:Str}{v:Value}:∀ {P:List Str}{vs:List Value}{i:Nat}{m:Str→Option Value},P.Nodup→P[i]?=some x→vs[i]?=some v→kindOf x≠some .local →
  bindC kindOf (P.zip vs) m x=some v
 |[],_,_,_,_,h,_,_=>by simp at h
 |_::_,[],_,_,_,_,h,_=>by simp at h
 |p::P,w::vs,0,m,nd,h1,h2,hk=>by
  simp at h1 h2;subst h1;subst h2
  show bindC kindOf ((p,w)::P.zip vs) m p=_
  unfold bindC
  rw[E80 λv hv=>(List.nodup_cons.mp nd).1 (of_mem_zip hv).1,if_neg hk]
  simp
 |p::P,w::vs,i + 1,m,nd,h1,h2,hk=>by
  show bindC kindOf ((p,w)::P.zip vs) m x=_
  unfold bindC
  exact F00 (i:=i) (List.nodup_cons.mp nd).2 (by simpa using h1) (by simpa using h2) hk
def start(N:List Str)(vs:List V):St:=vs.map some++replicate (N.length - vs.length) none
def w70(CX:CXT)(P:Program)(w:World)(K:PySem.W.Frag)(mg:Str→Option Value)(base:Heap)(N:List Str)(qual:Str)(scope:Scope)(f:Addr)(cd:Value)(A:Around)(outer:List Env)(s:Shared)(H:Hp)(E:XK):Cx where
 prog:=P
 w:=w
 K:=K
 mg:=mg
 base:=base
 A:=A.deeper (envOfC qual scope s.heap.objs.size f cd)
 N:=N
 s₀:=s
 H₀:=H
 env:=envOfC qual scope s.heap.objs.size f cd
 outer:=outer
 stack:=envOfC qual scope s.heap.objs.size f cd::outer
 ex:=[]
 calm:=true
 fn:=λ_=>true
 pn:=[]
 xe:=λe s'=>wpAny (model P w) (A.deeper (envOfC qual scope s.heap.objs.size f cd)) (leaving (envOfC qual scope s.heap.objs.size f cd) e) (λ_ s''=>CX outer H s E e s'') (λe' s''=>CX outer H s E e' s'') s'
theorem P80{sc:Scope}{n:Nat}{x:Str}(h:sc.names.lookup x=some .cell):∃ c,(cellsFrom n sc.names []).lookup x=some c:=by
 have q:=cellsFrom_some sc.names n [] (.inl h)
 exact Option.isSome_iff_exists.mp q
theorem F10{CX:CXT}{P:Program}{w:World}{K:PySem.W.Frag}{mg:Str→Option Value}{base:Heap}{N ps:List Str}{qual:Str}{scope:Scope}{f:Addr}{cd:Value}{A:Around}{outer:List Env}{s s1:Shared}{H:Hp}{E:XK}{us:List Value}{vs:List V}
  (S:h40 N ps scope) (hd:A.handled=none) (e0:C41 P w K mg base A outer s H) (hl:vs.length=ps.length) (r:Vals vs us)
  (x:InCallC s s.heap.objs.size (bindL (envOfC qual scope s.heap.objs.size f cd).kindOf (ps.zip us) λ_=>none) (cellsFrom (s.heap.objs.size + 1) scope.names []) (bindC (envOfC qual scope s.heap.objs.size f cd).kindOf (ps.zip us) λ_=>none) s1) :
  Inv (w70 CX P w K mg base N qual scope f cd A outer s H E) [] (start N vs) H s1:=by
 have hpl:ps.length≤N.length:=by have:=congrArg List.length S.pre;rw[length_take] at this;omega
 obtain⟨h1,tk,rfl,hk⟩:=x.done
 have noA:∀ b:Addr,b ∉ (w70 CX P w K mg base N qual scope f cd A outer s H E).ex:=λb z=>absurd (show b∈([]:List Addr) from z) (by simp)
 refine⟨⟨e0.mod,S.kind,rfl,rfl,Nat.le_refl _,λy z c h1 h2=>?_,λy hy=>?_,λy c _ h=>?_,λ_=>hd,Around.frames_deeper e0.frames,.inr ⟨rfl,rfl⟩,λb z=>absurd z (noA b),e0.bs,e0.bsz,λb _ _=>noA b,λb z=>absurd z (noA b),e0.V40,e0.frf⟩,
  rfl,e0.bare,Un.kept hk,⟨_,x.toInCall.ns,λi y v h1 h2 h3=>?_⟩,λy c h=>⟨_,x.cell y c h⟩,e0.hok.fresh (Nat.le_refl _),λy c h=>?_,λp hp=>absurd (show p∈([]:List (Addr × Obj)) from hp) (by simp),e0.hok.kept hk,?_⟩
 ·exact name_of_addr x.apart (PySem.mem_of_lookup h1) (PySem.mem_of_lookup h2)
 ·have hy:scope.names.lookup y=some .cell∨scope.names.lookup y=some .free:=hy
  rcases hy with hy | hy
  ·exact P80 hy
  ·exact absurd rfl (S.nofree _ (PySem.mem_of_lookup hy))
 ·exact Nat.le_of_lt (x.above y c (PySem.mem_of_lookup h))
 ·have hi:i < vs.length:=by
   unfold start at h2
   by_cases hi:i < vs.length
   ·exact hi
   ·rw[List.getElem?_append_right (by simpa using hi)] at h2
    rw[List.getElem?_replicate] at h2
    split at h2 <;> cases h2
  have ha:vs[i]?=some v:=by
   unfold start at h2
   rw[List.getElem?_append_left (by simpa using hi),List.getElem?_map] at h2
   cases e:vs[i]? with
   |none=>rw[e] at h2;cases h2
   |some a=>rw[e] at h2;cases h2;rfl
  obtain⟨u,hu,rv⟩:=r.get ha
  have hp:ps[i]?=some y:=by
   rw[← S.pre,List.getElem?_take_of_lt (by omega)];exact h1
  have ndP:ps.Nodup:=by rw[← S.pre];exact S.nd.sublist (List.take_sublist _ _)
  refine⟨u,rv,?_⟩
  rcases S.par y (mem_of_getElem? hp) with k | k
  ·exact .inl ⟨k,E90 ndP hp hu k⟩
  ·obtain⟨c,e⟩:=P80 (n:=s.heap.objs.size + 1) k
   refine .inr ⟨.inl k,c,e,?_⟩
   have q:=x.cell y c e
   rw[F00 ndP hp hu (by show scope.names.lookup y≠_;rw[k];decide)] at q
   exact q
 ·exact e0.hok.fresh (Nat.le_of_lt (x.above y c (PySem.mem_of_lookup h)))
 ·unfold start
  show _=N.length
  rw[length_append,length_map,List.length_replicate]
  omega
theorem f32{CX:CXT}{P:Program}{w:World}{K:PySem.W.Frag}{mg:Str→Option Value}{base:Heap}{k:Nat}{f:Addr}{name qual:Str}{params:Arguments}{body:List Stmt}{scope:Scope}{dV kV doc pm cdv ct oc:Value}{an od:Option Addr}
  {osl:Array (Option Value)}{N ps:List Str}{sp:Sp} (lk:K.lookup f=some ⟨oc,od,.func (fnOf name qual params body scope dV kV doc pm an cdv ct),osl⟩) (hcd:PySem.W.codeIn K cdv qual=true) (S:h40 N ps scope)
  (len:∀ vs H Q E,sp vs H Q E→vs.length=ps.length)
  (hbody:∀ (A:Around) (outer:List Env) (s:Shared) (H:Hp) (vs:List V) (Q:VK) (E:XK),p50 k (A.deeper (envOfC qual scope s.heap.objs.size f cdv))→sp vs H Q E →
   ∃ t,PSs (w70 CX P w K mg base N qual scope f cdv A outer s H E) body t∧t { nx:=λ_ H'=>Q .non H',rt:=Q } (start N vs) H) :
  K00 P w K mg base CX (k + 1) f (fnOf name qual params body scope dV kV doc pm an cdv ct) ps sp:=by
 refine⟨len,λA outer s H args us vs Q E hr e0 hb r hsp=>?_⟩
 have hl:=len _ _ _ _ hsp
 have KX:K.In s.heap:=e0.mod.kin.keeps λb o e=>(e0.bs b o e).1
 have lim:s.heap.NoLimit:=e0.mod.nolimit.keeps λb o e=>(e0.bs b o e).1
 have hkind:∀ y∈ps.zip us,scope.names.lookup y.1=some .local∨(scope.names.lookup y.1=some .cell∧((cellsFrom (s.heap.objs.size + 1) scope.names []).lookup y.1).isSome=true):=λ⟨n,v⟩ hy=>by
  rcases S.par n (of_mem_zip hy).1 with q | q
  ·exact .inl q
  ·exact .inr ⟨q,cellsFrom_some _ _ _ (.inl q)⟩
 refine codeAny_call_function hr.depth (KX _ _ lk) rfl S.co S.gen rfl (codeRec_of KX hcd) (hb _ _ _ _ ?_)
 refine wpAny_newFunctionEnv_cells S.kind hkind λenv he s1 x=>?_
 subst he
 refine⟨lim.keeps x.toInCall.keep,codeAny_func ?_⟩
 obtain⟨t,ht,hq⟩:=hbody A outer s H vs Q E (hr.deeper _) hsp
 have I:Inv (w70 CX P w K mg base N qual scope f cdv A outer s H E) [] (start N vs) H s1:=F10 S hr.hd e0 hl r x
 refine wpAny_mono (ht [] s1 (start N vs) H _ I hq) (λfl s' hs=>?_) λe s' hs=>hs
 have fin:∀ {σ':St}{H':Hp}{v:V}{u:Value},Inv (w70 CX P w K mg base N qual scope f cdv A outer s H E) [] σ' H' s'→RelV v u→Q v H'→CE outer P w H s Q u s' :=
  λ{σ' H' v u} J rv q=>⟨v,H',J.os,J.bare,J.base,J.hok,rv,q⟩
 cases fl with
 |ret u =>
  obtain⟨v,σ',H',J,rv,q⟩:=hs
  exact fin J rv q
 |next =>
  obtain⟨σ',H',J,q⟩:=hs
  exact fin (v:=V.non) (u:=Value.none) J rfl q
 |brk =>
  obtain⟨_,_,_,q⟩:=hs
  exact False.elim q
 |cont =>
  obtain⟨_,_,_,q⟩:=hs
  exact False.elim q
section
variable {X:Cx}{x:Str}{p pos:Pos}{e:Expr}{es:List Expr}{t:TA}{id T:String}{r:List V→Hp→VK→Prop}
def tCB(r:List V→Hp→VK→Prop)(t:TA):TE:=λσ H Q=>t σ H λvs H1=>r vs H1 Q
theorem s50(hc:e40 X (.builtin id) r)(hg:Gl X x)(hm:X.mg x=none)(hv:bootBuiltins x=some (.builtin id))(ha:PA X (e::es) t)(hn:x≠"__name__":=by decide)(hdb:(x == ("__debug__":Str))=false:=by decide)
  (he:starEach (e::es) X.env=(false,eval e X.env)::starEach es X.env:=by rfl) (hpl:(backTo pos (starEach es X.env)).any (·.1)=false:=by rfl):PE X (.Call (.Name x p) (e::es) [] pos) (tCB r t):=by
 intro pins s σ H Q I h
 refine wpAny_Call_Name_kw (n50 I hg hm hv ?_ hn hdb)
 exact PyProof.Rows.callWith_builtin1 (thn (ha pos pins s σ H _ I h) λus s1 ⟨vs,H1,I1,r1,q1⟩=>hc pins s1 σ H1 vs us Q I1 r1 q1) he hpl
theorem a91(hc:e40 X (.type T) r)(hg:Gl X x)(hm:X.mg x=none)(hv:bootBuiltins x=some (.type T))(ha:PA X (e::es) t)(hn:x≠"__name__":=by decide)(hdb:(x == ("__debug__":Str))=false:=by decide)
  (he:starEach (e::es) X.env=(false,eval e X.env)::starEach es X.env:=by rfl) (hpl:(backTo pos (starEach es X.env)).any (·.1)=false:=by rfl):PE X (.Call (.Name x p) (e::es) [] pos) (tCB r t):=by
 intro pins s σ H Q I h
 refine wpAny_Call_Name_kw (n50 I hg hm hv ?_ hn hdb)
 exact PyProof.Rows.callWith_type1 (thn (ha pos pins s σ H _ I h) λus s1 ⟨vs,H1,I1,r1,q1⟩=>hc pins s1 σ H1 vs us Q I1 r1 q1) he hpl
end
end L2
namespace HT
open PySem PyProof.Rows
theorem q31(A:Around)(s:Shared)(a:Int)(t:Tok)(c:Int)(u:Tok):∃ e,SeqAt.EqAt A s (.int a t) (.int c u) e∧(e=true↔a=c) :=
 ⟨(a == c),SeqAt.EqAt.int_int a t c u,by simp⟩
theorem P90(A:Around)(s:Shared)(a:Int)(t:Tok)(c:Int)(u:Tok)(prog:Program)(w:World)(E:Value→Shared→Prop)(Q:Value→Shared→Prop)(h:Q (.bool (decide (a < c))) s) :
  wpAny (model prog w) A (richCompare .Lt (.int a t) (.int c u)) Q E s :=
 (lt_int h:wpAny (model prog w) A (compareOp .Lt (.int a t) (.int c u)) Q E s)
section
variable {prog:Program}{w:World}{A:Around}{E:Value→Shared→Prop}{s:Shared}
theorem C61{t b:Addr}{vs ws:List Value}{Q:Value→Shared→Prop}(ht:IsTup s.heap t vs.toArray)(hb:IsTup s.heap b ws.toArray)(hv:vs≠[])
  (h1:ws=[]→Q (.ref t) s) (h2:ws≠[]→Q (.ref s.heap.objs.size) { s with heap:=s.heap.push { cls:=.type "tuple",data:=.seq (vs++ws).toArray } })
  (hsz:vs.length + ws.length≤sizeLine):wpAny (model prog w) A (binaryOp .Add (.ref t) (.ref b)) Q E s:=by
 obtain⟨⟨cls,dd,data,sl⟩,ho,hc,n,hd⟩:=id ht
 obtain⟨⟨cls2,dd2,data2,sl2⟩,ho2,hc2,n2,hd2⟩:=id hb
 simp only at hc hd hc2 hd2
 subst hc hd hc2 hd2
 have e:vs.toArray++ws.toArray=(vs++ws).toArray:=by simp
 by_cases hw:ws=[]
 ·exact concat_meets ⟨_,ho,rfl⟩ ⟨_,ho2,rfl⟩ noFill_tuple_add seq_tuple_add PySem.F.slot_tuple_add PySem.F.entry_tuple_add (PySem.F.args_tuple_add_2 _ _)
   (tuple_addW1 t b vs.toArray ws.toArray n n2 dd dd2 sl sl2 (by simpa using hv) (by simp[hw])) ⟨ho,ho2,h1 hw⟩
 ·refine concat_meets ⟨_,ho,rfl⟩ ⟨_,ho2,rfl⟩ noFill_tuple_add seq_tuple_add PySem.F.slot_tuple_add PySem.F.entry_tuple_add (PySem.F.args_tuple_add_2 _ _)
   (tuple_addW2 t b vs.toArray ws.toArray n n2 dd dd2 sl sl2 (by simpa using hv) (by simpa using hw) (by rw[size_toArray,size_toArray];exact hsz)) ⟨ho,ho2,?_⟩
  rw[e]
  exact h2 hw
def sIx(n d:Nat):Option Int→Nat
 |none=>d
 |some v=>if v < 0 then(v + (n:Int)).toNat else min v.toNat n
theorem b01(n d k:Nat):sIx n d (some (k:Int))=min k n:=by
 show(if (k:Int) < 0 then((k:Int) + (n:Int)).toNat else min (k:Int).toNat n)=min k n
 rw[if_neg (by omega),toNat_natCast]
theorem P21(n d:Nat)(hd:d≤n)(o:Option Int):sIx n d o≤n:=by
 cases o with
 |none=>exact hd
 |some v =>
  show(if v < 0 then(v + (n:Int)).toNat else min v.toNat n)≤n
  by_cases hv:v < 0
  ·rw[if_pos hv];omega
  ·rw[if_neg hv];exact Nat.min_le_right _ _
theorem b11(v:Int)(n d:Nat):(if v < 0 then max (v + (n:Int)) 0 else min v (n:Int))=((sIx n d (some v):Nat):Int):=by
 show(if v < 0 then max (v + (n:Int)) 0 else min v (n:Int))=(((if v < 0 then(v + (n:Int)).toNat else min v.toNat n):Nat):Int)
 by_cases hv:v < 0
 ·simp only[if_pos hv];omega
 ·simp only[if_neg hv];omega
theorem V70(lo hi:Option Int)(n:Nat):sliceAdjust lo hi 1 (n:Int)=(((sIx n 0 lo:Nat):Int),((sIx n n hi:Nat):Int)):=by
 have h1:¬ ((1:Int) < 0):=by omega
 unfold sliceAdjust
 simp only[h1,if_false]
 refine Prod.ext ?_ ?_
 ·cases lo with
  |none=>rfl
  |some v=>exact b11 v n 0
 ·cases hi with
  |none=>rfl
  |some v=>exact b11 v n n
theorem V80(i j:Nat):slicePlaces (i:Int) (j:Int) 1=j - i:=by
 unfold slicePlaces
 have h1:(1:Int) > 0:=by omega
 simp only[h1,if_true,Int.ediv_one]
 split <;> omega
theorem x10{v:Value}{o:Option Int}{Q:Option Int→Shared→Prop}(p:IsPart v o)(h:Q o s):wpAny (model prog w) A (Builtin.Slice.slicePartIndex v) Q E s:=by
 cases p with
 |none=>exact slicePart_none h
 |int i t=>exact slicePart_int h
theorem j00{sl:Addr}{vl vu:Value}{lo hi:Option Int}{n:Nat}{Q:Int × Int × Nat→Shared→Prop}(hs:s.heap.IsSliceOf sl vl vu .none)(pl:IsPart vl lo)(pu:IsPart vu hi)
  (h:Q (((sIx n 0 lo:Nat):Int),1,sIx n n hi - sIx n 0 lo) s):wpAny (model prog w) A (sliceApplied (.ref sl) (pure (n:Int))) Q E s:=by
 obtain⟨os,hos,hcs,hds⟩:=id hs
 unfold sliceApplied sliceFields
 refine wpAny_bind (wpAny_bind (wpAny_field hos hds (x:=vl) rfl (wpAny_bind (wpAny_field hos hds (x:=vu) rfl (wpAny_bind (wpAny_field hos hds (x:=.none) rfl (wpAny_pure ?_)))))))
 refine wpAny_bind (slicePart_none ?_)
 show wpAny _ _ (if ((1:Int) == 0)=true then _ else _) _ _ s
 rw[if_neg (by decide)]
 refine wpAny_bind (x10 pl (wpAny_bind (x10 pu (wpAny_bind (wpAny_pure ?_)))))
 show wpAny _ _ (match sliceAdjust lo hi 1 (n:Int) with | (lo,hi)=>pure (lo,(1:Int),slicePlaces lo hi 1)) _ _ s
 rw[V70 lo hi n]
 show wpAny _ _ (pure (((sIx n 0 lo:Nat):Int),(1:Int),slicePlaces ((sIx n 0 lo:Nat):Int) ((sIx n n hi:Nat):Int) 1)) _ _ s
 rw[V80]
 exact wpAny_pure h
theorem q41(xs:Array Value)(i k:Nat):((range k).filterMap λ(m:Nat)=>xs[((i:Int) + (m:Int) * 1).toNat]?).toArray=((xs.toList.drop i).take k).toArray:=by
 have e:(λ(m:Nat)=>xs[((i:Int) + (m:Int) * 1).toNat]?)=λm=>xs[i + m]?:=by
  funext m
  have:((i:Int) + (m:Int) * 1).toNat=i + m:=by omega
  rw[this]
 rw[e]
 have:=pick_run xs i k
 rw[List.filterMap_map] at this
 have e2:((λx=>xs[x]?) ∘ λx=>i + x)=λm=>xs[i + m]?:=rfl
 rw[e2] at this
 rw[this]
theorem p60{t sl:Addr}{items:Array Value}{vl vu:Value}{lo hi:Option Int}{Q:Value→Shared→Prop}(ht:IsTup s.heap t items)(hs:s.heap.IsSliceOf sl vl vu .none)(pl:IsPart vl lo)(pu:IsPart vu hi)
  (hw:¬ (sIx items.size 0 lo=0∧sIx items.size items.size hi=items.size))
  (h:Q (.ref s.heap.objs.size) { s with heap:=s.heap.push { cls:=.type "tuple",data:=.seq ((items.toList.drop (sIx items.size 0 lo)).take (sIx items.size items.size hi - sIx items.size 0 lo)).toArray } })
  (hsz:items.size≤sizeLine):wpAny (model prog w) A (getItem (.ref t) (.ref sl)) Q E s:=by
 have htake:sizeOk (.seq ((items.toList.drop (sIx items.size 0 lo)).take (sIx items.size items.size hi - sIx items.size 0 lo)).toArray):=by
  show((items.toList.drop (sIx items.size 0 lo)).take (sIx items.size items.size hi - sIx items.size 0 lo)).toArray.size≤sizeLine
  rw[size_toArray,length_take,length_drop,length_toList]
  omega
 have hj:sIx items.size items.size hi≤items.size:=P21 _ _ (Nat.le_refl _) hi
 obtain⟨os,hos,hcs,hds⟩:=id hs
 have hTs:s.TypeIs (.ref sl) "slice":=⟨os,hos,hcs⟩
 unfold getItem
 try with_reducible refine wpAny_holding ?_
 first | refine wpAny_bind (wpAny_pure ?_) | skip
 refine wpAny_bind (wpAny_sequenceKey ht.typeIs (by decide) ?_)
 refine wpAny_bind (wpAny_callSpecial?_slot (name:=Str.ofString "__getitem__") ht.typeIs PyProof.Rows.slot_tuple_getitem
  (wpAny_call_entry PyProof.Rows.slot_tuple_getitem ht.typeIs entry_tuple_getitem ?_ (args_tuple_getitem _ _)))
 show wpAny _ _ (tupleItemsOf (.ref t) >>= _) _ _ s
 refine wpAny_bind (tupleItemsOf_ ht ?_)
 refine wpAny_bind (wpAny_typeOf hTs ?_)
 rw[if_pos (by decide)]
 refine wpAny_bind (j00 hs pl pu ?_)
 have hno:¬ ((((sIx items.size 0 lo:Nat):Int) == 0&&(1:Int) == 1&&(sIx items.size items.size hi - sIx items.size 0 lo) == items.size)=true):=by
  intro q
  rw[and_eq_true,and_eq_true] at q
  have q1:((sIx items.size 0 lo:Nat):Int)=0:=eq_of_beq q.1.1
  have q2:sIx items.size items.size hi - sIx items.size 0 lo=items.size:=eq_of_beq q.2
  exact hw ⟨by omega,by omega⟩
 show wpAny _ _ (if (((sIx items.size 0 lo:Nat):Int) == 0&&(1:Int) == 1&&(sIx items.size items.size hi - sIx items.size 0 lo) == items.size)=true then _ else _) _ _ s
 rw[if_neg hno,q41]
 first
  |exact wpAny_bind (m:=tupleExact _) (wpAny_newObj_type (wpAny_pure ⟨_,rfl,wpAny_pure h⟩) htake)
  |exact wpAny_bind (m:=tupleExact _) (wpAny_newObj_type (wpAny_bind (wpAny_pure (wpAny_pure ⟨_,rfl,wpAny_pure h⟩))) htake)
  |exact wpAny_bind (wpAny_bind (m:=tupleExact _) (wpAny_newObj_type (wpAny_pure (wpAny_pure ⟨_,rfl,wpAny_pure h⟩)) htake))
  |exact wpAny_bind (wpAny_bind (m:=tupleExact _) (wpAny_newObj_type (wpAny_pure ⟨_,rfl,wpAny_pure h⟩) htake))
end
end HT
namespace L2
open PySem PySem.Spec PyProof.Rows
abbrev TO:=St→Hp→(Option Int→Hp→Prop)→Prop
def PO(X:Cx)(e:Option Expr)(t:TO):Prop :=
 ∀ (pins:List (Addr × Obj)) (s:Shared) (σ:St) (H:Hp) (Q:Option Int→Hp→Prop),Inv X pins σ H s→t σ H Q →
  wpAny (model X.prog X.w) X.A (evalPart e X.env) (λu s'=>∃ o H',Inv X pins σ H' s'∧IsPart u o∧Q o H') X.xe s
def C71:TO:=λ_ H Q=>Q none H
def f42(t:TE):TO:=λσ H Q=>t σ H λx H1=>∃ i,x=.int i∧Q (some i) H1
theorem intsAre_of{ns:List Int}:∀ {us:List Value},Vals (ns.map V.int) us→IntsAre us ns:=by
 induction ns with
 |nil=>intro us r;rw[map_nil] at r;cases r;exact .nil
 |cons n ns ih =>
  intro us r
  rw[map_cons] at r
  cases r with
  |cons r1 r2 =>
   obtain⟨t,e⟩:=r1
   subst e
   exact .cons n t (ih r2)
section
variable {X:Cx}{e:Expr}{te:TE}{lo hi:Option Expr}{tl th:TO}{pos p2:Pos}
theorem C81:PO X none C71:=by
 intro pins s σ H Q I h
 rw[evalPart_none]
 exact wpAny_pure ⟨none,H,I,.none,h⟩
theorem C91(h:PE X e te):PO X (some e) (f42 te):=by
 intro pins s σ H Q I hw
 rw[evalPart_some]
 refine thn (h pins s σ H _ I hw) λu s1 ⟨x,H1,I1,r1,q1⟩=>?_
 obtain⟨i,rfl,q⟩:=q1
 obtain⟨t,rfl⟩:=r1
 exact⟨some i,H1,I1,.int i t,q⟩
def SlR(X:Cx)(r:V→Option Int→Option Int→Hp→VK→Prop):Prop :=
 ∀ (pins:List (Addr × Obj)) (s:Shared) (σ:St) (H:Hp) (x:V) (v vl vu:Value) (lo hi:Option Int) (sl:Addr) (Q:VK),Inv X pins σ H s→RelV x v→s.heap.IsSliceOf sl vl vu .none→IsPart vl lo→IsPart vu hi→r x lo hi H Q →
  ∃ T id,typeLookup (.type T) "__getitem__"=pure (some (.builtin id))∧s.TypeIs v T∧wpAny (model X.prog X.w) X.A (getItem v (.ref sl)) (EP X pins σ Q) X.xe s
def tSl(r:V→Option Int→Option Int→Hp→VK→Prop)(te:TE)(tl th:TO):TE:=λσ H Q=>te σ H λx H1=>tl σ H1 λl H2=>th σ H2 λu H3=>r x l u H3 Q
theorem q51{r:V→Option Int→Option Int→Hp→VK→Prop}(hr:SlR X r)(he:PE X e te)(hl:PO X lo tl)(hu:PO X hi th):PE X (.Subscript e (.Slice lo hi none p2) pos) (tSl r te tl th):=by
 intro pins s σ H Q I h
 refine Subscript_ (thn (he pins s σ H _ I h) λv s1 ⟨x,H1,I1,r1,q1⟩=>?_)
 refine wpAny_Slice (thn (hl pins s1 σ H1 _ I1 q1) λvl s2 ⟨l,H2,I2,pl,q2⟩=>thn (hu pins s2 σ H2 _ I2 q2) λvu s3 ⟨u,H3,I3,pu,q3⟩=>?_)
 rw[evalPart_none]
 refine wpAny_pure ?_
 have I4:Inv X pins σ H3 { s3 with heap:=s3.heap.push { cls:=.type "slice",data:=.fields #[vl,vu,.none] } }:=I3.kept (t':=s3.toks) λb ob q=>Heap.get?_push_of_some _ q
 obtain⟨T,id,hT,ht,hg⟩:=hr pins { s3 with heap:=s3.heap.push { cls:=.type "slice",data:=.fields #[vl,vu,.none] } } σ H3 x v vl vu l u s3.heap.objs.size Q I4 r1 (Heap.IsSliceOf.new ..) pl pu q3
 show wpAny (model X.prog X.w) X.A (subscriptTail e (.Slice lo hi none p2) v (.ref s3.heap.objs.size)) (EP X pins σ Q) X.xe { s3 with heap:=s3.heap.push { cls:=.type "slice",data:=.fields #[vl,vu,.none] } }
 exact tail_any (ops:=[.ref s3.heap.objs.size,v]) ht hT hg (by with_unfolding_all rfl)
def q61(xs:List V)(lo hi:Option Int):List V:=(xs.drop (HT.sIx xs.length 0 lo)).take (HT.sIx xs.length xs.length hi - HT.sIx xs.length 0 lo)
theorem t50(xs:List V)(lo hi:Option Int):(q61 xs lo hi).length≤xs.length:=by
 unfold q61
 rw[length_take,length_drop]
 omega
theorem Vals.z70{xs:List V}{us:List Value}(r:Vals xs us):us=[]↔xs=[]:=by
 cases r with
 |nil=>simp
 |cons _ _=>simp
end
def ixN(n:Nat)(i:Int):Option Nat:=if 0≤i then(if i < n then some i.toNat else none) else if -(n:Int)≤i then some (i + n).toNat else none
def atI{α:Type}(xs:List α)(i:Int):Option α:=(ixN xs.length i).bind λj=>xs[j]?
theorem b21{n:Nat}{i:Int}{j:Nat}(h:ixN n i=some j):seqIndex? i n=some j∧j < n∧-(n:Int)≤i∧i < n:=by
 unfold ixN at h
 by_cases h0:0≤i
 ·rw[if_pos h0] at h
  by_cases h1:i < n
  ·rw[if_pos h1] at h
   have e:i.toNat=j:=Option.some.inj h
   exact⟨by rw[seqIndex_of h0 h1,e],by omega,by omega,h1⟩
  ·rw[if_neg h1] at h;cases h
 ·rw[if_neg h0] at h
  by_cases h1:-(n:Int)≤i
  ·rw[if_pos h1] at h
   have e:(i + n).toNat=j:=Option.some.inj h
   exact⟨by rw[seqIndex_neg (by omega) h1,e],by omega,h1,by omega⟩
  ·rw[if_neg h1] at h;cases h
theorem b31{α:Type}{xs:List α}{i:Int}{v:α}(h:atI xs i=some v):∃ j,seqIndex? i xs.length=some j∧xs[j]?=some v∧j < xs.length∧-(xs.length:Int)≤i∧i < xs.length:=by
 unfold atI at h
 cases e:ixN xs.length i with
 |none=>rw[e] at h;cases h
 |some j =>
  rw[e] at h
  obtain⟨h1,h2,h3,h4⟩:=b21 e
  exact⟨j,h1,h,h2,h3,h4⟩
theorem z80{α:Type}{xs:List α}{j:Nat}{v:α}(h:xs[j]?=some v):atI xs (j:Int)=some v:=by
 have hj:j < xs.length:=(List.getElem?_eq_some_iff.mp h).1
 have e:ixN xs.length (j:Int)=some j:=by
  unfold ixN
  rw[if_pos (by omega),if_pos (by omega)];simp
 unfold atI;rw[e];exact h
def b41(b:Expr):Prop:=∀ o i,subscripted b false o i=operate [o,i] (getItem o i)
def IxR(X:Cx)(r:R2):Prop :=
 ∀ (value slice:Expr) (pins:List (Addr × Obj)) (s:Shared) (σ:St) (H:Hp) (x y:V) (v u:Value) (Q:VK),Inv X pins σ H s→RelV x v→RelV y u→r x y H Q →
  subscripted slice false v u=operate [v,u] (getItem v u)→wpAny (model X.prog X.w) X.A (subscriptTail value slice v u) (EP X pins σ Q) X.xe s
def MtR(X:Cx)(id:String)(r:V→List V→Hp→VK→Prop):Prop :=
 ∀ (pins:List (Addr × Obj)) (s:Shared) (σ:St) (H:Hp) (x:V) (xs:List V) (v:Value) (us:List Value) (Q:VK),Inv X pins σ H s→RelV x v→Vals xs us→r x xs H Q →
  wpAny (model X.prog X.w) X.A (call (.builtin id) (v::us)) (EP X pins σ Q) X.xe s
section
variable {X:Cx}{a b:Expr}{ta tb:TE}{pos:Pos}
theorem D01{r:R2}(hr:IxR X r)(ha:PE X a ta)(hb:PE X b tb)(hs:b41 b):PE X (.Subscript a b pos) (tOp r ta tb):=by
 intro pins s σ H Q I h
 exact Subscript_ (e42 ha hb I h λv u s2 x y H2 I2 rx ry q=>hr a b pins s2 σ H2 x y v u Q I2 rx ry q (hs _ _))
def o72(K:PySem.W.Frag):R2:=λx y H Q=>∃ p xs i v,x=.ref p∧y=.int i∧SqL K H p xs∧atI xs i=some v∧Q v H
def s22(K:PySem.W.Frag):R2:=λx y H Q=>∃ p xs i v,x=.ref p∧y=.int i∧SqT K H p xs∧atI xs i=some v∧Q v H
theorem K50:IxR X (o72 X.K):=by
 intro value slice pins s σ H x y v u Q I rx ry h hs
 obtain⟨p,xs,i,z,rfl,rfl,hq,he,q⟩:=h
 cases rx
 obtain⟨t,rfl⟩:=ry
 obtain⟨its,r,pl,hz⟩:=I.list hq
 obtain⟨j,h1,h2,h3,h4,h5⟩:=b31 he
 obtain⟨w,ew,rw'⟩:=r.get h2
 have hl:=r.length
 have hn:=P70
 have fin:EP X pins σ Q w s:=⟨z,H,I,rw',q⟩
 by_cases h0:0≤i
 ·have hj:i.toNat=j:=by
   rw[seqIndex_of h0 h5] at h1
   exact Option.some.inj h1
  exact item_listR pl.isList h0 (by omega) (by rw[hj];simpa using ew) fin hs
 ·have hj:(i + (its.toArray.size:Int)).toNat=j:=by
   rw[seqIndex_neg (by omega) h4] at h1
   rw[size_toArray,← hl]
   exact Option.some.inj h1
  exact subscriptTail_builtinR (x:=w) pl.isList.typeIs slot_list_getitem.lookup
   (wpAny_getItem_list_neg (Q:=λr s'=>r=w∧EP X pins σ Q r s') pl.isList (by omega) (by rw[size_toArray] <;> omega) (by omega) (by rw[hj];simpa using ew) ⟨rfl,fin⟩) hs
theorem P31:IxR X (s22 X.K):=by
 intro value slice pins s σ H x y v u Q I rx ry h hs
 obtain⟨p,xs,i,z,rfl,rfl,hq,he,q⟩:=h
 cases rx
 obtain⟨t,rfl⟩:=ry
 obtain⟨its,r,pl,hz⟩:=I.tuple hq
 obtain⟨j,h1,h2,h3,h4,h5⟩:=b31 he
 obtain⟨w,ew,rw'⟩:=r.get h2
 have hl:=r.length
 have hn:=P70
 have fin:EP X pins σ Q w s:=⟨z,H,I,rw',q⟩
 exact subscriptTail_builtinR (x:=w) pl.typeIs slot_tuple_getitem.lookup
  (getItem_tuple (j:=j) (Q:=λr s'=>r=w∧EP X pins σ Q r s') pl (by omega) (by omega) (by rw[size_toArray,← hl];exact h1) (by simpa using ew) ⟨rfl,fin⟩) hs
theorem V90(its:List Value)(n j:Nat)(u:Value):Obj.mapSeq (·.setIfInBounds j u) { cls:=.type "list",data:=.seq its.toArray n }={ cls:=.type "list",data:=.seq (its.set j u).toArray n }:=by
 simp[Obj.mapSeq]
theorem Inv.lst{pins:List (Addr × Obj)}{σ:St}{H:Hp}{s:Shared}{p:Addr}{xs:List V}(I:Inv X pins σ H s)(h:H p=some (.lst xs)) :
  ∃ (its:List Value) (n:Nat),Vals xs its∧s.heap.get? p=some { cls:=.type "list",data:=.seq its.toArray n }∧xs.length≤sizeLine:=by
 obtain⟨z,its,n,r,e⟩:=I.hok p _ h
 exact⟨its,n,r,e,z⟩
theorem Inv.P41{pins:List (Addr × Obj)}{σ:St}{H:Hp}{s:Shared}{p:Addr}{xs ys:List V}{its its':List Value}{n n':Nat}{f:Obj→Obj}(I:Inv X pins σ H s)(h:H p=some (.lst xs))
  (ho:s.heap.get? p=some { cls:=.type "list",data:=.seq its.toArray n }) (hf:f { cls:=.type "list",data:=.seq its.toArray n }={ cls:=.type "list",data:=.seq its'.toArray n' }) (r:Vals ys its') (hz:ys.length≤sizeLine) (t:Nat) :
  Inv X pins σ (upd H p (.lst ys)) { s with heap:=s.heap.update p f,toks:=t }:=by
 have e:(s.heap.update p f).get? p=some { cls:=.type "list",data:=.seq its'.toArray n' }:=by
  rw[Heap.get?_update_self f ho (by rw[hf] <;> rfl),hf]
 refine I.write (x:=p) (e:=p) (by rw[h];trivial) (.inl rfl) (λb u hb q=>(Heap.get?_update_other _ _ (Ne.symm hb)).trans q) ⟨_,e⟩ ?_
 exact⟨hz,its',n',r,e⟩
def f52:V→V→V→Hp→(Hp→Prop)→Prop:=λo i v H Q=>∃ p xs k j,o=.ref p∧i=.int k∧H p=some (.lst xs)∧ixN xs.length k=some j∧Q (upd H p (.lst (xs.set j v)))
theorem set_list:d92 X f52:=by
 intro pins s σ H o i v ov iv u Q I ro ri rv h
 obtain⟨p,xs,k,j,rfl,rfl,hp,hj,q⟩:=h
 cases ro
 obtain⟨t,rfl⟩:=ri
 obtain⟨its,n,r,ho,hz⟩:=I.lst hp
 obtain⟨h1,h2,h3,h4⟩:=b21 hj
 have hl:=r.length
 have hn:=P70
 have I':Inv X pins σ (upd H p (.lst (xs.set j v))) { s with heap:=s.heap.update p (Obj.mapSeq (·.setIfInBounds j u)) } :=
  I.P41 hp ho (V90 its n j u) (r.set rv j) (by rw[length_set];exact hz) s.toks
 by_cases h0:0≤k
 ·have hk:k.toNat=j:=by
   rw[seqIndex_of h0 h4] at h1
   exact Option.some.inj h1
  exact PySem.W.ki_setAt ho h0 (by omega) (by rw[size_toArray,← hl];exact h4) (by rw[hk];exact⟨_,I',q⟩)
 ·have hk:(k + (its.toArray.size:Int)).toNat=j:=by
   rw[seqIndex_neg (by omega) h3] at h1
   rw[size_toArray,← hl]
   exact Option.some.inj h1
  exact PySem.W.ki_setBack ho (by omega) (by rw[size_toArray,← hl];exact h3) (by omega) (by rw[hk];exact⟨_,I',q⟩)
theorem F20(lo hi:Option Int)(n:Nat):(sliceBounds lo hi none n).1=((HT.sIx n 0 lo:Nat):Int)∧(sliceBounds lo hi none n).2.1=((HT.sIx n n hi:Nat):Int)∧(sliceBounds lo hi none n).2.2=1:=by
 refine⟨?_,?_,rfl⟩
 ·cases lo with
  |none=>simp[sliceBounds,HT.sIx]
  |some i =>
   simp only[sliceBounds,HT.sIx,getD_none,show(1:Int) > 0 by decide,if_true]
   by_cases h:i < 0
   ·simp only[h,if_true] <;> omega
   ·simp only[h,if_false] <;> omega
 ·cases hi with
  |none=>simp[sliceBounds,HT.sIx]
  |some i =>
   simp only[sliceBounds,HT.sIx,getD_none,show(1:Int) > 0 by decide,if_true]
   by_cases h:i < 0
   ·simp only[h,if_true] <;> omega
   ·simp only[h,if_false] <;> omega
theorem z90(its:List Value)(lo hi:Option Int):slicePick its.toArray lo hi none=((its.drop (HT.sIx its.length 0 lo)).take (HT.sIx its.length its.length hi - HT.sIx its.length 0 lo)).toArray:=by
 obtain⟨h1,h2,h3⟩:=F20 lo hi its.toArray.size
 unfold slicePick
 rw[h1,h2,h3]
 simp only[sliceRange_one,pick_run,size_toArray] <;> rfl
def s32(K:PySem.W.Frag):V→Option Int→Option Int→Hp→VK→Prop:=λx lo hi H Q=>∃ a xs,x=.ref a∧SqL K H a xs∧∀ p,H p=none→Q (.ref p) (upd H p (.lst (q61 xs lo hi)))
theorem D11:SlR X (s32 X.K):=by
 intro pins s σ H x v vl vu lo hi sl Q I rx hs pl pu h
 obtain⟨a,xs,rfl,hx,q⟩:=h
 cases rx
 obtain⟨its,r,ht,hz⟩:=I.list hx
 have hlen:=r.length
 refine⟨"list",_,slot_list_getitem.lookup,ht.isList.typeIs,?_⟩
 refine wpAny_getItem_list_slice ht.isList hs pl pu .none (by simp) ?_ (by rw[size_toArray] <;> omega)
 rw[z90,← hlen]
 refine⟨.ref s.heap.objs.size,_,I.laid (t':=s.toks) (o:=.lst (q61 xs lo hi)) (λb ob q=>Heap.get?_push_of_some _ q) (Nat.le_refl _) ?_,rfl,q _ (I.hok.fresh (Nat.le_refl _))⟩
 exact⟨Nat.le_trans (t50 xs lo hi) hz,_,0,(r.drop (HT.sIx xs.length 0 lo)).take (HT.sIx xs.length xs.length hi - HT.sIx xs.length 0 lo),Heap.get?_push_size _ rfl⟩
theorem F30:e40 X (.builtin "len") (λxs H Q=>∃ p ys,xs=[.ref p]∧(SqL X.K H p ys∨SqT X.K H p ys)∧Q (.int ys.length) H):=by
 intro pins s σ H xs us Q I r h
 obtain⟨p,ys,rfl,hq,q⟩:=h
 obtain⟨u,rfl,rx⟩:=vals1 r
 cases rx
 have hn:=P70
 rcases hq with hq | hq
 ·obtain⟨its,r',pl,hz⟩:=I.list hq
  have hlen:=r'.length
  exact Calls.call_len_list pl.isList (by simp only[size_toArray] <;> omega) ⟨.int ys.length,H,I.tok _,⟨s.toks + 1,by rw[size_toArray,hlen]⟩,q⟩
 ·obtain⟨its,r',pl,hz⟩:=I.tuple hq
  have hlen:=r'.length
  exact len_tuple pl (by simp only[size_toArray] <;> omega) ⟨.int ys.length,H,I.tok _,⟨s.toks + 1,by rw[size_toArray,hlen]⟩,q⟩
theorem F40:e40 X (.type "list") (λxs H Q=>∃ p ys,xs=[.ref p]∧(SqL X.K H p ys∨SqT X.K H p ys)∧∀ l,H l=none→Q (.ref l) (upd H l (.lst ys))):=by
 intro pins s σ H xs us Q I r h
 obtain⟨p,ys,rfl,hq,q⟩:=h
 obtain⟨u,rfl,rx⟩:=vals1 r
 cases rx
 have fin:∀ (its:List Value),Vals ys its→ys.length≤sizeLine→∀ (h':Heap) (c':Nat),(∀ b o',s.heap.get? b=some o'→h'.get? b=some o') →
   h'.get? s.heap.objs.size=some { cls:=.type "list",dict:=none,data:=.seq its.toArray c',slots:=#[] }→EP X pins σ Q (.ref s.heap.objs.size) { s with heap:=h' }:=λits r' hz h' c' kp e =>
  ⟨.ref s.heap.objs.size,_,I.laid (t':=s.toks) kp (Nat.le_refl _) (show f30 X.prog X.w _ h' _ (.lst ys) from⟨hz,its,c',r',e⟩),rfl,q _ (I.hok.fresh (Nat.le_refl _))⟩
 rcases hq with hq | hq
 ·obtain⟨its,r',pl,hz⟩:=I.list hq
  have hlen:=r'.length
  obtain⟨o,ho,hc,n,hd⟩:=pl.isList
  exact call_list_seq p (.inl rfl) ho hc hd (λh' c' kp e=>fin its r' hz h' c' kp e) (by simp only[size_toArray] <;> omega)
 ·obtain⟨its,r',pl,hz⟩:=I.tuple hq
  have hlen:=r'.length
  obtain⟨o,ho,hc,n,hd⟩:=pl
  exact call_list_seq p (.inr rfl) ho hc hd (λh' c' kp e=>fin its r' hz h' c' kp e) (by simp only[size_toArray] <;> omega)
theorem A00:e40 X (.type "tuple") (λxs H Q=>∃ p ys,xs=[.ref p]∧((SqL X.K H p ys∧∀ l,H l=none→Q (.ref l) (upd H l (.tup ys)))∨(SqT X.K H p ys∧Q (.ref p) H))):=by
 intro pins s σ H xs us Q I r h
 obtain⟨p,ys,rfl,h⟩:=h
 obtain⟨u,rfl,rx⟩:=vals1 r
 cases rx
 rcases h with ⟨hq,q⟩ | ⟨hq,q⟩
 ·obtain⟨its,r',pl,hz⟩:=I.list hq
  have hlen:=r'.length
  refine call_tuple_list pl.isList (λh' kp=>?_) (by simp only[size_toArray] <;> omega)
  have I1:Inv X pins σ H { s with heap:=h' }:=I.kept (t':=s.toks) kp
  have I2:Inv X pins σ (upd H h'.objs.size (.tup ys)) { s with heap:=h'.push { cls:=.type "tuple",data:=.seq its.toArray } } :=
   I1.laid (t':=s.toks) (λb o e=>Heap.get?_push_of_some _ e) (Nat.le_refl _) (show f30 X.prog X.w _ _ _ (.tup ys) from⟨hz,its,r',IsTup.new _ _⟩)
  exact⟨.ref h'.objs.size,_,I2,rfl,q _ (I1.hok.fresh (Nat.le_refl _))⟩
 ·obtain⟨its,r',pl,hz⟩:=I.tuple hq
  exact call_tuple_same pl ⟨.ref p,H,I,rfl,q⟩
def tyV(K:PySem.W.Frag)(T:String)(x:V)(H:Hp):Prop:=match x with
 |.str _=>T="str"
 |.int _=>T="int"
 |.ref p=>(T="list"∧∃ xs,SqL K H p xs)∨(T="tuple"∧∃ o,K.lookup p=some o∧o.cls=.type "tuple"∧o.dict=none) ∨
   (T="dict"∧((∃ kvs,H p=some (.dK kvs))∨∃ kvs,H p=some (.dT kvs)))∨(T="set"∧∃ S n,H p=some (.set S n))
 |_=>False
theorem P51{pins:List (Addr × Obj)}{σ:St}{H:Hp}{s:Shared}{T:String}{x:V}{v:Value}(I:Inv X pins σ H s)(r:RelV x v)(ty:tyV X.K T x H) :
  s.TypeIs v T∧∀ a,v=.ref a→∃ ob,s.heap.get? a=some ob∧ob.dict=none:=by
 cases x with
 |str z =>
  obtain⟨t,rfl⟩:=r
  cases (show T="str" from ty)
  exact⟨typeIs_str s z t,λ_ e=>nomatch e⟩
 |int i =>
  obtain⟨t,rfl⟩:=r
  cases (show T="int" from ty)
  exact⟨typeIs_int s i t,λ_ e=>nomatch e⟩
 |ref p =>
  cases r
  rcases ty with ⟨rfl,xs,hq⟩ | ⟨rfl,o,hk,hc,hd⟩ | ⟨rfl,hk⟩ | ⟨rfl,S,n,hk⟩
  ·obtain⟨its,_,pl,_⟩:=I.list hq
   refine⟨pl.isList.typeIs,λa e=>?_⟩
   cases e
   obtain⟨o,n,e,c,hd,_⟩:=pl
   exact⟨o,e,hd⟩
  ·refine⟨⟨o,I.kIn p o hk,hc⟩,λa e=>?_⟩
   cases e
   exact⟨o,I.kIn _ o hk,hd⟩
  ·have z:∃ o,s.heap.get? p=some o∧o.ExactDict:=by
    rcases hk with ⟨kvs,hk⟩ | ⟨kvs,hk⟩
    ·obtain⟨_,_,_,_,o,_,_,e,ex,_⟩:=I.hok p _ hk
     exact⟨o,e,ex⟩
    ·obtain⟨_,_,_,_,o,_,_,e,ex,_⟩:=I.hok p _ hk
     exact⟨o,e,ex⟩
   obtain⟨o,e,ex⟩:=z
   refine⟨⟨o,e,ex.1⟩,λa e2=>?_⟩
   cases e2
   exact⟨o,e,ex.2.1⟩
  ·obtain⟨o,_,_,_,e,ex,_⟩:=I.hok p _ hk
   refine⟨⟨o,e,ex.1⟩,λa e2=>?_⟩
   cases e2
   exact⟨o,e,ex.2.1⟩
 |_=>exact False.elim ty
def tBM(K:PySem.W.Frag)(T:String)(r:V→List V→Hp→VK→Prop)(to:TE)(t:TA):TE:=λσ H Q=>to σ H λx H1=>tyV K T x H1∧t σ H1 λxs H2=>r x xs H2 Q
variable {o e:Expr}{es:List Expr}{to:TE}{t:TA}{name:Str}{apos cpos:Pos}{T id:String}{r:V→List V→Hp→VK→Prop}
theorem q71(pa:PlainAttrs T)(slot:Slot T name id)(hty:typeOf (.builtin id)=pure (.type "method_descriptor"))(hm:MtR X id r)(ho:PE X o to)(ha:PA X (e::es) t)
  (hbase:attributeBase o name X.env (eval o X.env)=eval o X.env:=by rfl)
  (hfew:((backTo cpos (starEach (e::es) X.env)).all (λx=>!x.1)&&(backToKw cpos (keywordEach [] X.env)).all (λx=>x.1.isSome)
   &&decide ((e::es).length + ([]:List Keyword).length + (if ([]:List Keyword).isEmpty then 0 else 1) < 30))=true:=by rfl)
  (hline:(apos.endLine == cpos.line)=true:=by rfl) (hs:starEach (e::es) X.env=(false,eval e X.env)::starEach es X.env:=by rfl) (hplain:(backTo cpos (starEach es X.env)).any (·.1)=false:=by rfl) :
  PE X (.Call (.Attribute o name apos) (e::es) [] cpos) (tBM X.K T r to t):=by
 intro pins s σ H Q I h
 refine wpAny_Call_method_late hbase hfew hline rfl (thn (ho pins s σ H _ I h) λv s1 ⟨x,H1,I1,r1,ty,q1⟩=>?_)
 obtain⟨h1,h2⟩:=P51 I1 r1 ty
 refine⟨T,id,pa,slot,hty,h1,h2,?_⟩
 have hA:=ha cpos pins s1 σ H1 _ I1 q1
 rw[hs] at hA ⊢
 refine Calls.callWith_builtin (by show(false || (backTo cpos (starEach es X.env)).any (·.1))=false;rw[hplain] <;> rfl) (Calls.evalArgs_plain ?_)
 exact thn hA λus s2 ⟨vs,H2,I2,r2,q2⟩=>hm pins s2 σ H2 x vs v us Q I2 r1 r2 q2
end
def MtM(X:Cx)(id:String)(r:V→List V→Hp→VK→Prop):Prop :=
 ∀ (pins:List (Addr × Obj)) (s:Shared) (σ:St) (H:Hp) (x:V) (xs:List V) (v:Value) (us:List Value) (Q:VK),Inv X pins σ H s→RelV x v→Vals xs us→r x xs H Q →
  wpAny (model X.prog X.w) X.A (call (.builtin id) (v::us)) (EP X pins σ Q) X.xe s
theorem Vals.one:∀ {x:V}{us:List Value},Vals [x] us→∃ u,us=[u]∧RelV x u
 |_,_,.cons r .nil=>⟨_,rfl,r⟩
theorem Vals.eraseIdx:∀ {xs:List V}{us:List Value} (i:Nat),Vals xs us→Vals (xs.eraseIdx i) (us.eraseIdx i)
 |_,_,_,.nil=>.nil
 |_,_,0,.cons _ t=>t
 |_,_,i + 1,.cons r t=>.cons r (Vals.eraseIdx i t)
theorem Vals.reverse{xs:List V}{us:List Value}(h:Vals xs us):Vals xs.reverse us.reverse:=by
 induction h with
 |nil=>exact .nil
 |cons r t ih=>rw[reverse_cons,reverse_cons];exact Vals.append ih (.cons r .nil)
theorem Vals.rep{xs:List V}{us:List Value}(h:Vals xs us):∀ k:Nat,Vals (replicate k xs).flatten (replicate k us).flatten
 |0=>.nil
 |k + 1=>by
  rw[replicate_succ,replicate_succ,flatten_cons,flatten_cons]
  exact Vals.append h (Vals.rep h k)
theorem F50{α:Type}:∀ (l:List α) (i:Nat),(l.eraseIdx i).length≤l.length
 |[],_=>Nat.le_refl _
 |_::_,0=>Nat.le_succ _
 |_::r,i + 1=>Nat.succ_le_succ (F50 r i)
theorem foldl_rep(its:List Value):∀ (k:Nat) (acc:List Value),
  foldl (λx1 x2=>x1++x2) acc.toArray (replicate k its.toArray)=(acc++(replicate k its).flatten).toArray
 |0,acc=>by simp
 |k + 1,acc=>by
  have e:acc.toArray++its.toArray=(acc++its).toArray:=by simp
  have e2:(acc++its)++(replicate k its).flatten=acc++(replicate (k + 1) its).flatten:=by
   rw[replicate_succ,flatten_cons,append_assoc]
  rw[← e2,← foldl_rep its k (acc++its),← e,replicate_succ,List.foldl_cons]
section
variable {X:Cx}{pins:List (Addr × Obj)}{σ:St}{H:Hp}{s:Shared}{l b:Addr}{xs ys zs:List V}
theorem Inv.b72{its its':List Value}{n:Nat}{f:Array Value→Array Value}{t':Nat}(I:Inv X pins σ H s)(hH:H l=some (.lst xs))
  (e:s.heap.get? l=some { cls:=.type "list",data:=.seq its.toArray n }) (hf:f its.toArray=its'.toArray) (hv:Vals ys its') (hz:ys.length≤sizeLine) :
  Inv X pins σ (upd H l (.lst ys)) { s with heap:=s.heap.update l (Obj.mapSeq f),toks:=t' }:=by
 have q:=PySem.IsL.update e f
 rw[hf] at q
 refine I.write (x:=l) (e:=l) (by rw[hH];exact trivial) (.inl rfl) (λb' u hb hu=>(Heap.get?_update_other s.heap (Obj.mapSeq f) (Ne.symm hb)).trans hu) ⟨_,q⟩ ?_
 exact⟨hz,its',_,hv,q⟩
theorem Inv.f62{its:List Value}{t':Nat}(I:Inv X pins σ H s)(hv:Vals ys its)(hz:ys.length≤sizeLine) :
  Inv X pins σ (upd H s.heap.objs.size (.lst ys)) { s with heap:=s.heap.push { cls:=.type "list",data:=.seq its.toArray },toks:=t' } :=
 I.laid (λ_ _ q=>Heap.get?_push_of_some _ q) (Nat.le_refl _) ⟨hz,its,0,hv,Heap.get?_push_size _ rfl⟩
theorem Inv.fresh(I:Inv X pins σ H s):H s.heap.objs.size=none:=I.hok.fresh (Nat.le_refl _)
theorem Inv.P61(I:Inv X pins σ H s)(hH:H l=some (.lst xs)):xs.length≤sizeLine∧∃ (its:List Value) (n:Nat),Vals xs its∧xs.length=its.length∧s.heap.get? l=some { cls:=.type "list",data:=.seq its.toArray n }:=by
 obtain⟨z,its,n,r,e⟩:=I.hok l _ hH
 exact⟨z,its,n,r,r.length,e⟩
theorem q81{n:Nat}(h:n≤sizeLine):Builtin.List.listTooLong n=false:=by
 unfold Builtin.List.listTooLong
 exact decide_eq_false (by omega)
end
section
variable {X:Cx}
def b51:V→List V→Hp→VK→Prop:=λx vs H Q=>∃ l xs y,x=.ref l∧vs=[y]∧H l=some (.lst xs)∧xs.length < sizeLine∧Q .non (upd H l (.lst (xs++[y])))
theorem t60:MtM X "list.append" b51:=by
 intro pins s σ H x vs v us Q I rx rv h
 obtain⟨l,xs,y,rfl,rfl,hH,hz,q⟩:=h
 cases rx
 obtain⟨u,rfl,ru⟩:=rv.one
 obtain⟨z,its,n,r,hl,e⟩:=I.P61 hH
 refine call_meets F.slot_list_append ⟨_,e,rfl⟩ F.entry_list_append (F.args_list_append_2 _ _) (PySem.list_append l its.toArray n u (by rw[size_toArray];omega)) ⟨e,?_⟩
 refine⟨.non,_,I.b72 (its':=its++[u]) hH e (by simp) (r.append (.cons ru .nil)) ?_,rfl,q⟩
 rw[length_append,List.length_singleton]
 omega
def y51:V→List V→Hp→VK→Prop:=λx vs H Q=>∃ l xs i k y,x=.ref l∧vs=[.int i]∧H l=some (.lst xs)∧-(2 ^ 63)≤i∧i < 2 ^ 63∧seqIndex? i xs.length=some k∧xs[k]?=some y∧Q y (upd H l (.lst (xs.eraseIdx k)))
theorem q91:MtM X "list.pop" y51:=by
 intro pins s σ H x vs v us Q I rx rv h
 obtain⟨l,xs,i,k,y,rfl,rfl,hH,h1,h2,hk,hy,q⟩:=h
 cases rx
 obtain⟨u,rfl,ru⟩:=rv.one
 obtain⟨t,rfl⟩:=ru
 obtain⟨z,its,n,r,hl,e⟩:=I.P61 hH
 obtain⟨w,hw,rw'⟩:=r.get hy
 refine call_meets F.slot_list_pop ⟨_,e,rfl⟩ F.entry_list_pop (F.args_list_pop_2 _ _)
  (MeetsSeq.list_pop_at l its.toArray n i t k w (fitsIndex_both h1 h2) (by rw[size_toArray,← hl];exact hk) (by rw[← Array.getElem?_toList];exact hw) (by rw[size_toArray];omega)) ⟨e,?_⟩
 refine⟨y,_,I.b72 (its':=its.eraseIdx k) hH e ?_ (r.eraseIdx k) ?_,rw',q⟩
 ·show its.toArray.eraseIdxIfInBounds k=(its.eraseIdx k).toArray
  rw[List.eraseIdxIfInBounds_toArray]
 ·have:=F50 xs k
  omega
def s42:R2:=λx y H Q=>∃ l b xs zs,x=.ref l∧y=.ref b∧H l=some (.lst xs)∧H b=some (.lst zs)∧xs.length + zs.length≤sizeLine∧∀ p,H p=none→Q (.ref p) (upd H p (.lst (xs++zs)))
theorem b61:OpR X (binaryOp .Add) s42:=by
 intro pins s σ H x y v u Q I rx ry h
 obtain⟨l,b,xs,zs,rfl,rfl,hH,hB,hz,q⟩:=h
 cases rx
 cases ry
 obtain⟨z,its,n,r,hl,e⟩:=I.P61 hH
 obtain⟨z2,its2,n2,r2,hl2,e2⟩:=I.P61 hB
 refine PySem.P.add_list e e2 ?_ (by rw[size_toArray,size_toArray];omega)
 have ea:its.toArray++its2.toArray=(its++its2).toArray:=by simp
 rw[ea]
 exact⟨.ref _,_,I.f62 (t':=s.toks) (r.append r2) (by rw[length_append];omega),rfl,q _ I.fresh⟩
theorem len_rep{α:Type}(xs:List α)(k:Nat):(replicate k xs).flatten.length=k * xs.length:=by
 induction k with
 |zero=>simp
 |succ k ih=>rw[replicate_succ,flatten_cons,length_append,ih,Nat.succ_mul,Nat.add_comm]
end
end L2
namespace Att
open PySem PySem.W PySem.Calls PyProof.Rows
theorem t70{P:Params}{h:Heap}:∀ (ns:List Int) (vs:List Value),WellAll P h vs (ns.map WData.int)→IntsAre vs ns:=by
 intro ns
 induction ns with
 |nil =>
  intro vs w
  rw[map_nil] at w
  cases w
  exact .nil
 |cons n ns ih =>
  intro vs w
  rw[map_cons] at w
  cases w with
  |cons a b =>
   cases a
   exact .cons _ _ (ih _ b)
theorem b71{l:OpenLaw}{n:Nat}(hn:l.most=some n){P:Params}{h:Heap}{args:List WData}{vals:List Value}
  (hpre:l.row.toRowW.claim.pre args=true) (hwl:WellAll P h vals args) :
  ∃ a vs ns,vals=[Value.ref a]∧args=[WData.list (ns.map WData.int)]∧h.get? a=some { cls:=.type "list",data:=.seq vs.toArray }∧IntsAre vs ns∧ns.length≤n:=by
 have hsh:WShape.hasAll [] args [.list .int]=true:=(pre_splitW hpre).1
 have hc:l.pre.holds [] { args:=args }=true:=(pre_splitW hpre).2
 obtain⟨d,r,rfl,h1,h2⟩:=hasAllW_cons hsh
 obtain rfl:=hasAllW_nil h2
 obtain⟨xs,rfl,h3⟩:=hasW_list h1
 obtain⟨ns,rfl⟩:=items_int h3
 have hlen:ns.length≤n:=by
  unfold OpenLaw.pre at hc
  have h4:(WTm.not (.lt (.lit (.int (n:Int))) (.len (.arg 0)))).holds [] { args:=[.list (ns.map .int)] }=true:=by
   have h4:=(holds_andW hc).1
   rw[hn] at h4
   exact h4
  have h5:=condW_of h4 (w_not (w_lt w_lit (w_len_list (w_arg rfl))))
  rw[length_map] at h5
  refine Nat.le_of_not_lt λq=>?_
  have q':(n:Int) < ((ns.length:Nat):Int):=by omega
  first
   |(rw[decide_eq_true q'] at h5;exact absurd h5 (by decide))
   |(simp at h5;omega)
 cases hwl with
 |cons w1 w2 =>
  cases w2
  cases w1 with
  |list ho hall=>exact⟨_,_,ns,rfl,rfl,ho,t70 ns _ hall,hlen⟩
theorem b81(l:OpenLaw)(args:List WData):l.row.toRowW.claim.post args (.bool true) args=true :=
 postW_of (r:=l.row.toRowW) (X:=(true == true))
  (show WShape.has [] (.bool true) .bool=true by first | rfl | decide | simp[WShape.has,WShape.arms,WShape.armsAll])
  (show(WTm.eq .res (.lit (.bool true))).value [] { args:=args,res:=some (.bool true),after:=args }=some (.bool (true == true)) from w_eq_bool (w_res rfl) w_lit) rfl
theorem K60{l:OpenLaw}{n:Nat}{q:Program}{loose:List Str}{XP:(Str→Option Value)→Heap→Prop}{YP:World→Heap→Prop}{d:DefRec}
  (hn:l.most=some n) (hdf:d.params.defaults=[])
  (call:∀ (w:World) (s₀ s₁:Shared) (mg mb:Str→Option Value) (fa:Addr) (o:Obj) (pm cd doc:Value) (a:Addr) (vs:List Value) (ns:List Int),
   Ground q loose [] XP w s₀ mg mb s₁.heap→YP w s₁.heap →
   s₁.heap.get? fa=some o→o.data=.func (docDef d.name d.params d.body d.scope pm cd doc)→s₁.heap.CodeRec cd d.name→mg d.name=some (.ref fa) →
   s₁.heap.get? a=some { cls:=.type "list",data:=.seq vs.toArray }→IntsAre vs ns→ns.length≤n→s₁.gens=#[] →
   codeAny (model l.prog w) callerA (.call (.ref fa) ⟨[.ref a],[]⟩) (λr s'=>r=.ok (.ret (.bool true))∧OldK s₁.heap s'.heap∧s'.os=s₁.os∧AllBare s'.gens) s₁) :
  WalkO q loose XP YP l.row.toRowW d [] (λf vs=>PySem.call f vs):=by
 intro w s₀ s₁ mg mb G Y fa o pm cd doc dV kV ho hd hcd hD hmg hg args vals as hpre hlay hrd hwl hlo
 obtain rfl:dV=.none:=Dflts.none hD hdf
 obtain rfl:kV=.none:=Dflts.noKw hD
 obtain⟨a,vs,ns,rfl,rfl,hobj,hints,hlen⟩:=b71 hn hpre hwl
 refine enter_call (codeAny_mono (call w s₀ s₁ mg mb fa o pm cd doc a vs ns G Y ho (fd_plain hd) hcd hmg hobj hints hlen hg) λr s' hq=>?_)
 obtain⟨rfl,h2,h3,h4⟩:=hq
 exact⟨.inl ⟨.bool true,.bool true,[],rfl,λ_=>rfl,.bool true,b81 l _,λ_=>⟨List.Pairwise.nil,λ_ hm=>(nomatch hm)⟩⟩,h2,h3,h4⟩
end Att
namespace L2
open PySem PySem.Spec PyProof.Rows
theorem F60:∀ {vs:List Value}{ns:List Int},IntsAre vs ns→Vals (ns.map V.int) vs
 |_,_,.nil=>.nil
 |_,_,.cons n t h=>.cons ⟨t,rfl⟩ (F60 h)
def A10(s:Stmt):Arguments:=match s with
 |.FunctionDef _ a _ _ _ _ _ _ _ _=>a
 |_=>{ posonlyargs:=[],args:=[],vararg:=none,kwonlyargs:=[],kw_defaults:=[],kwarg:=none,defaults:=[] }
def f80(s:Stmt):List Stmt:=match s with
 |.FunctionDef _ _ b _ _ _ _ _ _ _=>b
 |_=>[]
def b40(s:Stmt):Scope:=match s with
 |.FunctionDef _ _ _ _ _ _ sc _ _ _=>sc
 |_=>{ kind:=.function,names:=[],isGenerator:=false,isCoroutine:=false }
abbrev CX0:CXT:=λ_ _ _ _ _ _=>False
structure Fun(K:PySem.W.Frag)(x qual:Str)(st:Stmt)(f:Addr)(fd:FuncData):Prop where
 ex:∃ (oc:Value) (od:Option Addr) (kV doc pm:Value) (an:Option Addr) (cdv ct:Value) (osl:Array (Option Value)),
  fd=fnOf x qual (A10 st) (f80 st) (b40 st) .none kV doc pm an cdv ct∧K.lookup f=some ⟨oc,od,.func fd,osl⟩∧PySem.W.codeIn K cdv qual=true
 kp:PySem.W.keepIn K (.ref f)=true
section
variable {P:Program}{w:World}{K:PySem.W.Frag}{mg:Str→Option Value}{base:Heap}
theorem Fun.binds{x qual:Str}{st:Stmt}{f:Addr}{fd:FuncData}{ps:List Str}(F:Fun K x qual st f fd)
  (h:∀ (kV doc pm:Value) (an:Option Addr) (cdv ct:Value) (us:List Value),us.length=ps.length→bindArgs (fnOf x qual (A10 st) (f80 st) (b40 st) .none kV doc pm an cdv ct) ⟨us,[]⟩=pure (ps.zip us)):Binds K fd ps []:=by
 obtain⟨oc,od,kV,doc,pm,an,cdv,ct,osl,rfl,lk,hcd⟩:=F.ex
 exact .all (h kV doc pm an cdv ct)
end
section
variable {X:Cx}
theorem pv(i:Nat){x:Str}{pos:Pos}(hN:X.N[i]?=some x:=by rfl)(hv:Vis X.env.scope x:=by first | exact Or.inl rfl | exact Or.inr (Or.inl rfl) | exact Or.inr (Or.inr rfl))(hd:(x == ("__debug__":Str))=false:=by decide)
  (hcd:(x == ("__classdict__":Str))=false:=by decide):PE X (.Name x pos) (L61 i):=h00 hN hv hd hcd
end
theorem s52{A B:Prop}(h:B):if false=true then A else B:=by
 rw[if_neg Bool.false_ne_true]
 exact h
theorem s62{c A B:Prop}[Decidable c](h1:c→A)(h2:¬ c→B):if c then A else B:=by
 by_cases h:c
 ·rw[if_pos h]
  exact h1 h
 ·rw[if_neg h]
  exact h2 h
def a10(H H':Hp):Prop:=∀ b o,H b=some o→H' b=some o
theorem a10.refl(H:Hp):a10 H H:=λ_ _ h=>h
theorem a10.trans{H H1 H2:Hp}(a:a10 H H1)(b:a10 H1 H2):a10 H H2:=λc o h=>b c o (a c o h)
end L2
set_option maxHeartbeats 4000000
namespace L2
open PySem
abbrev NoX:Value→Shared→Prop:=λ_ _=>False
theorem A20(env:Env):∀ (names:List (Str × NameKind)) (acc:List (Str × Addr)),(∀ y∈names,y.2=.free→∃ c,env.cells.lookup y.1=some c)→(∀ x c,acc.lookup x=some c→env.cells.lookup x=some c) →
  ∃ cl:List (Str × Addr),(forIn names acc λ(x:Str × NameKind) (r:List (Str × Addr))=>(if (x.2 == .free)=true then do let c ← cellOf env x.1;pure (yield ((x.1,c)::r)) else pure (yield r):Sem (ForInStep (List (Str × Addr)))))=pure cl ∧
   (∀ x c,cl.lookup x=some c→env.cells.lookup x=some c)∧(∀ x c,acc.lookup x=some c→∃ c',cl.lookup x=some c')∧(∀ y∈names,y.2=.free→∃ c,cl.lookup y.1=some c)
 |[],acc,_,ha=>⟨acc,by simp,ha,λx c e=>⟨c,e⟩,λy hy=>absurd hy (by simp)⟩
 |(n,k)::r,acc,hf,ha=>by
  by_cases hk:k=.free
  ·subst hk
   obtain⟨c,hc⟩:=hf (n,.free) mem_cons_self rfl
   have hcell:cellOf env n=pure c:=by unfold cellOf;rw[hc]
   obtain⟨cl,e,h1,h2,h3⟩:=A20 env r ((n,c)::acc) (λy hy=>hf y (mem_cons_of_mem _ hy)) (λx c' e=>by
    rw[lookup_cons] at e
    by_cases hx:(x == n)=true
    ·rw[hx] at e
     have:x=n:=by simpa using hx
     subst this
     cases e
     exact hc
    ·rw[show(x == n)=false by simpa using hx] at e
     exact ha x c' e)
   refine⟨cl,?_,h1,λx c' e'=>?_,λy hy hyk=>?_⟩
   ·rw[forIn_cons]
    simp only[beq_self_eq_true,if_true,hcell,pure_bind]
    exact e
   ·by_cases hx:(x == n)=true
    ·exact h2 x c (by rw[lookup_cons,hx])
    ·exact h2 x c' (by rw[lookup_cons,show(x == n)=false by simpa using hx];exact e')
   ·rcases List.mem_cons.mp hy with rfl | hy
    ·exact h2 n c (by simp[lookup_cons])
    ·exact h3 y hy hyk
  ·obtain⟨cl,e,h1,h2,h3⟩:=A20 env r acc (λy hy=>hf y (mem_cons_of_mem _ hy)) ha
   refine⟨cl,?_,h1,h2,λy hy hyk=>?_⟩
   ·rw[forIn_cons]
    have hb:((k == NameKind.free)=true)=False:=by simpa using hk
    simp only[hb,if_false,pure_bind]
    exact e
   ·rcases List.mem_cons.mp hy with rfl | hy
    ·exact absurd hyk hk
    ·exact h3 y hy hyk
theorem K70(hf:∀ y∈scope.names,y.2=.free→∃ c,env.cells.lookup y.1=some c) :
  ∃ cl:List (Str × Addr),closureFor scope env=pure cl∧(∀ x c,cl.lookup x=some c→env.cells.lookup x=some c)∧(∀ y∈scope.names,y.2=.free→∃ c,cl.lookup y.1=some c):=by
 obtain⟨cl,e,h1,_,h3⟩:=A20 env scope.names [] hf (λx c e=>by simp at e)
 refine⟨cl,?_,h1,h3⟩
 simp only[closureFor]
 exact(congrArg (λt=>t >>= λr=>(pure r:Sem _)) e).trans (by simp)
section
variable {P:Program}{w:World}{A:Around}{R:Result→Shared→Prop}{s:Shared}
theorem b91{el tg src:Expr}{tests:List Expr}{sc:Scope}{ps:Pos}{itv av:Value}{en:Env}(J:Nat→Shared→Prop)
  (turn:∀ n s,J n s→wpAny (model P w) A (pyNext itv) (λr s1=>match r with
   |none=>R (.ok .next) s1
   |some v=>wpAny (model P w) A (letOwnedTupleGo tg itv v) (λ_ s2=>wpAny (model P w) A (assign tg en v) (λ_ s3 =>
     wpAny (model P w) A (forIn tests true λc r=>if r=true then do let ok ← isTrue c en (eval c en);pure (yield ok) else pure (yield r)) (λok s4 =>
      if ok=true then wpAny (model P w) A (eval el en) (λx s5 =>
       wpAny (model P w) A (call (.builtin "list.append") [av,x]) (λ_ s6=>∃ m,m < n∧J m s6) NoX s5) NoX s4
      else ∃ m,m < n∧J m s4) NoX s3) NoX s2) NoX s1) NoX s)
  (n:Nat) (h:J n s) :
  codeAny (model P w) A (.compLoop (.ListComp el [⟨tg,src,tests,0⟩] sc ps) 0 itv av en) R s:=by
 refine codeAny_loop rfl J (λn s hI=>?_) n h
 show wpAny _ A ((compTurn (.ListComp el [⟨tg,src,tests,0⟩] sc ps) 0 itv av en).onRaise (λx=>do noteFrame x en;theTreesLotGoes x)) _ _ s
 refine wpAny_noted ?_
 rw[compTurn_list]
 refine wpAny_bind (wpAny_standAt (wpAny_bind (wpAny_mono (turn n s hI) (λr s1 h1=>?_) λ_ _ x=>x.elim)))
 cases r with
 |none=>exact wpAny_pure h1
 |some v =>
  refine wpAny_bind (wpAny_mono h1 (λ_ s2 h2=>?_) λ_ _ x=>x.elim)
  refine wpAny_bind (wpAny_mono h2 (λ_ s3 h3=>wpAny_bind (wpAny_mono h3 (λok s4 h4=>?_) λ_ _ x=>x.elim)) λ_ _ x=>x.elim)
  cases ok with
  |false=>exact wpAny_pure ⟨rfl,h4⟩
  |true=>exact wpAny_bind (wpAny_bind (wpAny_mono h4 (λx s5 h5=>wpAny_bind (wpAny_mono h5 (λ_ s6 h6=>wpAny_pure (wpAny_pure ⟨rfl,h6⟩)) λ_ _ x=>x.elim)) λ_ _ x=>x.elim))
end
open PySem PySem.Spec PyProof.Rows
abbrev b50(X:Cx)(N':List Str)(sc:Scope)(cl:List (Str × Addr))(C:Addr)(s:Shared)(H:Hp)(fp:List Addr):Cx :=
 { X with N:=N',s₀:=s,H₀:=H,env:=compEnvC sc cl C X.env,outer:=X.stack,stack:=X.stack,ex:=fp,fn:=λ_=>false,pn:=[],xe:=NoX }
def c00(own:List Str)(capt:List (Str × Nat)):List Str:=own++capt.map (·.1)
def m20(own:List Str)(capt:List (Str × Nat))(σ:St):St:=own.map (λ_=>none)++capt.map λp=>(σ[p.2]?).getD none
structure j90(X:Cx)(sc:Scope)(own:List Str)(capt:List (Str × Nat)):Prop where
 kind:sc.kind=.function
 nocell:∀ y∈sc.names,y.2≠.cell
 locs:∀ y∈sc.names,y.2=.local→sc.names.lookup y.1=some .local
 frees:∀ y∈sc.names,y.2=.free→X.env.kindOf y.1=some .cell∨X.env.kindOf y.1=some .free
 captd:∀ p∈capt,X.N[p.2]?=some p.1∧sc.names.lookup p.1=some .free
theorem A30{env:Env}:∀ {names:List (Str × NameKind)}{x:Str}{k:NameKind},
  (names.map λ(n,k)=>if (k == NameKind.free&&env.scope.kind == .function&&env.kindOf n == some .cell) then(n,NameKind.cell) else(n,k)).lookup x=some k→(k=.cell∨k=.free)→(∀ y∈names,y.2≠.cell)→(x,NameKind.free)∈names
 |[],_,_,h,_,_=>by simp at h
 |(n,k0)::r,x,k,h,hk,hn=>by
  have h:List.lookup x ((if (k0 == NameKind.free&&env.scope.kind == .function&&env.kindOf n == some .cell)=true then(n,NameKind.cell) else(n,k0))::_)=some k:=h
  have hn0:k0≠.cell:=hn (n,k0) mem_cons_self
  cases hx:x == n with
  |true =>
   have e:x=n:=by simpa using hx
   subst e
   by_cases hc:(k0 == NameKind.free&&env.scope.kind == .function&&env.kindOf x == some .cell)=true
   ·have:k0=.free:=by
     cases k0 <;> simp_all
    subst this
    exact mem_cons_self
   ·rw[if_neg hc] at h
    simp only[lookup_cons,hx] at h
    cases h
    rcases hk with hk | hk
    ·exact absurd hk hn0
    ·subst hk;exact mem_cons_self
  |false =>
   have h':(r.map λ(n,k)=>if (k == NameKind.free&&env.scope.kind == .function&&env.kindOf n == some .cell) then(n,NameKind.cell) else(n,k)).lookup x=some k:=by
    by_cases hc:(k0 == NameKind.free&&env.scope.kind == .function&&env.kindOf n == some .cell)=true
    ·rw[if_pos hc] at h;simp only[lookup_cons,hx] at h;exact h
    ·rw[if_neg hc] at h;simp only[lookup_cons,hx] at h;exact h
   exact mem_cons_of_mem _ (A30 h' hk λy hy=>hn y (mem_cons_of_mem _ hy))
theorem l20{env:Env}:∀ {names:List (Str × NameKind)}{x:Str},names.lookup x=some .free →
  (names.map λ(n,k)=>if (k == NameKind.free&&env.scope.kind == .function&&env.kindOf n == some .cell) then(n,NameKind.cell) else(n,k)).lookup x=some .cell ∨
  (names.map λ(n,k)=>if (k == NameKind.free&&env.scope.kind == .function&&env.kindOf n == some .cell) then(n,NameKind.cell) else(n,k)).lookup x=some .free
 |[],_,h=>by simp at h
 |(n,k)::r,x,h=>by
  have ih:=@l20 env r x
  show List.lookup x ((if (k == NameKind.free&&env.scope.kind == .function&&env.kindOf n == some .cell)=true then(n,NameKind.cell) else(n,k))::_)=_∨List.lookup x ((if (k == NameKind.free&&env.scope.kind == .function&&env.kindOf n == some .cell)=true then(n,NameKind.cell) else(n,k))::_)=_
  cases hx:x == n with
  |true =>
   simp only[lookup_cons,hx] at h
   cases h
   by_cases hc:(NameKind.free == NameKind.free&&env.scope.kind == .function&&env.kindOf n == some .cell)=true
   ·rw[if_pos hc];left;simp only[lookup_cons,hx]
   ·rw[if_neg hc];right;simp only[lookup_cons,hx]
  |false =>
   simp only[lookup_cons,hx] at h
   by_cases hc:(k == NameKind.free&&env.scope.kind == .function&&env.kindOf n == some .cell)=true
   ·rw[if_pos hc];simp only[lookup_cons,hx];exact ih h
   ·rw[if_neg hc];simp only[lookup_cons,hx];exact ih h
theorem HOk.r01{P:Program}{w:World}{H:Hp}{h:Heap}{D:Addr}{ys:List V}{its:List Value}{n:Nat}(x:HOk P w H h)(hn:H D=none)(hv:Vals ys its)(hz:ys.length≤sizeLine)
  (ho:h.get? D=some { cls:=.type "list",data:=.seq its.toArray n }):HOk P w (upd H D (.lst ys)) h:=λb u e=>by
 by_cases hb:b=D
 ·subst hb;rw[a80] at e;cases e;exact⟨hz,its,n,hv,ho⟩
 ·rw[a20 hb] at e
  exact(x b u e).j40 (λc v _ q=>q) (λc q=>by rw[a20 (a60 q hn)];exact q) λc xs q=>by rw[a20 (a60 q hn)];exact q
def PTs(X:Cx)(tests:List Expr)(t:TT):Prop :=
 ∀ (pins:List (Addr × Obj)) (s:Shared) (σ:St) (H:Hp) (Q:Bool→Hp→Prop),Inv X pins σ H s→t σ H Q →
  wpAny (model X.prog X.w) X.A (forIn tests true λc r=>if r=true then do let ok ← isTrue c X.env (eval c X.env);pure (yield ok) else pure (yield r)) (TP X pins σ Q) X.xe s
def c01:TT:=λ_ H Q=>Q true H
theorem c21:PTs X [] c01:=λ_ _ _ H _ I h=>wpAny_tests_nil ⟨H,I,h⟩
theorem c31(hc:PT X c t):PTs X [c] t:=λpins s σ H Q I h=>wpAny_tests_one (hc pins s σ H Q I h)
section
variable {X:Cx}{pins:List (Addr × Obj)}{σ:St}{H2:Hp}{s2:Shared}{sc:Scope}{own:List Str}{capt:List (Str × Nat)}{cl:List (Str × Addr)}{fp:List Addr}{C:Addr}
theorem F70(I:Inv X pins σ H2 s2)(S:j90 X sc own capt)(hcl:∀ x c,cl.lookup x=some c→X.env.cells.lookup x=some c)(hcf:∀ y∈sc.names,y.2=.free→∃ c,cl.lookup y.1=some c)
  (hx:∀ x c,X.env.cells.lookup x=some c→c ∉ fp) {h':Heap} (un:∀ c o,s2.heap.get? c=some o→H2 c=none→c ∉ fp→∃ sl,h'.get? c=some { o with slots:=sl }) (m:Str→Option Value) :
  ∀ (i:Nat) (x:Str) (v:V),(c00 own capt)[i]?=some x→(m20 own capt σ)[i]?=some (some v)→∃ u,RelV v u∧Look (compEnvC sc cl C X.env) h' m x u:=by
 intro i x v e1 e2
 unfold c00 at e1
 unfold m20 at e2
 by_cases hi:i < own.length
 ·rw[List.getElem?_append_left (by simpa using hi),List.getElem?_map] at e2
  cases q:own[i]? with
  |none=>rw[q] at e2;cases e2
  |some y=>rw[q] at e2;cases e2
 ·rw[List.getElem?_append_right (by simpa using hi),length_map,List.getElem?_map] at e2
  rw[List.getElem?_append_right (by simpa using hi),List.getElem?_map] at e1
  cases q:capt[i - own.length]? with
  |none=>rw[q] at e1;cases e1
  |some p =>
   rw[q] at e1 e2
   obtain rfl:p.1=x:=Option.some.inj e1
   have e3:(σ[p.2]?).getD none=some v:=Option.some.inj e2
   have e4:σ[p.2]?=some (some v):=by
    cases z:σ[p.2]? with
    |none=>rw[z] at e3;cases e3
    |some w=>rw[z] at e3;exact congrArg some e3
   obtain⟨hN,hf⟩:=S.captd p (mem_of_getElem? q)
   have hmem:(p.1,NameKind.free)∈sc.names:=PySem.mem_of_lookup hf
   have hk:=S.frees _ hmem rfl
   obtain⟨m0,_,hl⟩:=I.loc
   have vis:Vis X.env.scope p.1:=.inr hk
   obtain⟨u,r,lk⟩:=hl p.2 p.1 v hN e4 vis
   refine⟨u,r,.inr ⟨?_,?_⟩⟩
   ·exact l20 hf
   ·rcases lk with ⟨hl0,_⟩ | ⟨_,c,hc,o,ho,hd⟩
    ·rcases hk with hk | hk <;> (rw[hk] at hl0;cases hl0)
    ·obtain⟨c',hc'⟩:=hcf _ hmem rfl
     have:=hcl _ _ hc'
     rw[hc] at this
     cases this
     obtain⟨sl,q'⟩:=un c o ho (I.freeC _ _ hc) (hx _ _ hc)
     exact⟨c,hc',_,q',hd⟩
end
def D21(X:Cx)(pins:List (Addr × Obj))(σ:St)(R:V→Hp→Prop)(acc:Value)(C:Addr)(s':Shared):Prop :=
 ∃ D H' m',acc=.ref D∧Inv X pins σ H' s'∧K40 X pins H' C∧s'.heap.Ns C m'∧R (.ref D) H'
def W00(J:It)(σ0:St)(H1:Hp)(g:TG)(tt:TT)(te:TE)(Q:VK):Prop:=∃ W:Nat→Nat→List V→Hp→Prop,(∃ m,W 0 m [] H1)∧∀ i m ys H,W i m ys H →
 (J.stop i H∧∀ p,H p=none→Q (.ref p) (upd H p (.lst ys))) ∨
 (J.go i H∧ys.length < sizeLine∧∃ N:List V→Hp→Prop,(∀ zs H',N zs H'→∃ m',m' < m∧W (i + 1) m' zs H')∧∀ x H',J.yld i H x H'→g x σ0 H' λσ2 H2=>tt σ2 H2 λb H3 =>
  if b=true then te σ2 H3 (λy H4=>N (ys++[y]) H4) else N ys H3)
def D31(own:List Str)(capt:List (Str × Nat))(wi:TI)(g:TG)(tt:TT)(te:TE):TE:=λσ H Q=>wi σ H λJ H1=>W00 J (m20 own capt σ) H1 g tt te Q
section
variable {X:Cx}{pins:List (Addr × Obj)}{σ:St}{H2:Hp}{s2:Shared}{sc:Scope}{own:List Str}{capt:List (Str × Nat)}{cl:List (Str × Addr)}{el tg src:Expr}{tests:List Expr}{ps:Pos}{g:TG}{tt:TT}{te:TE}
theorem p70(hc:X.calm=true)(S:j90 X sc own capt)(hcl:∀ x c,cl.lookup x=some c→X.env.cells.lookup x=some c)(hcf:∀ y∈sc.names,y.2=.free→∃ c,cl.lookup y.1=some c)
  (hg:∀ C s H fp,PG (b50 X (c00 own capt) sc cl C s H fp) tg g) (ht:∀ C s H fp,PTs (b50 X (c00 own capt) sc cl C s H fp) tests tt) (he:∀ C fp,(∀ b∈fp,K40 X pins H2 b)→PE (b50 X (c00 own capt) sc cl C s2 H2 fp) el te)
  {it:Addr}{fp:List Addr}{tn:Nat→Heap→Prop}{J:It} (I2:Inv X pins σ H2 s2) (T:Turn X.prog X.w X.K tg J fp it tn) (st2:tn 0 s2.heap) (f2:∀ b∈fp,K40 X pins H2 b)
  {R:VK} (h:W00 J (m20 own capt σ) H2 g tt te R) {RR:Value→Addr→Result→Shared→Prop} (hRR:∀ acc C s',D21 X pins σ R acc C s'→RR acc C (.ok .next) s') {E:Value→Shared→Prop} :
  wpAny (model X.prog X.w) X.A (newList []) (λacc s3=>wpAny (model X.prog X.w) X.A (newFunctionEnv sc X.env.globals cl [] X.env.qual none .none (some X.env)) (λce s4 =>
   codeAny (model X.prog X.w) X.A (.compStart (.ListComp el [⟨tg,src,tests,0⟩] sc ps) 0 (.ref it) acc { ce with scope:=relabel sc X.env }) (RR acc ce.locals) s4) E s3) E s2:=by
 obtain⟨W,⟨m0,w0⟩,turn⟩:=h
 refine wpAny_newObj_type (wpAny_newFunctionEnv S.nocell (by intro y hy;simp at hy) (λh1 hns1 hsb1=>?_) S.kind)
 dsimp only at hns1 hsb1 ⊢
 generalize hH3:s2.heap.push { cls:=.type "list",dict:=none,data:=.seq ([]:List Value).toArray }=h3 at hns1 hsb1 ⊢
 have hC:h3.objs.size=s2.heap.objs.size + 1:=by rw[← hH3,size_push]
 have below:∀ b,b < s2.heap.objs.size→b≠h3.objs.size∧b≠s2.heap.objs.size:=λb hb=>⟨by omega,by omega⟩
 have hDC:s2.heap.objs.size≠h3.objs.size:=by omega
 have old:∀ b o,s2.heap.get? b=some o→h1.get? b=some o:=λb o e=>hsb1.extBut b o (below b (lt_size e)).1 (Heap.get?_push_of_some _ (hH3 ▸ Heap.get?_push_of_some _ e))
 have hacc:h1.get? s2.heap.objs.size=some { cls:=.type "list",data:=.seq ([]:List Value).toArray 0 }:=hsb1.extBut _ _ hDC (Heap.get?_push_of_some _ (hH3 ▸ Heap.get?_push_size _ rfl))
 have fpLt:∀ b∈fp,b < s2.heap.objs.size:=λb hb=>by
  obtain⟨o,e,_⟩:=T.obj _ _ st2 b hb
  exact lt_size e
 have celLt:∀ x c,X.env.cells.lookup x=some c→c < s2.heap.objs.size:=λx c e=>by
  obtain⟨v,o,q,_⟩:=I2.cell x c e
  exact lt_size q
 have frLt:∀ b∈frs X.stack,b < s2.heap.objs.size:=λb hb=>by
  obtain⟨_,o,q,_⟩:=I2.stack.mem hb
  exact lt_size q
 have celFp:∀ x c,X.env.cells.lookup x=some c→c ∉ fp:=λx c e hb=>(f2 c hb).2.2.2.2.1 x c e rfl
 have fpFr:∀ b∈fp,b ∉ frs X.stack:=λb hb hf=>by
  rcases List.mem_cons.mp (I2.Z70 b hf) with z | z
  ·exact(f2 b hb).2.1 z
  ·exact(f2 b hb).2.2.1 z
 have okX:(b50 X (c00 own capt) sc cl h3.objs.size s2 H2 fp).Ok:=by
  refine⟨I2.ok.mod,S.kind,I2.ok.glob,I2.ok.blt,(by show s2.heap.objs.size≤h3.objs.size;omega),λx y c e1 e2=>I2.ok.inj x y c (hcl x c e1) (hcl y c e2),λx hx=>?_,λx c hx=>(by cases hx),I2.ok.hd,I2.ok.frames,.inl rfl,
   λb hb=>⟨(below b (fpLt b hb)).1,λx c e z=>celFp x c (hcl x c e) (z ▸ hb)⟩,I2.bs,Nat.le_trans I2.ok.bsz I2.sz,λb o e hb=>?_,fpFr,I2.stack,I2.p40⟩
  ·have hx':(x,NameKind.free)∈sc.names:=by
    rcases hx with hx | hx
    ·exact A30 hx (.inl rfl) S.nocell
    ·exact A30 hx (.inr rfl) S.nocell
   exact hcf _ hx' rfl
  ·rcases (f2 b hb).2.2.2.1 with z | z
   ·exact I2.ok.noex b o e z
   ·have l1:b < X.base.objs.size:=lt_size e
    have l2:X.base.objs.size≤X.s₀.heap.objs.size:=I2.ok.bsz
    have l3:X.s₀.heap.objs.size≤b:=z
    exact absurd l1 (Nat.not_lt.mpr (Nat.le_trans l2 l3))
 have reset:∀ {pl:List (Addr × Obj)}{σ':St}{H':Hp}{s':Shared},Inv (b50 X (c00 own capt) sc cl h3.objs.size s2 H2 fp) pl σ' H' s'→Inv (b50 X (c00 own capt) sc cl h3.objs.size s2 H2 fp) pl (m20 own capt σ) H' s':=λ{pl σ' H' s'} I'=>by
  obtain⟨m,hn,_⟩:=I'.loc
  refine⟨I'.ok,I'.os,I'.bare,I'.base,⟨m,hn,λi x v e1 e2 _=>F70 I2 S hcl hcf celFp (λc o q n hx=>I'.base.any q n hx) m i x v e1 e2⟩,I'.cell,I'.free,I'.freeC,I'.pin,I'.hok,?_⟩
  show(m20 own capt σ).length=(c00 own capt).length
  simp[m20,c00]
 have start:Inv (b50 X (c00 own capt) sc cl h3.objs.size s2 H2 fp) [(s2.heap.objs.size,{ cls:=.type "list",data:=.seq ([]:List Value).toArray 0 })] (m20 own capt σ) H2 { s2 with heap:=h1,toks:=s2.toks + ([]:List (Str × Value)).length }:=by
  refine⟨okX,rfl,I2.bare,Un.kept old,⟨_,hns1,λi x v e1 e2 _=>F70 I2 S hcl hcf celFp (λc o q _ _=>⟨o.slots,old c o q⟩) _ i x v e1 e2⟩,λx c e=>?_,?_,λx c e=>I2.freeC x c (hcl x c e),λp hp=>?_,I2.hok.kept old,?_⟩
  ·obtain⟨v,q⟩:=I2.cell x c (hcl x c e)
   exact⟨v,q.keeps old⟩
  ·exact I2.hok.fresh (by show s2.heap.objs.size≤h3.objs.size;omega)
  ·have hp':p=(s2.heap.objs.size,{ cls:=.type "list",data:=.seq ([]:List Value).toArray 0 }):=by simpa using hp
   subst hp'
   exact⟨hacc,I2.hok.fresh (Nat.le_refl _),hDC,λz=>Nat.lt_irrefl _ (frLt _ z),λv z=>by cases z⟩
  ·show(m20 own capt σ).length=(c00 own capt).length
   simp[m20,c00]
 have Y90:∀ {pl:List (Addr × Obj)}{H':Hp},(∀ p∈pl,p.1 ∉ fp)→(∀ b∈fp,H' b=none)→∀ b∈fp,K40 (b50 X (c00 own capt) sc cl h3.objs.size s2 H2 fp) pl H' b:=λ{pl H'} hp hn b hb =>
  ⟨hn b hb,(below b (fpLt b hb)).1,fpFr b hb,.inl hb,λx c e z=>celFp x c (hcl x c e) (z ▸ hb),λp hpp z=>hp p (by simpa using hpp) (z ▸ hb)⟩
 have hDfp:s2.heap.objs.size ∉ fp:=λz=>Nat.lt_irrefl _ (fpLt _ z)
 have loop:∀ s3:Shared,s3={ s2 with heap:=h1,toks:=s2.toks + ([]:List (Str × Value)).length } →
   codeAny (model X.prog X.w) X.A (.compLoop (.ListComp el [⟨tg,src,tests,0⟩] sc ps) 0 (.ref it) (.ref s2.heap.objs.size) (compEnvC sc cl h3.objs.size X.env)) (RR (.ref s2.heap.objs.size) h3.objs.size) s3:=by
  rintro s3 rfl
  refine b91 (λn s'=>∃ i ys H' its k,Inv (b50 X (c00 own capt) sc cl h3.objs.size s2 H2 fp) [(s2.heap.objs.size,{ cls:=.type "list",data:=.seq (toArray its) k })] (m20 own capt σ) H' s'∧tn i s'.heap∧(∀ b∈fp,H' b=none)∧Vals ys its∧ys.length≤sizeLine∧W i n ys H') ?_ m0
   ⟨0,[],H2,[],0,start,T.keep _ _ _ st2 λb _ o e=>old b o e,λb hb=>(f2 b hb).1,.nil,zero_le _,w0⟩
  rintro n s' ⟨i,ys,H',its,k,I',st',fr',hv,hz,w'⟩
  have pinD:∀ p∈[((s2.heap.objs.size:Addr),({ cls:=.type "list",data:=.seq (toArray its) k }:Obj))],p.1 ∉ fp:=λp hp=>by
   have hp':p=(s2.heap.objs.size,{ cls:=.type "list",data:=.seq (toArray its) k }):=by simpa using hp
   subst hp'
   exact hDfp
  rcases turn i n ys H' w' with ⟨stop,q⟩ | ⟨go,hlt,N,hN,step⟩
  ·refine thn (T.done (b50 X (c00 own capt) sc cl h3.objs.size s2 H2 fp) rfl rfl rfl hc i _ s' _ H' NoX I' (Y90 pinD fr') st' stop) λr s1 hr=>?_
   obtain⟨hr,I1⟩:=hr
   subst hr
   obtain⟨gD,nD,_,_,_⟩:=I1.pin _ (mem_append_right _ mem_cons_self)
   obtain⟨m',hn',_⟩:=id I1.loc
   have un:Un (frs X.stack) fp H2 (upd H' s2.heap.objs.size (.lst ys)) s2.heap s1.heap:=by
    have u:=I1.base
    have nD2:H2 s2.heap.objs.size=none:=I2.hok.fresh (Nat.le_refl _)
    refine⟨u.keep,u.slot,λb o e n hx=>?_,u.there,λb xs e=>?_,λb o xs e=>?_,λb ps' e=>?_⟩
    ·rw[a20 (below b (lt_size e)).2];exact u.free b o e n hx
    ·rw[a20 (a60 e nD2)];exact u.tups b xs e
    ·rw[a20 (a60 e nD2)];exact u.frzs b o xs e
    ·obtain⟨more,e'⟩:=u.tbls b ps' e
     exact⟨more,by rw[a20 (a60 e nD2)];exact e'⟩
   have IX:Inv X pins σ (upd H' s2.heap.objs.size (.lst ys)) s1:=I2.M91 I1.os un (I1.hok.r01 nD hv hz gD) I1.bare λb hb=>⟨(f2 b hb).2.2.2.1,(f2 b hb).2.1,(f2 b hb).2.2.2.2.1,(f2 b hb).2.2.2.2.2⟩
   refine hRR _ _ _ ⟨_,_,m',rfl,IX,?_,hn',q _ nD⟩
   exact I2.Y90 (by omega) (by rw[a20 hDC.symm];exact I1.free)
  ·refine thn (T.item (b50 X (c00 own capt) sc cl h3.objs.size s2 H2 fp) rfl rfl rfl hc i _ s' _ H' NoX I' (Y90 pinD fr') st' go) λr s1 hr=>?_
   obtain⟨u,hr,h4⟩:=hr
   subst hr
   refine thn h4 λ_ s5 hr5=>?_
   obtain⟨x,H5,I5,r5,y5,st5,fr5⟩:=hr5
   have I5p:=I5.pinned (Y90 pinD fr5) (T.obj _ _ st5)
   refine thn (hg _ _ _ _ _ s5 _ H5 x u _ I5p r5 (step x H5 y5)) λ_ s6 hr6=>?_
   obtain⟨σ6,H6,I6,q6⟩:=hr6
   refine thn (ht _ _ _ _ _ s6 σ6 H6 _ I6 q6) λok s7 hr7=>?_
   obtain⟨H7,I7,q7⟩:=hr7
   have memFp:∀ {pl:List (Addr × Obj)}{b:Addr}{o:Obj},b∈fp→s5.heap.get? b=some o→(b,o)∈([]:List (Addr × Obj))++(pl++t40 fp s5.heap):=λhb e=>mem_append_right _ (mem_append_right _ (i00 hb e))
   cases ok with
   |false =>
    rw[if_neg Bool.false_ne_true] at q7 ⊢
    obtain⟨m',hm,w7⟩:=hN _ _ q7
    refine⟨m',hm,i + 1,ys,H7,its,k,reset (I7.t10 λp hp=>I7.pin p (mem_append_right _ (mem_append_left _ hp))),T.keep _ _ _ st5 λb hb o e=>(I7.pin (b,o) (memFp hb e)).1,λb hb=>?_,hv,hz,w7⟩
    obtain⟨o,e,_⟩:=T.obj _ _ st5 b hb
    exact(I7.pin (b,o) (memFp hb e)).2.1
   |true =>
    rw[if_pos rfl] at q7 ⊢
    refine thn (he _ _ f2 _ s7 σ6 H7 _ I7 q7) λuv s8 hr8=>?_
    obtain⟨y,H8,I8,r8,q8⟩:=hr8
    obtain⟨m',hm,w8⟩:=hN _ _ q8
    obtain⟨gD,nD,dC,dF,_⟩:=I8.pin _ (mem_append_right _ (mem_append_left _ mem_cons_self))
    refine append_at gD (λh9 sb hD9=>?_) (by show(toArray its).size≤sizeLine;rw[size_toArray,← hv.length];exact hz)
    have I8a:Inv (b50 X (c00 own capt) sc cl h3.objs.size s2 H2 fp) (t40 fp s5.heap) σ6 H8 s8:=I8.t10 λp hp=>I8.pin p (mem_append_right _ (mem_append_right _ hp))
    have I9:Inv (b50 X (c00 own capt) sc cl h3.objs.size s2 H2 fp) (t40 fp s5.heap) σ6 H8 { s8 with heap:=h9 }:=I8a.turned (t':=s8.toks) (λb o hb e=>(sb.2 b hb).trans e) nD dC (.inr (Nat.le_refl _))
     (λx c e z=>Nat.lt_irrefl s2.heap.objs.size (by have:=celLt x c (hcl x c e);rw[z] at this;exact this)) (λp hp z=>hDfp (z ▸ (E50 (by simpa using hp)).1))
    rw[List.push_toArray] at hD9
    refine⟨m',hm,i + 1,ys++[y],H8,its++[uv],k + 1,(reset I9).t10 λp hp=>?_,T.keep _ _ _ st5 λb hb o e=>?_,λb hb=>?_,hv.append (.cons r8 .nil),by rw[length_append];exact hlt,w8⟩
    ·have hp':p=(s2.heap.objs.size,{ cls:=.type "list",data:=.seq (toArray (its++[uv])) (k + 1) }):=by simpa using hp
     subst hp'
     exact⟨hD9,nD,dC,dF,λv z=>by cases z⟩
    ·exact(I9.pin (b,o) (mem_append_right _ (i00 hb e))).1
    ·obtain⟨o,e,_⟩:=T.obj _ _ st5 b hb
     exact(I9.pin (b,o) (mem_append_right _ (i00 hb e))).2.1
 exact codeAny_compStart_list (loop _ rfl) (T.self _ 0 _ _ _ (T.keep _ _ _ st2 λb _ o e=>old b o e) (loop _ rfl))
end
section
variable {X:Cx}{sc:Scope}{own:List Str}{capt:List (Str × Nat)}{el tg src:Expr}{tests:List Expr}{ps pos:Pos}{wi:TI}{g:TG}{tt:TT}{te:TE}
theorem c41(hc:X.calm=true)(S:j90 X sc own capt)(hi:PI X tg src wi)(hg:∀ cl C s H fp,PG (b50 X (c00 own capt) sc cl C s H fp) tg g)
  (ht:∀ cl C s H fp,PTs (b50 X (c00 own capt) sc cl C s H fp) tests tt) (he:∀ cl C s H fp,PE (b50 X (c00 own capt) sc cl C s H fp) el te)
  (hs:∀ x,foldedSetIterable src X.env x=pure x:=by intro _;rfl):PE X (.ListComp el [⟨tg,src,tests,0⟩] sc ps) (D31 own capt wi g tt te):=by
 intro pins s σ H Q I h
 obtain⟨cl,hclos,hcl,hcf⟩:=K70 (scope:=sc) (env:=X.env) λy hy hk=>I.ok.has y.1 (S.frees y hy hk)
 rw[eval_ListComp]
 refine wpAny_comprehension_free (use:=none) rfl hs hclos S.kind S.locs (thn (hi pins s σ H _ I h) λv s1 h1=>thn h1 λitv s2 h2=>?_)
 obtain⟨it,fp,tn,J,H2,e,I2,T,st2,f2,hw⟩:=h2
 subst e
 refine p70 hc S hcl hcf (hg cl) (ht cl) (λC fp _=>he cl C _ _ fp) I2 T st2 f2 hw (RR:=λacc C=>compPost (model X.prog X.w) X.A X.xe none (EP X pins σ Q) acc C) λacc C s' hf=>?_
 obtain⟨D,H',m',rfl,I',f',ns',r⟩:=hf
 exact⟨m',ns',λh' sb=>⟨.ref D,H',I'.turned (t':=s'.toks) (λb o hb e=>(sb.2 b hb).trans e) f'.1 f'.2.1 f'.2.2.2.1 f'.2.2.2.2.1 f'.2.2.2.2.2,rfl,r⟩⟩
theorem r11{te:St→Hp→TE}{Cond:St→Hp→Prop}(hc:X.calm=true)(S:j90 X sc own capt)(hi:PI X tg src wi)(hg:∀ cl C s H fp,PG (b50 X (c00 own capt) sc cl C s H fp) tg g)
  (ht:∀ cl C s H fp,PTs (b50 X (c00 own capt) sc cl C s H fp) tests tt) (he:∀ cl pins σ H s,Inv X pins σ H s→(∀ x c,cl.lookup x=some c→X.env.cells.lookup x=some c)→Cond σ H→∀ C fp,(∀ b∈fp,K40 X pins H b)→PE (b50 X (c00 own capt) sc cl C s H fp) el (te σ H))
  (hs:∀ x,foldedSetIterable src X.env x=pure x:=by intro _;rfl):PE X (.ListComp el [⟨tg,src,tests,0⟩] sc ps) (λσ H Q=>wi σ H λJ H1=>Cond σ H1∧W00 J (m20 own capt σ) H1 g tt (te σ H1) Q):=by
 intro pins s σ H Q I h
 obtain⟨cl,hclos,hcl,hcf⟩:=K70 (scope:=sc) (env:=X.env) λy hy hk=>I.ok.has y.1 (S.frees y hy hk)
 rw[eval_ListComp]
 refine wpAny_comprehension_free (use:=none) rfl hs hclos S.kind S.locs (thn (hi pins s σ H _ I h) λv s1 h1=>thn h1 λitv s2 h2=>?_)
 obtain⟨it,fp,tn,J,H2,e,I2,T,st2,f2,cd,hw⟩:=h2
 subst e
 refine p70 hc S hcl hcf (hg cl) (ht cl) (λC fp hf=>he cl _ _ _ _ I2 hcl cd C fp hf) I2 T st2 f2 hw (RR:=λacc C=>compPost (model X.prog X.w) X.A X.xe none (EP X pins σ Q) acc C) λacc C s' hf=>?_
 obtain⟨D,H',m',rfl,I',f',ns',r⟩:=hf
 exact⟨m',ns',λh' sb=>⟨.ref D,H',I'.turned (t':=s'.toks) (λb o hb e=>(sb.2 b hb).trans e) f'.1 f'.2.1 f'.2.2.2.1 f'.2.2.2.2.1 f'.2.2.2.2.2,rfl,r⟩⟩
theorem D41{i:Nat}{y:Str}{py:Pos}(hN:X.N.Nodup)(hiN:X.N[i]?=some y)(hy:Loc X.env.scope y)(hsw:swapsWith (.ListComp el [⟨tg,src,tests,0⟩] sc ps) (some (.Name y py)) pos.line X.env=pure true)
  (hc:X.calm=true) (S:j90 X sc own capt) (hi:PI X tg src wi) (hg:∀ cl C s H fp,PG (b50 X (c00 own capt) sc cl C s H fp) tg g)
  (ht:∀ cl C s H fp,PTs (b50 X (c00 own capt) sc cl C s H fp) tests tt) (he:∀ cl C s H fp,PE (b50 X (c00 own capt) sc cl C s H fp) el te)
  (hs:∀ x,foldedSetIterable src X.env x=pure x:=by intro _;rfl) (hf:X.fn y=true∨X.env.scope.names.lookup y=some .local:=by first | exact .inl rfl | exact .inr rfl | assumption) :
  PS X (.Assign [.Name y py] (.ListComp el [⟨tg,src,tests,0⟩] sc ps) pos) (N91 (D31 own capt wi g tt te) (z40 i)):=by
 intro pins s σ H D I h
 obtain⟨cl,hclos,hcl,hcf⟩:=K70 (scope:=sc) (env:=X.env) λy hy hk=>I.ok.has y.1 (S.frees y hy hk)
 rw[exec_Assign_Name_used _ _ _ _ hsw]
 refine wpAny_bind (wpAny_standAt (wpAny_bind ?_))
 show wpAny _ X.A (do let _ ← comprehension (.ListComp el [⟨tg,src,tests,0⟩] sc ps) sc X.env _ (newList []) false (eval src X.env) (some (assign (.Name y py) X.env))) _ _ s
 refine wpAny_bind (wpAny_mono (wpAny_comprehension_free (use:=some (assign (.Name y py) X.env)) (Q:=λ_ s'=>SP X pins D .next s') rfl hs hclos S.kind S.locs
  (thn (hi pins s σ H _ I h) λv s1 h1=>thn h1 λitv s2 h2=>?_)) (λ_ s' hq=>wpAny_pure (wpAny_pure hq)) λ_ _ e=>e)
 obtain⟨it,fp,tn,J,H2,e,I2,T,st2,f2,hw⟩:=h2
 subst e
 refine p70 hc S hcl hcf (hg cl) (ht cl) (λC fp _=>he cl C _ _ fp) I2 T st2 f2 hw (RR:=λacc C=>compPost (model X.prog X.w) X.A X.xe (some (assign (.Name y py) X.env)) (λ_ s'=>SP X pins D .next s') acc C) λacc C s' hfn=>?_
 obtain⟨DA,H',m',rfl,I',f',ns',r⟩:=hfn
 show wpAny _ X.A (assign (.Name y py) X.env (.ref DA)) _ _ _
 refine wpAny_assign_Name (t20 (v:=.ref DA) I' hN hiN hy rfl (λs3 I3 ha=>?_) hf)
 obtain⟨a,sb,ha⟩:=ha
 have hCa:C≠a:=λz=>by
  rcases ha with q | q
  ·exact f'.2.1 (z.trans q)
  ·exact f'.2.2.2.2.1 _ _ q z.symm
 exact⟨m',ns'.sameBut sb hCa,λh' sb'=>⟨_,H',I3.turned (t':=s3.toks) (λb o hb e=>(sb'.2 b hb).trans e) f'.1 f'.2.1 f'.2.2.2.1 f'.2.2.2.2.1 f'.2.2.2.2.2,r⟩⟩
end
end L2
namespace L2
open PySem
section
variable {P:Program}{w:World}{A:Around}{E:Value→Shared→Prop}{s:Shared}
theorem l30(hr:s.heap.IsTupleIter r t k)(ht:s.heap.IsTuple t vs)(hx:vs[k]?=some x)
  (hQ:∀ h',h'.IsTupleIter r t (k + 1)→Heap.SameBut r s.heap h'→Q x { s with heap:=h' }):wpAny (model P w) A (nextOf (.ref r)) Q E s:=by
 obtain⟨o,ho,hc,hd⟩:=id hr;obtain⟨ot,hot,_,nt,hdt⟩:=ht;unfold nextOf
 refine wpAny_bind (wpAny_callSpecial?_slot (name:=Str.ofString "__next__") hr.typeIs F.slot_tuple_iterator_next (wpAny_call_entry F.slot_tuple_iterator_next hr.typeIs F.entry_tuple_iterator_next ?_ (F.args_tuple_iterator_next_1 _)))
 show wpAny _ _ (field (.ref r) 0 >>= _) _ _ s
 refine wpAny_bind (wpAny_field ho hd (x:=.ref t) rfl ?_);show wpAny _ _ (if (Value.ref t == Value.none)=true then _ else _) _ _ s
 rw[if_neg (show ¬ ((Value.ref t == Value.none)=true) from Bool.false_ne_true)];show wpAny _ _ (field (.ref r) 1 >>= _) _ _ s
 refine wpAny_bind (wpAny_field ho hd (x:=.int k 0) rfl ?_);show wpAny _ _ (seqItems? (.ref t) >>= _) _ _ s
 refine wpAny_bind (wpAny_seqItems hot hdt ?_);simp only[toNat_natCast,hx]
 refine wpAny_bind (wpAny_setField ho hd (by simp) (wpAny_pure ⟨x,rfl,wpAny_pure (hQ _ ⟨_,Heap.get?_update_self _ ho (Obj.isFreed_of_fields (Obj.data_mapFields hd _)),(Obj.cls_mapFields ..).trans hc,by rw[Obj.data_mapFields hd];simp[rawInt]⟩ (Heap.SameBut.update ..))⟩))
theorem i50(hh:A.handled=none)(hr:s.heap.IsTupleIter r t k)(ht:s.heap.IsTuple t vs)(hx:vs[k]?=none)
  (hE:∀ h' e,Heap.ExtBut r s.heap h'→(∃ o,h'.get? e=some o∧o.cls=.type "StopIteration")→E (.ref e) { s with heap:=h' }):wpAny (model P w) A (nextOf (.ref r)) Q E s:=by
 obtain⟨o,ho,hc,hd⟩:=id hr;obtain⟨ot,hot,_,nt,hdt⟩:=ht;unfold nextOf
 refine wpAny_bind (wpAny_callSpecial?_slot (name:=Str.ofString "__next__") hr.typeIs F.slot_tuple_iterator_next (wpAny_call_entry F.slot_tuple_iterator_next hr.typeIs F.entry_tuple_iterator_next ?_ (F.args_tuple_iterator_next_1 _)))
 show wpAny _ _ (field (.ref r) 0 >>= _) _ _ s
 refine wpAny_bind (wpAny_field ho hd (x:=.ref t) rfl ?_);show wpAny _ _ (if (Value.ref t == Value.none)=true then _ else _) _ _ s
 rw[if_neg (show ¬ ((Value.ref t == Value.none)=true) from Bool.false_ne_true)];show wpAny _ _ (field (.ref r) 1 >>= _) _ _ s
 refine wpAny_bind (wpAny_field ho hd (x:=.int k 0) rfl ?_);show wpAny _ _ (seqItems? (.ref t) >>= _) _ _ s
 refine wpAny_bind (wpAny_seqItems hot hdt ?_);simp only[toNat_natCast,hx]
 refine wpAny_bind (wpAny_rule (wpAny_bind (wpAny_setField ho hd (by simp) ?_)));show wpAny _ _ (newExc (.type "StopIteration") [] >>= _) _ _ _
 refine wpAny_bind ?_;simp only[newExc,newTuple]
 refine wpAny_bind (wpAny_newObj_type ?_ (by size_fits));refine wpAny_bind (m:=firstArgMember _ _) (wpAny_of_eq (a:=Value.none) (by first | rfl | (simp only[firstArgMember];rfl)) ?_)
 refine wpAny_newObj_type ?_ (by size_fits);simp only[raiseNew];refine wpAny_bind (wpAny_handled ?_)
 first | rw[show A.in1.handled=none from hh] | rw[hh]
 refine wpAny_bind (wpAny_pure (wpAny_throw (hE _ _ (((Heap.SameBut.update ..).extBut.push _).push _) ⟨_,Heap.get?_push_size _ rfl,rfl⟩)))
theorem c51{z TI TO i1 i2 l1 l2:Addr}{k:Nat}{xs ys:Array Value}{x y a b:Value}{Q:Option Value→Shared→Prop}(D:ZipApart z TI TO i1 i2 l1 l2)(hz:IsZip s.heap z TI TO .none)
  (hTI:IsPair s.heap TI (.ref i1) (.ref i2)) (hTO:IsPair s.heap TO a b) (h1:s.heap.IsTupleIter i1 l1 k) (h2:s.heap.IsTupleIter i2 l2 k) (hl1:s.heap.IsTuple l1 xs) (hl2:s.heap.IsTuple l2 ys)
  (hx:xs[k]?=some x) (hy:ys[k]?=some y)
  (hQ:∀ h',IsZip h' z TI TO (rawInt s.heap.objs.size)→IsPair h' TO x y→h'.IsTupleIter i1 l1 (k + 1)→h'.IsTupleIter i2 l2 (k + 1)→IsPair h' s.heap.objs.size x y→h'.objs.size=s.heap.objs.size + 1 →
   (∀ c o,c≠z→c≠TO→c≠i1→c≠i2→s.heap.get? c=some o→h'.get? c=some o)→Q (some (.ref s.heap.objs.size)) { s with heap:=h' }):wpAny (model P w) A (pyNext (.ref z)) Q E s:=by
 have hT:s.TypeIs (.ref z) "zip":=⟨_,hz,rfl⟩
 unfold pyNext;refine wpAny_bind (wpAny_attempt (wpAny_callSpecial?_slot (name:=Str.ofString "__next__") hT F.slot_zip_next (wpAny_call_entry F.slot_zip_next hT F.entry_zip_next ?_ (F.args_zip_next_1 _))))
 show wpAny _ _ (field (.ref z) 2 >>= _) _ _ _;refine wpAny_bind (wpAny_field hz rfl (x:=.bool false) rfl ?_)
 show wpAny _ _ (field (.ref z) 3 >>= _) _ _ _;refine wpAny_bind (wpAny_field hz rfl (x:=.ref TI) rfl ?_)
 refine wpAny_bind (wpAny_seqItems hTI rfl ?_);show wpAny _ _ (ownedTupleIsFree (.ref z) >>= _) _ _ _
 refine wpAny_bind ?_;unfold ownedTupleIsFree;refine wpAny_bind (wpAny_field hz rfl (x:=.none) rfl (wpAny_pure ?_));simp only[if_true]
 refine wpAny_bind (wpAny_rule (wpAny_bind (wpAny_field hz rfl (x:=.ref TO) rfl (wpAny_bind (wpAny_setField_rec hz (by simp) λg1 z1 e1=>?_)))))
 replace z1:IsZip g1 z TI TO .ellipsis:=z1
 refine wpAny_bind ?_;simp only[List.zipIdx_cons,List.zipIdx_nil,forIn_cons,List.forIn_nil]
 refine wpAny_bind (wpAny_bind (wpAny_onRaise ?_));show wpAny _ _ (nextOf (.ref i1) >>= _) _ _ _
 refine wpAny_bind (l30 (h1.extBut e1.extBut D.i1z) (hl1.extBut e1.extBut D.l1z) hx λg2 r2 e2=>wpAny_pure ?_)
 have t2:IsPair g2 TO a b:=e2.extBut _ _ D.TOi1 (e1.extBut _ _ D.TOz hTO)
 refine wpAny_bind (wpAny_seqItems t2 rfl (wpAny_bind (wpAny_updateSeq_pair t2 λg3 t3 e3=>?_)))
 replace t3:IsPair g3 TO x b:=t3
 refine wpAny_bind (wpAny_letGo (wpAny_pure ?_));refine wpAny_bind (wpAny_bind (wpAny_onRaise ?_));show wpAny _ _ (nextOf (.ref i2) >>= _) _ _ _
 refine wpAny_bind (l30 (((h2.extBut e1.extBut D.i2z).extBut e2.extBut D.i12.symm).extBut e3.extBut D.TOi2.symm) (((hl2.extBut e1.extBut D.l2z).extBut e2.extBut D.l2i1).extBut e3.extBut D.l2TO) hy λg4 r4 e4=>wpAny_pure ?_)
 have t4:IsPair g4 TO x b:=e4.extBut _ _ D.TOi2 t3
 refine wpAny_bind (wpAny_seqItems t4 rfl (wpAny_bind (wpAny_updateSeq_pair t4 λg5 t5 e5=>?_)))
 replace t5:IsPair g5 TO x y:=t5
 refine wpAny_bind (wpAny_letGo (wpAny_pure (wpAny_pure ?_)));refine wpAny_bind (wpAny_seqItems t5 rfl (wpAny_bind (wpAny_newTuple ?_)))
 have sz:g5.objs.size=s.heap.objs.size:=by rw[e5.1,e4.1,e3.1,e2.1,e1.1]
 have z5:IsZip g5 z TI TO .ellipsis:=e5.extBut _ _ D.TOz.symm (e4.extBut _ _ D.i2z.symm (e3.extBut _ _ D.TOz.symm (e2.extBut _ _ D.i1z.symm z1)))
 have kp:∀ c o,c≠z→c≠TO→c≠i1→c≠i2→s.heap.get? c=some o→g5.get? c=some o:=λc o c1 c2 c3 c4 e=>e5.extBut _ _ c2 (e4.extBut _ _ c4 (e3.extBut _ _ c2 (e2.extBut _ _ c3 (e1.extBut _ _ c1 e))))
 have r1:g5.IsTupleIter i1 l1 (k + 1):=((r2.extBut e3.extBut D.TOi1.symm).extBut e4.extBut D.i12).extBut e5.extBut D.TOi1.symm
 have r5:g5.IsTupleIter i2 l2 (k + 1):=r4.extBut e5.extBut D.TOi2.symm
 have zl:z < g5.objs.size:=lt_size z5
 show wpAny _ _ (ownedTupleHandOut (.ref z) (.ref g5.objs.size) >>= _) _ _ _
 refine wpAny_bind ?_;unfold ownedTupleHandOut
 have z6:IsZip (g5.push { cls:=.type "tuple",data:=.seq #[x,y] }) z TI TO .ellipsis:=Heap.get?_push_of_some _ z5
 refine wpAny_bind (wpAny_setField_rec z6 (by simp) λg7 z7 e7=>?_)
 replace z7:IsZip g7 z TI TO (rawInt g5.objs.size):=z7
 refine wpAny_setField_rec z7 (by simp) λg8 z8 e8=>?_
 replace z8:IsZip g8 z TI TO (rawInt g5.objs.size):=z8
 have up:∀ c o,c≠z→g5.get? c=some o→g8.get? c=some o:=λc o c1 e=>e8.extBut _ _ c1 (e7.extBut _ _ c1 (Heap.get?_push_of_some _ e))
 have t8:IsPair g8 g5.objs.size x y:=e8.extBut _ _ (ne_of_gt zl) (e7.extBut _ _ (ne_of_gt zl) (Heap.get?_push_size _ rfl))
 have s8:g8.objs.size=g5.objs.size + 1:=by rw[e8.1,e7.1,size_push]
 rw[sz] at z8 t8 s8
 refine wpAny_pure ⟨_,rfl,?_⟩;refine wpAny_pure ?_;show Q (some (.ref g5.objs.size)) _;rw[sz]
 exact hQ g8 z8 (up _ _ D.TOz t5) (by obtain⟨o,ho,q⟩:=r1;exact⟨o,up _ o D.i1z ho,q⟩) (by obtain⟨o,ho,q⟩:=r5;exact⟨o,up _ o D.i2z ho,q⟩) t8 s8 λc o c1 c2 c3 c4 e=>up c o c1 (kp c o c1 c2 c3 c4 e)
theorem r21{z TI TO i1 i2 l1 l2:Addr}{k:Nat}{xs ys:Array Value}{a b:Value}{Q:Option Value→Shared→Prop}(hh:A.handled=none)(D:ZipApart z TI TO i1 i2 l1 l2)(hz:IsZip s.heap z TI TO .none)
  (hTI:IsPair s.heap TI (.ref i1) (.ref i2)) (hTO:IsPair s.heap TO a b) (h1:s.heap.IsTupleIter i1 l1 k) (h2:s.heap.IsTupleIter i2 l2 k) (hl1:s.heap.IsTuple l1 xs) (hl2:s.heap.IsTuple l2 ys)
  (hend:xs[k]?=none∨ys[k]?=none) (hQ:∀ h',(∀ c o,c≠z→c≠TO→c≠i1→c≠i2→s.heap.get? c=some o→h'.get? c=some o)→Q none { s with heap:=h' }):wpAny (model P w) A (pyNext (.ref z)) Q E s:=by
 have hT:s.TypeIs (.ref z) "zip":=⟨_,hz,rfl⟩
 have fin:∀ (h':Heap) (e:Addr),(∀ c o,c≠z→c≠TO→c≠i1→c≠i2→s.heap.get? c=some o→h'.get? c=some o)→(∃ o,h'.get? e=some o∧o.cls=.type "StopIteration") →
   wpAny (model P w) A (isInstance (.ref e) (.type "StopIteration") >>= λb=>if b=true then pure none else throw (.ref e)) Q E { s with heap:=h' }:=λh' e kp he=>by
  obtain⟨o,ho,hc⟩:=he
  exact wpAny_bind (wpAny_isInstance (T:="StopIteration") (b:=true) ⟨o,ho,hc⟩ isSubtype_stop (wpAny_pure (hQ _ kp)))
 unfold pyNext;refine wpAny_bind (wpAny_attempt (wpAny_callSpecial?_slot (name:=Str.ofString "__next__") hT F.slot_zip_next (wpAny_call_entry F.slot_zip_next hT F.entry_zip_next ?_ (F.args_zip_next_1 _))))
 show wpAny _ _ (field (.ref z) 2 >>= _) _ _ _;refine wpAny_bind (wpAny_field hz rfl (x:=.bool false) rfl ?_)
 show wpAny _ _ (field (.ref z) 3 >>= _) _ _ _;refine wpAny_bind (wpAny_field hz rfl (x:=.ref TI) rfl ?_)
 refine wpAny_bind (wpAny_seqItems hTI rfl ?_);show wpAny _ _ (ownedTupleIsFree (.ref z) >>= _) _ _ _
 refine wpAny_bind ?_;unfold ownedTupleIsFree;refine wpAny_bind (wpAny_field hz rfl (x:=.none) rfl (wpAny_pure ?_));simp only[if_true]
 refine wpAny_bind (wpAny_rule (wpAny_bind (wpAny_field hz rfl (x:=.ref TO) rfl (wpAny_bind (wpAny_setField_rec hz (by simp) λg1 z1 e1=>?_)))))
 replace z1:IsZip g1 z TI TO .ellipsis:=z1
 refine wpAny_bind ?_;simp only[List.zipIdx_cons,List.zipIdx_nil,forIn_cons,List.forIn_nil]
 refine wpAny_bind (wpAny_bind (wpAny_onRaise ?_));show wpAny _ _ (nextOf (.ref i1) >>= _) _ _ _
 cases hx:xs[k]? with
 |none =>
  refine wpAny_bind (i50 hh (h1.extBut e1.extBut D.i1z) (hl1.extBut e1.extBut D.l1z) hx λg2 e e2 he=>?_)
  obtain⟨oe,hoe,hce⟩:=he
  have z2:IsZip g2 z TI TO .ellipsis:=e2 _ _ D.i1z.symm z1
  have hez:e≠z:=λq=>by subst q;rw[z2] at hoe;cases hoe;simp at hce
  exact wpAny_setField_rec z2 (by simp) λg3 _ e3=>fin g3 e (λc o c1 _ c3 _ q=>e3.extBut _ _ c1 (e2 _ _ c3 (e1.extBut _ _ c1 q))) ⟨oe,e3.extBut _ _ hez hoe,hce⟩
 |some x =>
  have hy:ys[k]?=none:=by rcases hend with q | q;rw[hx] at q;cases q;exact q
  refine wpAny_bind (l30 (h1.extBut e1.extBut D.i1z) (hl1.extBut e1.extBut D.l1z) hx λg2 r2 e2=>wpAny_pure ?_)
  have t2:IsPair g2 TO a b:=e2.extBut _ _ D.TOi1 (e1.extBut _ _ D.TOz hTO)
  refine wpAny_bind (wpAny_seqItems t2 rfl (wpAny_bind (wpAny_updateSeq_pair t2 λg3 t3 e3=>?_)))
  refine wpAny_bind (wpAny_letGo (wpAny_pure ?_));refine wpAny_bind (wpAny_bind (wpAny_onRaise ?_));show wpAny _ _ (nextOf (.ref i2) >>= _) _ _ _
  refine wpAny_bind (i50 hh (((h2.extBut e1.extBut D.i2z).extBut e2.extBut D.i12.symm).extBut e3.extBut D.TOi2.symm) (((hl2.extBut e1.extBut D.l2z).extBut e2.extBut D.l2i1).extBut e3.extBut D.l2TO) hy λg4 e e4 he=>?_)
  obtain⟨oe,hoe,hce⟩:=he
  have z4:IsZip g4 z TI TO .ellipsis:=e4 _ _ D.i2z.symm (e3.extBut _ _ D.TOz.symm (e2.extBut _ _ D.i1z.symm z1))
  have hez:e≠z:=λq=>by subst q;rw[z4] at hoe;cases hoe;simp at hce
  exact wpAny_setField_rec z4 (by simp) λg5 _ e5=>fin g5 e (λc o c1 c2 c3 c4 q=>e5.extBut _ _ c1 (e4 _ _ c4 (e3.extBut _ _ c2 (e2.extBut _ _ c3 (e1.extBut _ _ c1 q))))) ⟨oe,e5.extBut _ _ hez hoe,hce⟩
abbrev zT1(h:Heap)(l1:Addr):Heap:=h.push { cls:=.type "tuple_iterator",data:=.fields #[.ref l1,.int 0 0] }
abbrev zT2(h:Heap)(l1 l2:Addr):Heap:=(zT1 h l1).push { cls:=.type "tuple_iterator",data:=.fields #[.ref l2,.int 0 0] }
abbrev zT3(h:Heap)(l1 l2:Addr):Heap:=(zT2 h l1 l2).push { cls:=.type "tuple",data:=.seq #[.ref h.objs.size,.ref (zT1 h l1).objs.size] }
abbrev zT4(h:Heap)(l1 l2:Addr):Heap:=(zT3 h l1 l2).push { cls:=.type "tuple",data:=.seq #[.none,.none] }
abbrev zT5(h:Heap)(l1 l2:Addr):Heap:=(zT4 h l1 l2).push { cls:=.type "zip",data:=.fields #[.none,.bool false,.bool false,.ref (zT2 h l1 l2).objs.size,.ref (zT3 h l1 l2).objs.size] }
theorem W10(l1 l2:Addr)(xs ys:Array Value) :
  Meets (Builtin.«zip.__new__» ⟨[.type "zip",.ref l1,.ref l2],[]⟩) (λ_ R s=>s.heap.IsTuple l1 xs∧s.heap.IsTuple l2 ys∧R (.ok (.ret (.ref (zT4 s.heap l1 l2).objs.size))) { s with heap:=zT5 s.heap l1 l2 }) :=
 .of_wp λP w A R s h=>by
  obtain⟨hp,g,d,tk,os⟩:=s;obtain⟨hl1,hl2,h⟩:=h
  have hsub:=sub_zip
  have hL1:Heap.IsTuple (Shared.heap ⟨hp,g,d,tk,os⟩) l1 xs:=hl1
  have hL2:Heap.IsTuple (Shared.heap ⟨hp.push { cls:=.type "tuple_iterator",data:=.fields #[.ref l1,.int 0 0] },g,d,tk,os⟩) l2 ys:=Heap.IsTuple.push hl2 _
  wp_walk using wpAny_pyIter_tuple hL1,wpAny_pyIter_tuple hL2
  exact⟨_,rfl,h⟩
theorem c61(hl1:s.heap.IsTuple l1 xs)(hl2:s.heap.IsTuple l2 ys)
  (h:∀ h',IsZip h' (s.heap.objs.size + 4) (s.heap.objs.size + 2) (s.heap.objs.size + 3) .none→IsPair h' (s.heap.objs.size + 2) (.ref s.heap.objs.size) (.ref (s.heap.objs.size + 1))→IsPair h' (s.heap.objs.size + 3) .none .none →
   h'.IsTupleIter s.heap.objs.size l1 0→h'.IsTupleIter (s.heap.objs.size + 1) l2 0→(∀ c o,s.heap.get? c=some o→h'.get? c=some o)→Q (.ref (s.heap.objs.size + 4)) { s with heap:=h' }) :
  wpAny (model P w) A (call (.type "zip") [.ref l1,.ref l2]) Q E s:=by
 refine callType_new F.called_zip (by decide) (F.typeCall_zip_2 _ _) (F.newCall_zip_2 _ _) (λobj=>F.args_object_init_3 obj _ _) F.entry_zip_new (W10 l1 l2 xs ys) ⟨hl1,hl2,?_⟩
 have n1:(zT1 s.heap l1).objs.size=s.heap.objs.size + 1:=size_push ..
 have n2:(zT2 s.heap l1 l2).objs.size=s.heap.objs.size + 2:=by rw[size_push,n1]
 have n3:(zT3 s.heap l1 l2).objs.size=s.heap.objs.size + 3:=by rw[size_push,n2]
 have n4:(zT4 s.heap l1 l2).objs.size=s.heap.objs.size + 4:=by rw[size_push,n3]
 have g5:(zT5 s.heap l1 l2).get? (zT4 s.heap l1 l2).objs.size=some _:=Heap.get?_push_size _ rfl
 have g4:(zT5 s.heap l1 l2).get? (zT3 s.heap l1 l2).objs.size=some _:=Heap.get?_push_of_some _ (Heap.get?_push_size _ rfl)
 have g3:(zT5 s.heap l1 l2).get? (zT2 s.heap l1 l2).objs.size=some _:=Heap.get?_push_of_some _ (Heap.get?_push_of_some _ (Heap.get?_push_size _ rfl))
 have g2:(zT5 s.heap l1 l2).get? (zT1 s.heap l1).objs.size=some _:=Heap.get?_push_of_some _ (Heap.get?_push_of_some _ (Heap.get?_push_of_some _ (Heap.get?_push_size _ rfl)))
 have g1:(zT5 s.heap l1 l2).get? s.heap.objs.size=some _:=Heap.get?_push_of_some _ (Heap.get?_push_of_some _ (Heap.get?_push_of_some _ (Heap.get?_push_of_some _ (Heap.get?_push_size _ rfl))))
 show _∧_;rw[n2,n3,n4] at g5;rw[n1,n2] at g3;rw[n3] at g4;rw[n1] at g2;rw[n4]
 exact⟨⟨_,g5,rfl⟩,h _ g5 g3 g4 ⟨_,g1,rfl,rfl⟩ ⟨_,g2,rfl,rfl⟩ λc o q=>Heap.get?_push_of_some _ (Heap.get?_push_of_some _ (Heap.get?_push_of_some _ (Heap.get?_push_of_some _ (Heap.get?_push_of_some _ q))))⟩
end
open PySem PySem.Spec PyProof.Rows
section
variable {X:Cx}{pins:List (Addr × Obj)}{σ:St}{H:Hp}{s:Shared}{h':Heap}
theorem Inv.A40{t':Nat}{ch:List Addr}(I:Inv X pins σ H s)(hf:∀ b∈ch,K40 X pins H b)(k:∀ b o,b ∉ ch→s.heap.get? b=some o→h'.get? b=some o):Inv X pins σ H { s with heap:=h',toks:=t' }:=by
 have nch:∀ b u,H b=some u→b ∉ ch:=λb u e z=>by rw[(hf b z).1] at e;cases e
 refine I.step (g':=s.gens) (d':=s.drawn) (ch:=ch) (λb hb=>⟨(hf b hb).2.2.2.1,(hf b hb).2.1,(hf b hb).2.2.2.2.1,(hf b hb).2.2.2.2.2⟩) (λb o _ _ hc e _=>k b o hc e) (λb o _ _ hc e _=>⟨o.slots,k b o hc e⟩) (λ_ _ _ _ n=>n)
  (λb o hc e=>⟨o,k b o hc e⟩) (λ_ _ e=>e) (λ_ _ _ e=>e) (λb ps e=>⟨#[],by rw[e];simp⟩) (λm hm=>?_) (λb u e=>?_) I.bare
 ·obtain⟨o,es,ep,ho,r⟩:=hm
  exact⟨o,es,ep,k _ o (λz=>(hf _ z).2.1 rfl) ho,r⟩
 ·refine(I.hok b u e).j40 (λc v hc q=>k c v ?_ q) (λ_ q=>q) λ_ _ q=>q
  rcases hc with z | z
  ·rw[z];exact nch b u e
  ·exact nch c _ z
theorem Inv.r01{T:Addr}{o:HO}(I:Inv X pins σ H s)(f:K40 X pins H T)(h0:X.s₀.heap.objs.size≤T)(hok:HOk X.prog X.w (upd H T o) s.heap):Inv X pins σ (upd H T o) s:=by
 have u:=I.base
 refine⟨I.ok,I.os,I.bare,⟨u.keep,u.slot,λb ob e n hx=>?_,u.there,λb xs e=>?_,λb ob xs e=>?_,λb ps e=>?_⟩,I.loc,I.cell,?_,λx c e=>?_,λp hp=>?_,hok,I.len⟩
 ·rw[a20 (Nat.ne_of_lt (Nat.lt_of_lt_of_le (lt_size e) h0))];exact u.free b ob e n hx
 ·have z:=u.tups b xs e;rw[a20 (a60 z f.1)];exact z
 ·have z:=u.frzs b ob xs e;rw[a20 (a60 z f.1)];exact z
 ·obtain⟨more,z⟩:=u.tbls b ps e
  exact⟨more,by rw[a20 (a60 z f.1)];exact z⟩
 ·rw[a20 f.2.1.symm];exact I.free
 ·rw[a20 (f.2.2.2.2.1 x c e)];exact I.freeC x c e
 ·obtain⟨e,n,r⟩:=I.pin p hp
  exact⟨e,by rw[a20 (f.2.2.2.2.2 p hp)];exact n,r⟩
theorem HOk.y61{P:Program}{w:World}{H:Hp}{h:Heap}{D:Addr}{ys:List V}{its:List Value}(x:HOk P w H h)(hn:H D=none)(hv:Vals ys its)(hz:ys.length≤sizeLine)(ho:IsTup h D its.toArray):HOk P w (upd H D (.tup ys)) h:=λb u e=>by
 by_cases hb:b=D
 ·subst hb;rw[a80] at e;cases e;exact⟨hz,its,hv,ho⟩
 ·rw[a20 hb] at e
  exact(x b u e).j40 (λc v _ q=>q) (λc q=>by rw[a20 (a60 q hn)];exact q) λc xs q=>by rw[a20 (a60 q hn)];exact q
end
def SqB:Bool→PySem.W.Frag→Hp→Addr→List V→Prop
 |true=>SqL
 |false=>SqT
def F80:Bool→Heap→Addr→Addr→Nat→Prop
 |true=>Heap.IsListIter
 |false=>Heap.IsTupleIter
def r31:Bool→Heap→Addr→Array Value→Prop
 |true=>Heap.IsList
 |false=>Heap.IsTuple
theorem F80.obj{b:Bool}{h:Heap}{it a:Addr}{i:Nat}(st:F80 b h it a i):∃ o,h.get? it=some o∧(∀ v,o.data=.cell v→False)∧∀ h':Heap,h'.get? it=some o→F80 b h' it a i:=by
 cases b with
 |true=>obtain⟨o,g,c,d⟩:=st;exact⟨o,g,(λv e=>by rw[d] at e;cases e),λh' k=>⟨o,k,c,d⟩⟩
 |false=>obtain⟨o,g,c,d⟩:=st;exact⟨o,g,(λv e=>by rw[d] at e;cases e),λh' k=>⟨o,k,c,d⟩⟩
theorem Inv.r41(I:Inv X pins σ H s)(h:SqB b X.K H a xs):∃ its:List Value,Vals xs its∧r31 b s.heap a its.toArray∧a < s.heap.objs.size∧∀ ys,SqB b X.K H a ys→ys=xs:=by
 cases b with
 |true=>obtain⟨its,r,p,_⟩:=I.list h;exact⟨its,r,p.isList,by obtain⟨o,e,_⟩:=p.isList;exact lt_size e,λys h'=>I.P30 h' h⟩
 |false=>obtain⟨its,r,p,_⟩:=I.tuple h;exact⟨its,r,p,by obtain⟨o,e,_⟩:=p;exact lt_size e,λys h'=>I.E30 h' h⟩
section
variable {P:Program}{w:World}{A:Around}{E:Value→Shared→Prop}{s:Shared}{b:Bool}{z TI TO i1 i2 l1 l2:Addr}{k:Nat}{xs ys:Array Value}{x y p q:Value}
theorem c71{Q:Option Value→Shared→Prop}(D:ZipApart z TI TO i1 i2 l1 l2)(hz:IsZip s.heap z TI TO .none)(hTI:IsPair s.heap TI (.ref i1) (.ref i2))(hTO:IsPair s.heap TO p q)(h1:F80 b s.heap i1 l1 k)(h2:F80 b s.heap i2 l2 k)(hl1:r31 b s.heap l1 xs)(hl2:r31 b s.heap l2 ys)(hx:xs[k]?=some x)(hy:ys[k]?=some y)
  (hQ:∀ h',IsZip h' z TI TO (rawInt s.heap.objs.size)→IsPair h' TO x y→F80 b h' i1 l1 (k + 1)→F80 b h' i2 l2 (k + 1)→IsPair h' s.heap.objs.size x y→h'.objs.size=s.heap.objs.size + 1 →
   (∀ c o,c≠z→c≠TO→c≠i1→c≠i2→s.heap.get? c=some o→h'.get? c=some o)→Q (some (.ref s.heap.objs.size)) { s with heap:=h' }):wpAny (model P w) A (pyNext (.ref z)) Q E s:=match b,h1,h2,hl1,hl2,hQ with
 |true,h1,h2,hl1,hl2,hQ=>wpAny_pyNext_zip_item D hz hTI hTO h1 h2 hl1 hl2 hx hy hQ
 |false,h1,h2,hl1,hl2,hQ=>c51 D hz hTI hTO h1 h2 hl1 hl2 hx hy hQ
theorem r51{Q:Option Value→Shared→Prop}(hh:A.handled=none)(D:ZipApart z TI TO i1 i2 l1 l2)(hz:IsZip s.heap z TI TO .none)(hTI:IsPair s.heap TI (.ref i1) (.ref i2))(hTO:IsPair s.heap TO p q)(h1:F80 b s.heap i1 l1 k)(h2:F80 b s.heap i2 l2 k)(hl1:r31 b s.heap l1 xs)(hl2:r31 b s.heap l2 ys)
  (hend:xs[k]?=none∨ys[k]?=none) (hQ:∀ h',(∀ c o,c≠z→c≠TO→c≠i1→c≠i2→s.heap.get? c=some o→h'.get? c=some o)→Q none { s with heap:=h' }):wpAny (model P w) A (pyNext (.ref z)) Q E s:=match b,h1,h2,hl1,hl2 with
 |true,h1,h2,hl1,hl2=>wpAny_pyNext_zip_end hh D hz hTI hTO h1 h2 hl1 hl2 hend hQ
 |false,h1,h2,hl1,hl2=>r21 hh D hz hTI hTO h1 h2 hl1 hl2 hend hQ
theorem c81{Q:Value→Shared→Prop}(hl1:r31 b s.heap l1 xs)(hl2:r31 b s.heap l2 ys)
  (h:∀ h',IsZip h' (s.heap.objs.size + 4) (s.heap.objs.size + 2) (s.heap.objs.size + 3) .none→IsPair h' (s.heap.objs.size + 2) (.ref s.heap.objs.size) (.ref (s.heap.objs.size + 1))→IsPair h' (s.heap.objs.size + 3) .none .none →
   F80 b h' s.heap.objs.size l1 0→F80 b h' (s.heap.objs.size + 1) l2 0→(∀ c o,s.heap.get? c=some o→h'.get? c=some o)→Q (.ref (s.heap.objs.size + 4)) { s with heap:=h' }):wpAny (model P w) A (call (.type "zip") [.ref l1,.ref l2]) Q E s:=match b,hl1,hl2,h with
 |true,hl1,hl2,h=>call_zip_2 hl1 hl2 λh' a1 a2 a3 a4 a5 _ a6=>h h' a1 a2 a3 a4 a5 a6
 |false,hl1,hl2,h=>c61 hl1 hl2 h
end
def Itz(b:Bool)(K:PySem.W.Frag)(a c:Addr):It :=
 ⟨λi H=>∃ xs ys x y,SqB b K H a xs∧SqB b K H c ys∧xs[i]?=some x∧ys[i]?=some y,
  λi H v H'=>∃ T,v=.ref T∧H T=none∧∀ xs ys x y,SqB b K H a xs→SqB b K H c ys→xs[i]?=some x→ys[i]?=some y→H'=upd H T (.tup [x,y]),
  λi H=>∃ xs ys,SqB b K H a xs∧SqB b K H c ys∧(xs.length≤i∨ys.length≤i)⟩
theorem r61{P:Program}{w:World}{K:PySem.W.Frag}{es:List Expr}{ek:Nat}{ep:Pos}{b:Bool}{a c z TI TO i1 i2:Addr}(D:ZipApart z TI TO i1 i2 a c) :
  Turn P w K (.Tuple es ek ep) (Itz b K a c) [z,TI,TO,i1,i2] z (λi h=>IsZip h z TI TO .none∧IsPair h TI (.ref i1) (.ref i2)∧(∃ p q,IsPair h TO p q)∧F80 b h i1 a i∧F80 b h i2 c i) where
 mem:=by simp
 obj:=λi h st c hc=>by
  obtain⟨hz,hTI,⟨p,q,hTO⟩,h1,h2⟩:=st
  obtain⟨o1,h1,d1,_⟩:=h1.obj
  obtain⟨o2,h2,d2,_⟩:=h2.obj
  simp only[mem_cons,not_mem_nil,or_false] at hc
  rcases hc with rfl | rfl | rfl | rfl | rfl
  ·exact⟨_,hz,λv e=>by cases e⟩
  ·exact⟨_,hTI,λv e=>by cases e⟩
  ·exact⟨_,hTO,λv e=>by cases e⟩
  ·exact⟨_,h1,d1⟩
  ·exact⟨_,h2,d2⟩
 keep:=λi h h' st k=>by
  obtain⟨hz,hTI,⟨p,q,hTO⟩,h1,h2⟩:=st
  obtain⟨o1,h1,_,r1⟩:=h1.obj
  obtain⟨o2,h2,_,r2⟩:=h2.obj
  exact⟨k z (by simp) _ hz,k TI (by simp) _ hTI,⟨p,q,k TO (by simp) _ hTO⟩,r1 _ (k i1 (by simp) _ h1),r2 _ (k i2 (by simp) _ h2)⟩
 item:=by
  intro X hP hw hK hc i pins s σ H E I hf st hg
  subst hP hw hK
  obtain⟨xs,ys,x,y,hq1,hq2,hx,hy⟩:=hg
  obtain⟨v1,rv1,p1,_,z1⟩:=I.r41 hq1
  obtain⟨v2,rv2,p2,_,z2⟩:=I.r41 hq2
  obtain⟨u1,hu1,ru1⟩:=rv1.get hx
  obtain⟨u2,hu2,ru2⟩:=rv2.get hy
  obtain⟨hz,hTI,⟨p,q,hTO⟩,h1,h2⟩:=st
  refine c71 D hz hTI hTO h1 h2 p1 p2 (x:=u1) (y:=u2) (by simpa using hu1) (by simpa using hu2) λg1 gz gTO g1' g2' gT gs kp=>⟨_,rfl,?_⟩
  refine wpAny_letOwnedTupleGo_zip (s:={ s with heap:=g1 }) gz λg2 gz2 sb=>?_
  have hT:H s.heap.objs.size=none:=I.hok.fresh (Nat.le_refl _)
  have kall:∀ c o,c ∉ [z,TI,TO,i1,i2]→s.heap.get? c=some o→g2.get? c=some o:=λc o hc e=>by
   simp only[mem_cons,not_mem_nil,or_false,not_or] at hc
   exact sb.extBut _ _ hc.1 (kp c o hc.1 hc.2.2.1 hc.2.2.2.1 hc.2.2.2.2 e)
  have I2:Inv X pins σ H { s with heap:=g2 }:=I.A40 (t':=s.toks) hf kall
  have fT:K40 X pins H s.heap.objs.size:=I.Y90 (Nat.le_refl _) hT
  have gT2:g2.get? s.heap.objs.size=some { cls:=.type "tuple",data:=.seq #[u1,u2] }:=sb.extBut _ _ (λe=>Nat.lt_irrefl _ (by have:=lt_size hz;rw[← e] at this;exact this)) gT
  have I3:Inv X pins σ (upd H s.heap.objs.size (.tup [x,y])) { s with heap:=g2 }:=I2.r01 fT I.sz (I2.hok.y61 hT (its:=[u1,u2]) (.cons ru1 (.cons ru2 .nil)) (by show 2≤sizeLine;rw[sizeLine_eq];decide) ⟨_,gT2,rfl,_,rfl⟩)
  have TI0:IsPair g2 TI (.ref i1) (.ref i2):=sb.extBut _ _ D.TIz (kp _ _ D.TIz D.TITO D.TIi1 D.TIi2 hTI)
  obtain⟨o1,w1,_,r1⟩:=g1'.obj
  obtain⟨o2,w2,_,r2⟩:=g2'.obj
  refine⟨.ref s.heap.objs.size,_,I3,rfl,⟨_,rfl,hT,λxs' ys' x' y' e1 e2 e3 e4=>?_⟩,⟨gz2,TI0,⟨_,_,sb.extBut _ _ D.TOz gTO⟩,r1 _ (sb.extBut _ _ D.i1z w1),r2 _ (sb.extBut _ _ D.i2z w2)⟩,λc hc=>?_⟩
  ·rw[z1 _ e1] at e3
   rw[z2 _ e2] at e4
   rw[hx] at e3;rw[hy] at e4
   cases e3;cases e4;rfl
  ·rw[a20]
   ·exact(hf c hc).1
   ·intro e
    obtain⟨o1,h1,_⟩:=h1.obj
    obtain⟨o2,h2,_⟩:=h2.obj
    have lt:c < s.heap.objs.size:=by
     simp only[mem_cons,not_mem_nil,or_false] at hc
     rcases hc with rfl | rfl | rfl | rfl | rfl
     ·exact lt_size hz
     ·exact lt_size hTI
     ·exact lt_size hTO
     ·exact lt_size h1
     ·exact lt_size h2
    rw[e] at lt
    exact Nat.lt_irrefl _ lt
 done:=by
  intro X hP hw hK hc i pins s σ H E I hf st hg
  subst hP hw hK
  obtain⟨xs,ys,hq1,hq2,hend⟩:=hg
  obtain⟨v1,rv1,p1,_⟩:=I.r41 hq1
  obtain⟨v2,rv2,p2,_⟩:=I.r41 hq2
  obtain⟨hz,hTI,⟨p,q,hTO⟩,h1,h2⟩:=st
  have l1:=rv1.length
  have l2:=rv2.length
  refine r51 (I.ok.hd hc) D hz hTI hTO h1 h2 p1 p2 (hend.elim (λe=>.inl (by simp;omega)) λe=>.inr (by simp;omega)) λg kp=>⟨rfl,I.A40 (t':=s.toks) hf λc o hcn e=>?_⟩
  simp only[mem_cons,not_mem_nil,or_false,not_or] at hcn
  exact kp c o hcn.1 hcn.2.2.1 hcn.2.2.2.1 hcn.2.2.2.2 e
 self:=λ_ _ _ _ _ st h=>wpAny_pyIter_zip st.1 h
def s72(K:PySem.W.Frag)(ta:TA):TI:=λσ H R=>ta σ H λvs H1=>∃ b a c,vs=[.ref a,.ref c]∧(∃ xs,SqB b K H1 a xs)∧(∃ ys,SqB b K H1 c ys)∧R (Itz b K a c) H1
theorem boot_zip:bootBuiltins "zip"=some (.type "zip"):=by decide +kernel
theorem P71{X:Cx}{a b:Expr}{es:List Expr}{ek:Nat}{ep:Pos}{ta:TA}{p pos:Pos}(hg:Gl X "zip")(hm:X.mg "zip"=none)(ha:PA X [a,b] ta)(hs:starEach [a,b] X.env=[(false,eval a X.env),(false,eval b X.env)]:=by rfl)(hs2:starEach [b] X.env=[(false,eval b X.env)]:=by rfl) :
  PI X (.Tuple es ek ep) (.Call (.Name "zip" p) [a,b] [] pos) (s72 X.K ta):=by
 intro pins s σ H R I h
 refine Call_ (n50 I hg hm boot_zip (PyProof.Rows.callWith_type1 (thn (ha pos pins s σ H _ I h) λus s1 ⟨vs,H1,I1,r1,q1⟩=>?_) (by rw[hs,hs2]) (by rw[hs2];rfl)))
 obtain⟨b,l1,l2,e,⟨xs,hq1⟩,⟨ys,hq2⟩,q⟩:=q1
 subst e
 obtain⟨u,w',rfl,r,r'⟩:=vals2 r1
 cases r;cases r'
 obtain⟨v1,rv1,p1,a1,_⟩:=I1.r41 hq1
 obtain⟨v2,rv2,p2,a2,_⟩:=I1.r41 hq2
 refine c81 p1 p2 λh' hz hTI hTO h1 h2 kp=>wpAny_pyIter_zip (s:={ s1 with heap:=h' }) hz ?_
 refine⟨_,[s1.heap.objs.size + 4,s1.heap.objs.size + 2,s1.heap.objs.size + 3,s1.heap.objs.size,s1.heap.objs.size + 1],_,_,H1,rfl,I1.kept (t':=s1.toks) kp,r61 (PyProof.Rows.zipApart_new a1 a2),⟨hz,hTI,⟨_,_,hTO⟩,h1,h2⟩,λc hc=>?_,q⟩
 have hc':s1.heap.objs.size≤c:=by
  simp only[mem_cons,not_mem_nil,or_false] at hc
  rcases hc with rfl | rfl | rfl | rfl | rfl
  ·exact le_add_right _ 4
  ·exact le_add_right _ 2
  ·exact le_add_right _ 3
  ·exact Nat.le_refl _
  ·exact le_add_right _ 1
 exact I1.Y90 hc' (I1.hok.fresh hc')
theorem r71(hc:X.calm=true):e40 X (.builtin "all") (λxs H Q=>∃ (a:Addr) (bs:List Bool),xs=[.ref a]∧SqL X.K H a (bs.map V.bl)∧Q (.bl (bs.all id)) H):=by
 intro pins s σ H xs us Q I r h
 obtain⟨a,bs,rfl,hq,q⟩:=h
 obtain⟨u,rfl,rx⟩:=vals1 r
 cases rx
 obtain⟨its,rv,pl,hz⟩:=I.list hq
 have hlt:a < s.heap.objs.size:=by obtain⟨_,e,_⟩:=pl.isList;exact lt_size e
 have hlen:its.length=bs.length:=by have:=rv.length;simpa using this.symm
 refine call_all_walk (wpAny_pyIter_list pl.isList ⟨_,_,_,_,_,_,λi=>(bs[i]?).getD true,rfl,Walks.list (by exact I.ok.hd hc) s.heap.objs.size a (Nat.ne_of_lt hlt) its.toArray,⟨⟨_,Heap.get?_push_size _ rfl,rfl,rfl⟩,pl.isList.push _⟩,?_,?_⟩)
 ·intro i v s' Q' E' hP hQ
  have hP':its[i]?=some v:=by simpa using hP
  have hi:i < bs.length:=by rw[← hlen];exact(List.getElem?_eq_some_iff.mp hP').1
  obtain⟨v',hv',rv'⟩:=rv.get (i:=i) (x:=.bl bs[i]) (by simp[hi])
  rw[hP'] at hv';cases hv'
  cases (show v=Value.bool _ from rv')
  exact wpAny_truthy_bool (by simpa [hi] using hQ)
 ·intro h' tk kp
  refine⟨.bl (bs.all id),H,I.kept λb o e=>kp b o (by simpa using Nat.ne_of_lt (lt_size e)) (Heap.get?_push_of_some _ e),?_,q⟩
  show Value.bool _=Value.bool _
  rw[size_toArray,hlen,PyProof.Rows.LSm.range_all]
end L2
namespace MySort
open PySem PySem.W PyProof.Rows
def run{α:Type}(cmp:Nat→Nat→Bool):KasT α→α
 |.ret a=>a
 |.ask i j k=>run cmp (k (cmp i j))
theorem run_bind(cmp:Nat→Nat→Bool)(f:α→KasT β):∀ t:KasT α,run cmp (t.bind f)=run cmp (f (run cmp t))
 |.ret _=>rfl
 |.ask i j k=>run_bind cmp f (k (cmp i j))
section
variable (O:KeyOrd) (key:Nat→O.α)
def kk(p:Array Nat)(i:Nat):O.α:=key (p.getD i 0)
abbrev h90:Nat→Nat→Bool:=λi j=>O.blt (key i) (key j)
def Up(p:Array Nat)(n:Nat):Prop:=∀ i j,i≤j→j < n→O.kle (kk O key p i) (kk O key p j)
def Dn(p:Array Nat)(n:Nat):Prop:=∀ i j,i≤j→j < n→O.kle (kk O key p j) (kk O key p i)
variable {O key}
theorem n70(h:p[i]?=q[j]?):kk O key p i=kk O key q j:=by
 unfold kk;rw[Array.getD_eq_getD_getElem?,Array.getD_eq_getD_getElem?,h]
theorem c91(hj:j≤p.size)(k:Nat):kk O key (kas_rev p i j) k=if i≤k∧k < j then kk O key p (i + j - 1 - k) else kk O key p k:=by
 have e:=getElem?_mirror_all (i:=i) hj k
 unfold kas_rev
 by_cases h1:i≤k∧k < j
 ·rw[if_pos h1] at e ⊢;exact n70 e
 ·rw[if_neg h1] at e ⊢;exact n70 e
theorem P81(hs:k < p.size)(hd:d≤k)(i:Nat) :
  kk O key (bubble p k d) i=if i=k - d then kk O key p k else if k - d < i∧i≤k then kk O key p (i - 1) else kk O key p i:=by
 have e:=getElem?_bubble hs d hd i
 by_cases h1:i=k - d
 ·rw[if_pos h1] at e ⊢;exact n70 e
 ·rw[if_neg h1] at e ⊢
  by_cases h2:k - d < i∧i≤k
  ·rw[if_pos h2] at e ⊢;exact n70 e
  ·rw[if_neg h2] at e ⊢;exact n70 e
theorem Up.more(h:Up O key p n)(h1:1≤n)(hl:O.kle (kk O key p (n - 1)) (kk O key p n)):Up O key p (n + 1):=by
 intro i j hij hj
 by_cases e:j=n
 ·subst e
  by_cases e2:i=j
  ·subst e2;exact KeyOrd.kle_refl _
  ·exact KeyOrd.kle_trans (h i (j - 1) (by omega) (by omega)) hl
 ·exact h i j hij (by omega)
theorem Dn.more(h:Dn O key p n)(h1:1≤n)(hl:O.kle (kk O key p n) (kk O key p (n - 1))):Dn O key p (n + 1):=by
 intro i j hij hj
 by_cases e:j=n
 ·subst e
  by_cases e2:i=j
  ·subst e2;exact KeyOrd.kle_refl _
  ·exact KeyOrd.kle_trans hl (h i (j - 1) (by omega) (by omega))
 ·exact h i j hij (by omega)
theorem d01:∀ (f n:Nat),1≤n→Up O key p n →
  n≤run (h90 O key) (kas_asc p f n)∧run (h90 O key) (kas_asc p f n)≤n + f∧Up O key p (run (h90 O key) (kas_asc p f n)) ∧
   (run (h90 O key) (kas_asc p f n) < n + f→O.klt (kk O key p (run (h90 O key) (kas_asc p f n))) (kk O key p (run (h90 O key) (kas_asc p f n) - 1)))
 |0,n,h1,hu=>⟨Nat.le_refl _,Nat.le_refl _,hu,λh=>absurd h (Nat.lt_irrefl _)⟩
 |f + 1,n,h1,hu=>by
  show n≤run _ (if O.blt (kk O key p n) (kk O key p (n - 1))=true then KasT.ret n else kas_asc p f (n + 1))∧run _ (if O.blt (kk O key p n) (kk O key p (n - 1))=true then KasT.ret n else kas_asc p f (n + 1))≤n + (f + 1) ∧
   Up O key p (run _ (if O.blt (kk O key p n) (kk O key p (n - 1))=true then KasT.ret n else kas_asc p f (n + 1))) ∧
   (run _ (if O.blt (kk O key p n) (kk O key p (n - 1))=true then KasT.ret n else kas_asc p f (n + 1)) < n + (f + 1) →
    O.klt (kk O key p (run _ (if O.blt (kk O key p n) (kk O key p (n - 1))=true then KasT.ret n else kas_asc p f (n + 1)))) (kk O key p (run _ (if O.blt (kk O key p n) (kk O key p (n - 1))=true then KasT.ret n else kas_asc p f (n + 1)) - 1)))
  cases hb:O.blt (kk O key p n) (kk O key p (n - 1)) with
  |true =>
   simp only[if_true]
   exact⟨Nat.le_refl _,by show n≤n + (f + 1);omega,hu,λ_=>hb⟩
  |false =>
   simp only[false_eq_true,if_false]
   have ih:=d01 f (n + 1) (by omega) (hu.more h1 hb)
   refine⟨by omega,by omega,ih.2.2.1,λh=>ih.2.2.2 (by omega)⟩
theorem rev_eq(hj:j≤p.size)(he:∀ k,i≤k→k < j→kk O key p k=kk O key p (j - 1))(k:Nat):kk O key (kas_rev p i j) k=kk O key p k:=by
 rw[c91 hj]
 split
 ·rw[he _ (by omega) (by omega),he k (by omega) (by omega)]
 ·rfl
theorem A50(p:Array Nat)(i j:Nat):(kas_rev p i j).Perm p:=mirror_perm _ _ _ _
theorem A60(p:Array Nat)(i j:Nat):(kas_rev p i j).size=p.size:=mirror_size _ _ _ _
structure DnR(O:KeyOrd)(key:Nat→O.α)(p0 p:Array Nat)(n q:Nat):Prop where
 perm:p.Perm p0
 size:p.size=p0.size
 pos:q + 1≤n
 dn:Dn O key p n
 eq:∀ k,n - (q + 1)≤k→k < n→kk O key p k=kk O key p (n - 1)
theorem DnR.rev(h:DnR O key p0 p n q)(hn:n≤p0.size):DnR O key p0 (kas_rev p (n - (q + 1)) n) n q:=by
 have hz:=h.size
 have e:=rev_eq (O:=O) (key:=key) (i:=n - (q + 1)) (j:=n) (p:=p) (by omega) h.eq
 exact⟨(A50 _ _ _).trans h.perm,(A60 _ _ _).trans hz,h.pos,λi j hij hj=>by rw[e,e];exact h.dn i j hij hj,λk h1 h2=>by rw[e,e];exact h.eq k h1 h2⟩
theorem K80:∀ (f:Nat) (p:Array Nat) (n q:Nat),DnR O key p0 p n q→n + f≤p0.size →
  n≤(run (h90 O key) (kas_desc f p n q)).2.1∧(run (h90 O key) (kas_desc f p n q)).2.1≤n + f ∧
   DnR O key p0 (run (h90 O key) (kas_desc f p n q)).1 (run (h90 O key) (kas_desc f p n q)).2.1 (run (h90 O key) (kas_desc f p n q)).2.2
 |0,p,n,q,h,_=>⟨Nat.le_refl _,Nat.le_refl _,h⟩
 |f + 1,p,n,q,h,hn=>by
  have hp:=h.pos
  have hz:=h.size
  have unf:run (h90 O key) (kas_desc (f + 1) p n q)=run (h90 O key) (if O.blt (kk O key p n) (kk O key p (n - 1))=true then(if q > 0 then kas_desc f (kas_rev p (n - (q + 1)) n) (n + 1) 0 else kas_desc f p (n + 1) 0)
   else .ask (p.getD (n - 1) 0) (p.getD n 0) λd=>if d=true then .ret (p,n,q) else kas_desc f p (n + 1) (q + 1)):=rfl
  rw[unf]
  cases hb:O.blt (kk O key p n) (kk O key p (n - 1)) with
  |true =>
   simp only[if_true]
   have go:∀ p',DnR O key p0 p' n q→(∀ k,kk O key p' k=kk O key p k)→n≤(run (h90 O key) (kas_desc f p' (n + 1) 0)).2.1∧(run (h90 O key) (kas_desc f p' (n + 1) 0)).2.1≤n + (f + 1) ∧
     DnR O key p0 (run (h90 O key) (kas_desc f p' (n + 1) 0)).1 (run (h90 O key) (kas_desc f p' (n + 1) 0)).2.1 (run (h90 O key) (kas_desc f p' (n + 1) 0)).2.2:=λp' h' e=>by
    have ih:=K80 f p' (n + 1) 0 ⟨h'.perm,h'.size,by omega,h'.dn.more (by omega) (by rw[e,e];exact KeyOrd.kle_of_klt hb),λk h1 h2=>by
     have:k=n:=by omega
     subst this;rfl⟩ (by omega)
    exact⟨by omega,by omega,ih.2.2⟩
   split
   ·exact go _ (h.rev (by omega)) (rev_eq (by omega) h.eq)
   ·exact go _ h λ_=>rfl
  |false =>
   simp only[false_eq_true,if_false]
   have unf2:run (h90 O key) (KasT.ask (p.getD (n - 1) 0) (p.getD n 0) λd=>if d=true then .ret (p,n,q) else kas_desc f p (n + 1) (q + 1)) =
    run (h90 O key) (if O.blt (kk O key p (n - 1)) (kk O key p n)=true then .ret (p,n,q) else kas_desc f p (n + 1) (q + 1)):=rfl
   rw[unf2]
   cases hc:O.blt (kk O key p (n - 1)) (kk O key p n) with
   |true =>
    simp only[if_true]
    exact⟨Nat.le_refl _,by show n≤n + (f + 1);omega,h⟩
   |false =>
    simp only[false_eq_true,if_false]
    have e:kk O key p n=kk O key p (n - 1):=O.total _ _ hb hc
    have ih:=K80 f p (n + 1) (q + 1) ⟨h.perm,h.size,by omega,h.dn.more (by omega) (by rw[e];exact KeyOrd.kle_refl _),λk h1 h2=>by
     show _=kk O key p n
     by_cases hk:k=n
     ·rw[hk]
     ·rw[e];exact h.eq k (by omega) (by omega)⟩ (by omega)
    exact⟨by omega,by omega,ih.2.2⟩
structure f72(O:KeyOrd)(key:Nat→O.α)(p0:Array Nat)(nrem:Nat)(r:Nat × Array Nat):Prop where
 perm:r.2.Perm p0
 size:r.2.size=p0.size
 lo:1≤r.1
 hi:r.1≤nrem
 up:Up O key r.2 r.1
theorem Q00(hp:p.Perm p0)(hz:p.size=p0.size)(hd:Dn O key p n)(h1:1≤n)(hn:n≤nrem)(hr:nrem≤p0.size):f72 O key p0 nrem (run (h90 O key) (kas_tail3 n nrem p)):=by
 unfold kas_tail3
 rw[run_bind]
 have hu:Up O key (kas_rev p 0 n) n:=λi j hij hj=>by
  rw[c91 (by omega),c91 (by omega),if_pos (by omega),if_pos (by omega)]
  exact hd _ _ (by omega) (by omega)
 have a:=d01 (O:=O) (key:=key) (p:=kas_rev p 0 n) (nrem - n) n h1 hu
 exact⟨(A50 _ _ _).trans hp,(A60 _ _ _).trans hz,by show 1≤run _ (kas_asc _ _ _);omega,by show run _ (kas_asc _ _ _)≤_;omega,a.2.2.1⟩
theorem t80(hp:p.Perm p0)(hz:p.size=p0.size)(hd:Dn O key p (n + 1))(hn:n + 1≤nrem)(hr:nrem≤p0.size):f72 O key p0 nrem (run (h90 O key) (kas_descPart n nrem p)):=by
 unfold kas_descPart
 rw[run_bind]
 have d:=K80 (O:=O) (key:=key) (p0:=p0) (nrem - (n + 1)) p (n + 1) 0 ⟨hp,hz,by omega,hd,λk h1 h2=>by
  have:k=n:=by omega
  subst this;rfl⟩ (by omega)
 obtain⟨d1,d2,d3⟩:=d
 have hpos:=d3.pos
 split
 ·have d4:=d3.rev (by omega)
  exact Q00 d4.perm d4.size d4.dn (by omega) (by omega) hr
 ·exact Q00 d3.perm d3.size d3.dn (by omega) (by omega) hr
theorem r81(h1:1≤nrem)(hr:nrem≤p.size):f72 O key p nrem (run (h90 O key) (kas_count nrem p)):=by
 unfold kas_count
 rw[run_bind]
 have a:=d01 (O:=O) (key:=key) (p:=p) (nrem - 1) 1 (Nat.le_refl _) (λi j hij hj=>by
  have:i=j:=by omega
  subst this;exact KeyOrd.kle_refl _)
 generalize run (h90 O key) (kas_asc p (nrem - 1) 1)=n at a ⊢
 obtain⟨a1,a2,a3,a4⟩:=a
 split
 ·exact⟨Array.Perm.refl _,rfl,a1,by show n≤nrem;omega,a3⟩
 ·rename_i hne
  have hlt:n < nrem:=by
   have:n≠nrem:=by simpa using hne
   omega
  have hl:=a4 (by omega)
  split
  ·rename_i h2
   have unf:run (h90 O key) (KasT.ask (p.getD 0 0) (p.getD (n - 1) 0) λc=>if c=true then .ret (n,p) else kas_descPart n nrem (kas_rev p 0 n)) =
    run (h90 O key) (if O.blt (kk O key p 0) (kk O key p (n - 1))=true then .ret (n,p) else kas_descPart n nrem (kas_rev p 0 n)):=rfl
   rw[unf]
   cases hb:O.blt (kk O key p 0) (kk O key p (n - 1)) with
   |true =>
    simp only[if_true]
    exact⟨Array.Perm.refl _,rfl,a1,by show n≤nrem;omega,a3⟩
   |false =>
    simp only[false_eq_true,if_false]
    have e0:kk O key p 0=kk O key p (n - 1):=O.total _ _ hb (a3 0 (n - 1) (by omega) (by omega))
    have e:∀ k,0≤k→k < n→kk O key p k=kk O key p (n - 1):=λk _ hk=>by
     refine KeyOrd.kle_antisymm (a3 k (n - 1) (by omega) (by omega)) ?_
     rw[← e0];exact a3 0 k (by omega) hk
    have er:=rev_eq (O:=O) (key:=key) (i:=0) (j:=n) (p:=p) (by omega) e
    refine t80 (A50 _ _ _) (A60 _ _ _) ?_ (by omega) hr
    have dn:Dn O key (kas_rev p 0 n) n:=λi j hij hj=>by
     rw[er,er,e i (by omega) (by omega),e j (by omega) (by omega)];exact KeyOrd.kle_refl _
    refine dn.more a1 ?_
    rw[er,er];exact KeyOrd.kle_of_klt hl
  ·have h2:n=1:=by omega
   subst h2
   refine t80 (Array.Perm.refl _) rfl ?_ (by omega) hr
   have dn:Dn O key p 1:=λi j hij hj=>by
    have:i=j:=by omega
    subst this;exact KeyOrd.kle_refl _
   exact dn.more (Nat.le_refl _) (KeyOrd.kle_of_klt hl)
theorem A70(hu:Up O key p k):∀ (f l r:Nat),l≤r→r≤k→r - l≤f→(∀ i,i < l→O.kle (kk O key p i) (kk O key p k))→(∀ i,r≤i→i < k→O.klt (kk O key p k) (kk O key p i)) →
  run (h90 O key) (kas_place p k f l r)≤k∧(∀ i,i < run (h90 O key) (kas_place p k f l r)→O.kle (kk O key p i) (kk O key p k))∧(∀ i,run (h90 O key) (kas_place p k f l r)≤i→i < k→O.klt (kk O key p k) (kk O key p i))
 |0,l,r,h1,h2,h3,h4,h5=>by
  have:l=r:=by omega
  subst this
  exact⟨h2,h4,h5⟩
 |f + 1,l,r,h1,h2,h3,h4,h5=>by
  have unf:kas_place p k (f + 1) l r=(if l ≥ r then .ret l else .ask (p.getD k 0) (p.getD ((l + r) / 2) 0) λc=>if c=true then kas_place p k f l ((l + r) / 2) else kas_place p k f ((l + r) / 2 + 1) r):=rfl
  rw[unf]
  by_cases hlr:l ≥ r
  ·rw[if_pos hlr]
   have:l=r:=by omega
   subst this
   exact⟨h2,h4,h5⟩
  ·rw[if_neg hlr]
   have unf2:run (h90 O key) (KasT.ask (p.getD k 0) (p.getD ((l + r) / 2) 0) λc=>if c=true then kas_place p k f l ((l + r) / 2) else kas_place p k f ((l + r) / 2 + 1) r) =
    run (h90 O key) (if O.blt (kk O key p k) (kk O key p ((l + r) / 2))=true then kas_place p k f l ((l + r) / 2) else kas_place p k f ((l + r) / 2 + 1) r):=rfl
   rw[unf2]
   cases hb:O.blt (kk O key p k) (kk O key p ((l + r) / 2)) with
   |true =>
    simp only[if_true]
    exact A70 hu f l ((l + r) / 2) (by omega) (by omega) (by omega) h4 λi hi hk=>KeyOrd.klt_of_klt_of_kle hb (hu _ i hi hk)
   |false =>
    simp only[false_eq_true,if_false]
    exact A70 hu f ((l + r) / 2 + 1) r (by omega) (by omega) (by omega) (λi hi=>KeyOrd.kle_trans (hu i ((l + r) / 2) (by omega) (by omega)) hb) h5
theorem y71:∀ (f:Nat) (p:Array Nat) (k:Nat),p.Perm p0→p.size=p0.size→Up O key p k→k + f≤p0.size →
  (run (h90 O key) (kas_bin f p k)).Perm p0∧Up O key (run (h90 O key) (kas_bin f p k)) (k + f)
 |0,p,k,hp,_,hu,_=>⟨hp,hu⟩
 |f + 1,p,k,hp,hz,hu,hk=>by
  have unf:kas_bin (f + 1) p k=(kas_place p k k 0 k).bind λl=>kas_bin f (bubble p k (k - l)) (k + 1):=rfl
  rw[unf,run_bind]
  have pl:=A70 (O:=O) (key:=key) hu k 0 k (by omega) (by omega) (by omega) (λi hi=>absurd hi (not_lt_zero _)) (λi h1 h2=>absurd h2 (by omega))
  generalize run (h90 O key) (kas_place p k k 0 k)=l at pl ⊢
  obtain⟨l1,l2,l3⟩:=pl
  have hb:=P81 (O:=O) (key:=key) (p:=p) (k:=k) (d:=k - l) (by omega) (by omega)
  have hu':Up O key (bubble p k (k - l)) (k + 1):=λi j hij hj=>by
   rw[hb,hb]
   have el:k - (k - l)=l:=by omega
   rw[el]
   by_cases ei:i=l
   ·rw[if_pos ei]
    by_cases ej:j=l
    ·rw[if_pos ej];exact KeyOrd.kle_refl _
    ·rw[if_neg ej,if_pos (by omega)]
     exact KeyOrd.kle_of_klt (l3 _ (by omega) (by omega))
   ·rw[if_neg ei]
    by_cases hi:l < i∧i≤k
    ·rw[if_pos hi,if_neg (by omega),if_pos (by omega)]
     exact hu _ _ (by omega) (by omega)
    ·rw[if_neg hi]
     by_cases ej:j=l
     ·rw[if_pos ej];exact l2 _ (by omega)
     ·rw[if_neg ej]
      by_cases hj':l < j∧j≤k
      ·rw[if_pos hj'];exact hu _ _ (by omega) (by omega)
      ·rw[if_neg hj'];exact hu _ _ hij (by omega)
  have ih:=y71 (p0:=p0) f (bubble p k (k - l)) (k + 1) ((bubble_perm _ _ _).trans hp) ((bubble_size _ _ _).trans hz) hu' (by omega)
  exact⟨ih.1,by have:=ih.2;rwa [show k + 1 + f=k + (f + 1) by omega] at this⟩
theorem D51(h1:1≤n):(run (h90 O key) (kas_sort n)).Perm (range n).toArray∧Up O key (run (h90 O key) (kas_sort n)) n:=by
 unfold kas_sort
 rw[run_bind]
 have c:=r81 (O:=O) (key:=key) (p:=(range n).toArray) h1 (by simp)
 generalize run (h90 O key) (kas_count n (range n).toArray)=r at c ⊢
 obtain⟨c1,c2,c3,c4,c5⟩:=c
 split
 ·have b:=y71 (O:=O) (key:=key) (n - max r.1 1) r.2 (max r.1 1) c1 c2 (by rw[Nat.max_eq_left c3];exact c5) (by simp;omega)
  exact⟨b.1,by have:=b.2;rwa [show max r.1 1 + (n - max r.1 1)=n by omega] at this⟩
 ·have:r.1=n:=by omega
  rw[this] at c5
  exact⟨c1,c5⟩
end
def j50{α:Type}(n:Nat):KasT α→Prop
 |.ret _=>True
 |.ask i j k=>(i < n∧j < n)∧∀ b,j50 n (k b)
def F90{α:Type}(G:α→Prop):KasT α→Prop
 |.ret a=>G a
 |.ask _ _ k=>∀ b,F90 G (k b)
theorem j50.bind{α β:Type}{n:Nat}{f:α→KasT β}{G:α→Prop}(hf:∀ a,G a→j50 n (f a)):∀ {t:KasT α},j50 n t→F90 G t→j50 n (t.bind f)
 |.ret a,_,g=>hf a g
 |.ask _ _ _,h,g=>⟨h.1,λb=>j50.bind hf (h.2 b) (g b)⟩
theorem F90.bind{α β:Type}{f:α→KasT β}{G:α→Prop}{G':β→Prop}(hf:∀ a,G a→F90 G' (f a)):∀ {t:KasT α},F90 G t→F90 G' (t.bind f)
 |.ret a,g=>hf a g
 |.ask _ _ _,g=>λb=>F90.bind hf (g b)
def Low(n:Nat)(p:Array Nat):Prop:=∀ i,p.getD i 0 < n
theorem d11(h1:1≤n)(hp:p.Perm q)(hq:∀ x∈q.toList,x < n):Low n p:=λi=>by
 by_cases hi:i < p.size
 ·have e:p.getD i 0=p[i]:=by simp[getD,hi]
  rw[e]
  exact hq _ (hp.toList.mem_iff.mp (by simp))
 ·have e:p.getD i 0=0:=by simp[getD,hi]
  rw[e];exact h1
structure Good(n:Nat)(q p:Array Nat):Prop where
 low:Low n p
 perm:p.Perm q
theorem Good.rev(h1:1≤n)(hq:∀ x∈q.toList,x < n)(g:Good n q p)(i j:Nat):Good n q (kas_rev p i j) :=
 have e:=(mirror_perm p i j ((j - i) / 2)).trans g.perm
 ⟨d11 h1 e hq,e⟩
theorem Good.bub(h1:1≤n)(hq:∀ x∈q.toList,x < n)(g:Good n q p)(i j:Nat):Good n q (bubble p i j) :=
 have e:=(bubble_perm p i j).trans g.perm
 ⟨d11 h1 e hq,e⟩
section
variable {n:Nat}{q:Array Nat}
theorem A80(g:Low n p):∀ (f k:Nat),j50 n (kas_asc p f k)
 |0,_=>trivial
 |f + 1,k=>⟨⟨g _,g _⟩,λb=>by cases b with | true=>exact trivial | false=>exact A80 g f (k + 1)⟩
theorem n80:∀ (f k:Nat),F90 (λ_=>True) (kas_asc p f k)
 |0,_=>trivial
 |f + 1,k=>λb=>by cases b with | true=>exact trivial | false=>exact n80 f (k + 1)
theorem t90(h1:1≤n)(hq:∀ x∈q.toList,x < n):∀ (f:Nat) (p:Array Nat) (k c:Nat),Good n q p→j50 n (kas_desc f p k c)∧F90 (λr=>Good n q r.1) (kas_desc f p k c)
 |0,p,k,c,g=>⟨trivial,g⟩
 |f + 1,p,k,c,g=>by
  have a:=λp' k' c' g'=>(t90 h1 hq f p' k' c' g').1
  have r:=λp' k' c' g'=>(t90 h1 hq f p' k' c' g').2
  refine⟨⟨⟨g.low _,g.low _⟩,λb=>?_⟩,λb=>?_⟩
  ·cases b with
   |true =>
    show j50 n (if c > 0 then kas_desc f (kas_rev p (k - (c + 1)) k) (k + 1) 0 else kas_desc f p (k + 1) 0)
    split
    ·exact a _ _ _ (g.rev h1 hq _ _)
    ·exact a _ _ _ g
   |false=>exact⟨⟨g.low _,g.low _⟩,λd=>by cases d with | true=>exact trivial | false=>exact a _ _ _ g⟩
  ·cases b with
   |true =>
    show F90 _ (if c > 0 then kas_desc f (kas_rev p (k - (c + 1)) k) (k + 1) 0 else kas_desc f p (k + 1) 0)
    split
    ·exact r _ _ _ (g.rev h1 hq _ _)
    ·exact r _ _ _ g
   |false=>exact λd=>by cases d with | true=>exact g | false=>exact r _ _ _ g
theorem l40(h1:1≤n)(hq:∀ x∈q.toList,x < n)(g:Good n q p)(k m:Nat):j50 n (kas_tail3 k m p)∧F90 (λr=>Good n q r.2) (kas_tail3 k m p) :=
 have g':=g.rev h1 hq 0 k
 And.intro (j50.bind (f:=λm'=>KasT.ret (m',kas_rev p 0 k)) (λ_ _=>True.intro) (A80 g'.low (m - k) k) (n80 (m - k) k)) (F90.bind (f:=λm'=>KasT.ret (m',kas_rev p 0 k)) (G':=λr=>Good n q r.2) (λ_ _=>g') (n80 (m - k) k))
theorem f40(h1:1≤n)(hq:∀ x∈q.toList,x < n)(g:Good n q p)(k m:Nat):j50 n (kas_descPart k m p)∧F90 (λr=>Good n q r.2) (kas_descPart k m p):=by
 have d:=t90 h1 hq (m - (k + 1)) p (k + 1) 0 g
 refine⟨j50.bind (λr gr=>?_) d.1 d.2,F90.bind (λr gr=>?_) d.2⟩
 ·split
  ·exact(l40 h1 hq (gr.rev h1 hq _ _) _ _).1
  ·exact(l40 h1 hq gr _ _).1
 ·split
  ·exact(l40 h1 hq (gr.rev h1 hq _ _) _ _).2
  ·exact(l40 h1 hq gr _ _).2
theorem W20(h1:1≤n)(hq:∀ x∈q.toList,x < n)(g:Good n q p)(m:Nat):j50 n (kas_count m p)∧F90 (λr=>Good n q r.2) (kas_count m p):=by
 refine⟨j50.bind (λk _=>?_) (A80 g.low _ _) (n80 _ _),F90.bind (λk _=>?_) (n80 _ _)⟩
 ·split
  ·exact trivial
  ·split
   ·exact⟨⟨g.low _,g.low _⟩,λb=>by cases b with | true=>exact trivial | false=>exact(f40 h1 hq (g.rev h1 hq _ _) _ _).1⟩
   ·exact(f40 h1 hq g _ _).1
 ·split
  ·exact g
  ·split
   ·exact λb=>by cases b with | true=>exact g | false=>exact(f40 h1 hq (g.rev h1 hq _ _) _ _).2
   ·exact(f40 h1 hq g _ _).2
theorem f60(g:Low n p)(k:Nat):∀ (f l r:Nat),j50 n (kas_place p k f l r)∧F90 (λ_=>True) (kas_place p k f l r)
 |0,_,_=>⟨trivial,trivial⟩
 |f + 1,l,r=>by
  have e:kas_place p k (f + 1) l r=(if l ≥ r then .ret l else .ask (p.getD k 0) (p.getD ((l + r) / 2) 0) λc=>if c=true then kas_place p k f l ((l + r) / 2) else kas_place p k f ((l + r) / 2 + 1) r):=rfl
  rw[e]
  split
  ·exact⟨trivial,trivial⟩
  ·refine⟨⟨⟨g _,g _⟩,λb=>?_⟩,λb=>?_⟩
   ·cases b with
    |true=>exact(f60 g k f _ _).1
    |false=>exact(f60 g k f _ _).1
   ·cases b with
    |true=>exact(f60 g k f _ _).2
    |false=>exact(f60 g k f _ _).2
theorem Q10(h1:1≤n)(hq:∀ x∈q.toList,x < n):∀ (f:Nat) (p:Array Nat) (k:Nat),Good n q p→j50 n (kas_bin f p k)
 |0,_,_,_=>trivial
 |f + 1,p,k,g=>j50.bind (λl _=>Q10 h1 hq f _ _ (g.bub h1 hq _ _)) (f60 g.low k k 0 k).1 (f60 g.low k k 0 k).2
theorem d21(h1:1≤n):j50 n (kas_sort n):=by
 have hq:∀ x∈((range n).toArray).toList,x < n:=λx hx=>by simpa using hx
 have g:Good n (range n).toArray (range n).toArray:=⟨d11 h1 (Array.Perm.refl _) hq,Array.Perm.refl _⟩
 have c:=W20 h1 hq g n
 refine j50.bind (λr gr=>?_) c.1 c.2
 split
 ·exact Q10 h1 hq _ _ _ gr
 ·exact trivial
end
theorem G00{α:Type}{n:Nat}{cmp:Nat→Nat→Bool}{ask:Nat→Nat→(Bool→Shared→Prop)→Shared→Prop}{s:Shared}(h:∀ i j (C:Bool→Shared→Prop),i < n→j < n→C (cmp i j) s→ask i j C s){Q:α→Shared→Prop} :
  ∀ (t:KasT α),j50 n t→Q (run cmp t) s→t.kasWp ask Q s
 |.ret _,_,q=>q
 |.ask i j k,a,q=>h i j _ a.1.1 a.1.2 (G00 h (k (cmp i j)) (a.2 _) q)
def e00:List Int→List Int→Bool
 |[],[]=>false
 |[],_::_=>true
 |_::_,[]=>false
 |x::r,y::q=>if x=y then e00 r q else decide (x < y)
theorem m90:∀ a,e00 a a=false
 |[]=>rfl
 |x::r=>by show(if x=x then e00 r r else _)=_;rw[if_pos rfl];exact m90 r
theorem l50:∀ a b c,e00 a b=true→e00 b c=true→e00 a c=true
 |[],[],_,h,_=>by cases h
 |[],_::_,[],_,h=>by cases h
 |[],_::_,_::_,_,_=>rfl
 |_::_,[],_,h,_=>by cases h
 |_::_,_::_,[],_,h=>by cases h
 |x::a,y::b,z::c,h1,h2=>by
  have h1:(if x=y then e00 a b else decide (x < y))=true:=h1
  have h2:(if y=z then e00 b c else decide (y < z))=true:=h2
  show(if x=z then e00 a c else decide (x < z))=true
  by_cases e1:x=y
  ·rw[if_pos e1] at h1
   by_cases e2:y=z
   ·rw[if_pos e2] at h2
    rw[if_pos (e1.trans e2)]
    exact l50 a b c h1 h2
   ·rw[if_neg e2] at h2
    rw[if_neg (by omega)]
    rw[e1];exact h2
  ·rw[if_neg e1] at h1
   have l1:x < y:=by simpa using h1
   by_cases e2:y=z
   ·rw[if_neg (by omega)];exact decide_eq_true (by omega)
   ·rw[if_neg e2] at h2
    have l2:y < z:=by simpa using h2
    rw[if_neg (by omega)];exact decide_eq_true (by omega)
theorem l60:∀ a b,e00 a b=false→e00 b a=false→a=b
 |[],[],_,_=>rfl
 |[],_::_,h,_=>by cases h
 |_::_,[],_,h=>by cases h
 |x::a,y::b,h1,h2=>by
  have h1:(if x=y then e00 a b else decide (x < y))=false:=h1
  have h2:(if y=x then e00 b a else decide (y < x))=false:=h2
  by_cases e:x=y
  ·subst e
   rw[if_pos rfl] at h1 h2
   rw[l60 a b h1 h2]
  ·rw[if_neg e] at h1
   rw[if_neg (Ne.symm e)] at h2
   have l1:¬ x < y:=by simpa using h1
   have l2:¬ y < x:=by simpa using h2
   omega
theorem Q20(a b c:List Int)(h:e00 a c=true):e00 a b=true∨e00 b c=true:=by
 cases hab:e00 a b with
 |true=>exact .inl rfl
 |false =>
  right
  cases hba:e00 b a with
  |true=>exact l50 b a c hba h
  |false=>rw[← l60 a b hab hba];exact h
def D61:KeyOrd:=⟨List Int,e00,m90,l50,Q20,l60⟩
section
variable {P:Program}{w:World}{A:Around}{E:Value→Shared→Prop}{s:Shared}
def sortedBy(ks:List (List Int))(p:List Nat):Prop:=p.Perm (range ks.length)∧(p.map λi=>ks.getD i []).Pairwise λx y=>e00 y x=false
theorem range_getD(d:α):∀ (l:List α),(range l.length).map (λi=>l.getD i d)=l:=λl=>by
 refine ext_getElem (by simp) λi h1 h2=>?_
 simp at h1
 simp[h1]
def o82(P:Program)(w:World)(A:Around)(s:Shared)(vs:List Value)(Pr:List Nat→Prop)(kd:SortKind):Prop:=∃ p:List Nat,Pr p∧∀ (E:Value→Shared→Prop) (Q:Unit × SortSt→Shared→Prop),(∀ st',failedOf st'=none→arrOf st'=(p.toArray).map (kas_item (vs.toArray.zip vs.toArray))→Q ((),st') s)→wpAny (model P w) A (sortRuns'.run (SortSt.mk' kd (vs.toArray.zip vs.toArray) #[] 7 none)) Q E s
structure b82(P:Program)(w:World)(A:Around)(s:Shared)(vs:List Value)(Pr:List Nat→Prop)(kd:SortKind):Prop where
 len:vs.length≤1000
 few:vs.length < 2→Pr (range vs.length)
 all:∀ p,Pr p→p.length=vs.length
 kind:2≤vs.length→∀ (E:Value→Shared→Prop) (Q:SortKind→Shared→Prop),Q kd s→wpAny (model P w) A (keyKind' vs.toArray) Q E s
 run:2≤vs.length→o82 P w A s vs Pr kd
theorem P91(hl:n=ks.length)(h2:n < 2):sortedBy ks (range n):=by
 subst hl
 refine⟨.refl _,?_⟩
 rw[range_getD]
 match ks,h2 with
 |[],_=>exact .nil
 |[_],_=>simp
 |_::_::_,q=>simp at q;omega
theorem D71{vs:List Value}{ks:List (List Int)}{kd:SortKind}(hlen:vs.length=ks.length)(h64:vs.length < 64)(ask:∀ i j,i < vs.length→j < vs.length→∀ (E:Value→Shared→Prop) (C:Bool→Shared→Prop),C (e00 (ks.getD i []) (ks.getD j [])) s→wpAny (model P w) A (keyLt' kd (vs.getD i Value.none) (vs.getD j Value.none)) C E s)(h2':2≤vs.length):o82 P w A s vs (sortedBy ks) kd:=by
 have so:=D51 (O:=D61) (key:=λi=>ks.getD i []) (n:=vs.length) (by omega)
 refine⟨(run (h90 D61 λi=>ks.getD i []) (kas_sort vs.length)).toList,?_,λE Q q=>?_⟩
 ·generalize run (h90 D61 λi=>ks.getD i []) (kas_sort vs.length)=p at so
  refine⟨?_,?_⟩
  ·have:=so.1.toList;rw[hlen] at this;simpa using this
  ·rw[List.pairwise_iff_getElem]
   intro i j hi hj hij
   have hsz:p.size=vs.length:=by have:=so.1.size_eq;simpa using this
   have hi':i < p.size:=by simpa using hi
   have hj':j < p.size:=by simpa using hj
   have u:=so.2 i j (Nat.le_of_lt hij) (by omega)
   have g:∀ k,k < p.size→kk D61 (λi=>ks.getD i []) p k=ks.getD (p.toList.getD k 0) []:=λk hk=>by show ks.getD (p.getD k 0) []=_;rw[Array.getD_eq_getD_getElem?,List.getD_eq_getElem?_getD (l:=p.toList),Array.getElem?_toList]
   have u':e00 (ks.getD (p.toList.getD j 0) []) (ks.getD (p.toList.getD i 0) [])=false:=by
    have:=u;unfold KeyOrd.kle at this;rw[g i hi',g j hj'] at this;exact this
   simpa [hi',hj'] using u'
 ·refine wpAny_mono (kat_run (s:=s) (Q:=λst' s'=>s'=s∧failedOf st'=none∧arrOf st'=(run (h90 D61 λi=>ks.getD i []) (kas_sort vs.length)).map (kas_item (vs.toArray.zip vs.toArray)))
   (G:=λp s'=>s'=s∧p=run (h90 D61 λi=>ks.getD i []) (kas_sort vs.length)) rfl h2' h64 (λp st' s' a1 a2 a3 a4=>⟨a4.1,a3,by rw[a2,a4.2]⟩)
   (G00 (n:=vs.length) (cmp:=h90 D61 λi=>ks.getD i []) (λi j C hi hj hC=>ask i j hi hj _ C hC) (kas_sort vs.length) (d21 (by omega)) ⟨rfl,rfl⟩)) ?_ λ_ _ e=>e
  rintro ⟨⟨⟩,st'⟩ s' ⟨hs',hf,har⟩
  subst hs'
  exact q st' hf har
def d31(h h':Heap):Prop:=∀ b o,h.get? b=some o→o.cls=.type "tuple"→h'.get? b=some o
theorem r91{a:Addr}{vs:List Value}{Pr:List Nat→Prop}{kd:SortKind}{n:Nat}{R:PySem.Fin→Shared→Prop}(ho:s.heap.get? a=some (seqObj "list" vs.toArray n))(hk:∀ h',d31 s.heap h'→b82 P w A { s with heap:=h' } vs Pr kd)
  (h:∀ (p:List Nat) (h':Heap) (c:Nat),Pr p→(∀ b o,b≠a→s.heap.get? b=some o→h'.get? b=some o)→h'.get? a=some (seqObj "list" (p.map λi=>vs.getD i Value.none).toArray c)→R (.done (.ret .none)) { s with heap:=h' }) :
  wpAny (model P w) A (Builtin.«list.sort» ⟨[.ref a],[]⟩) R E s:=by
 have ha:a < s.heap.objs.size:=lt_size ho
 have h64:=(hk s.heap λ_ _ e _=>e).len
 have s1:=Heap.SameBut.update s.heap a (Obj.mapSeq λ_=>(#[]:Array Value))
 obtain⟨e1,ho1⟩:∃ e1,(s.heap.update a (Obj.mapSeq λ_=>(#[]:Array Value))).get? a=some (seqObj "list" #[] e1):=⟨_,get?_update_seq ho λ_=>#[]⟩
 have kp:∀ b o,b≠a→s.heap.get? b=some o→(((s.heap.update a (Obj.mapSeq λ_=>(#[]:Array Value))).push (seqObj "tuple" vs.toArray 0)).push (seqObj "list" #[] 0)).get? b=some o:=λb o hb e=>Heap.get?_push_of_some _ (Heap.get?_push_of_some _ ((s1.2 b hb).trans e))
 have ho6:(((s.heap.update a (Obj.mapSeq λ_=>(#[]:Array Value))).push (seqObj "tuple" vs.toArray 0)).push (seqObj "list" #[] 0)).get? a=some (seqObj "list" #[] e1):=Heap.get?_push_of_some _ (Heap.get?_push_of_some _ ho1)
 have hk6:=hk (((s.heap.update a (Obj.mapSeq λ_=>(#[]:Array Value))).push (seqObj "tuple" vs.toArray 0)).push (seqObj "list" #[] 0)) (λb o e hc=>kp b o (λq=>by subst q;rw[ho] at e;cases e;have hc':Value.type "list"=Value.type "tuple":=hc;injection hc' with hc';exact absurd hc' (by decide)) e)
 rw[list_sort_plain];refine wpAny_bind (listItems_at ho rfl (wpAny_bind (listUpdate_at ho rfl ?_ (by rw[size_toArray,sizeLine_eq];omega) (zero_le _))))
 refine wpAny_bind (seqEpoch_at ho1 rfl (wpAny_bind (wpAny_newTuple ?_ (by show vs.length≤_;rw[sizeLine_eq];omega))));refine wpAny_bind (wpAny_newList (wpAny_holding ?_) (zero_le _))
 show wpAny (model P w) A _ R E { s with heap:=((s.heap.update a (Obj.mapSeq λ_=>(#[]:Array Value))).push (seqObj "tuple" vs.toArray 0)).push (seqObj "list" #[] 0) }
 generalize hH:((s.heap.update a (Obj.mapSeq λ_=>(#[]:Array Value))).push (seqObj "tuple" vs.toArray 0)).push (seqObj "list" #[] 0)=h6 at kp ho6 hk6 ⊢
 have fin:∀ (p:List Nat) (out:Array Value),out=(p.map λi=>vs.getD i Value.none).toArray→Pr p→wpAny (model P w) A (do
   let touched:=(← seqEpoch a) != e1
   Builtin.List.listUpdate (.ref a) λ_=>out
   if touched then rule "list.sort.modified";raiseError "ValueError" "list modified during sort"
   ret .none) R E { s with heap:=h6 }:=λp out eo hp=>by
  subst eo
  have hsz:(p.map λi=>vs.getD i Value.none).toArray.size=vs.length:=by rw[size_toArray,length_map,(hk s.heap λ_ _ e _=>e).all p hp]
  have s2:=Heap.SameBut.update h6 a (Obj.mapSeq λ_=>(p.map λi=>vs.getD i Value.none).toArray)
  refine wpAny_bind (seqEpoch_at ho6 rfl (wpAny_bind (listUpdate_at ho6 rfl ?_ (zero_le _) (Nat.le_trans (Nat.le_of_eq hsz) (by rw[sizeLine_eq];omega)))))
  simp only[bne_self_eq_false,false_eq_true,if_false]
  exact wpAny_pure (h p _ _ hp (λb o hb e=>(s2.2 b hb).trans (kp b o hb e)) (get?_update_seq ho6 λ_=>(p.map λi=>vs.getD i Value.none).toArray))
 dsimp only
 by_cases h2:vs.toArray.size < 2
 ·rw[if_pos h2,if_pos h2];refine wpAny_bind (wpAny_pure ?_);rw[StateT.run_pure];refine wpAny_bind (wpAny_pure ?_);dsimp only
  refine fin (range vs.length) _ ?_ ((hk s.heap λ_ _ e _=>e).few (by simpa using h2))
  rw[range_getD];apply Array.toList_inj.mp;rw[Array.toList_map];show List.map _ (vs.toArray.zip vs.toArray).toList=vs;rw[ksk_zip];exact List.map_snd_zip (Nat.le_refl _)
 ·rw[if_neg h2,if_neg h2]
  have h2':2≤vs.length:=by simpa using h2
  refine wpAny_bind (hk6.kind h2' _ _ ?_)
  obtain⟨p,hp,hr⟩:=hk6.run h2'
  refine wpAny_bind (hr _ _ λst' hf har=>?_)
  dsimp only
  rw[hf]
  exact fin p _ (kat_snds rfl har) hp
end
end MySort
namespace HT
open PySem PyProof.Rows
section
open PySem.SeqAt
open PySem.AutoSeq1 (wpAny_loadPart')
open PySem.MeetsSeq PySem.MeetsSeq2 PySem.MeetsSeq3
open MySort (e00)
def leB(ns ms:List Int):Bool:=!e00 ms ns
theorem s01(x y:Int)(r q:List Int):leB (x::r) (y::q)=if x=y then leB r q else decide (x≤y):=by
 show(!(if y=x then e00 q r else decide (y < x)))=_
 by_cases e:x=y
 ·rw[if_pos e,if_pos e.symm];rfl
 ·rw[if_neg e,if_neg (Ne.symm e)]
  by_cases l:y < x
  ·rw[decide_eq_true l,decide_eq_false (by omega)];rfl
  ·rw[decide_eq_false l,decide_eq_true (by omega)];rfl
theorem s11(A:Around)(s:Shared)(a:Int)(t:Tok)(c:Int)(u:Tok)(P:Program)(w:World)(E:Value→Shared→Prop)(Q:Value→Shared→Prop)(h:Q (.bool (decide (a≤c))) s):wpAny (model P w) A (richCompare .LtE (.int a t) (.int c u)) Q E s :=
 (PyProof.Rows.le_int h:wpAny (model P w) A (compareOp .LtE (.int a t) (.int c u)) Q E s)
theorem A90(l b:Addr)(i1 i2:Array Value)(n n2:Nat)(dd dd2:Option Addr)(sl sl2:Array (Option Value))(ns ms:List Int)(hi:IntsAre i1.toList ns)(hj:IntsAre i2.toList ms) :
  Meets (Builtin.«tuple.__le__» ⟨[.ref l,.ref b],[]⟩) (λ_ R s=>s.heap.get? l=some { cls:=.type "tuple",dict:=dd,data:=.seq i1 n,slots:=sl }∧s.heap.get? b=some { cls:=.type "tuple",dict:=dd2,data:=.seq i2 n2,slots:=sl2 }∧R (.ok (.ret (.bool (leB ns ms)))) s) :=
 .of_wp λP w A R s h=>by
  obtain⟨hp,g,d,tk,os⟩:=s;obtain⟨hl,hb,h⟩:=h
  have f2:=AutoSeq1.sub_tuple_tuple
  have z1:i1.size=ns.length:=by rw[← hi.length];simp
  have z2:i2.size=ms.length:=by rw[← hj.length];simp
  wp_walk using wpAny_loadPart' hl,wpAny_loadPart' hb,wpAny_forIn_list _ (λrest b s'=>b.1=none∧s'=⟨hp,g,d,tk,os⟩∧∃ (vs ws:List Value) (ns' ms':List Int),rest=vs.zip ws∧IntsAre vs ns'∧IntsAre ws ms'∧ns'.length + i2.size=ms'.length + i1.size∧R (.ok (.ret (.bool (leB ns' ms')))) ⟨hp,g,d,tk,os⟩) _
  case turn =>
   rintro ⟨y,x⟩ rest b s' ⟨hb',rfl,vs,ws,ns',ms',hz,hvi,hwi,hlen,hR⟩
   cases hvi with
   |nil=>rw[List.zip_nil_left] at hz;cases hz
   |cons a t hvi' =>
    cases hwi with
    |nil=>rw[List.zip_nil_right] at hz;cases hz
    |cons c u hwi' =>
     rw[zip_cons_cons] at hz;injection hz with hyx hrest;injection hyx with hy hx;subst hy hx
     rw[s01] at hR;simp only[length_cons] at hlen
     obtain⟨e,he,hiff⟩:=q31 A.in1 ⟨hp,g,d,tk,os⟩ a t c u
     refine wpAny_bind (he P w _ _ ?_)
     cases e with
     |true =>
      rw[if_pos (hiff.mp rfl)] at hR;wp_walk
      exact⟨rfl,rfl,_,_,_,_,hrest,hvi',hwi',by omega,hR⟩
     |false =>
      rw[if_neg (λq=>absurd (hiff.mpr q) Bool.false_ne_true)] at hR
      have hri:=s11 A.in1 ⟨hp,g,d,tk,os⟩ a t c u P w
      wp_walk using hri
      exact⟨_,rfl,by simpa using hR⟩
  case fin =>
   rintro ⟨b1,b2⟩ s' ⟨hb',rfl,vs,ws,ns',ms',hz,hvi,hwi,hlen,hR⟩
   simp only at hb';subst hb'
   have hv:leB ns' ms'=decide (i1.size≤i2.size):=by
    cases hvi with
    |nil =>
     cases hwi with
     |nil=>simp only[length_nil] at hlen;exact(decide_eq_true (by omega)).symm
     |cons c u hw=>simp only[length_nil,length_cons] at hlen;exact(decide_eq_true (by omega)).symm
    |cons a t hv =>
     cases hwi with
     |nil=>simp only[length_nil,length_cons] at hlen;exact(decide_eq_false (by omega)).symm
     |cons c u hw=>rw[zip_cons_cons] at hz;cases hz
   rw[hv] at hR;wp_walk
   exact⟨_,rfl,by simpa [tupleCompareSizes] using hR⟩
  case h=>exact⟨rfl,rfl,i1.toList,i2.toList,ns,ms,rfl,hi,hj,by omega,h⟩
end
section
variable {P:Program}{w:World}{A:Around}{E:Value→Shared→Prop}{s:Shared}
theorem W30(hl:IsTup s.heap l i1)(hb:IsTup s.heap b i2)(hi:IntsAre i1.toList ns)(hj:IntsAre i2.toList ms)
  (hu:A.units < cLine) (h:Q (.bool (leB ns ms)) s):wpAny (model P w) A (compareOp .LtE (.ref l) (.ref b)) Q E s:=by
 obtain⟨⟨cls,dd,data,sl⟩,ho,hc,n,hd⟩:=id hl;obtain⟨⟨cls2,dd2,data2,sl2⟩,ho2,hc2,n2,hd2⟩:=id hb
 simp only at hc hd hc2 hd2;subst hc hd hc2 hd2
 exact richCompare_meets_room (op:=.LtE) ⟨_,ho,rfl⟩ ⟨_,ho2,rfl⟩ PySem.F.slot_tuple_le PySem.F.entry_tuple_le (PySem.F.args_tuple_le_2 _ _) (A90 l b i1 i2 n n2 dd dd2 sl sl2 ns ms hi hj)
  ⟨ho,ho2,show Value.bool (leB ns ms)≠Value.notImplemented∧Q (.bool (leB ns ms)) s from⟨(λx=>nomatch x),h⟩⟩ hu
theorem D81{t b:Addr}{ws:List Value}{Q:Value→Shared→Prop}(ht:IsTup s.heap t #[])(hb:IsTup s.heap b ws.toArray)(h:Q (.ref b) s):wpAny (model P w) A (binaryOp .Add (.ref t) (.ref b)) Q E s:=by
 obtain⟨⟨cls,dd,data,sl⟩,ho,hc,n,hd⟩:=id ht;obtain⟨⟨cls2,dd2,data2,sl2⟩,ho2,hc2,n2,hd2⟩:=id hb
 simp only at hc hd hc2 hd2;subst hc hd hc2 hd2
 exact concat_meets ⟨_,ho,rfl⟩ ⟨_,ho2,rfl⟩ noFill_tuple_add seq_tuple_add PySem.F.slot_tuple_add PySem.F.entry_tuple_add (PySem.F.args_tuple_add_2 _ _) (tuple_addW0 t b #[] ws.toArray n n2 dd dd2 sl sl2 (by simp)) ⟨ho,ho2,h⟩
theorem G10:seqRepeat? (.type "tuple")=pure (some (.builtin "tuple.__mul__")):=by
 first | kernel_rfl | rfl | (unfold seqRepeat?;kernel_rfl)
theorem r90:fillsNumberSlot (.type "tuple") "mul"=pure false:=by
 first | kernel_rfl | rfl
theorem W40(a:Int)(t:Tok)(l:Addr)(xs:Array Value)(n:Nat)(dd:Option Addr)(sl:Array (Option Value)) :
  Meets (Builtin.«int.__rmul__» ⟨[.int a t,.ref l],[]⟩) (λ_ R s=>s.heap.get? l=some { cls:=.type "tuple",dict:=dd,data:=.seq xs n,slots:=sl }∧R (.ok (.ret Value.notImplemented)) s) :=
 .of_wp λP w A R s h=>by obtain⟨hp,g,d,tk,os⟩:=s;obtain⟨hl,h⟩:=h;wp_walk;exact⟨_,rfl,h⟩
theorem s21(l:Addr)(xs:Array Value)(k:Int)(u:Tok)(n:Nat)(dd:Option Addr)(sl:Array (Option Value))(h1:¬ (decide (k < -(2 ^ 63)) || decide (k ≥ 2 ^ 63))=true)(h2:(xs.isEmpty || k == 1)=true) :
  Meets (Builtin.«tuple.__mul__» ⟨[.ref l,.int k u],[]⟩) (λ_ R s=>s.heap.get? l=some { cls:=.type "tuple",dict:=dd,data:=.seq xs n,slots:=sl }∧R (.ok (.ret (.ref l))) s) :=
 .of_wp λP w A R s h=>by
  obtain⟨hp,g,d,tk,os⟩:=s;obtain⟨hl,h⟩:=h
  have f1:=AutoSeq1.idx_int
  wp_walk using AutoSeq1.wpAny_loadPart' hl
  simp only[h1,if_false]
  wp_walk using AutoSeq1.wpAny_loadPart' hl
  exact⟨_,rfl,h⟩
theorem mul_zero(l:Addr)(xs:Array Value)(k:Int)(u:Tok)(n:Nat)(dd:Option Addr)(sl:Array (Option Value))(h1:¬ (decide (k < -(2 ^ 63)) || decide (k ≥ 2 ^ 63))=true)(h2:¬ (xs.isEmpty || k == 1)=true)(h3:(decide (k≤0) || xs.isEmpty)=true) :
  Meets (Builtin.«tuple.__mul__» ⟨[.ref l,.int k u],[]⟩) (λ_ R s=>s.heap.get? l=some { cls:=.type "tuple",dict:=dd,data:=.seq xs n,slots:=sl }∧R (.ok (.ret (.ref s.heap.objs.size))) { s with heap:=s.heap.push { cls:=.type "tuple",data:=.seq #[] } }) :=
 .of_wp λP w A R s h=>by
  obtain⟨hp,g,d,tk,os⟩:=s;obtain⟨hl,h⟩:=h
  have f1:=AutoSeq1.idx_int
  wp_walk using AutoSeq1.wpAny_loadPart' hl
  simp only[h1,if_false]
  wp_walk using AutoSeq1.wpAny_loadPart' hl
  exact⟨_,rfl,h⟩
theorem s31(l:Addr)(xs:Array Value)(k:Int)(u:Tok)(n:Nat)(dd:Option Addr)(sl:Array (Option Value))(h1:¬ (decide (k < -(2 ^ 63)) || decide (k ≥ 2 ^ 63))=true)(h2:¬ (xs.isEmpty || k == 1)=true)(h3:¬ (decide (k≤0) || xs.isEmpty)=true)
  (h4:¬ (xs.size:Int) * k > (2 ^ 63 - 1) / 8) (h5:¬ tupleTooMany ((xs.size:Int) * k)=true) (h6:(foldl (λx y=>x++y) #[] (replicate k.toNat xs)).size≤sizeLine) :
  Meets (Builtin.«tuple.__mul__» ⟨[.ref l,.int k u],[]⟩) (λ_ R s=>s.heap.get? l=some { cls:=.type "tuple",dict:=dd,data:=.seq xs n,slots:=sl }∧R (.ok (.ret (.ref s.heap.objs.size))) { s with heap:=s.heap.push { cls:=.type "tuple",data:=.seq (foldl (λx y=>x++y) #[] (replicate k.toNat xs)) } }) :=
 .of_wp λP w A R s h=>by
  obtain⟨hp,g,d,tk,os⟩:=s;obtain⟨hl,h⟩:=h
  have f1:=AutoSeq1.idx_int
  wp_walk using AutoSeq1.wpAny_loadPart' hl
  simp only[h1,if_false]
  wp_walk using AutoSeq1.wpAny_loadPart' hl
  simp only[h4,h5,if_false]
  refine wpAny_bind (m:=tupleExact _) (wpAny_newObj_type (wpAny_pure ?_) h6)
  exact⟨_,rfl,h⟩
end
theorem n90(f:α→Option β)(g:α→β):∀ (l:List α),(∀ k∈l,f k=some (g k))→l.filterMap f=l.map g
 |[],_=>rfl
 |x::r,h=>by rw[filterMap_cons,h x mem_cons_self,map_cons,n90 f g r λk hk=>h k (mem_cons_of_mem _ hk)]
section
variable {P:Program}{w:World}{A:Around}{E:Value→Shared→Prop}{s:Shared}
theorem n00{t sl:Addr}{xs:Array Value}{vl vu:Value}{lo hi:Option Int}{Q:Value→Shared→Prop}(ht:IsTup s.heap t xs)(hs:s.heap.IsSliceOf sl vl vu .none)(pl:IsPart vl lo)(pu:IsPart vu hi)
  (hw:sIx xs.size 0 lo=0∧sIx xs.size xs.size hi=xs.size) (h:Q (.ref t) s):wpAny (model P w) A (getItem (.ref t) (.ref sl)) Q E s:=by
 obtain⟨os,hos,hcs,hds⟩:=id hs
 have hTs:s.TypeIs (.ref sl) "slice":=⟨os,hos,hcs⟩
 unfold getItem;try with_reducible refine wpAny_holding ?_
 first | refine wpAny_bind (wpAny_pure ?_) | skip
 refine wpAny_bind (wpAny_sequenceKey ht.typeIs (by decide) ?_);refine wpAny_bind (wpAny_callSpecial?_slot (name:=Str.ofString "__getitem__") ht.typeIs PyProof.Rows.slot_tuple_getitem (wpAny_call_entry PyProof.Rows.slot_tuple_getitem ht.typeIs entry_tuple_getitem ?_ (args_tuple_getitem _ _)))
 show wpAny _ _ (tupleItemsOf (.ref t) >>= _) _ _ s;refine wpAny_bind (tupleItemsOf_ ht (wpAny_bind (wpAny_typeOf hTs ?_)))
 rw[if_pos (by decide)];refine wpAny_bind (j00 hs pl pu ?_)
 rw[hw.1,hw.2]
 show wpAny _ _ (if (((0:Nat):Int) == 0&&(1:Int) == 1&&(xs.size - 0) == xs.size)=true then _ else _) _ _ s
 rw[if_pos (by simp)]
 refine wpAny_bind (m:=tupleIsExact _) ?_
 unfold tupleIsExact
 refine wpAny_bind (wpAny_typeOf ht.typeIs (wpAny_pure ?_))
 rw[if_pos (by decide)]
 first
  |exact wpAny_bind (wpAny_rule (wpAny_pure ⟨_,rfl,wpAny_pure h⟩))
  |exact wpAny_bind (wpAny_rule (wpAny_bind (wpAny_pure (wpAny_pure ⟨_,rfl,wpAny_pure h⟩))))
theorem p80{t sl:Addr}{xs:List Value}{u:Tok}{Q:Value→Shared→Prop}(ht:IsTup s.heap t xs.toArray)(hs:s.heap.IsSliceOf sl .none .none (.int (-1) u))
  (h:Q (.ref s.heap.objs.size) { s with heap:=s.heap.push { cls:=.type "tuple",data:=.seq xs.reverse.toArray } }) (hz:xs.length≤sizeLine):wpAny (model P w) A (getItem (.ref t) (.ref sl)) Q E s:=by
 obtain⟨os,hos,hcs,hds⟩:=id hs
 have hTs:s.TypeIs (.ref sl) "slice":=⟨os,hos,hcs⟩
 unfold getItem;try with_reducible refine wpAny_holding ?_
 first | refine wpAny_bind (wpAny_pure ?_) | skip
 refine wpAny_bind (wpAny_sequenceKey ht.typeIs (by decide) ?_);refine wpAny_bind (wpAny_callSpecial?_slot (name:=Str.ofString "__getitem__") ht.typeIs PyProof.Rows.slot_tuple_getitem (wpAny_call_entry PyProof.Rows.slot_tuple_getitem ht.typeIs entry_tuple_getitem ?_ (args_tuple_getitem _ _)))
 show wpAny _ _ (tupleItemsOf (.ref t) >>= _) _ _ s;refine wpAny_bind (tupleItemsOf_ ht (wpAny_bind (wpAny_typeOf hTs ?_)))
 rw[if_pos (by decide)]
 have app:∀ {R:Int × Int × Nat→Shared→Prop},R ((xs.length:Int) - 1,-1,xs.length) s→wpAny (model P w) A.in1 (sliceApplied (.ref sl) (pure (xs.toArray.size:Int))) R E s:=λ{R} q=>by
  unfold sliceApplied sliceFields
  refine wpAny_bind (wpAny_bind (wpAny_field hos hds (x:=.none) rfl (wpAny_bind (wpAny_field hos hds (x:=.none) rfl (wpAny_bind (wpAny_field hos hds (x:=.int (-1) u) rfl (wpAny_pure ?_)))))))
  refine wpAny_bind (slicePart_int ?_)
  show wpAny _ _ (if ((-1:Int) == 0)=true then _ else _) _ _ s
  rw[if_neg (by decide)]
  refine wpAny_bind (slicePart_none (wpAny_bind (slicePart_none (wpAny_bind (wpAny_pure ?_)))))
  have e1:sliceAdjust none none (-1) (xs.toArray.size:Int)=((xs.length:Int) - 1,-1):=by simp[sliceAdjust]
  have e2:slicePlaces ((xs.length:Int) - 1) (-1) (-1)=xs.length:=by
   unfold slicePlaces
   rw[if_neg (by decide)]
   split
   ·simp only[Int.neg_neg,Int.ediv_one];omega
   ·omega
  show wpAny _ _ (match sliceAdjust none none (-1) (xs.toArray.size:Int) with | (lo,hi)=>pure (lo,(-1:Int),slicePlaces lo hi (-1))) _ _ s
  rw[e1]
  show wpAny _ _ (pure ((xs.length:Int) - 1,(-1:Int),slicePlaces ((xs.length:Int) - 1) (-1) (-1))) _ _ s
  rw[e2]
  exact wpAny_pure q
 refine wpAny_bind (app ?_)
 show wpAny _ _ (if (((xs.length:Int) - 1) == 0&&(-1:Int) == 1&&xs.length == xs.toArray.size)=true then _ else _) _ _ s
 rw[if_neg (by simp)]
 have pick:((range xs.length).filterMap λ(k:Nat)=>xs.toArray[((xs.length:Int) - 1 + (k:Int) * -1).toNat]?)=xs.reverse:=by
  refine List.ext_getElem? λi=>?_
  have hall:∀ k∈range xs.length,xs.toArray[((xs.length:Int) - 1 + (k:Int) * -1).toNat]?=some (xs.getD (xs.length - 1 - k) Value.none):=λk hk=>by
   have hk':k < xs.length:=by simpa using hk
   have e:((xs.length:Int) - 1 + (k:Int) * -1).toNat=xs.length - 1 - k:=by omega
   rw[e]
   have:xs.length - 1 - k < xs.length:=by omega
   simp[this]
  rw[n90 _ _ _ hall,List.getElem?_map]
  by_cases hi:i < xs.length
  ·have h2:xs.length - 1 - i < xs.length:=by omega
   rw[List.getElem?_range hi,List.getElem?_reverse hi]
   simp[h2]
  ·rw[List.getElem?_eq_none (by simpa using hi),List.getElem?_eq_none (by simpa using hi)];rfl
 rw[pick]
 have hsz:sizeOk (.seq xs.reverse.toArray):=by show xs.reverse.toArray.size≤sizeLine;rw[size_toArray,List.length_reverse];exact hz
 first
  |exact wpAny_bind (m:=tupleExact _) (wpAny_newObj_type (wpAny_pure ⟨_,rfl,wpAny_pure h⟩) hsz)
  |exact wpAny_bind (m:=tupleExact _) (wpAny_newObj_type (wpAny_bind (wpAny_pure (wpAny_pure ⟨_,rfl,wpAny_pure h⟩))) hsz)
  |exact wpAny_bind (wpAny_bind (m:=tupleExact _) (wpAny_newObj_type (wpAny_pure (wpAny_pure ⟨_,rfl,wpAny_pure h⟩)) hsz))
  |exact wpAny_bind (wpAny_bind (m:=tupleExact _) (wpAny_newObj_type (wpAny_pure ⟨_,rfl,wpAny_pure h⟩) hsz))
end
end HT
namespace L2
open PySem PySem.Spec PyProof.Rows
theorem a10.sqT{K:PySem.W.Frag}{H H':Hp}{a:Addr}{xs:List V}(e:a10 H H')(h:SqT K H a xs):SqT K H' a xs:=by
 rcases h with (h | ⟨o,h⟩) | h
 ·exact .inl (.inl (e _ _ h))
 ·exact .inl (.inr ⟨o,e _ _ h⟩)
 ·exact .inr h
theorem a10.new(o:HO)(n:H p=none):a10 H (upd H p o):=λb u e=>by rw[a20 (a60 e n)];exact e
def s41(K:PySem.W.Frag)(H:Hp)(zs:List V)(Q:VK):Prop:=∀ p H',a10 H H'→SqT K H' p zs→Q (.ref p) H'
section
variable {X:Cx}{pins:List (Addr × Obj)}{σ:St}{H:Hp}{s:Shared}
theorem s41.here(q:s41 X.K H zs Q)(I:Inv X pins σ H s)(h:SqT X.K H a zs):EP X pins σ Q (.ref a) s:=⟨.ref a,H,I,rfl,q a H (a10.refl H) h⟩
theorem s41.new(q:s41 X.K H zs Q)(I:Inv X pins σ H s)(r:Vals zs us)(hz:zs.length≤sizeLine) :
  EP X pins σ Q (.ref s.heap.objs.size) { s with heap:=s.heap.push { cls:=.type "tuple",data:=.seq us.toArray } } :=
 have hn:H s.heap.objs.size=none:=I.hok.fresh (Nat.le_refl _)
 ⟨.ref s.heap.objs.size,_,I.laid (t':=s.toks) (o:=.tup zs) (λb ob q=>Heap.get?_push_of_some _ q) (Nat.le_refl _) ⟨hz,_,r,IsTup.new _ _⟩,rfl,q _ _ (a10.new _ hn) (SqT.of a80)⟩
end
section
variable {X:Cx}
def s82(K:PySem.W.Frag):R2:=λx y H Q=>∃ a b ns ms,x=.ref a∧y=.ref b∧SqT K H a (ns.map V.int)∧SqT K H b (ms.map V.int)∧Q (.bl (HT.leB ns ms)) H
theorem Q01(hu:X.A.units < cLine):OpR X (compareOp .LtE) (s82 X.K):=by
 intro pins s σ H x y v u Q I rx ry h
 obtain⟨a,b,ns,ms,rfl,rfl,ha,hb,q⟩:=h
 cases rx;cases ry
 obtain⟨v1,r1,p1,_⟩:=I.tuple ha
 obtain⟨v2,r2,p2,_⟩:=I.tuple hb
 exact HT.W30 p1 p2 (show IntsAre v1.toArray.toList ns from intsAre_of r1) (show IntsAre v2.toArray.toList ms from intsAre_of r2) hu ⟨.bl (HT.leB ns ms),H,I,rfl,q⟩
def f82(K:PySem.W.Frag):R2:=λx y H Q=>∃ a b xs ys,x=.ref a∧y=.ref b∧SqT K H a xs∧SqT K H b ys∧xs.length + ys.length≤sizeLine∧s41 K H (xs++ys) Q
theorem D91:OpR X (binaryOp .Add) (f82 X.K):=by
 intro pins s σ H x y v u Q I rx ry h
 obtain⟨a,b,xs,ys,rfl,rfl,ha,hb,hz,q⟩:=h
 cases rx;cases ry
 obtain⟨v1,r1,p1,_⟩:=I.tuple ha
 obtain⟨v2,r2,p2,_⟩:=I.tuple hb
 by_cases hx:xs=[]
 ·subst hx
  have e:=r1.z70.mpr rfl
  subst e
  exact HT.D81 p1 p2 (q.here I hb)
 ·refine HT.C61 p1 p2 (λz=>hx (r1.z70.mp z)) (λz=>?_) (λz=>q.new I (r1.append r2) (by rw[length_append];exact hz)) (by rw[← r1.length,← r2.length];exact hz)
  have e:=r2.z70.mp z
  subst e
  rw[append_nil] at q
  exact q.here I ha
def f92(K:PySem.W.Frag):R2:=λx y H Q=>∃ a k xs,x=.ref a∧y=.int k∧SqT K H a xs∧0≤k∧k < 1000000∧k.toNat * xs.length≤sizeLine∧s41 K H (replicate k.toNat xs).flatten Q
theorem E01:OpR X (binaryOp .Mult) (f92 X.K):=by
 intro pins s σ H x y v u Q I rx ry h
 obtain⟨a,k,xs,rfl,rfl,ha,hk,hk2,hz,q⟩:=h
 cases rx
 obtain⟨t,rfl⟩:=ry
 obtain⟨v1,r1,p1,_⟩:=I.tuple ha
 have hl:=r1.length
 obtain⟨⟨cls,dd,data,sl⟩,ho,hc,n,hd⟩:=id p1
 simp only at hc hd;subst hc hd
 have h1:¬ (decide (k < -(2 ^ 63)) || decide (k ≥ 2 ^ 63))=true:=by simp;omega
 refine wpAny_binaryOp_repeat_ref (T:="tuple") (U:="int") (by decide) ⟨_,ho,rfl⟩ (λs'=>typeIs_int s' k t) HT.r90 F.fills_int_mul F.slot_int_rmul HT.G10 F.slot_int_index.lookup
  (call_meets F.slot_int_rmul (typeIs_int s k t) F.entry_int_rmul (F.args_int_rmul_2 _ _) (HT.W40 k t a v1.toArray n dd sl) ⟨ho,rfl,⟨_,ho,rfl⟩,?_⟩)
 by_cases hx:v1=[]∨k=1
 ·refine call_meets F.slot_tuple_mul ⟨_,ho,rfl⟩ F.entry_tuple_mul (F.args_tuple_mul_2 _ _) (HT.s21 a v1.toArray k t n dd sl h1 (by rcases hx with hx | hx <;> simp[hx])) ⟨ho,?_⟩
  have e2:(replicate k.toNat xs).flatten=xs:=by
   rcases hx with hx | hx
   ·rw[r1.z70.mp hx];simp
   ·rw[hx];simp
  rw[e2] at q
  exact q.here I ha
 ·have hv:v1≠[]:=λz=>hx (.inl z)
  have h2:¬ (v1.toArray.isEmpty || k == 1)=true:=by simp[hv];exact λz=>hx (.inr z)
  by_cases hk0:k=0
  ·refine call_meets F.slot_tuple_mul ⟨_,ho,rfl⟩ F.entry_tuple_mul (F.args_tuple_mul_2 _ _) (HT.mul_zero a v1.toArray k t n dd sl h1 h2 (by simp[hk0])) ⟨ho,?_⟩
   rw[show(replicate k.toNat xs).flatten=[] by rw[hk0];rfl] at q
   exact q.new I .nil (zero_le _)
  have hpos:0 < v1.length:=List.length_pos_iff.mpr hv
  have hfl:foldl (λx y=>x++y) #[] (replicate k.toNat v1.toArray)=(replicate k.toNat v1).flatten.toArray:=by
   have:=foldl_rep v1 k.toNat []
   rw[nil_append] at this
   exact this
  have hsz:v1.length * k.toNat≤sizeLine:=by rw[← hl,Nat.mul_comm];exact hz
  have hcast:((v1.toArray.size:Nat):Int) * k=((v1.length * k.toNat:Nat):Int):=by rw[size_toArray,Int.natCast_mul,Int.toNat_of_nonneg (by omega)]
  have hline:(sizeLine:Nat)≤(2 ^ 63 - 1) / 8:=by decide
  refine call_meets F.slot_tuple_mul ⟨_,ho,rfl⟩ F.entry_tuple_mul (F.args_tuple_mul_2 _ _) (HT.s31 a v1.toArray k t n dd sl h1 h2 (by simp[hv];omega) (by rw[hcast];generalize v1.length * k.toNat=m at hsz;omega) (by rw[hcast];generalize v1.length * k.toNat=m at hsz;unfold tupleTooMany;intro z;have z':=of_decide_eq_true z;omega)
   (by rw[hfl,size_toArray,len_rep,Nat.mul_comm];exact hsz)) ⟨ho,?_⟩
  rw[hfl]
  exact q.new I (r1.rep k.toNat) (by rw[len_rep];exact hz)
def s92(K:PySem.W.Frag):V→Option Int→Option Int→Hp→VK→Prop:=λx lo hi H Q=>∃ a xs,x=.ref a∧SqT K H a xs∧s41 K H (q61 xs lo hi) Q
theorem E11:SlR X (s92 X.K):=by
 intro pins s σ H x v vl vu lo hi sl Q I rx hs pl pu h
 obtain⟨a,xs,rfl,hx,q⟩:=h
 cases rx
 obtain⟨its,r,ht,hz⟩:=I.tuple hx
 have hlen:its.toArray.size=xs.length:=by rw[size_toArray];exact r.length.symm
 refine⟨"tuple",_,PyProof.Rows.slot_tuple_getitem.lookup,ht.typeIs,?_⟩
 by_cases hw:HT.sIx xs.length 0 lo=0∧HT.sIx xs.length xs.length hi=xs.length
 ·refine HT.n00 ht hs pl pu (by rw[hlen];exact hw) ?_
  have e:q61 xs lo hi=xs:=by unfold q61;rw[hw.1,hw.2];simp
  rw[e] at q
  exact q.here I hx
 ·refine HT.p60 ht hs pl pu (by rw[hlen];exact hw) ?_ (by rw[hlen];exact hz)
  rw[hlen]
  exact q.new I ((r.drop (HT.sIx xs.length 0 lo)).take (HT.sIx xs.length xs.length hi - HT.sIx xs.length 0 lo)) (Nat.le_trans (t50 xs lo hi) hz)
def t02(K:PySem.W.Frag)(te ts:TE):TE:=λσ H Q=>te σ H λx H1=>ts σ H1 λy H2=>y=.int (-1)∧((∃ a xs,x=.ref a∧SqT K H2 a xs∧s41 K H2 xs.reverse Q)∨∃ a xs,x=.ref a∧SqL K H2 a xs∧∀ p,H2 p=none→Q (.ref p) (upd H2 p (.lst xs.reverse)))
theorem o92{e st:Expr}{te ts:TE}{p2 pos:Pos}(he:PE X e te)(hst:PE X st ts):PE X (.Subscript e (.Slice none none (some st) p2) pos) (t02 X.K te ts):=by
 intro pins s σ H Q I h
 refine Subscript_ (thn (he pins s σ H _ I h) λv s1 ⟨x,H1,I1,r1,q1⟩=>?_)
 refine wpAny_Slice ?_
 rw[evalPart_none]
 refine wpAny_pure (wpAny_pure ?_)
 rw[evalPart_some]
 refine thn (hst pins s1 σ H1 _ I1 q1) λw' s2 ⟨y,H2,I2,r2,q2⟩=>?_
 obtain⟨rfl,q2⟩:=q2
 obtain⟨t,rfl⟩:=r2
 have I4:Inv X pins σ H2 { s2 with heap:=s2.heap.push { cls:=.type "slice",data:=.fields #[.none,.none,.int (-1) t] } }:=I2.kept (t':=s2.toks) λb ob q=>Heap.get?_push_of_some _ q
 show wpAny (model X.prog X.w) X.A (subscriptTail e (.Slice none none (some st) p2) v (.ref s2.heap.objs.size)) (EP X pins σ Q) X.xe { s2 with heap:=s2.heap.push { cls:=.type "slice",data:=.fields #[.none,.none,.int (-1) t] } }
 rcases q2 with ⟨a,xs,rfl,hq,q⟩ | ⟨a,xs,rfl,hq,q⟩
 ·cases r1
  obtain⟨its,r,ht,hz⟩:=I4.tuple hq
  exact tail_any (ops:=[.ref a,.ref s2.heap.objs.size]) ht.typeIs PyProof.Rows.slot_tuple_getitem.lookup (HT.p80 ht (Heap.IsSliceOf.new ..) (q.new I4 r.reverse (by rw[List.length_reverse];exact hz)) (by rw[← r.length];exact hz)) (by with_unfolding_all rfl)
 ·cases r1
  obtain⟨its,r,ht,hz⟩:=I4.list hq
  have hlen:=r.length
  refine tail_any (ops:=[.ref a,.ref s2.heap.objs.size]) ht.isList.typeIs slot_list_getitem.lookup (wpAny_getItem_list_slice ht.isList (Heap.IsSliceOf.new ..) .none .none (.int (-1) t) (by simp) ?_ (by rw[size_toArray] <;> omega)) (by with_unfolding_all rfl)
  rw[PySem.W.krv_pick]
  refine⟨.ref _,_,I4.laid (t':=s2.toks) (o:=.lst xs.reverse) (λb ob q=>Heap.get?_push_of_some _ q) (Nat.le_refl _) ?_,rfl,q _ (I4.hok.fresh (Nat.le_refl _))⟩
  exact⟨by rw[List.length_reverse];exact hz,its.reverse,0,r.reverse,Heap.get?_push_size _ rfl⟩
theorem Q11:OpR X (compareOp .Is) (λx y H Q=>∃ b c,x=.bl b∧y=.bl c∧Q (.bl (b == c)) H):=by
 intro pins s σ H x y v u Q I rx ry h
 obtain⟨b,c,rfl,rfl,q⟩:=h
 cases rx;cases ry
 exact is_bool (P60 I q rfl)
theorem Q21:OpR X (compareOp .IsNot) (λx y H Q=>∃ b c,x=.bl b∧y=.bl c∧Q (.bl (b != c)) H):=by
 intro pins s σ H x y v u Q I rx ry h
 obtain⟨b,c,rfl,rfl,q⟩:=h
 cases rx;cases ry
 exact isnot_bool (P60 I q rfl)
theorem Inv.big(I:Inv X pins σ H s):sysModules < s.heap.objs.size:=by
 have h:mainGlobals < s.heap.objs.size:=(I.mod.glob.keeps I.bk).lt
 exact Nat.lt_trans (by decide) h
def g02:TE:=λ_ H Q=>∀ p,H p=none→Q (.ref p) (upd H p (.dK []))
theorem E21:PE X (.Dict [] [] pos) g02:=λpins s σ H Q I h =>
 wpAny_Dict_empty ⟨.ref s.heap.objs.size,_,I.laid (a:=s.heap.objs.size) (o:=.dK []) (t':=s.toks) (λ_ _ q=>Heap.get?_push_of_some _ q) (Nat.le_refl _) ⟨zero_le _,beq_eq_false_iff_ne.mpr (Ne.symm (Nat.ne_of_lt I.big)),[],.nil,Heap.DictOf.new _⟩,rfl,h _ (I.hok.fresh (Nat.le_refl _))⟩
end
end L2
namespace MySort
open PySem PySem.W PyProof.Rows
section
variable {P:Program}{w:World}{A:Around}{E:Value→Shared→Prop}{s:Shared}
theorem K90(ho:s.heap.get? l=some o)(hc:o.cls=.type "list"∨o.cls=.type "tuple")(hd:o.data=.seq vs.toArray n)
  (h:Q vs { s with heap:=(s.heap.push (seqObj "list" #[] 0)).update s.heap.objs.size (Obj.mapSeq (·++vs.toArray)) }) (hz:vs.length≤sizeLine):wpAny (model P w) A (collect (.ref l)) Q E s:=by
 unfold collect
 refine wpAny_bind (wpAny_runValue (codeAny_builtin entry_proto_collect' ?_));show wpAny _ _ (do again (.builtin "list.__iadd__" ⟨[← newList [],.ref l],[]⟩)) _ _ s
 refine wpAny_bind (wpAny_newList (wpAny_pure ⟨Code.quiet_builtin _ (by decide +kernel),codeAny_builtin entry_list_iadd' ?_⟩))
 show wpAny _ _ (Builtin.List.listExtendWith (.ref s.heap.objs.size) (.ref l) (.ref s.heap.objs.size)) _ _ { s with heap:=s.heap.push (seqObj "list" #[] 0) }
 unfold Builtin.List.listExtendWith
 have ho':(s.heap.push (seqObj "list" #[] 0)).get? l=some o:=Heap.get?_push_of_some _ ho
 have fin:wpAny (model P w) A (do
   let o ← load s.heap.objs.size
   match o.data with
   |.seq xs _=>pure xs.toList
   |_=>unsupported "internal:collect") Q E { s with heap:=(s.heap.push (seqObj "list" #[] 0)).update s.heap.objs.size (Obj.mapSeq (·++vs.toArray)) }:=by
  refine wpAny_bind (wpAny_load (get?_update_seq (Heap.get?_push_size _ rfl) _) ?_)
  show wpAny _ _ (pure ((#[]:Array Value)++vs.toArray).toList) Q E _
  rw[show((#[]:Array Value)++vs.toArray).toList=vs by simp];exact wpAny_pure h
 rcases hc with hc | hc
 ·refine wpAny_bind (wpAny_typeOf (T:="list") ⟨o,ho',hc⟩ ?_);rw[if_pos (by rw[show(Value.type "list" == Value.type "list")=true by rfl];simp)]
  refine wpAny_bind (listItems_at ho' hd (wpAny_bind (listItems_at (xs:=#[]) (n:=0) (Heap.get?_push_size _ rfl) rfl ?_)));rw[if_neg (by simp)]
  exact wpAny_bind (listUpdate_at (xs:=#[]) (n:=0) (Heap.get?_push_size _ rfl) rfl (wpAny_pure fin) (zero_le _) (by show(#[]++vs.toArray).size≤sizeLine + 1;simp only[Array.size_append,size_toArray,length_nil];omega))
 ·refine wpAny_bind (wpAny_typeOf (T:="tuple") ⟨o,ho',hc⟩ ?_);rw[if_pos (by rw[show(Value.type "tuple" == Value.type "tuple")=true by rfl];simp)]
  refine wpAny_bind (listItems_at ho' hd (wpAny_bind (listItems_at (xs:=#[]) (n:=0) (Heap.get?_push_size _ rfl) rfl ?_)));rw[if_neg (by simp)]
  exact wpAny_bind (listUpdate_at (xs:=#[]) (n:=0) (Heap.get?_push_size _ rfl) rfl (wpAny_pure fin) (zero_le _) (by show(#[]++vs.toArray).size≤sizeLine + 1;simp only[Array.size_append,size_toArray,length_nil];omega))
theorem d41(ho:s.heap.get? l=some o)(hc:o.cls=.type "list"∨o.cls=.type "tuple")(hd:o.data=.seq vs.toArray n)
  (hk:∀ h',d31 s.heap h'→b82 P w A.in1.in1 { s with heap:=h' } vs Pr kd)
  (h:∀ (p:List Nat) (h':Heap) (c:Nat),Pr p→(∀ b o,s.heap.get? b=some o→h'.get? b=some o)→h'.get? (s.heap.objs.size + 1)=some (seqObj "list" (p.map λi=>vs.getD i Value.none).toArray c)→Q (.ref (s.heap.objs.size + 1)) { s with heap:=h' }) :
  wpAny (model P w) A (call (.builtin "sorted") [.ref l]) Q E s:=by
 have h64:=(hk s.heap λ_ _ e _=>e).len
 refine Calls.call_function_entry kind_sorted plain_sorted entry_sorted (args_sorted1 _) ?_;unfold Builtin.«sorted»
 refine wpAny_bind (m:=checkCount "sorted" 1 1 _) (wpAny_pure ?_);refine wpAny_bind (K90 ho hc hd ?_ (by rw[sizeLine_eq];omega));refine wpAny_bind (wpAny_newList ?_ (by rw[sizeLine_eq];omega))
 have hsz:((s.heap.push (seqObj "list" #[] 0)).update s.heap.objs.size (Obj.mapSeq (·++vs.toArray))).objs.size=s.heap.objs.size + 1:=by rw[Heap.size_update,size_push']
 have hoL:(((s.heap.push (seqObj "list" #[] 0)).update s.heap.objs.size (Obj.mapSeq (·++vs.toArray))).push (seqObj "list" vs.toArray 0)).get? (s.heap.objs.size + 1)=some (seqObj "list" vs.toArray 0):=by rw[← hsz];exact Heap.get?_push_size _ rfl
 have keep:∀ b o,s.heap.get? b=some o→(((s.heap.push (seqObj "list" #[] 0)).update s.heap.objs.size (Obj.mapSeq (·++vs.toArray))).push (seqObj "list" vs.toArray 0)).get? b=some o:=λb o q=>by
  have hlt:b < s.heap.objs.size:=lt_size q
  rw[Heap.get?_push_ne _ _ _ (by rw[hsz];exact Nat.ne_of_lt (Nat.lt_succ_of_lt hlt)),Heap.get?_update_ne _ _ _ _ (Nat.ne_of_lt hlt),Heap.get?_push_ne _ _ _ (Nat.ne_of_lt hlt)];exact q
 show wpAny _ _ _ _ _ { s with heap:=((s.heap.push (seqObj "list" #[] 0)).update s.heap.objs.size (Obj.mapSeq (·++vs.toArray))).push (seqObj "list" vs.toArray 0) }
 rw[hsz]
 refine wpAny_bind (wpAny_holding (wpAny_call_entry slot_list_sort ⟨_,hoL,rfl⟩ entry_list_sort (r91 hoL (λh' kp=>hk h' λb o e hc=>kp b o (keep b o e) hc) λp h' c hp kp hD=>⟨_,rfl,wpAny_pure ⟨_,rfl,h p h' c hp (λb o e=>kp b o (Nat.ne_of_lt (Nat.lt_succ_of_lt (lt_size e))) (keep b o e)) hD⟩⟩) (args_list_sort _)))
end
end MySort
namespace L2
open PySem PySem.Spec PyProof.Rows
open MySort (sortedBy)
section
variable {X:Cx}
def Q31(X:Cx)(H:Hp)(xs:List V)(Pr:List Nat→Prop):Prop:=∀ (pins:List (Addr × Obj)) (σ:St) (s:Shared) (us:List Value),Inv X pins σ H s→Vals xs us→∃ kd,∀ h',MySort.d31 s.heap h'→MySort.b82 X.prog X.w X.A.in1.in1 { s with heap:=h' } us Pr kd
theorem G20:e40 X (.builtin "sorted") (λargs H Q=>∃ a xs,∃ Pr:List Nat→Prop,args=[.ref a]∧(SqL X.K H a xs∨SqT X.K H a xs)∧Q31 X H xs Pr∧(∀ p,Pr p→∀ i∈p,i < xs.length)∧∀ p l,Pr p→H l=none→Q (.ref l) (upd H l (.lst (p.map λi=>xs.getD i .non)))):=by
 intro pins s σ H args us Q I r h
 obtain⟨a,xs,Pr,rfl,hq,hk,hpr,q⟩:=h
 obtain⟨u,rfl,rx⟩:=vals1 r
 cases rx
 have go:∀ (its:List Value) (o:Obj) (n:Nat),Vals xs its→s.heap.get? a=some o→(o.cls=.type "list"∨o.cls=.type "tuple")→o.data=.seq its.toArray n→wpAny (model X.prog X.w) X.A (call (.builtin "sorted") [.ref a]) (EP X pins σ Q) X.xe s:=λits o n rv ho hc hd=>by
  obtain⟨kd,kw⟩:=hk pins σ s its I rv
  have k0:=kw s.heap λ_ _ e _=>e
  refine MySort.d41 ho hc hd kw λp h' c hp kp hD=>?_
  have hn:H (s.heap.objs.size + 1)=none:=I.hok.fresh (le_add_right _ 1)
  have hlen:(p.map λi=>xs.getD i .non).length≤sizeLine:=by rw[length_map,k0.all p hp,sizeLine_eq];have:=k0.len;omega
  have rv':Vals (p.map λi=>xs.getD i .non) (p.map λi=>its.getD i Value.none):=by
   have hall:=hpr p hp
   clear hp hD hlen
   induction p with
   |nil=>exact .nil
   |cons i r ih =>
    refine .cons ?_ (ih λj hj=>hall j (mem_cons_of_mem _ hj))
    have hi:=hall i mem_cons_self
    obtain⟨u,hu,ru⟩:=rv.get (i:=i) (x:=xs[i]) (by simp[hi])
    have e1:xs.getD i V.non=xs[i]:=by simp[hi]
    have e2:its.getD i Value.none=u:=by rw[List.getD_eq_getElem?_getD,hu];rfl
    show RelV (xs.getD i V.non) (its.getD i Value.none)
    rw[e1,e2];exact ru
  exact⟨.ref (s.heap.objs.size + 1),_,I.laid (t':=s.toks) kp (le_add_right _ 1) (show f30 X.prog X.w _ h' _ (.lst _) from⟨hlen,_,c,rv',hD⟩),rfl,q p _ hp hn⟩
 rcases hq with hq | hq
 ·obtain⟨its,rv,pl,_⟩:=I.list hq
  obtain⟨o,ho,hc,n,hd⟩:=pl.isList
  exact go its o n rv ho (.inl hc) hd
 ·obtain⟨its,rv,⟨o,ho,hc,n,hd⟩,_⟩:=I.tuple hq
  exact go its o n rv ho (.inr hc) hd
end
section
variable {K:PySem.W.Frag}{g:TG}{tt:TT}{te:TE}{σ0:St}{H:Hp}{Q:VK}
theorem s51{lo:Int}{n:Nat}(Pv:Nat→List V→Hp→Prop)(hz:n≤sizeLine)(h0:Pv 0 [] H)(hl:∀ i ys H,Pv i ys H→ys.length≤i)
  (hs:∀ i ys H,i < n→Pv i ys H→g (.int (lo + i)) σ0 H λσ2 H2=>tt σ2 H2 λb H3=>if b=true then te σ2 H3 (λy H4=>Pv (i + 1) (ys++[y]) H4) else Pv (i + 1) ys H3)
  (hd:∀ ys H p,Pv n ys H→H p=none→Q (.ref p) (upd H p (.lst ys))):W00 (Itr lo n) σ0 H g tt te Q:=by
 refine⟨λi m ys H=>m=n - i∧i≤n∧Pv i ys H,⟨n,by simp,zero_le _,h0⟩,?_⟩
 rintro i m ys H ⟨rfl,hi,p⟩
 have hy:=hl i ys H p
 by_cases hlt:i < n
 ·refine .inr ⟨hlt,by omega,Pv (i + 1),λzs H' p'=>⟨n - (i + 1),by omega,rfl,hlt,p'⟩,λx H' y=>?_⟩
  obtain⟨e,y⟩:=y
  subst e y
  exact hs i ys _ hlt p
 ·have e:i=n:=by omega
  subst e
  exact .inl ⟨Nat.le_refl _,λz hz=>hd ys H z p hz⟩
end
inductive D where
 |non | bl (b:Bool) | int (i:Int) | str (x:Str) | tup (ds:List D) | lst (ds:List D) | dct
def D.ty:D→String
 |.non=>"NoneType"
 |.bl _=>"bool"
 |.int _=>"int"
 |.str _=>"str"
 |.tup _=>"tuple"
 |.lst _=>"list"
 |.dct=>"dict"
mutual
def Has(K:PySem.W.Frag)(H:Hp):D→V→Prop
 |.non,v=>v=.non
 |.bl b,v=>v=.bl b
 |.int i,v=>v=.int i
 |.str x,v=>v=.str x
 |.tup ds,v=>∃ a xs,v=.ref a∧SqT K H a xs∧x20 K H ds xs
 |.lst ds,v=>∃ a xs,v=.ref a∧SqL K H a xs∧x20 K H ds xs
 |.dct,v=>∃ a kvs,v=.ref a∧H a=some (.dK kvs)
def x20(K:PySem.W.Frag)(H:Hp):List D→List V→Prop
 |[],xs=>xs=[]
 |d::ds,xs=>∃ x r,xs=x::r∧Has K H d x∧x20 K H ds r
end
def isB(T C:String):Bool:=T == C || (T == "bool"&&C == "int")
theorem E31(K:PySem.W.Frag)(d:D):∀ C∈["int","bool","tuple","list","str"],PySem.W.kitOne K (.type d.ty) (.type C)=some (isB d.ty C):=by
 intro C hC
 simp only[mem_cons,not_mem_nil,or_false] at hC
 rcases hC with rfl | rfl | rfl | rfl | rfl <;> cases d <;> first | rfl | kernel_rfl | decide +kernel
section
variable {X:Cx}
theorem s61:e40 X (.builtin "isinstance") (λxs H Q=>∃ d x C,xs=[x,.ty C]∧Has X.K H d x∧C∈["int","bool","tuple","list","str"]∧Q (.bl (isB d.ty C)) H):=by
 intro pins s σ H xs us Q I r h
 obtain⟨d,x,C,rfl,hd,hC,q⟩:=h
 obtain⟨u,w',rfl,rx,rt⟩:=vals2 r
 cases (show w'=Value.type C from rt)
 have e:=E31 X.K d C hC
 have fin:∀ tk,EP X pins σ Q (.bool (isB d.ty C)) { s with toks:=tk }:=λtk=>⟨.bl _,H,I.tok tk,rfl,q⟩
 cases d with
 |non=>unfold Has at hd;subst hd;cases rx;exact PySem.W.kia_one kitx_none I.kIn True.intro e (λz=>nomatch z) fin
 |bl b=>unfold Has at hd;subst hd;cases rx;exact PySem.W.kia_one kitx_bool I.kIn True.intro e (λz=>nomatch z) fin
 |int i=>unfold Has at hd;subst hd;obtain⟨t,rfl⟩:=rx;exact PySem.W.kia_one kitx_int I.kIn True.intro e (λz=>nomatch z) fin
 |str y=>unfold Has at hd;subst hd;obtain⟨t,rfl⟩:=rx;exact PySem.W.kia_one kitx_str I.kIn True.intro e (λz=>nomatch z) fin
 |tup ds =>
  unfold Has at hd
  obtain⟨a,ys,rfl,hq,_⟩:=hd
  cases rx
  obtain⟨its,_,⟨o,h1,h2,_⟩,_⟩:=I.tuple hq
  exact PySem.W.kia_one kitx_tuple I.kIn ⟨o,h1,h2⟩ e (λz=>nomatch z) fin
 |lst ds =>
  unfold Has at hd
  obtain⟨a,ys,rfl,hq,_⟩:=hd
  cases rx
  obtain⟨its,_,pl,_⟩:=I.list hq
  obtain⟨o,h1,h2,_⟩:=pl.isList
  exact PySem.W.kia_one kitx_list I.kIn ⟨o,h1,h2⟩ e (λz=>nomatch z) fin
 |dct =>
  unfold Has at hd
  obtain⟨a,kvs,rfl,hq⟩:=hd
  cases rx
  obtain⟨_,_,vs,_,p⟩:=(show f30 X.prog X.w H s.heap a (.dK kvs) from I.hok a _ hq)
  obtain⟨o,es,ep,h1,h2,_⟩:=p
  exact PySem.W.kia_one kitx_dict I.kIn ⟨o,h1,h2.1⟩ e (λz=>nomatch z) fin
end
def hide(st:Addr)(H:Hp):Hp:=λb=>if b=st then none else H b
theorem d50(st:Addr)(H:Hp):a10 (hide st H) H:=λb o e=>by
 unfold hide at e
 split at e
 ·cases e
 ·exact e
theorem u00{st:Addr}{H H':Hp}(e:∀ b o,b≠st→H b=some o→H' b=some o):a10 (hide st H) (hide st H'):=λb o h=>by
 unfold hide at h ⊢
 by_cases q:b=st
 ·rw[if_pos q] at h;cases h
 ·rw[if_neg q] at h ⊢;exact e b o q h
theorem B00{st b:Addr}{H:Hp}{o:HO}(h:H b=some o)(n:b≠st):hide st H b=some o:=by
 unfold hide;rw[if_neg n];exact h
end L2
namespace L2
open PySem PySem.Spec PyProof.Rows
def d51(sc scX:Scope)(N own:List Str)(capt:List (Str × Nat)):Bool :=
 sc.kind == .function&&sc.names.all (λy=>y.2 != .cell)&&sc.names.all (λy=>y.2 != .local || sc.names.lookup y.1 == some .local) &&
  sc.names.all (λy=>y.2 != .free || (scX.names.lookup y.1 == some .cell || scX.names.lookup y.1 == some .free))&&capt.all λp=>N[p.2]? == some p.1&&sc.names.lookup p.1 == some .free
theorem j90.of{X:Cx}{sc scX:Scope}{N own:List Str}{capt:List (Str × Nat)}(e:X.env.scope=scX)(eN:X.N=N)(h:d51 sc scX N own capt=true):j90 X sc own capt:=by
 unfold d51 at h
 simp only[and_eq_true] at h
 obtain⟨⟨⟨⟨h1,h2⟩,h3⟩,h4⟩,h5⟩:=h
 rw[all_eq_true] at h2 h3 h4 h5
 refine⟨by simpa using h1,λy hy=>by simpa using h2 y hy,λy hy hl=>?_,λy hy hf=>?_,λp hp=>?_⟩
 ·have:=h3 y hy;rw[hl] at this;simpa using this
 ·have:=h4 y hy
  rw[hf] at this
  show X.env.scope.names.lookup y.1=_∨X.env.scope.names.lookup y.1=_
  rw[e]
  simpa using this
 ·have:=h5 p hp
  rw[eN]
  simpa using this
theorem gN{i:Nat}{v:V}{σ:St}{H:Hp}{R:St→Hp→Prop}(h:R (σ.set i (some v)) H):z40 i v σ H R:=h
theorem s71{σ:St}{H:Hp}{R:Bool→Hp→Prop}(h:R true H):c01 σ H R:=h
theorem u10{n:Nat}(h:n≤64):n≤sizeLine:=Nat.le_trans h (by decide)
section
variable {X:Cx}
theorem Q41(K:PySem.W.Frag)(d:D):kitAny K (.type d.ty) [.type "tuple",.type "list"]=some (isB d.ty "tuple" || isB d.ty "list"):=by
 have e1:=E31 K d "tuple" (by simp)
 have e2:=E31 K d "list" (by simp)
 unfold kitAny
 rw[e1]
 cases isB d.ty "tuple" with
 |true=>rfl
 |false =>
  show kitAny K (.type d.ty) [.type "list"]=_
  unfold kitAny
  rw[e2]
  cases isB d.ty "list" <;> rfl
theorem d61:e40 X (.builtin "isinstance") (λxs H Q=>∃ d x a,xs=[x,.ref a]∧Has X.K H d x∧SqT X.K H a [.ty "tuple",.ty "list"]∧Q (.bl (isB d.ty "tuple" || isB d.ty "list")) H):=by
 intro pins s σ H xs us Q I r h
 obtain⟨d,x,a,rfl,hd,hq,q⟩:=h
 obtain⟨u,w',rfl,rx,rt⟩:=vals2 r
 cases (show w'=Value.ref a from rt)
 obtain⟨its,rv,⟨⟨cls,dd,data,sl⟩,ho,hc,n,hdt⟩,_⟩:=I.tuple hq
 simp only at hc hdt;subst hc hdt
 have eits:its=[.type "tuple",.type "list"]:=by
  cases rv with
  |cons p r=>cases r with
   |cons p2 r2=>cases r2;rw[show _=Value.type "tuple" from p,show _=Value.type "list" from p2]
 subst eits
 have e:=Q41 X.K d
 have fin:∀ tk,EP X pins σ Q (.bool (isB d.ty "tuple" || isB d.ty "list")) { s with toks:=tk }:=λtk=>⟨.bl _,H,I.tok tk,rfl,q⟩
 cases d with
 |non=>unfold Has at hd;subst hd;cases rx;exact kia_tup kitx_none I.kIn True.intro ho e (λz=>nomatch z) fin
 |bl b=>unfold Has at hd;subst hd;cases rx;exact kia_tup kitx_bool I.kIn True.intro ho e (λz=>nomatch z) fin
 |int i=>unfold Has at hd;subst hd;obtain⟨t,rfl⟩:=rx;exact kia_tup kitx_int I.kIn True.intro ho e (λz=>nomatch z) fin
 |str y=>unfold Has at hd;subst hd;obtain⟨t,rfl⟩:=rx;exact kia_tup kitx_str I.kIn True.intro ho e (λz=>nomatch z) fin
 |tup ds =>
  unfold Has at hd
  obtain⟨b,ys,rfl,hq',_⟩:=hd
  cases rx
  obtain⟨_,_,⟨o,h1,h2,_⟩,_⟩:=I.tuple hq'
  exact kia_tup kitx_tuple I.kIn ⟨o,h1,h2⟩ ho e (λz=>nomatch z) fin
 |lst ds =>
  unfold Has at hd
  obtain⟨b,ys,rfl,hq',_⟩:=hd
  cases rx
  obtain⟨_,_,pl,_⟩:=I.list hq'
  obtain⟨o,h1,h2,_⟩:=pl.isList
  exact kia_tup kitx_list I.kIn ⟨o,h1,h2⟩ ho e (λz=>nomatch z) fin
 |dct =>
  unfold Has at hd
  obtain⟨b,kvs,rfl,hq'⟩:=hd
  cases rx
  obtain⟨_,_,vs,_,p⟩:=(show f30 X.prog X.w H s.heap b (.dK kvs) from I.hok b _ hq')
  obtain⟨o,es,ep,h1,h2,_⟩:=p
  exact kia_tup kitx_dict I.kIn ⟨o,h1,h2.1⟩ ho e (λz=>nomatch z) fin
end
open PySem PySem.Spec PyProof.Rows PySem.SeqAt
theorem B10(l b:Addr)(es:Array DictEntry)(n:Nat)(it:Array Value)(n2:Nat)(dd dd2:Option Addr)(sl sl2:Array (Option Value)) :
  Meets (Builtin.«dict.__ne__» ⟨[.ref l,.ref b],[]⟩) (λ_ R s=>s.heap.get? l=some { cls:=.type "dict",dict:=dd,data:=.dict es n,slots:=sl }∧s.heap.get? b=some { cls:=.type "tuple",dict:=dd2,data:=.seq it n2,slots:=sl2 }∧R (.ok (.ret .notImplemented)) s) :=
 .of_wp λprog w A R s h=>by
  obtain⟨hp,g,d,tk,os⟩:=s
  obtain⟨hl,hb,h⟩:=h
  have f1:=F.sub_tuple_dict
  wp_walk using wpAny_loadPart' hl,wpAny_loadPart' hb
  exact⟨_,rfl,h⟩
theorem B20(l b:Addr)(es:Array DictEntry)(n:Nat)(it:Array Value)(n2:Nat)(dd dd2:Option Addr)(sl sl2:Array (Option Value)) :
  Meets (Builtin.«tuple.__ne__» ⟨[.ref b,.ref l],[]⟩) (λ_ R s=>s.heap.get? l=some { cls:=.type "dict",dict:=dd,data:=.dict es n,slots:=sl }∧s.heap.get? b=some { cls:=.type "tuple",dict:=dd2,data:=.seq it n2,slots:=sl2 }∧R (.ok (.ret .notImplemented)) s) :=
 .of_wp λprog w A R s h=>by
  obtain⟨hp,g,d,tk,os⟩:=s
  obtain⟨hl,hb,h⟩:=h
  have f1:=F.sub_dict_tuple
  wp_walk using wpAny_loadPart' hl,wpAny_loadPart' hb
  exact⟨_,rfl,h⟩
section
variable {X:Cx}
theorem E41(hu:X.A.units + 64 < cLine):OpR X (compareOp .NotEq) (λx y H Q=>∃ a b kvs xs,x=.ref a∧y=.ref b∧H a=some (.dK kvs)∧SqT X.K H b xs∧Q (.bl true) H):=by
 intro pins s σ H x y v u Q I rx ry h
 obtain⟨a,b,kvs,xs,rfl,rfl,ha,hb,q⟩:=h
 cases rx;cases ry
 obtain⟨v2,r2,⟨o2,h2,c2,n2,d2⟩,_⟩:=I.tuple hb
 obtain⟨_,_,vs,_,p⟩:=(show f30 X.prog X.w H s.heap a (.dK kvs) from I.hok a _ ha)
 obtain⟨o1,es,n1,h1,c1,d1,_⟩:=p
 have c1:=c1.1
 obtain⟨cls,dd,data,sl⟩:=o1
 obtain⟨cls2,dd2,data2,sl2⟩:=o2
 simp only at c1 d1 c2 d2
 subst c1 d1 c2 d2
 have hne:a≠b:=λe=>by
  subst e
  rw[h1] at h2
  simp at h2
 have hu':X.A.units < cLine:=by omega
 refine rc_ne_decline_or (k:=false) ⟨_,h1,rfl⟩ ⟨_,h2,rfl⟩ (by decide) F.sub_tuple_dict F.slot_dict_ne F.slot_tuple_ne_refl
  (λ_ hq=>call_meets F.slot_dict_ne ⟨_,h1,rfl⟩ F.entry_dict_ne (F.args_dict_ne_2 _ _) (B10 a b es n1 v2.toArray n2 dd dd2 sl sl2) ⟨h1,h2,hq⟩)
  (λ_ hq=>call_meets F.slot_tuple_ne_refl ⟨_,h2,rfl⟩ F.entry_tuple_ne (F.args_tuple_ne_2 _ _) (B20 a b es n1 v2.toArray n2 dd dd2 sl sl2) ⟨h1,h2,hq⟩)
  (λ_ hq=>wpAny_isSame_ref_other hne h1 h2 (by simp) hq) (.inr hu') ⟨.bl true,H,I,rfl,q⟩
end
end L2
namespace L2
open PySem PySem.Spec PyProof.Rows
section
variable {P:Program}{w:World}{A:Around}{E:Value→Shared→Prop}{s:Shared}
abbrev eT1(h:Heap)(l:Addr):Heap:=h.push { cls:=.type "tuple_iterator",data:=.fields #[.ref l,.int 0 0] }
abbrev eT2(h:Heap)(l:Addr):Heap:=(eT1 h l).push { cls:=.type "enumerate",data:=.fields #[.none,.bool false,.ref h.objs.size,rawInt 0,.none,.none] }
theorem L00(l:Addr)(xs:Array Value) :
  Meets (Builtin.«enumerate.__new__» ⟨[.type "enumerate",.ref l],[]⟩) (λ_ R s=>s.heap.IsTuple l xs∧R (.ok (.ret (.ref (eT1 s.heap l).objs.size))) { s with heap:=eT2 s.heap l }) :=
 .of_wp λP w A R s h=>by
  obtain⟨hp,g,d,tk,os⟩:=s;obtain⟨hl,h⟩:=h
  have hsub:=sub_enumerate
  have hL1:Heap.IsTuple (Shared.heap ⟨hp,g,d,tk,os⟩) l xs:=hl
  wp_walk;refine wpAny_stack_any λq=>wpAny_pure ?_;split
  ·rename_i c _ _ _ _ _;cases (c == Value.type "enumerate") <;> (wp_walk using wpAny_pyIter_tuple hL1) <;> exact⟨_,rfl,h⟩
  ·wp_walk using wpAny_pyIter_tuple hL1
   exact⟨_,rfl,h⟩
theorem W50(hl:s.heap.IsTuple l xs)
  (h:∀ h',IsEnum h' (s.heap.objs.size + 1) s.heap.objs.size 0 .none→h'.IsTupleIter s.heap.objs.size l 0→(∀ c o,s.heap.get? c=some o→h'.get? c=some o)→Q (.ref (s.heap.objs.size + 1)) { s with heap:=h' }) :
  wpAny (model P w) A (call (.type "enumerate") [.ref l]) Q E s:=by
 refine callType_new F.called_enumerate (by decide) (F.typeCall_enumerate_1 _) (F.newCall_enumerate_1 _) (λobj=>F.args_object_init_2 obj _) F.entry_enumerate_new (L00 l xs) ⟨hl,?_⟩
 have n1:(eT1 s.heap l).objs.size=s.heap.objs.size + 1:=size_push ..
 have g2:(eT2 s.heap l).get? (eT1 s.heap l).objs.size=some _:=Heap.get?_push_size _ rfl
 have g1:(eT2 s.heap l).get? s.heap.objs.size=some _:=Heap.get?_push_of_some _ (Heap.get?_push_size _ rfl)
 show _∧_;rw[n1] at g2;rw[n1]
 exact⟨⟨_,g2,rfl⟩,h _ g2 ⟨_,g1,rfl,rfl⟩ λc o q=>Heap.get?_push_of_some _ (Heap.get?_push_of_some _ q)⟩
theorem d71(hh:A.handled=none){it l:Addr}{xs:Array Value}(n:l≠it):Draws P w A it [it,l] xs.size (λi x=>xs[i]?=some x) (λi h=>h.IsTupleIter it l i∧h.IsTuple l xs) where
 live:=λi h q=>by obtain⟨⟨o,e,_⟩,_⟩:=q;exact⟨o,e⟩
 frame:=λi h h' q k=>by
  obtain⟨⟨o,e,r⟩,⟨o',e',r'⟩⟩:=q
  exact⟨⟨o,k it (by simp) _ e,r⟩,⟨o',k l (by simp) _ e',r'⟩⟩
 item:=λi s Q E hi q k=>l30 q.1 q.2 (x:=xs[i]) (by simp[hi]) λh' h1 h2=>k _ h' s.toks (by simp[hi]) ⟨h1,q.2.extBut h2.extBut n⟩ h2
 done:=λs Q E q k=>i50 hh q.1 q.2 (by simp) λh' e h1 h2=>k h' e h1 h2
end
theorem y81{P:Program}{w:World}{A:Around}(b:Bool)(hh:A.handled=none){it l:Addr}{xs:Array Value}(n:l≠it):Draws P w A it [it,l] xs.size (λi x=>xs[i]?=some x) (λi h=>F80 b h it l i∧r31 b h l xs):=match b with
 |true=>Draws.list hh it l n xs
 |false=>d71 hh n
def Ite(b:Bool)(K:PySem.W.Frag)(a:Addr):It :=
 ⟨λi H=>∃ xs x,SqB b K H a xs∧xs[i]?=some x,
  λi H v H'=>∃ T,v=.ref T∧H T=none∧∀ xs x,SqB b K H a xs→xs[i]?=some x→H'=upd H T (.tup [.int i,x]),
  λi H=>∃ xs,SqB b K H a xs∧xs.length=i⟩
theorem d81{P:Program}{w:World}{K:PySem.W.Frag}{es:List Expr}{ek:Nat}{ep:Pos}{a e it:Addr}{b:Bool}(h1:e≠it)(h2:a≠e)(h3:a≠it) :
  Turn P w K (.Tuple es ek ep) (Ite b K a) [e,it] e (λi h=>(∃ old,IsEnum h e it i old)∧F80 b h it a i) where
 mem:=by simp
 obj:=λi h st c hc=>by
  obtain⟨⟨old,he⟩,st⟩:=st
  obtain⟨o1,g1,d1,_⟩:=st.obj
  simp only[mem_cons,not_mem_nil,or_false] at hc
  rcases hc with rfl | rfl
  ·exact⟨_,he,λv e=>by cases e⟩
  ·exact⟨_,g1,d1⟩
 keep:=λi h h' st k=>by
  obtain⟨⟨old,he⟩,st⟩:=st
  obtain⟨o1,g1,_,r1⟩:=st.obj
  exact⟨⟨old,k e (by simp) _ he⟩,r1 h' (k it (by simp) _ g1)⟩
 item:=by
  intro X hP hw hK hc i pins s σ H E I hf st hg
  subst hP hw hK
  obtain⟨xs,x,hq,hx⟩:=hg
  obtain⟨v1,rv,p1,_,z1⟩:=I.r41 hq
  obtain⟨u,hu,ru⟩:=rv.get hx
  obtain⟨⟨old,he⟩,hi⟩:=st
  have hl:i < v1.toArray.size:=by simpa using (List.getElem?_eq_some_iff.mp hu).1
  refine wpAny_pyNext_enum_itemD (y81 (A:=X.A.in1) b (by exact I.ok.hd hc) h3) he ⟨hi,p1⟩ hl h1 (by simp[h1,h2.symm]) λy g1 tk hy ge gs gT sz kp=>⟨_,rfl,?_⟩
  have hy':v1[i]?=some y:=by simpa using hy
  rw[hu] at hy';cases hy'
  refine wpAny_letOwnedTupleGo_enum (s:={ s with heap:=g1,toks:=tk + 1 }) ge λg2 ge2 sb=>?_
  have hT:H s.heap.objs.size=none:=I.hok.fresh (Nat.le_refl _)
  have kall:∀ c o,c ∉ [e,it]→s.heap.get? c=some o→g2.get? c=some o:=λc o hc q=>by
   simp only[mem_cons,not_mem_nil,or_false,not_or] at hc
   exact sb.extBut _ _ hc.1 (kp c o hc.1 hc.2 q)
  have I2:Inv X pins σ H { s with heap:=g2,toks:=tk + 1 }:=I.A40 (t':=tk + 1) hf kall
  have fT:K40 X pins H s.heap.objs.size:=I.Y90 (Nat.le_refl _) hT
  have gT2:g2.get? s.heap.objs.size=some { cls:=.type "tuple",data:=.seq #[.int i tk,u] }:=sb.extBut _ _ (λq=>Nat.lt_irrefl _ (by have:=lt_size he;rw[← q] at this;exact this)) gT
  have I3:Inv X pins σ (upd H s.heap.objs.size (.tup [.int i,x])) { s with heap:=g2,toks:=tk + 1 }:=I2.r01 fT I.sz (I2.hok.y61 hT (its:=[.int i tk,u]) (.cons ⟨_,rfl⟩ (.cons ru .nil)) (by show 2≤sizeLine;rw[sizeLine_eq];decide) ⟨_,gT2,rfl,_,rfl⟩)
  refine⟨.ref s.heap.objs.size,_,I3,rfl,⟨_,rfl,hT,λxs' x' e1 e2=>?_⟩,⟨⟨_,ge2⟩,by obtain⟨o,q1,_,q2⟩:=gs.1.obj;exact q2 _ (sb.extBut _ _ h1.symm q1)⟩,λc hc=>?_⟩
  ·rw[z1 _ e1] at e2
   rw[hx] at e2
   cases e2;rfl
  ·rw[a20]
   ·exact(hf c hc).1
   ·intro q
    simp only[mem_cons,not_mem_nil,or_false] at hc
    rcases hc with hc | hc
    ·exact Nat.lt_irrefl _ (by have:=lt_size he;rw[← hc,q] at this;exact this)
    ·obtain⟨o,ho,_⟩:=F80.obj hi;exact Nat.lt_irrefl _ (by have:=lt_size ho;rw[← hc,q] at this;exact this)
 done:=by
  intro X hP hw hK hc i pins s σ H E I hf st hg
  subst hP hw hK
  obtain⟨xs,hq,rfl⟩:=hg
  obtain⟨v1,rv,p1,_,z1⟩:=I.r41 hq
  obtain⟨⟨old,he⟩,hi⟩:=st
  refine wpAny_pyNext_enum_endD (y81 (A:=X.A.in1) (xs:=v1.toArray) b (by exact I.ok.hd hc) h3) he ⟨by rw[show v1.toArray.size=xs.length by simpa using rv.length.symm];exact hi,p1⟩ λg kp=>⟨rfl,I.A40 (t':=s.toks) hf λc o hcn q=>?_⟩
  simp only[mem_cons,not_mem_nil,or_false,not_or] at hcn
  exact kp c o hcn.2 q
 self:=λ_ _ _ _ _ st h=>by obtain⟨⟨_,he⟩,_⟩:=st;exact wpAny_pyIter_enum he h
def g12(K:PySem.W.Frag)(ta:TA):TI:=λσ H R=>ta σ H λvs H1=>∃ b a,vs=[.ref a]∧(∃ xs,SqB b K H1 a xs)∧R (Ite b K a) H1
theorem W60(hl:r31 b s.heap l xs)
  (h:∀ h',IsEnum h' (s.heap.objs.size + 1) s.heap.objs.size 0 .none→F80 b h' s.heap.objs.size l 0→(∀ c o,s.heap.get? c=some o→h'.get? c=some o)→Q (.ref (s.heap.objs.size + 1)) { s with heap:=h' }) :
  wpAny (model P w) A (call (.type "enumerate") [.ref l]) Q E s:=match b,hl,h with
 |true,hl,h=>call_enumerate_list hl λh' a b _ c=>h h' a b c
 |false,hl,h=>W50 hl h
theorem d91:bootBuiltins "enumerate"=some (.type "enumerate"):=by decide +kernel
theorem E51{X:Cx}{a:Expr}{es:List Expr}{ek:Nat}{ep:Pos}{ta:TA}{p pos:Pos}(hg:Gl X "enumerate")(hm:X.mg "enumerate"=none)(ha:PA X [a] ta)(hs:starEach [a] X.env=[(false,eval a X.env)]:=by rfl) :
  PI X (.Tuple es ek ep) (.Call (.Name "enumerate" p) [a] [] pos) (g12 X.K ta):=by
 intro pins s σ H R I h
 refine Call_ (n50 I hg hm d91 (PyProof.Rows.callWith_type1 (thn (ha pos pins s σ H _ I h) λus s1 ⟨vs,H1,I1,r1,q1⟩=>?_) (by rw[hs];rfl) (by rfl)))
 obtain⟨b,l1,e,⟨xs,hq1⟩,q⟩:=q1
 subst e
 obtain⟨u,rfl,r⟩:=vals1 r1
 cases r
 obtain⟨v1,rv1,p1,a1,_⟩:=I1.r41 hq1
 refine W60 p1 λh' he h1 kp=>wpAny_pyIter_enum (s:={ s1 with heap:=h' }) he ?_
 refine⟨_,[s1.heap.objs.size + 1,s1.heap.objs.size],_,_,H1,rfl,I1.kept (t':=s1.toks) kp,d81 (Nat.succ_ne_self _) (Nat.ne_of_lt (Nat.lt_succ_of_lt a1)) (Nat.ne_of_lt a1),⟨⟨_,he⟩,h1⟩,λc hc=>?_,q⟩
 have hc':s1.heap.objs.size≤c:=by
  simp only[mem_cons,not_mem_nil,or_false] at hc
  rcases hc with rfl | rfl
  ·exact le_add_right _ 1
  ·exact Nat.le_refl _
 exact I1.Y90 hc' (I1.hok.fresh hc')
end L2
namespace HT
open PySem PySem.W PyProof.Rows
set_option maxRecDepth 100000
section
variable {P:Program}{w:World}{A:Around}{E:Value→Shared→Prop}{s:Shared}
theorem B30{a b c:Int}{n:Nat}(hh:A.handled=none)(hr:IsRange s.heap r a b c t u v)(hs:Builtin.Range.small a b c=true)(hn:Builtin.Range.rangeSize a b c=n)(hl:n≤2 ^ 24)
  (hQ:∀ (h':Heap) (tk:Nat) (acc:Array Value),(∀ b o,s.heap.get? b=some o→h'.get? b=some o)→s.heap.objs.size≤h'.objs.size→ItemsOf (λi v=>∃ t,v=.int (a + i * c) t) acc n→Q acc.toList { s with heap:=h',toks:=tk }):wpAny (model P w) A (collect (.ref r)) Q E s:=by
 unfold collect
 refine wpAny_bind (wpAny_runValue (codeAny_builtin PySem.F.entry_proto_collect ?_));rw[Around.under_plainId PySem.F.plain_proto_collect _]
 show wpAny _ A.in1 (newList [] >>= λl=>again (.builtin "list.__iadd__" ⟨[l,.ref r],[]⟩)) _ _ s
 refine wpAny_bind (wpAny_newObj_type (wpAny_pure ⟨plainId_quiet PySem.F.plain_list_iadd _,codeAny_builtin PySem.F.entry_list_iadd ?_⟩));rw[Around.under_plainId PySem.F.plain_list_iadd _]
 show wpAny _ A.in1 (Builtin.List.listExtendWith (.ref s.heap.objs.size) (.ref r) (.ref s.heap.objs.size)) _ _ { s with heap:=s.heap.push (seqObj "list" #[] 0) }
 have hS:(s.heap.push (seqObj "list" #[] 0)).get? s.heap.objs.size=some { cls:=.type "list",data:=.seq #[] 0 }:=Heap.get?_push_size _ rfl
 refine wpAny_mono (wpAny_extend_range (A:=A) (s:={ s with heap:=s.heap.push (seqObj "list" #[] 0) }) (R:=λx s'=>x=.ok (.ret (.ref s.heap.objs.size))∧∃ h' tk acc c',s'={ s with heap:=h',toks:=tk }∧(∀ b o,s.heap.get? b=some o→h'.get? b=some o)∧h'.get? s.heap.objs.size=some { cls:=.type "list",dict:=none,data:=.seq acc c',slots:=#[] }∧ItemsOf (λi v=>∃ t,v=.int (a + i * c) t) acc n) hh (Heap.get?_push_of_some _ hr) hs hn hl _ (.ref s.heap.objs.size) 0 hS λh' tk acc c' hk hS' hi=>⟨rfl,h',tk,acc,c',rfl,λb o e=>hk b o (Nat.ne_of_lt (lt_size e)) (Heap.get?_push_of_some _ e),hS',hi⟩) (λfin s' h=>?_) λe s' h=>?_
 ·have go:∀ s',(∃ h' tk acc c',s'={ s with heap:=h',toks:=tk }∧(∀ b o,s.heap.get? b=some o→h'.get? b=some o)∧h'.get? s.heap.objs.size=some { cls:=.type "list",dict:=none,data:=.seq acc c',slots:=#[] }∧ItemsOf (λi v=>∃ t,v=.int (a + i * c) t) acc n)→wpAny (model P w) A (match Value.ref s.heap.objs.size with
   |Value.ref a=>do
    match (← load a).data with
     |Data.seq xs _=>pure xs.toList
     |_=>unsupported "internal:collect"
   |_=>unsupported "internal:collect") Q E s':=λs' ⟨h',tk,acc,c',e,hk,hS',hi⟩=>by
   subst e
   show wpAny _ A (load s.heap.objs.size >>= _) _ _ _
   exact wpAny_bind (wpAny_load hS' (wpAny_pure (hQ h' tk acc hk (Nat.le_of_lt (lt_size hS')) hi)))
  cases fin with
  |done f =>
   obtain⟨e,h⟩:=h
   cases e
   exact go _ h
  |again c'=>exact⟨h.1,codeAny_mono h.2 λx s'' hx=>by obtain⟨rfl,hx⟩:=hx;exact go _ hx⟩
 ·exact absurd h.1 (by simp)
open AutoSeq1 (wpAny_loadPart')
theorem u20{a b c:Int}{n:Nat}(hh:A.handled=none)(hr:IsRange s.heap r a b c t u v)(hs:Builtin.Range.small a b c=true)(hn:Builtin.Range.rangeSize a b c=n)(hl:n≤200000)
  (hQ:∀ (h':Heap) (tk:Nat) (acc:Array Value),(∀ b o,s.heap.get? b=some o→h'.get? b=some o)→s.heap.objs.size≤h'.objs.size→ItemsOf (λi v=>∃ t,v=.int (a + i * c) t) acc n→Q (.ref h'.objs.size) { s with heap:=h'.push { cls:=.type "tuple",data:=.seq acc },toks:=tk }) :
  codeAny (model P w) A (.call (.builtin "tuple.__new__") ⟨[.type "tuple",.ref r],[]⟩) (wants Q E) s:=by
 refine codeAny_of_tree ?_;show wpAny _ A.in1 (do checkBuiltinCall "tuple.__new__" ⟨[.type "tuple",.ref r],[]⟩;again (.builtin "tuple.__new__" ⟨[.type "tuple",.ref r],[]⟩)) _ _ s
 refine wpAny_bind (wpAny_of_eq (PySem.F.newCall_tuple_1 _) (wpAny_pure ⟨plainId_quiet PySem.F.plain_tuple_new _,codeAny_builtin PySem.F.entry_tuple_new ?_⟩));rw[Around.under_plainId PySem.F.plain_tuple_new _]
 have k1:=sub_tuple_self;have k2:=init_tuple_lookup;have k3:=madeHere_tuple
 have k4:s.TypeIs (.ref r) "range":=⟨_,hr,rfl⟩
 wp_walk using wpAny_typeOf k4,B30 (n:=n) (show A.in1.handled=none from hh) hr hs hn (by omega)
 intro h' tk acc hk hz hi
 show wpAny _ _ (tupleExact acc.toList.toArray >>= λv=>ret v) _ _ _
 unfold tupleExact;rw[toArray_toList]
 refine wpAny_bind (wpAny_newObj_type (wpAny_pure (hQ h' tk acc hk hz hi)) (by show acc.size≤_;rw[hi.1,sizeLine_eq];omega))
theorem tuple_range{a b c:Int}{n:Nat}(hh:A.handled=none)(hr:IsRange s.heap r a b c t u v)(hs:Builtin.Range.small a b c=true)(hn:Builtin.Range.rangeSize a b c=n)(hl:n≤200000)
  (hQ:∀ (h':Heap) (tk:Nat) (acc:Array Value),(∀ b o,s.heap.get? b=some o→h'.get? b=some o)→s.heap.objs.size≤h'.objs.size→ItemsOf (λi v=>∃ t,v=.int (a + i * c) t) acc n→Q (.ref h'.objs.size) { s with heap:=h'.push { cls:=.type "tuple",data:=.seq acc },toks:=tk }):wpAny (model P w) A (call (.type "tuple") [.ref r]) Q E s:=by
 refine callType_codes (Q₁:=λobj s₁=>s₁.TypeIs obj "tuple"∧Q obj s₁) PySem.F.called_tuple (PySem.F.typeCall_tuple_1 _) PySem.F.entry_object_init (u20 hh hr hs hn hl λh' tk acc hk hz hi=>⟨⟨_,Heap.get?_push_size _ rfl,rfl⟩,hQ h' tk acc hk hz hi⟩) λobj s₁ h₁=>?_
 exact⟨h₁.1,PySem.F.args_object_init_2 obj _,object_init_meets PySem.F.called_tuple.init.lookup PySem.F.called_tuple.made (by decide) P w A.in1 _ s₁ ⟨h₁.1,rfl,h₁.2⟩⟩
end
end HT
namespace L2
open PySem PySem.Spec PyProof.Rows
theorem f30.there(x:f30 P w H h a o):∃ u,h.get? a=some u:=by
 cases o with
 |lst xs=>obtain⟨_,_,_,_,e⟩:=x;exact⟨_,e⟩
 |tup xs=>obtain⟨_,_,_,o,e,_⟩:=x;exact⟨_,e⟩
 |dK kvs=>obtain⟨_,_,_,_,o,_,_,e,_⟩:=x;exact⟨_,e⟩
 |dT kvs=>obtain⟨_,_,_,_,o,_,_,e,_⟩:=x;exact⟨_,e⟩
 |set S n=>obtain⟨o,_,_,_,e,_⟩:=x;exact⟨_,e⟩
 |ins C dx fs=>obtain⟨_,_,_,e,_⟩:=x;exact⟨_,e⟩
 |own y=>obtain⟨_,e⟩:=x;exact⟨_,e⟩
 |xd fs=>obtain⟨_,⟨_,_,_,e,_⟩,_⟩:=x;exact⟨_,e⟩
 |rng lo hi=>obtain⟨_,_,_,e⟩:=x;exact⟨_,e⟩
 |frz ob u=>obtain⟨e,_⟩:=x;exact⟨_,e⟩
 |tbl ps=>exact⟨_,(show h.get? a=some _ from x)⟩
 |met f y=>exact⟨_,(show h.get? a=some _ from x)⟩
 |ext φ=>obtain⟨_,⟨_,e⟩,_⟩:=x;exact⟨_,e⟩
def InB(B:Heap)(fs:List Addr)(H':Hp)(h h':Heap):Prop:=∀ b u,h'.get? b=some u→b ∉ fs→((∃ o,h.get? b=some o)∨H' b≠none)→B.get? b=some u
def CX1(P:Program)(w:World):CXT:=λouter H s E e s'=>∃ (a:Addr) (cls a0:Value) (H':Hp) (B:Heap),e=.ref a∧s'.os=s.os∧AllBare s'.gens∧Un (frs outer) [] H H' s.heap s'.heap∧HOk P w H' s'.heap ∧
 Heap.FlyingW B outer a cls a0 s'.heap∧H' a=none∧InB B (frs outer) H' s.heap s'.heap∧E cls (some a) H'
section
variable {X:Cx}{pins:List (Addr × Obj)}{σ:St}{H H':Hp}{s s':Shared}{B h'':Heap}{a:Addr}{cls a0:Value}{E:XK}
theorem L10(hS:X.stack=X.env::X.outer)(hx:X.ex=[])(hf:X.env.frame=some X.env.locals)(I:Inv X pins σ H s)(os:s'.os=s.os)(bare:AllBare s'.gens)(un:Un (frs X.stack) [] H H' s.heap s'.heap)(hok:HOk X.prog X.w H' s'.heap)
  (bB:InB B (frs X.stack) H' s.heap s'.heap) (na:H' a=none) (fl:Heap.FlyingW B X.outer a cls a0 h'') (sm:s'.heap.UpToSlots h'') (he:E cls (some a) H'):CX1 X.prog X.w X.outer X.H₀ X.s₀ E (.ref a) { s' with heap:=h'' }:=by
 have hfs:frs X.stack=X.env.locals::frs X.outer:=by rw[hS];unfold frs;rw[filterMap_cons,hf]
 have U1:=I.base
 rw[hx] at U1
 have U:Un (frs X.stack) [] X.H₀ H' X.s₀.heap s'.heap:=(U1.mono (λb hb=>by rw[hfs];exact mem_cons_of_mem _ hb) λb hb=>hb).trans un
 have nL:∀ b o,X.s₀.heap.get? b=some o→b ∉ frs X.outer→b ∉ frs X.stack:=λb o e hn hm=>by
  rw[hfs] at hm
  rcases List.mem_cons.mp hm with z | z
  ·exact absurd (lt_size e) (by rw[z];exact Nat.not_lt.mpr I.ok.above)
  ·exact hn z
 have frN:∀ b∈frs X.stack,H' b=none:=λb hb=>by
  obtain⟨_,o,ho,_⟩:=I.stack.mem hb
  exact un.free b o ho (I.p40 b hb) (by simp)
 have old:∀ b o,X.s₀.heap.get? b=some o→b ∉ frs X.outer→∃ u,s'.heap.get? b=some u∧B.get? b=some u:=λb o e hn=>by
  obtain⟨o1,e1⟩:=U1.there b o e (by simp)
  obtain⟨o2,e2⟩:=un.there b o1 e1 (by simp)
  exact⟨o2,e2,bB b o2 e2 (nL b o e hn) (.inl ⟨o1,e1⟩)⟩
 have trk:∀ b,H' b≠none→∃ u,s'.heap.get? b=some u∧B.get? b=some u:=λb hb=>by
  obtain⟨o,e⟩:=Option.ne_none_iff_exists'.mp hb
  obtain⟨u,eu⟩:=(hok b o e).there
  exact⟨u,eu,bB b u eu (λhm=>by rw[frN b hm] at e;cases e) (.inr hb)⟩
 refine⟨a,cls,a0,H',B,rfl,os.trans I.os,bare,⟨λb o e n hb _=>?_,λb o e n hb _=>?_,λb o e n hb=>U.free b o e n hb,λb o e _=>?_,U.tups,U.frzs,U.tbls⟩,λc o e=>?_,fl,na,λb u e hn hor=>?_,he⟩
 ·obtain⟨u,e1,e2⟩:=old b o e hb
  have e3:=U.keep b o e n (nL b o e hb) (by simp)
  rw[e1] at e3;cases e3
  exact fl.1 b _ e2
 ·obtain⟨sl,e1⟩:=U.slot b o e n (by rw[hfs];exact mem_cons_of_mem _ hb) (by simp)
  obtain⟨_,o',ho',hd⟩:=I.ok.V40.mem hb
  rw[e] at ho';cases ho'
  obtain⟨sl',e2⟩:=sm b _ e1 hd
  exact⟨sl',e2⟩
 ·by_cases hb:b∈frs X.outer
  ·obtain⟨_,o',ho',_⟩:=fl.2.2.1.mem hb
   exact⟨o',ho'⟩
  ·obtain⟨u,_,e2⟩:=old b o e hb
   exact⟨u,fl.1 b _ e2⟩
 ·refine(hok c o e).j40 (λb u hb q=>?_) (λ_ q=>q) λ_ _ q=>q
  have hbn:H' b≠none:=by
   rcases hb with rfl | hb
   ·rw[e];exact λz=>nomatch z
   ·rw[hb];exact λz=>nomatch z
  obtain⟨u',e1,e2⟩:=trk b hbn
  rw[q] at e1;cases e1
  exact fl.1 b _ e2
 ·have:∃ u',B.get? b=some u':=by
   rcases hor with ⟨o,ho⟩ | hor
   ·obtain⟨u',_,e2⟩:=old b o ho hn
    exact⟨u',e2⟩
   ·obtain⟨u',_,e2⟩:=trk b hor
    exact⟨u',e2⟩
  obtain⟨u',e2⟩:=this
  have e3:=fl.1 b _ e2
  rw[e] at e3;cases e3
  exact e2
end
section
variable {P:Program}{w:World}{K:PySem.W.Frag}{mg:Str→Option Value}{base:Heap}{N:List Str}{qual:Str}{scope:Scope}{f:Addr}{cd:Value}{A:Around}{outer:List Env}{s₀:Shared}{H₀:Hp}{E:XK}
theorem e01(I:Inv (w70 (CX1 P w) P w K mg base N qual scope f cd A outer s₀ H₀ E) pins σ H s)(hx:Heap.MadeExcOf s.heap h' e cls vs)(he:E cls (some e) H) :
  (w70 (CX1 P w) P w K mg base N qual scope f cd A outer s₀ H₀ E).xe (.ref e) { s with heap:=h' }:=by
 have hin:∀ env∈(w70 (CX1 P w) P w K mg base N qual scope f cd A outer s₀ H₀ E).stack,∀ a,env.frame=some a→a∈frs (w70 (CX1 P w) P w K mg base N qual scope f cd A outer s₀ H₀ E).stack:=λenv he a ha=>List.mem_filterMap.mpr ⟨env,he,ha⟩
 have kB:(hideAll s.heap (frs (w70 (CX1 P w) P w K mg base N qual scope f cd A outer s₀ H₀ E).stack)).StaysIn s.heap:=λb o q=>of_hideAll _ q
 show wpAny _ _ (leaving _ _) _ _ _
 refine wpAny_leaves_madeW (base:=hideAll s.heap (frs (w70 (CX1 P w) P w K mg base N qual scope f cd A outer s₀ H₀ E).stack)) (h:=s.heap) I.ok.frames rfl kB (PySem.W.funFrames_hide I.stack hin) hx λh'' t fl _ _ sm=>?_
 have na:H e=none:=by
  cases z:H e with
  |none=>rfl
  |some o=>obtain⟨u,eu⟩:=(I.hok e o z).there;rw[hx.new] at eu;cases eu
 refine L10 (X:=w70 (CX1 P w) P w K mg base N qual scope f cd A outer s₀ H₀ E) (s':={ s with heap:=h' }) rfl rfl rfl I rfl I.bare (Un.kept hx.keeps) (I.hok.kept hx.keeps) (λb u q hn hor=>?_) na fl sm he
 have:∃ o,s.heap.get? b=some o:=by
  rcases hor with hor | hor
  ·exact hor
  ·obtain⟨o,z⟩:=Option.ne_none_iff_exists'.mp hor
   exact(I.hok b o z).there
 obtain⟨o,ho⟩:=this
 have:=hx.keeps b o ho
 have q':h'.get? b=some u:=q
 rw[this] at q';cases q'
 exact hideAll_get _ ho hn
theorem g22:Passes (CX1 P w) (w70 (CX1 P w) P w K mg base N qual scope f cd A outer s₀ H₀ E) E:=by
 intro pins σ H s e s' I h
 obtain⟨a,cls,a0,H',B,rfl,os,bare,un,hok,fl,na,bB,he⟩:=h
 show wpAny _ _ (leaving _ _) _ _ _
 refine wpAny_leaves_onW I.ok.frames rfl fl λh'' fl' sm=>?_
 exact L10 (X:=w70 (CX1 P w) P w K mg base N qual scope f cd A outer s₀ H₀ E) (s':=s') rfl rfl rfl I os bare un hok bB na fl' sm he
end
theorem E61{K:PySem.W.Frag}{h:Heap}{C:Addr}{bmB:List Value}{newId:String}(KX:K.In h)(hq:PySem.W.excIn K C bmB newId=true) :
  ∃ bm N nm q bs hdct sn sub ab col dd k0 k1 k2 k3 k5 mN,h.get? C=some (excClassObj nm q C N bs bm hdct sn sub ab col dd k0 k1 k2 k3 k5 newId)∧h.Ns N mN∧mN "__init__"=none∧OwnTail h bmB bm:=by
 unfold PySem.W.excIn at hq
 split at hq
 case h_2=>cases hq
 case h_1 dd cd sl ho =>
  split at hq
  case h_2=>cases hq
  case h_1 C' bm k0 k1 k2 k3 n k5 hm hs =>
   simp only[and_eq_true,beq_iff_eq,not_eq_true'] at hq
   obtain⟨⟨⟨⟨⟨z1,z2⟩,hdel⟩,ht⟩,hok⟩,hni⟩:=hq
   subst z1 z2
   cases cd with
   |mk nm bs mro ns qn hd sn sub ab col del =>
    dsimp only at hm hdel hok hni
    subst hm hdel
    have esl:sl=#[k0,k1,k2,k3,some (.builtin n),k5]:=by cases sl with | mk l=>simp only at hs;rw[hs]
    subst esl
    refine⟨bm,ns,nm,qn,bs,hd,sn,sub,ab,col,dd,k0,k1,k2,k3,k5,h.nsMap ns,KX _ _ ho,?_,PySem.W.nsMap_none_of_in KX hok hni,PySem.W.tail_of_in KX ht⟩
    exact .of_isNs (PySem.W.isNs_of_in KX hok)
def B40(X:Cx)(E:XK):Prop:=∀ (pins:List (Addr × Obj)) (σ:St) (H:Hp) (s:Shared) (h':Heap) (e:Addr) (cls:Value) (vs:List Value),Inv X pins σ H s→Heap.MadeExcOf s.heap h' e cls vs→E cls (some e) H→X.xe (.ref e) { s with heap:=h' }
theorem e11{P:Program}{w:World}{K:PySem.W.Frag}{mg:Str→Option Value}{base:Heap}{N:List Str}{qual:Str}{scope:Scope}{f:Addr}{cd:Value}{A:Around}{outer:List Env}{s₀:Shared}{H₀:Hp}{E:XK} :
  B40 (w70 (CX1 P w) P w K mg base N qual scope f cd A outer s₀ H₀ E) E:=λ_ _ _ _ _ _ _ _ I hx he=>e01 I hx he
def Q51(E:XK)(C:Addr)(t:TA):TS:=λ_ σ H=>t σ H λvs H1=>vs.length≤sizeLine∧∀ e,H1 e=none→E (.ref C) (some e) H1
section
variable {X:Cx}{x:Str}{C:Addr}{E:XK}{e₀:Expr}{rest:List Expr}{t:TA}{np cpos pos:Pos}
theorem s81(hE:B40 X E)(hc:X.calm=true)(hg:Gl X x)(hm:X.mg x=some (.ref C))(hq:PySem.W.excIn X.K C [.type "ValueError",.type "Exception",.type "BaseException",.type "object"] "ValueError.__new__"=true)(ha:PA X (e₀::rest) t)
  (hdb:(x == ("__debug__":Str))=false:=by decide) (he:starEach (e₀::rest) X.env=(false,eval e₀ X.env)::starEach rest X.env:=by rfl) (hpl:(backTo cpos (starEach rest X.env)).any (·.1)=false:=by rfl) :
  PS X (.Raise (some (.Call (.Name x np) (e₀::rest) [] cpos)) none pos) (Q51 E C t):=by
 intro pins s σ H D I h
 obtain⟨bm,N,nm,q,bs,hdct,sn,sub,ab,col,dd,k0,k1,k2,k3,k5,mN,hC,hN,hni,T⟩:=E61 I.ok.mod.kin hq
 refine wpAny_Raise_call_subT (C:=C) (nm:=nm) (q:=q) (N:=N) (bs:=bs) (bm:=bm) (hdct:=hdct) (sn:=sn) (sub:=sub) (ab:=ab) (col:=col) (dd:=dd) (k0:=k0) (k1:=k1) (k2:=k2) (k3:=k3) (k5:=k5)
  PySem.F.excBase_ValueError (mN:=mN) (T.hasType PySem.F.excBase_ValueError.hasBase) (I.ok.hd hc) (by rw[he];exact hpl) hni (t30 I hg hm ⟨rfl,?_⟩ hdb)
 have k:=ha cpos pins s σ H _ I h
 rw[he] at k ⊢
 refine Calls.evalArgs_plain (thn k λus s2 ⟨vs,H2,I2,r,z,q⟩=>⟨rfl,by show us.length≤_;rw[← r.length];exact z,I2.bk _ _ hC,hN.keeps I2.bk,T.keeps I2.bk,λh' e hx=>?_⟩)
 refine hE pins σ H2 s2 h' e _ us I2 hx (q e ?_)
 cases z:H2 e with
 |none=>rfl
 |some o=>obtain⟨u,eu⟩:=(I2.hok e o z).there;rw[hx.new] at eu;cases eu
end
open PySem PySem.Spec PyProof.Rows PySem.W PySem.Builtin PySem.Builtin.ObjectAttr PySem.Builtin.Getset_descriptor
section
variable {prog:Program}{w:World}{A:Around}{E:Value→Shared→Prop}{K:PySem.W.Frag}{h:Heap}{gg:Array GenState}{d:Drawn}{t:Nat}{os:OsState}{x D:Addr}{ox:Obj}
structure f90(K:PySem.W.Frag)(D:Addr):Prop where
 ga:findIn K (.ref D) "__getattribute__"=some (some (.builtin "BaseException.__getattribute__"))
 gh:findIn K (.ref D) "__getattr__"=some none
 mb:mroIn K D (.type "BaseException")=some true
 mo:mroIn K D (.type "object")=some true
 fc:findIn K (.ref D) "__class__"=some (some (.builtin "object.__class__"))
 fg:specialIn K (.builtin "object.__class__") "__get__"=some (some (.builtin "getset_descriptor.__get__"))
 ft:takesIn K (.builtin "object.__class__")=some true
def excAt(a D:Addr)(h:Heap):Prop:=∃ ox,h.get? a=some ox∧ox.cls=.ref D
theorem excAt.ty{M:Model}{a D:Addr}{h:Heap}(p:excAt a D h):Looks M h (typeOf (.ref a)) (.ref D):=by
 obtain⟨ox,e,c⟩:=p
 rw[← c]
 exact(Looks.ld e).andThen .now
theorem s91{M:Model}(KX:K.In h)(L:f90 K D):Looks M h (find (.ref x) (.ref D) "__class__") (.bind (.builtin "getset_descriptor.__get__") (.builtin "object.__class__")):=by
 have l1:=looks_takesIn (M:=M) KX L.ft
 have l2:Looks M h (dataDescriptor? (some (.builtin "object.__class__")) (some (.builtin "getset_descriptor.__get__"))) (some (.builtin "getset_descriptor.__get__",.builtin "object.__class__")):=l1.andThen .now
 exact(looks_findIn KX L.fc).andThen ((looks_specialIn KX L.fg).andThen (l2.andThen (Looks.tag .now)))
theorem E71{R:Result→Shared→Prop}{tp:Value}(KX:K.In h)(I:excAt x D h)(hm:mroIn K D (.type "object")=some true)(hq:R (.ok (.ret (.ref D))) ⟨h,gg,d,t,os⟩) :
  codeAny (model prog w) A (.call (.builtin "getset_descriptor.__get__") ⟨[.builtin "object.__class__",.ref x,tp],[]⟩) R ⟨h,gg,d,t,os⟩:=by
 have L0:=I.ty (M:=model prog w)
 have L1:=looks_mroIn (M:=model prog w) KX hm
 (refine codeAny_call_builtin KF.slot_gs.plain KF.entry_gs (KF.slot_gs.check _ _ _ _ _ _ _ _ KF.type_class (KF.args_gs _ _ _) ?_);unfold Builtin.«getset_descriptor.__get__» descrGet;rw[dga_obj];refine wpAny_bind (wpAny_pure ?_);unfold descrGetter descrCheckInstance descrNameAndClass isInstance;simp only[KF.owner_class];repeat lk)
 (refine⟨Code.quiet_builtin _ (by decide +kernel),codeAny_builtin KF.entry_class ?_⟩;unfold Builtin.«object.__class__» shownTypeOf;repeat lk)
 exact hq
theorem e21{M:Model}{nameV:Value}{Q:Unit→Shared→Prop}(KX:K.In h)(I:excAt x D h)(L:f90 K D)(hq:Q () ⟨h,gg,d,t,os⟩) :
  wpAny M A (checkBuiltinCall "BaseException.__getattribute__" ⟨[.ref x,nameV],[]⟩) Q E ⟨h,gg,d,t,os⟩:=by
 have hkd:builtinKind "BaseException.__getattribute__"=some .slot:=by decide +kernel
 have hsp:splitId "BaseException.__getattribute__"=some ("BaseException","__getattribute__"):=by decide +kernel
 have L0:=I.ty (M:=M)
 have L1:=looks_mroIn (M:=M) KX L.mb
 have ha:=F.args_bexc_ga (.ref x) nameV
 simp only[checkBuiltinCall,hkd,hsp]
 unfold isInstance
 refine wpAny_bind (wpAny_bind (L0.at (L1.at ?_)))
 repeat (first | assumption | wp_step)
theorem e31(KX:K.In h)(I:excAt x D h)(L:f90 K D)(hq:Q (.done (.ret (.ref D))) ⟨h,gg,d,t,os⟩) :
  wpAny (model prog w) A (Builtin.«object.__getattribute__» ⟨[.ref x,.str "__class__" tk],[]⟩) Q E ⟨h,gg,d,t,os⟩:=by
 have L0:=I.ty (M:=model prog w)
 have L1:=s91 (M:=model prog w) (x:=x) KX L
 (unfold Builtin.«object.__getattribute__»);refine wpAny_bind (wpAny_pure (wpAny_bind (wpAny_pure (wpAny_bind (L0.at (wpAny_bind (L1.at ?_)))))))
 show wpAny _ _ (holding [Value.builtin "object.__class__"] (call (.builtin "getset_descriptor.__get__") [.builtin "object.__class__",.ref x,.ref D]) >>= _) _ _ _
 refine wpAny_bind (wpAny_holding (wpAny_call (E71 KX I L.mo ?_)))
 exact wpAny_pure hq
theorem t01{tk:Tok}{R:Result→Shared→Prop}(KX:K.In h)(I:excAt x D h)(L:f90 K D)(hq:R (.ok (.ret (.ref D))) ⟨h,gg,d,t,os⟩) :
  codeAny (model prog w) A (.call (.builtin "BaseException.__getattribute__") ⟨[.ref x,.str "__class__" tk],[]⟩) R ⟨h,gg,d,t,os⟩ :=
 codeAny_call_builtin F.attr_ValueError.ga.plain F.entry_bexc_ga (e21 KX I L (e31 KX I L hq))
theorem Q61{fill expr:Bool}(KX:K.In h)(I:excAt x D h)(L:f90 K D)(hq:Q (.ref D) ⟨h,gg,d,t,os⟩) :
  wpAny (model prog w) A (getAttrBy (.ref x) (.str "__class__" tk) fill expr) Q E ⟨h,gg,d,t,os⟩:=by
 have L0:=I.ty (M:=model prog w)
 have L1:=looks_findIn (M:=model prog w) KX L.ga
 have L2:=looks_findIn (M:=model prog w) KX L.gh
 have f3:=F.attr_ValueError.ga.bind (.ref x)
 have hno:(expr&&onTheHeap (Value.builtin "BaseException.__getattribute__"))=false:=by cases expr <;> rfl
 unfold getAttrBy
 (refine wpAny_holding (wpAny_bind (L0.at (wpAny_bind (L1.at ?_)))));
 show wpAny _ _ (getAttrByItsOwn _ _ _ _ _ _) _ _ _
 unfold getAttrByItsOwn hookBefore
 rw[if_pos (show onTheHeap (Value.ref D)=true from rfl)]
 refine wpAny_bind (L2.at ?_)
 unfold callGetattribute
 rw[hno,if_neg (by decide)]
 unfold boundAndCalled
 (refine wpAny_bind (wpAny_attempt (wpAny_holding ?_)))
 repeat (any_goals (first | assumption | (with_reducible refine wpAny_call (t01 KX I L ?_)) | wp_step))
theorem t11(KX:K.In s.heap)(I:excAt x D s.heap)(L:f90 K D)(hq:Q (some (.ref D)) { s with toks:=s.toks + 1 }):wpAny (model prog w) A (getAttr? (.ref x) "__class__") Q E s:=by
 obtain⟨h,gg,d,t,os⟩:=s
 unfold getAttr? getAttrBy?
 refine wpAny_bind (wpAny_mkText (wpAny_bind (wpAny_attempt (Q61 KX I L ?_))))
 exact wpAny_pure hq
theorem t21(L:f90 K D)(hd:hasDictIn K D=true):KitX K (.ref x) (.ref D) (excAt x D) where
 ty:=λ_ _ _ I=>I.ty
 it:=λM h KX _=>by
  obtain⟨cdD,hcD,_⟩:=any_some hd
  unfold clsIn at hcD
  split at hcD
  case h_2=>cases hcD
  case h_1 ho =>
   intro A' Q' E' s' k q
   unfold isType loadHead
   exact wpAny_bind (wpAny_loadPart (k _ _ (KX _ _ ho)) (wpAny_pure q))
 ne:=λh tp dd its n sl KX htp=>by
  obtain⟨cdD,hcD,_⟩:=any_some hd
  refine Bool.eq_false_iff.mpr λsame=>?_
  cases Value.ref.inj (beq_iff_eq.mp same)
  unfold clsIn at hcD
  split at hcD
  case h_2=>cases hcD
  case h_1 ho=>cases (KX _ _ ho).symm.trans htp
 ca:=λKX I k=>t11 KX I L k
end
def Q71(H:Hp)(a D:Addr):Prop:=H a=some (.ext (excAt a D))
theorem W70{a D:Addr}{h1 h2:Heap}(h:excAt a D h1)(k:∀ o,h1.get? a=some o→h2.get? a=some o):excAt a D h2:=by
 obtain⟨ox,e,c⟩:=h
 exact⟨ox,k _ e,c⟩
section
variable {X:Cx}
theorem W80:e40 X (.builtin "isinstance") (λxs H Q=>∃ (a D:Addr) (c:V) (cv:Value) (b:Bool),xs=[.ref a,c]∧((∃ C,c=.ref C∧cv=.ref C)∨∃ T,c=.ty T∧cv=.type T)∧Q71 H a D∧f90 X.K D∧hasDictIn X.K D=true∧kitOne X.K (.ref D) cv=some b∧Q (.bl b) H):=by
 intro pins s σ H xs us Q I r h
 obtain⟨a,D,c,cv,b,rfl,hc,hx,L,hd,e,q⟩:=h
 obtain⟨u,w',rfl,rx,rt⟩:=vals2 r
 cases (show u=Value.ref a from rx)
 obtain⟨hp,_,_⟩:=(show f30 X.prog X.w H s.heap a (.ext (excAt a D)) from I.hok a _ hx)
 have fin:∀ tk,EP X pins σ Q (.bool b) { s with toks:=tk }:=λtk=>⟨.bl b,H,I.tok tk,rfl,q⟩
 have ew:w'=cv:=by
  rcases hc with ⟨C,rfl,rfl⟩ | ⟨T,rfl,rfl⟩
  ·exact rt
  ·exact rt
 subst ew
 exact kia_one (t21 L hd) I.kIn hp e (λz=>by rcases hc with ⟨C,_,rfl⟩ | ⟨T,_,rfl⟩ <;> exact nomatch z) fin
end
end L2
namespace L2
open PySem PySem.Spec PyProof.Rows
section
variable {X:Cx}{pins:List (Addr × Obj)}{σ:St}{H H':Hp}{s s':Shared}{B h4:Heap}
theorem y91(I:Inv X pins σ H s)(os:s'.os=s.os)(bare:AllBare s'.gens)(un:Un (frs X.stack) [] H H' s.heap s'.heap)(hok:HOk X.prog X.w H' s'.heap)(bB:InB B (frs X.stack) H' s.heap s'.heap)(kB:B.StaysIn h4)(sm:s'.heap.UpToSlots h4) :
  Inv X pins σ H' { s' with heap:=h4 }:=by
 have frN:∀ b∈frs X.stack,H' b=none:=λb hb=>by
  obtain⟨_,o,ho,_⟩:=I.stack.mem hb
  exact un.free b o ho (I.p40 b hb) (by simp)
 have fr4:∀ b o,s.heap.get? b=some o→b∈frs X.stack→∃ sl,h4.get? b=some { o with slots:=sl }:=λb o e hb=>by
  obtain⟨sl,e1⟩:=un.slot b o e (I.p40 b hb) hb (by simp)
  obtain⟨_,o',ho',hd⟩:=I.stack.mem hb
  rw[e] at ho';cases ho'
  obtain⟨sl',e2⟩:=sm b _ e1 hd
  exact⟨sl',e2⟩
 have old:∀ b o,s.heap.get? b=some o→b ∉ frs X.stack→∃ u,s'.heap.get? b=some u∧h4.get? b=some u:=λb o e hn=>by
  obtain⟨o2,e2⟩:=un.there b o e (by simp)
  exact⟨o2,e2,kB b _ (bB b o2 e2 hn (.inl ⟨o,e⟩))⟩
 refine I.M91 (s':={ s' with heap:=h4 }) (ch:=[]) os ⟨λb o e n hb _=>?_,λb o e n hb _=>fr4 b o e hb,un.free,λb o e _=>?_,un.tups,un.frzs,un.tbls⟩ (λc o e=>?_) bare λb hb=>absurd hb (by simp)
 ·obtain⟨u,e1,e2⟩:=old b o e hb
  have e3:=un.keep b o e n hb (by simp)
  rw[e1] at e3;cases e3
  exact e2
 ·by_cases hb:b∈frs X.stack
  ·obtain⟨sl,e1⟩:=fr4 b o e hb
   exact⟨_,e1⟩
  ·obtain⟨u,_,e2⟩:=old b o e hb
   exact⟨u,e2⟩
 ·refine(hok c o e).j40 (λb u hb q=>?_) (λ_ q=>q) λ_ _ q=>q
  have hbn:H' b≠none:=by
   rcases hb with rfl | hb
   ·rw[e];exact λz=>nomatch z
   ·rw[hb];exact λz=>nomatch z
  exact kB b _ (bB b u q (λhm=>hbn (frN b hm)) (.inr hbn))
theorem Inv.e41(I:Inv X pins σ H s)(hl:∀ (i:Nat) (x:Str) (v:V),X.N[i]?=some x→σ[i]?=some (some v)→Vis X.env.scope x→∃ u,RelV v u∧Look X.env s.heap m x u)
  (hn':h'.Ns X.env.locals m') (hs:Heap.SameBut X.env.locals s.heap h') (hm:∀ (i:Nat) (x:Str),X.N[i]?=some x→m' x=m x):Inv X pins σ H { s with heap:=h',toks:=t' }:=by
 have oth:∀ b o,b≠X.env.locals→s.heap.get? b=some o→h'.get? b=some o:=λb o hb e=>(hs.2 b hb).trans e
 have neL:∀ b o,X.s₀.heap.get? b=some o→b≠X.env.locals:=λb o e=>Nat.ne_of_lt (Nat.lt_of_lt_of_le (lt_size e) I.ok.above)
 have cel:∀ x c v,X.env.cells.lookup x=some c→s.heap.IsCell c v→h'.IsCell c v:=λx c v e ⟨o,ho,hd⟩=>⟨o,oth c o (I.cne x c e) ho,hd⟩
 refine⟨I.ok,I.os,I.bare,⟨λb o e n hb hx=>oth b o (neL b o e) (I.base.keep b o e n hb hx),λb o e n hb hx=>?_,I.base.free,λb o e hx=>?_,I.base.tups,I.base.frzs,I.base.tbls⟩,⟨m',hn',λi x v e1 e2 e3=>?_⟩,λx c e=>?_,I.free,I.freeC,λp hp=>?_,λc o e=>?_,I.len⟩
 ·obtain⟨sl,e1⟩:=I.base.slot b o e n hb hx
  exact⟨sl,oth b _ (neL b o e) e1⟩
 ·obtain⟨o',e1⟩:=I.base.there b o e hx
  exact⟨o',oth b _ (neL b o e) e1⟩
 ·obtain⟨u,r,l⟩:=hl i x v e1 e2 e3
  refine⟨u,r,?_⟩
  rcases l with ⟨k,z⟩ | ⟨k,c,ec,z⟩
  ·exact .inl ⟨k,(hm i x e1).trans z⟩
  ·exact .inr ⟨k,c,ec,cel x c _ ec z⟩
 ·obtain⟨v,z⟩:=I.cell x c e
  exact⟨v,cel x c v e z⟩
 ·obtain⟨e,n,ne,nf,d⟩:=I.pin p hp
  exact⟨oth _ _ ne e,n,ne,nf,d⟩
 ·refine(I.hok c o e).j40 (λb u hb q=>oth b u (λz=>?_) q) (λ_ q=>q) λ_ _ q=>q
  rcases hb with rfl | hb
  ·rw[z,I.free] at e;cases e
  ·rw[z,I.free] at hb;cases hb
theorem Inv.z01{T:Addr}{o:HO}(I:Inv X pins σ H s)(nT:H T=none)(n0:X.s₀.heap.get? T=none)(hL:T≠X.env.locals)(hc:∀ x c,X.env.cells.lookup x=some c→c≠T)(hp:∀ p∈X.pn++pins,p.1≠T)(new:f30 X.prog X.w (upd H T o) s.heap T o) :
  Inv X pins σ (upd H T o) s:=by
 have u:=I.base
 refine⟨I.ok,I.os,I.bare,⟨u.keep,u.slot,λb ob e n hx=>?_,u.there,λb xs e=>?_,λb ob xs e=>?_,λb ps e=>?_⟩,I.loc,I.cell,?_,λx c e=>?_,λp hpp=>?_,λc v e=>?_,I.len⟩
 ·rw[a20 (λz=>by rw[z,n0] at e;cases e)];exact u.free b ob e n hx
 ·have z:=u.tups b xs e;rw[a20 (a60 z nT)];exact z
 ·have z:=u.frzs b ob xs e;rw[a20 (a60 z nT)];exact z
 ·obtain⟨more,z⟩:=u.tbls b ps e
  exact⟨more,by rw[a20 (a60 z nT)];exact z⟩
 ·rw[a20 hL.symm];exact I.free
 ·rw[a20 (hc x c e)];exact I.freeC x c e
 ·obtain⟨e,n,r⟩:=I.pin p hpp
  exact⟨e,by rw[a20 (hp p hpp)];exact n,r⟩
 ·by_cases hcT:c=T
  ·subst hcT;rw[a80] at e;cases e;exact new
  ·rw[a20 hcT] at e
   exact(I.hok c v e).j40 (λ_ _ _ q=>q) (λb q=>by rw[a20 (a60 q nT)];exact q) λb xs q=>by rw[a20 (a60 q nT)];exact q
end
structure G30(P:Program)(w:World)(K:PySem.W.Frag)(mg:Str→Option Value)(base:Heap)(CX:CXT)(k:Nat)(f:Addr)(fd:FuncData)(ps:List Str)(sp:Shared→Sp):Prop where
 len:∀ s vs H Q E,sp s vs H Q E→vs.length=ps.length
 run:∀ (A:Around) (outer:List Env) (s:Shared) (H:Hp) (args:Args) (us:List Value) (vs:List V) (Q:VK) (E:XK),p50 k A→C41 P w K mg base A outer s H→BindsTo s fd args (ps.zip us)→Vals vs us→sp s vs H Q E →
  codeAny (model P w) A (.call (.ref f) args) (CR CX outer P w H s Q E) s
theorem Q81{CX:CXT}{P:Program}{w:World}{K:PySem.W.Frag}{mg:Str→Option Value}{base:Heap}{k:Nat}{f:Addr}{name qual:Str}{params:Arguments}{body:List Stmt}{scope:Scope}{dV kV doc pm cdv ct oc:Value}{an od:Option Addr}
  {osl:Array (Option Value)}{N ps:List Str}{sp:Shared→Sp} (lk:K.lookup f=some ⟨oc,od,.func (fnOf name qual params body scope dV kV doc pm an cdv ct),osl⟩) (hcd:PySem.W.codeIn K cdv qual=true) (S:h40 N ps scope)
  (len:∀ s vs H Q E,sp s vs H Q E→vs.length=ps.length)
  (hbody:∀ (A:Around) (outer:List Env) (s:Shared) (H:Hp) (vs:List V) (Q:VK) (E:XK),p50 k (A.deeper (envOfC qual scope s.heap.objs.size f cdv))→sp s vs H Q E →
   ∃ t,PSs (w70 CX P w K mg base N qual scope f cdv A outer s H E) body t∧t { nx:=λ_ H'=>Q .non H',rt:=Q } (start N vs) H) :
  G30 P w K mg base CX (k + 1) f (fnOf name qual params body scope dV kV doc pm an cdv ct) ps sp:=by
 refine⟨len,λA outer s H args us vs Q E hr e0 hb r hsp=>?_⟩
 have hl:=len _ _ _ _ _ hsp
 have KX:K.In s.heap:=e0.mod.kin.keeps λb o e=>(e0.bs b o e).1
 have lim:s.heap.NoLimit:=e0.mod.nolimit.keeps λb o e=>(e0.bs b o e).1
 have hkind:∀ y∈ps.zip us,scope.names.lookup y.1=some .local∨(scope.names.lookup y.1=some .cell∧((cellsFrom (s.heap.objs.size + 1) scope.names []).lookup y.1).isSome=true):=λ⟨n,v⟩ hy=>by
  rcases S.par n (of_mem_zip hy).1 with q | q
  ·exact .inl q
  ·exact .inr ⟨q,cellsFrom_some _ _ _ (.inl q)⟩
 refine codeAny_call_function hr.depth (KX _ _ lk) rfl S.co S.gen rfl (codeRec_of KX hcd) (hb _ _ _ _ ?_)
 refine wpAny_newFunctionEnv_cells S.kind hkind λenv he s1 x=>?_
 subst he
 refine⟨lim.keeps x.toInCall.keep,codeAny_func ?_⟩
 obtain⟨t,ht,hq⟩:=hbody A outer s H vs Q E (hr.deeper _) hsp
 have I:Inv (w70 CX P w K mg base N qual scope f cdv A outer s H E) [] (start N vs) H s1:=F10 S hr.hd e0 hl r x
 refine wpAny_mono (ht [] s1 (start N vs) H _ I hq) (λfl s' hs=>?_) λe s' hs=>hs
 have fin:∀ {σ':St}{H':Hp}{v:V}{u:Value},Inv (w70 CX P w K mg base N qual scope f cdv A outer s H E) [] σ' H' s'→RelV v u→Q v H'→CE outer P w H s Q u s' :=
  λ{σ' H' v u} J rv q=>⟨v,H',J.os,J.bare,J.base,J.hok,rv,q⟩
 cases fl with
 |ret u =>
  obtain⟨v,σ',H',J,rv,q⟩:=hs
  exact fin J rv q
 |next =>
  obtain⟨σ',H',J,q⟩:=hs
  exact fin (v:=V.non) (u:=Value.none) J rfl q
 |brk =>
  obtain⟨_,_,_,q⟩:=hs
  exact False.elim q
 |cont =>
  obtain⟨_,_,_,q⟩:=hs
  exact False.elim q
theorem Fun.okS{P:Program}{w:World}{K:PySem.W.Frag}{mg:Str→Option Value}{base:Heap}{x qual:Str}{st:Stmt}{f:Addr}{fd:FuncData}{N ps:List Str}{k:Nat}{sp:Shared→Sp}(F:Fun K x qual st f fd)(S:h40 N ps (b40 st))(len:∀ s vs H Q E,sp s vs H Q E→vs.length=ps.length)
  (hb:∀ (cdv:Value) (A:Around) (outer:List Env) (s:Shared) (H:Hp) (vs:List V) (Q:VK) (E:XK),p50 k (A.deeper (envOfC qual (b40 st) s.heap.objs.size f cdv))→sp s vs H Q E →
   ∃ t,PSs (w70 CX0 P w K mg base N qual (b40 st) f cdv A outer s H E).nox (f80 st) t∧t { nx:=λ_ H'=>Q .non H',rt:=Q } (start N vs) H):G30 P w K mg base CX0 (k + 1) f fd ps sp:=by
 obtain⟨oc,od,kV,doc,pm,an,cdv,ct,osl,rfl,lk,hcd⟩:=F.ex
 refine Q81 lk hcd S len λA outer s H vs Q E hr hsp=>?_
 obtain⟨t,h,q⟩:=hb cdv A outer s H vs Q E hr hsp
 exact⟨t,h.nox,q⟩
def w80(P:Program)(w:World)(K:PySem.W.Frag)(mg:Str→Option Value)(base:Heap)(N:List Str)(qual:Str)(scope:Scope)(f:Addr)(cd:Value)(cl:List (Str × Addr))(A:Around)(outer:List Env)(s:Shared)(H:Hp)(E:XK):Cx where
 prog:=P
 w:=w
 K:=K
 mg:=mg
 base:=base
 A:=A.deeper (envX qual scope s.heap.objs.size f cd cl)
 N:=N
 s₀:=s
 H₀:=H
 env:=envX qual scope s.heap.objs.size f cd cl
 outer:=outer
 stack:=envX qual scope s.heap.objs.size f cd cl::outer
 ex:=[]
 calm:=true
 fn:=λ_=>false
 pn:=[]
 xe:=λe s'=>wpAny (model P w) (A.deeper (envX qual scope s.heap.objs.size f cd cl)) (leaving (envX qual scope s.heap.objs.size f cd cl) e) (λ_ s''=>CX1 P w outer H s E e s'') (λe' s''=>CX1 P w outer H s E e' s'') s'
section
variable {P:Program}{w:World}{K:PySem.W.Frag}{mg:Str→Option Value}{base:Heap}{N:List Str}{qual:Str}{scope:Scope}{f:Addr}{cd:Value}{cl:List (Str × Addr)}{A:Around}{outer:List Env}{s₀:Shared}{H₀:Hp}{E:XK}
theorem e51:Passes (CX1 P w) (w80 P w K mg base N qual scope f cd cl A outer s₀ H₀ E) E:=by
 intro pins σ H s e s' I h
 obtain⟨a,cls,a0,H',B,rfl,os,bare,un,hok,fl,na,bB,he⟩:=h
 show wpAny _ _ (leaving _ _) _ _ _
 refine wpAny_leaves_onW I.ok.frames rfl fl λh'' fl' sm=>?_
 exact L10 (X:=w80 P w K mg base N qual scope f cd cl A outer s₀ H₀ E) (s':=s') rfl rfl rfl I os bare un hok bB na fl' sm he
structure u30(scope:Scope)(cl:List (Str × Addr))(N:List Str)(vs:List V)(H:Hp)(h:Heap):Prop where
 inj:∀ x y c,cl.lookup x=some c→cl.lookup y=some c→x=y
 has:∀ x,(scope.names.lookup x=some .cell∨scope.names.lookup x=some .free)→∃ c,cl.lookup x=some c
 cell:∀ x c,cl.lookup x=some c→∃ v,h.IsCell c v
 free:∀ x c,cl.lookup x=some c→H c=none
 val:∀ (i:Nat) (x:Str) (v:V),N[i]?=some x→vs[i]?=some v→scope.names.lookup x=some .free∧∃ c u,cl.lookup x=some c∧RelV v u∧h.IsCell c (some u)
 len:vs.length=N.length
theorem E81(e0:C41 P w K mg base A outer s₀ H₀)(hd:A.handled=none)(hk:scope.kind=.function)(FR:u30 scope cl N vs H₀ s₀.heap)(hns:h₁.Ns s₀.heap.objs.size λ_=>none)
  (hkp:∀ b o,s₀.heap.get? b=some o→h₁.get? b=some o) :
  Inv (w80 P w K mg base N qual scope f cd cl A outer s₀ H₀ E) [] (vs.map some) H₀ { s₀ with heap:=h₁,toks:=t }:=by
 have noA:∀ b:Addr,b ∉ (w80 P w K mg base N qual scope f cd cl A outer s₀ H₀ E).ex:=λb z=>absurd (show b∈([]:List Addr) from z) (by simp)
 have cel:∀ c v,s₀.heap.IsCell c v→h₁.IsCell c v:=λc v ⟨o,ho,hd⟩=>⟨o,hkp c o ho,hd⟩
 refine⟨⟨e0.mod,hk,rfl,rfl,Nat.le_refl _,FR.inj,FR.has,(λ_ _ z=>nomatch z),(λ_=>hd),Around.frames_deeper e0.frames,.inr ⟨rfl,rfl⟩,λb z=>absurd z (noA b),e0.bs,e0.bsz,λb _ _=>noA b,λb z=>absurd z (noA b),e0.V40,e0.frf⟩,
  rfl,e0.bare,Un.kept hkp,⟨_,hns,λi x v h1 h2 h3=>?_⟩,λx c h=>?_,e0.hok.fresh (Nat.le_refl _),FR.free,λp hp=>absurd (show p∈([]:List (Addr × Obj)) from hp) (by simp),e0.hok.kept hkp,?_⟩
 ·have hv:vs[i]?=some v:=by
   rw[List.getElem?_map] at h2
   cases e:vs[i]? with
   |none=>rw[e] at h2;cases h2
   |some a=>rw[e] at h2;cases h2;rfl
  obtain⟨k,c,u,ec,r,z⟩:=FR.val i x v h1 hv
  exact⟨u,r,.inr ⟨.inr k,c,ec,cel c _ z⟩⟩
 ·obtain⟨v,z⟩:=FR.cell x c h
  exact⟨v,cel c v z⟩
 ·rw[length_map];exact FR.len
end
def recAt(c:Addr)(qual:Str):Heap→Prop:=λh=>h.CodeRec (.ref c) qual
theorem x30{c:Addr}{qual:Str}{h1 h2:Heap}(h:recAt c qual h1)(k:∀ o,h1.get? c=some o→h2.get? c=some o):recAt c qual h2:=by
 obtain⟨c',oc,vs,tq,e,ho,hd,hq⟩:=h
 cases e
 exact⟨c,oc,vs,tq,rfl,k _ ho,hd,hq⟩
section
variable {P:Program}{w:World}{K:PySem.W.Frag}{mg:Str→Option Value}{base:Heap}{N:List Str}{qual:Str}{scope:Scope}{f c':Addr}{cl:List (Str × Addr)}{s₀:Shared}{H₀:Hp}{k:Nat}{pm ctv cls:Value}{params:Arguments}{body:Expr}{vs:List V}
theorem u30.later{outer:List Env}{H:Hp}{s:Shared}(FR:u30 scope cl N vs H₀ s₀.heap)(un:Un (frs outer) [] H₀ H s₀.heap s.heap):u30 scope cl N vs H s.heap:=by
 have cel:∀ x c v,cl.lookup x=some c→s₀.heap.IsCell c v→s.heap.IsCell c v:=λx c v e ⟨o,ho,hd⟩=>by
  obtain⟨sl,e1⟩:=un.any ho (FR.free x c e) (by simp)
  exact⟨_,e1,hd⟩
 refine⟨FR.inj,FR.has,λx c e=>?_,λx c e=>?_,λi x v h1 h2=>?_,FR.len⟩
 ·obtain⟨v,z⟩:=FR.cell x c e
  exact⟨v,cel x c v e z⟩
 ·obtain⟨v,o,ho,_⟩:=FR.cell x c e
  exact un.free c o ho (FR.free x c e) (by simp)
 ·obtain⟨k,c,u,ec,r,z⟩:=FR.val i x v h1 h2
  exact⟨k,c,u,ec,r,cel x c _ ec z⟩
end
def Tab(H:Hp)(P:Addr)(qual:Str):Prop:=∃ ps:Array Value,H P=some (.tbl ps)∧TriplesOk ps.toList∧∀ pos c,codeAmong pos ps.toList=some c→∃ c',c=.ref c'∧H c'=some (.ext (recAt c' qual))
theorem W90{line col:Int}{pos':Pos}{c c2:Value}(tl:List Value)(h:TriplesOk tl)(e:codeAmong pos' (tl++[rawInt line,rawInt col,c])=some c2):c2=c∨codeAmong pos' tl=some c2:=by
 fun_induction TriplesOk tl with
 |case1 =>
  simp only[nil_append,codeAmong,rawInt] at e
  split at e
  ·cases e;exact .inl rfl
  ·cases e
 |case2 a t b u x rest ih =>
  simp only[List.cons_append,codeAmong] at e ⊢
  split at e
  ·rename_i hc;rw[if_pos hc];exact .inr e
  ·rename_i hc;rw[if_neg hc];exact ih h e
 |case3 tl h1 h2=>exact h.elim
theorem t31(hf:∀ y∈lsc.names,y.2=.free→∃ c,env.cells.lookup y.1=some c):∃ cl,closureFor lsc env=pure cl∧(∀ x c,cl.lookup x=some c→env.cells.lookup x=some c)∧∀ y∈lsc.names,y.2=.free→∃ c,cl.lookup y.1=some c:=by
 obtain⟨cl,e,h1,_,h3⟩:=A20 env lsc.names [] hf (λx c z=>by simp at z)
 refine⟨cl,?_,h1,h3⟩
 unfold closureFor
 first
  |(rw[show(forIn lsc.names ([]:List (Str × Addr)) _:Sem _)=_ from e];rfl)
  |(simp only[bind_pure];exact e)
structure u40(P:Addr)(H H':Hp):Prop where
 same:∀ b o,b≠P→H b=some o→H' b=some o
section
variable {X:Cx}{pins:List (Addr × Obj)}{σ:St}{H:Hp}{s:Shared}{c P:Addr}{qual:Str}{params:Arguments}{body:Expr}{lsc:Scope}{lpos:Pos}{A:Around}{Q:Value→Shared→Prop}{E:Value→Shared→Prop}
theorem Q30(I:Inv X pins σ H s)(hdef:defaultsOf params X.env=([],[]))(hcode:X.env.code=.ref c)(hhd:PySem.W.codeHdIn X.K c P=true)(TB:Tab H P qual)(hqu:X.env.qual++"<lambda>"=qual)
  (hbm:∃ bm ob,X.mg "__builtins__"=some (.ref bm)∧bm≠builtinsNs∧X.base.get? bm=some ob∧ob.cls=.type "module"∧ob.dict=some builtinsNs∧ob.data=.plain)
  (hfr:∀ y∈lsc.names,y.2=.free→∃ c,X.env.cells.lookup y.1=some c)
  (k:∀ (cl:List (Str × Addr)) (f c':Addr) (pm ctv:Value) (h2:Heap) (tk:Tok) (H2:Hp),(∀ x c,cl.lookup x=some c→X.env.cells.lookup x=some c)→(∀ y∈lsc.names,y.2=.free→∃ c,cl.lookup y.1=some c) →
   Inv X pins σ H2 { s with heap:=h2,toks:=tk }→Tab H2 P qual→u40 P H H2→(∃ o,h2.get? f=some o∧o.data=.func (kla_fn "<lambda>" qual params body lsc cl pm (.ref c') ctv))→H2 f=none→H2 c'=some (.ext (recAt c' qual))→s.heap.objs.size≤f →
   Q (.ref f) { s with heap:=h2,toks:=tk }):wpAny (model X.prog X.w) A (eval (.Lambda params body lsc lpos) X.env) Q E s:=by
 refine PySem.W.kla_eval hdef ?_
 rw[hqu]
 obtain⟨cl,ecl,cl1,cl2⟩:=t31 hfr
 obtain⟨ps,hP,ht,hall⟩:=TB
 have hPt:s.heap.get? P=some (PySem.W.tabObj ps):=I.hok P _ hP
 have hg:=I.mod.glob.keeps I.bk
 have bsN:∀ b o,X.base.get? b=some o→b≠P:=λb o e z=>by have:=(I.bs b o e).2;rw[z,hP] at this;cases this
 have hgP:mainGlobals≠P:=by obtain⟨o,_,_,e,_⟩:=I.mod.glob;exact bsN _ o e
 obtain⟨bm,ob,b1,b2,b3,b4,b5,b6⟩:=hbm
 have hbGl:bm≠mainGlobals:=λq=>by
  obtain⟨o,es,ep,e,hd,_⟩:=I.mod.glob
  rw[q,e] at b3;(cases b3;rw[hd] at b6;cases b6)
 have BA:s.heap.BuiltinsAt X.mg P:=⟨bm,ob,b1,b2,hbGl,bsN _ _ b3,I.bk _ _ b3,b4,b5,b6⟩
 have CH:=codeHd_of_K I.kIn hhd
 cases hca:codeAmong lpos ps.toList with
 |some cv =>
  obtain⟨c',rfl,hc'⟩:=hall lpos cv hca
  refine PySem.W.kla_makeFunctionHit ecl I.ok.glob hg hcode CH hPt ht hca BA λctv h' tk hk hsz=>?_
  have kp:∀ b o,s.heap.get? b=some o→(h'.push { cls:=.type "function",data:=.func (kla_fn "<lambda>" qual params body lsc cl ((X.mg "__name__").getD .none) (.ref c') ctv) }).get? b=some o:=λb o e=>Heap.get?_push_of_some _ (hk b o e)
  have nf:H h'.objs.size=none:=I.hok.fresh hsz
  exact k cl h'.objs.size c' _ ctv _ tk H cl1 cl2 (I.kept (t':=tk) kp) ⟨ps,hP,ht,hall⟩ ⟨λ_ _ _ e=>e⟩ ⟨_,Heap.get?_push_size _ rfl,rfl⟩ nf hc' hsz
 |none =>
  refine PySem.W.kla_makeFunction ecl I.ok.glob hg hcode CH hPt ht hca hgP BA λc' ctv h' tk hx hge hlt hrec htb=>?_
  have lP:P < s.heap.objs.size:=lt_size hPt
  have cP:c'≠P:=ne_of_gt (Nat.lt_of_lt_of_le lP hge)
  have nC:H c'=none:=I.hok.fresh hge
  have kp:∀ b o,b≠P→s.heap.get? b=some o→(h'.push (kla_obj "<lambda>" qual params body lsc cl ((X.mg "__name__").getD .none) c' ctv)).get? b=some o:=λb o hb e=>Heap.get?_push_of_some _ (hx b o hb e)
  have tb:(h'.push (kla_obj "<lambda>" qual params body lsc cl ((X.mg "__name__").getD .none) c' ctv)).get? P=some (PySem.W.tabObj (ps++#[rawInt lpos.line,rawInt lpos.col,.ref c'])):=Heap.get?_push_of_some _ htb
  have rc:recAt c' qual (h'.push (kla_obj "<lambda>" qual params body lsc cl ((X.mg "__name__").getD .none) c' ctv)):=x30 hrec λo q=>Heap.get?_push_of_some _ q
  have h2P:upd (upd H P (.tbl (ps++#[rawInt lpos.line,rawInt lpos.col,.ref c']))) c' (.ext (recAt c' qual)) P=some (.tbl (ps++#[rawInt lpos.line,rawInt lpos.col,.ref c'])):=by rw[a20 cP.symm];exact a80
  have oth:∀ b,b≠P→b≠c'→upd (upd H P (.tbl (ps++#[rawInt lpos.line,rawInt lpos.col,.ref c']))) c' (.ext (recAt c' qual)) b=H b:=λb h1 h2=>by rw[a20 h2,a20 h1]
  have neC:∀ b o,H b=some o→b≠c':=λb o e=>a60 e nC
  have I2:Inv X pins σ (upd (upd H P (.tbl (ps++#[rawInt lpos.line,rawInt lpos.col,.ref c']))) c' (.ext (recAt c' qual))) { s with heap:=h'.push (kla_obj "<lambda>" qual params body lsc cl ((X.mg "__name__").getD .none) c' ctv),toks:=tk }:=by
   have nP:∀ b,H b=none→b≠P:=λb n z=>by rw[z,hP] at n;cases n
   refine I.step (g':=s.gens) (d':=s.drawn) (ch:=[]) (λb hb=>absurd hb (by simp)) (λb o _ _ _ e n=>kp b o (nP b n) e) (λb o _ _ _ e n=>⟨o.slots,kp b o (nP b n) e⟩) (λb o _ e n=>?_) (λb o _ e=>?_) (λb xs e=>?_) (λb o u e=>?_) (λb qs e=>?_) (λm hm=>?_) (λb u e=>?_) I.bare
   ·rw[oth b (nP b n) (Nat.ne_of_lt (Nat.lt_of_lt_of_le (lt_size e) hge))];exact n
   ·by_cases hb:b=P
    ·subst hb;exact⟨_,tb⟩
    ·exact⟨o,kp b o hb e⟩
   ·rw[oth b (λz=>by rw[z,hP] at e;cases e) (neC b _ e)];exact e
   ·rw[oth b (λz=>by rw[z,hP] at e;cases e) (neC b _ e)];exact e
   ·by_cases hb:b=P
    ·subst hb
     rw[hP] at e;cases e
     exact⟨_,h2P⟩
    ·exact⟨#[],by rw[oth b hb (neC b _ e),e];simp⟩
   ·obtain⟨o,es,ep,ho,r⟩:=hm
    exact⟨o,es,ep,kp _ o (nP _ I.free) ho,r⟩
   ·by_cases hbc:b=c'
    ·subst hbc
     rw[a80] at e;cases e
     obtain⟨_,oc,_,_,e1,e2,_⟩:=id rc
     cases e1
     exact⟨rc,⟨oc,e2⟩,λh1 h2 p kk=>x30 p kk⟩
    ·by_cases hb:b=P
     ·subst hb
      rw[h2P] at e;cases e
      exact tb
     ·rw[oth b hb hbc] at e
      refine(I.hok b u e).j40 (λb2 u2 hb2 q=>kp b2 u2 (λz=>?_) q) (λb2 q=>?_) λb2 xs q=>?_
      ·rcases hb2 with y | y
       ·exact hb (y.symm.trans z)
       ·rw[z,hP] at y;cases y
      ·rw[oth b2 (λz=>by rw[z,hP] at q;cases q) (neC b2 _ q)];exact q
      ·rw[oth b2 (λz=>by rw[z,hP] at q;cases q) (neC b2 _ q)];exact q
  have lf:s.heap.objs.size≤h'.objs.size:=Nat.le_of_lt (Nat.lt_of_le_of_lt hge hlt)
  refine k cl h'.objs.size c' _ ctv _ tk _ cl1 cl2 I2 ⟨_,h2P,?_,λpos cc e=>?_⟩ ⟨λb o hb e=>by rw[oth b hb (neC b _ e)];exact e⟩ ⟨_,Heap.get?_push_size _ rfl,rfl⟩ ?_ a80 lf
  ·rw[Array.toList_append];exact TriplesOk_snoc _ _ _ _ ht
  ·rw[Array.toList_append] at e
   rcases W90 _ ht e with z | z
   ·exact⟨c',z,a80⟩
   ·obtain⟨c2,rfl,hc2⟩:=hall pos cc z
    exact⟨c2,rfl,by rw[oth c2 (λy=>by rw[y,hP] at hc2;cases hc2) (neC c2 _ hc2)];exact hc2⟩
  ·rw[oth _ (ne_of_gt (Nat.lt_of_lt_of_le lP lf)) (ne_of_gt hlt)];exact I.hok.fresh lf
end
def BMain(mg:Str→Option Value)(h:Heap):Prop:=∃ bm ob,mg "__builtins__"=some (.ref bm)∧bm≠builtinsNs∧h.get? bm=some ob∧ob.cls=.type "module"∧ob.dict=some builtinsNs∧ob.data=.plain
theorem Q91{P:Program}{w:World}{X:Cx}:Passes (CX1 P w) X (λ_ _ _=>False):=λ_ _ _ _ _ _ _ h=>by
 obtain⟨_,_,_,_,_,_,_,_,_,_,_,_,_,e⟩:=h
 exact e.elim
theorem Tab.same{H H':Hp}{P:Addr}{q:Str}(t:Tab H P q)(s:a10 H H'):Tab H' P q:=by
 obtain⟨ps,e,tr,h⟩:=t
 refine⟨ps,s _ _ e,tr,λpos c hc=>?_⟩
 obtain⟨c',e1,e2⟩:=h pos c hc
 exact⟨c',e1,s _ _ e2⟩
def FnL(P:Program)(w:World)(H₀:Hp)(s₀:Shared)(f:Addr)(fd:FuncData):Prop:=∀ (outer:List Env) (s:Shared) (H:Hp),Un (frs outer) [] H₀ H s₀.heap s.heap→a10 H₀ H→HOk P w H s.heap→∃ c d sl,s.heap.get? f=some ⟨c,d,.func fd,sl⟩
theorem FnL.new{P:Program}{w:World}{H₀:Hp}{s₀:Shared}{f:Addr}{fd:FuncData}(ho:∃ o,s₀.heap.get? f=some o∧o.data=.func fd)(nf:H₀ f=none):FnL P w H₀ s₀ f fd:=λouter s H un _ _=>by
 obtain⟨⟨c,d,dt,sl⟩,e,hd⟩:=ho
 have hd:dt=.func fd:=hd
 subst hd
 obtain⟨sl,h⟩:=un.any e nf (by simp)
 exact⟨_,_,sl,h⟩
structure o00(P:Program)(w:World)(K:PySem.W.Frag)(mg:Str→Option Value)(base:Heap)(k:Nat)(f:Addr)(H₀:Hp)(s₀:Shared)(cls:Value)(RR:Hp→Prop):Prop where
 fn:∃ fd,FnL P w H₀ s₀ f fd
 run:∀ (A:Around) (outer:List Env) (s:Shared) (H:Hp),p50 k A→C41 P w K mg base A outer s H→Un (frs outer) [] H₀ H s₀.heap s.heap→a10 H₀ H →
  codeAny (model P w) A (.call (.ref f) ⟨[],[]⟩) (CR (CX1 P w) outer P w H s (λ_ _=>False) λc _ H'=>c=cls∧RR H') s
def g32(X:Cx)(i j:Nat)(f C:Addr)(RR:Hp→Prop):TS:=λD σ H=>σ[i]?=some (some (.ref f))∧a10 X.H₀ H∧∀ a H',RR H'→H' a=none→D.nx (σ.set j (some (.ref a))) (upd H' a (.ext (excAt a C)))
section
variable {X:Cx}{k i j:Nat}{f C D:Addr}{x y z n:Str}{p1 p2 p3 p4 p5 p6 p7 p8 p9:Pos}
theorem e61(hx0:X.ex=[])(hS:X.stack=X.env::X.outer)(hf:X.env.frame=some X.env.locals)(hr:p50 k X.A)(th:o00 X.prog X.w X.K X.mg X.base k f X.H₀ X.s₀ (.ref C) RR)
  (hy:X.N[i]?=some y) (vy:Vis X.env.scope y) (dy:(y == ("__debug__":Str))=false) (cy:(y == ("__classdict__":Str))=false)
  (hg:Gl X x) (hm:X.mg x=some (.ref D)) (dx:(x == ("__debug__":Str))=false) (he:PySem.W.exmOne X.K (.ref C) (.ref D)=some true)
  (hn:X.env.kindOf n=some .local) (nN:n ∉ X.N) (dn:(n == ("__debug__":Str))=false) (hN:X.N.Nodup) (hz:X.N[j]?=some z) (lz:Loc X.env.scope z) (hfn:X.fn z=true) :
  PS X (.Try [.Expr (.Call (.Name y p1) [] [] p2) p3] [.ExceptHandler (some (.Name x p4)) (some n) [.Assign [.Name z p5] (.Name n p6) p7] p8] [] [] p9) (g32 X i j f C RR):=by
 intro pins s σ H Dd I h
 obtain⟨eσ,sH,q⟩:=h
 have U0:Un (frs X.stack) [] X.H₀ H X.s₀.heap s.heap:=by
  have u:=I.base
  rw[hx0] at u
  exact u.mono (λb hb=>by rw[hS];unfold frs;rw[filterMap_cons,hf];exact mem_cons_of_mem _ hb) λb hb=>hb
 obtain⟨fd,hfd⟩:=th.fn
 obtain⟨c0,d0,sl,hof⟩:=hfd X.stack s H U0 sH I.hok
 have hkind:(X.env.scope.kind == .class || (X.env.scope.kind == .module&&X.env.locals != X.env.globals))=false:=by rw[I.ok.kind];rfl
 refine wpAny_Try_except (wpAny_execs_cons ?_)
 refine wpAny_Expr_any ?_ I.quiet rfl
 refine wpAny_Call_Name_kw ?_
 have ld:∀ {Q:Value→Shared→Prop}{E:Value→Shared→Prop},Q (.ref f) s→wpAny (model X.prog X.w) X.A (eval (.Name y p1) X.env) Q E s:=λ{Q E} hq=>by
  obtain⟨m,hnm,hl⟩:=I.loc
  obtain⟨u,r,l⟩:=hl i y _ hy eσ vy
  cases (show u=Value.ref f from r)
  rcases l with ⟨hk,hv⟩ | ⟨hk,c,hc,hcell⟩
  ·exact wpAny_Name (wpAny_loadName_local I.ok.kind hk hnm hv hq) dy
  ·rcases hk with hk | hk
   ·exact wpAny_Name (wpAny_loadName_cell I.ok.kind hk hc hcell hq) dy
   ·exact wpAny_Name (wpAny_loadName_free I.ok.kind hk hc hcell hq cy) dy
 refine ld ?_
 refine PySem.W.callWith_of (P:=λh=>h.get? f=some ⟨c0,d0,.func fd,sl⟩) rfl (λh e=>⟨.frame,.inl rfl,?_⟩) (evalArgs_nil3 ⟨hof,?_⟩)
 ·exact(PySem.W.Looks.ld (part:=none) e).andThen .now
 refine wpAny_call (codeAny_mono (th.run X.A X.stack s H hr I.b62 U0 sH) λr s1 hq=>?_)
 cases r with
 |ok fl =>
  cases fl with
  |ret u=>obtain⟨_,_,_,_,_,_,_,z⟩:=hq;exact z.elim
  |next=>exact False.elim hq
  |brk=>exact False.elim hq
  |cont=>exact False.elim hq
 |error e =>
  obtain⟨a,cls,a0,H1,B,rfl,os1,bare1,un,hok,fl,na,bB,rfl,s1H⟩:=hq
  have nA:s.heap.get? a=none:=by
   cases ea:s.heap.get? a with
   |none=>rfl
   |some o =>
    exfalso
    obtain⟨oe,vs,hoe,_,hde,_⟩:=fl.first
    by_cases hb:a∈frs X.stack
    ·obtain⟨sl',e1⟩:=un.slot a o ea (I.p40 a hb) hb (by simp)
     obtain⟨_,o',ho',hd'⟩:=I.stack.mem hb
     rw[ea] at ho';cases ho'
     rw[hoe] at e1;cases e1
     exact hd' vs hde
    ·have:=bB a oe hoe hb (.inl ⟨o,ea⟩)
     rw[fl.2.1] at this;cases this
  have n0:X.s₀.heap.get? a=none:=by
   cases ea:X.s₀.heap.get? a with
   |none=>rfl
   |some o =>
    obtain⟨o',e1⟩:=U0.there a o ea (by simp)
    rw[nA] at e1;cases e1
  have aL:a≠X.env.locals:=λz=>by
   obtain⟨m,⟨o,_,_,ho,_⟩,_⟩:=I.loc
   rw[z,ho] at nA;cases nA
  have aC:∀ x c,X.env.cells.lookup x=some c→c≠a:=λx c e z=>by
   obtain⟨v,o,ho,_⟩:=I.cell x c e
   rw[z,nA] at ho;cases ho
  have aP:∀ p∈X.pn++pins,p.1≠a:=λp hp z=>by
   have:=(I.pin p hp).1
   rw[z,nA] at this;cases this
  refine wpAny_looks_onW (I.ok.frames.trans (by rw[hS])) hf (by rw[← hS];exact fl) λh2 held2 sm2=>?_
  refine wpAny_landsW held2 λh3 fl3 sm3=>?_
  have I3:Inv X pins σ H1 { s1 with heap:=h3 }:=y91 I os1 bare1 un hok bB fl3.1 (sm2.trans sm3)
  have at3:excAt a C h3:=by obtain⟨oe,e1,e2⟩:=fl3.there;exact⟨oe,e1,e2⟩
  refine wpAny_handleBy_cons (codeAny_handlers_test ?_) (λz=>nomatch z)
  refine Calls.Name_function_global I3.ok.kind hg (Calls.loadGlobal_global (by rw[I3.ok.glob];exact I3.mod.glob.keeps I3.bk) hm ?_) dx
  refine(PySem.W.exm_one (h:=h3) I3.kIn at3.ty he).here ?_
  refine codeAny_handlers_suite_as (lands_againW fl3 λh4 fl4 sm4=>?_)
  have I4:Inv X pins σ H1 { s1 with heap:=h4 }:=y91 I os1 bare1 un hok bB fl4.1 ((sm2.trans sm3).trans sm4)
  have at4:excAt a C h4:=by obtain⟨oe,e1,e2⟩:=fl4.there;exact⟨oe,e1,e2⟩
  obtain⟨m4,hn4,hl4⟩:=id I4.loc
  refine wpAny_storeName_local hn hn4 (λh5 hn5 hs5=>?_) hkind
  have offN:∀ (i:Nat) (x:Str),X.N[i]?=some x→x≠n:=λi x e z=>nN (by rw[← z];exact mem_of_getElem? e)
  have I5:Inv X pins σ H1 { s1 with heap:=h5,toks:=s1.toks + 1 }:=Inv.e41 (s:={ s1 with heap:=h4 }) I4 hl4 hn5 hs5 λi x e=>if_neg (offN i x e)
  refine wpAny_execs_cons (wpAny_Assign_Name ?_ rfl)
  refine wpAny_Name (wpAny_loadName_local I.ok.kind hn hn5 (if_pos rfl) ?_) dn
  refine t20 (v:=.ref a) I5 hN hz lz rfl (λs6 I6 hsame=>?_) (.inl hfn)
  refine wpAny_execs_nil ?_
  show wpAny _ _ (do bindName X.env n .none;unbindBehindTheSuite X.env n p8) _ _ _
  obtain⟨m6,hn6,hl6⟩:=id I6.loc
  refine wpAny_nameGoes_keeps hn hn6 hkind λh7 v7 hn7 hs7=>?_
  have I7:=Inv.e41 (t':=s6.toks + 1) I6 hl6 hn7 hs7 λi x e=>if_neg (offN i x e)
  have at7:excAt a C h7:=by
   obtain⟨oe,e1,e2⟩:=at4
   obtain⟨b6,hb6,hor⟩:=hsame
   have e5:h5.get? a=some oe:=(hs5.2 a aL).trans e1
   have e6:s6.heap.get? a=some oe:=(hb6.2 a (λz=>by
    rcases hor with y | y
    ·exact aL (z.trans y)
    ·exact aC _ _ y z.symm)).trans e5
   exact⟨oe,(hs7.2 a aL).trans e6,e2⟩
  have nT:H1 a=none:=na
  have I8:=Inv.z01 (T:=a) (o:=.ext (excAt a C)) I7 nT n0 aL aC aP ⟨at7,by obtain⟨oe,e1,_⟩:=at7;exact⟨oe,e1⟩,λh1 h2 p kk=>W70 p kk⟩
  exact⟨_,_,I8,q a H1 s1H na⟩
end
section
variable {P:Program}{w:World}{K:PySem.W.Frag}{mg:Str→Option Value}{base:Heap}{N:List Str}{qual:Str}{scope:Scope}{f c':Addr}{cl:List (Str × Addr)}{s₀:Shared}{H₀:Hp}{k:Nat}{pm ctv cls:Value}{params:Arguments}{body:Expr}{vs:List V}
theorem x40{RR:Hp→Prop}(hf:FnL P w H₀ s₀ f (kla_fn "<lambda>" qual params body scope cl pm (.ref c') ctv))(hc:H₀ c'=some (.ext (recAt c' qual)))
  (hk:scope.kind=.function) (hco:scope.isCoroutine=false) (hgen:scope.isGenerator=false) (hcell:∀ x∈scope.names,x.2≠.cell)
  (hb:bindArgs (kla_fn "<lambda>" qual params body scope cl pm (.ref c') ctv) ⟨[],[]⟩=pure []) (FR:u30 scope cl N vs H₀ s₀.heap)
  (hbody:∀ (A:Around) (outer:List Env) (s:Shared) (H:Hp),p50 k (A.deeper (envX qual scope s.heap.objs.size f (.ref c') cl))→a10 H₀ H →
   ∃ t,PE (w80 P w K mg base N qual scope f (.ref c') cl A outer s H λc _ H'=>c=cls∧RR H') body t∧t (vs.map some) H λ_ _=>False) :
  o00 P w K mg base (k + 1) f H₀ s₀ cls RR:=by
 refine⟨⟨_,hf⟩,λA outer s H hr e0 un sm=>?_⟩
 obtain⟨c0,d0,sl,hof⟩:=hf outer s H un sm e0.hok
 have hrec:s.heap.CodeRec (.ref c') qual:=(e0.hok c' _ (sm _ _ hc)).1
 have lim:s.heap.NoLimit:=e0.mod.nolimit.keeps λb o e=>(e0.bs b o e).1
 refine PySem.W.kla_callFunE hr.depth hof rfl hco hgen rfl hrec ?_
 rw[hb]
 refine wpAny_pure (wpAny_newFunctionEnv hcell (λy hy=>absurd hy (by simp)) (λh₁ hns hsb=>⟨lim.fresh _ hsb,?_⟩) hk)
 show codeAny _ _ (.expr body (envX qual scope s.heap.objs.size f (.ref c') cl)) _ _
 have hkeep1:∀ b o,s.heap.get? b=some o→h₁.get? b=some o:=λb o e=>hsb.extBut b o (Nat.ne_of_lt (lt_size e)) (Heap.get?_push_of_some _ e)
 obtain⟨t,ht,hq⟩:=hbody A outer s H (hr.deeper _) sm
 have I:Inv (w80 P w K mg base N qual scope f (.ref c') cl A outer s H λc _ H'=>c=cls∧RR H') [] (vs.map some) H { s with heap:=h₁,toks:=s.toks + 0 }:=E81 e0 hr.hd hk (FR.later un) hns hkeep1
 refine PySem.W.kla_codeExpr (wpAny_mono (ht [] _ _ H _ I hq) (λv s' hv=>?_) λe s' he=>he)
 obtain⟨_,_,_,_,z⟩:=hv
 exact z.elim
end
def g42(X:Cx)(P:Addr)(qual:Str)(N:List Str)(lsc:Scope)(body:Expr)(k:Nat)(cls:Value)(RR:Hp→Hp→Prop)(sp:Shared→Sp):TE:=λσ H Q=>Tab H P qual∧∃ vs:List V,vs.length=N.length ∧
 (∀ (i:Nat) (x:Str) (v:V),N[i]?=some x→vs[i]?=some v→∃ j:Nat,X.N[j]?=some x∧σ[j]?=some (some v)) ∧
 ∀ H2,u40 P H H2→Tab H2 P qual →
  (∀ (f c':Addr) (cl:List (Str × Addr)) (A:Around) (outer:List Env) (s:Shared) (H3:Hp),p50 k (A.deeper (envX qual lsc s.heap.objs.size f (.ref c') cl))→a10 H2 H3 →
   ∃ t,PE (w80 X.prog X.w X.K X.mg X.base N qual lsc f (.ref c') cl A outer s H3 λc _ H'=>c=cls∧RR H2 H') body t∧t (vs.map some) H3 λ_ _=>False) ∧
  ∀ (s2:Shared) (f:Addr),o00 X.prog X.w X.K X.mg X.base (k + 1) f H2 s2 cls (RR H2)→sp s2 [.ref f] H2 Q λ_ _ _=>False
section
variable {X:Cx}{c P f:Addr}{fd:FuncData}{qual g par:Str}{N:List Str}{params:Arguments}{body:Expr}{lsc:Scope}{lpos p pos:Pos}{k kr:Nat}{cls:Value}{sp:Shared→Sp}
theorem L20{RR:Hp→Hp→Prop}(F:G30 X.prog X.w X.K X.mg X.base CX0 kr f fd [par] sp)(hr:p50 kr X.A)(hg:Gl X g)(hm:X.mg g=some (.ref f))(hk:PySem.W.keepIn X.K (.ref f)=true)(hb:Binds X.K fd [par] [])
  (hcode:X.env.code=.ref c) (hhd:PySem.W.codeHdIn X.K c P=true) (hqu:X.env.qual++"<lambda>"=qual)
  (hbm:∃ bm ob,X.mg "__builtins__"=some (.ref bm)∧bm≠builtinsNs∧X.base.get? bm=some ob∧ob.cls=.type "module"∧ob.dict=some builtinsNs∧ob.data=.plain)
  (hfr:∀ y∈lsc.names,y.2=.free→X.env.kindOf y.1=some .cell) (hnc:∀ y∈lsc.names,y.2≠.cell) (hNf:∀ x∈N,lsc.names.lookup x=some .free)
  (lk:lsc.kind=.function) (lco:lsc.isCoroutine=false) (lge:lsc.isGenerator=false) (hdef:defaultsOf params X.env=([],[]))
  (hbd:∀ (cl:List (Str × Addr)) (pm ctv:Value) (c':Addr),bindArgs (kla_fn "<lambda>" qual params body lsc cl pm (.ref c') ctv) ⟨[],[]⟩=pure [])
  (hdb:(g == ("__debug__":Str))=false:=by decide) (he:starEach [.Lambda params body lsc lpos] X.env=[(false,eval (.Lambda params body lsc lpos) X.env)]:=by rfl) :
  PE X (.Call (.Name g p) [.Lambda params body lsc lpos] [] pos) (g42 X P qual N lsc body k cls RR sp):=by
 intro pins s σ H Q I h
 obtain⟨TB,vs,hlen,hvs,q⟩:=h
 refine wpAny_Call_Name_kw (t30 I hg hm ?_ hdb)
 refine callWith_K (h₀:=X.base) I.ok.mod.kin hk ?_ he rfl
 rw[he]
 refine Calls.spliced_cons (Q30 I hdef hcode hhd TB hqu hbm (λy hy hf=>I.ok.has y.1 (.inl (hfr y hy hf))) λcl f' c' pm ctv h2 tk H2 cl1 cl2 I2 TB2 KB ho nf hc _=>?_)
 have FR:u30 lsc cl N vs H2 h2:=by
  refine⟨λx y c e1 e2=>I2.ok.inj x y c (cl1 x c e1) (cl1 y c e2),λx hx=>?_,λx c e=>I2.cell x c (cl1 x c e),λx c e=>I2.freeC x c (cl1 x c e),λi x v h1 h2=>?_,hlen⟩
  ·rcases hx with hx | hx
   ·exact absurd rfl (hnc _ (PySem.mem_of_lookup hx))
   ·exact cl2 _ (PySem.mem_of_lookup hx) rfl
  ·have hf:=hNf x (mem_of_getElem? h1)
   have mem:=PySem.mem_of_lookup hf
   have kc:X.env.kindOf x=some .cell:=hfr _ mem rfl
   obtain⟨j,e1,e2⟩:=hvs i x v h1 h2
   obtain⟨m,_,hl⟩:=I2.loc
   obtain⟨u,r,l⟩:=hl j x v e1 e2 (Or.inr (Or.inl kc))
   obtain⟨c2,ec2⟩:=cl2 _ mem rfl
   refine⟨hf,c2,u,ec2,r,?_⟩
   rcases l with ⟨kl,_⟩ | ⟨_,c3,ec3,z⟩
   ·rw[kc] at kl;cases kl
   ·have:=cl1 _ _ ec2
    rw[ec3] at this;cases this
    exact z
 obtain⟨q1,q2⟩:=q H2 KB TB2
 have th:o00 X.prog X.w X.K X.mg X.base (k + 1) f' H2 { s with heap:=h2,toks:=tk } cls (RR H2):=x40 (s₀:={ s with heap:=h2,toks:=tk }) (.new ho nf) hc lk lco lge hnc (hbd cl pm ctv c') FR λA outer s H3 hr sm=>q1 f' c' cl A outer s H3 hr sm
 refine Calls.spliced_nil ⟨I2.kIn,?_⟩
 have hsp:=q2 { s with heap:=h2,toks:=tk } f' th
 refine wpAny_call (codeAny_mono (F.run X.A X.stack { s with heap:=h2,toks:=tk } H2 ⟨[.ref f'],[]⟩ [.ref f'] [.ref f'] Q _ hr I2.b62 (hb _ [.ref f'] I2.kIn rfl) (.cons rfl .nil) hsp) λr s' hq=>?_)
 cases r with
 |error e=>exact False.elim hq
 |ok fl =>
  cases fl with
  |ret u=>exact I2.after hq
  |next=>exact False.elim hq
  |brk=>exact False.elim hq
  |cont=>exact False.elim hq
end
def fnAt(f:Addr)(fd:FuncData):Heap→Prop:=λh=>∃ o,h.get? f=some o∧o.data=.func fd
theorem e71{f:Addr}{fd:FuncData}{h1 h2:Heap}(h:fnAt f fd h1)(k:∀ o,h1.get? f=some o→h2.get? f=some o):fnAt f fd h2:=by
 obtain⟨o,e,d⟩:=h
 exact⟨o,k _ e,d⟩
theorem FnL.at{P:Program}{w:World}{H₀:Hp}{s₀:Shared}{f:Addr}{fd:FuncData}(h:H₀ f=some (.ext (fnAt f fd))):FnL P w H₀ s₀ f fd:=λouter s H _ sm hok=>by
 obtain⟨⟨⟨c,d,dt,sl⟩,e,hd⟩,_⟩:=hok f _ (sm _ _ h)
 have hd:dt=.func fd:=hd
 subst hd
 exact⟨_,_,_,e⟩
def g52(X:Cx)(P:Addr)(qual:Str)(params:Arguments)(body:Expr)(lsc:Scope):TE:=λσ H Q=>Tab H P qual∧∀ (cl:List (Str × Addr)) (f c':Addr) (pm ctv:Value) (H2:Hp),(∀ x c,cl.lookup x=some c→X.env.cells.lookup x=some c)→(∀ y∈lsc.names,y.2=.free→∃ c,cl.lookup y.1=some c) →
 Tab H2 P qual→u40 P H H2→H f=none→H2 f=some (.ext (fnAt f (kla_fn "<lambda>" qual params body lsc cl pm (.ref c') ctv)))→H2 c'=some (.ext (recAt c' qual))→Q (.ref f) H2
section
variable {X:Cx}{c P:Addr}{qual:Str}{params:Arguments}{body:Expr}{lsc:Scope}{lpos:Pos}
theorem R01(hcode:X.env.code=.ref c)(hhd:PySem.W.codeHdIn X.K c P=true)(hqu:X.env.qual++"<lambda>"=qual)(hdef:defaultsOf params X.env=([],[]))
  (hbm:∃ bm ob,X.mg "__builtins__"=some (.ref bm)∧bm≠builtinsNs∧X.base.get? bm=some ob∧ob.cls=.type "module"∧ob.dict=some builtinsNs∧ob.data=.plain)
  (hfr:∀ y∈lsc.names,y.2=.free→X.env.kindOf y.1=some .cell):PE X (.Lambda params body lsc lpos) (g52 X P qual params body lsc):=by
 intro pins s σ H Q I h
 obtain⟨TB,q⟩:=h
 refine Q30 I hdef hcode hhd TB hqu hbm (λy hy hf=>I.ok.has y.1 (.inl (hfr y hy hf))) λcl f c' pm ctv h2 tk H2 cl1 cl2 I2 TB2 KB ho nf hc hsz=>?_
 have old:∀ {b:Addr}{o:Obj},s.heap.get? b=some o→b≠f:=λe z=>by subst z;exact Nat.lt_irrefl _ (Nat.lt_of_lt_of_le (lt_size e) hsz)
 have n0:X.s₀.heap.get? f=none:=by
  cases e:X.s₀.heap.get? f with
  |none=>rfl
  |some o=>exact absurd (Nat.lt_of_lt_of_le (lt_size e) (Nat.le_trans I.sz hsz)) (Nat.lt_irrefl _)
 have hL:f≠X.env.locals:=λz=>by
  obtain⟨m,⟨o,_,_,e,_⟩,_⟩:=I.loc
  exact old e z.symm
 have hC:∀ x c,X.env.cells.lookup x=some c→c≠f:=λx c e=>by
  obtain⟨v,o,e1,_⟩:=I.cell x c e
  exact old e1
 have hP:∀ p∈X.pn++pins,p.1≠f:=λp hp=>old (I.pin p hp).1
 have fP:f≠P:=λz=>by
  obtain⟨ps,e,_⟩:=TB
  subst z
  exact old (I.hok f _ e) rfl
 have fC:f≠c':=λz=>by subst z;rw[nf] at hc;cases hc
 have Hf:H f=none:=I.hok.fresh hsz
 have I3:=Inv.z01 (T:=f) (o:=.ext (fnAt f (kla_fn "<lambda>" qual params body lsc cl pm (.ref c') ctv))) I2 nf n0 hL hC hP ⟨ho,by obtain⟨o,e,_⟩:=ho;exact⟨o,e⟩,λh1 h2 p kk=>e71 p kk⟩
 refine⟨.ref f,_,I3,rfl,q cl f c' pm ctv _ cl1 cl2 ?_ ⟨λb o hb e=>?_⟩ Hf a80 ?_⟩
 ·obtain⟨ps,e,tr,k⟩:=TB2
  refine⟨ps,by rw[a20 fP.symm];exact e,tr,λpos cc h=>?_⟩
  obtain⟨c2,e1,e2⟩:=k pos cc h
  exact⟨c2,e1,by rw[a20 (λz=>by rw[z,nf] at e2;cases e2)];exact e2⟩
 ·rw[a20 (λz=>by rw[z,Hf] at e;cases e)];exact KB.same b o hb e
 ·rw[a20 fC.symm];exact hc
end
section
variable {X:Cx}{f:Addr}{fd:FuncData}{g par n:Str}{p p2 pos:Pos}{i k kr:Nat}{sp:Shared→Sp}{Ok:Addr→Value→(Hp→Prop)→Hp→Prop}
theorem G40(F:G30 X.prog X.w X.K X.mg X.base CX0 kr f fd [par] sp)(hr:p50 kr X.A)(hg:Gl X g)(hm:X.mg g=some (.ref f))(hk:PySem.W.keepIn X.K (.ref f)=true)(hb:Binds X.K fd [par] [])
  (hi:X.N[i]?=some n) (hv:Vis X.env.scope n) (d1:(n == ("__debug__":Str))=false) (d2:(n == ("__classdict__":Str))=false)
  (th:∀ pins σ H s,Inv X pins σ H s→∀ a cls RR,Ok a cls RR H→o00 X.prog X.w X.K X.mg X.base (k + 1) a H s cls RR)
  (hdb:(g == ("__debug__":Str))=false:=by decide) :
  PE X (.Call (.Name g p) [.Name n p2] [] pos) (λσ H Q=>∃ a cls RR,σ[i]?=some (some (.ref a))∧Ok a cls RR H∧∀ s2:Shared,o00 X.prog X.w X.K X.mg X.base (k + 1) a H s2 cls RR→sp s2 [.ref a] H Q λ_ _ _=>False):=by
 intro pins s σ H Q I h
 obtain⟨a,cls,RR,e,ok,q⟩:=h
 have he:starEach [.Name n p2] X.env=[(false,eval (.Name n p2) X.env)]:=rfl
 refine wpAny_Call_Name_kw (t30 I hg hm ?_ hdb)
 refine callWith_K (h₀:=X.base) I.ok.mod.kin hk ?_ he rfl
 rw[he]
 refine Calls.spliced_cons (thn (h00 (i:=i) hi hv d1 d2 pins s σ H (λv H'=>v=.ref a∧H'=H) I ⟨_,e,rfl,rfl⟩) λv s1 hr1=>?_)
 obtain⟨y,H1,I1,r1,rfl,rfl⟩:=hr1
 cases (show v=Value.ref a from r1)
 refine Calls.spliced_nil ⟨I1.kIn,?_⟩
 refine wpAny_call (codeAny_mono (F.run X.A X.stack s1 H1 ⟨[.ref a],[]⟩ [.ref a] [.ref a] Q _ hr I1.b62 (hb _ [.ref a] I1.kIn rfl) (.cons rfl .nil) (q s1 (th _ _ _ _ I1 _ _ _ ok))) λr s' hq=>?_)
 cases r with
 |error e=>exact False.elim hq
 |ok fl =>
  cases fl with
  |ret u=>exact I1.after hq
  |next=>exact False.elim hq
  |brk=>exact False.elim hq
  |cont=>exact False.elim hq
end
theorem PE.mp{X:Cx}{e:Expr}{t t':TE}(h:PE X e t)(i:∀ σ H Q,t' σ H Q→t σ H Q):PE X e t':=λpins s σ H Q I q=>h pins s σ H Q I (i _ _ _ q)
structure LT where
 f:Addr
 c':Addr
 cl:List (Str × Addr)
 pm:Value
 ctv:Value
 lsc:Scope
 body:Expr
 N:List Str
def noArgs:Arguments:=⟨[],[],none,[],[],none,[]⟩
def LT.fd(t:LT)(qual:Str):FuncData:=kla_fn "<lambda>" qual noArgs t.body t.lsc t.cl t.pm (.ref t.c') t.ctv
structure LTf(X:Cx)(lsc:Scope)(N:List Str):Prop where
 hfr:∀ y∈lsc.names,y.2=.free→X.env.kindOf y.1=some .cell
 hnc:∀ y∈lsc.names,y.2≠.cell
 hNf:∀ x∈N,lsc.names.lookup x=some .free
 lk:lsc.kind=.function
 lco:lsc.isCoroutine=false
 lge:lsc.isGenerator=false
structure t41(X:Cx)(qual:Str)(H:Hp)(t:LT):Prop where
 form:LTf X t.lsc t.N
 fn:H t.f=some (.ext (fnAt t.f (t.fd qual)))
 rc:H t.c'=some (.ext (recAt t.c' qual))
 cl1:∀ x c,t.cl.lookup x=some c→X.env.cells.lookup x=some c
 cl2:∀ y∈t.lsc.names,y.2=.free→∃ c,t.cl.lookup y.1=some c
structure LTv(X:Cx)(σ:St)(t:LT)(vs:List V):Prop where
 len:vs.length=t.N.length
 vals:∀ (i:Nat) (x:Str) (v:V),t.N[i]?=some x→vs[i]?=some v→∃ j:Nat,X.N[j]?=some x∧σ[j]?=some (some v)
theorem t41.frees{X:Cx}{qual:Str}{σ:St}{H:Hp}{t:LT}{vs:List V}{pins:List (Addr × Obj)}{s:Shared}(k:t41 X qual H t)(kv:LTv X σ t vs)(I:Inv X pins σ H s):u30 t.lsc t.cl t.N vs H s.heap:=by
 refine⟨λx y c e1 e2=>I.ok.inj x y c (k.cl1 x c e1) (k.cl1 y c e2),λx hx=>?_,λx c e=>I.cell x c (k.cl1 x c e),λx c e=>I.freeC x c (k.cl1 x c e),λi x v h1 h2=>?_,kv.len⟩
 ·rcases hx with hx | hx
  ·exact absurd rfl (k.form.hnc _ (PySem.mem_of_lookup hx))
  ·exact k.cl2 _ (PySem.mem_of_lookup hx) rfl
 ·have hf:=k.form.hNf x (mem_of_getElem? h1)
  have mem:=PySem.mem_of_lookup hf
  have kc:X.env.kindOf x=some .cell:=k.form.hfr _ mem rfl
  obtain⟨j,e1,e2⟩:=kv.vals i x v h1 h2
  obtain⟨m,_,hl⟩:=I.loc
  obtain⟨u,r,l⟩:=hl j x v e1 e2 (Or.inr (Or.inl kc))
  obtain⟨c2,ec2⟩:=k.cl2 _ mem rfl
  refine⟨hf,c2,u,ec2,r,?_⟩
  rcases l with ⟨kl,_⟩ | ⟨_,c3,ec3,z⟩
  ·rw[kc] at kl;cases kl
  ·have:=k.cl1 _ _ ec2
   rw[ec3] at this;cases this
   exact z
theorem u30.R11{scope:Scope}{cl:List (Str × Addr)}{N:List Str}{vs:List V}{H₀ H:Hp}{h₀ h:Heap}{fs ex:List Addr}(FR:u30 scope cl N vs H₀ h₀)(un:Un fs ex H₀ H h₀ h)(hx:∀ x c,cl.lookup x=some c→c ∉ ex):u30 scope cl N vs H h:=by
 have cel:∀ x c v,cl.lookup x=some c→h₀.IsCell c v→h.IsCell c v:=λx c v e ⟨o,ho,hd⟩=>by
  obtain⟨sl,e1⟩:=un.any ho (FR.free x c e) (hx x c e)
  exact⟨_,e1,hd⟩
 refine⟨FR.inj,FR.has,λx c e=>?_,λx c e=>?_,λi x v h1 h2=>?_,FR.len⟩
 ·obtain⟨v,z⟩:=FR.cell x c e
  exact⟨v,cel x c v e z⟩
 ·obtain⟨v,o,ho,_⟩:=FR.cell x c e
  exact un.free c o ho (FR.free x c e) (hx x c e)
 ·obtain⟨k,c,u,ec,r,z⟩:=FR.val i x v h1 h2
  exact⟨k,c,u,ec,r,cel x c _ ec z⟩
def Raises(X:Cx)(qual:Str)(k:Nat)(H:Hp)(t:LT)(vs:List V)(cls:Value)(RR:Hp→Prop):Prop:=∀ (A:Around) (outer:List Env) (s:Shared) (H3:Hp),p50 k (A.deeper (envX qual t.lsc s.heap.objs.size t.f (.ref t.c') t.cl))→a10 H H3 →
 ∃ u,PE (w80 X.prog X.w X.K X.mg X.base t.N qual t.lsc t.f (.ref t.c') t.cl A outer s H3 λc _ H'=>c=cls∧RR H') t.body u∧u (vs.map some) H3 λ_ _=>False
def b92(H:Hp)(qual:Str)(t:LT):Prop:=H t.f=some (.ext (fnAt t.f (t.fd qual)))∧H t.c'=some (.ext (recAt t.c' qual))
theorem t51{X:Cx}{qual:Str}{k:Nat}{H:Hp}{s:Shared}{t:LT}{vs:List V}{cls:Value}{RR:Hp→Prop}(fm:LTf X t.lsc t.N)(h:b92 H qual t)(FR:u30 t.lsc t.cl t.N vs H s.heap)(r:Raises X qual k H t vs cls RR):o00 X.prog X.w X.K X.mg X.base (k + 1) t.f H s cls RR :=
 x40 (FnL.at h.1) h.2 fm.lk fm.lco fm.lge fm.hnc rfl FR r
section
variable {X:Cx}{f:Addr}{fd:FuncData}{g par n qual:Str}{p p2 p3 pos ps:Pos}{k kr:Nat}{sp:Shared→Sp}{src:Expr}{wi:TI}{sc:Scope}
def teL(X:Cx)(qual:Str)(k:Nat)(sp:Shared→Sp)(σ1:St)(H1:Hp):TE:=λσ H Q=>∃ t vs cls RR,t41 X qual H1 t∧LTv X σ1 t vs∧σ[0]?=some (some (.ref t.f))∧b92 H qual t∧Raises X qual k H t vs cls RR∧∀ s2:Shared,o00 X.prog X.w X.K X.mg X.base (k + 1) t.f H s2 cls RR→sp s2 [.ref t.f] H Q λ_ _ _=>False
theorem X00(hc:X.calm=true)(S:j90 X sc [n] [])(hi:PI X (.Name n p3) src wi)(F:G30 X.prog X.w X.K X.mg X.base CX0 kr f fd [par] sp)(hr:p50 kr X.A)(hg:∀ cl C s H fp,Gl (b50 X (c00 [n] []) sc cl C s H fp) g)(hm:X.mg g=some (.ref f))(hk:PySem.W.keepIn X.K (.ref f)=true)(hb:Binds X.K fd [par] [])
  (hp:∀ cl C s H fp,PG (b50 X (c00 [n] []) sc cl C s H fp) (.Name n p3) (z40 0)) (hv:∀ cl C s H fp,Vis (b50 X (c00 [n] []) sc cl C s H fp).env.scope n) (d1:(n == ("__debug__":Str))=false) (d2:(n == ("__classdict__":Str))=false) (hdb:(g == ("__debug__":Str))=false) (hs:∀ x,foldedSetIterable src X.env x=pure x) :
  PE X (.ListComp (.Call (.Name g p) [.Name n p2] [] pos) [⟨.Name n p3,src,[],0⟩] sc ps) (λσ H Q=>wi σ H λJ H1=>True∧W00 J [none] H1 (z40 0) c01 (teL X qual k sp σ H1) Q):=by
 refine r11 (te:=teL X qual k sp) (Cond:=λ_ _=>True) hc S hi hp (λ_ _ _ _ _=>c21) (λcl pins σ H s I hcl _ C fp hf=>?_) hs
 ·refine PE.mp (G40 (k:=k) (X:=b50 X (c00 [n] []) sc cl C s H fp) (Ok:=λa cls RR H'=>∃ t vs,t41 X qual H t∧LTv X σ t vs∧a=t.f∧b92 H' qual t∧Raises X qual k H' t vs cls RR) (i:=0) F hr (hg cl C s H fp) hm hk hb rfl (hv cl C s H fp) d1 d2 (λpins' σ' H' s' I' a cls RR ok=>?_) hdb) λσ' H' Q' q'=>?_
  ·obtain⟨t,vs,lt,lv,rfl,la,rs⟩:=ok
   exact t51 (X:=X) lt.form la ((lt.frees lv I).R11 I'.base λx c e z=>(hf c z).2.2.2.2.1 x c (lt.cl1 x c e) rfl) rs
  ·obtain⟨t,vs,cls,RR,lt,lv,e,la,rs,q2⟩:=q'
   exact⟨t.f,cls,RR,e,⟨t,vs,lt,lv,rfl,la,rs⟩,q2⟩
end
abbrev c02:List Str:=["_law_call","_law_error","_law_marks"]
abbrev R21:Scope:={ kind:=.function,names:=[(".0",.local),("_law_k",.local),("_law_marks",.free)],isGenerator:=false,isCoroutine:=false,more:=[] }
abbrev o10:Scope:={ kind:=.function,names:=[("_law_call",.local),("_law_error",.local),("e",.local),("_law_marks",.cell),("ChanceError",.globalImplicit),("isinstance",.globalImplicit),("NoWeb",.globalImplicit),("NoLot",.globalImplicit),("NoPlaces",.globalImplicit),("NoPlace",.globalImplicit),("NoTie",.globalImplicit),("NoChance",.globalImplicit),("NoChances",.globalImplicit),("NoPaper",.globalImplicit),("TooMany",.globalImplicit),("NoText",.globalImplicit),("NoLine",.globalImplicit),("NoDeed",.globalImplicit),("ValueError",.globalImplicit),("range",.globalImplicit)],isGenerator:=false,isCoroutine:=false,more:=[("fast",.str "_law_call"),("fast",.str "_law_error"),("fast",.str "e"),("fast",.str "_law_marks"),("fast",.str "_law_k")] }
def L30(n:Nat):List Stmt:=[.Assign [(.Name "_law_error" ⟨n,4,n,14⟩)] (.Constant .none 0 ⟨n,17,n,21⟩) ⟨n,4,n,21⟩,
   .Try [.Expr (.Call (.Name "_law_call" ⟨n + 2,8,n + 2,17⟩) [] [] ⟨n + 2,8,n + 2,19⟩) ⟨n + 2,8,n + 2,19⟩] [.ExceptHandler (some (.Name "ChanceError" ⟨n + 3,11,n + 3,22⟩)) (some "e") [.Assign [(.Name "_law_error" ⟨n + 4,8,n + 4,18⟩)] (.Name "e" ⟨n + 4,21,n + 4,22⟩) ⟨n + 4,8,n + 4,22⟩] ⟨n + 3,4,n + 4,22⟩] [] [] ⟨n + 1,4,n + 4,22⟩,
   .Assign [(.Name "_law_marks" ⟨n + 5,4,n + 5,14⟩)] (.List [(.Call (.Name "isinstance" ⟨n + 5,18,n + 5,28⟩) [(.Name "_law_error" ⟨n + 5,29,n + 5,39⟩),(.Name "NoWeb" ⟨n + 5,41,n + 5,46⟩)] [] ⟨n + 5,18,n + 5,47⟩),(.Call (.Name "isinstance" ⟨n + 5,49,n + 5,59⟩) [(.Name "_law_error" ⟨n + 5,60,n + 5,70⟩),(.Name "NoLot" ⟨n + 5,72,n + 5,77⟩)] [] ⟨n + 5,49,n + 5,78⟩),(.Call (.Name "isinstance" ⟨n + 5,80,n + 5,90⟩) [(.Name "_law_error" ⟨n + 5,91,n + 5,101⟩),(.Name "NoPlaces" ⟨n + 5,103,n + 5,111⟩)] [] ⟨n + 5,80,n + 5,112⟩)] ⟨n + 5,17,n + 5,113⟩) ⟨n + 5,4,n + 5,113⟩,
   .Assign [(.Name "_law_marks" ⟨n + 6,4,n + 6,14⟩)] (.BinOp (.Name "_law_marks" ⟨n + 6,17,n + 6,27⟩) .Add (.List [(.Call (.Name "isinstance" ⟨n + 6,31,n + 6,41⟩) [(.Name "_law_error" ⟨n + 6,42,n + 6,52⟩),(.Name "NoPlace" ⟨n + 6,54,n + 6,61⟩)] [] ⟨n + 6,31,n + 6,62⟩),(.Call (.Name "isinstance" ⟨n + 6,64,n + 6,74⟩) [(.Name "_law_error" ⟨n + 6,75,n + 6,85⟩),(.Name "NoTie" ⟨n + 6,87,n + 6,92⟩)] [] ⟨n + 6,64,n + 6,93⟩),(.Call (.Name "isinstance" ⟨n + 6,95,n + 6,105⟩) [(.Name "_law_error" ⟨n + 6,106,n + 6,116⟩),(.Name "NoChance" ⟨n + 6,118,n + 6,126⟩)] [] ⟨n + 6,95,n + 6,127⟩)] ⟨n + 6,30,n + 6,128⟩) ⟨n + 6,17,n + 6,128⟩) ⟨n + 6,4,n + 6,128⟩,
   .Assign [(.Name "_law_marks" ⟨n + 7,4,n + 7,14⟩)] (.BinOp (.Name "_law_marks" ⟨n + 7,17,n + 7,27⟩) .Add (.List [(.Call (.Name "isinstance" ⟨n + 7,31,n + 7,41⟩) [(.Name "_law_error" ⟨n + 7,42,n + 7,52⟩),(.Name "NoChances" ⟨n + 7,54,n + 7,63⟩)] [] ⟨n + 7,31,n + 7,64⟩),(.Call (.Name "isinstance" ⟨n + 7,66,n + 7,76⟩) [(.Name "_law_error" ⟨n + 7,77,n + 7,87⟩),(.Name "NoPaper" ⟨n + 7,89,n + 7,96⟩)] [] ⟨n + 7,66,n + 7,97⟩),(.Call (.Name "isinstance" ⟨n + 7,99,n + 7,109⟩) [(.Name "_law_error" ⟨n + 7,110,n + 7,120⟩),(.Name "TooMany" ⟨n + 7,122,n + 7,129⟩)] [] ⟨n + 7,99,n + 7,130⟩)] ⟨n + 7,30,n + 7,131⟩) ⟨n + 7,17,n + 7,131⟩) ⟨n + 7,4,n + 7,131⟩,
   .Assign [(.Name "_law_marks" ⟨n + 8,4,n + 8,14⟩)] (.BinOp (.Name "_law_marks" ⟨n + 8,17,n + 8,27⟩) .Add (.List [(.Call (.Name "isinstance" ⟨n + 8,31,n + 8,41⟩) [(.Name "_law_error" ⟨n + 8,42,n + 8,52⟩),(.Name "NoText" ⟨n + 8,54,n + 8,60⟩)] [] ⟨n + 8,31,n + 8,61⟩),(.Call (.Name "isinstance" ⟨n + 8,63,n + 8,73⟩) [(.Name "_law_error" ⟨n + 8,74,n + 8,84⟩),(.Name "NoLine" ⟨n + 8,86,n + 8,92⟩)] [] ⟨n + 8,63,n + 8,93⟩),(.Call (.Name "isinstance" ⟨n + 8,95,n + 8,105⟩) [(.Name "_law_error" ⟨n + 8,106,n + 8,116⟩),(.Name "NoDeed" ⟨n + 8,118,n + 8,124⟩)] [] ⟨n + 8,95,n + 8,125⟩)] ⟨n + 8,30,n + 8,126⟩) ⟨n + 8,17,n + 8,126⟩) ⟨n + 8,4,n + 8,126⟩,
   .If (.UnaryOp .Not (.Call (.Name "isinstance" ⟨n + 9,11,n + 9,21⟩) [(.Name "_law_error" ⟨n + 9,22,n + 9,32⟩),(.Name "ValueError" ⟨n + 9,34,n + 9,44⟩)] [] ⟨n + 9,11,n + 9,45⟩) ⟨n + 9,7,n + 9,45⟩) [.Return (some (.Constant .none 0 ⟨n + 10,15,n + 10,19⟩)) ⟨n + 10,8,n + 10,19⟩] [] ⟨n + 9,4,n + 10,19⟩,
   .Return (some (.ListComp (.Name "_law_k" ⟨n + 11,12,n + 11,18⟩) [{ target:=(.Name "_law_k" ⟨n + 11,23,n + 11,29⟩),iter:=(.Call (.Name "range" ⟨n + 11,33,n + 11,38⟩) [(.Constant (.int 12) 0 ⟨n + 11,39,n + 11,41⟩)] [] ⟨n + 11,33,n + 11,42⟩),ifs:=[(.Subscript (.Name "_law_marks" ⟨n + 11,46,n + 11,56⟩) (.Name "_law_k" ⟨n + 11,57,n + 11,63⟩) ⟨n + 11,46,n + 11,64⟩)],is_async:=0 }] R21 ⟨n + 11,11,n + 11,65⟩)) ⟨n + 11,4,n + 11,65⟩]
theorem R31:d51 R21 o10 c02 ["_law_k"] [("_law_marks",2)]=true:=by decide +kernel
theorem t61(K:PySem.W.Frag)(hK:X.K=K:=by rfl):IxR X (o72 K):=by subst hK;exact K50
abbrev names12:List Str:=["NoWeb","NoLot","NoPlaces","NoPlace","NoTie","NoChance","NoChances","NoPaper","TooMany","NoText","NoLine","NoDeed"]
structure G50(K:PySem.W.Frag)(mg:Str→Option Value)(C:Addr)(j:Nat):Prop where
 cl:∀ (i:Nat) (x:Str),names12[i]?=some x→∃ Ci,mg x=some (.ref Ci)∧PySem.W.kitOne K (.ref C) (.ref Ci)=some (decide (i=j))
 lk:f90 K C
 hd:PySem.W.hasDictIn K C=true
 ve:PySem.W.kitOne K (.ref C) (.type "ValueError")=some true
 nv:mg "ValueError"=none
 ce:∃ D,mg "ChanceError"=some (.ref D)∧PySem.W.exmOne K (.ref C) (.ref D)=some true
 lt:j < 12
theorem G60:bootBuiltins "ValueError"=some (.type "ValueError"):=by decide +kernel
theorem B50:bootBuiltins "isinstance"=some (.builtin "isinstance"):=by decide +kernel
def E91(P:Program)(w:World)(K:PySem.W.Frag)(mg:Str→Option Value)(base:Heap)(k:Nat):Shared→Sp:=λs vs H Q _=>∃ (f C:Addr) (j:Nat) (RR:Hp→Prop),vs=[.ref f]∧o00 P w K mg base k f H s (.ref C) RR∧G50 K mg C j∧∀ l H1 H',RR H1→a10 H1 H'→H' l=none→Q (.ref l) (upd H' l (.lst [.int j]))
abbrev u50(j:Nat):List V:=[V.bl (decide (0=j)),.bl (decide (1=j)),.bl (decide (2=j))]++[.bl (decide (3=j)),.bl (decide (4=j)),.bl (decide (5=j))]++[.bl (decide (6=j)),.bl (decide (7=j)),.bl (decide (8=j))]++[.bl (decide (9=j)),.bl (decide (10=j)),.bl (decide (11=j))]
theorem t71{i j:Nat}(h:i < 12):atI (u50 j) (0 + (i:Int))=some (.bl (decide (i=j))):=by
 rw[Int.zero_add]
 refine z80 ?_
 rw[show u50 j=(range 12).map λi=>V.bl (decide (i=j)) from rfl,List.getElem?_map,List.getElem?_range h];rfl
section
variable {P:Program}{w:World}{K:PySem.W.Frag}{mg:Str→Option Value}{base:Heap}
theorem scR:h40 c02 ["_law_call"] o10:=⟨rfl,rfl,rfl,by decide +kernel,rfl,by decide +kernel,by decide +kernel⟩
theorem ndR:(c00 ["_law_k"] [("_law_marks",2)]).Nodup:=by decide +kernel
def tIs(K:PySem.W.Frag)(c:V)(cv:Value):TE:=λσ H Q=>∃ (a C:Addr) (b:Bool),σ[1]?=some (some (.ref a))∧Q71 H a C∧f90 K C∧PySem.W.hasDictIn K C=true∧PySem.W.kitOne K (.ref C) cv=some b∧Q (.bl b) H
def t12(K:PySem.W.Frag)(c0 c1 c2:Addr):TE:=λσ H Q=>∃ (a C:Addr) (b0 b1 b2:Bool),σ[1]?=some (some (.ref a))∧Q71 H a C∧f90 K C∧PySem.W.hasDictIn K C=true∧PySem.W.kitOne K (.ref C) (.ref c0)=some b0∧PySem.W.kitOne K (.ref C) (.ref c1)=some b1∧PySem.W.kitOne K (.ref C) (.ref c2)=some b2∧∀ l,H l=none→Q (.ref l) (upd H l (.lst [.bl b0,.bl b1,.bl b2]))
section
variable {X:Cx}{c0 c1 c2:Addr}{x x0 x1 x2:Str}{p p0 p1 p2 p3 q0 q1 q2 q3 r0 r1 r2 r3:Pos}
theorem t81(hN:X.N[1]?=some ("_law_error":Str))(hv:Vis X.env.scope "_law_error")(hi:Gl X "isinstance")(Ti:X.mg "isinstance"=none)(hc:PE X (.Name x p2) (tC c))(hcv:(∃ C,c=.ref C∧cv=.ref C)∨∃ T,c=.ty T∧cv=.type T):PE X (.Call (.Name "isinstance" p0) [.Name "_law_error" p1,.Name x p2] [] p3) (tIs X.K c cv) :=
 λpins s σ H Q I q=>by
  obtain⟨a,C,b,e,h1,h2,h3,h4,h5⟩:=q
  have g:=s50 (p:=p0) (pos:=p3) W80 hi Ti B50 (d20 (h00 (i:=1) (pos:=p1) hN hv) (d20 hc j80))
  exact g pins s σ H Q I ⟨_,e,a,C,_,_,b,rfl,hcv,h1,h2,h3,h4,h5⟩
theorem Q40(hN:X.N[1]?=some ("_law_error":Str))(hv:Vis X.env.scope "_law_error")(hi:Gl X "isinstance")(Ti:X.mg "isinstance"=none)(g0:PE X (.Name x0 p2) (tC (.ref c0)))(g1:PE X (.Name x1 q2) (tC (.ref c1)))(g2:PE X (.Name x2 r2) (tC (.ref c2))) :
  PE X (.List [.Call (.Name "isinstance" p0) [.Name "_law_error" p1,.Name x0 p2] [] p3,.Call (.Name "isinstance" q0) [.Name "_law_error" q1,.Name x1 q2] [] q3,.Call (.Name "isinstance" r0) [.Name "_law_error" r1,.Name x2 r2] [] r3] p) (t12 X.K c0 c1 c2) :=
 λpins s σ H Q I q=>by
  obtain⟨a,C,b0,b1,b2,e,h1,h2,h3,k0,k1,k2,h5⟩:=q
  exact a81 (d20 (t81 hN hv hi Ti g0 (.inl ⟨c0,rfl,rfl⟩)) (d20 (t81 hN hv hi Ti g1 (.inl ⟨c1,rfl,rfl⟩)) (d20 (t81 hN hv hi Ti g2 (.inl ⟨c2,rfl,rfl⟩)) j80))) pins s σ H Q I
   ⟨a,C,b0,e,h1,h2,h3,k0,a,C,b1,e,h1,h2,h3,k1,a,C,b2,e,h1,h2,h3,k2,u10 (by show 3≤64;decide),h5⟩
end
theorem R41{st:Stmt}{f:Addr}{fd:FuncData}{k n:Nat}(F:Fun K "_law_refused" "_law_refused" st f fd)(es:b40 st=o10)(eb:f80 st=L30 n)(Ti:mg "isinstance"=none)(Tr:mg "range"=none):G30 P w K mg base CX0 (k + 1) f fd ["_law_call"] (E91 P w K mg base k):=by
 refine F.okS (by rw[es];exact scR) (λs vs H Q E h=>?_) (λcdv A outer s H vs Q E hr h=>?_)
 ·obtain⟨f,C,j,RR,rfl,_⟩:=h;rfl
 ·obtain⟨g,C,j,RR,rfl,th,R,q⟩:=h
  have hsc:=R31
  rw[es] at hr
  rw[es,eb]
  unfold L30
  clear eb
  obtain⟨c0,m0,k0⟩:=R.cl 0 _ rfl
  obtain⟨c1,m1,k1⟩:=R.cl 1 _ rfl
  obtain⟨c2,m2,k2⟩:=R.cl 2 _ rfl
  obtain⟨c3,m3,k3⟩:=R.cl 3 _ rfl
  obtain⟨c4,m4,k4⟩:=R.cl 4 _ rfl
  obtain⟨c5,m5,k5⟩:=R.cl 5 _ rfl
  obtain⟨c6,m6,k6⟩:=R.cl 6 _ rfl
  obtain⟨c7,m7,k7⟩:=R.cl 7 _ rfl
  obtain⟨c8,m8,k8⟩:=R.cl 8 _ rfl
  obtain⟨c9,m9,k9⟩:=R.cl 9 _ rfl
  obtain⟨c10,m10,k10⟩:=R.cl 10 _ rfl
  obtain⟨c11,m11,k11⟩:=R.cl 11 _ rfl
  obtain⟨D,mD,kD⟩:=R.ce
  refine⟨_,d40 (n60 (i:=1) scR.nd rfl (Or.inl rfl) Z80)
   (d40 (e61 (i:=0) (j:=1) (f:=g) (C:=C) (D:=D) (k:=k) rfl rfl rfl hr th rfl (Or.inl rfl) (by decide) (by decide) rfl mD (by decide) kD rfl (by show ¬ (("e":Str)∈c02);decide +kernel) (by decide) scR.nd rfl (Or.inl rfl) rfl)
   (d40 (n60 (i:=2) scR.nd rfl (Or.inr rfl) (Q40 rfl (Or.inl rfl) rfl Ti (e30 rfl m0 rfl) (e30 rfl m1 rfl) (e30 rfl m2 rfl)))
   (d40 (n60 (i:=2) scR.nd rfl (Or.inr rfl) (p91 b61 (pv 2) (Q40 rfl (Or.inl rfl) rfl Ti (e30 rfl m3 rfl) (e30 rfl m4 rfl) (e30 rfl m5 rfl))))
   (d40 (n60 (i:=2) scR.nd rfl (Or.inr rfl) (p91 b61 (pv 2) (Q40 rfl (Or.inl rfl) rfl Ti (e30 rfl m6 rfl) (e30 rfl m7 rfl) (e30 rfl m8 rfl))))
   (d40 (n60 (i:=2) scR.nd rfl (Or.inr rfl) (p91 b61 (pv 2) (Q40 rfl (Or.inl rfl) rfl Ti (e30 rfl m9 rfl) (e30 rfl m10 rfl) (e30 rfl m11 rfl))))
   (d40 (C01 (y01 (Z90 (t81 (cv:=.type "ValueError") rfl (Or.inl rfl) rfl Ti (z20 (v:=.ty "ValueError") rfl R.nv G60 rfl) (.inr ⟨_,rfl,rfl⟩)))) (a01 (P40 Z80)) K20)
   (a01 (P40 (c41 (own:=["_law_k"]) (capt:=[("_law_marks",2)]) rfl (by exact j90.of (scX:=o10) (N:=c02) rfl rfl hsc) (E40 rfl Tr (d20 P20 j80))
    (λcl C s H fp=>K30 (i:=0) ndR rfl (Or.inl rfl)) (λcl C s H fp=>c31 (Z90 (D01 (t61 K) (pv 1) (pv 0) (λ_ _=>rfl)))) (λcl C s H fp=>pv 0)))))))))),?_⟩
  refine⟨rfl,a10.refl H,λa H1 s1 na=>?_⟩
  have hX:Q71 (upd H1 a (.ext (excAt a C))) a C:=a80
  have keep:∀ {H'},a10 (upd H1 a (.ext (excAt a C))) H'→Q71 H' a C:=λsm=>sm _ _ hX
  refine⟨a,C,_,_,_,rfl,hX,R.lk,R.hd,k0,k1,k2,λl1 hl1=>?_⟩
  have t1:=a10.new (.lst [.bl (decide (0=j)),.bl (decide (1=j)),.bl (decide (2=j))]) hl1
  refine⟨_,rfl,a,C,_,_,_,rfl,keep t1,R.lk,R.hd,k3,k4,k5,λl2 hl2=>?_⟩
  have t2:=a10.new (.lst [.bl (decide (3=j)),.bl (decide (4=j)),.bl (decide (5=j))]) hl2
  refine⟨l1,l2,_,_,rfl,rfl,t2 _ _ a80,a80,u10 (by show 3 + 3≤64;decide),λl3 hl3=>?_⟩
  have t3:=t1.trans (t2.trans (a10.new (.lst ([.bl (decide (0=j)),.bl (decide (1=j)),.bl (decide (2=j))]++[.bl (decide (3=j)),.bl (decide (4=j)),.bl (decide (5=j))])) hl3))
  refine⟨_,rfl,a,C,_,_,_,rfl,keep t3,R.lk,R.hd,k6,k7,k8,λl4 hl4=>?_⟩
  have t4:=a10.new (.lst [.bl (decide (6=j)),.bl (decide (7=j)),.bl (decide (8=j))]) hl4
  refine⟨l3,l4,_,_,rfl,rfl,t4 _ _ a80,a80,u10 (by show 6 + 3≤64;decide),λl5 hl5=>?_⟩
  have t5:=t3.trans (t4.trans (a10.new (.lst ([.bl (decide (0=j)),.bl (decide (1=j)),.bl (decide (2=j))]++[.bl (decide (3=j)),.bl (decide (4=j)),.bl (decide (5=j))]++[.bl (decide (6=j)),.bl (decide (7=j)),.bl (decide (8=j))])) hl5))
  refine⟨_,rfl,a,C,_,_,_,rfl,keep t5,R.lk,R.hd,k9,k10,k11,λl6 hl6=>?_⟩
  have t6:=a10.new (.lst [.bl (decide (9=j)),.bl (decide (10=j)),.bl (decide (11=j))]) hl6
  refine⟨l5,l6,_,_,rfl,rfl,t6 _ _ a80,a80,u10 (by show 9 + 3≤64;decide),λl7 hl7=>?_⟩
  have t7:=t5.trans (t6.trans (a10.new (.lst (u50 j)) hl7))
  refine⟨a,C,_,rfl,keep t7,R.lk,R.hd,R.ve,_,rfl,s52 ?_⟩
  refine⟨12,rfl,by decide,by decide,s51 (lo:=0) (n:=12) (λi ys H'=>a10 (upd H1 a (.ext (excAt a C))) H'∧H' l7=some (.lst (u50 j))∧ys=if j < i then [.int j] else []) (u10 (by decide)) ⟨t7,a80,by rw[if_neg (by omega)]⟩ (λi ys H' p=>by rw[p.2.2];split <;> simp <;> omega) ?_ ?_⟩
  ·rintro i ys H' hi ⟨s8,h8,rfl⟩
   refine gN ?_
   refine⟨_,rfl,_,rfl,l7,u50 j,0 + (i:Int),.bl (decide (i=j)),rfl,rfl,SqL.of h8,t71 hi,_,rfl,?_⟩
   refine s62 (λe=>?_) (λe=>?_)
   ·have ej:i=j:=of_decide_eq_true e
    subst ej
    refine⟨_,rfl,s8,h8,?_⟩
    rw[if_neg (by omega),if_pos (by omega),Int.zero_add];rfl
   ·have ej:¬ i=j:=λz=>e (decide_eq_true z)
    refine⟨s8,h8,?_⟩
    by_cases hj:j < i
    ·rw[if_pos hj,if_pos (by omega)]
    ·rw[if_neg hj,if_neg (by omega)]
  ·rintro ys H' p ⟨s8,_,rfl⟩ hp
   rw[if_pos R.lt]
   exact q p H1 H' s1 ((a10.new _ na).trans s8) hp
end
end L2
namespace Q
open PySem L2
abbrev Z:=Option (Int × Bool)
inductive S where
 |d (x:D) | fr (xs:List D) | z
inductive R (α:Type) where
 |ok (a:α) (z:Z) | er (c:Nat) (z:Z)
abbrev M(α:Type):=Z→Option (R α)
def M.ret{α:Type}(a:α):M α:=λz=>some (.ok a z)
def M.no{α:Type}:M α:=λ_=>none
def M.of{α:Type}:Option α→M α
 |some a=>M.ret a
 |none=>M.no
def M.bind{α β:Type}(m:M α)(f:α→M β):M β:=λz=>match m z with
 |some (.ok a z1)=>f a z1
 |some (.er c z1)=>some (.er c z1)
 |none=>none
def M.calm{α:Type}(m:M α):M α:=λz=>match m z with
 |some (.ok a z1)=>some (.ok a z1)
 |_=>none
abbrev Env:=List (Option S)
def pl:List S→Option D
 |[.d x]=>some x
 |[.fr xs]=>some (.lst xs)
 |_=>none
def one:List S→Option S
 |[s]=>some s
 |_=>none
def plS:S→S
 |.fr xs=>.d (.lst xs)
 |s=>s
def plD:S→Option D
 |.d x=>some x
 |.fr xs=>some (.lst xs)
 |.z=>none
def plA:List S→Option (List D)
 |[]=>some []
 |.d x::r=>(plA r).map (x::·)
 |.fr xs::r=>(plA r).map (.lst xs::·)
 |.z::_=>none
inductive Bi where
 |add | sub | mul | fdiv | mod | pow
inductive Cm where
 |eq | ne | lt | le | gt | ge | is | mem
inductive Bf where
 |len | sorted | tuple | list | sum | min | max | abs | all | int | sset | b72
inductive Ty where
 |int | bool | tuple | list | str | seq
inductive Pat where
 |v (i:Nat) | tup (ps:Pat) | nil | cons (p r:Pat)
inductive It where
 |seq | rng1 | rng2 | zip | enum
inductive Ex where
 |nil | cons (a r:Ex)
 |var (i:Nat) | con (x:D) | gint (g:Str) (i:Int)
 |tup (as:Ex) | lst (as:Ex)
 |bin (o:Bi) (a b:Ex) | cmp (o:Cm) (a b:Ex) | neg (a:Ex)
 |not (a:Ex) | and (a b:Ex) | or (a b:Ex) | orT (a b:Ex) | ite (c a b:Ex)
 |ch (o o':Cm) (a b c:Ex)
 |bf (f:Bf) (as:Ex) | isi (t:Ty) (a:Ex)
 |idx (a i:Ex) | sl (a lo hi:Ex)
 |call (f:Nat) (as:Ex)
 |comp (own:Nat) (capt:List Nat) (p:Pat) (it:It) (src cond el:Ex)
 |zget (i k:Nat) | lrng (b:Bool) (as:Ex)
 |refd (capt:List Nat) (a:Ex)
abbrev most:Nat:=100000
def e81:Nat:=2 ^ 4000
mutual
noncomputable def eqD:D→D→Bool
 |.non,.non=>true
 |.bl a,.bl b=>a == b
 |.int a,.int b=>a == b
 |.str a,.str b=>a == b
 |.bl a,.int b=>(if a then 1 else 0) == b
 |.int a,.bl b=>a == (if b then 1 else 0)
 |.tup a,.tup b=>R51 a b
 |.lst a,.lst b=>R51 a b
 |.dct,.dct=>true
 |_,_=>false
noncomputable def R51:List D→List D→Bool
 |[],[]=>true
 |a::r,b::q=>eqD a b&&R51 r q
 |_,_=>false
end
mutual
noncomputable def ltD:D→D→Option Bool
 |.int a,.int b=>some (decide (a < b))
 |.tup a,.tup b=>F01 a b
 |_,_=>none
noncomputable def F01:List D→List D→Option Bool
 |[],[]=>some false
 |[],_::_=>some true
 |_::_,[]=>some false
 |a::r,b::q=>if eqD a b then F01 r q else ltD a b
end
mutual
noncomputable def r00:D→Bool
 |.dct=>false
 |.tup l=>g50 l
 |.lst l=>g50 l
 |.str x=>PyData.strOk x
 |_=>true
noncomputable def g50:List D→Bool
 |[]=>true
 |x::r=>r00 x&&g50 r
end
mutual
noncomputable def deep:D→Nat
 |.tup l=>i10 l + 1
 |.lst l=>i10 l + 1
 |_=>0
noncomputable def i10:List D→Nat
 |[]=>0
 |x::r=>Nat.max (deep x) (i10 r)
end
def okD(d:D):Bool:=r00 d&&decide (deep d≤40)
def c12(l:List D):Bool:=g50 l&&decide (i10 l≤39)
theorem f00{c:Prop}[Decidable c]{α:Type}{a:Option α}{b:α}(h:(if c then a else none)=some b):c∧a=some b:=by
 by_cases k:c
 ·rw[if_pos k] at h;exact⟨k,h⟩
 ·rw[if_neg k] at h;cases h
def eqO(a b:D):Option Bool:=if okD a&&okD b then some (eqD a b) else none
def eqE:D→D→Option Bool
 |.tup l,.tup []=>some l.isEmpty
 |_,_=>none
def eqQ(a b:D):Option Bool:=if okD a&&okD b then some (eqD a b) else eqE a b
def ltO(a b:D):Option Bool:=if okD a&&okD b then ltD a b else none
def memD(x:D)(l:List D):Bool:=l.any λy=>eqD y x
def c22(x:D)(l:List D):Option Bool:=if okD x&&c12 l then some (memD x l) else none
def L40:List D→Option (List Int)
 |[]=>some []
 |.int i::r=>(L40 r).map (i::·)
 |_=>none
def Q50:Bi→D→D→Option S
 |.add,.int i,.int j=>some (.d (.int (i + j)))
 |.add,.tup a,.tup b=>if a.length + b.length≤most then some (.d (.tup (a++b))) else none
 |.add,.lst a,.lst b=>if a.length + b.length≤most then some (.fr (a++b)) else none
 |.sub,.int i,.int j=>some (.d (.int (i - j)))
 |.mul,.int i,.int j=>if i.natAbs < e81∧j.natAbs < e81 then some (.d (.int (i * j))) else none
 |.mul,.tup a,.int j=>if 0≤j∧j.toNat * a.length≤most∧j < 1000000 then some (.d (.tup (replicate j.toNat a).flatten)) else none
 |.mul,.lst a,.int j=>if 0≤j∧j.toNat * a.length≤most∧j < 1000000 then some (.fr (replicate j.toNat a).flatten) else none
 |.fdiv,.int i,.int j=>if 0 < j∧j.natAbs < e81 then some (.d (.int (i / j))) else none
 |.mod,.int i,.int j=>if 0 < j then some (.d (.int (i % j))) else none
 |.pow,.int i,.int j=>if 0≤j∧j≤1000∧i.natAbs < 2 ^ 64 then some (.d (.int (i ^ j.toNat))) else none
 |_,_,_=>none
def e91:D→Bool
 |.non=>true
 |_=>false
def neO:D→D→Option Bool
 |.dct,.tup _=>some true
 |a,b=>(eqO a b).map (!·)
def p90:Cm→D→D→Option Bool
 |.eq,a,b=>eqQ a b
 |.ne,a,b=>neO a b
 |.lt,a,b=>ltO a b
 |.gt,.int a,.int b=>some (decide (b < a))
 |.le,.int a,.int b=>some (decide (a≤b))
 |.le,.tup a,.tup b=>(L40 a).bind λns=>(L40 b).map λms=>HT.leB ns ms
 |.ge,.int a,.int b=>some (decide (b≤a))
 |.is,.bl a,.bl b=>some (a == b)
 |.is,a,.non=>some (e91 a)
 |.mem,a,.tup l=>c22 a l
 |.mem,a,.lst l=>c22 a l
 |_,_,_=>none
def L71:Ty→D→Bool
 |.int,.int _=>true
 |.int,.bl _=>true
 |.bool,.bl _=>true
 |.tuple,.tup _=>true
 |.list,.lst _=>true
 |.str,.str _=>true
 |.seq,.tup _=>true
 |.seq,.lst _=>true
 |_,_=>false
def asB:D→Option Bool
 |.bl b=>some b
 |_=>none
def R61:D→Option (List D)
 |.tup l=>some l
 |_=>none
def asI:D→Option Int
 |.int i=>some i
 |_=>none
def Z00:D→Option (List D)
 |.tup l=>some l
 |.lst l=>some l
 |_=>none
mutual
noncomputable def flt:D→List Int
 |.int i=>[i]
 |.tup l=>p02 l
 |_=>[]
noncomputable def p02:List D→List Int
 |[]=>[]
 |x::r=>flt x++p02 r
end
mutual
noncomputable def eqT:D→D→Bool
 |.int i,.int j=>i == j
 |.tup a,.tup b=>t91 a b
 |_,_=>false
noncomputable def t91:List D→List D→Bool
 |[],[]=>true
 |x::r,y::q=>eqT x y&&t91 r q
 |_,_=>false
end
def f01:D→Nat
 |.int _=>0
 |.tup (.int _::_)=>1
 |.tup (.tup _::_)=>2
 |_=>3
def d60(x y:D):Bool:=f01 y == f01 x&&(ltD x y == some (MySort.e00 (flt x) (flt y))&&(eqT x y || !(flt x == flt y)))
def j10(l:List D):Bool:=l.all λx=>decide (f01 x < 3)&&(okD x&&l.all (d60 x))
def L50(k:D):List D→List D
 |[]=>[k]
 |y::r=>if MySort.e00 (flt y) (flt k) then y::L50 k r else k::y::r
def m30:List D→List D
 |[]=>[]
 |k::r=>L50 k (m30 r)
def c32(_:List D):Option (List D):=none
def sortedS(x:D):Option S:=(Z00 x).bind λl=>if l.length < 64∧j10 l=true then some (.fr (m30 l)) else(c32 l).map S.fr
def R71:List D→Option Int
 |[]=>some 0
 |.int i::r=>(R71 r).map (i + ·)
 |_=>none
def bfD:Bf→List D→Option S
 |.len,[x]=>(Z00 x).map λl=>.d (.int l.length)
 |.tuple,[x]=>(Z00 x).map λl=>.d (.tup l)
 |.list,[x]=>(Z00 x).map λl=>.fr l
 |.all,[.lst l]=>(l.mapM asB).map λbs=>.d (.bl (bs.all id))
 |.sorted,[x]=>sortedS x
 |.sum,[x]=>((Z00 x).bind R71).map λi=>.d (.int i)
 |.min,[.int i,.int j]=>some (.d (.int (if j < i then j else i)))
 |.max,[.int i,.int j]=>some (.d (.int (if j > i then j else i)))
 |.abs,[.int i]=>some (.d (.int (if i < 0 then -i else i)))
 |.int,[.bl b]=>some (.d (.int (if b then 1 else 0)))
 |.int,[.int i]=>some (.d (.int i))
 |_,_=>none
def Z10:D→D→Option D
 |.tup l,.int i=>atI l i
 |.lst l,.int i=>atI l i
 |_,_=>none
def cutD(l:List D)(lo hi:Option Int):List D:=(l.drop (HT.sIx l.length 0 lo)).take (HT.sIx l.length l.length hi - HT.sIx l.length 0 lo)
def slD:D→Option Int→Option Int→Option S
 |.tup l,lo,hi=>some (.d (.tup (cutD l lo hi)))
 |.lst l,lo,hi=>some (.fr (cutD l lo hi))
 |_,_,_=>none
def f11:List S→Option (Option Int)
 |[]=>some none
 |[.d (.int i)]=>some (some i)
 |_=>none
def o20:List D→Nat→List D
 |[],_=>[]
 |x::r,i=>.tup [.int i,x]::o20 r (i + 1)
def s00:List D→List D→List D
 |x::r,y::q=>.tup [x,y]::s00 r q
 |_,_=>[]
def inR:Int→Bool
 |.ofNat n=>Nat.blt n 100000
 |.negSucc n=>Nat.blt n 99999
theorem u60:inR j=true↔-100000 < j∧j < 100000:=by
 cases j with
 |ofNat n=>show ble (n + 1) 100000=true↔_;rw[Nat.ble_eq];show _↔-100000 < (n:Int)∧(n:Int) < 100000;omega
 |negSucc n=>show ble (n + 1) 99999=true↔_;rw[Nat.ble_eq,Int.negSucc_eq];omega
def itD:It→List D→Option (List D)
 |.seq,[x]=>Z00 x
 |.rng1,[.int j]=>if inR j=true then some ((range j.toNat).map λ(i:Nat)=>D.int i) else none
 |.rng2,[.int i,.int j]=>if inR i=true∧inR j=true then some ((range (j - i).toNat).map λ(k:Nat)=>D.int (i + k)) else none
 |.zip,[.tup a,.tup b]=>some (s00 a b)
 |.zip,[.lst a,.lst b]=>some (s00 a b)
 |.enum,[.tup a]=>some (o20 a 0)
 |.enum,[.lst a]=>some (o20 a 0)
 |_,_=>none
def lrS:Bool→List D→S
 |true,xs=>.d (.tup xs)
 |false,xs=>.fr xs
def lrN:Bool→Str
 |true=>"tuple"
 |false=>"list"
def lrD:List D→Option (List D)
 |[x]=>itD .rng1 [x]
 |l=>itD .rng2 l
mutual
noncomputable def e50:Pat→D→Env→Option Env
 |.v i=>λx ρ=>some (ρ.set i (some (.d x)))
 |.tup ps=>λx ρ=>match x with
  |.tup l=>bindL ps l ρ
  |_=>none
 |.nil=>λ_ _=>none
 |.cons _ _=>λ_ _=>none
noncomputable def bindL:Pat→List D→Env→Option Env
 |.nil=>λl ρ=>match l with
  |[]=>some ρ
  |_=>none
 |.cons p r=>λl ρ=>match l with
  |x::l=>(e50 p x ρ).bind λρ=>bindL r l ρ
  |_=>none
 |.v _=>λ_ _=>none
 |.tup _=>λ_ _=>none
end
def turns(f:D→M (Option D)):List D→M (List D)
 |[]=>M.ret []
 |x::r=>M.bind (f x) λo=>M.bind (turns f r) λl=>M.ret (match o with | some y=>y::l | none=>l)
def s10(fc fe:Env→M (List S))(p:Pat)(ρ0:Env)(x:D):M (Option D):=M.bind (M.of (e50 p x ρ0)) λρ'=>M.bind (fc ρ') λc=>match c with
 |[]=>M.bind (fe ρ') λy=>M.bind (M.of (pl y)) λy=>M.ret (some y)
 |[.d (.bl true)]=>M.bind (fe ρ') λy=>M.bind (M.of (pl y)) λy=>M.ret (some y)
 |[.d (.bl false)]=>M.ret none
 |_=>M.no
def f21(k:Nat):Option (Option S)→Z→Option (R (List S))
 |some (some .z),some p=>if k=0 then some (.ok [.d (.int p.1)] (some p)) else if k=1 then some (.ok [.d (.bl p.2)] (some p)) else none
 |_,_=>none
abbrev FT:=Bool→Nat→List S→M S
abbrev p20(F:FT):FT:=λ_=>F true
def Z20(ρ:Env):List Nat→Option (List S)
 |[]=>some []
 |i::r=>match ρ[i]? with
  |some (some s)=>(Z20 ρ r).map (s::·)
  |_=>none
def R81(o:Option (List S))(m:Env→M (List S)):M (List S):=λz=>match o with
 |none=>none
 |some ss=>match m (ss.map some) z with
  |some (.er c z1)=>if c < 12 then some (.ok [.fr [.int c]] z1) else none
  |_=>none
def ev:FT→Ex→Env→M (List S)
 |F,.nil=>λ_=>M.ret []
 |F,.cons a r=>λρ=>M.bind (ev F a ρ) λx=>M.bind (M.of (one x)) λs=>M.bind (ev F r ρ) λy=>M.ret (s::y)
 |F,.var i=>λρ=>match ρ[i]? with
  |some (some s)=>M.ret [plS s]
  |_=>M.no
 |F,.con x=>λ_=>M.ret [.d x]
 |F,.gint _ i=>λ_=>M.ret [.d (.int i)]
 |F,.tup as=>λρ=>M.bind (ev F as ρ) λl=>M.bind (M.of (plA l)) λds=>if ds.length≤most then M.ret [.d (.tup ds)] else M.no
 |F,.lst as=>λρ=>M.bind (ev F as ρ) λl=>M.bind (M.of (plA l)) λds=>if ds.length≤most then M.ret [.fr ds] else M.no
 |F,.bin o a b=>λρ=>M.bind (ev F a ρ) λx=>M.bind (M.of (pl x)) λx=>M.bind (ev F b ρ) λy=>M.bind (M.of (pl y)) λy=>M.bind (M.of (Q50 o x y)) λs=>M.ret [s]
 |F,.cmp o a b=>λρ=>M.bind (ev F a ρ) λx=>M.bind (M.of (pl x)) λx=>M.bind (ev F b ρ) λy=>M.bind (M.of (pl y)) λy=>M.bind (M.of (p90 o x y)) λb=>M.ret [.d (.bl b)]
 |F,.neg a=>λρ=>M.bind (ev F a ρ) λx=>M.bind (M.of ((pl x).bind asI)) λi=>M.ret [.d (.int (-i))]
 |F,.not a=>λρ=>M.bind (ev F a ρ) λx=>M.bind (M.of ((pl x).bind asB)) λb=>M.ret [.d (.bl !b)]
 |F,.and a b=>λρ=>M.bind (ev F a ρ) λx=>M.bind (M.of ((pl x).bind asB)) λc=>if c then M.bind (ev F b ρ) λy=>M.bind (M.of ((pl y).bind asB)) λc=>M.ret [.d (.bl c)] else M.ret [.d (.bl false)]
 |F,.or a b=>λρ=>M.bind (ev F a ρ) λx=>M.bind (M.of ((pl x).bind asB)) λc=>if c then M.ret [.d (.bl true)] else M.bind (ev F b ρ) λy=>M.bind (M.of ((pl y).bind asB)) λc=>M.ret [.d (.bl c)]
 |F,.orT a b=>λρ=>M.calm (M.bind (ev F a ρ) λx=>M.bind (M.of ((pl x).bind R61)) λl=>if l.isEmpty then M.bind (ev F b ρ) λy=>M.bind (M.of ((pl y).bind R61)) λl=>M.ret [.d (.tup l)] else M.ret [.d (.tup l)])
 |F,.ite c a b=>λρ=>M.bind (ev F c ρ) λx=>M.bind (M.of ((pl x).bind asB)) λc=>if c then ev F a ρ else ev F b ρ
 |F,.ch o o' a b c=>λρ=>M.bind (ev F a ρ) λx=>M.bind (M.of (pl x)) λx=>M.bind (ev F b ρ) λy=>M.bind (M.of (pl y)) λy=>M.bind (M.of (p90 o x y)) λk =>
   if k then M.bind (ev F c ρ) λw=>M.bind (M.of (pl w)) λw=>M.bind (M.of (p90 o' y w)) λk=>M.ret [.d (.bl k)] else M.ret [.d (.bl false)]
 |F,.bf f as=>λρ=>M.bind (ev F as ρ) λl=>M.bind (M.of (plA l)) λds=>M.bind (M.of (bfD f ds)) λs=>M.ret [s]
 |F,.isi t a=>λρ=>M.bind (ev F a ρ) λx=>M.bind (M.of (pl x)) λx=>M.ret [.d (.bl (L71 t x))]
 |F,.idx a i=>λρ=>M.bind (ev F a ρ) λx=>M.bind (M.of (pl x)) λx=>M.bind (ev F i ρ) λy=>M.bind (M.of (pl y)) λy=>M.bind (M.of (Z10 x y)) λr=>M.ret [.d r]
 |F,.sl a lo hi=>λρ=>M.bind (ev F a ρ) λx=>M.bind (M.of (pl x)) λx=>M.bind (ev F lo ρ) λu=>M.bind (M.of (f11 u)) λu=>M.bind (ev F hi ρ) λv=>M.bind (M.of (f11 v)) λv=>M.bind (M.of (slD x u v)) λs=>M.ret [s]
 |F,.call f as=>λρ=>M.bind (ev F as ρ) λl=>M.bind (F false f (l.map plS)) λs=>M.ret [s]
 |F,.comp own capt p it src cond el=>λρ=>M.bind (ev F src ρ) λl=>M.bind (M.of ((plA l).bind (itD it))) λxs=>if xs.length≤most then M.bind (M.calm (turns (s10 (ev F cond) (ev F el) p (replicate own none++capt.map λi=>(ρ[i]?).getD none)) xs)) λys=>M.ret [.fr ys] else M.no
 |F,.zget i k=>λρ z=>f21 k ρ[i]? z
 |F,.lrng b as=>λρ=>M.bind (ev F as ρ) λl=>M.bind (M.of ((plA l).bind lrD)) λxs=>M.ret [lrS b xs]
 |F,.refd capt a=>λρ=>R81 (Z20 ρ capt) λρ'=>ev (p20 F) a ρ'
def G70(ρ:Env):Env:=ρ.map λo=>match o with
 |some .z=>none
 |o=>o
def p11(c:Nat):D:=.lst [.int c]
def k00(F:FT)(ρ:Env):List (List Nat × Ex)→Z→Option (List Nat × Z)
 |[],z=>some ([],z)
 |(capt,a)::r,z=>match Z20 ρ capt with
  |none=>none
  |some ss=>match ev (p20 F) a (ss.map some) z with
   |some (.er c z1)=>if c < 12 then(k00 F ρ r z1).map λp=>(c::p.1,p.2) else none
   |_=>none
inductive Sm where
 |nil | seq (s r:Sm)
 |set (p:Pat) (e:Ex) | ret (e:Ex) | iff (c:Ex) (t e:Sm)
 |fr (p:Pat) (it:It) (src:Ex) (b:Sm) | whl (c:Ex) (b:Sm)
 |rais (c:Nat) | exp (e:Ex)
 |app (i:Nat) (e:Ex) | sti (i:Nat) (x e:Ex)
 |newz (i:Nat) (f:Nat) (as:Ex) | zset (i:Nat) (e:Ex) | apop (i j:Nat) (e:Ex)
 |lams (i:Nat) (ls:List (List Nat × Ex)) (e:Ex) (t r:Sm)
inductive O where
 |nx (ρ:Env) | rt (s:S)
mutual
noncomputable def bare:D→Bool
 |.lst _=>false
 |.tup l=>n10 l
 |.dct=>false
 |_=>true
noncomputable def n10:List D→Bool
 |[]=>true
 |x::r=>bare x&&n10 r
end
def s20:S→Bool
 |.d x=>bare x
 |.fr xs=>n10 xs
 |.z=>true
def L60(ρ:Env):Env:=ρ.map λo=>o.map plS
def s30(b:Bool):Option S→Option S
 |some (.fr xs)=>some (if b then .fr xs else .d (.lst xs))
 |o=>o
theorem Q60(b:Bool)(ρ:Env):ρ.map (s30 b)=if b then ρ else L60 ρ:=by
 have h:∀ o:Option S,s30 b o=if b then o else o.map plS:=λo=>by
  match o with
  |some (.fr xs)=>cases b <;> rfl
  |some (.d _)=>cases b <;> rfl
  |some .z=>cases b <;> rfl
  |none=>cases b <;> rfl
 rw[show s30 b=λo=>if b then o else o.map plS from funext h]
 cases b with
 |true=>exact map_id ρ
 |false=>rfl
def i20(s:S)(ρ:Env):Env:=ρ.map (s30 (s20 s))
def G80:Pat→S→Env→Option Env
 |p,.d x,ρ=>e50 p x ρ
 |.v i,s,ρ=>if i < ρ.length then some (ρ.set i (some s)) else none
 |_,_,_=>none
def K10(f:D→Env→M O):List D→Env→M O
 |[],ρ=>M.ret (.nx ρ)
 |x::r,ρ=>M.bind (f x ρ) λo=>match o with
  |.nx ρ=>K10 f r ρ
  |.rt s=>M.ret (.rt s)
def z11(c:Env→M (List S))(f:Env→M O):Nat→Env→M O
 |0,_=>M.no
 |n + 1,ρ=>M.bind (c ρ) λx=>M.bind (M.of ((pl x).bind asB)) λk=>if k then M.bind (f ρ) λo=>match o with
  |.nx ρ=>z11 c f n ρ
  |.rt s=>M.ret (.rt s)
  else M.ret (.nx ρ)
def ownAt(ρ:Env)(i:Nat):Option (List D):=match ρ[i]? with
 |some (some (.fr xs))=>some xs
 |_=>none
def x50(xs:List D)(i:Int)(y:D):Option (List D):=(ixN xs.length i).map λj=>xs.set j y
def R91:D→Bool
 |.tup l=>n10 l
 |.lst l=>n10 l
 |_=>true
def X10(l:List S):Bool:=match plA l with
 |some ds=>ds.all R91
 |none=>false
def noS:S→Option S
 |.z=>none
 |s=>some s
def F11:(it:It)→(e:Ex)→Option {i:Nat // it=.seq∧e=.cons (.var i) .nil}
 |.seq,.cons (.var i) .nil=>some ⟨i,rfl,rfl⟩
 |_,_=>none
def X20:List S→Bool
 |[]=>false
 |.d (.lst _)::_=>true
 |_::r=>X20 r
def Q70(it:It)(e:Ex)(l:List S)(ρ:Env):Env:=match F11 it e with
 |some i=>ρ.set i.1 ((ρ[i.1]?.getD none).map plS)
 |none=>match X20 l with
  |true=>L60 ρ
  |false=>ρ
def F21(it:It)(e:Ex)(l:List S)(ρ:Env):Env:=(Q70 it e l ρ).map (s30 (X10 l))
abbrev L81:Nat:=20000
def f31(ρ:Env)(i j:Nat)(xs ys:List D)(k:Int):Option O :=
 if i≠j∧0≤k∧inR k=true∧xs.length < most then(ys[k.toNat]?).bind λy=>if bare y=true then some (.nx ((ρ.set j (some (.fr (ys.eraseIdx k.toNat)))).set i (some (.fr (xs++[y]))))) else none else none
def S01(F:FT)(i j:Nat)(e:Ex):Env→M O:=λρ=>M.bind (M.of (ownAt ρ i)) λxs=>M.bind (M.of (ownAt ρ j)) λys=>M.bind (ev F e ρ) λl=>M.bind (M.of ((pl l).bind asI)) λk=>M.bind (M.of (f31 ρ i j xs ys k)) λo=>M.ret o
def f41(tp:Bool)(ρ:Env)(i:Nat):List S→Option (R O)
 |[.fr [.int n,.bl b]]=>if tp then some (.ok (.nx ((G70 ρ).set i (some .z))) (some (n,b))) else none
 |_=>none
def f51(ρ:Env)(v:Int):Option (Option S)→Z→Option (R O)
 |some (some .z),some p=>some (.ok (.nx ρ) (some (v,p.2)))
 |_,_=>none
def ex(F:FT)(tp:Bool):Sm→Env→M O
 |.nil=>λρ=>M.ret (.nx ρ)
 |.seq s r=>λρ=>M.bind (ex F tp s ρ) λo=>match o with
  |.nx ρ=>ex F tp r ρ
  |.rt s=>M.ret (.rt s)
 |.set p e=>λρ=>M.bind (ev F e ρ) λl=>M.bind (M.of (one l)) λs=>M.bind (M.of (G80 p s (i20 s ρ))) λρ=>M.ret (.nx ρ)
 |.ret e=>λρ=>match e with
  |.var i=>(match ρ[i]? with
   |some (some s)=>M.bind (M.of (noS s)) λs=>M.ret (.rt s)
   |_=>M.no)
  |e=>M.bind (ev F e ρ) λl=>M.bind (M.of ((one l).bind noS)) λs=>M.ret (.rt s)
 |.iff c t e=>λρ=>M.bind (ev F c ρ) λx=>M.bind (M.of ((pl x).bind asB)) λc=>if c then ex F tp t ρ else ex F tp e ρ
 |.fr p it src b=>λρ=>M.bind (ev F src ρ) λl=>M.bind (M.of ((plA l).bind (itD it))) λxs=>K10 (λx ρ=>M.bind (M.of (e50 p x ρ)) λρ=>ex F tp b ρ) xs (F21 it src l ρ)
 |.lams i ls e t r=>λρ=>if i < ρ.length then(λz=>match k00 F (ρ.set i none) ls z with
  |none=>none
  |some (cs,z1)=>M.bind (ev F e (ρ.set i none)) (λl=>M.bind (M.of (pl l)) λd=>M.bind (M.of (p90 .ne (.lst (cs.map p11)) d)) λb=>M.bind (if b then ex F tp t (ρ.set i none) else M.ret (.nx (ρ.set i none))) λo=>match o with
   |.nx ρ=>ex F tp r ρ
   |.rt s=>M.ret (.rt s)) z1) else M.no
 |.whl c b=>λρ=>z11 (ev F c) (ex F tp b) L81 ρ
 |.rais c=>λ_ z=>some (.er c z)
 |.exp e=>λρ=>M.bind (ev F e ρ) λl=>M.bind (M.of (one l)) λ_=>M.ret (.nx ρ)
 |.app i e=>λρ=>M.bind (M.of (ownAt ρ i)) λxs=>M.bind (ev F e ρ) λl=>M.bind (M.of (pl l)) λx=>if bare x=true∧xs.length < most then M.ret (.nx (ρ.set i (some (.fr (xs++[x]))))) else M.no
 |.sti i ix e=>λρ=>M.bind (ev F e ρ) λl=>M.bind (M.of (pl l)) λx=>M.bind (M.of (ownAt ρ i)) λxs=>M.bind (ev F ix ρ) λj=>M.bind (M.of ((pl j).bind asI)) λj=>M.bind (M.of (x50 xs j x)) λxs =>
   if bare x=true then M.ret (.nx (ρ.set i (some (.fr xs)))) else M.no
 |.newz i f as=>λρ=>M.bind (ev F (.call f as) ρ) λl=>λ_=>f41 tp ρ i l
 |.zset i e=>λρ=>M.bind (ev F e ρ) λl=>M.bind (M.of ((pl l).bind asI)) λv=>λz=>f51 ρ v ρ[i]? z
 |.apop i j e=>λρ=>S01 F i j e ρ
inductive Df where
 |code (ps ns:Nat) (b:Sm) | prim (f:List S→M S)
def w90:Z→Z→Z
 |none,_=>none
 |some _,z=>z
def start(ns:Nat)(l:List S):Env:=l.map some++replicate (ns - l.length) none
def run(F:FT):Df→List S→M S
 |.code ps ns b,l=>λz=>if l.length=ps∧ps≤ns then(match ex F z.isNone b (start ns (l.map plS)) z with
  |some (.ok (.nx _) z1)=>some (.ok (.d .non) (w90 z z1))
  |some (.ok (.rt s) z1)=>some (.ok s (w90 z z1))
  |some (.er c z1)=>some (.er c (w90 z z1))
  |none=>none) else none
 |.prim f,l=>f l
def c20(T:List Df):Nat→Nat→List S→M S
 |k + 3,f,l=>match T[f]? with
  |some d=>run (λb g m=>match b with | true=>c20 T k g m | false=>c20 T (k + 2) g m) d l
  |none=>M.no
 |_,_,_=>M.no
abbrev E10(T:List Df)(k:Nat):FT:=λb g m=>match b with | true=>c20 T (k - 2) g m | false=>c20 T k g m
theorem L70(T:List Df)(k f:Nat)(l:List S):c20 T (k + 3) f l=match T[f]? with
  |some d=>run (E10 T (k + 2)) d l
  |none=>M.no:=rfl
end Q
namespace Q
open PySem L2 PySem.Spec PyProof.Rows
def l70(K:PySem.W.Frag)(H:Hp)(a:Addr)(xs:List V):Prop:=Rd H a (.lst xs)∨∃ (its:Array Value) (n:Nat),K.lookup a=some { cls:=.type "list",data:=.seq its n }∧its.size≤sizeLine∧Vals xs its.toList
theorem l70.of{K:PySem.W.Frag}{H:Hp}{a:Addr}{xs:List V}(h:H a=some (.lst xs)):l70 K H a xs:=.inl (.inl h)
theorem l70.sq{K:PySem.W.Frag}{H:Hp}{a:Addr}{xs:List V}(h:l70 K H a xs):SqL K H a xs:=by
 rcases h with h | ⟨its,n,h1,h2,h3⟩
 ·exact .inl h
 ·exact .inr ⟨_,its,n,h1,rfl,rfl,rfl,h2,h3⟩
theorem l70.same{K:PySem.W.Frag}{H H':Hp}{a:Addr}{xs:List V}(h:l70 K H a xs)(e:a10 H H'):l70 K H' a xs:=by
 rcases h with (h | ⟨o,h⟩) | h
 ·exact .inl (.inl (e _ _ h))
 ·exact .inl (.inr ⟨o,e _ _ h⟩)
 ·exact .inr h
theorem l70.mem(I:Inv X pins σ H s)(h:l70 X.K H a xs):xs.length≤sizeLine∧∃ (its:List Value) (n:Nat),Vals xs its∧xs.length=its.length∧s.heap.get? a=some { cls:=.type "list",data:=.seq its.toArray n }:=by
 rcases h with (h | ⟨o,h⟩) | ⟨its,n,h1,h2,h3⟩
 ·exact I.P61 h
 ·obtain⟨e,z,its,n,r,e2⟩:=I.hok a _ h
  exact⟨z,its,n,r,r.length,e2⟩
 ·refine⟨by rw[h3.length,length_toList];exact h2,its.toList,n,h3,h3.length,?_⟩
  have:=I.kIn a _ h1
  rw[toArray_toList];exact this
mutual
def Hd(K:PySem.W.Frag)(H:Hp):D→V→Prop
 |.non,v=>v=.non
 |.bl b,v=>v=.bl b
 |.int i,v=>v=.int i
 |.str x,v=>v=.str x
 |.tup ds,v=>∃ a xs,v=.ref a∧SqT K H a xs∧HdA K H ds xs
 |.lst ds,v=>∃ a xs,v=.ref a∧l70 K H a xs∧HdA K H ds xs
 |.dct,v=>∃ a kvs,v=.ref a∧H a=some (.dK kvs)
def HdA(K:PySem.W.Frag)(H:Hp):List D→List V→Prop
 |[],xs=>xs=[]
 |d::ds,xs=>∃ x r,xs=x::r∧Hd K H d x∧HdA K H ds r
end
section
variable {K:PySem.W.Frag}{H H':Hp}
mutual
theorem Hd.same(e:a10 H H'):∀ {d:D}{v:V},Hd K H d v→Hd K H' d v
 |.non,_,h=>by unfold Hd at h ⊢;exact h
 |.bl _,_,h=>by unfold Hd at h ⊢;exact h
 |.int _,_,h=>by unfold Hd at h ⊢;exact h
 |.str _,_,h=>by unfold Hd at h ⊢;exact h
 |.tup ds,_,h=>by
  unfold Hd at h ⊢
  obtain⟨a,xs,rfl,h1,h2⟩:=h
  exact⟨a,xs,rfl,e.sqT h1,HdA.same e h2⟩
 |.lst ds,_,h=>by
  unfold Hd at h ⊢
  obtain⟨a,xs,rfl,h1,h2⟩:=h
  exact⟨a,xs,rfl,h1.same e,HdA.same e h2⟩
 |.dct,_,h=>by
  unfold Hd at h ⊢
  obtain⟨a,kvs,rfl,h1⟩:=h
  exact⟨a,kvs,rfl,e _ _ h1⟩
theorem HdA.same(e:a10 H H'):∀ {ds:List D}{xs:List V},HdA K H ds xs→HdA K H' ds xs
 |[],_,h=>by unfold HdA at h ⊢;exact h
 |d::ds,_,h=>by
  unfold HdA at h ⊢
  obtain⟨x,r,rfl,h1,h2⟩:=h
  exact⟨x,r,rfl,Hd.same e h1,HdA.same e h2⟩
end
mutual
theorem Hd.has:∀ {d:D}{v:V},Hd K H d v→Has K H d v
 |.non,_,h=>by unfold Hd at h;unfold Has;exact h
 |.bl _,_,h=>by unfold Hd at h;unfold Has;exact h
 |.int _,_,h=>by unfold Hd at h;unfold Has;exact h
 |.str _,_,h=>by unfold Hd at h;unfold Has;exact h
 |.tup ds,_,h=>by
  unfold Hd at h;unfold Has
  obtain⟨a,xs,rfl,h1,h2⟩:=h
  exact⟨a,xs,rfl,h1,HdA.has h2⟩
 |.lst ds,_,h=>by
  unfold Hd at h;unfold Has
  obtain⟨a,xs,rfl,h1,h2⟩:=h
  exact⟨a,xs,rfl,h1.sq,HdA.has h2⟩
 |.dct,_,h=>by unfold Hd at h;unfold Has;exact h
theorem HdA.has:∀ {ds:List D}{xs:List V},HdA K H ds xs→x20 K H ds xs
 |[],_,h=>by unfold HdA at h;unfold x20;exact h
 |d::ds,_,h=>by
  unfold HdA at h;unfold x20
  obtain⟨x,r,rfl,h1,h2⟩:=h
  exact⟨x,r,rfl,Hd.has h1,HdA.has h2⟩
end
theorem HdA.nil:HdA K H [] []:=by unfold HdA;rfl
theorem HdA.cons(h:Hd K H d x)(r:HdA K H ds xs):HdA K H (d::ds) (x::xs):=by unfold HdA;exact⟨x,xs,rfl,h,r⟩
theorem HdA.b70(h:HdA K H (d::ds) xs):∃ x r,xs=x::r∧Hd K H d x∧HdA K H ds r:=by unfold HdA at h;exact h
theorem HdA.e10(h:HdA K H [] xs):xs=[]:=by unfold HdA at h;exact h
theorem HdA.length:∀ {ds:List D}{xs:List V},HdA K H ds xs→xs.length=ds.length
 |[],_,h=>by rw[h.e10];rfl
 |d::ds,_,h=>by
  obtain⟨x,r,rfl,_,h2⟩:=h.b70
  simp[h2.length]
theorem HdA.get:∀ {ds:List D}{xs:List V}{i:Nat}{d:D},HdA K H ds xs→ds[i]?=some d→∃ x,xs[i]?=some x∧Hd K H d x
 |[],_,_,_,_,e=>by simp at e
 |d::ds,_,i,d',h,e=>by
  obtain⟨y,r,rfl,h1,h2⟩:=h.b70
  cases i with
  |zero=>simp at e;subst e;exact⟨y,rfl,h1⟩
  |succ i =>
   obtain⟨x',e1,e2⟩:=HdA.get (i:=i) h2 (by simpa using e)
   exact⟨x',by simpa using e1,e2⟩
theorem HdA.append:∀ {ds es:List D}{xs ys:List V},HdA K H ds xs→HdA K H es ys→HdA K H (ds++es) (xs++ys)
 |[],_,_,_,h,g=>by rw[h.e10];exact g
 |d::ds,_,_,_,h,g=>by
  obtain⟨x,r,rfl,h1,h2⟩:=h.b70
  exact .cons h1 (HdA.append h2 g)
theorem HdA.take:∀ {ds:List D}{xs:List V} (n:Nat),HdA K H ds xs→HdA K H (ds.take n) (xs.take n)
 |ds,xs,0,_=>by simp;exact .nil
 |[],_,n + 1,h=>by rw[h.e10];simp;exact .nil
 |d::ds,_,n + 1,h=>by
  obtain⟨x,r,rfl,h1,h2⟩:=h.b70
  exact .cons h1 (HdA.take n h2)
theorem HdA.drop:∀ {ds:List D}{xs:List V} (n:Nat),HdA K H ds xs→HdA K H (ds.drop n) (xs.drop n)
 |ds,xs,0,h=>by simpa using h
 |[],_,n + 1,h=>by rw[h.e10];simp;exact .nil
 |d::ds,_,n + 1,h=>by
  obtain⟨x,r,rfl,h1,h2⟩:=h.b70
  exact HdA.drop n h2
theorem HdA.reverse:∀ {ds:List D}{xs:List V},HdA K H ds xs→HdA K H ds.reverse xs.reverse
 |[],_,h=>by rw[h.e10];simp;exact .nil
 |d::ds,_,h=>by
  obtain⟨x,r,rfl,h1,h2⟩:=h.b70
  rw[reverse_cons,reverse_cons]
  exact(HdA.reverse h2).append (.cons h1 .nil)
theorem HdA.rep(h:HdA K H ds xs):∀ n:Nat,HdA K H (replicate n ds).flatten (replicate n xs).flatten
 |0=>by simp;exact .nil
 |n + 1=>by rw[replicate_succ,replicate_succ,flatten_cons,flatten_cons];exact h.append (h.rep n)
theorem HdA.set:∀ {ds:List D}{xs:List V}{d:D}{x:V} (i:Nat),HdA K H ds xs→Hd K H d x→HdA K H (ds.set i d) (xs.set i x)
 |[],_,_,_,_,h,_=>by rw[h.e10];simp;exact .nil
 |e::ds,_,d,x,i,h,g=>by
  obtain⟨y,r,rfl,h1,h2⟩:=h.b70
  cases i with
  |zero=>exact .cons g h2
  |succ i=>exact .cons h1 (HdA.set i h2 g)
theorem HdA.ints:∀ ns:List Int,HdA K H (ns.map D.int) (ns.map V.int)
 |[]=>.nil
 |n::r=>.cons (by unfold Hd;rfl) (HdA.ints r)
theorem Hd.g60(h:Hd K H (.int i) v):v=.int i:=by unfold Hd at h;exact h
theorem Hd.bl_(h:Hd K H (.bl b) v):v=.bl b:=by unfold Hd at h;exact h
theorem Hd.c42(h:Hd K H .non v):v=.non:=by unfold Hd at h;exact h
theorem Hd.g62{x:Str}{v:V}(h:Hd K H (.str x) v):v=.str x:=by unfold Hd at h;exact h
theorem Hd.u70(h:Hd K H (.tup ds) v):∃ a xs,v=.ref a∧SqT K H a xs∧HdA K H ds xs:=by unfold Hd at h;exact h
theorem Hd.Q80(h:Hd K H (.lst ds) v):∃ a xs,v=.ref a∧l70 K H a xs∧HdA K H ds xs:=by unfold Hd at h;exact h
theorem Hd.int:Hd K H (.int i) (.int i):=by unfold Hd;rfl
theorem Hd.bl:Hd K H (.bl b) (.bl b):=by unfold Hd;rfl
theorem Hd.non:Hd K H .non .non:=by unfold Hd;rfl
theorem Hd.str{x:Str}:Hd K H (.str x) (.str x):=by unfold Hd;rfl
theorem Hd.tup(h:SqT K H a xs)(r:HdA K H ds xs):Hd K H (.tup ds) (.ref a):=by unfold Hd;exact⟨a,xs,rfl,h,r⟩
theorem Hd.lst(h:H a=some (.lst xs))(r:HdA K H ds xs):Hd K H (.lst ds) (.ref a):=by unfold Hd;exact⟨a,xs,rfl,l70.of h,r⟩
end
def noT(H:Hp):Hp:=λb=>match H b with
 |some (.tbl _)=>none
 |o=>o
theorem G90(h:noT H b=some o):H b=some o∧∀ ps,o≠.tbl ps:=by
 unfold noT at h
 split at h
 ·cases h
 ·rename_i n
  exact⟨h,λps e=>n ps (by rw[h,e])⟩
theorem L80(h:H b=some o)(n:∀ ps,o≠.tbl ps):noT H b=some o:=by
 unfold noT
 split
 ·rename_i ps e
  rw[h] at e
  cases e
  exact absurd rfl (n ps)
 ·exact h
theorem s60(H:Hp):a10 (noT H) H:=λ_ _ h=>(G90 h).1
theorem Q90(e:a10 H H'):a10 (noT H) (noT H'):=λb o h=>L80 (e b o (G90 h).1) (G90 h).2
def hz(zA:Option Addr)(H:Hp):Hp:=match zA with
 |some a=>hide a (noT H)
 |none=>noT H
class Tb where
 tb:List (Addr × Str)
variable [TB:Tb]
def zAt(zA:Option Addr)(z:Z)(H:Hp):Prop:=match zA,z with
 |some a,some (n,b)=>H a=some (.lst [.int n,.bl b])
 |none,none=>True
 |_,_=>False
structure c30(zA:Option Addr)(z:Z)(H:Hp):Prop where
 zat:zAt zA z H
 tab:∀ p∈TB.tb,Tab H p.1 p.2
theorem a30(zA:Option Addr)(H:Hp):a10 (hz zA H) H:=by
 cases zA with
 |none=>exact s60 H
 |some a=>exact a10.trans (d50 a _) (s60 H)
theorem h50(e:a10 H H'):a10 (hz zA H) (hz zA H'):=by
 cases zA with
 |none=>exact Q90 e
 |some a=>exact u00 λb o _ h=>Q90 e b o h
theorem c80(h:H b=some o)(n:zA≠some b)(ht:∀ ps,o≠.tbl ps:=by exact λ_ h=>nomatch h):hz zA H b=some o:=by
 cases zA with
 |none=>exact L80 h ht
 |some a=>exact B00 (L80 h ht) λe=>n (by rw[e])
theorem j60(h:hz zA H b=some o):H b=some o∧zA≠some b:=by
 cases zA with
 |none=>exact⟨s60 H b o h,λe=>nomatch e⟩
 |some a =>
  refine⟨s60 H b o (d50 a _ b o h),λe=>?_⟩
  cases e
  have:hide b (noT H) b=some o:=h
  unfold hide at this
  rw[if_pos rfl] at this;cases this
theorem k20(h:hz zA H b=some o):∀ ps,o≠.tbl ps:=by
 cases zA with
 |none=>exact(G90 h).2
 |some a=>exact(G90 (d50 a _ b o h)).2
structure Ext(zA:Option Addr)(H H':Hp):Prop where
 same:a10 (hz zA H) (hz zA H')
 tbl:∀ b ps,H b=some (.tbl ps)→∃ qs,H' b=some (.tbl qs)
instance {zA:Option Addr}{H H':Hp}:CoeFun (Ext zA H H') (λ_=>∀ b o,hz zA H b=some o→hz zA H' b=some o):=⟨λx=>x.same⟩
instance {zA:Option Addr}{H H':Hp}:CoeOut (Ext zA H H') (a10 (hz zA H) (hz zA H')):=⟨λx=>x.same⟩
theorem Ext.refl:Ext zA H H:=⟨a10.refl _,λb ps h=>⟨ps,h⟩⟩
theorem Ext.trans(a:Ext zA H H1)(b:Ext zA H1 H2):Ext zA H H2:=⟨a10.trans a.same b.same,λc ps h=>let ⟨qs,h1⟩:=a.tbl c ps h;b.tbl c qs h1⟩
theorem Ext.of(e:a10 H H'):Ext zA H H':=⟨h50 e,λb ps h=>⟨ps,e b _ h⟩⟩
theorem Ext.at(e:Ext zA H H')(h:H a=some o)(n:zA≠some a)(ht:∀ ps,o≠.tbl ps:=by exact λ_ h=>nomatch h):H' a=some o:=(j60 (e.same a o (c80 h n ht))).1
theorem Ext.free(e:Ext zA H H')(h:H' a=none)(n:zA≠some a):H a=none:=by
 cases q:H a with
 |none=>rfl
 |some o =>
  by_cases ht:∃ ps,o=.tbl ps
  ·obtain⟨ps,rfl⟩:=ht
   obtain⟨qs,q'⟩:=e.tbl a ps q
   rw[q'] at h;cases h
  ·rw[e.at q n λps z=>ht ⟨ps,z⟩] at h;cases h
theorem zAt.same(h:zAt zA z H)(e:a10 H H'):zAt zA z H':=by
 cases zA with
 |none=>cases z with
  |none=>trivial
  |some _=>exact h.elim
 |some a=>cases z with
  |none=>exact h.elim
  |some p=>exact e _ _ h
theorem c30.same(h:c30 zA z H)(e:a10 H H'):c30 zA z H':=⟨h.zat.same e,λp hp=>(h.tab p hp).same e⟩
theorem Tab.upd{H:Hp}{P a:Addr}{q:Str}{xs:List V}{o:HO}(t:Tab H P q)(h:H a=some (.lst xs)):Tab (upd H a o) P q:=by
 obtain⟨ps,e,tr,k⟩:=t
 have ne:∀ {b:Addr}{u:HO},H b=some u→(∀ l,u≠.lst l)→b≠a:=λ{b u} e1 e2 z=>by
  subst z
  rw[h] at e1
  cases e1
  exact e2 _ rfl
 refine⟨ps,by rw[a20 (ne e λ_ z=>nomatch z)];exact e,tr,λpos c hc=>?_⟩
 obtain⟨c',e1,e2⟩:=k pos c hc
 exact⟨c',e1,by rw[a20 (ne e2 λ_ z=>nomatch z)];exact e2⟩
theorem c30.F31{K:PySem.W.Frag}{zA:Option Addr}{z:Z}{H:Hp}(h:c30 zA z H){a:Addr}{xs:List V}(t:SqT K H a xs):SqT K (hz zA H) a xs:=by
 have h:=h.zat
 rcases t with (t | ⟨o,t⟩) | t
 ·refine .inl (.inl (c80 t λe=>?_))
  subst e
  cases z with
  |none=>exact h.elim
  |some p =>
   have h':H a=some (.lst [.int p.1,.bl p.2]):=h
   rw[t] at h';cases h'
 ·refine .inl (.inr ⟨o,c80 t λe=>?_⟩)
  subst e
  cases z with
  |none=>exact h.elim
  |some p =>
   have h':H a=some (.lst [.int p.1,.bl p.2]):=h
   rw[t] at h';cases h'
 ·exact .inr t
theorem c30.R00(h:c30 zA z H)(n:H a=none):zA≠some a:=λe=>by
 have h:=h.zat
 subst e
 cases z with
 |none=>exact h.elim
 |some p =>
  have h':H a=some (.lst [.int p.1,.bl p.2]):=h
  rw[n] at h';cases h'
def RvS(K:PySem.W.Frag)(zA:Option Addr)(H0 H:Hp):S→V→Prop
 |.d x,v=>Hd K (hz zA H) x v
 |.fr xs,v=>∃ a ys,v=.ref a∧H0 a=none∧zA≠some a∧H a=some (.lst ys)∧HdA K (hide a (hz zA H)) xs ys
 |.z,v=>∃ a,zA=some a∧v=.ref a
def RvP(K:PySem.W.Frag)(zA:Option Addr)(H:Hp):S→V→Prop
 |.d x,v=>Hd K (hz zA H) x v
 |.fr xs,v=>Hd K (hz zA H) (.lst xs) v
 |.z,v=>∃ a,zA=some a∧v=.ref a
section
variable {K:PySem.W.Frag}{zA:Option Addr}{H0 H H':Hp}
theorem RvS.pl{s:S}{v:V}(h:RvS K zA H0 H s v):RvP K zA H s v:=by
 cases s with
 |d x=>exact h
 |z=>exact h
 |fr xs =>
  obtain⟨a,ys,rfl,_,h2,h3,h4⟩:=h
  exact Hd.lst (c80 h3 h2) (h4.same (d50 a _))
theorem RvP.plS{s:S}{v:V}(h:RvP K zA H s v):RvP K zA H (plS s) v:=by cases s <;> exact h
theorem RvP.mono{s:S}{v:V}(h:RvP K zA H s v)(e:Ext zA H H'):RvP K zA H' s v:=by
 cases s with
 |d x=>exact Hd.same e h
 |z=>exact h
 |fr xs=>exact Hd.same e h
theorem RvS.mono{s:S}{v:V}(h:RvS K zA H0 H s v)(e:Ext zA H H'):RvS K zA H0 H' s v:=by
 cases s with
 |d x=>exact Hd.same e h
 |z=>exact h
 |fr xs =>
  obtain⟨a,ys,rfl,h1,h2,h3,h4⟩:=h
  exact⟨a,ys,rfl,h1,h2,e.at h3 h2,h4.same (u00 λb o _ q=>e b o q)⟩
theorem RvS.from{H1:Hp}{s:S}{v:V}(h:RvS K zA H1 H s v)(e:Ext zA H0 H1):RvS K zA H0 H s v:=by
 cases s with
 |d x=>exact h
 |z=>exact h
 |fr xs =>
  obtain⟨a,ys,rfl,h1,h2,h3⟩:=h
  exact⟨a,ys,rfl,e.free h1 h2,h2,h3⟩
theorem RvP.d_{s:S}{v:V}{x:D}(h:RvP K zA H s v)(e:plD s=some x):Hd K (hz zA H) x v:=by
 cases s with
 |d y=>cases e;exact h
 |fr xs=>cases e;exact h
 |z=>cases e
end
abbrev RvA(K:PySem.W.Frag)(zA:Option Addr)(H:Hp):List S→List V→Prop:=Paired (RvP K zA H)
theorem RvA.mono{K:PySem.W.Frag}{zA:Option Addr}{H H':Hp}{l:List S}{vs:List V}(h:RvA K zA H l vs)(e:Ext zA H H'):RvA K zA H' l vs:=Paired.x81 h λ_ _ q=>q.mono e
theorem RvA.plS{K:PySem.W.Frag}{zA:Option Addr}{H:Hp}:∀ {l:List S}{vs:List V},RvA K zA H l vs→RvA K zA H (l.map plS) vs
 |_,_,.nil=>.nil
 |_,_,.cons r t=>.cons r.plS (RvA.plS t)
theorem RvA.ds{K:PySem.W.Frag}{zA:Option Addr}{H:Hp}:∀ {l:List S}{vs:List V}{ds:List D},RvA K zA H l vs→plA l=some ds→HdA K (hz zA H) ds vs
 |_,_,_,.nil,e=>by cases e;exact .nil
 |.d x::r,_,_,.cons h t,e=>by
  simp only[plA,map_eq_some_iff] at e
  obtain⟨l,e,rfl⟩:=e
  exact .cons h (RvA.ds t e)
 |.fr x::r,_,_,.cons h t,e=>by
  simp only[plA,map_eq_some_iff] at e
  obtain⟨l,e,rfl⟩:=e
  exact .cons h (RvA.ds t e)
 |.z::r,_,_,.cons h t,e=>by simp[plA] at e
theorem d70(h:pl l=some x):∃ s,l=[s]∧plD s=some x:=by
 unfold pl at h
 split at h
 ·exact⟨_,rfl,h⟩
 ·exact⟨_,rfl,h⟩
 ·cases h
theorem M.bind_some{α β:Type}{m:M α}{f:α→M β}{z:Z}{r:R β}(h:M.bind m f z=some r):(∃ a z1,m z=some (.ok a z1)∧f a z1=some r)∨(∃ c z1,m z=some (.er c z1)∧r=.er c z1):=by
 unfold M.bind at h
 split at h
 ·exact .inl ⟨_,_,by assumption,h⟩
 ·cases h;exact .inr ⟨_,_,by assumption,rfl⟩
 ·cases h
theorem M.a00{α β:Type}{o:Option α}{f:α→M β}{z:Z}{r:R β}(h:M.bind (M.of o) f z=some r):∃ a,o=some a∧f a z=some r:=by
 cases o with
 |none=>cases h
 |some a=>exact⟨a,rfl,h⟩
end Q
set_option exponentiation.threshold 5000
namespace Q
open PySem L2 PySem.Spec PyProof.Rows
variable [TB:Tb]
section
variable {K:PySem.W.Frag}{zA:Option Addr}{z:Z}{H:Hp}
theorem u01(hp:H p=none):a10 (hz zA H) (hide p (hz zA (upd H p o))):=λb u e=>by
 obtain⟨e1,e2⟩:=j60 e
 have hb:b≠p:=λq=>by subst q;rw[hp] at e1;cases e1
 exact B00 (c80 (by rw[a20 hb];exact e1) e2 (k20 e)) hb
theorem g00:RvS K zA H0 H (.d (.int i)) (.int i):=Hd.int (K:=K) (H:=hz zA H)
theorem g70:RvS K zA H0 H (.d (.bl b)) (.bl b):=Hd.bl (K:=K) (H:=hz zA H)
theorem p21(h:Hd K (hz zA H) x v):RvS K zA H0 H (.d x) v:=h
theorem k30(st:c30 zA z H)(h:HdA K (hz zA H) xs ys)(hp:H p=none):RvS K zA H (upd H p (.lst ys)) (.fr xs) (.ref p) :=
 ⟨p,ys,rfl,hp,st.R00 hp,a80,h.same (u01 hp)⟩
theorem tupQ(st:c30 zA z H)(h:HdA K (hz zA H) xs ys)(q:∀ v H',a10 H H'→RvS K zA H H' (.d (.tup xs)) v→Q v H'):s41 K H ys Q :=
 λp H' sm hq=>q _ _ sm (p21 (Hd.tup ((st.same sm).F31 hq) (h.same (h50 sm))))
end
def rD2(K:PySem.W.Frag)(f:D→D→Option S):R2:=λx y H Q=>∃ zA z dx dy s,c30 zA z H∧Hd K (hz zA H) dx x∧Hd K (hz zA H) dy y∧f dx dy=some s∧∀ v H',a10 H H'→RvS K zA H H' s v→Q v H'
def rDn(K:PySem.W.Frag)(f:List D→Option S):List V→Hp→VK→Prop:=λxs H Q=>∃ zA z ds s,c30 zA z H∧HdA K (hz zA H) ds xs∧f ds=some s∧∀ v H',a10 H H'→RvS K zA H H' s v→Q v H'
section
variable {X:Cx}
theorem bits_le(h:k.natAbs < e81):Builtin.Int.intBits k≤4000:=by
 unfold Builtin.Int.intBits
 split
 ·exact zero_le _
 ·have hn:k.natAbs < 2 ^ 4000:=h
  have:k.natAbs.log2 < 4000:=by
   rcases Nat.eq_zero_or_pos k.natAbs with h0 | hp
   ·rw[h0];decide
   ·exact(Nat.log2_lt (ne_of_gt hp)).mpr hn
  omega
theorem S11(hi:i.natAbs < e81)(hj:j.natAbs < e81):IntMulOk i j:=by
 have h1:=bits_le hi
 have h2:=bits_le hj
 unfold IntMulOk
 intro h
 rw[and_eq_true] at h
 have h3:=h.2
 unfold Builtin.Int.intTooBig at h3
 simp only[decide_eq_true_eq] at h3
 have:(8000:Nat) < bitsLine:=by decide
 omega
theorem f61(hj:j.natAbs < e81):Builtin.divisionGoesByPylong i j=false:=by
 refine PyProof.noPylong_of_log2 ?_
 rcases Nat.eq_zero_or_pos j.natAbs with h0 | hp
 ·rw[h0];decide
 ·have:j.natAbs.log2 < 4000:=(Nat.log2_lt (ne_of_gt hp)).mpr hj
  omega
theorem d80(h:n≤most):n≤sizeLine:=Nat.le_trans h (by rw[sizeLine_eq];decide)
def g72(K:PySem.W.Frag):R2:=λx y H Q=>∃ l b xs zs,x=.ref l∧y=.ref b∧l70 K H l xs∧l70 K H b zs∧xs.length + zs.length≤sizeLine∧∀ p,H p=none→Q (.ref p) (upd H p (.lst (xs++zs)))
def g82(K:PySem.W.Frag):R2:=λx y H Q=>∃ l k xs,x=.ref l∧y=.int k∧l70 K H l xs∧-(2 ^ 63)≤k∧k < 2 ^ 63∧xs.length * k.toNat≤sizeLine∧∀ p,H p=none→Q (.ref p) (upd H p (.lst (replicate k.toNat xs).flatten))
theorem F41:OpR X (binaryOp .Add) (g72 X.K):=by
 intro pins s σ H x y v u Q I rx ry h
 obtain⟨l,b,xs,zs,rfl,rfl,hH,hB,hz,q⟩:=h
 cases rx
 cases ry
 obtain⟨z,its,n,r,hl,e⟩:=hH.mem I
 obtain⟨z2,its2,n2,r2,hl2,e2⟩:=hB.mem I
 refine PySem.P.add_list e e2 ?_ (by rw[size_toArray,size_toArray];omega)
 have ea:its.toArray++its2.toArray=(its++its2).toArray:=by simp
 rw[ea]
 exact⟨.ref _,_,I.f62 (t':=s.toks) (r.append r2) (by rw[length_append];omega),rfl,q _ I.fresh⟩
theorem F51:OpR X (binaryOp .Mult) (g82 X.K):=by
 intro pins s σ H x y v u Q I rx ry h
 obtain⟨l,k,xs,rfl,rfl,hH,h1,h2,hz,q⟩:=h
 cases rx
 obtain⟨t,rfl⟩:=ry
 obtain⟨z,its,n,r,hl,e⟩:=hH.mem I
 have hlen:its.toArray.size * k.toNat≤sizeLine:=by rw[size_toArray,← hl];exact hz
 have hcap:¬ its.toArray.size * k.toNat > (2 ^ 63 - 1) / 8:=by
  have:(sizeLine:Nat)≤(2 ^ 63 - 1) / 8:=by decide
  omega
 have hfit:¬ (!Builtin.List.listFitsIndex k)=true:=by
  rw[fitsIndex_both h1 h2]
  exact Bool.false_ne_true
 have hlong:¬ Builtin.List.listTooLong (its.toArray.size * k.toNat)=true:=by
  rw[q81 hlen]
  exact Bool.false_ne_true
 have hnew:foldl (λx1 x2=>x1++x2) #[] (replicate (if its.toArray.isEmpty=true then 0 else k.toNat) its.toArray)=(replicate k.toNat its).flatten.toArray:=by
  have f0:∀ m:Nat,foldl (λx1 x2=>x1++x2) #[] (replicate m its.toArray)=(replicate m its).flatten.toArray:=λm=>by
   have:=foldl_rep its m []
   rw[nil_append] at this
   exact this
  rw[f0]
  cases its with
  |nil=>simp
  |cons a r'=>rw[if_neg (by simp)]
 refine wpAny_binaryOp_repeat_ref (T:="list") (U:="int") (by decide) ⟨_,e,rfl⟩ (λs'=>typeIs_int s' k t) noFill_list_mul F.fills_int_mul F.slot_int_rmul repeat_list F.slot_int_index.lookup
  (call_meets F.slot_int_rmul (typeIs_int s k t) F.entry_int_rmul (F.args_int_rmul_2 _ _) (int___rmul___int_list k t l its.toArray n)
   ⟨e,rfl,⟨_,e,rfl⟩,call_meets F.slot_list_mul ⟨_,e,rfl⟩ F.entry_list_mul (F.args_list_mul_2 _ _) (AutoListH.list___mul___list_int_3 l its.toArray n k t hfit hcap hlong) ⟨e,?_⟩⟩)
 rw[hnew]
 exact⟨.ref _,_,I.f62 (t':=s.toks) (r.rep k.toNat) (by rw[len_rep,Nat.mul_comm];exact hz),rfl,q _ I.fresh⟩
theorem F61:OpR X (binaryOp .Add) (rD2 X.K (Q50 .add)):=by
 intro pins s σ H x y v u Q I rx ry h
 obtain⟨zA,z,dx,dy,w,st,hx,hy,e,q⟩:=h
 cases dx with
 |int i =>
  cases dy with
  |int j =>
   cases e;cases hx.g60;cases hy.g60
   exact O31 pins s σ H _ _ v u Q I rx ry ⟨i,j,rfl,rfl,q _ _ (a10.refl H) g00⟩
  |_=>cases e
 |tup a =>
  cases dy with
  |tup b =>
   obtain⟨hl,e⟩:=f00 e
   cases e
   obtain⟨p,xs,rfl,h1,h2⟩:=hx.u70
   obtain⟨p',ys,rfl,h3,h4⟩:=hy.u70
   exact D91 pins s σ H _ _ v u Q I rx ry ⟨p,p',xs,ys,rfl,rfl,(a30 zA H).sqT h1,(a30 zA H).sqT h3,d80 (by rw[h2.length,h4.length];exact hl),tupQ st (h2.append h4) q⟩
  |_=>cases e
 |lst a =>
  cases dy with
  |lst b =>
   obtain⟨hl,e⟩:=f00 e
   cases e
   obtain⟨p,xs,rfl,h1,h2⟩:=hx.Q80
   obtain⟨p',ys,rfl,h3,h4⟩:=hy.Q80
   exact F41 pins s σ H _ _ v u Q I rx ry ⟨p,p',xs,ys,rfl,rfl,h1.same (a30 zA H),h3.same (a30 zA H),d80 (by rw[h2.length,h4.length];exact hl),λr hr=>q _ _ (a10.new _ hr) (k30 st (h2.append h4) hr)⟩
  |_=>cases e
 |_=>cases e
theorem F71:OpR X (binaryOp .Sub) (rD2 X.K (Q50 .sub)):=by
 intro pins s σ H x y v u Q I rx ry h
 obtain⟨zA,z,dx,dy,w,st,hx,hy,e,q⟩:=h
 cases dx with
 |int i =>
  cases dy with
  |int j =>
   cases e;cases hx.g60;cases hy.g60
   exact O41 pins s σ H _ _ v u Q I rx ry ⟨i,j,rfl,rfl,q _ _ (a10.refl H) g00⟩
  |_=>cases e
 |_=>cases e
theorem F81:OpR X (binaryOp .Mult) (rD2 X.K (Q50 .mul)):=by
 intro pins s σ H x y v u Q I rx ry h
 obtain⟨zA,z,dx,dy,w,st,hx,hy,e,q⟩:=h
 cases dx with
 |int i =>
  cases dy with
  |int j =>
   obtain⟨hl,e⟩:=f00 e
   cases e;cases hx.g60;cases hy.g60
   obtain⟨t,rfl⟩:=rx
   obtain⟨t',rfl⟩:=ry
   exact mul_int ⟨.int (i * j),H,I.tok _,⟨_,rfl⟩,q _ _ (a10.refl H) g00⟩ (S11 hl.1 hl.2)
  |_=>cases e
 |tup a =>
  cases dy with
  |int j =>
   obtain⟨hl,e⟩:=f00 e
   cases e;cases hy.g60
   obtain⟨p,xs,rfl,h1,h2⟩:=hx.u70
   exact E01 pins s σ H _ _ v u Q I rx ry ⟨p,j,xs,rfl,rfl,(a30 zA H).sqT h1,hl.1,hl.2.2,d80 (by rw[h2.length];exact hl.2.1),tupQ st (h2.rep _) q⟩
  |_=>cases e
 |lst a =>
  cases dy with
  |int j =>
   obtain⟨hl,e⟩:=f00 e
   cases e;cases hy.g60
   obtain⟨p,xs,rfl,h1,h2⟩:=hx.Q80
   exact F51 pins s σ H _ _ v u Q I rx ry ⟨p,j,xs,rfl,rfl,h1.same (a30 zA H),by omega,by omega,d80 (by rw[h2.length,Nat.mul_comm];exact hl.2.1),λr hr=>q _ _ (a10.new _ hr) (k30 st (h2.rep _) hr)⟩
  |_=>cases e
 |_=>cases e
theorem u11:OpR X (binaryOp .FloorDiv) (rD2 X.K (Q50 .fdiv)):=by
 intro pins s σ H x y v u Q I rx ry h
 obtain⟨zA,z,dx,dy,w,st,hx,hy,e,q⟩:=h
 cases dx with
 |int i =>
  cases dy with
  |int j =>
   obtain⟨hl,e⟩:=f00 e
   cases e;cases hx.g60;cases hy.g60
   obtain⟨t,rfl⟩:=rx
   obtain⟨t',rfl⟩:=ry
   refine floordiv_int (by omega) ⟨.int (i / j),H,I.tok _,⟨s.toks,?_⟩,q _ _ (a10.refl H) g00⟩ (.inl (f61 hl.2))
   rw[Int.fdiv_eq_ediv_of_nonneg _ (by omega)]
  |_=>cases e
 |_=>cases e
theorem F91:OpR X (binaryOp .Mod) (rD2 X.K (Q50 .mod)):=by
 intro pins s σ H x y v u Q I rx ry h
 obtain⟨zA,z,dx,dy,w,st,hx,hy,e,q⟩:=h
 cases dx with
 |int i =>
  cases dy with
  |int j =>
   obtain⟨hl,e⟩:=f00 e
   cases e;cases hx.g60;cases hy.g60
   exact O51 pins s σ H _ _ v u Q I rx ry ⟨i,j,rfl,rfl,hl,q _ _ (a10.refl H) g00⟩
  |_=>cases e
 |_=>cases e
theorem G01:OpR X (binaryOp .Pow) (rD2 X.K (Q50 .pow)):=by
 intro pins s σ H x y v u Q I rx ry h
 obtain⟨zA,z,dx,dy,w,st,hx,hy,e,q⟩:=h
 cases dx with
 |int i =>
  cases dy with
  |int j =>
   obtain⟨hl,e⟩:=f00 e
   cases e;cases hx.g60;cases hy.g60
   exact O61 pins s σ H _ _ v u Q I rx ry ⟨i,j,rfl,rfl,⟨hl.1,by omega,hl.2.2⟩,q _ _ (a10.refl H) g00⟩
  |_=>cases e
 |_=>cases e
def opB:Bi→Operator
 |.add=>.Add | .sub=>.Sub | .mul=>.Mult | .fdiv=>.FloorDiv | .mod=>.Mod | .pow=>.Pow
theorem opD(o:Bi):OpR X (binaryOp (opB o)) (rD2 X.K (Q50 o)):=by
 cases o
 ·exact F61
 ·exact F71
 ·exact F81
 ·exact u11
 ·exact F91
 ·exact G01
mutual
noncomputable def toP:D→PyData
 |.non=>.none
 |.bl b=>.bool b
 |.int i=>.int i
 |.str x=>.str x
 |.tup l=>.tuple (E20 l)
 |.lst l=>.list (E20 l)
 |.dct=>.none
noncomputable def E20:List D→List PyData
 |[]=>[]
 |x::r=>toP x::E20 r
end
end
end Q
namespace Q
open PySem L2 PySem.Spec PyProof.Rows
variable [TB:Tb]
mutual
theorem H00:∀ a b:D,r00 a=true→r00 b=true→PyData.eqv (toP a) (toP b)=eqD a b
 |.non,b,_,h=>by cases b <;> first | rfl | (simp[r00] at h)
 |.bl _,b,_,h=>by cases b <;> first | rfl | (simp[r00] at h)
 |.int _,b,_,h=>by cases b <;> first | rfl | (simp[r00] at h)
 |.str _,b,_,h=>by cases b <;> first | rfl | (simp[r00] at h)
 |.tup l,b,ha,h=>by
  cases b with
  |tup q =>
   exact L90 l q (by simpa [r00] using ha) (by simpa [r00] using h)
  |dct=>simp[r00] at h
  |_=>rfl
 |.lst l,b,ha,h=>by
  cases b with
  |lst q =>
   exact L90 l q (by simpa [r00] using ha) (by simpa [r00] using h)
  |dct=>simp[r00] at h
  |_=>rfl
 |.dct,_,h,_=>by simp[r00] at h
theorem L90:∀ a b:List D,g50 a=true→g50 b=true→PyData.eqvAll (E20 a) (E20 b)=R51 a b
 |[],[],_,_=>rfl
 |[],_::_,_,_=>rfl
 |_::_,[],_,_=>rfl
 |x::r,y::q,ha,hb=>by
  simp only[g50,and_eq_true] at ha hb
  simp only[E20,PyData.eqvAll,R51]
  rw[H00 x y ha.1 hb.1,L90 r q ha.2 hb.2]
end
mutual
theorem x60:∀ a:D,r00 a=true→(toP a).canLay0=true
 |.non,_=>rfl
 |.bl _,_=>rfl
 |.int _,_=>rfl
 |.str _,h=>h
 |.tup l,h=>u80 l h
 |.lst l,h=>u80 l h
 |.dct,h=>by cases h
theorem u80:∀ a:List D,g50 a=true→PyData.canLayAll0 (E20 a)=true
 |[],_=>rfl
 |x::r,h=>by
  simp only[g50,and_eq_true] at h
  simp only[E20,PyData.canLayAll0,x60 x h.1,u80 r h.2,Bool.and_self]
end
mutual
theorem B60:∀ a:D,(toP a).depth=deep a
 |.non=>rfl
 |.bl _=>rfl
 |.int _=>rfl
 |.str _=>rfl
 |.tup l=>congrArg (· + 1) (B70 l)
 |.lst l=>congrArg (· + 1) (B70 l)
 |.dct=>rfl
theorem B70:∀ a:List D,PyData.depthAll (E20 a)=i10 a
 |[]=>rfl
 |x::r=>by
  simp only[E20,PyData.depthAll,i10]
  rw[B60 x,B70 r]
end
def X30(h:Heap)(u:Value)(d:D):Prop:=r00 d=true∧∃ as,Reads h u (toP d) as
def d90(h:Heap)(us:List Value)(ds:List D):Prop:=g50 ds=true∧∃ as,ReadsAll h us (E20 ds) as
section
variable {X:Cx}{pins:List (Addr × Obj)}{σ:L2.St}{H:Hp}{s:Shared}
mutual
theorem k40(I:Inv X pins σ H s):∀ {d:D}{v:V}{u:Value},Hd X.K H d v→RelV v u→r00 d=true→∃ as,Reads s.heap u (toP d) as
 |.non,_,_,h,r,_=>by cases h.c42;cases r;exact⟨_,.none⟩
 |.bl b,_,_,h,r,_=>by cases h.bl_;cases r;exact⟨_,.bool b⟩
 |.int i,_,_,h,r,_=>by cases h.g60;obtain⟨t,rfl⟩:=r;exact⟨_,.int i t⟩
 |.str x,_,_,h,r,_=>by cases h.g62;obtain⟨t,rfl⟩:=r;exact⟨_,.str x t⟩
 |.tup l,_,_,h,r,f=>by
  obtain⟨a,xs,rfl,h1,h2⟩:=h.u70
  cases r
  obtain⟨its,rv,⟨o,e1,e2,n,e3⟩,_⟩:=I.tuple h1
  obtain⟨as,ra⟩:=B80 I h2 rv f
  exact⟨_,.tuple e1 e2 e3 (by simpa using ra)⟩
 |.lst l,_,_,h,r,f=>by
  obtain⟨a,xs,rfl,h1,h2⟩:=h.Q80
  cases r
  obtain⟨its,rv,⟨o,n,e1,e2,_,e3⟩,_⟩:=I.list h1.sq
  obtain⟨as,ra⟩:=B80 I h2 rv f
  exact⟨_,.list e1 e2 e3 (by simpa using ra)⟩
 |.dct,_,_,_,_,f=>by cases f
theorem B80(I:Inv X pins σ H s):∀ {ds:List D}{vs:List V}{us:List Value},HdA X.K H ds vs→Vals vs us→g50 ds=true→∃ as,ReadsAll s.heap us (E20 ds) as
 |[],_,_,h,r,_=>by cases h.e10;cases r;exact⟨_,.nil⟩
 |d::ds,_,_,h,r,f=>by
  obtain⟨x,xs,rfl,h1,h2⟩:=h.b70
  cases r with
  |cons r1 r2 =>
   simp only[g50,and_eq_true] at f
   obtain⟨_,a1⟩:=k40 I h1 r1 f.1
   obtain⟨_,a2⟩:=B80 I h2 r2 f.2
   exact⟨_,.cons a1 a2⟩
end
end
theorem o30(h:okD d=true):r00 d=true∧SeqAt.shaped (toP d)=true:=by
 unfold okD at h
 rw[and_eq_true,decide_eq_true_eq] at h
 refine⟨h.1,?_⟩
 unfold SeqAt.shaped
 rw[x60 d h.1,B60,Bool.true_and,decide_eq_true_eq]
 omega
section
variable {X:Cx}
theorem S21(h:eqE a b=some c):∃ l,a=.tup l∧b=.tup []∧c=l.isEmpty:=by
 unfold eqE at h
 split at h
 ·cases h;exact⟨_,rfl,rfl,rfl⟩
 ·cases h
theorem S31(hu:X.A.units + 64 < cLine):OpR X (compareOp .Eq) (rD2 X.K λa b=>(eqQ a b).map λc=>.d (.bl c)):=by
 intro pins s σ H x y v u Q I rx ry h
 obtain⟨zA,z,dx,dy,w,st,hx,hy,e,q⟩:=h
 unfold eqQ at e
 dsimp only at e
 split at e
 ·rename_i ok
  cases e
  rw[and_eq_true] at ok
  obtain⟨f1,s1⟩:=o30 ok.1
  obtain⟨f2,s2⟩:=o30 ok.2
  obtain⟨as,r1⟩:=k40 I (hx.same (a30 zA H)) rx f1
  obtain⟨bs,r2⟩:=k40 I (hy.same (a30 zA H)) ry f2
  exact eq_dataH r1 r2 s1 s2 hu ⟨.bl _,H,I,rfl,by rw[H00 dx dy f1 f2];exact q _ _ (a10.refl H) g70⟩
 ·obtain⟨c,h1,h2⟩:=Option.map_eq_some_iff.mp e
  obtain⟨l,rfl,rfl,rfl⟩:=S21 h1
  subst h2
  obtain⟨a,xs,rfl,k1,k2⟩:=hx.u70
  obtain⟨b,ys,rfl,k3,k4⟩:=hy.u70
  cases k4.e10
  cases rx;cases ry
  obtain⟨its,rv,ht,_⟩:=I.tuple ((a30 zA H).sqT k1)
  obtain⟨iu,ru,hu2,_⟩:=I.tuple ((a30 zA H).sqT k3)
  cases ru
  have e1:its.length=l.length:=by rw[← rv.length,k2.length]
  refine SeqAt.eq_tupleAt (e:=λ_=>true) ht hu2 (by omega) (λj _ h2=>absurd h2 (not_lt_zero j)) ⟨.bl _,H,I,rfl,?_⟩
  have e2:((range (min its.toArray.size ([]:List Value).toArray.size)).all (λ_=>true)&&its.toArray.size == ([]:List Value).toArray.size)=l.isEmpty:=by
   simp only[size_toArray,length_nil,Nat.min_zero,List.range_zero,all_nil,Bool.true_and,e1]
   cases l <;> rfl
  rw[e2]
  exact q _ _ (a10.refl H) g70
theorem S41(hu:X.A.units + 64 < cLine):OpR X (compareOp .NotEq) (rD2 X.K λa b=>(eqO a b).map λc=>.d (.bl !c)):=by
 intro pins s σ H x y v u Q I rx ry h
 obtain⟨zA,z,dx,dy,w,st,hx,hy,e,q⟩:=h
 unfold eqO at e
 dsimp only at e
 split at e
 ·rename_i ok
  cases e
  rw[and_eq_true] at ok
  obtain⟨f1,s1⟩:=o30 ok.1
  obtain⟨f2,s2⟩:=o30 ok.2
  obtain⟨as,r1⟩:=k40 I (hx.same (a30 zA H)) rx f1
  obtain⟨bs,r2⟩:=k40 I (hy.same (a30 zA H)) ry f2
  exact ne_dataH r1 r2 s1 s2 hu ⟨.bl _,H,I,rfl,by rw[H00 dx dy f1 f2];exact q _ _ (a10.refl H) g70⟩
 ·cases e
theorem G11(hu:X.A.units + 64 < cLine):OpR X (compareOp .NotEq) (rD2 X.K λa b=>(neO a b).map λc=>.d (.bl c)):=by
 intro pins s σ H x y v u Q I rx ry h
 obtain⟨zA,z,dx,dy,w,st,hx,hy,e,q⟩:=h
 unfold neO at e
 dsimp only at e
 split at e
 ·cases e
  unfold Hd at hx
  obtain⟨a,kvs,rfl,h1⟩:=hx
  obtain⟨b,xs,rfl,h2,_⟩:=hy.u70
  exact E41 hu pins s σ H _ _ v u Q I rx ry ⟨a,b,kvs,xs,rfl,rfl,(j60 h1).1,(a30 zA H).sqT h2,q _ _ (a10.refl H) g70⟩
 ·refine S41 hu pins s σ H _ _ v u Q I rx ry ⟨zA,z,dx,dy,w,st,hx,hy,?_,q⟩
  rw[← e,Option.map_map]
  rfl
end
theorem f71(h:c12 l=true):g50 l=true∧i10 l≤39:=by
 unfold c12 at h
 rw[and_eq_true,decide_eq_true_eq] at h
 exact h
theorem B90(h:okD d=true):deep d≤40:=by
 unfold okD at h
 rw[and_eq_true,decide_eq_true_eq] at h
 exact h.2
theorem M00(x:D)(fx:r00 x=true):∀ l:List D,g50 l=true→((E20 l).any λy=>PyData.eqv y (toP x))=memD x l
 |[],_=>rfl
 |y::r,h=>by
  simp only[g50,and_eq_true] at h
  show(PyData.eqv (toP y) (toP x) || (E20 r).any λy=>PyData.eqv y (toP x))=(eqD y x || memD x r)
  rw[H00 y x h.1 fx,M00 x fx r h.2]
section
variable {X:Cx}
theorem f81(h:c22 x l=some b):okD x=true∧c12 l=true∧b=memD x l:=by
 unfold c22 at h
 split at h
 ·rename_i ok
  rw[and_eq_true] at ok
  cases h
  exact⟨ok.1,ok.2,rfl⟩
 ·cases h
theorem room_in{A:Around}(hu:A.units + 64 < cLine){l:List D}{x:D}(h:okD x=true):A.units + 1 + min (PyData.depthAll (E20 l)) (toP x).depth < cLine:=by
 have h1:=B90 h
 have h2:min (PyData.depthAll (E20 l)) (toP x).depth≤(toP x).depth:=Nat.min_le_right _ _
 have h3:=B60 x
 omega
theorem G21(hu:X.A.units + 64 < cLine):OpR X (compareOp .In) (rD2 X.K λa b=>(p90 .mem a b).map λc=>.d (.bl c)):=by
 intro pins s σ H x y v u Q I rx ry h
 obtain⟨zA,z,dx,dy,w,st,hx,hy,e,q⟩:=h
 cases dy with
 |tup l =>
  obtain⟨b,e1,e2⟩:=Option.map_eq_some_iff.mp e
  subst e2
  obtain⟨o1,o2,rfl⟩:=f81 e1
  obtain⟨f2,_⟩:=f71 o2
  obtain⟨f1,_⟩:=o30 o1
  obtain⟨as,r1⟩:=k40 I (hx.same (a30 zA H)) rx f1
  obtain⟨bs,r2⟩:=k40 I (hy.same (a30 zA H)) ry (by simpa [r00] using f2)
  exact SeqAt.in_tuple_reads r2 r1 (u80 l f2) (x60 dx f1) (room_in hu o1) ⟨.bl _,H,I,rfl,by rw[M00 dx f1 l f2];exact q _ _ (a10.refl H) g70⟩
 |lst l =>
  obtain⟨b,e1,e2⟩:=Option.map_eq_some_iff.mp e
  subst e2
  obtain⟨o1,o2,rfl⟩:=f81 e1
  obtain⟨f2,_⟩:=f71 o2
  obtain⟨f1,_⟩:=o30 o1
  obtain⟨as,r1⟩:=k40 I (hx.same (a30 zA H)) rx f1
  obtain⟨bs,r2⟩:=k40 I (hy.same (a30 zA H)) ry (by simpa [r00] using f2)
  exact SeqAt.in_list_reads r2 r1 (u80 l f2) (x60 dx f1) (room_in hu o1) ⟨.bl _,H,I,rfl,by rw[M00 dx f1 l f2];exact q _ _ (a10.refl H) g70⟩
 |_=>cases e
end
end Q
namespace Q
open PySem L2 PySem.Spec PyProof.Rows
variable [TB:Tb]
def g92(A:Around)(s:Shared)(v u:Value)(b:Bool):Prop:=∀ (P:Program) (w:World) (E:Value→Shared→Prop) (Q:Value→Shared→Prop),Q (.bool b) s→wpAny (model P w) A (richCompare .Lt v u) Q E s
section
open PySem.SeqAt
open PySem.AutoSeq1 (wpAny_loadPart')
open PySem.MeetsSeq PySem.MeetsSeq2 PySem.MeetsSeq3
inductive Lx (A:Around) (s:Shared):List Value→List Value→Bool→Prop
 |nn:Lx A s [] [] false
 |nc {u us}:Lx A s [] (u::us) true
 |cn {v vs}:Lx A s (v::vs) [] false
 |eq {v u vs us b}:EqAt A s v u true→Lx A s vs us b→Lx A s (v::vs) (u::us) b
 |ne {v u vs us b}:EqAt A s v u false→g92 A s v u b→Lx A s (v::vs) (u::us) b
theorem M10(l b:Addr)(items items2:Array Value)(n n2:Nat)(dd dd2:Option Addr)(sl sl2:Array (Option Value))(c:Bool) :
  Meets (Builtin.«tuple.__lt__» ⟨[.ref l,.ref b],[]⟩)
   (λA R s=>s.heap.get? l=some { cls:=.type "tuple",dict:=dd,data:=.seq items n,slots:=sl }∧s.heap.get? b=some { cls:=.type "tuple",dict:=dd2,data:=.seq items2 n2,slots:=sl2 } ∧
    Lx A.in1 s items.toList items2.toList c∧R (.ok (.ret (.bool c))) s) :=
 .of_wp λprog w A R s h=>by
  obtain⟨hp,g,d,tk,os⟩:=s;obtain⟨hl,hb,hx,h⟩:=h
  have f2:=AutoSeq1.sub_tuple_tuple
  wp_walk using wpAny_loadPart' hl,wpAny_loadPart' hb,wpAny_forIn_list _ (λrest b s'=>b.1=none∧s'=⟨hp,g,d,tk,os⟩∧∃ (vs ws:List Value),rest=vs.zip ws ∧
   vs.length + items2.size=ws.length + items.size∧Lx A.in1 ⟨hp,g,d,tk,os⟩ vs ws c) _
  case turn =>
   rintro ⟨y,x⟩ rest b s' ⟨hb',rfl,vs,ws,hz,hlen,hR⟩
   cases hR with
   |nn=>rw[List.zip_nil_left] at hz;cases hz
   |nc=>rw[List.zip_nil_left] at hz;cases hz
   |cn=>rw[List.zip_nil_right] at hz;cases hz
   |eq he hr =>
    rw[zip_cons_cons] at hz
    injection hz with hyx hrest
    injection hyx with hy hx'
    subst hy hx'
    simp only[length_cons] at hlen
    refine wpAny_bind (he prog w _ _ ?_)
    wp_walk
    exact⟨rfl,rfl,_,_,hrest,by omega,hr⟩
   |ne he hr =>
    rw[zip_cons_cons] at hz
    injection hz with hyx hrest
    injection hyx with hy hx'
    subst hy hx'
    refine wpAny_bind (he prog w _ _ ?_)
    have hri:=λE Q q=>hr prog w E Q q
    wp_walk using hri
    exact⟨_,rfl,by simpa using h⟩
  case fin =>
   rintro ⟨b1,b2⟩ s' ⟨hb',rfl,vs,ws,hz,hlen,hR⟩
   simp only at hb'
   subst hb'
   have hv:c=decide (items.size < items2.size):=by
    cases hR with
    |nn=>simp only[length_nil] at hlen;exact(decide_eq_false (by omega)).symm
    |nc=>simp only[length_nil,length_cons] at hlen;exact(decide_eq_true (by omega)).symm
    |cn=>simp only[length_nil,length_cons] at hlen;exact(decide_eq_false (by omega)).symm
    |eq he hr=>rw[zip_cons_cons] at hz;cases hz
    |ne he hr=>rw[zip_cons_cons] at hz;cases hz
   rw[hv] at h
   wp_walk
   exact⟨_,rfl,by simpa [tupleCompareSizes] using h⟩
  case h =>
   exact⟨rfl,rfl,items.toList,items2.toList,rfl,by simp;omega,hx⟩
end
theorem f91(hl:IsTup s.heap l i1)(hb:IsTup s.heap b i2)(hu:A.units < cLine)(hx:Lx A.in1 s i1.toList i2.toList c):g92 A s (.ref l) (.ref b) c:=by
 intro P w E Q h
 obtain⟨⟨cls,dd,data,sl⟩,ho,hc,n,hd⟩:=id hl;obtain⟨⟨cls2,dd2,data2,sl2⟩,ho2,hc2,n2,hd2⟩:=id hb
 simp only at hc hd hc2 hd2;subst hc hd hc2 hd2
 exact richCompare_meets_room (op:=.Lt) ⟨_,ho,rfl⟩ ⟨_,ho2,rfl⟩ PySem.F.slot_tuple_lt PySem.F.entry_tuple_lt (PySem.F.args_tuple_lt_2 _ _) (M10 l b i1 i2 n n2 dd dd2 sl sl2 c)
  ⟨ho,ho2,hx,show Value.bool c≠Value.notImplemented∧Q (.bool c) s from⟨(λx=>nomatch x),h⟩⟩ hu
theorem S51(ha:X30 s.heap v a)(hb:X30 s.heap u b)(hu:A.units + deep a < cLine):SeqAt.EqAt A s v u (eqD a b):=by
 obtain⟨f1,as,r1⟩:=ha
 obtain⟨f2,bs,r2⟩:=hb
 rw[← H00 a b f1 f2]
 have h:=B60 a
 have h2:min (toP a).depth (toP b).depth≤(toP a).depth:=Nat.min_le_left _ _
 exact SeqAt.eqAt_reads (toP a) (toP b) A s v u as bs r1 r2 (x60 a f1) (x60 b f2) (by omega)
theorem d90.b70(x:d90 h us (d::ds)):∃ u r,us=u::r∧X30 h u d∧d90 h r ds:=by
 obtain⟨f,as,r⟩:=x
 simp only[g50,and_eq_true] at f
 cases r with
 |cons r1 r2=>exact⟨_,_,rfl,⟨f.1,_,r1⟩,f.2,_,r2⟩
theorem d90.e10(x:d90 h us []):us=[]:=by
 obtain⟨_,as,r⟩:=x
 cases r;rfl
theorem in1_units(A:Around):A.in1.units=A.units + 1:=rfl
theorem S61:∀ (n:Nat) {A:Around}{s:Shared},
  (∀ (a b:D) (v u:Value) (c:Bool),deep a≤n→X30 s.heap v a→X30 s.heap u b→ltD a b=some c→A.units + n < cLine→g92 A s v u c) ∧
  (∀ (a b:List D) (vs us:List Value) (c:Bool),i10 a < n→d90 s.heap vs a→d90 s.heap us b→F01 a b=some c→A.units + n < cLine→Lx A.in1 s vs us c):=by
 intro n
 induction n with
 |zero =>
  intro A s
  refine⟨λa b v u c hd ha hb e hu=>?_,λa b vs us c hd=>absurd hd (not_lt_zero _)⟩
  cases a with
  |int i =>
   cases b with
   |int j =>
    cases e
    obtain⟨_,_,r1⟩:=ha
    obtain⟨_,_,r2⟩:=hb
    cases r1;cases r2
    exact λP w E Q h=>HT.P90 A s i _ j _ P w E Q h
   |_=>cases e
  |tup l=>simp[deep] at hd
  |_=>cases e
 |succ n ih =>
  have rows:∀ {A:Around}{s:Shared} (a b:List D) (vs us:List Value) (c:Bool),i10 a < n + 1→d90 s.heap vs a→d90 s.heap us b→F01 a b=some c→A.units + (n + 1) < cLine→Lx A.in1 s vs us c:=by
   intro A s a
   induction a with
   |nil =>
    intro b vs us c _ ha hb e hu
    cases ha.e10
    cases b with
    |nil=>cases hb.e10;cases e;exact .nn
    |cons y q=>obtain⟨u,r,rfl,_⟩:=hb.b70;cases e;exact .nc
   |cons x r ihr =>
    intro b vs us c hd ha hb e hu
    obtain⟨v,vs',rfl,a1,a2⟩:=ha.b70
    cases b with
    |nil=>cases hb.e10;cases e;exact .cn
    |cons y q =>
     obtain⟨u,us',rfl,b1,b2⟩:=hb.b70
     simp only[i10] at hd
     have d1:deep x≤n:=Nat.le_of_lt_succ (Nat.lt_of_le_of_lt (Nat.le_max_left _ _) hd)
     have d2:i10 r < n + 1:=Nat.lt_of_le_of_lt (Nat.le_max_right _ _) hd
     have hu1:A.in1.units + n < cLine:=by rw[in1_units];omega
     have he:=S51 (A:=A.in1) a1 b1 (by omega)
     simp only[F01] at e
     cases hq:eqD x y with
     |true =>
      rw[hq] at he e
      exact .eq he (ihr q vs' us' c d2 a2 b2 (by simpa using e) hu)
     |false =>
      rw[hq] at he e
      exact .ne he ((ih (A:=A.in1) (s:=s)).1 x y v u c d1 a1 b1 (by simpa using e) hu1)
  intro A s
  refine⟨λa b v u c hd ha hb e hu=>?_,rows⟩
  cases a with
  |int i =>
   cases b with
   |int j =>
    cases e
    obtain⟨_,_,r1⟩:=ha
    obtain⟨_,_,r2⟩:=hb
    cases r1;cases r2
    exact λP w E Q h=>HT.P90 A s i _ j _ P w E Q h
   |_=>cases e
  |tup l =>
   cases b with
   |tup q =>
    obtain⟨f1,as,r1⟩:=ha
    obtain⟨f2,bs,r2⟩:=hb
    simp only[deep] at hd
    cases r1 with
    |tuple k1 k2 k3 k4 =>
     cases r2 with
     |tuple m1 m2 m3 m4 =>
      exact f91 ⟨_,k1,k2,_,k3⟩ ⟨_,m1,m2,_,m3⟩ (by omega) (rows l q _ _ c (by omega) ⟨by simpa [r00] using f1,_,k4⟩ ⟨by simpa [r00] using f2,_,m4⟩ e hu)
   |_=>cases e
  |_=>cases e
section
variable {X:Cx}
theorem S71(h:ltO a b=some c):okD a=true∧okD b=true∧ltD a b=some c:=by
 unfold ltO at h
 split at h
 ·rename_i ok
  rw[and_eq_true] at ok
  exact⟨ok.1,ok.2,h⟩
 ·cases h
theorem S81(hu:X.A.units + 64 < cLine):OpR X (compareOp .Lt) (rD2 X.K λa b=>(p90 .lt a b).map λc=>.d (.bl c)):=by
 intro pins s σ H x y v u Q I rx ry h
 obtain⟨zA,z,dx,dy,w,st,hx,hy,e,q⟩:=h
 obtain⟨b,e1,e2⟩:=Option.map_eq_some_iff.mp e
 subst e2
 obtain⟨o1,o2,e3⟩:=S71 (show ltO dx dy=some b from e1)
 obtain⟨f1,_⟩:=o30 o1
 obtain⟨f2,_⟩:=o30 o2
 obtain⟨as,r1⟩:=k40 I (hx.same (a30 zA H)) rx f1
 obtain⟨bs,r2⟩:=k40 I (hy.same (a30 zA H)) ry f2
 exact(S61 40 (A:=X.A) (s:=s)).1 dx dy v u b (B90 o1) ⟨f1,as,r1⟩ ⟨f2,bs,r2⟩ e3 (by omega) _ _ _ _ ⟨.bl b,H,I,rfl,q _ _ (a10.refl H) g70⟩
theorem M20{K:PySem.W.Frag}{H:Hp}:∀ {l:List D}{ns:List Int}{vs:List V},L40 l=some ns→HdA K H l vs→vs=ns.map V.int∧l=ns.map D.int
 |[],_,_,e,h=>by cases e;rw[h.e10];exact⟨rfl,rfl⟩
 |.int i::r,_,_,e,h=>by
  obtain⟨ms,e1,rfl⟩:=Option.map_eq_some_iff.mp e
  obtain⟨x,xs,rfl,h1,h2⟩:=h.b70
  cases h1.g60
  obtain⟨rfl,rfl⟩:=M20 e1 h2
  exact⟨rfl,rfl⟩
 |.non::_,_,_,e,_=>by cases e
 |.bl _::_,_,_,e,_=>by cases e
 |.str _::_,_,_,e,_=>by cases e
 |.tup _::_,_,_,e,_=>by cases e
 |.lst _::_,_,_,e,_=>by cases e
 |.dct::_,_,_,e,_=>by cases e
theorem S91(hu:X.A.units + 64 < cLine):OpR X (compareOp .LtE) (rD2 X.K λa b=>(p90 .le a b).map λc=>.d (.bl c)):=by
 intro pins s σ H x y v u Q I rx ry h
 obtain⟨zA,z,dx,dy,w,st,hx,hy,e,q⟩:=h
 cases dx with
 |int i =>
  cases dy with
  |int j =>
   cases e;cases hx.g60;cases hy.g60
   exact e82 pins s σ H _ _ v u Q I rx ry ⟨i,j,rfl,rfl,q _ _ (a10.refl H) g70⟩
  |_=>cases e
 |tup a =>
  cases dy with
  |tup b =>
   obtain⟨c,e1,e2⟩:=Option.map_eq_some_iff.mp e
   subst e2
   obtain⟨ns,n1,e1⟩:=Option.bind_eq_some_iff.mp (show(L40 a).bind _=_ from e1)
   obtain⟨ms,n2,rfl⟩:=Option.map_eq_some_iff.mp e1
   obtain⟨p,xs,rfl,h1,h2⟩:=hx.u70
   obtain⟨p',ys,rfl,h3,h4⟩:=hy.u70
   obtain⟨rfl,_⟩:=M20 n1 h2
   obtain⟨rfl,_⟩:=M20 n2 h4
   exact Q01 (by omega) pins s σ H _ _ v u Q I rx ry ⟨p,p',ns,ms,rfl,rfl,(a30 zA H).sqT h1,(a30 zA H).sqT h3,q _ _ (a10.refl H) g70⟩
  |_=>cases e
 |_=>cases e
theorem T01:OpR X (compareOp .Gt) (rD2 X.K λa b=>(p90 .gt a b).map λc=>.d (.bl c)):=by
 intro pins s σ H x y v u Q I rx ry h
 obtain⟨zA,z,dx,dy,w,st,hx,hy,e,q⟩:=h
 cases dx with
 |int i =>
  cases dy with
  |int j =>
   cases e;cases hx.g60;cases hy.g60
   exact e92 pins s σ H _ _ v u Q I rx ry ⟨i,j,rfl,rfl,q _ _ (a10.refl H) g70⟩
  |_=>cases e
 |_=>cases e
theorem T11:OpR X (compareOp .GtE) (rD2 X.K λa b=>(p90 .ge a b).map λc=>.d (.bl c)):=by
 intro pins s σ H x y v u Q I rx ry h
 obtain⟨zA,z,dx,dy,w,st,hx,hy,e,q⟩:=h
 cases dx with
 |int i =>
  cases dy with
  |int j =>
   cases e;cases hx.g60;cases hy.g60
   exact f02 pins s σ H _ _ v u Q I rx ry ⟨i,j,rfl,rfl,q _ _ (a10.refl H) g70⟩
  |_=>cases e
 |_=>cases e
theorem u21{K:PySem.W.Frag}{H:Hp}{d:D}{v:V}(h:Hd K H d v):decide (v=.non)=e91 d:=by
 cases d with
 |non=>cases h.c42;rfl
 |bl b=>cases h.bl_;rfl
 |int i=>cases h.g60;rfl
 |str x=>cases h.g62;rfl
 |tup l=>obtain⟨a,xs,rfl,_⟩:=h.u70;rfl
 |lst l=>obtain⟨a,xs,rfl,_⟩:=h.Q80;rfl
 |dct=>unfold Hd at h;obtain⟨a,kvs,rfl,_⟩:=h;rfl
theorem T21:OpR X (compareOp .Is) (rD2 X.K λa b=>(p90 .is a b).map λc=>.d (.bl c)):=by
 intro pins s σ H x y v u Q I rx ry h
 obtain⟨zA,z,dx,dy,w,st,hx,hy,e,q⟩:=h
 cases dy with
 |bl b =>
  cases dx with
  |bl a =>
   cases e;cases hx.bl_;cases hy.bl_
   exact Q11 pins s σ H _ _ v u Q I rx ry ⟨a,b,rfl,rfl,q _ _ (a10.refl H) g70⟩
  |_=>cases e
 |non =>
  have e':some (S.d (.bl (e91 dx)))=some w:=by cases dx <;> exact e
  cases e'
  cases hy.c42
  refine O81 pins s σ H _ _ v u Q I rx ry ⟨rfl,?_⟩
  rw[u21 hx]
  exact q _ _ (a10.refl H) g70
 |_=>cases dx <;> cases e
def opC:Cm→CmpOp
 |.eq=>.Eq | .ne=>.NotEq | .lt=>.Lt | .le=>.LtE | .gt=>.Gt | .ge=>.GtE | .is=>.Is | .mem=>.In
theorem G31(hu:X.A.units + 64 < cLine)(o:Cm):OpR X (compareOp (opC o)) (rD2 X.K λa b=>(p90 o a b).map λc=>.d (.bl c)):=by
 cases o
 ·exact S31 hu
 ·exact G11 hu
 ·exact S81 hu
 ·exact S91 hu
 ·exact T01
 ·exact T11
 ·exact T21
 ·exact G21 hu
theorem HdA.one{K:PySem.W.Frag}{H:Hp}{d:D}{xs:List V}(h:HdA K H [d] xs):∃ x,xs=[x]∧Hd K H d x:=by
 obtain⟨x,r,rfl,h1,h2⟩:=h.b70
 rw[h2.e10]
 exact⟨x,rfl,h1⟩
theorem HdA.two{K:PySem.W.Frag}{H:Hp}{d e:D}{xs:List V}(h:HdA K H [d,e] xs):∃ x y,xs=[x,y]∧Hd K H d x∧Hd K H e y:=by
 obtain⟨x,r,rfl,h1,h2⟩:=h.b70
 obtain⟨y,rfl,h3⟩:=h2.one
 exact⟨x,y,rfl,h1,h3⟩
theorem R10{K:PySem.W.Frag}{zA:Option Addr}{H:Hp}{d:D}{l:List D}{v:V}(h:Hd K (hz zA H) d v)(e:Z00 d=some l):∃ a xs,v=.ref a∧(SqL K H a xs∨SqT K H a xs)∧HdA K (hz zA H) l xs:=by
 cases d with
 |tup m =>
  cases e
  obtain⟨a,xs,rfl,h1,h2⟩:=h.u70
  exact⟨a,xs,rfl,.inr ((a30 zA H).sqT h1),h2⟩
 |lst m =>
  cases e
  obtain⟨a,xs,rfl,h1,h2⟩:=h.Q80
  exact⟨a,xs,rfl,.inl (h1.same (a30 zA H)).sq,h2⟩
 |_=>cases e
theorem T31:e40 X (.builtin "len") (rDn X.K (bfD .len)):=by
 intro pins s σ H xs us Q I r h
 obtain⟨zA,z,ds,w,st,hx,e,q⟩:=h
 match ds,e with
 |[d],e =>
  obtain⟨l,e1,rfl⟩:=Option.map_eq_some_iff.mp (show(Z00 d).map _=some w from e)
  obtain⟨x,rfl,h1⟩:=hx.one
  obtain⟨a,ys,rfl,h2,h3⟩:=R10 h1 e1
  exact F30 pins s σ H _ us Q I r ⟨a,ys,rfl,h2,by rw[h3.length];exact q _ _ (a10.refl H) g00⟩
theorem u31:e40 X (.type "tuple") (rDn X.K (bfD .tuple)):=by
 intro pins s σ H xs us Q I r h
 obtain⟨zA,z,ds,w,st,hx,e,q⟩:=h
 match ds,e with
 |[d],e =>
  obtain⟨l,e1,rfl⟩:=Option.map_eq_some_iff.mp (show(Z00 d).map _=some w from e)
  obtain⟨x,rfl,h1⟩:=hx.one
  obtain⟨a,ys,rfl,h2,h3⟩:=R10 h1 e1
  refine A00 pins s σ H _ us Q I r ⟨a,ys,rfl,?_⟩
  rcases h2 with h2 | h2
  ·refine .inl ⟨h2,λp hp=>q _ _ (a10.new _ hp) (p21 (Hd.tup ((st.same (a10.new _ hp)).F31 (SqT.of a80)) (h3.same (h50 (a10.new _ hp)))))⟩
  ·exact .inr ⟨h2,q _ _ (a10.refl H) (p21 (Hd.tup (st.F31 h2) h3))⟩
theorem G41:e40 X (.type "list") (rDn X.K (bfD .list)):=by
 intro pins s σ H xs us Q I r h
 obtain⟨zA,z,ds,w,st,hx,e,q⟩:=h
 match ds,e with
 |[d],e =>
  obtain⟨l,e1,rfl⟩:=Option.map_eq_some_iff.mp (show(Z00 d).map _=some w from e)
  obtain⟨x,rfl,h1⟩:=hx.one
  obtain⟨a,ys,rfl,h2,h3⟩:=R10 h1 e1
  exact F40 pins s σ H _ us Q I r ⟨a,ys,rfl,h2,λp hp=>q _ _ (a10.new _ hp) (k30 st h3 hp)⟩
theorem z21{K:PySem.W.Frag}{H:Hp}:∀ {l:List D}{bs:List Bool}{vs:List V},l.mapM asB=some bs→HdA K H l vs→vs=bs.map V.bl
 |[],_,_,e,h=>by simp at e;subst e;rw[h.e10];rfl
 |x::r,_,_,e,h=>by
  simp only[List.mapM_cons,bind,Option.bind_eq_some_iff] at e
  obtain⟨b,e1,bs,e2,e3⟩:=e
  cases e3
  obtain⟨y,ys,rfl,h1,h2⟩:=h.b70
  cases x with
  |bl c=>cases e1;cases h1.bl_;rw[z21 e2 h2];rfl
  |_=>cases e1
theorem T41(hc:X.calm=true):e40 X (.builtin "all") (rDn X.K (bfD .all)):=by
 intro pins s σ H xs us Q I r h
 obtain⟨zA,z,ds,w,st,hx,e,q⟩:=h
 match ds,e with
 |[.lst l],e =>
  obtain⟨bs,e1,rfl⟩:=Option.map_eq_some_iff.mp (show(l.mapM asB).map _=some w from e)
  obtain⟨x,rfl,h1⟩:=hx.one
  obtain⟨a,ys,rfl,h2,h3⟩:=h1.Q80
  rw[z21 e1 h3] at h2
  exact r71 hc pins s σ H _ us Q I r ⟨a,bs,rfl,(h2.same (a30 zA H)).sq,q _ _ (a10.refl H) g70⟩
theorem R20:∀ {ns:List Int}{vs:List Value},Vals (ns.map V.int) vs→∃ xs:List (Int × Tok),vs=xs.map (λp=>.int p.1 p.2)∧xs.map (·.1)=ns
 |[],_,h=>by cases h;exact⟨[],rfl,rfl⟩
 |n::r,_,h=>by
  cases h with
  |cons h1 h2 =>
   obtain⟨t,rfl⟩:=h1
   obtain⟨xs,rfl,e⟩:=R20 h2
   exact⟨(n,t)::xs,rfl,by rw[map_cons,e]⟩
theorem u41(hc:X.calm=true):e40 X (.builtin "sum") (λxs H Q=>∃ (a:Addr) (ns:List Int),xs=[.ref a]∧(SqL X.K H a (ns.map V.int)∨SqT X.K H a (ns.map V.int))∧Q (.int ns.sum) H):=by
 intro pins s σ H xs us Q I r h
 obtain⟨a,ns,rfl,hq,q⟩:=h
 obtain⟨u,rfl,rx⟩:=vals1 r
 cases rx
 have fin:∀ {its:List Value},Vals (ns.map V.int) its→∃ xs:Array (Int × Tok),its.toArray=intItems xs∧preSum (numAt xs) xs.size=ns.sum:=λ{its} rv=>by
  obtain⟨xs,rfl,e⟩:=R20 rv
  exact⟨xs.toArray,by simp[intItems],by rw[preSum_eq,List.take_of_length_le (by simp)];simp[e]⟩
 rcases hq with hq | hq
 ·obtain⟨its,rv,p,_⟩:=I.list hq
  obtain⟨xs,e1,e2⟩:=fin rv
  exact sum_intListG (I.ok.hd hc) (e1 ▸ p.isList) λh' tk t' k=>⟨.int ns.sum,H,I.kept k,by rw[e2];exact⟨_,rfl⟩,q⟩
 ·obtain⟨its,rv,p,_⟩:=I.tuple hq
  obtain⟨xs,e1,e2⟩:=fin rv
  exact W.ktm_sumG (I.ok.hd hc) (e1 ▸ p) λh' tk t' k=>⟨.int ns.sum,H,I.kept k,by rw[e2];exact⟨_,rfl⟩,q⟩
theorem z31{K:PySem.W.Frag}{H:Hp}:∀ {l:List D}{i:Int}{vs:List V},R71 l=some i→HdA K H l vs→∃ ns:List Int,vs=ns.map V.int∧ns.sum=i
 |[],_,_,e,h=>by cases e;rw[h.e10];exact⟨[],rfl,rfl⟩
 |.int j::r,_,_,e,h=>by
  obtain⟨k,e1,rfl⟩:=Option.map_eq_some_iff.mp (show(R71 r).map _=_ from e)
  obtain⟨v,q,rfl,h1,h2⟩:=h.b70
  obtain⟨ns,rfl,e2⟩:=z31 e1 h2
  cases h1.g60
  exact⟨j::ns,rfl,by rw[List.sum_cons,e2]⟩
theorem T51(hc:X.calm=true):e40 X (.builtin "sum") (rDn X.K (bfD .sum)):=by
 intro pins s σ H xs us Q I r h
 obtain⟨zA,z,ds,w,st,hx,e,q⟩:=h
 match ds,e with
 |[d],e =>
  obtain⟨i,e1,rfl⟩:=Option.map_eq_some_iff.mp (show((Z00 d).bind R71).map _=some w from e)
  obtain⟨l,e2,e3⟩:=Option.bind_eq_some_iff.mp e1
  obtain⟨x,rfl,h1⟩:=hx.one
  obtain⟨a,ys,rfl,h2,h3⟩:=R10 h1 e2
  obtain⟨ns,rfl,rfl⟩:=z31 e3 h3
  exact u41 hc pins s σ H _ us Q I r ⟨a,ns,rfl,h2,q _ _ (a10.refl H) (show Hd X.K (hz zA H) _ _ from Hd.int)⟩
theorem T61(hc:X.calm=true):e40 X (.builtin "min") (rDn X.K (bfD .min)):=by
 intro pins s σ H xs us Q I r h
 obtain⟨zA,z,ds,w,st,hx,e,q⟩:=h
 match ds,e with
 |[.int i,.int j],e =>
  cases e
  obtain⟨x,y,rfl,h1,h2⟩:=hx.two
  cases h1.g60;cases h2.g60
  exact a71 hc pins s σ H _ us Q I r ⟨i,j,rfl,q _ _ (a10.refl H) g00⟩
theorem T71(hc:X.calm=true):e40 X (.builtin "max") (rDn X.K (bfD .max)):=by
 intro pins s σ H xs us Q I r h
 obtain⟨zA,z,ds,w,st,hx,e,q⟩:=h
 match ds,e with
 |[.int i,.int j],e =>
  cases e
  obtain⟨x,y,rfl,h1,h2⟩:=hx.two
  cases h1.g60;cases h2.g60
  exact a61 hc pins s σ H _ us Q I r ⟨i,j,rfl,q _ _ (a10.refl H) g00⟩
theorem T81:e40 X (.builtin "abs") (rDn X.K (bfD .abs)):=by
 intro pins s σ H xs us Q I r h
 obtain⟨zA,z,ds,w,st,hx,e,q⟩:=h
 match ds,e with
 |[.int i],e =>
  cases e
  obtain⟨x,rfl,h1⟩:=hx.one
  cases h1.g60
  exact q21 pins s σ H _ us Q I r ⟨i,rfl,q _ _ (a10.refl H) g00⟩
theorem T91:e40 X (.type "int") (rDn X.K (bfD .int)):=by
 intro pins s σ H xs us Q I r h
 obtain⟨zA,z,ds,w,st,hx,e,q⟩:=h
 match ds,e with
 |[.int i],e =>
  cases e
  obtain⟨x,rfl,h1⟩:=hx.one
  cases h1.g60
  exact E60 pins s σ H _ us Q I r (.inl ⟨i,rfl,q _ _ (a10.refl H) g00⟩)
 |[.bl b],e =>
  cases e
  obtain⟨x,rfl,h1⟩:=hx.one
  cases h1.bl_
  exact E60 pins s σ H _ us Q I r (.inr ⟨b,rfl,q _ _ (a10.refl H) g00⟩)
def tyN:Ty→String
 |.int=>"int" | .bool=>"bool" | .tuple=>"tuple" | .list=>"list" | .str=>"str" | .seq=>""
theorem G51(t:Ty)(d:D)(h:t≠.seq):isB d.ty (tyN t)=L71 t d:=by
 cases t <;> cases d <;> first | rfl | (exact absurd rfl h) | decide
theorem u51(d:D):(isB d.ty "tuple" || isB d.ty "list")=L71 .seq d:=by cases d <;> rfl
theorem at_of{K:PySem.W.Frag}{H:Hp}{l:List D}{xs:List V}{i:Int}{d:D}(h:HdA K H l xs)(e:atI l i=some d):∃ v,atI xs i=some v∧Hd K H d v:=by
 unfold atI at e ⊢
 obtain⟨j,e1,e2⟩:=Option.bind_eq_some_iff.mp e
 rw[h.length,e1]
 exact h.get e2
theorem ixD:IxR X (rD2 X.K λa b=>(Z10 a b).map S.d):=by
 intro value slice pins s σ H x y v u Q I rx ry h hs
 obtain⟨zA,z,dx,dy,w,st,hx,hy,e,q⟩:=h
 obtain⟨r,e1,rfl⟩:=Option.map_eq_some_iff.mp e
 cases dx with
 |tup l =>
  cases dy with
  |int i =>
   cases hy.g60
   obtain⟨a,xs,rfl,h1,h2⟩:=hx.u70
   obtain⟨v',e2,h3⟩:=at_of h2 e1
   exact P31 value slice pins s σ H _ _ v u Q I rx ry ⟨a,xs,i,v',rfl,rfl,(a30 zA H).sqT h1,e2,q _ _ (a10.refl H) (p21 h3)⟩ hs
  |_=>cases e1
 |lst l =>
  cases dy with
  |int i =>
   cases hy.g60
   obtain⟨a,xs,rfl,h1,h2⟩:=hx.Q80
   obtain⟨v',e2,h3⟩:=at_of h2 e1
   exact K50 value slice pins s σ H _ _ v u Q I rx ry ⟨a,xs,i,v',rfl,rfl,(h1.same (a30 zA H)).sq,e2,q _ _ (a10.refl H) (p21 h3)⟩ hs
  |_=>cases e1
 |_=>cases e1
theorem z41{K:PySem.W.Frag}{H:Hp}{l:List D}{xs:List V}(h:HdA K H l xs)(lo hi:Option Int):HdA K H (cutD l lo hi) (q61 xs lo hi):=by
 unfold cutD q61
 rw[h.length]
 exact(h.drop _).take _
def t22(K:PySem.W.Frag):V→Option Int→Option Int→Hp→VK→Prop:=λx lo hi H Q=>∃ zA z dx s,c30 zA z H∧Hd K (hz zA H) dx x∧slD dx lo hi=some s∧∀ v H',a10 H H'→RvS K zA H H' s v→Q v H'
theorem t32:SlR X (t22 X.K):=by
 intro pins s σ H x v vl vu lo hi sl Q I rx hs pl pu h
 obtain⟨zA,z,dx,w,st,hx,e,q⟩:=h
 cases dx with
 |tup l =>
  cases e
  obtain⟨a,xs,rfl,h1,h2⟩:=hx.u70
  exact E11 pins s σ H _ v vl vu lo hi sl Q I rx hs pl pu ⟨a,xs,rfl,(a30 zA H).sqT h1,tupQ st (z41 h2 lo hi) q⟩
 |lst l =>
  cases e
  obtain⟨a,xs,rfl,h1,h2⟩:=hx.Q80
  exact D11 pins s σ H _ v vl vu lo hi sl Q I rx hs pl pu ⟨a,xs,rfl,(h1.same (a30 zA H)).sq,λp hp=>q _ _ (a10.new _ hp) (k30 st (z41 h2 lo hi) hp)⟩
 |_=>cases e
end
end Q
namespace Q
open PySem L2 PySem.Spec PyProof.Rows
open PySem.W (KatLex KatTups kat_nil kat_cons kat_go kat_yes kat_no kat_one kat_lt kat_kind kas_kind kat_lt_int)
theorem u90(k:D):∀ l,(L50 k l).Perm (k::l)
 |[]=>.refl _
 |y::r=>by
  unfold L50
  split
  ·exact((u90 k r).cons y).trans (.swap _ _ _)
  ·exact .refl _
theorem q00:∀ l,(m30 l).Perm l
 |[]=>.refl _
 |k::r=>(u90 k _).trans ((q00 r).cons k)
theorem g01(k:D):∀ l,l.Pairwise (λx y=>MySort.e00 (flt y) (flt x)=false)→(L50 k l).Pairwise (λx y=>MySort.e00 (flt y) (flt x)=false)
 |[],_=>List.pairwise_singleton _ _
 |y::r,h=>by
  obtain⟨h1,h2⟩:=List.pairwise_cons.mp h
  unfold L50
  split
  ·rename_i hy
   refine List.pairwise_cons.mpr ⟨λz hz=>?_,g01 k r h2⟩
   rcases List.mem_cons.mp ((u90 k r).mem_iff.mp hz) with rfl | hz
   ·cases q:MySort.e00 (flt z) (flt y) with
    |false=>rfl
    |true=>have:=MySort.l50 _ _ _ hy q;rw[MySort.m90] at this;cases this
   ·exact h1 z hz
  ·rename_i hy
   refine List.pairwise_cons.mpr ⟨λz hz=>?_,h⟩
   rcases List.mem_cons.mp hz with rfl | hz
   ·simpa using hy
   ·cases q:MySort.e00 (flt z) (flt k) with
    |false=>rfl
    |true =>
     rcases MySort.Q20 _ (flt y) _ q with q | q
     ·rw[h1 z hz] at q;cases q
     ·exact absurd q hy
theorem R30:∀ l,(m30 l).Pairwise (λx y=>MySort.e00 (flt y) (flt x)=false)
 |[]=>.nil
 |k::r=>g01 k _ (R30 r)
mutual
theorem z51:∀ x y:D,eqT x y=true→x=y
 |.int i,y,h=>by
  cases y with
  |int j=>rw[eq_of_beq (show(i == j)=true from h)]
  |_=>cases h
 |.tup a,y,h=>by
  cases y with
  |tup b=>rw[g21 a b h]
  |_=>cases h
 |.non,y,h=>by cases y <;> cases h
 |.bl _,y,h=>by cases y <;> cases h
 |.str _,y,h=>by cases y <;> cases h
 |.lst _,y,h=>by cases y <;> cases h
 |.dct,y,h=>by cases y <;> cases h
theorem g21:∀ x y:List D,t91 x y=true→x=y
 |[],[],_=>rfl
 |[],_::_,h=>by cases h
 |_::_,[],h=>by cases h
 |x::r,y::q,h=>by
  have h:(eqT x y&&t91 r q)=true:=h
  rw[and_eq_true] at h
  rw[z51 x y h.1,g21 r q h.2]
end
variable [TB:Tb]
theorem G61(ok:∀ x∈l,∀ y∈l,flt x=flt y→x=y)(h:MySort.sortedBy (l.map flt) p):(p.map λi=>l.getD i .non)=m30 l:=by
 have h1:=h.1.map λi=>l.getD i .non
 rw[length_map,MySort.range_getD] at h1
 have e:((p.map λi=>l.getD i .non).map flt)=p.map λi=>(l.map flt).getD i []:=by
  rw[List.map_map]
  refine map_congr_left λi hi=>?_
  have:i < l.length:=by have:=h.1.mem_iff.mp hi;simpa using this
  simp[this]
 have h2:(p.map λi=>l.getD i .non).Pairwise λx y=>MySort.e00 (flt y) (flt x)=false:=by
  have:=h.2
  rw[← e,List.pairwise_map] at this
  exact this
 refine List.Perm.eq_of_pairwise (le:=λx y=>MySort.e00 (flt y) (flt x)=false) (λa b ha hb p q=>?_) h2 (R30 l) (h1.trans (q00 l).symm)
 exact ok a (h1.mem_iff.mp ha) b ((q00 l).mem_iff.mp hb) (MySort.l60 _ _ q p)
mutual
theorem u61(kp:MySort.d31 h h'):∀ (d:D) {u:Value}{as:List Addr},eqT d d=true→Reads h u (toP d) as→Reads h' u (toP d) as
 |.int i,_,_,_,r=>by cases r;exact .int _ _
 |.tup l,_,_,e,r=>by
  cases r with
  |tuple k1 k2 k3 k4=>exact .tuple (kp _ _ k1 k2) k2 k3 (o40 kp l e k4)
 |.non,_,_,e,_=>by cases e
 |.bl _,_,_,e,_=>by cases e
 |.str _,_,_,e,_=>by cases e
 |.lst _,_,_,e,_=>by cases e
 |.dct,_,_,e,_=>by cases e
theorem o40(kp:MySort.d31 h h'):∀ (l:List D) {us:List Value}{as:List Addr},t91 l l=true→ReadsAll h us (E20 l) as→ReadsAll h' us (E20 l) as
 |[],_,_,_,r=>by cases r;exact .nil
 |x::q,_,_,e,r=>by
  have e:(eqT x x&&t91 q q)=true:=e
  rw[and_eq_true] at e
  cases r with
  |cons r1 r2=>exact .cons (u61 kp x e.1 r1) (o40 kp q e.2 r2)
end
theorem d90.get:∀ {us:List Value}{l:List D}{i:Nat}{d:D},d90 h us l→l[i]?=some d→X30 h (us.getD i Value.none) d
 |_,[],i,d,_,e=>by cases e
 |us,x::r,i,d,hd,e=>by
  obtain⟨u,q,rfl,h1,h2⟩:=hd.b70
  cases i with
  |zero=>cases e;simpa using h1
  |succ i=>simpa using d90.get h2 (by simpa using e)
theorem d90.len:∀ {us:List Value}{l:List D},d90 h us l→us.length=l.length
 |_,[],hd=>by rw[hd.e10];rfl
 |us,x::r,hd=>by
  obtain⟨u,q,rfl,h1,h2⟩:=hd.b70
  simp[d90.len h2]
def z61(l:List D):Prop:=∀ x r,l=x::r→∃ i,x=.int i
theorem p12(hu:A.units + 40 < cLine):∀ (a c:List D) {vs us:List Value}{r:Bool} (i:Nat),d90 s.heap vs a→d90 s.heap us c→F01 a c=some r→i10 a≤39 →
  ((b&&i == 0)=true→z61 a∧z61 c)→fin=decide (vs.length < us.length)→Q r s→KatLex P w A b fin Q (vs.zip us) i s
 |[],[],_,_,r,i,ha,hc,e,_,_,hf,q=>by
  cases ha.e10;cases hc.e10;cases e;subst hf;exact kat_nil q
 |[],y::t,_,_,r,i,ha,hc,e,_,_,hf,q=>by
  cases ha.e10
  obtain⟨u,us,rfl,_,_⟩:=hc.b70
  cases e;subst hf;exact kat_nil q
 |x::l,[],_,_,r,i,ha,hc,e,_,_,hf,q=>by
  cases hc.e10
  obtain⟨v,vs,rfl,_,_⟩:=ha.b70
  cases e;subst hf;exact kat_nil q
 |x::l,y::t,_,_,r,i,ha,hc,e,hd,hi,hf,q=>by
  obtain⟨v,vs,rfl,a1,a2⟩:=ha.b70
  obtain⟨u,us,rfl,c1,c2⟩:=hc.b70
  have d1:deep x≤39:=Nat.le_trans (Nat.le_max_left _ _) hd
  have d2:i10 l≤39:=Nat.le_trans (Nat.le_max_right _ _) hd
  have e:(if eqD x y=true then F01 l t else ltD x y)=some r:=e
  refine kat_cons (S51 (A:=A) a1 c1 (by omega) P w _ _ ?_)
  refine kat_go (λz=>?_) λz=>?_
  ·rw[if_pos z] at e
   refine kat_yes (p12 hu l t (i + 1) a2 c2 e d2 (λk=>?_) (by rw[hf];simp) q)
   simp at k
  ·rw[if_neg (by rw[z];exact Bool.false_ne_true)] at e
   refine kat_no ?_
   cases hb:(b&&i == 0) with
   |true =>
    obtain⟨f1,f2⟩:=hi hb
    obtain⟨m,rfl⟩:=f1 x l rfl
    obtain⟨n,rfl⟩:=f2 y t rfl
    cases e
    obtain⟨_,_,r1⟩:=a1
    obtain⟨_,_,r2⟩:=c1
    cases r1;cases r2
    exact oneLt_int q
   |false=>exact kat_one _ _ ((S61 39 (A:=A) (s:=s)).1 x y v u r d1 a1 c1 e (by omega) P w _ _ q)
theorem M30(h:f01 x=0):∃ i,x=.int i:=by
 cases x with
 |int i=>exact⟨i,rfl⟩
 |tup l =>
  cases l with
  |nil=>cases h
  |cons y r=>cases y <;> cases h
 |_=>cases h
theorem M40(h:f01 x=k)(h1:1≤k)(h3:k < 3):∃ y r,x=.tup (y::r)∧(k=1→∃ i,y=.int i)∧(k=2→∃ l,y=.tup l):=by
 cases x with
 |tup l =>
  cases l with
  |nil=>have:k=3:=h.symm;omega
  |cons y r =>
   refine⟨y,r,rfl,λe=>?_,λe=>?_⟩ <;> subst e <;> cases y <;> first | exact⟨_,rfl⟩ | cases h
 |int i=>have:k=0:=h.symm;omega
 |_=>have:k=3:=h.symm;omega
theorem G71(h1:1≤k)(h3:k < 3):∀ {us:List Value}{l:List D},d90 h us l→(∀ x∈l,f01 x=k)→∃ fs,KatTups h us fs∧fs.length=us.length∧∀ v∈fs,(k=1→∃ i t,v=Value.int i t)∧(k=2→∃ a o,v=Value.ref a∧h.get? a=some o∧o.cls=.type "tuple")
 |_,[],hd,_=>by rw[hd.e10];exact⟨[],.nil,rfl,λv hv=>absurd hv (by simp)⟩
 |_,x::r,hd,hk=>by
  obtain⟨u,q,rfl,⟨_,as,r1⟩,h2⟩:=hd.b70
  obtain⟨fs,t1,t2,t3⟩:=G71 h1 h3 h2 λy hy=>hk y (mem_cons_of_mem _ hy)
  obtain⟨y,l,rfl,y1,y2⟩:=M40 (hk x mem_cons_self) h1 h3
  cases r1 with
  | @tuple a o vs n xs as k1 k2 k3 k4 =>
   cases hv:vs.toList with
   |nil=>rw[hv] at k4;cases k4
   |cons f fr =>
    rw[hv] at k4
    cases k4 with
    |cons f1 f2 =>
     refine⟨f::fs,.cons k1 k2 k3 (by rw[← Array.getElem?_toList,hv];rfl) t1,by simp[t2],λv hm=>?_⟩
     rcases List.mem_cons.mp hm with rfl | hm
     ·refine⟨λe=>?_,λe=>?_⟩
      ·obtain⟨i,rfl⟩:=y1 e
       cases f1;exact⟨_,_,rfl⟩
      ·obtain⟨m,rfl⟩:=y2 e
       cases f1 with
       |tuple g1 g2 g3 g4=>exact⟨_,_,rfl,g1,g2⟩
     ·exact t3 v hm
def kdOf:Nat→SortKind
 |0=>oneType'
 |1=>tuples' true
 |_=>tuples' false
theorem M50(h:d60 x y=true):f01 y=f01 x∧ltD x y=some (MySort.e00 (flt x) (flt y))∧(flt x=flt y→x=y):=by
 unfold d60 at h
 rw[and_eq_true,and_eq_true,or_eq_true] at h
 refine⟨eq_of_beq h.1,eq_of_beq h.2.1,λe=>?_⟩
 rcases h.2.2 with k | k
 ·exact z51 _ _ k
 ·rw[e] at k;simp at k
theorem z71(h64:us.length < 64)(hd:d90 s.heap us l)(hu:A.units + 40 < cLine)(k3:k < 3)(hk:∀ x∈l,f01 x=k)(ho:∀ x∈l,okD x=true)(hp:∀ x∈l,∀ y∈l,d60 x y=true):MySort.b82 P w A s us (MySort.sortedBy (l.map flt)) (kdOf k) where
 len:=by omega
 few h2:=MySort.P91 (by rw[length_map];exact hd.len) h2
 all p hp:=by rw[hp.1.length_eq,length_range,length_map,hd.len]
 kind h2 E Q q:=by
  match k,k3,hk,q with
  |0,_,hk,q =>
   refine kas_kind h2 (T:=.type "int") (λv hv=>?_) rfl rfl q
   obtain⟨i,hi,rfl⟩:=List.mem_iff_getElem.mp hv
   have hi':i < l.length:=by rw[← hd.len];exact hi
   obtain⟨_,as,r⟩:=hd.get (i:=i) (d:=l[i]) (by simp[hi'])
   obtain⟨n,hn⟩:=M30 (hk l[i] (getElem_mem hi'))
   rw[hn] at r
   have e:us.getD i Value.none=us[i]:=by simp[hi]
   rw[e] at r
   generalize us[i]=v at r
   cases r
   exact PySem.W.Looks.of_pure rfl
  |1,_,hk,q =>
   obtain⟨fs,t1,t2,t3⟩:=G71 (by decide) (by decide) hd hk
   exact kat_kind (T:=.type "int") t1 (by omega) (λv hv=>by obtain⟨i,t,rfl⟩:=(t3 v hv).1 rfl;exact PySem.W.Looks.of_pure rfl) rfl q
  |2,_,hk,q =>
   obtain⟨fs,t1,t2,t3⟩:=G71 (by decide) (by decide) hd hk
   exact kat_kind (T:=.type "tuple") t1 (by omega) (λv hv=>by
    obtain⟨a,o,rfl,g1,g2⟩:=(t3 v hv).2 rfl
    rw[← g2];exact(PySem.W.Looks.ld g1).andThen .now) rfl q
 run:=MySort.D71 (by rw[length_map];exact hd.len) h64 λi j hi hj E C hC=>by
  have hi':i < l.length:=by rw[← hd.len];exact hi
  have hj':j < l.length:=by rw[← hd.len];exact hj
  have mi:=getElem_mem hi'
  have mj:=getElem_mem hj'
  obtain⟨_,h2,_⟩:=M50 (hp _ mi _ mj)
  have a1:=hd.get (i:=i) (d:=l[i]) (by simp[hi'])
  have b1:=hd.get (i:=j) (d:=l[j]) (by simp[hj'])
  have e1:(l.map flt).getD i []=flt l[i]:=by simp[hi']
  have e2:(l.map flt).getD j []=flt l[j]:=by simp[hj']
  rw[e1,e2] at hC
  generalize MySort.e00 (flt l[i]) (flt l[j])=c at h2 hC
  have kx:=hk _ mi
  have ky:=hk _ mj
  have ox:=B90 (ho _ mi)
  generalize l[i]=x at *
  generalize l[j]=y at *
  have tup:∀ b:Bool,1≤k→(b=true→k=1)→wpAny (model P w) A (keyLt' (tuples' b) (us.getD i Value.none) (us.getD j Value.none)) C E s:=λb h1 hb=>by
   obtain⟨x1,xr,rfl,x2,_⟩:=M40 kx h1 k3
   obtain⟨y1,yr,rfl,y2,_⟩:=M40 ky h1 k3
   obtain⟨f1,as,r1⟩:=a1
   obtain⟨f2,bs,r2⟩:=b1
   generalize us.getD i Value.none=v at r1
   generalize us.getD j Value.none=u at r2
   cases r1 with
   |tuple p1 p2 p3 p4 =>
    cases r2 with
    |tuple q1 q2 q3 q4 =>
     refine kat_lt p1 p3 q1 q3 (p12 hu (x1::xr) (y1::yr) 0 ⟨f1,_,p4⟩ ⟨f2,_,q4⟩ h2 (by have:deep (.tup (x1::xr))=i10 (x1::xr) + 1:=rfl;omega) (λz=>?_) (by simp) hC)
     have hb1:=hb (by simpa using z)
     exact⟨λa q e=>by cases e;exact x2 hb1,λa q e=>by cases e;exact y2 hb1⟩
  match k,k3,kx,ky,tup with
  |0,_,kx,ky,_ =>
   obtain⟨m,rfl⟩:=M30 kx
   obtain⟨n,rfl⟩:=M30 ky
   cases h2
   obtain⟨_,_,r1⟩:=a1
   obtain⟨_,_,r2⟩:=b1
   generalize us.getD i Value.none=v at r1
   generalize us.getD j Value.none=u at r2
   cases r1;cases r2
   exact kat_lt_int hC
  |1,_,_,_,tup=>exact tup true (by decide) λ_=>rfl
  |2,_,_,_,tup=>exact tup false (by decide) λh=>by cases h
theorem HdA.pick{K:PySem.W.Frag}{H:Hp}{l:List D}{vs:List V}(h:HdA K H l vs):∀ {p:List Nat},(∀ i∈p,i < l.length)→HdA K H (p.map λi=>l.getD i .non) (p.map λi=>vs.getD i .non)
 |[],_=>.nil
 |i::p,hp=>by
  have hi:=hp i mem_cons_self
  refine .cons ?_ (HdA.pick h λj hj=>hp j (mem_cons_of_mem _ hj))
  obtain⟨v,e1,e2⟩:=h.get (i:=i) (d:=l[i]) (by simp[hi])
  have g1:l.getD i .non=l[i]:=by simp[hi]
  have g2:vs.getD i .non=v:=by rw[List.getD_eq_getElem?_getD,e1];rfl
  show Hd K H (l.getD i .non) (vs.getD i .non)
  rw[g1,g2];exact e2
end Q
namespace Q
open PySem L2 PySem.Spec PyProof.Rows
variable [TB:Tb]
section
variable {X:Cx}
theorem G81{zA:Option Addr}{H:Hp}{l:List D}{xs:List V}(hu:X.A.units + 64 < cLine)(hd:HdA X.K H l xs)(h64:l.length < 64)(ok:j10 l=true):Q31 X H xs (MySort.sortedBy (l.map flt)):=by
 intro pins σ s us I rv
 replace h64:us.length < 64:=by rw[← rv.length,hd.length];exact h64
 have all:∀ x∈l,f01 x < 3∧okD x=true∧∀ y∈l,d60 x y=true:=λx hx=>by
  have:=List.all_eq_true.mp ok x hx
  rw[and_eq_true,and_eq_true,decide_eq_true_eq,all_eq_true] at this
  exact⟨this.1,this.2.1,this.2.2⟩
 have hf:g50 l=true:=by
  clear hd
  induction l with
  |nil=>rfl
  |cons x r ih =>
   have h1:=(o30 (all x mem_cons_self).2.1).1
   show(r00 x&&g50 r)=true
   rw[h1]
   have ok':j10 r=true:=List.all_eq_true.mpr λy hy=>by
    obtain⟨a,b,c⟩:=all y (mem_cons_of_mem _ hy)
    rw[and_eq_true,and_eq_true,decide_eq_true_eq,all_eq_true]
    exact⟨a,b,λz hz=>c z (mem_cons_of_mem _ hz)⟩
   exact ih ok' λy hy=>⟨(all y (mem_cons_of_mem _ hy)).1,(all y (mem_cons_of_mem _ hy)).2.1,λz hz=>(all y (mem_cons_of_mem _ hy)).2.2 z (mem_cons_of_mem _ hz)⟩
 obtain⟨as,ra⟩:=B80 I hd rv hf
 have pure:t91 l l=true:=by
  clear hd ra hf ok
  have:∀ q:List D,(∀ x∈q,eqT x x=true)→t91 q q=true:=λq=>by
   induction q with
   |nil=>intro _;rfl
   |cons x r ih=>intro h;show(eqT x x&&t91 r r)=true;rw[h x mem_cons_self,ih λy hy=>h y (mem_cons_of_mem _ hy)];rfl
  refine this l λx hx=>?_
  have h:=(all x hx).2.2 x hx
  unfold d60 at h
  rw[and_eq_true,and_eq_true,or_eq_true] at h
  rcases h.2.2 with k | k
  ·exact k
  ·simp at k
 cases l with
 |nil=>exact⟨kdOf 0,λh' kp=>z71 h64 ⟨hf,_,o40 kp _ pure ra⟩ (by show X.A.units + 1 + 1 + 40 < cLine;omega) (by decide) (λx hx=>absurd hx (by simp)) (λx hx=>absurd hx (by simp)) λx hx=>absurd hx (by simp)⟩
 |cons x r =>
  have hx:=all x mem_cons_self
  exact⟨kdOf (f01 x),λh' kp=>z71 h64 ⟨hf,_,o40 kp _ pure ra⟩ (by show X.A.units + 1 + 1 + 40 < cLine;omega) hx.1 (λy hy=>(M50 (hx.2.2 y hy)).1) (λy hy=>(all y hy).2.1) λy hy=>(all y hy).2.2⟩
theorem g31(hu:X.A.units + 64 < cLine):e40 X (.builtin "sorted") (rDn X.K (bfD .sorted)):=by
 intro pins s σ H xs us Q I r h
 obtain⟨zA,z,ds,w,st,hx,e,q⟩:=h
 match ds,e with
 |[x],e =>
  have e:sortedS x=some w:=e
  unfold sortedS at e
  obtain⟨l,h1,e⟩:=Option.bind_eq_some_iff.mp e
  obtain⟨v,rfl,hv⟩:=hx.one
  have go:∀ (a:Addr) (ys:List V),v=.ref a→(SqL X.K H a ys∨SqT X.K H a ys)→HdA X.K (hz zA H) l ys→wpAny (model X.prog X.w) X.A (call (.builtin "sorted") us) (EP X pins σ Q) X.xe s:=λa ys hva hq hd=>by
   subst hva
   by_cases c:l.length < 64∧j10 l=true
   ·rw[if_pos c] at e
    cases e
    obtain⟨h64,ok⟩:=c
    refine G20 pins s σ H _ us Q I r ⟨a,ys,MySort.sortedBy (l.map flt),rfl,hq,G81 (zA:=zA) hu (hd.same (a30 zA H)) h64 ok,λp hp i hi=>by have:=hp.1.mem_iff.mp hi;rw[hd.length];simpa using this,λp lA hp hn=>?_⟩
    have hd2:=hd.pick (p:=p) λi hi=>by have:=hp.1.mem_iff.mp hi;simpa using this
    rw[G61 (λx hx y hy=>?_) hp] at hd2
    ·exact q _ _ (a10.new _ hn) (k30 st hd2 hn)
    ·have:=List.all_eq_true.mp ok x hx
     rw[and_eq_true,and_eq_true,all_eq_true] at this
     exact(M50 (this.2.2 y hy)).2.2
   ·rw[if_neg c] at e
    cases e
  cases x with
  |tup m =>
   cases h1
   obtain⟨a,ys,rfl,k1,k2⟩:=hv.u70
   exact go a ys rfl (.inr ((a30 zA H).sqT k1)) k2
  |lst m =>
   cases h1
   obtain⟨a,ys,rfl,k1,k2⟩:=hv.Q80
   exact go a ys rfl (.inl (k1.same (a30 zA H)).sq) k2
  |_=>cases h1
end
structure Gs where
 fns:List (Str × List Str)
 nums:List (Str × Int)
 F:FT
 cls:Nat→Addr
 lv:Nat
def EPost(G:Gs)(zA:Option Addr)(E:XK)(c:Nat)(z:Z)(H:Hp):Prop:=∀ e H',Ext zA H H'→c30 zA z H'→H' e=none→E (.ref (G.cls c)) (some e) H'
theorem EPost.mono(h:EPost G zA E c z H)(e:Ext zA H H1):EPost G zA E c z H1:=λa H' x s n=>h a H' (e.trans x) s n
def h02(K:PySem.W.Frag)(G:Gs)(zA:Option Addr)(E:XK)(H:Hp)(Q:VK):R S→Prop
 |.ok s z'=>∀ v H',Ext zA H H'→c30 zA z' H'→RvS K zA H H' s v→Q v H'
 |.er c z'=>EPost G zA E c z' H
def M60(K:PySem.W.Frag)(G:Gs)(zA:Option Addr)(E:XK)(H:Hp)(Q:VK):R (List S)→Prop
 |.ok l z'=>∃ s,l=[s]∧∀ v H',Ext zA H H'→c30 zA z' H'→RvS K zA H H' s v→Q v H'
 |.er c z'=>EPost G zA E c z' H
def h32(K:PySem.W.Frag)(G:Gs)(zA:Option Addr)(E:XK)(H:Hp)(Q:List V→Hp→Prop):R (List S)→Prop
 |.ok l z'=>∀ vs H',Ext zA H H'→c30 zA z' H'→Paired (RvS K zA H H') l vs→Q vs H'
 |.er c z'=>EPost G zA E c z' H
def u71(G:Gs)(zA:Option Addr)(E:XK)(H:Hp)(Q:Bool→Hp→Prop):R (List S)→Prop
 |.ok l z'=>∃ b,l=[.d (.bl b)]∧∀ H',Ext zA H H'→c30 zA z' H'→Q b H'
 |.er c z'=>EPost G zA E c z' H
def q10(K:PySem.W.Frag)(zA:Option Addr)(H:Hp)(ρ:Env)(σ:L2.St):Prop:=∀ (i:Nat) (s:S),ρ[i]?=some (some s)→∃ v,σ[i]?=some (some v)∧RvP K zA H s v
theorem q10.mono{K:PySem.W.Frag}{zA:Option Addr}{H H':Hp}{ρ:Env}{σ:L2.St}(h:q10 K zA H ρ σ)(e:Ext zA H H'):q10 K zA H' ρ σ:=λi s q=>let ⟨v,a,b⟩:=h i s q;⟨v,a,b.mono e⟩
def tI(K:PySem.W.Frag)(G:Gs)(E:XK)(x:Ex):TE:=λσ H Q=>∃ zA ρ z r,q10 K zA H ρ σ∧c30 zA z H∧ev G.F x ρ z=some r∧M60 K G zA E H Q r
def tA(K:PySem.W.Frag)(G:Gs)(E:XK)(x:Ex):TA:=λσ H Q=>∃ zA ρ z r,q10 K zA H ρ σ∧c30 zA z H∧ev G.F x ρ z=some r∧h32 K G zA E H Q r
def tT(K:PySem.W.Frag)(G:Gs)(E:XK)(x:Ex):TT:=λσ H Q=>∃ zA ρ z r,q10 K zA H ρ σ∧c30 zA z H∧ev G.F x ρ z=some r∧u71 G zA E H Q r
def spF(K:PySem.W.Frag)(G:Gs)(f n:Nat):Sp:=λvs H Q E=>vs.length=n∧∃ zA z ss r,RvA K zA H ss vs∧c30 zA z H∧G.F false f ss z=some r∧h02 K G zA E H Q r
section
variable {K:PySem.W.Frag}{G:Gs}{E:XK}{a x:Ex}{ρ:Env}{z:Z}{zA:Option Addr}{σ:L2.St}{H:Hp}
theorem g80{α:Type}{k:List S→M α}{r:R α}{Q':VK}(rel:q10 K zA H ρ σ)(st:c30 zA z H)(h:M.bind (ev G.F a ρ) k z=some r)(her:∀ c z1,r=.er c z1→EPost G zA E c z1 H)
  (hok:∀ l z1,k l z1=some r→∃ s,l=[s]∧∀ v H1,Ext zA H H1→c30 zA z1 H1→RvS K zA H H1 s v→Q' v H1):tI K G E a σ H Q':=by
 rcases M.bind_some h with ⟨l,z1,e1,e2⟩ | ⟨c,z1,e1,e2⟩
 ·exact⟨zA,ρ,z,_,rel,st,e1,hok l z1 e2⟩
 ·exact⟨zA,ρ,z,_,rel,st,e1,her c z1 e2⟩
theorem X40{α:Type}{k:List S→M α}{r:R α}{Q':List V→Hp→Prop}(rel:q10 K zA H ρ σ)(st:c30 zA z H)(h:M.bind (ev G.F a ρ) k z=some r)(her:∀ c z1,r=.er c z1→EPost G zA E c z1 H)
  (hok:∀ l z1,k l z1=some r→∀ vs H1,Ext zA H H1→c30 zA z1 H1→Paired (RvS K zA H H1) l vs→Q' vs H1):tA K G E a σ H Q':=by
 rcases M.bind_some h with ⟨l,z1,e1,e2⟩ | ⟨c,z1,e1,e2⟩
 ·exact⟨zA,ρ,z,_,rel,st,e1,hok l z1 e2⟩
 ·exact⟨zA,ρ,z,_,rel,st,e1,her c z1 e2⟩
theorem H10{α:Type}{k:Bool→M α}{r:R α}{Q':Bool→Hp→Prop}(rel:q10 K zA H ρ σ)(st:c30 zA z H)(h:M.bind (ev G.F a ρ) (λx=>M.bind (M.of ((pl x).bind asB)) k) z=some r)(her:∀ c z1,r=.er c z1→EPost G zA E c z1 H)
  (hok:∀ b z1,k b z1=some r→∀ H1,Ext zA H H1→c30 zA z1 H1→Q' b H1):tT K G E a σ H Q':=by
 rcases M.bind_some h with ⟨l,z1,e1,e2⟩ | ⟨c,z1,e1,e2⟩
 ·obtain⟨b,e3,e4⟩:=M.a00 e2
  obtain⟨d,e5,e6⟩:=Option.bind_eq_some_iff.mp e3
  have el:l=[.d (.bl b)]:=by
   obtain⟨s,rfl,hs⟩:=d70 e5
   cases s with
   |d y=>cases hs;cases d <;> first | (cases e6;rfl) | cases e6
   |fr ys=>cases hs;cases e6
   |z=>cases hs
  exact⟨zA,ρ,z,_,rel,st,e1,b,el,hok b z1 e4⟩
 ·exact⟨zA,ρ,z,_,rel,st,e1,her c z1 e2⟩
theorem v00{l:List S}{s:S}(h:one l=some s):l=[s]:=by
 unfold one at h
 split at h
 ·cases h;rfl
 ·cases h
end
theorem PE.imp(h:PE X e t)(i:∀ σ H Q,t' σ H Q→t σ H Q):PE X e t':=λpins s σ H Q I q=>h pins s σ H Q I (i _ _ _ q)
theorem PT.imp(h:PT X e t)(i:∀ σ H Q,t' σ H Q→t σ H Q):PT X e t':=λpins s σ H Q I q=>h pins s σ H Q I (i _ _ _ q)
theorem PW.imp(h:PW X e t)(i:∀ σ H Q,t' σ H Q→t σ H Q):PW X e t':=λw pins s σ H Q I q=>h w pins s σ H Q I (i _ _ _ q)
theorem PA.imp(h:PA X e t)(i:∀ σ H Q,t' σ H Q→t σ H Q):PA X e t':=λp pins s σ H Q I q=>h p pins s σ H Q I (i _ _ _ q)
def noStar:Expr→Bool
 |.Starred ..=>false
 |_=>true
theorem c40(h:noStar e=true)(es:List Expr)(env:PySem.Env):starEach (e::es) env=(false,eval e env)::starEach es env:=by
 cases e <;> first | rfl | cases h
theorem o50:∀ {es:List Expr} (env:PySem.Env) (pos:Pos),es.all noStar=true→(backTo pos (starEach es env)).any (·.1)=false
 |[],_,_,_=>rfl
 |e::es,env,pos,h=>by
  rw[all_cons,and_eq_true] at h
  rw[c40 h.1]
  show(false || (backTo pos (starEach es env)).any (·.1))=false
  rw[o50 env pos h.2];rfl
def plainT:Expr→Bool
 |.UnaryOp .Not _ _=>false
 |.BoolOp ..=>false
 |.IfExp ..=>false
 |.Compare ..=>false
 |_=>true
theorem g41(h:plainT e=true)(env:PySem.Env)(whole:Sem Value):isTrue e env whole=(do let v ← whole;standAt e.pos;holding [v] (truthy v)):=by
 cases e with
 |UnaryOp op _ _=>cases op <;> first | rfl | cases h
 |BoolOp _ _ _=>cases h
 |IfExp _ _ _ _=>cases h
 |Compare _ _ _ _=>cases h
 |_=>rfl
def v40:Expr→Bool
 |.Slice ..=>false
 |_=>true
theorem x70(h:v40 e=true):b41 e:=λo i=>by
 cases e with
 |Slice _ _ _ _=>cases h
 |_=>rfl
def o60:Expr→Bool
 |.Set ..=>false
 |_=>true
theorem R40(h:o60 e=true)(op:CmpOp):behindInMarks op e=false:=by
 cases e with
 |Set _ _ _=>cases h
 |_=>rfl
structure b00(X:Cx)(G:Gs)(E:XK)(x:Ex)(e:Expr):Prop where
 pe:PE X e (tI X.K G E x)
 pt:(∀ t a b p,e≠.IfExp t a b p)→PT X e (tT X.K G E x)
 pw:∀ op vs p,e=.BoolOp op vs p→PW X e (tT X.K G E x)
theorem b10(h:PE X e (tI X.K G E x))(hp:plainT e=true):b00 X G E x e:=by
 refine⟨h,λ_=>PT.imp (Z90 h (g41 hp X.env)) λσ H Q q=>?_,λop vs p he=>?_⟩
 ·obtain⟨zA,ρ,z,r,rel,st,e,po⟩:=q
  refine⟨zA,ρ,z,r,rel,st,e,?_⟩
  cases r with
  |er c z1=>exact po
  |ok l z1 =>
   obtain⟨b,rfl,po⟩:=po
   exact⟨_,rfl,λv H' ex st' rv=>⟨b,Hd.bl_ (show Hd X.K (hz zA H') (.bl b) v from rv),po H' ex st'⟩⟩
 ·subst he;cases hp
def isL:Ex→Bool
 |.nil=>true
 |.cons _ _=>true
 |_=>false
def Good(X:Cx)(G:Gs)(E:XK):Ex→List Expr→Prop
 |.nil,es=>es=[]
 |.cons a r,es=>∃ e es',es=e::es'∧noStar e=true∧b00 X G E a e∧isL r=true∧Good X G E r es'
 |x,es=>∃ e,es=[e]∧b00 X G E x e
theorem Good.args:∀ {x:Ex}{es:List Expr},isL x=true→Good X G E x es→PA X es (tA X.K G E x)∧es.all noStar=true:=by
 intro x
 induction x with
 |nil =>
  intro es _ h
  have h:es=[]:=h
  subst h
  refine⟨PA.imp j80 λσ H Q q=>?_,rfl⟩
  obtain⟨zA,ρ,z,r,rel,st,e,po⟩:=q
  cases e
  exact po [] H Ext.refl st .nil
 |cons a r _ ih =>
  intro es _ h
  obtain⟨e,es',rfl,ns,g,lr,gr⟩:=h
  obtain⟨h1,h2⟩:=ih lr gr
  refine⟨PA.imp (d20 g.pe h1 (c40 ns es' X.env)) λσ H Q q=>?_,by rw[all_cons,ns,h2];rfl⟩
  obtain⟨zA,ρ,z,rr,rel,st,e,po⟩:=q
  have her:∀ c z1,rr=.er c z1→EPost G zA E c z1 H:=λc z1 e=>by subst e;exact po
  refine g80 rel st e her λl z1 e1=>?_
  obtain⟨s,hs,e2⟩:=M.a00 e1
  refine⟨s,v00 hs,λv H1 x1 st1 rv=>?_⟩
  refine X40 (rel.mono x1) st1 e2 (λc z2 q=>(her c z2 q).mono x1) λl2 z2 e3 vs H2 x2 st2 rvs=>?_
  cases e3
  exact po (v::vs) H2 (x1.trans x2) st2 (.cons (rv.mono x2) (Paired.x81 rvs λ_ _ q=>q.from x1))
 |_=>intro es h;cases h
def G91:List Str:=["len","sorted","tuple","list","sum","min","max","abs","all","any","int","bool","str","isinstance","range","zip","enumerate","set"]
def lowG(G:Gs)(k:Nat):Gs:={ G with F:=p20 G.F,lv:=k }
structure H20(X:Cx)(G:Gs)(sc:Scope)(c P:Addr)(q:Str)(k:Nat)(fR:Addr)(fdR:FuncData):Prop where
 sco:X.env.scope=sc
 code:X.env.code=.ref c
 hd:PySem.W.codeHdIn X.K c P=true
 qual:X.env.qual++"<lambda>"=q
 tb:(P,q)∈TB.tb
 uq:∀ p∈TB.tb,p.1=P→p.2=q
 bm:BMain X.mg X.base
 lv:G.lv=k + 2
 cls:∀ j,j < 12→G50 X.K X.mg (G.cls j) j
 m:X.mg "_law_refused"=some (.ref fR)
 kp:PySem.W.keepIn X.K (.ref fR)=true
 bd:Binds X.K fdR ["_law_call"] []
 fn:G30 X.prog X.w X.K X.mg X.base CX0 (k + 2) fR fdR ["_law_call"] (E91 X.prog X.w X.K X.mg X.base (k + 1))
 low:∀ f nm ps,G.fns[f]?=some (nm,ps)→∃ fa fd,X.mg nm=some (.ref fa)∧PySem.W.keepIn X.K (.ref fa)=true∧Binds X.K fd ps []∧K00 X.prog X.w X.K X.mg X.base (CX1 X.prog X.w) k fa fd ps (spF X.K (lowG G k) f ps.length)
def h42(X:Cx)(G:Gs)(sc:Scope):Prop:=∃ c P q k fR fdR,H20 X G sc c P q k fR fdR
structure XI(lm:Bool)(X:Cx)(G:Gs)(E:XK)(N:List Str)(sc:Scope):Prop where
 gok:∀ f nm ps,G.fns[f]?=some (nm,ps)→∃ fa fd,X.mg nm=some (.ref fa)∧PySem.W.keepIn X.K (.ref fa)=true∧Binds X.K fd ps []∧K00 X.prog X.w X.K X.mg X.base (CX1 X.prog X.w) G.lv fa fd ps (spF X.K G f ps.length)
 num:∀ p∈G.nums,∃ t,X.mg p.1=some (.int p.2 t)
 blt:∀ n∈G91,X.mg n=none
 hN:X.N=N
 nd:N.Nodup
 vis:∀ x∈N,Vis X.env.scope x
 glb:∀ x,sc.names.lookup x=some .globalImplicit→Gl X x
 cel:∀ x,(sc.names.lookup x=some .cell∨sc.names.lookup x=some .free)→(X.env.kindOf x=some .cell∨X.env.kindOf x=some .free)
 calm:X.calm=true
 room:p50 G.lv X.A
 pas:Passes (CX1 X.prog X.w) X E
 lam:lm=true→h42 X G sc
def glob(sc:Scope)(x:Str):Bool:=sc.names.lookup x == some .globalImplicit&&!(x == ("__debug__":Str))&&!(x == ("__name__":Str))
def b30(x:Str):Bool:=!(x == ("__debug__":Str))&&!(x == ("__classdict__":Str))
def U01:Const→D→Bool
 |.int i,.int j=>i == j
 |.bool a,.bl b=>a == b
 |.str x,.str y=>x == y
 |.none,.non=>true
 |_,_=>false
def bfN:Bf→Str × Bool
 |.len=>("len",false) | .sorted=>("sorted",false) | .tuple=>("tuple",true) | .list=>("list",true) | .sum=>("sum",false) | .min=>("min",false) | .max=>("max",false) | .abs=>("abs",false)
 |.all=>("all",false) | .int=>("int",true) | .sset=>("sorted",false) | .b72=>("len",false)
def served:Bf→Bool
 |.len | .tuple | .list | .min | .max | .abs | .all | .int | .sorted | .sum=>true
 |_=>false
mutual
noncomputable def g90(N:List Str)(loc:Str→Bool):Pat→Expr→Bool
 |.v i=>λe=>match e with
  |.Name x _=>N[i]? == some x&&loc x
  |_=>false
 |.tup ps=>λe=>match e with
  |.Tuple es _ _=>X50 N loc ps es
  |_=>false
 |.nil=>λ_=>false
 |.cons _ _=>λ_=>false
noncomputable def X50(N:List Str)(loc:Str→Bool):Pat→List Expr→Bool
 |.nil=>λes=>es.isEmpty
 |.cons p r=>λes=>match es with
  |e::es=>noStar e&&g90 N loc p e&&X50 N loc r es
  |[]=>false
 |.v _=>λ_=>false
 |.tup _=>λ_=>false
end
def j20:Expr→Bool
 |.Tuple ..=>true
 |_=>false
def c60:Expr→List Str
 |.Name x _=>[x]
 |.Tuple es _ _=>names es
 |_=>[]
where names:List Expr→List Str
 |[]=>[]
 |.Name x _::r=>x::names r
 |.Tuple [.Name a _,.Name b _] _ _::r=>a::b::names r
 |_::r=>names r
def H30(csc sc:Scope)(N own:List Str)(capt:List (Str × Nat)):Bool :=
 csc.kind == .function&&csc.names.all (λy=>y.2 != .cell)&&csc.names.all (λy=>y.2 != .local || csc.names.lookup y.1 == some .local) &&
  csc.names.all (λy=>y.2 != .free || (sc.names.lookup y.1 == some .cell || sc.names.lookup y.1 == some .free))&&capt.all (λp=>N[p.2]? == some p.1&&csc.names.lookup p.1 == some .free) &&
  own.all (λx=>csc.names.lookup x == some .local)&&decide (own++capt.map (·.1)).Nodup
def a90(N:List Str):List Nat→List (Str × Nat)
 |[]=>[]
 |i::r=>match N[i]? with
  |some x=>(x,i)::a90 N r
  |none=>a90 N r
def opt{α:Type}(o:Option α)(f:α→Bool):Bool:=match o with
 |some a=>f a
 |none=>false
theorem a50{α:Type}{o:Option α}{f:α→Bool}(h:opt o f=true):∃ a,o=some a∧f a=true:=by
 cases o with
 |none=>cases h
 |some a=>exact⟨a,rfl,h⟩
def p22:(e:List Expr)→Option {q:Str × Pos // e=[.Name q.1 q.2]}
 |[.Name n p]=>some ⟨(n,p),rfl⟩
 |_=>none
def h52:(e:List Expr)→Option {q:Const × Nat × Pos // e=[.Constant q.1 q.2.1 q.2.2]}
 |[.Constant c k p]=>some ⟨(c,k,p),rfl⟩
 |_=>none
def h62:(e:List Expr)→Option {q:Pos // e=[.Dict [] [] q]}
 |[.Dict [] [] p]=>some ⟨p,rfl⟩
 |_=>none
def h72:(e:List Expr)→Option {q:List Expr × Nat × Pos // e=[.Tuple q.1 q.2.1 q.2.2]}
 |[.Tuple l k p]=>some ⟨(l,k,p),rfl⟩
 |_=>none
def h82:(e:List Expr)→Option {q:List Expr × Pos // e=[.List q.1 q.2]}
 |[.List l p]=>some ⟨(l,p),rfl⟩
 |_=>none
def h92:(e:List Expr)→Option {q:Expr × Operator × Expr × Pos // e=[.BinOp q.1 q.2.1 q.2.2.1 q.2.2.2]}
 |[.BinOp l o r p]=>some ⟨(l,o,r,p),rfl⟩
 |_=>none
def i02:(e:List Expr)→Option {q:Expr × CmpOp × Expr × Pos // e=[.Compare q.1 [q.2.1] [q.2.2.1] q.2.2.2]}
 |[.Compare l [o] [r] p]=>some ⟨(l,o,r,p),rfl⟩
 |_=>none
def i22:(e:List Expr)→Option {q:Expr × Pos // e=[.UnaryOp .USub q.1 q.2]}
 |[.UnaryOp .USub x p]=>some ⟨(x,p),rfl⟩
 |_=>none
def i32:(e:List Expr)→Option {q:Expr × Pos // e=[.UnaryOp .Not q.1 q.2]}
 |[.UnaryOp .Not x p]=>some ⟨(x,p),rfl⟩
 |_=>none
def i42:(e:List Expr)→Option {q:Expr × Expr × List Expr × Pos // e=[.BoolOp .And (q.1::q.2.1::q.2.2.1) q.2.2.2]}
 |[.BoolOp .And (l::r::v) p]=>some ⟨(l,r,v,p),rfl⟩
 |_=>none
def p32:(e:List Expr)→Option {q:Expr × Expr × List Expr × Pos // e=[.BoolOp .Or (q.1::q.2.1::q.2.2.1) q.2.2.2]}
 |[.BoolOp .Or (l::r::v) p]=>some ⟨(l,r,v,p),rfl⟩
 |_=>none
def i52:(e:List Expr)→Option {q:Expr × Expr × Expr × Pos // e=[.IfExp q.1 q.2.1 q.2.2.1 q.2.2.2]}
 |[.IfExp t x y p]=>some ⟨(t,x,y,p),rfl⟩
 |_=>none
def t42:(e:List Expr)→Option {q:Expr × CmpOp × CmpOp × Expr × Expr × Pos // e=[.Compare q.1 [q.2.1,q.2.2.1] [q.2.2.2.1,q.2.2.2.2.1] q.2.2.2.2.2]}
 |[.Compare l [o,o2] [r,s] p]=>some ⟨(l,o,o2,r,s,p),rfl⟩
 |_=>none
def p42:(e:List Expr)→Option {q:Str × Pos × Expr × List Expr × Pos // e=[.Call (.Name q.1 q.2.1) (q.2.2.1::q.2.2.2.1) [] q.2.2.2.2]}
 |[.Call (.Name n q1) (x::l) [] p]=>some ⟨(n,q1,x,l,p),rfl⟩
 |_=>none
def i62:(e:List Expr)→Option {q:Str × Pos × Expr × Expr × Pos // e=[.Call (.Name q.1 q.2.1) [q.2.2.1,q.2.2.2.1] [] q.2.2.2.2]}
 |[.Call (.Name n q1) [x,ty] [] p]=>some ⟨(n,q1,x,ty,p),rfl⟩
 |_=>none
def t52:(e:List Expr)→Option {q:Expr × Expr × Pos // e=[.Subscript q.1 q.2.1 q.2.2]}
 |[.Subscript v x p]=>some ⟨(v,x,p),rfl⟩
 |_=>none
def t62:(e:List Expr)→Option {q:Expr × Option Expr × Option Expr × Pos × Pos // e=[.Subscript q.1 (.Slice q.2.1 q.2.2.1 none q.2.2.2.1) q.2.2.2.2]}
 |[.Subscript v (.Slice l h none q1) p]=>some ⟨(v,l,h,q1,p),rfl⟩
 |_=>none
def U11:(e:List Expr)→Option {q:Expr × Expr × Expr × List Expr × Scope × Pos // e=[.ListComp q.1 [⟨q.2.1,q.2.2.1,q.2.2.2.1,0⟩] q.2.2.2.2.1 q.2.2.2.2.2]}
 |[.ListComp elt [⟨tg,iter,ifs,0⟩] csc p]=>some ⟨(elt,tg,iter,ifs,csc,p),rfl⟩
 |_=>none
def L91:(e:Expr)→Option {q:Str × Pos × Expr × Pos // e=.Call (.Name q.1 q.2.1) [q.2.2.1] [] q.2.2.2}
 |.Call (.Name n q1) [a] [] p=>some ⟨(n,q1,a,p),rfl⟩
 |_=>none
def M01:(e:Expr)→Option {q:Str × Pos × Expr × Expr × Pos // e=.Call (.Name q.1 q.2.1) [q.2.2.1,q.2.2.2.1] [] q.2.2.2.2}
 |.Call (.Name n q1) [a,b] [] p=>some ⟨(n,q1,a,b,p),rfl⟩
 |_=>none
def shN:(e:Expr)→Option {q:Str × Pos // e=.Name q.1 q.2}
 |.Name n p=>some ⟨(n,p),rfl⟩
 |_=>none
def p52:(e:Expr)→Option {q:Str × Pos × Str × Pos × Nat × Pos // e=.Tuple [.Name q.1 q.2.1,.Name q.2.2.1 q.2.2.2.1] q.2.2.2.2.1 q.2.2.2.2.2}
 |.Tuple [.Name a q1,.Name b q2] k p=>some ⟨(a,q1,b,q2,k,p),rfl⟩
 |_=>none
def t72:(e:List Expr)→Option {q:Str × Pos × Int × Nat × Pos × Pos // e=[.Subscript (.Name q.1 q.2.1) (.Constant (.int q.2.2.1) q.2.2.2.1 q.2.2.2.2.1) q.2.2.2.2.2]}
 |[.Subscript (.Name n p) (.Constant (.int j) c q1) r]=>some ⟨(n,p,j,c,q1,r),rfl⟩
 |_=>none
def t82:(e:List Expr)→Option {q:Str × Pos × Str × Pos × List Expr × Pos × Pos // e=[.Call (.Name q.1 q.2.1) [.Call (.Name q.2.2.1 q.2.2.2.1) q.2.2.2.2.1 [] q.2.2.2.2.2.1] [] q.2.2.2.2.2.2]}
 |[.Call (.Name n p) [.Call (.Name m q1) l [] r] [] t]=>some ⟨(n,p,m,q1,l,r,t),rfl⟩
 |_=>none
def i72:(e:List Expr)→Option {q:Str × Pos × Expr × Scope × Pos × Pos // e=[.Call (.Name q.1 q.2.1) [.Lambda ⟨[],[],none,[],[],none,[]⟩ q.2.2.1 q.2.2.2.1 q.2.2.2.2.1] [] q.2.2.2.2.2]}
 |[.Call (.Name n p) [.Lambda ⟨[],[],none,[],[],none,[]⟩ b c l] [] t]=>some ⟨(n,p,b,c,l,t),rfl⟩
 |_=>none
def tyE(sc:Scope):Ty→Expr→Bool
 |.seq=>λe=>opt (p52 e) λq=>q.1.1 == ("tuple":Str)&&q.1.2.2.1 == ("list":Str)&&glob sc "tuple"&&glob sc "list"
 |t=>λe=>opt (shN e) λq=>q.1.1 == Str.ofString (tyN t)&&glob sc (Str.ofString (tyN t))
def U21:D→Bool
 |.dct=>true
 |_=>false
def ifB:Expr→Bool
 |.IfExp ..=>true
 |_=>false
def H40(lsc sc:Scope)(cs:List (Str × Nat)):Bool :=
 lsc.kind == .function&&!lsc.isCoroutine&&!lsc.isGenerator&&lsc.names.all (λy=>y.2 != .cell)&&lsc.names.all (λy=>y.2 != .free || sc.names.lookup y.1 == some .cell)&&cs.all (λp=>lsc.names.lookup p.1 == some .free)&&decide (cs.map (·.1)).Nodup
def mt:Bool→List (Str × List Str)→List (Str × Int)→Ex→Scope→List Str→List Expr→Bool
 |lm,fns,nums,.nil=>λ_ _ es=>es.isEmpty
 |lm,fns,nums,.cons a r=>λsc N es=>match es with
  |e::es=>noStar e&&!isL a&&isL r&&mt lm fns nums a sc N [e]&&mt lm fns nums r sc N es
  |[]=>false
 |lm,fns,nums,.var i=>λ_ N es=>opt (p22 es) λq=>N[i]? == some q.1.1&&b30 q.1.1
 |lm,fns,nums,.con d=>λ_ _ es=>(opt (h52 es) λq=>U01 q.1.1 d) || opt (h62 es) λ_=>U21 d
 |lm,fns,nums,.gint g i=>λsc _ es=>opt (p22 es) λq=>q.1.1 == g&&glob sc q.1.1&&nums.contains (g,i)
 |lm,fns,nums,.tup as=>λsc N es=>opt (h72 es) λq=>isL as&&mt lm fns nums as sc N q.1.1
 |lm,fns,nums,.lst as=>λsc N es=>opt (h82 es) λq=>isL as&&mt lm fns nums as sc N q.1.1
 |lm,fns,nums,.bin o a b=>λsc N es=>opt (h92 es) λq=>q.1.2.1 == opB o&&!isL a&&!isL b&&mt lm fns nums a sc N [q.1.1]&&mt lm fns nums b sc N [q.1.2.2.1]
 |lm,fns,nums,.cmp o a b=>λsc N es=>opt (i02 es) λq=>q.1.2.1 == opC o&&o60 q.1.2.2.1&&!isL a&&!isL b&&mt lm fns nums a sc N [q.1.1]&&mt lm fns nums b sc N [q.1.2.2.1]
 |lm,fns,nums,.neg a=>λsc N es=>opt (i22 es) λq=>!isL a&&mt lm fns nums a sc N [q.1.1]
 |lm,fns,nums,.not a=>λsc N es=>opt (i32 es) λq=>!isL a&&!ifB q.1.1&&mt lm fns nums a sc N [q.1.1]
 |lm,fns,nums,.and a b=>λsc N es=>opt (i42 es) λq=>!isL a&&!isL b&&!ifB q.1.1&&mt lm fns nums a sc N [q.1.1]&&(if q.1.2.2.1.isEmpty then !ifB q.1.2.1&&mt lm fns nums b sc N [q.1.2.1] else mt lm fns nums b sc N [.BoolOp .And (q.1.2.1::q.1.2.2.1) q.1.2.2.2])
 |lm,fns,nums,.or a b=>λsc N es=>opt (p32 es) λq=>!isL a&&!isL b&&!ifB q.1.1&&mt lm fns nums a sc N [q.1.1]&&(if q.1.2.2.1.isEmpty then !ifB q.1.2.1&&mt lm fns nums b sc N [q.1.2.1] else mt lm fns nums b sc N [.BoolOp .Or (q.1.2.1::q.1.2.2.1) q.1.2.2.2])
 |lm,fns,nums,.orT a b=>λsc N es=>opt (p32 es) λq=>!isL a&&!isL b&&q.1.2.2.1.isEmpty&&mt lm fns nums a sc N [q.1.1]&&mt lm fns nums b sc N [q.1.2.1]
 |lm,fns,nums,.ite c a b=>λsc N es=>opt (i52 es) λq=>!isL c&&!isL a&&!isL b&&!ifB q.1.1&&mt lm fns nums c sc N [q.1.1]&&mt lm fns nums a sc N [q.1.2.1]&&mt lm fns nums b sc N [q.1.2.2.1]
 |lm,fns,nums,.ch o o' a b c=>λsc N es=>opt (t42 es) λq=>q.1.2.1 == opC o&&q.1.2.2.1 == opC o'&&o60 q.1.2.2.2.2.1&&!isL a&&!isL b&&!isL c&&mt lm fns nums a sc N [q.1.1]&&mt lm fns nums b sc N [q.1.2.2.2.1]&&mt lm fns nums c sc N [q.1.2.2.2.2.1]
 |lm,fns,nums,.bf f as=>λsc N es=>opt (p42 es) λq=>served f&&q.1.1 == (bfN f).1&&glob sc q.1.1&&isL as&&mt lm fns nums as sc N (q.1.2.2.1::q.1.2.2.2.1)
 |lm,fns,nums,.isi t a=>λsc N es=>opt (i62 es) λq=>q.1.1 == ("isinstance":Str)&&glob sc q.1.1&&noStar q.1.2.2.1&&!isL a&&mt lm fns nums a sc N [q.1.2.2.1]&&tyE sc t q.1.2.2.2.1
 |lm,fns,nums,.idx a i=>λsc N es=>opt (t52 es) λq=>v40 q.1.2.1&&!isL a&&!isL i&&mt lm fns nums a sc N [q.1.1]&&mt lm fns nums i sc N [q.1.2.1]
 |lm,fns,nums,.sl a lo hi=>λsc N es=>opt (t62 es) λq=>!isL a&&isL lo&&isL hi&&mt lm fns nums a sc N [q.1.1]&&mt lm fns nums lo sc N q.1.2.1.toList&&mt lm fns nums hi sc N q.1.2.2.1.toList
 |lm,fns,nums,.call f as=>λsc N es=>opt (p42 es) λq=>(opt fns[f]? λp=>p.1 == q.1.1&&p.2.length == q.1.2.2.2.1.length + 1)&&glob sc q.1.1&&isL as&&mt lm fns nums as sc N (q.1.2.2.1::q.1.2.2.2.1)
 |lm,fns,nums,.comp own capt p it src cond el=>λsc N es=>opt (U11 es) λq =>
   (c60 q.1.2.1).length == own&&(a90 N capt).length == capt.length&&H30 q.1.2.2.2.2.1 sc N (c60 q.1.2.1) (a90 N capt)&&g90 (c60 q.1.2.1++(a90 N capt).map (·.1)) (λx=>(c60 q.1.2.1).contains x) p q.1.2.1&&isL src&&!isL el&&isL cond&&q.1.2.2.2.1.length≤1&&noStar q.1.1&&o60 q.1.2.2.1 &&
    q.1.2.2.2.1.all (λc=>!ifB c) &&
    (match it with
    |.seq=>mt lm fns nums src sc N [q.1.2.2.1]
    |.rng1=>opt (L91 q.1.2.2.1) λr=>r.1.1 == ("range":Str)&&glob sc r.1.1&&mt lm fns nums src sc N [r.1.2.2.1]
    |.rng2=>opt (M01 q.1.2.2.1) λr=>r.1.1 == ("range":Str)&&glob sc r.1.1&&mt lm fns nums src sc N [r.1.2.2.1,r.1.2.2.2.1]
    |.zip=>opt (M01 q.1.2.2.1) λr=>r.1.1 == ("zip":Str)&&glob sc r.1.1&&j20 q.1.2.1&&mt lm fns nums src sc N [r.1.2.2.1,r.1.2.2.2.1]
    |.enum=>opt (L91 q.1.2.2.1) λr=>r.1.1 == ("enumerate":Str)&&glob sc r.1.1&&j20 q.1.2.1&&mt lm fns nums src sc N [r.1.2.2.1])&&mt false fns nums cond q.1.2.2.2.2.1 (c60 q.1.2.1++(a90 N capt).map (·.1)) q.1.2.2.2.1&&mt false fns nums el q.1.2.2.2.2.1 (c60 q.1.2.1++(a90 N capt).map (·.1)) [q.1.1]
 |lm,fns,nums,.lrng b as=>λsc N es=>opt (t82 es) λq=>q.1.1 == lrN b&&q.1.2.2.1 == ("range":Str)&&glob sc (lrN b)&&glob sc "range"&&isL as&&decide (1≤q.1.2.2.2.2.1.length∧q.1.2.2.2.2.1.length≤2)&&mt lm fns nums as sc N q.1.2.2.2.2.1
 |lm,fns,nums,.zget i k=>λ_ N es=>opt (t72 es) λq=>N[i]? == some q.1.1&&b30 q.1.1&&q.1.2.2.1 == (k:Int)
 |lm,fns,nums,.refd capt a=>λsc N es=>opt (i72 es) λq=>lm&&q.1.1 == ("_law_refused":Str)&&glob sc "_law_refused"&&(a90 N capt).length == capt.length&&H40 q.1.2.2.2.1 sc (a90 N capt)&&!isL a&&mt false fns nums a q.1.2.2.2.1 ((a90 N capt).map (·.1)) [q.1.2.2.1]
theorem d10{sc:Scope}{x:Str}(h:glob sc x=true):sc.names.lookup x=some .globalImplicit∧(x == ("__debug__":Str))=false∧x≠"__name__":=by
 unfold glob at h
 simp only[and_eq_true,not_eq_true',beq_iff_eq] at h
 refine⟨h.1.1,h.1.2,λe=>?_⟩
 subst e
 simp at h
section
variable {lm:Bool}{X:Cx}{G:Gs}{E:XK}{N:List Str}{sc:Scope}
theorem U31{K:PySem.W.Frag}{zA:Option Addr}{H0 H:Hp}{s:S}{v:V}(h:RvP K zA H s v):RvS K zA H0 H (plS s) v:=by cases s <;> exact h
theorem H01(h:(!ifB e)=true):∀ t a b p,e≠.IfExp t a b p:=by
 intro t a b p he
 subst he
 cases h
theorem a70(hL:isL x=false)(h:Good X G E x [e]):b00 X G E x e:=by
 cases x with
 |nil=>cases hL
 |cons _ _=>cases hL
 |_ =>
  obtain⟨e',h1,h2⟩:=(show ∃ e',[e]=[e']∧b00 X G E _ e' from h)
  cases h1
  exact h2
theorem b60(hL:isL x=false)(h:b00 X G E x e):Good X G E x [e]:=by
 cases x with
 |nil=>cases hL
 |cons _ _=>cases hL
 |_=>exact⟨e,rfl,h⟩
theorem e90(po:M60 X.K G zA E H Q r):∀ c z1,r=.er c z1→EPost G zA E c z1 H:=λc z1 e=>by subst e;exact po
theorem H50(po:u71 G zA E H Q r):∀ c z1,r=.er c z1→EPost G zA E c z1 H:=λc z1 e=>by subst e;exact po
theorem i82(x:XI lm X G E N sc){i:Nat}{n:Str}{pos:Pos}(h1:N[i]?=some n)(h2:b30 n=true):b00 X G E (.var i) (.Name n pos):=by
 unfold b30 at h2
 simp only[and_eq_true,not_eq_true'] at h2
 refine b10 (PE.imp (h00 (i:=i) (by rw[x.hN];exact h1) (x.vis n (mem_of_getElem? h1)) h2.1 h2.2) λσ H Q q=>?_) rfl
 obtain⟨zA,ρ,z,r,rel,st,e,po⟩:=q
 have e':(match ρ[i]? with | some (some s)=>M.ret [plS s] | _=>M.no) z=some r:=e
 cases hs:ρ[i]? with
 |none=>rw[hs] at e';cases e'
 |some o =>
  cases o with
  |none=>rw[hs] at e';cases e'
  |some s =>
   rw[hs] at e'
   cases e'
   obtain⟨v,hv,rv⟩:=rel i s hs
   obtain⟨s',e',po⟩:=po
   cases e'
   exact⟨v,hv,po v H Ext.refl st (U31 rv)⟩
theorem i92(h:U01 c d=true):b00 X G E (.con d) (.Constant c j pos):=by
 refine b10 ?_ rfl
 have fin:∀ {v:V},(∀ H,Hd X.K H d v)→∀ σ H Q,tI X.K G E (.con d) σ H Q→tC v σ H Q:=λ{v} hd σ H Q q=>by
  obtain⟨zA,ρ,z,r,rel,st,e,po⟩:=q
  cases e
  obtain⟨s',e',po⟩:=po
  cases e'
  exact po v H Ext.refl st (p21 (hd _))
 cases c with
 |int i=>cases d <;> first | (simp only[U01,beq_iff_eq] at h;subst h;exact PE.imp P20 (fin λH=>Hd.int)) | (cases h)
 |bool b=>cases d <;> first | (simp only[U01,beq_iff_eq] at h;subst h;exact PE.imp d22 (fin λH=>Hd.bl)) | (cases h)
 |str y=>cases d <;> first | (simp only[U01,beq_iff_eq] at h;subst h;exact PE.imp x91 (fin λH=>Hd.str)) | (cases h)
 |none=>cases d <;> first | exact PE.imp Z80 (fin λH=>Hd.non) | (cases h)
 |_=>cases h
theorem j02:b00 X G E (.con .dct) (.Dict [] [] pos):=by
 refine b10 (PE.imp E21 λσ H Q q=>?_) rfl
 obtain⟨zA,ρ,z,r,rel,st,e,po⟩:=q
 cases e
 obtain⟨s',e',po⟩:=po
 cases e'
 intro p hp
 refine po _ _ (Ext.of (a10.new _ hp)) (st.same (a10.new _ hp)) (p21 ?_)
 unfold Hd
 exact⟨p,[],rfl,c80 a80 (st.R00 hp)⟩
theorem U41(x:XI lm X G E N sc){g:Str}{i:Int}{pos:Pos}(h1:glob sc g=true)(h2:(g,i)∈G.nums):b00 X G E (.gint g i) (.Name g pos):=by
 obtain⟨k1,k2,_⟩:=d10 h1
 obtain⟨t,ht⟩:=x.num _ h2
 refine b10 (PE.imp (e30 (v:=.int i) (x.glb g k1) ht ⟨t,rfl⟩ k2) λσ H Q q=>?_) rfl
 obtain⟨zA,ρ,z,r,rel,st,e,po⟩:=q
 cases e
 obtain⟨s',e',po⟩:=po
 cases e'
 exact po _ H Ext.refl st g00
theorem C00{K:PySem.W.Frag}{zA:Option Addr}{H0 H:Hp}{l:List S}{vs:List V}{ds:List D}(h:Paired (RvS K zA H0 H) l vs)(e:plA l=some ds):HdA K (hz zA H) ds vs:=RvA.ds (Paired.x81 h λ_ _ q=>q.pl) e
theorem j12{as:Ex}{l:List Expr}{k:Nat}{pos:Pos}(hL:isL as=true)(g:Good X G E as l):b00 X G E (.tup as) (.Tuple l k pos):=by
 refine b10 (PE.imp (y41 (g.args hL).1) λσ H Q q=>?_) rfl
 obtain⟨zA,ρ,z,r,rel,st,e,po⟩:=q
 refine X40 rel st e (e90 po) λl z1 e1 vs H1 x1 st1 rvs=>?_
 obtain⟨ds,hd,e2⟩:=M.a00 e1
 split at e2
 ·rename_i hm
  cases e2
  obtain⟨s',e',po⟩:=po
  cases e'
  have h:=C00 rvs hd
  exact⟨d80 (by rw[h.length];exact hm),λp hp=>po _ _ (x1.trans (Ext.of (a10.new _ hp))) (st1.same (a10.new _ hp)) (p21 (Hd.tup ((st1.same (a10.new _ hp)).F31 (SqT.of a80)) (h.same (h50 (a10.new _ hp)))))⟩
 ·cases e2
theorem j22{as:Ex}{l:List Expr}{pos:Pos}(hL:isL as=true)(g:Good X G E as l):b00 X G E (.lst as) (.List l pos):=by
 refine b10 (PE.imp (a81 (g.args hL).1) λσ H Q q=>?_) rfl
 obtain⟨zA,ρ,z,r,rel,st,e,po⟩:=q
 refine X40 rel st e (e90 po) λl z1 e1 vs H1 x1 st1 rvs=>?_
 obtain⟨ds,hd,e2⟩:=M.a00 e1
 split at e2
 ·rename_i hm
  cases e2
  obtain⟨s',e',po⟩:=po
  cases e'
  have h:=C00 rvs hd
  exact⟨d80 (by rw[h.length];exact hm),λp hp=>po _ _ (x1.trans (Ext.of (a10.new _ hp))) (st1.same (a10.new _ hp)) ((k30 st1 h hp).from x1)⟩
 ·cases e2
theorem R50{α:Type}{a b:Ex}{k:D→D→M α}{zA:Option Addr}{ρ:Env}{z:Z}{r:R α}{σ:L2.St}{H:Hp}{Q:V→V→Hp→Prop}(rel:q10 X.K zA H ρ σ)(st:c30 zA z H)
  (h:M.bind (ev G.F a ρ) (λx=>M.bind (M.of (pl x)) λx=>M.bind (ev G.F b ρ) λy=>M.bind (M.of (pl y)) λy=>k x y) z=some r) (her:∀ c z1,r=.er c z1→EPost G zA E c z1 H)
  (hk:∀ dx dy z2 v w H2,k dx dy z2=some r→Ext zA H H2→c30 zA z2 H2→Hd X.K (hz zA H2) dx v→Hd X.K (hz zA H2) dy w→Q v w H2) :
  tI X.K G E a σ H λv H1=>tI X.K G E b σ H1 λw H2=>Q v w H2:=by
 refine g80 rel st h her λl z1 e1=>?_
 obtain⟨dx,p1,e2⟩:=M.a00 e1
 obtain⟨s1,rfl,q1⟩:=d70 p1
 refine⟨s1,rfl,λv H1 x1 st1 rv=>?_⟩
 refine g80 (rel.mono x1) st1 e2 (λc z2 q=>(her c z2 q).mono x1) λm z2 e3=>?_
 obtain⟨dy,p2,e4⟩:=M.a00 e3
 obtain⟨s2,rfl,q2⟩:=d70 p2
 exact⟨s2,rfl,λw H2 x2 st2 rw'=>hk dx dy z2 v w H2 e4 (x1.trans x2) st2 ((rv.pl.mono x2).d_ q1) (rw'.pl.d_ q2)⟩
theorem e20{zA:Option Addr}{H H2:Hp}{z2:Z}{s:S}{Q:VK}(po:M60 X.K G zA E H Q (.ok [s] z2))(x:Ext zA H H2)(st:c30 zA z2 H2):∀ v H',a10 H2 H'→RvS X.K zA H2 H' s v→Q v H':=λv H' sm rv=>by
 obtain⟨s',e',po⟩:=po
 cases e'
 exact po v H' (x.trans (Ext.of sm)) (st.same sm) (rv.from x)
theorem j32(ga:b00 X G E a l)(gb:b00 X G E b r):b00 X G E (.bin o a b) (.BinOp l (opB o) r pos):=by
 refine b10 (PE.imp (p91 (opD o) ga.pe gb.pe) λσ H Q q=>?_) rfl
 obtain⟨zA,ρ,z,rr,rel,st,e,po⟩:=q
 refine R50 rel st e (e90 po) λdx dy z2 v w H2 e2 x2 st2 h1 h2=>?_
 obtain⟨s,hs,e3⟩:=M.a00 e2
 cases e3
 exact⟨zA,z2,dx,dy,s,st2,h1,h2,hs,e20 po x2 st2⟩
theorem z81(po:u71 G zA E H Q r):M60 X.K G zA E H (λx H'=>∃ k,x=.bl k∧Q k H') r:=by
 cases r with
 |er c z1=>exact po
 |ok l z1 =>
  obtain⟨b,rfl,po⟩:=po
  exact⟨_,rfl,λv H' ex st' rv=>⟨b,Hd.bl_ (show Hd X.K (hz zA H') (.bl b) v from rv),po H' ex st'⟩⟩
theorem j42(x:XI lm X G E N sc)(hs:o60 r=true)(ga:b00 X G E a l)(gb:b00 X G E b r):b00 X G E (.cmp o a b) (.Compare l [opC o] [r] pos):=by
 have key:∀ σ H Q,tI X.K G E (.cmp o a b) σ H Q→tOp (rD2 X.K λa b=>(p90 o a b).map λc=>.d (.bl c)) (tI X.K G E a) (tI X.K G E b) σ H Q:=λσ H Q q=>by
  obtain⟨zA,ρ,z,rr,rel,st,e,po⟩:=q
  refine R50 rel st e (e90 po) λdx dy z2 v w H2 e2 x2 st2 h1 h2=>?_
  obtain⟨c,hc,e3⟩:=M.a00 e2
  cases e3
  exact⟨zA,z2,dx,dy,_,st2,h1,h2,by show map _ (p90 o dx dy)=_;rw[hc];rfl,e20 po x2 st2⟩
 refine⟨PE.imp (C31 (G31 x.room.units o) ga.pe gb.pe (R40 hs _)) key,λ_=>PT.imp (a41 (G31 x.room.units o) ga.pe gb.pe (R40 hs _)) λσ H Q q=>?_,λop vs p h=>by cases h⟩
 obtain⟨zA,ρ,z,rr,rel,st,e,po⟩:=q
 exact key σ H _ ⟨zA,ρ,z,rr,rel,st,e,z81 po⟩
theorem j52(ga:b00 X G E a l):b00 X G E (.neg a) (.UnaryOp .USub l pos):=by
 refine b10 (PE.imp (e52 O71 ga.pe) λσ H Q q=>?_) rfl
 obtain⟨zA,ρ,z,rr,rel,st,e,po⟩:=q
 refine g80 rel st e (e90 po) λm z1 e1=>?_
 obtain⟨i,p1,e2⟩:=M.a00 e1
 obtain⟨d,p2,p3⟩:=Option.bind_eq_some_iff.mp p1
 obtain⟨s1,rfl,q1⟩:=d70 p2
 cases e2
 refine⟨s1,rfl,λv H1 x1 st1 rv=>?_⟩
 have hd:=rv.pl.d_ q1
 cases d with
 |int j =>
  cases p3
  exact⟨i,hd.g60,e20 po x1 st1 _ _ (a10.refl H1) g00⟩
 |_=>cases p3
theorem j62(ga:b00 X G E a l)(hn:∀ t x y p,l≠.IfExp t x y p):b00 X G E (.not a) (.UnaryOp .Not l pos):=by
 refine⟨PE.imp (N41 ga.pe) λσ H Q q=>?_,λ_=>PT.imp (y01 (ga.pt hn)) λσ H Q q=>?_,λop vs p h=>by cases h⟩
 ·obtain⟨zA,ρ,z,rr,rel,st,e,po⟩:=q
  refine g80 rel st e (e90 po) λm z1 e1=>?_
  obtain⟨b,p1,e2⟩:=M.a00 e1
  obtain⟨d,p2,p3⟩:=Option.bind_eq_some_iff.mp p1
  obtain⟨s1,rfl,q1⟩:=d70 p2
  cases e2
  refine⟨s1,rfl,λv H1 x1 st1 rv=>?_⟩
  have hd:=rv.pl.d_ q1
  cases d with
  |bl c =>
   cases p3
   exact⟨b,hd.bl_,e20 po x1 st1 _ _ (a10.refl H1) g70⟩
  |_=>cases p3
 ·obtain⟨zA,ρ,z,rr,rel,st,e,po⟩:=q
  refine H10 rel st e (H50 po) λb z1 e1 H1 x1 st1=>?_
  cases e1
  obtain⟨b',e',po⟩:=po
  cases e'
  exact po H1 x1 st1
end
end Q
namespace Q
open PySem L2 PySem.Spec PyProof.Rows
variable [TB:Tb]
section
variable {lm:Bool}{X:Cx}{G:Gs}{E:XK}{N:List Str}{sc:Scope}
theorem C10(rel:q10 X.K zA H ρ σ)(st:c30 zA z H)
  (h:M.bind (ev G.F a ρ) (λx=>M.bind (M.of ((pl x).bind asB)) k) z=some r) (her:∀ c z1,r=.er c z1→EPost G zA E c z1 H)
  (hok:∀ b z1,k b z1=some r→∀ H1,Ext zA H H1→c30 zA z1 H1→Q' (.bl b) H1):tI X.K G E a σ H Q':=by
 refine g80 rel st h her λm z1 e1=>?_
 obtain⟨b,p1,e2⟩:=M.a00 e1
 obtain⟨d,p2,p3⟩:=Option.bind_eq_some_iff.mp p1
 obtain⟨s1,rfl,q1⟩:=d70 p2
 refine⟨s1,rfl,λv H1 x1 st1 rv=>?_⟩
 have hd:=rv.pl.d_ q1
 cases d with
 |bl c =>
  cases p3
  rw[hd.bl_]
  exact hok b z1 e2 H1 x1 st1
 |_=>cases p3
theorem j72(ga:b00 X G E a l)(hl:∀ t x y p,l≠.IfExp t x y p)
  (gb:b00 X G E b (.BoolOp .And (r::vs) p)):b00 X G E (.and a b) (.BoolOp .And (l::r::vs) p):=by
 have pw:PW X (.BoolOp .And (l::r::vs) p) (tT X.K G E (.and a b)):=by
  refine PW.imp (N11 (ga.pt hl) (gb.pw _ _ _ rfl)) λσ H Q q=>?_
  obtain⟨zA,ρ,z,rr,rel,st,e,po⟩:=q
  refine H10 rel st e (H50 po) λc z1 e1 H1 x1 st1=>?_
  cases c with
  |true =>
   rw[if_pos rfl]
   rw[if_pos rfl] at e1
   refine H10 (rel.mono x1) st1 e1 (λc z2 q=>((H50 po) c z2 q).mono x1) λc z2 e2 H2 x2 st2=>?_
   cases e2
   obtain⟨b',e',po⟩:=po
   cases e'
   exact po H2 (x1.trans x2) st2
  |false =>
   rw[if_neg Bool.false_ne_true]
   rw[if_neg Bool.false_ne_true] at e1
   cases e1
   obtain⟨b',e',po⟩:=po
   cases e'
   exact po H1 x1 st1
 refine⟨PE.imp (N31 ga.pe gb.pe) λσ H Q q=>?_,λ_=>pw.pt,λop vs p h=>pw⟩
 obtain⟨zA,ρ,z,rr,rel,st,e,po⟩:=q
 refine C10 rel st e (e90 po) λc z1 e1 H1 x1 st1=>⟨c,rfl,?_⟩
 cases c with
 |true =>
  rw[if_pos rfl]
  rw[if_pos rfl] at e1
  refine C10 (rel.mono x1) st1 e1 (λc z2 q=>((e90 po) c z2 q).mono x1) λc z2 e2 H2 x2 st2=>?_
  cases e2
  exact e20 po (x1.trans x2) st2 _ _ (a10.refl H2) g70
 |false =>
  rw[if_neg Bool.false_ne_true]
  rw[if_neg Bool.false_ne_true] at e1
  cases e1
  exact e20 po x1 st1 _ _ (a10.refl H1) g70
theorem t92(ga:b00 X G E a l)(hl:∀ t x y p,l≠.IfExp t x y p)
  (gb:b00 X G E b (.BoolOp .Or (r::vs) p)):b00 X G E (.or a b) (.BoolOp .Or (l::r::vs) p):=by
 have pw:PW X (.BoolOp .Or (l::r::vs) p) (tT X.K G E (.or a b)):=by
  refine PW.imp (d32 (ga.pt hl) (gb.pw _ _ _ rfl)) λσ H Q q=>?_
  obtain⟨zA,ρ,z,rr,rel,st,e,po⟩:=q
  refine H10 rel st e (H50 po) λc z1 e1 H1 x1 st1=>?_
  cases c with
  |false =>
   rw[if_neg Bool.false_ne_true]
   rw[if_neg Bool.false_ne_true] at e1
   refine H10 (rel.mono x1) st1 e1 (λc z2 q=>((H50 po) c z2 q).mono x1) λc z2 e2 H2 x2 st2=>?_
   cases e2
   obtain⟨b',e',po⟩:=po
   cases e'
   exact po H2 (x1.trans x2) st2
  |true =>
   rw[if_pos rfl]
   rw[if_pos rfl] at e1
   cases e1
   obtain⟨b',e',po⟩:=po
   cases e'
   exact po H1 x1 st1
 refine⟨PE.imp (d62 ga.pe gb.pe) λσ H Q q=>?_,λ_=>pw.pt,λop vs p h=>pw⟩
 obtain⟨zA,ρ,z,rr,rel,st,e,po⟩:=q
 refine C10 rel st e (e90 po) λc z1 e1 H1 x1 st1=>⟨c,rfl,?_⟩
 cases c with
 |false =>
  rw[if_neg Bool.false_ne_true]
  rw[if_neg Bool.false_ne_true] at e1
  refine C10 (rel.mono x1) st1 e1 (λc z2 q=>((e90 po) c z2 q).mono x1) λc z2 e2 H2 x2 st2=>?_
  cases e2
  exact e20 po (x1.trans x2) st2 _ _ (a10.refl H2) g70
 |true =>
  rw[if_pos rfl]
  rw[if_pos rfl] at e1
  cases e1
  exact e20 po x1 st1 _ _ (a10.refl H1) g70
theorem U51(gb:b00 X G E b r)(hr:∀ t x y p,r≠.IfExp t x y p):b00 X G E b (.BoolOp op [r] p):=by
 have pw:PW X (.BoolOp op [r] p) (tT X.K G E b):=by
  cases op with
  |And=>exact B81 (gb.pt hr)
  |Or=>exact N01 (gb.pt hr)
 exact⟨N21 gb.pe,λ_=>pw.pt,λ_ _ _ _=>pw⟩
theorem M60.U61(po:M60 X.K G zA E H Q rr)(x1:Ext zA H H1):M60 X.K G zA E H1 Q rr:=by
 cases rr with
 |er c z1=>exact EPost.mono po x1
 |ok l z2 =>
  obtain⟨s,e',po⟩:=po
  exact⟨s,e',λv H' x' st' rv=>po v H' (x1.trans x') st' (rv.from x1)⟩
theorem H60{α:Type}{m:M α}{z:Z}{r:R α}(h:M.calm m z=some r):m z=some r∧∃ a z1,r=.ok a z1:=by
 unfold M.calm at h
 split at h
 ·rename_i a z1 e
  cases h
  exact⟨e,a,z1,rfl⟩
 ·cases h
theorem U71(ha:PE X a ta)(hb:PE X b tb):PE X (.BoolOp .Or [a,b] pos) (λσ H Q=>ta σ H λx H1=>∃ t xs,x=.ref t∧SqT X.K H1 t xs∧if xs.isEmpty=true then tb σ H1 Q else Q x H1):=by
 intro pins s σ H Q I h
 refine BoolOp_or (thn (ha pins s σ H _ I h) λv s1 ⟨x,H1,I1,r1,q1⟩=>?_)
 obtain⟨t,xs,rfl,hq,q1⟩:=q1
 obtain⟨its,hv,ht,hl⟩:=I1.tuple hq
 have hlen:xs.length=its.length:=hv.length
 cases r1
 refine truthy_tuple ht (by rw[size_toArray,← hlen];have:=sizeLine_eq;omega) ?_
 cases xs with
 |nil =>
  cases its with
  |nil=>exact BoolOp_one (hb pins _ σ H1 Q (I1.tok _) q1)
  |cons _ _=>cases hlen
 |cons y r =>
  cases its with
  |nil=>cases hlen
  |cons _ _=>exact⟨.ref t,H1,I1.tok _,rfl,q1⟩
theorem z91(h:(pl y).bind R61=some l):∃ s,y=[s]∧plD s=some (.tup l):=by
 obtain⟨d,p2,p3⟩:=Option.bind_eq_some_iff.mp h
 obtain⟨s1,rfl,q1⟩:=d70 p2
 cases d with
 |tup l=>cases p3;exact⟨s1,rfl,q1⟩
 |_=>cases p3
theorem j82(ga:b00 X G E a l)(gb:b00 X G E b r):b00 X G E (.orT a b) (.BoolOp .Or [l,r] p):=by
 have no:∀ {zA:Option Addr}{ρ:Env}{z:Z}{rr:R (List S)}{H:Hp}{Q:Bool→Hp→Prop},ev G.F (.orT a b) ρ z=some rr→u71 G zA E H Q rr→False:=λe po=>by
  obtain⟨e,u,z1,rfl⟩:=H60 e
  obtain⟨c,rfl,_⟩:=po
  rcases M.bind_some e with ⟨m,z2,_,e2⟩ | ⟨c,z2,_,e2⟩
  ·obtain⟨ds,_,e3⟩:=M.a00 e2
   split at e3
   ·rcases M.bind_some e3 with ⟨m,z2,_,e2⟩ | ⟨c,z2,_,e2⟩
    ·obtain⟨ds,_,e3⟩:=M.a00 e2
     cases e3
    ·cases e2
   ·cases e3
  ·cases e2
 refine⟨PE.imp (U71 ga.pe gb.pe) λσ H Q q=>?_,λ_ pins s σ H Q I ⟨_,_,_,_,_,_,e,po⟩=>(no e po).elim,λ_ _ _ _ wh pins s σ H Q I ⟨_,_,_,_,_,_,e,po⟩=>(no e po).elim⟩
 obtain⟨zA,ρ,z,rr,rel,st,e,po⟩:=q
 obtain⟨e,u,z1,rfl⟩:=H60 e
 refine g80 rel st e (e90 po) λm z1 e1=>?_
 obtain⟨ds,p1,e2⟩:=M.a00 e1
 obtain⟨s1,rfl,q1⟩:=z91 p1
 refine⟨s1,rfl,λv H1 x1 st1 rv=>?_⟩
 have hd:=rv.pl.d_ q1
 obtain⟨t,xs,rfl,h1,h2⟩:=hd.u70
 refine⟨t,xs,rfl,(a30 zA H1).sqT h1,?_⟩
 cases ds with
 |nil =>
  cases h2.e10
  have po:=po.U61 x1
  refine g80 (rel.mono x1) st1 e2 (e90 po) λm z1 e1=>?_
  obtain⟨ds,p1,e2⟩:=M.a00 e1
  obtain⟨s1,rfl,q1⟩:=z91 p1
  cases e2
  exact⟨s1,rfl,λv H2 x2 st2 rv=>e20 po x2 st2 _ _ (a10.refl H2) (rv.pl.d_ q1)⟩
 |cons y r =>
  obtain⟨u,w,rfl,_⟩:=h2.b70
  cases e2
  exact e20 po x1 st1 _ _ (a10.refl H1) hd
theorem j92(gc:b00 X G E c t)(ht:∀ a b d p,t≠.IfExp a b d p)(ga:b00 X G E a x)(gb:b00 X G E b y):b00 X G E (.ite c a b) (.IfExp t x y p):=by
 refine⟨PE.imp (p61 (gc.pt ht) ga.pe gb.pe) λσ H Q q=>?_,λh=>absurd rfl (h t x y p),λop vs p h=>by cases h⟩
 obtain⟨zA,ρ,z,rr,rel,st,e,po⟩:=q
 refine H10 rel st e (e90 po) λk z1 e1 H1 x1 st1=>?_
 have po1:=po.U61 x1
 cases k with
 |true =>
  rw[if_pos rfl]
  rw[if_pos rfl] at e1
  exact⟨zA,ρ,z1,rr,rel.mono x1,st1,e1,po1⟩
 |false =>
  rw[if_neg Bool.false_ne_true]
  rw[if_neg Bool.false_ne_true] at e1
  exact⟨zA,ρ,z1,rr,rel.mono x1,st1,e1,po1⟩
theorem u02(x:XI lm X G E N sc)(hs:o60 s=true)(ga:b00 X G E a l)(gb:b00 X G E b r)(gc:b00 X G E c s):b00 X G E (.ch o o' a b c) (.Compare l [opC o,opC o'] [r,s] pos):=by
 have hm:lastMarks [opC o,opC o'] [r,s]=false:=R40 hs _
 have key:∀ σ H Q,tI X.K G E (.ch o o' a b c) σ H Q→a51 (rD2 X.K λa b=>(p90 o a b).map λc=>.d (.bl c)) (rD2 X.K λa b=>(p90 o' a b).map λc=>.d (.bl c)) (tI X.K G E a) (tI X.K G E b) (tI X.K G E c) σ H Q:=λσ H Q q=>by
  obtain⟨zA,ρ,z,rr,rel,st,e,po⟩:=q
  refine R50 rel st e (e90 po) λdx dy z2 v w H2 e2 x2 st2 h1 h2=>?_
  obtain⟨k,hk,e3⟩:=M.a00 e2
  refine⟨zA,z2,dx,dy,.d (.bl k),st2,h1,h2,by show map _ (p90 o dx dy)=_;rw[hk];rfl,λv3 H3 sm rv=>⟨k,Hd.bl_ (show Hd X.K (hz zA H3) (.bl k) v3 from rv),?_⟩⟩
  have x3:=x2.trans (Ext.of sm)
  have st3:=st2.same sm
  cases k with
  |true =>
   rw[if_pos rfl]
   rw[if_pos rfl] at e3
   refine g80 (rel.mono x3) st3 e3 (λc z2 q=>((e90 po) c z2 q).mono x3) λm z4 e4=>?_
   obtain⟨dw,p1,e5⟩:=M.a00 e4
   obtain⟨k',hk',e6⟩:=M.a00 e5
   obtain⟨s1,rfl,q1⟩:=d70 p1
   cases e6
   refine⟨s1,rfl,λv4 H4 x4 st4 rv4=>?_⟩
   exact⟨zA,z4,dy,dw,_,st4,(h2.same (a10.trans (h50 sm) x4)),rv4.pl.d_ q1,by show map _ (p90 o' dy dw)=_;rw[hk'];rfl,e20 po (x3.trans x4) st4⟩
  |false =>
   rw[if_neg Bool.false_ne_true]
   rw[if_neg Bool.false_ne_true] at e3
   cases e3
   exact e20 po x3 st3 _ _ (a10.refl H3) g70
 refine⟨PE.imp (q01 (G31 x.room.units o) (G31 x.room.units o') ga.pe gb.pe gc.pe hm) key,λ_=>PT.imp (q11 (G31 x.room.units o) (G31 x.room.units o') ga.pe gb.pe gc.pe hm) λσ H Q q=>?_,λop vs p h=>by cases h⟩
 obtain⟨zA,ρ,z,rr,rel,st,e,po⟩:=q
 exact key σ H _ ⟨zA,ρ,z,rr,rel,st,e,z81 po⟩
theorem A01:∀ σ H Q,tI X.K G E (.bf f as) σ H Q→tCB (rDn X.K (bfD f)) (tA X.K G E as) σ H Q:=λσ H Q q=>by
 obtain⟨zA,ρ,z,rr,rel,st,e,po⟩:=q
 refine X40 rel st e (e90 po) λl z1 e1 vs H1 x1 st1 rvs=>?_
 obtain⟨ds,hd,e2⟩:=M.a00 e1
 obtain⟨s,hs,e3⟩:=M.a00 e2
 cases e3
 exact⟨zA,z1,ds,s,st1,C00 rvs hd,hs,e20 po x1 st1⟩
theorem M70(x:XI lm X G E N sc){f:Bf}{as:Ex}{n:Str}{id:String}{e:Expr}{l:List Expr}{p pos:Pos}(hc:e40 X (.builtin id) (rDn X.K (bfD f)))(hb:n∈G91)(hv:bootBuiltins n=some (.builtin id))(hg:glob sc n=true)(hL:isL as=true)(g:Good X G E as (e::l)):b00 X G E (.bf f as) (.Call (.Name n p) (e::l) [] pos):=by
 obtain⟨k1,k2,k3⟩:=d10 hg
 obtain⟨ha,hs⟩:=g.args hL
 rw[all_cons,and_eq_true] at hs
 exact b10 (PE.imp (s50 hc (x.glb n k1) (x.blt n hb) hv ha k3 k2 (c40 hs.1 l X.env) (o50 X.env pos hs.2)) A01) rfl
theorem H11(x:XI lm X G E N sc){f:Bf}{as:Ex}{n:Str}{T:String}{e:Expr}{l:List Expr}{p pos:Pos}(hc:e40 X (.type T) (rDn X.K (bfD f)))(hb:n∈G91)(hv:bootBuiltins n=some (.type T))(hg:glob sc n=true)(hL:isL as=true)(g:Good X G E as (e::l)):b00 X G E (.bf f as) (.Call (.Name n p) (e::l) [] pos):=by
 obtain⟨k1,k2,k3⟩:=d10 hg
 obtain⟨ha,hs⟩:=g.args hL
 rw[all_cons,and_eq_true] at hs
 exact b10 (PE.imp (a91 hc (x.glb n k1) (x.blt n hb) hv ha k3 k2 (c40 hs.1 l X.env) (o50 X.env pos hs.2)) A01) rfl
theorem U81:bootBuiltins "len"=some (.builtin "len"):=by decide +kernel
theorem g51:bootBuiltins "sorted"=some (.builtin "sorted"):=by decide +kernel
theorem U91:bootBuiltins "all"=some (.builtin "all"):=by decide +kernel
theorem V01:bootBuiltins "sum"=some (.builtin "sum"):=by decide +kernel
theorem V11:bootBuiltins "min"=some (.builtin "min"):=by decide +kernel
theorem V21:bootBuiltins "max"=some (.builtin "max"):=by decide +kernel
theorem V31:bootBuiltins "abs"=some (.builtin "abs"):=by decide +kernel
theorem o70:bootBuiltins "isinstance"=some (.builtin "isinstance"):=by decide +kernel
theorem V41:bootBuiltins "int"=some (.type "int"):=by decide +kernel
theorem C20:bootBuiltins "tuple"=some (.type "tuple"):=by decide +kernel
theorem M80:bootBuiltins "list"=some (.type "list"):=by decide +kernel
theorem u12(x:XI lm X G E N sc){f:Bf}{as:Ex}{n:Str}{e:Expr}{l:List Expr}{p pos:Pos}(hf:served f=true)(hn:n=(bfN f).1)(hg:glob sc n=true)(hL:isL as=true)(g:Good X G E as (e::l)):b00 X G E (.bf f as) (.Call (.Name n p) (e::l) [] pos):=by
 subst hn
 cases f with
 |len=>exact M70 x T31 (by decide) U81 hg hL g
 |tuple=>exact H11 x u31 (by decide) C20 hg hL g
 |list=>exact H11 x G41 (by decide) M80 hg hL g
 |min=>exact M70 x (T61 x.calm) (by decide) V11 hg hL g
 |max=>exact M70 x (T71 x.calm) (by decide) V21 hg hL g
 |abs=>exact M70 x T81 (by decide) V31 hg hL g
 |all=>exact M70 x (T41 x.calm) (by decide) U91 hg hL g
 |int=>exact H11 x T91 (by decide) V41 hg hL g
 |sorted=>exact M70 x (g31 x.room.units) (by decide) g51 hg hL g
 |sum=>exact M70 x (T51 x.calm) (by decide) V01 hg hL g
 |_=>cases hf
theorem k02(t:Ty)(h:t≠.seq):Str.ofString (tyN t)∈G91∧bootBuiltins (Str.ofString (tyN t))=some (.type (tyN t))∧tyN t∈["int","bool","tuple","list","str"]:=by
 cases t with
 |seq=>exact absurd rfl h
 |_=>decide +kernel
theorem V51(x:XI lm X G E N sc){t:Ty}{a:Ex}{n:Str}{e:Expr}{p pos p2:Pos}(hs:t≠.seq)
  (hg2:glob sc (Str.ofString (tyN t))=true) (hn:n="isinstance") (hg:glob sc n=true) (ns:noStar e=true) (ga:b00 X G E a e):b00 X G E (.isi t a) (.Call (.Name n p) [e,.Name (Str.ofString (tyN t)) p2] [] pos):=by
 obtain⟨hb,hv,ht⟩:=k02 t hs
 subst hn
 obtain⟨k1,k2,k3⟩:=d10 hg
 obtain⟨m1,m2,m3⟩:=d10 hg2
 refine b10 (PE.imp (s50 s61 (x.glb _ k1) (x.blt _ (by decide)) o70 (d20 ga.pe (d20 (z20 (v:=.ty (tyN t)) (x.glb _ m1) (x.blt _ hb) hv rfl m3 m2) j80) (c40 ns _ _)) k3 k2 (c40 ns _ _) rfl) λσ H Q q=>?_) rfl
 obtain⟨zA,ρ,z,rr,rel,st,e,po⟩:=q
 refine g80 rel st e (e90 po) λm z1 e1=>?_
 obtain⟨d,p1,e2⟩:=M.a00 e1
 obtain⟨s1,rfl,q1⟩:=d70 p1
 cases e2
 refine⟨s1,rfl,λv H1 x1 st1 rv=>⟨d,v,tyN t,rfl,((rv.pl.d_ q1).same (a30 zA H1)).has,ht,?_⟩⟩
 rw[G51 t d hs]
 exact e20 po x1 st1 _ _ (a10.refl H1) g70
theorem V61(x:XI lm X G E N sc){a:Ex}{n:Str}{e:Expr}{p pos p1 p2 p3:Pos}{k:Nat}(hg2:glob sc "tuple"=true)(hg3:glob sc "list"=true)(hn:n="isinstance")(hg:glob sc n=true)(ns:noStar e=true)(ga:b00 X G E a e) :
  b00 X G E (.isi .seq a) (.Call (.Name n p) [e,.Tuple [.Name "tuple" p1,.Name "list" p2] k p3] [] pos):=by
 subst hn
 obtain⟨k1,k2,k3⟩:=d10 hg
 obtain⟨m1,m2,m3⟩:=d10 hg2
 obtain⟨l1,l2,l3⟩:=d10 hg3
 refine b10 (PE.imp (s50 d61 (x.glb _ k1) (x.blt _ (by decide)) o70 (d20 ga.pe (d20 (y41 (d20 (z20 (v:=.ty "tuple") (x.glb _ m1) (x.blt _ (by decide)) C20 rfl m3 m2)
  (d20 (z20 (v:=.ty "list") (x.glb _ l1) (x.blt _ (by decide)) M80 rfl l3 l2) j80))) j80) (c40 ns _ _)) k3 k2 (c40 ns _ _) rfl) λσ H Q q=>?_) rfl
 obtain⟨zA,ρ,z,rr,rel,st,e,po⟩:=q
 refine g80 rel st e (e90 po) λm z1 e1=>?_
 obtain⟨d,p1,e2⟩:=M.a00 e1
 obtain⟨s1,rfl,q1⟩:=d70 p1
 cases e2
 refine⟨s1,rfl,λv H1 x1 st1 rv=>⟨by show 2≤sizeLine;rw[sizeLine_eq];decide,λt ht=>?_⟩⟩
 have sm:a10 H1 (upd H1 t (.tup [.ty "tuple",.ty "list"])):=a10.new _ ht
 refine⟨d,v,t,rfl,((rv.pl.d_ q1).same (a10.trans (a30 zA H1) sm)).has,SqT.of a80,?_⟩
 rw[u51 d]
 exact e20 po x1 st1 _ _ sm g70
theorem k12(hs:v40 x=true)(ga:b00 X G E a v)(gi:b00 X G E i x):b00 X G E (.idx a i) (.Subscript v x pos):=by
 refine b10 (PE.imp (D01 ixD ga.pe gi.pe (x70 hs)) λσ H Q q=>?_) rfl
 obtain⟨zA,ρ,z,rr,rel,st,e,po⟩:=q
 refine R50 rel st e (e90 po) λdx dy z2 v w H2 e2 x2 st2 h1 h2=>?_
 obtain⟨c,hc,e3⟩:=M.a00 e2
 cases e3
 exact⟨zA,z2,dx,dy,_,st2,h1,h2,by show map _ (Z10 dx dy)=_;rw[hc];rfl,e20 po x2 st2⟩
theorem V71(x:XI lm X G E N sc){i k:Nat}{n:Str}{c:Nat}{p q pos:Pos}(h1:N[i]?=some n)(h2:b30 n=true):b00 X G E (.zget i k) (.Subscript (.Name n p) (.Constant (.int k) c q) pos):=by
 unfold b30 at h2
 simp only[and_eq_true,not_eq_true'] at h2
 refine b10 (PE.imp (D01 K50 (h00 (i:=i) (by rw[x.hN];exact h1) (x.vis n (mem_of_getElem? h1)) h2.1 h2.2) P20 (x70 rfl)) λσ H Q qq=>?_) rfl
 obtain⟨zA,ρ,z,rr,rel,st,e,po⟩:=qq
 have e0:f21 k ρ[i]? z=some rr:=e
 unfold f21 at e0
 split at e0
 ·rename_i p hs
  obtain⟨v,hv,a,hz',rfl⟩:=rel i .z hs
  subst hz'
  have st':H a=some (.lst [.int p.1,.bl p.2]):=st.zat
  refine⟨_,hv,a,[.int p.1,.bl p.2],(k:Int),?_⟩
  split at e0
  ·rename_i hk
   subst hk
   cases e0
   obtain⟨s',e',po⟩:=po
   cases e'
   exact⟨_,rfl,rfl,SqL.of st',rfl,po _ H Ext.refl st g00⟩
  ·split at e0
   ·rename_i hk
    subst hk
    cases e0
    obtain⟨s',e',po⟩:=po
    cases e'
    exact⟨_,rfl,rfl,SqL.of st',rfl,po _ H Ext.refl st (p21 Hd.bl)⟩
   ·cases e0
 ·cases e0
theorem R60(a:Int):∀ (n:Nat) {its:List Value},its.length=n→(∀ i,i < n→∃ v t,its[i]?=some v∧v=.int (a + (i:Nat)) t)→Vals ((range n).map λ(k:Nat)=>V.int (a + k)) its:=by
 intro n its hl h
 have:∀ (m:Nat) (l:List Value) (o:Nat),l.length=m→(∀ i,i < m→∃ v t,l[i]?=some v∧v=.int (a + (o + i:Nat)) t)→Vals ((range' o m 1).map λ(k:Nat)=>V.int (a + k)) l:=by
  intro m
  induction m with
  |zero =>
   intro l o hl _
   rw[List.length_eq_zero_iff.mp hl]
   exact .nil
  |succ m ih =>
   intro l o hl h
   cases l with
   |nil=>cases hl
   |cons x r =>
    obtain⟨v,t,e1,e2⟩:=h 0 (Nat.succ_pos m)
    simp only[List.getElem?_cons_zero,Option.some.injEq] at e1
    subst e1
    rw[List.range'_succ,map_cons]
    refine .cons ⟨t,by rw[e2];simp⟩ (ih r (o + 1) (by simpa using hl) λi hi=>?_)
    obtain⟨v,t,e1,e2⟩:=h (i + 1) (Nat.succ_lt_succ hi)
    exact⟨v,t,by simpa using e1,by rw[e2];congr 1;omega⟩
 rw[range_eq_range']
 exact this n its 0 hl λi hi=>by
  obtain⟨v,t,e1,e2⟩:=h i hi
  exact⟨v,t,e1,by rw[e2];simp⟩
theorem g61:bootBuiltins "range"=some (.type "range"):=by decide +kernel
def lrV:List V→Option (Int × Int)
 |[.int j]=>some (0,j)
 |[.int i,.int j]=>some (i,j)
 |_=>none
def lrO:Bool→List V→HO
 |true=>HO.tup
 |false=>HO.lst
def lrT:Bool→String
 |true=>"tuple"
 |false=>"list"
def k22(b:Bool)(ta:TA):TE:=λσ H Q=>ta σ H λvs H1=>∃ i j:Int,lrV vs=some (i,j)∧-100000 < i∧i < 100000∧-100000 < j∧j < 100000∧∀ l,H1 l=none→Q (.ref l) (upd H1 l (lrO b ((range (j - i).toNat).map λ(k:Nat)=>V.int (i + k))))
theorem V81{pins:List (Addr × Obj)}{σ:L2.St}{H1:Hp}{s1:Shared}{r:Addr}{i j:Int}{t u v:Tok}{Q:VK}(hc:X.calm=true)(I2:Inv X pins σ H1 s1)(hr:IsRange s1.heap r i j 1 t u v)(i1:-100000 < i)(i2:i < 100000)(j1:-100000 < j)(j2:j < 100000)
  (q:∀ l,H1 l=none→Q (.ref l) (upd H1 l (.lst ((range (j - i).toNat).map λ(k:Nat)=>V.int (i + k))))):wpAny (model X.prog X.w) X.A (call (.type "list") [.ref r]) (EP X pins σ Q) X.xe s1:=by
 have hz:Builtin.Range.rangeSize i j 1=(((j - i).toNat:Nat):Int):=by rw[rangeSize_one];split <;> omega
 refine call_list_range (n:=(j - i).toNat) (I2.ok.hd hc) hr (small_one (by omega) (by omega) (by omega) (by omega)) hz (by omega) λh' tk acc' c' kp hS hacc=>?_
 have rv:Vals ((range (j - i).toNat).map λ(k:Nat)=>V.int (i + k)) acc'.toList:=by
  refine R60 i (j - i).toNat ?_ λi hi=>?_
  ·rw[length_toList];exact hacc.1
  ·have hlt:i < acc'.size:=by rw[hacc.1];exact hi
   obtain⟨t,e⟩:=hacc.2 i acc'[i] (Array.getElem?_eq_getElem hlt)
   exact⟨acc'[i],t,by rw[Array.getElem?_toList];exact Array.getElem?_eq_getElem hlt,by rw[e];simp⟩
 have hlen:((range (j - i).toNat).map λ(k:Nat)=>V.int (i + k)).length≤sizeLine:=by rw[length_map,length_range,sizeLine_eq];omega
 have hn:=I2.hok.fresh (Nat.le_refl _)
 exact⟨.ref _,_,I2.laid (t':=tk) kp (Nat.le_refl _) (show f30 X.prog X.w _ h' _ (.lst _) from⟨hlen,acc'.toList,c',rv,by rw[toArray_toList];exact hS⟩),rfl,q _ hn⟩
theorem H21{pins:List (Addr × Obj)}{σ:L2.St}{H1:Hp}{s1:Shared}{r:Addr}{i j:Int}{t u v:Tok}{Q:VK}(hc:X.calm=true)(I2:Inv X pins σ H1 s1)(hr:IsRange s1.heap r i j 1 t u v)(i1:-100000 < i)(i2:i < 100000)(j1:-100000 < j)(j2:j < 100000)
  (q:∀ l,H1 l=none→Q (.ref l) (upd H1 l (.tup ((range (j - i).toNat).map λ(k:Nat)=>V.int (i + k))))):wpAny (model X.prog X.w) X.A (call (.type "tuple") [.ref r]) (EP X pins σ Q) X.xe s1:=by
 have hz:Builtin.Range.rangeSize i j 1=(((j - i).toNat:Nat):Int):=by rw[rangeSize_one];split <;> omega
 refine HT.tuple_range (n:=(j - i).toNat) (I2.ok.hd hc) hr (small_one (by omega) (by omega) (by omega) (by omega)) hz (by omega) λh' tk acc' kp hsz hacc=>?_
 have rv:Vals ((range (j - i).toNat).map λ(k:Nat)=>V.int (i + k)) acc'.toList:=by
  refine R60 i (j - i).toNat ?_ λi hi=>?_
  ·rw[length_toList];exact hacc.1
  ·have hlt:i < acc'.size:=by rw[hacc.1];exact hi
   obtain⟨t,e⟩:=hacc.2 i acc'[i] (Array.getElem?_eq_getElem hlt)
   exact⟨acc'[i],t,by rw[Array.getElem?_toList];exact Array.getElem?_eq_getElem hlt,by rw[e];simp⟩
 have hlen:((range (j - i).toNat).map λ(k:Nat)=>V.int (i + k)).length≤sizeLine:=by rw[length_map,length_range,sizeLine_eq];omega
 exact⟨.ref _,_,I2.laid (t':=tk) (λb o e=>Heap.get?_push_of_some _ (kp b o e)) hsz (show f30 X.prog X.w _ _ _ (.tup _) from⟨hlen,acc'.toList,rv,⟨_,Heap.get?_push_size _ rfl,rfl,0,by rw[toArray_toList]⟩⟩),rfl,q _ (I2.hok.fresh hsz)⟩
theorem g71(b:Bool){pins:List (Addr × Obj)}{σ:L2.St}{H1:Hp}{s1:Shared}{r:Addr}{i j:Int}{t u v:Tok}{Q:VK}(hc:X.calm=true)(I2:Inv X pins σ H1 s1)(hr:IsRange s1.heap r i j 1 t u v)(i1:-100000 < i)(i2:i < 100000)(j1:-100000 < j)(j2:j < 100000)
  (q:∀ l,H1 l=none→Q (.ref l) (upd H1 l (lrO b ((range (j - i).toNat).map λ(k:Nat)=>V.int (i + k))))):wpAny (model X.prog X.w) X.A (call (.type (lrT b)) [.ref r]) (EP X pins σ Q) X.xe s1:=by
 cases b with
 |true=>exact H21 hc I2 hr i1 i2 j1 j2 q
 |false=>exact V81 hc I2 hr i1 i2 j1 j2 q
theorem k32(b:Bool):bootBuiltins (lrN b)=some (.type (lrT b)):=by
 cases b with
 |true=>exact C20
 |false=>exact M80
theorem g81(b:Bool){e:Expr}{l:List Expr}{ta:TA}{p p2 pos pos2:Pos}(hc:X.calm=true)(hg:Gl X (lrN b))(hm:X.mg (lrN b)=none)(hg2:Gl X "range")(hm2:X.mg "range"=none)(ha:PA X (e::l) ta)(hs:noStar e=true)(hs2:l.all noStar=true) :
  PE X (.Call (.Name (lrN b) p) [.Call (.Name "range" p2) (e::l) [] pos2] [] pos) (k22 b ta):=by
 intro pins s σ H Q I h
 refine Call_ (n50 I hg hm (k32 b) (PyProof.Rows.callWith_type1 (Calls.spliced_cons ?_) rfl rfl) (by cases b <;> decide) (by cases b <;> decide))
 refine Call_ (n50 I hg2 hm2 g61 (PyProof.Rows.callWith_type1 (thn (ha pos2 pins s σ H _ I h) λus s1 ⟨vs,H1,I1,r1,q1⟩=>?_) (c40 hs l X.env) (o50 X.env pos2 hs2)))
 obtain⟨i,j,hv,i1,i2,j1,j2,q⟩:=q1
 match vs,hv with
 |[.int _],hv =>
  cases hv
  obtain⟨u,rfl,r⟩:=vals1 r1
  obtain⟨t,rfl⟩:=r
  exact call_range_1 (Calls.spliced_nil (g71 b hc (I1.kept λb o e=>Heap.get?_push_of_some _ e) (IsRange.new ..) i1 i2 j1 j2 q))
 |[.int _,.int _],hv =>
  cases hv
  obtain⟨u,u',rfl,r,r'⟩:=vals2 r1
  obtain⟨t,rfl⟩:=r
  obtain⟨t',rfl⟩:=r'
  exact call_range_2 (Calls.spliced_nil (g71 b hc (I1.kept λb o e=>Heap.get?_push_of_some _ e) (IsRange.new ..) i1 i2 j1 j2 q))
theorem u81:∀ {ds xs:List D},lrD ds=some xs→∃ i j:Int,((ds=[.int j]∧i=0)∨ds=[.int i,.int j])∧-100000 < i∧i < 100000∧-100000 < j∧j < 100000∧xs=(range (j - i).toNat).map λ(k:Nat)=>D.int (i + k)
 |[],_,h=>by cases h
 |[x],xs,h=>by
  cases x with
  |int j =>
   obtain⟨hj,h⟩:=f00 h
   have hj:=u60.mp hj
   exact⟨0,j,.inl ⟨rfl,rfl⟩,by omega,by omega,hj.1,hj.2,by cases h;simp⟩
  |_=>cases h
 |[x,y],xs,h=>by
  cases x with
  |int i =>
   cases y with
   |int j =>
    obtain⟨hj,h⟩:=f00 h
    have h1:=u60.mp hj.1
    have h2:=u60.mp hj.2
    exact⟨i,j,.inr rfl,h1.1,h1.2,h2.1,h2.2,by cases h;rfl⟩
   |_=>cases h
  |_=>cases h
 |x::y::_::_,_,h=>by
  cases x with
  |int i=>cases y <;> cases h
  |_=>cases h
theorem V91(x:XI lm X G E N sc){b:Bool}{as:Ex}{a:Expr}{l:List Expr}{p p2 pos pos2:Pos}(h1:glob sc (lrN b)=true)(h2:glob sc "range"=true)(hL:isL as=true)(g:Good X G E as (a::l)):b00 X G E (.lrng b as) (.Call (.Name (lrN b) p) [.Call (.Name "range" p2) (a::l) [] pos2] [] pos):=by
 obtain⟨k1,_,_⟩:=d10 h1
 obtain⟨m1,_,_⟩:=d10 h2
 obtain⟨ha,hs⟩:=g.args hL
 rw[all_cons,and_eq_true] at hs
 refine b10 (PE.imp (g81 b x.calm (x.glb _ k1) (x.blt _ (by cases b <;> decide)) (x.glb _ m1) (x.blt _ (by decide)) ha hs.1 hs.2) λσ H Q q=>?_) rfl
 obtain⟨zA,ρ,z,rr,rel,st,e,po⟩:=q
 refine X40 rel st e (e90 po) λl z1 e1 vs H1 x1 st1 rvs=>?_
 obtain⟨xs,hx,e2⟩:=M.a00 e1
 cases e2
 obtain⟨s',e',po⟩:=po
 cases e'
 obtain⟨ds,h3,h4⟩:=Option.bind_eq_some_iff.mp hx
 have hd:=C00 rvs h3
 have fin:∀ i j:Int,xs=(range (j - i).toNat).map (λ(k:Nat)=>D.int (i + k))→∀ lA,H1 lA=none→Q (.ref lA) (upd H1 lA (lrO b ((range (j - i).toNat).map λ(k:Nat)=>V.int (i + k)))):=λi j ex lA hn=>by
  subst ex
  have hI:=HdA.ints (K:=X.K) (H:=hz zA H1) ((range (j - i).toNat).map λ(k:Nat)=>i + (k:Int))
  rw[List.map_map,List.map_map] at hI
  cases b with
  |false=>exact po _ _ (x1.trans (Ext.of (a10.new _ hn))) (st1.same (a10.new _ hn)) ((k30 st1 hI hn).from x1)
  |true=>exact po _ _ (x1.trans (Ext.of (a10.new _ hn))) (st1.same (a10.new _ hn)) (p21 (Hd.tup ((st1.same (a10.new _ hn)).F31 (SqT.of a80)) (hI.same (h50 (a10.new _ hn)))))
 obtain⟨i,j,hds,j1,j2,j3,j4,ex⟩:=u81 h4
 refine⟨i,j,?_,j1,j2,j3,j4,fin i j ex⟩
 rcases hds with ⟨rfl,rfl⟩ | rfl
 ·obtain⟨v,rfl,h5⟩:=hd.one
  cases h5.g60
  rfl
 ·obtain⟨v,w,rfl,h5,h6⟩:=hd.two
  cases h5.g60;cases h6.g60
  rfl
def tPO(K:PySem.W.Frag)(G:Gs)(E:XK)(x:Ex):TO:=λσ H Q=>∃ zA ρ z r,q10 K zA H ρ σ∧c30 zA z H∧ev G.F x ρ z=some r∧(match r with
 |.ok l z'=>∃ o,f11 l=some o∧∀ H',Ext zA H H'→c30 zA z' H'→Q o H'
 |.er c z'=>EPost G zA E c z' H)
theorem W01(hL:isL x=true)(g:Good X G E x e.toList):PO X e (tPO X.K G E x):=by
 cases e with
 |none =>
  cases x with
  |nil =>
   refine λpins s σ H Q I q=>C81 pins s σ H Q I ?_
   obtain⟨zA,ρ,z,r,rel,st,e,po⟩:=q
   cases e
   obtain⟨o,e',po⟩:=po
   cases e'
   exact po H Ext.refl st
  |cons a r=>obtain⟨e,es,h,_⟩:=g;cases h
  |_=>cases hL
 |some e =>
  cases x with
  |nil=>cases (show [e]=[] from g)
  |cons a r =>
   obtain⟨e',es,h,ns,ga,lr,gr⟩:=g
   cases h
   refine λpins s σ H Q I q=>C91 ga.pe pins s σ H Q I ?_
   obtain⟨zA,ρ,z,rr,rel,st,e,po⟩:=q
   have her:∀ c z1,rr=.er c z1→EPost G zA E c z1 H:=λc z1 e=>by subst e;exact po
   have rn:r=.nil:=by
    cases r with
    |nil=>rfl
    |cons b q=>obtain⟨e,es,h,_⟩:=gr;cases h
    |_=>cases lr
   subst rn
   refine g80 rel st e her λl z1 e1=>?_
   obtain⟨s,hs,e2⟩:=M.a00 e1
   cases e2
   obtain⟨o,e',po⟩:=po
   refine⟨s,v00 hs,λv H1 x1 st1 rv=>?_⟩
   cases s with
   |d y =>
    cases y with
    |int i =>
     cases e'
     exact⟨i,Hd.g60 (show Hd X.K (hz zA H1) (.int i) v from rv),po H1 x1 st1⟩
    |_=>cases e'
   |fr ys=>cases e'
   |z=>cases e'
  |_=>cases hL
theorem u22{a lo hi:Ex}{v:Expr}{l h:Option Expr}{p pos:Pos}(ga:b00 X G E a v)(hl:isL lo=true)(hh:isL hi=true)(gl:Good X G E lo l.toList)(gh:Good X G E hi h.toList):b00 X G E (.sl a lo hi) (.Subscript v (.Slice l h none p) pos):=by
 refine b10 (PE.imp (q51 t32 ga.pe (W01 hl gl) (W01 hh gh)) λσ H Q q=>?_) rfl
 obtain⟨zA,ρ,z,rr,rel,st,e,po⟩:=q
 refine g80 rel st e (e90 po) λm z1 e1=>?_
 obtain⟨dx,p1,e2⟩:=M.a00 e1
 obtain⟨s1,rfl,q1⟩:=d70 p1
 refine⟨s1,rfl,λw H1 x1 st1 rv=>?_⟩
 rcases M.bind_some e2 with ⟨u,z2,e3,e4⟩ | ⟨c,z2,e3,e4⟩
 ·obtain⟨o,ho,e5⟩:=M.a00 e4
  refine⟨zA,ρ,z1,_,rel.mono x1,st1,e3,o,ho,λH2 x2 st2=>?_⟩
  rcases M.bind_some e5 with ⟨u',z3,e6,e7⟩ | ⟨c,z3,e6,e7⟩
  ·obtain⟨o',ho',e8⟩:=M.a00 e7
   refine⟨zA,ρ,z2,_,(rel.mono x1).mono x2,st2,e6,o',ho',λH3 x3 st3=>?_⟩
   obtain⟨s,hs,e9⟩:=M.a00 e8
   cases e9
   exact⟨zA,z3,dx,s,st3,((rv.pl.mono (x2.trans x3)).d_ q1),hs,e20 po ((x1.trans x2).trans x3) st3⟩
  ·exact⟨zA,ρ,z2,_,(rel.mono x1).mono x2,st2,e6,((e90 po) c z3 e7).mono (x1.trans x2)⟩
 ·exact⟨zA,ρ,z1,_,rel.mono x1,st1,e3,((e90 po) c z2 e4).mono x1⟩
theorem W11:∀ {x:Ex}{es:List Expr}{z z1:Z}{l:List S},isL x=true→Good X G E x es→ev G.F x ρ z=some (.ok l z1)→l.length=es.length:=by
 intro x
 induction x with
 |nil =>
  intro es z z1 l _ h e
  have h:es=[]:=h
  subst h
  cases e
  rfl
 |cons a r _ ih =>
  intro es z z1 l _ h e
  obtain⟨e',es',rfl,ns,g,lr,gr⟩:=h
  rcases M.bind_some e with ⟨m,z2,e1,e2⟩ | ⟨c,z2,e1,e2⟩
  ·obtain⟨s,hs,e3⟩:=M.a00 e2
   rcases M.bind_some e3 with ⟨m',z3,e4,e5⟩ | ⟨c,z3,e4,e5⟩
   ·cases e5
    rw[length_cons,length_cons,ih lr gr e4]
   ·cases e5
  ·cases e2
 |_=>intro es z z1 l h;cases h
theorem s_call(x:XI lm X G E N sc){f:Nat}{as:Ex}{n:Str}{ps:List Str}{e:Expr}{l:List Expr}{p pos:Pos}(hf:G.fns[f]?=some (n,ps))(hl:ps.length=l.length + 1)(hg:glob sc n=true)(hL:isL as=true)(g:Good X G E as (e::l)) :
  b00 X G E (.call f as) (.Call (.Name n p) (e::l) [] pos):=by
 obtain⟨k1,k2,k3⟩:=d10 hg
 obtain⟨fa,fd,m1,m2,m3,F⟩:=x.gok f n ps hf
 obtain⟨ha,hs⟩:=g.args hL
 rw[all_cons,and_eq_true] at hs
 refine b10 (PE.imp (C51 F x.room (x.glb n k1) m1 m2 m3 .nil x.pas ha k2 (c40 hs.1 l X.env) (o50 X.env pos hs.2)) λσ H Q q=>?_) rfl
 obtain⟨zA,ρ,z,rr,rel,st,e,po⟩:=q
 have e0:M.bind (ev G.F as ρ) (λl=>M.bind (G.F false f (l.map plS)) λs=>M.ret [s]) z=some rr:=e
 rcases M.bind_some e0 with ⟨m,z1,e1,e2⟩ | ⟨c,z1,e1,e2⟩
 ·refine⟨zA,ρ,z,_,rel,st,e1,λvs H1 x1 st1 rvs=>?_⟩
  have hv:vs.length=ps.length:=by rw[← rvs.length,W11 hL g e1,hl];rfl
  show spF X.K G f ps.length (vs++[]) H1 Q E
  rw[append_nil]
  refine⟨hv,zA,z1,m.map plS,?_⟩
  have ra:RvA X.K zA H1 (m.map plS) vs:=RvA.plS (Paired.x81 rvs λ_ _ q=>q.pl)
  rcases M.bind_some e2 with ⟨s,z2,e3,e4⟩ | ⟨c,z2,e3,e4⟩
  ·cases e4
   refine⟨_,ra,st1,e3,λv H2 x2 st2 rv=>?_⟩
   obtain⟨s',e',po⟩:=po
   cases e'
   exact po v H2 (x1.trans x2) st2 (rv.from x1)
  ·exact⟨_,ra,st1,e3,((e90 po) c z2 e4).mono x1⟩
 ·exact⟨zA,ρ,z,_,rel,st,e1,(e90 po) c z1 e2⟩
def c52:Pat→Nat
 |.nil=>0
 |.cons _ r=>c52 r + 1
 |_=>0
mutual
noncomputable def gP(K:PySem.W.Frag):Pat→TG
 |.v i=>z40 i
 |.tup ps=>o02 K (c52 ps) (gL K ps)
 |.nil=>λ_ _ _ _=>False
 |.cons _ _=>λ_ _ _ _=>False
noncomputable def gL(K:PySem.W.Frag):Pat→TGs
 |.nil=>n92
 |.cons p r=>N71 (gP K p) (gL K r)
 |.v _=>λ_ _ _ _=>False
 |.tup _=>λ_ _ _ _=>False
end
end
end Q
namespace Q
open PySem L2 PySem.Spec PyProof.Rows
variable [TB:Tb]
theorem A11(h:noStar e=true)(es:List Expr)(env:PySem.Env):assignEach (e::es) env=(false,assign e env)::assignEach es env:=by
 cases e <;> first | rfl | cases h
structure u91(X:Cx)(N:List Str)(loc:Str→Bool):Prop where
 hN:X.N=N
 nd:N.Nodup
 lc:∀ x,loc x=true→Loc X.env.scope x
 fn:∀ x,loc x=true→(X.fn x=true∨X.env.scope.names.lookup x=some .local)
 calm:X.calm=true
theorem x80:∀ {es:List Expr} (env:PySem.Env),es.all noStar=true→(assignEach es env).length=es.length∧(assignEach es env).findIdx? (·.1)=none
 |[],_,_=>⟨rfl,rfl⟩
 |e::es,env,h=>by
  rw[all_cons,and_eq_true] at h
  obtain⟨h1,h2⟩:=x80 env h.2
  rw[A11 h.1]
  refine⟨by rw[length_cons,length_cons,h1],?_⟩
  rw[List.findIdx?_cons,h2];rfl
theorem R70:∀ {r:Pat}{es:List Expr},X50 N loc r es=true→es.length=c52 r∧es.all noStar=true
 |.nil,es,h=>by
  unfold X50 at h
  have:es=[]:=List.isEmpty_iff.mp h
  subst this
  exact⟨rfl,rfl⟩
 |.cons p r,es,h=>by
  unfold X50 at h
  cases es with
  |nil=>cases h
  |cons e es =>
   rw[and_eq_true,and_eq_true] at h
   obtain⟨h1,h2⟩:=R70 (r:=r) h.2
   exact⟨by rw[length_cons,h1];rfl,by rw[all_cons,h.1.1,h2];rfl⟩
 |.v _,_,h=>by unfold X50 at h;cases h
 |.tup _,_,h=>by unfold X50 at h;cases h
mutual
theorem g91(L:u91 X N loc):∀ {p:Pat}{e:Expr},g90 N loc p e=true→PG X e (gP X.K p)
 |.v i,e,h=>by
  unfold g90 at h
  cases e with
  |Name x pos =>
   rw[and_eq_true,beq_iff_eq] at h
   unfold gP
   exact K30 (by rw[L.hN];exact L.nd) (by rw[L.hN];exact h.1) (L.lc x h.2) (L.fn x h.2)
  |_=>cases h
 |.tup ps,e,h=>by
  unfold g90 at h
  cases e with
  |Tuple es k pos =>
   obtain⟨h1,h2⟩:=R70 h
   obtain⟨h3,h4⟩:=x80 X.env h2
   unfold gP
   exact N81 L.calm (A21 L h) (by rw[h3,h1]) h4
  |_=>cases h
 |.nil,e,h=>by unfold g90 at h;cases h
 |.cons _ _,e,h=>by unfold g90 at h;cases h
theorem A21(L:u91 X N loc):∀ {r:Pat}{es:List Expr},X50 N loc r es=true→PGs X es (gL X.K r)
 |.nil,es,h=>by
  unfold X50 at h
  have:es=[]:=List.isEmpty_iff.mp h
  subst this
  unfold gL
  exact C11
 |.cons p r,es,h=>by
  unfold X50 at h
  cases es with
  |nil=>cases h
  |cons e es =>
   rw[and_eq_true,and_eq_true] at h
   unfold gL
   exact p71 (g91 L h.1.2) (A21 L h.2) (by rw[A11 h.1.1];rfl)
 |.v _,_,h=>by unfold X50 at h;cases h
 |.tup _,_,h=>by unfold X50 at h;cases h
end
section
variable {K:PySem.W.Frag}{zA:Option Addr}{H:Hp}
theorem q10.set{ρ:Env}{σ:L2.St}{i:Nat}{s:S}{v:V}(h:q10 K zA H ρ σ)(hl:ρ.length=σ.length)(r:RvP K zA H s v):q10 K zA H (ρ.set i (some s)) (σ.set i (some v)):=by
 intro j t e
 by_cases hj:j=i
 ·subst hj
  have hlt:j < ρ.length:=by
   have:=(List.getElem?_eq_some_iff.mp e).1
   simpa using this
  rw[List.getElem?_set_self hlt] at e
  cases e
  exact⟨v,List.getElem?_set_self (by rw[← hl];exact hlt),r⟩
 ·rw[List.getElem?_set_ne (Ne.symm hj)] at e
  obtain⟨w,h1,h2⟩:=h j t e
  exact⟨w,by rw[List.getElem?_set_ne (Ne.symm hj)];exact h1,h2⟩
theorem v50:∀ {r:Pat}{l:List D}{ρ ρ':Env},bindL r l ρ=some ρ'→l.length=c52 r
 |.nil,l,ρ,ρ',e=>by
  unfold bindL at e
  cases l with
  |nil=>rfl
  |cons x l=>cases e
 |.cons p r,l,ρ,ρ',e=>by
  unfold bindL at e
  cases l with
  |nil=>cases e
  |cons x l =>
   obtain⟨ρ1,e1,e2⟩:=Option.bind_eq_some_iff.mp e
   rw[length_cons,v50 e2];rfl
 |.v _,_,_,_,e=>by unfold bindL at e;cases e
 |.tup _,_,_,_,e=>by unfold bindL at e;cases e
mutual
theorem h01:∀ {p:Pat}{d:D}{ρ ρ':Env},e50 p d ρ=some ρ'→∀ {σ:L2.St}{v:V}{R:L2.St→Hp→Prop},q10 K zA H ρ σ→ρ.length=σ.length→Hd K (hz zA H) d v →
  (∀ σ',q10 K zA H ρ' σ'→ρ'.length=σ'.length→R σ' H)→gP K p v σ H R
 |.v i,d,ρ,ρ',e,σ,v,R,rel,hl,hd,k=>by
  unfold e50 at e
  cases e
  unfold gP
  exact k _ (rel.set hl (show RvP K zA H (.d d) v from hd)) (by rw[length_set,length_set,hl])
 |.tup ps,d,ρ,ρ',e,σ,v,R,rel,hl,hd,k=>by
  unfold e50 at e
  cases d with
  |tup l =>
   obtain⟨a,xs,rfl,h1,h2⟩:=hd.u70
   unfold gP
   exact⟨a,xs,rfl,(a30 zA H).sqT h1,by rw[h2.length];exact v50 e,R80 e rel hl h2 k⟩
  |_=>cases e
 |.nil,_,_,_,e,_,_,_,_,_,_,_=>by unfold e50 at e;cases e
 |.cons _ _,_,_,_,e,_,_,_,_,_,_,_=>by unfold e50 at e;cases e
theorem R80:∀ {r:Pat}{l:List D}{ρ ρ':Env},bindL r l ρ=some ρ'→∀ {σ:L2.St}{vs:List V}{R:L2.St→Hp→Prop},q10 K zA H ρ σ→ρ.length=σ.length→HdA K (hz zA H) l vs →
  (∀ σ',q10 K zA H ρ' σ'→ρ'.length=σ'.length→R σ' H)→gL K r vs σ H R
 |.nil,l,ρ,ρ',e,σ,vs,R,rel,hl,hd,k=>by
  unfold bindL at e
  cases l with
  |nil =>
   cases e
   unfold gL
   exact⟨hd.e10,k σ rel hl⟩
  |cons x l=>cases e
 |.cons p r,l,ρ,ρ',e,σ,vs,R,rel,hl,hd,k=>by
  unfold bindL at e
  cases l with
  |nil=>cases e
  |cons x l =>
   obtain⟨ρ1,e1,e2⟩:=Option.bind_eq_some_iff.mp e
   obtain⟨v,ws,rfl,h1,h2⟩:=hd.b70
   unfold gL
   exact⟨v,ws,rfl,h01 e1 rel hl h1 λσ' r' l'=>R80 e2 r' l' h2 k⟩
 |.v _,_,_,_,e,_,_,_,_,_,_,_=>by unfold bindL at e;cases e
 |.tup _,_,_,_,e,_,_,_,_,_,_,_=>by unfold bindL at e;cases e
end
end
end Q
namespace Q
open PySem L2 PySem.Spec PyProof.Rows
variable [TB:Tb]
structure k42(K:PySem.W.Frag)(zA:Option Addr)(J:L2.It)(xs:List D)(H1:Hp):Prop where
 go:∀ i H,Ext zA H1 H→i < xs.length→J.go i H
 yld:∀ i H x H' z d,Ext zA H1 H→c30 zA z H→J.yld i H x H'→xs[i]?=some d→a10 H H'∧Hd K (hz zA H') d x
 stop:∀ H,Ext zA H1 H→J.stop xs.length H
structure ItB(K:PySem.W.Frag)(J:L2.It)(xs:List D)(B:Hp):Prop where
 go:∀ i H,a10 B H→i < xs.length→J.go i H
 yld:∀ i H x H' zA z d,a10 B (hz zA H)→c30 zA z H→J.yld i H x H'→xs[i]?=some d→a10 H H'∧∀ C,a10 B C→(∀ a ys,SqT K (hz zA H') a ys→SqT K C a ys)→Hd K C d x
 stop:∀ H,a10 B H→J.stop xs.length H
section
variable {K:PySem.W.Frag}{B:Hp}
theorem ItB.ok(h:ItB K J xs (hz zA H1)):k42 K zA J xs H1 :=
 ⟨λi H x=>h.go i H (a10.trans x (a30 zA H)),λi H x H' z d e st y k=>let ⟨s,f⟩:=h.yld i H x H' zA z d e st y k;⟨s,f _ (a10.trans e (h50 s)) λ_ _ q=>q⟩,λH x=>h.stop H (a10.trans x (a30 zA H))⟩
theorem R90(h:l70 K B a ys)(r:HdA K B xs ys):ItB K (Itl K a) xs B where
 go:=λi H x hi=>⟨ys,ys[i]'(by rw[r.length];exact hi),(h.same x).sq,by simp⟩
 yld:=λi H v H' zA z d x st y e=>by
  obtain⟨rfl,y⟩:=y
  have y1:=y ys ((h.same x).same (a30 zA _)).sq
  obtain⟨w,e1,e2⟩:=r.get e
  rw[y1] at e1;cases e1
  exact⟨a10.refl _,λC c _=>e2.same c⟩
 stop:=λH x=>⟨ys,(h.same x).sq,by rw[r.length];exact Nat.le_refl _⟩
theorem h31(h:SqT K B a ys)(r:HdA K B xs ys):ItB K (Itt K a) xs B where
 go:=λi H x hi=>⟨ys,ys[i]'(by rw[r.length];exact hi),a10.sqT x h,by simp⟩
 yld:=λi H v H' zA z d x st y e=>by
  obtain⟨rfl,y⟩:=y
  have y1:=y ys ((a30 zA _).sqT (a10.sqT x h))
  obtain⟨w,e1,e2⟩:=r.get e
  rw[y1] at e1;cases e1
  exact⟨a10.refl _,λC c _=>e2.same c⟩
 stop:=λH x=>⟨ys,a10.sqT x h,by rw[r.length];exact Nat.le_refl _⟩
theorem h41(lo:Int)(n:Nat):ItB K (Itr lo n) ((range n).map λ(k:Nat)=>D.int (lo + k)) B where
 go:=λi H x hi=>by show i < n;simpa using hi
 yld:=λi H v H' zA z d x st y e=>by
  obtain⟨rfl,rfl⟩:=y
  rw[List.getElem?_map] at e
  obtain⟨k,e1,rfl⟩:=Option.map_eq_some_iff.mp e
  obtain⟨h1,h2⟩:=List.getElem?_eq_some_iff.mp e1
  rw[getElem_range] at h2
  subst h2
  exact⟨a10.refl _,λ_ _ _=>Hd.int⟩
 stop:=λH x=>by show n≤_;simp
end
section
variable {K:PySem.W.Frag}{zA:Option Addr}{H1:Hp}
theorem zip_get:∀ {a b:List D}{i:Nat}{d:D},(s00 a b)[i]?=some d→∃ x y,a[i]?=some x∧b[i]?=some y∧d=.tup [x,y]
 |[],_,_,_,e=>by simp[s00] at e
 |_::_,[],_,_,e=>by simp[s00] at e
 |x::r,y::q,0,d,e=>by simp[s00] at e;exact⟨x,y,rfl,rfl,e.symm⟩
 |x::r,y::q,i + 1,d,e=>by
  obtain⟨u,v,h1,h2,h3⟩:=zip_get (a:=r) (b:=q) (i:=i) (by simpa [s00] using e)
  exact⟨u,v,by simpa using h1,by simpa using h2,h3⟩
theorem M90:∀ (a b:List D),(s00 a b).length=min a.length b.length
 |[],_=>by simp[s00]
 |_::_,[]=>by simp[s00]
 |x::r,y::q=>by simp only[s00,length_cons,M90 r q];omega
theorem h51{B:Hp}{bb:Bool}{a b:Addr}{xs ys:List D}{us ws:List V}(h:∀ H,a10 B H→SqB bb K H a us)(r:HdA K B xs us)(h':∀ H,a10 B H→SqB bb K H b ws)(r':HdA K B ys ws):ItB K (Itz bb K a b) (s00 xs ys) B where
 go:=λi H x hi=>by
  rw[M90] at hi
  exact⟨us,ws,us[i]'(by rw[r.length];omega),ws[i]'(by rw[r'.length];omega),h H x,h' H x,by simp,by simp⟩
 yld:=λi H v H' zA z d x st y e=>by
  obtain⟨T,rfl,hT,y⟩:=y
  obtain⟨d1,d2,e1,e2,rfl⟩:=zip_get e
  obtain⟨w1,f1,g1⟩:=r.get e1
  obtain⟨w2,f2,g2⟩:=r'.get e2
  have y1:=y us ws w1 w2 (h H (a10.trans x (a30 zA H))) (h' H (a10.trans x (a30 zA H))) f1 f2
  subst y1
  have sm:a10 H (upd H T (.tup [w1,w2])):=a10.new _ hT
  exact⟨sm,λC c t=>Hd.tup (t _ _ ((st.same sm).F31 (SqT.of a80))) (.cons (g1.same c) (.cons (g2.same c) .nil))⟩
 stop:=λH x=>⟨us,ws,h H x,h' H x,by rw[M90,r.length,r'.length];omega⟩
end
def PX(P:D→Prop):D→Prop
 |.tup l=>∀ y∈l,P y
 |.lst l=>∀ y∈l,P y
 |_=>True
def ItX(K:PySem.W.Frag)(zA:Option Addr)(H H':Hp)(l:List S)(J:L2.It)(xs:List D):Prop :=
 ∀ (P:D→Prop) (B:Hp),a10 B (hz zA H')→(∀ a ys,SqT K (hz zA H') a ys→SqT K B a ys)→(∀ d v,P d→Hd K (hz zA H') d v→Hd K B d v)→(∀ ds,plA l=some ds→∀ d∈ds,PX P d) →
  (∀ a ys,l70 K (hz zA H') a ys→((H a=none∧H' a=some (.lst ys))∨X20 l=true)→l70 K B a ys)→ItB K J xs B
theorem HdA.move{K:PySem.W.Frag}{H B:Hp}{P:D→Prop}(mv:∀ d v,P d→Hd K H d v→Hd K B d v):∀ {ds:List D}{vs:List V},(∀ y∈ds,P y)→HdA K H ds vs→HdA K B ds vs
 |[],_,_,h=>by rw[h.e10];exact .nil
 |d::ds,_,p,h=>by
  obtain⟨x,r,rfl,h1,h2⟩:=h.b70
  exact .cons (mv d x (p d mem_cons_self) h1) (HdA.move mv (λy hy=>p y (mem_cons_of_mem _ hy)) h2)
theorem ItX.ok{K:PySem.W.Frag}{zA:Option Addr}{H H':Hp}{l:List S}{J:L2.It}{xs:List D}(h:ItX K zA H H' l J xs):k42 K zA J xs H':=by
 refine(h (λ_=>True) (hz zA H') (a10.refl _) (λ_ _ q=>q) (λ_ _ _ q=>q) (λds _ d _=>?_) λ_ _ q _=>q).ok
 cases d <;> first | trivial | exact λ_ _=>trivial
def tIt(K:PySem.W.Frag)(G:Gs)(E:XK)(it:It)(src:Ex):TI:=λσ H R=>∃ zA ρ z r,q10 K zA H ρ σ∧c30 zA z H∧ev G.F src ρ z=some r∧(match r with
 |.ok l z'=>∃ xs,(plA l).bind (itD it)=some xs∧∀ J H',Ext zA H H'→c30 zA z' H'→ItX K zA H H' l J xs→R J H'
 |.er c z'=>EPost G zA E c z' H)
section
variable {lm:Bool}{X:Cx}{G:Gs}{E:XK}{N:List Str}{sc:Scope}
theorem W21{zA:Option Addr}{H:Hp}{it:It}{P:L2.It→Hp→Prop}{r:R (List S)}(po:(match r with | .ok l z'=>∃ xs,(plA l).bind (itD it)=some xs∧∀ J H',Ext zA H H'→c30 zA z' H'→ItX X.K zA H H' l J xs→P J H' | .er c z'=>EPost G zA E c z' H)):∀ c z1,r=.er c z1→EPost G zA E c z1 H:=λc z1 e=>by subst e;exact po
theorem h61{s:S}{ds:List D}(h:plA [s]=some ds):∃ d,ds=[d]∧plD s=some d:=by
 cases s with
 |d x=>cases h;exact⟨x,rfl,rfl⟩
 |fr xs=>cases h;exact⟨_,rfl,rfl⟩
 |z=>cases h
theorem A31{tg e:Expr}{a:Ex}(g:b00 X G E a e):PI X tg e (tIt X.K G E .seq (.cons a .nil)):=by
 intro pins s σ H R I q
 obtain⟨zA,ρ,z,rr,rel,st,ee,po⟩:=q
 have e0:M.bind (ev G.F a ρ) (λx=>M.bind (M.of (one x)) λs=>M.bind (ev G.F .nil ρ) λy=>M.ret (s::y)) z=some rr:=ee
 rcases M.bind_some e0 with ⟨m,z1,e1,e2⟩ | ⟨c,z1,e1,e2⟩
 ·obtain⟨t,ht,e3⟩:=M.a00 e2
  cases e3
  have hm:=v00 ht
  subst hm
  obtain⟨xs,hx,po⟩:=po
  obtain⟨ds,h1,h2⟩:=Option.bind_eq_some_iff.mp hx
  obtain⟨d,rfl,h3⟩:=h61 h1
  cases d with
  |tup l =>
   cases h2
   refine y21 g.pe pins s σ H R I ⟨zA,ρ,z,_,rel,st,e1,t,rfl,λv H1 x1 st1 rv=>?_⟩
   obtain⟨b,ys,rfl,k1,k2⟩:=(rv.pl.d_ h3).u70
   exact⟨b,rfl,⟨ys,(a30 zA H1).sqT k1⟩,po _ H1 x1 st1 λP B sub tup mv pa sf=>h31 (tup _ _ k1) (HdA.move mv (show ∀ y∈xs,P y from pa _ h1 _ mem_cons_self) k2)⟩
  |lst l =>
   cases h2
   refine z50 g.pe pins s σ H R I ⟨zA,ρ,z,_,rel,st,e1,t,rfl,λv H1 x1 st1 rv=>?_⟩
   have fin:∀ {b:Addr}{ys:List V},l70 X.K (hz zA H1) b ys→HdA X.K (hz zA H1) xs ys→((H b=none∧H1 b=some (.lst ys))∨X20 [t]=true)→∃ a,V.ref b=.ref a∧(∃ xs,SqL X.K H1 a xs)∧R (Itl X.K a) H1:=λ{b ys} k1 k2 k5=>by
    exact⟨b,rfl,⟨ys,(k1.same (a30 zA H1)).sq⟩,po _ H1 x1 st1 λP B sub tup mv pa sf=>R90 (sf _ _ k1 k5) (HdA.move mv (show ∀ y∈xs,P y from pa _ h1 _ mem_cons_self) k2)⟩
   cases t with
   |z=>cases h3
   |d x =>
    cases h3
    obtain⟨b,ys,rfl,k1,k2⟩:=Hd.Q80 (show Hd X.K (hz zA H1) (.lst xs) v from rv)
    exact fin k1 k2 (.inr rfl)
   |fr x =>
    cases h3
    obtain⟨b,ys,rfl,k0,k1,k2,k3⟩:=rv
    exact fin (l70.of (c80 k2 k1)) (k3.same (d50 b _)) (.inl ⟨k0,k2⟩)
  |_=>cases h2
 ·exact z50 g.pe pins s σ H R I ⟨zA,ρ,z,_,rel,st,e1,(W21 po) c z1 e2⟩
theorem C30{l:List S}{it:It}{xs:List D}(h:(plA l).bind (itD it)=some xs):∃ ds,plA l=some ds∧itD it ds=some xs:=Option.bind_eq_some_iff.mp h
theorem h71(x:XI lm X G E N sc){tg a:Expr}{as:Ex}{n:Str}{p pos:Pos}(hn:n="range")(hg:glob sc n=true)(hL:isL as=true)(g:Good X G E as [a]):PI X tg (.Call (.Name n p) [a] [] pos) (tIt X.K G E .rng1 as):=by
 subst hn
 obtain⟨k1,k2,k3⟩:=d10 hg
 obtain⟨ha,hs⟩:=g.args hL
 rw[all_cons,and_eq_true] at hs
 intro pins s σ H R I q
 refine E40 (x.glb _ k1) (x.blt _ (by decide)) ha (c40 hs.1 [] X.env) pins s σ H R I ?_
 obtain⟨zA,ρ,z,rr,rel,st,ee,po⟩:=q
 refine⟨zA,ρ,z,rr,rel,st,ee,?_⟩
 cases rr with
 |er c z1=>exact po
 |ok l z1 =>
  obtain⟨xs,hx,po⟩:=po
  intro vs H1 x1 st1 rvs
  obtain⟨ds,h1,h2⟩:=C30 hx
  have hd:=C00 rvs h1
  match ds,h2 with
  |[.int j],h2 =>
   obtain⟨hj,h2⟩:=f00 h2
   have hj:=u60.mp hj
   cases h2
   obtain⟨v,rfl,h3⟩:=hd.one
   cases h3.g60
   refine⟨j,rfl,by omega,by omega,po _ H1 x1 st1 λP B sub tup mv pa sf=>?_⟩
   have:=h41 (K:=X.K) (B:=B) 0 j.toNat
   simpa using this
theorem h81(x:XI lm X G E N sc){tg a b:Expr}{as:Ex}{n:Str}{p pos:Pos}(hn:n="range")(hg:glob sc n=true)(hL:isL as=true)(g:Good X G E as [a,b]):PI X tg (.Call (.Name n p) [a,b] [] pos) (tIt X.K G E .rng2 as):=by
 subst hn
 obtain⟨k1,k2,k3⟩:=d10 hg
 obtain⟨ha,hs⟩:=g.args hL
 rw[all_cons,all_cons,and_eq_true,and_eq_true] at hs
 intro pins s σ H R I q
 refine a31 (x.glb _ k1) (x.blt _ (by decide)) ha (by rw[c40 hs.1,c40 hs.2.1];rfl) (c40 hs.2.1 [] X.env) pins s σ H R I ?_
 obtain⟨zA,ρ,z,rr,rel,st,ee,po⟩:=q
 refine⟨zA,ρ,z,rr,rel,st,ee,?_⟩
 cases rr with
 |er c z1=>exact po
 |ok l z1 =>
  obtain⟨xs,hx,po⟩:=po
  intro vs H1 x1 st1 rvs
  obtain⟨ds,h1,h2⟩:=C30 hx
  have hd:=C00 rvs h1
  match ds,h2 with
  |[.int i,.int j],h2 =>
   obtain⟨hj,h2⟩:=f00 h2
   have hi:=u60.mp hj.1
   have hj:=u60.mp hj.2
   cases h2
   obtain⟨v,w,rfl,h3,h4⟩:=hd.two
   cases h3.g60;cases h4.g60
   exact⟨i,j,rfl,by omega,po _ H1 x1 st1 λP B sub tup mv pa sf=>h41 i (j - i).toNat⟩
theorem H31{l:List S}{x y:D}(h:plA l=some [x,y]):∃ s t,l=[s,t]∧plD s=some x∧plD t=some y:=by
 match l,h with
 |[s,t],h=>exact⟨s,t,rfl,by cases s <;> cases t <;> first | (cases h;exact⟨rfl,rfl⟩) | (cases h;done)⟩
 |[],h=>cases h
 |[s],h=>cases s <;> cases h
 |s::t::u::r,h=>exfalso;cases s <;> cases t <;> cases u <;> first | (cases h;done) | (simp only[plA,Option.map_map,map_eq_some_iff] at h;obtain⟨_,_,h⟩:=h;cases h)
theorem v01{s t:S}(h:X20 [s]=true):X20 [s,t]=true:=by
 match s,h with
 |.d (.lst _),_=>rfl
theorem v21{s t:S}(h:X20 [t]=true):X20 [s,t]=true:=by
 match s with
 |.d (.lst _)=>rfl
 |.d .non | .d (.bl _) | .d (.int _) | .d (.str _) | .d (.tup _) | .d .dct | .fr _ | .z=>exact h
theorem h91{K:PySem.W.Frag}{zA:Option Addr}{H H1:Hp}{t:S}{v:V}{a:List D}(rv:RvS K zA H H1 t v)(h:plD t=some (.lst a)):∃ b ys,v=.ref b∧l70 K (hz zA H1) b ys∧HdA K (hz zA H1) a ys∧((H b=none∧H1 b=some (.lst ys))∨X20 [t]=true):=by
 cases t with
 |d x =>
  cases h
  obtain⟨b,ys,rfl,k1,k2⟩:=Hd.Q80 (show Hd K (hz zA H1) (.lst a) _ from rv)
  exact⟨b,ys,rfl,k1,k2,.inr rfl⟩
 |fr x =>
  cases h
  obtain⟨b,ys,rfl,k0,k1,k2,k3⟩:=rv
  exact⟨b,ys,rfl,l70.of (c80 k2 k1),k3.same (d50 b _),.inl ⟨k0,k2⟩⟩
 |z=>cases h
theorem i01(x:XI lm X G E N sc){tg a b:Expr}{as:Ex}{n:Str}{p pos:Pos}(ht:j20 tg=true)(hn:n="zip")(hg:glob sc n=true)(hL:isL as=true)(g:Good X G E as [a,b]):PI X tg (.Call (.Name n p) [a,b] [] pos) (tIt X.K G E .zip as):=by
 subst hn
 obtain⟨k1,k2,k3⟩:=d10 hg
 obtain⟨ha,hs⟩:=g.args hL
 rw[all_cons,all_cons,and_eq_true,and_eq_true] at hs
 cases tg with
 |Tuple es ek ep =>
  intro pins s σ H R I q
  refine P71 (x.glb _ k1) (x.blt _ (by decide)) ha (by rw[c40 hs.1,c40 hs.2.1];rfl) (c40 hs.2.1 [] X.env) pins s σ H R I ?_
  obtain⟨zA,ρ,z,rr,rel,st,ee,po⟩:=q
  refine⟨zA,ρ,z,rr,rel,st,ee,?_⟩
  cases rr with
  |er c z1=>exact po
  |ok l z1 =>
   obtain⟨xs,hx,po⟩:=po
   intro vs H1 x1 st1 rvs
   obtain⟨ds,h1,h2⟩:=C30 hx
   have hd:=C00 rvs h1
   match ds,h2 with
   |[.tup a,.tup b],h2 =>
    cases h2
    obtain⟨v,w,rfl,h3,h4⟩:=hd.two
    obtain⟨p1,us,rfl,m1,m2⟩:=h3.u70
    obtain⟨p2,ws,rfl,m3,m4⟩:=h4.u70
    exact⟨false,p1,p2,rfl,⟨us,(a30 zA H1).sqT m1⟩,⟨ws,(a30 zA H1).sqT m3⟩,po _ H1 x1 st1 λP B sub tup mv pa sf=>h51 (λ_ x=>a10.sqT x (tup _ _ m1)) (HdA.move mv (show ∀ y∈a,P y from pa _ h1 _ mem_cons_self) m2) (λ_ x=>a10.sqT x (tup _ _ m3)) (HdA.move mv (show ∀ y∈b,P y from pa _ h1 _ (mem_cons_of_mem _ mem_cons_self)) m4)⟩
   |[.lst a,.lst b],h2 =>
    cases h2
    obtain⟨t1,t2,rfl,e1,e2⟩:=H31 h1
    cases rvs with
    |cons rv1 rn =>
     cases rn with
     |cons rv2 rn =>
      cases rn
      obtain⟨p1,us,rfl,m1,m2,m3⟩:=h91 rv1 e1
      obtain⟨p2,ws,rfl,m4,m5,m6⟩:=h91 rv2 e2
      refine⟨true,p1,p2,rfl,⟨us,(m1.same (a30 zA H1)).sq⟩,⟨ws,(m4.same (a30 zA H1)).sq⟩,po _ H1 x1 st1 λP B sub tup mv pa sf=>h51 (λ_ x=>((sf _ _ m1 (m3.imp id λq=>?_)).same x).sq) (HdA.move mv (show ∀ y∈a,P y from pa _ h1 _ mem_cons_self) m2) (λ_ x=>((sf _ _ m4 (m6.imp id λq=>?_)).same x).sq) (HdA.move mv (show ∀ y∈b,P y from pa _ h1 _ (mem_cons_of_mem _ mem_cons_self)) m5)⟩
      ·exact v01 q
      ·exact v21 q
 |_=>cases ht
theorem S00:∀ {a:List D}{i n:Nat}{d:D},(o20 a n)[i]?=some d→∃ x,a[i]?=some x∧d=.tup [.int ((n + i:Nat):Int),x]
 |[],_,_,_,e=>by simp[o20] at e
 |x::r,0,n,d,e=>by simp[o20] at e;exact⟨x,rfl,e.symm⟩
 |x::r,i + 1,n,d,e=>by
  obtain⟨u,h1,h2⟩:=S00 (a:=r) (i:=i) (n:=n + 1) (by simpa [o20] using e)
  exact⟨u,by simpa using h1,by rw[h2,show n + 1 + i=n + (i + 1) by omega]⟩
theorem C40:∀ (a:List D) (n:Nat),(o20 a n).length=a.length
 |[],_=>rfl
 |x::r,n=>by simp only[o20,length_cons,C40 r]
theorem S10(h:∀ H,a10 B H→SqB b X.K H a us)(r:HdA X.K B xs us):ItB X.K (Ite b X.K a) (o20 xs 0) B where
 go:=λi H x hi=>by
  rw[C40] at hi
  exact⟨us,us[i]'(by rw[r.length];omega),h H x,by simp⟩
 yld:=λi H v H' zA z d x st y e=>by
  obtain⟨T,rfl,hT,y⟩:=y
  obtain⟨d1,e1,rfl⟩:=S00 e
  obtain⟨w1,f1,g1⟩:=r.get e1
  have y1:=y us w1 (h H (a10.trans x (a30 zA H))) f1
  subst y1
  have sm:a10 H (upd H T (.tup [.int i,w1])):=a10.new _ hT
  exact⟨sm,λC c t=>Hd.tup (t _ _ ((st.same sm).F31 (SqT.of a80))) (.cons (by rw[zero_add];exact Hd.int) (.cons (g1.same c) .nil))⟩
 stop:=λH x=>⟨us,h H x,by rw[C40,r.length]⟩
theorem H41(h:plA l=some [d]):∃ s,l=[s]:=by
 cases l with
 |nil=>cases h
 |cons s r =>
  cases r with
  |nil=>exact⟨s,rfl⟩
  |cons t q=>exfalso;cases s <;> cases t <;> first | (cases h;done) | (simp only[plA,Option.map_map,map_eq_some_iff] at h;obtain⟨_,_,h⟩:=h;cases h)
theorem S20(x:XI lm X G E N sc){tg a:Expr}{as:Ex}{n:Str}{p pos:Pos}(ht:j20 tg=true)(hn:n="enumerate")(hg:glob sc n=true)(hL:isL as=true)(g:Good X G E as [a]):PI X tg (.Call (.Name n p) [a] [] pos) (tIt X.K G E .enum as):=by
 subst hn
 obtain⟨k1,k2,k3⟩:=d10 hg
 obtain⟨ha,hs⟩:=g.args hL
 rw[all_cons,and_eq_true] at hs
 cases tg with
 |Tuple es ek ep =>
  intro pins s σ H R I q
  refine E51 (x.glb _ k1) (x.blt _ (by decide)) ha (c40 hs.1 [] X.env) pins s σ H R I ?_
  obtain⟨zA,ρ,z,rr,rel,st,ee,po⟩:=q
  refine⟨zA,ρ,z,rr,rel,st,ee,?_⟩
  cases rr with
  |er c z1=>exact po
  |ok l z1 =>
   obtain⟨xs,hx,po⟩:=po
   intro vs H1 x1 st1 rvs
   obtain⟨ds,h1,h2⟩:=C30 hx
   have hd:=C00 rvs h1
   match ds,h2 with
   |[.tup a],h2 =>
    cases h2
    obtain⟨v,rfl,h3⟩:=hd.one
    obtain⟨p1,us,rfl,m1,m2⟩:=h3.u70
    exact⟨false,p1,rfl,⟨us,(a30 zA H1).sqT m1⟩,po _ H1 x1 st1 λP B sub tup mv pa sf=>S10 (λ_ x=>a10.sqT x (tup _ _ m1)) (HdA.move mv (show ∀ y∈a,P y from pa _ h1 _ mem_cons_self) m2)⟩
   |[.lst a],h2 =>
    cases h2
    have fin:∀ (b:Addr) (ys:List V),l70 X.K (hz zA H1) b ys→HdA X.K (hz zA H1) a ys→((H b=none∧H1 b=some (.lst ys))∨X20 l=true)→∃ bb p,[V.ref b]=[.ref p]∧(∃ xs,SqB bb X.K H1 p xs)∧R (Ite bb X.K p) H1:=λb ys k1 k2 k5 =>
     ⟨true,b,rfl,⟨ys,(k1.same (a30 zA H1)).sq⟩,po _ H1 x1 st1 λP B sub tup mv pa sf=>S10 (λ_ x=>((sf _ _ k1 k5).same x).sq) (HdA.move mv (show ∀ y∈a,P y from pa _ h1 _ mem_cons_self) k2)⟩
    obtain⟨t,rfl⟩:=H41 h1
    cases rvs with
    |cons rv rn =>
     cases rn
     cases t with
     |d x =>
      cases h1
      obtain⟨b,ys,rfl,k1,k2⟩:=Hd.Q80 (show Hd X.K (hz zA H1) (.lst a) _ from rv)
      exact fin _ _ k1 k2 (.inr rfl)
     |fr x =>
      cases h1
      obtain⟨b,ys,rfl,k0,k1,k2,k3⟩:=rv
      exact fin _ _ (l70.of (c80 k2 k1)) (k3.same (d50 b _)) (.inl ⟨k0,k2⟩)
     |z=>cases h1
 |_=>cases ht
abbrev EF:XK:=λ_ _ _=>False
def ttC(K:PySem.W.Frag)(G:Gs):Ex→TT
 |.nil=>c01
 |.cons c _=>tT K G EF c
 |_=>λ_ _ _=>False
theorem X60(h:turns f (x::r) z=some (.ok ys z2)):∃ o z1 l,f x z=some (.ok o z1)∧turns f r z1=some (.ok l z2)∧ys=(match o with | some y=>y::l | none=>l):=by
 rcases M.bind_some (show M.bind (f x) _ z=_ from h) with ⟨o,z1,e1,e2⟩ | ⟨c,z1,e1,e2⟩
 ·rcases M.bind_some e2 with ⟨l,z3,e3,e4⟩ | ⟨c,z3,e3,e4⟩
  ·cases e4
   exact⟨o,z1,l,e1,e3,rfl⟩
  ·cases e4
 ·cases e2
theorem H51{zA:Option Addr}{J:L2.It}{xs ys:List D}{H1:Hp}{z1 z2:Z}{p:Pat}{cond el:Ex}{ρ0:Env}{σ0:L2.St}{Q:VK}(IT:k42 X.K zA J xs H1)(hm:xs.length≤most)(rel0:q10 X.K zA H1 ρ0 σ0)(len:ρ0.length=σ0.length)(st1:c30 zA z1 H1)
  (hc:cond=.nil∨∃ c,cond=.cons c .nil) (e:turns (s10 (ev G.F cond) (ev G.F el) p ρ0) xs z1=some (.ok ys z2))
  (fin:∀ H2 vs l,Ext zA H1 H2→c30 zA z2 H2→HdA X.K (hz zA H2) ys vs→H2 l=none→Q (.ref l) (upd H2 l (.lst vs))):W00 J σ0 H1 (gP X.K p) (ttC X.K G cond) (tI X.K G EF el) Q:=by
 refine⟨λi m vs H=>m=xs.length - i∧i≤xs.length∧vs.length≤i∧∃ yd z rest,Ext zA H1 H∧c30 zA z H∧HdA X.K (hz zA H) yd vs∧turns (s10 (ev G.F cond) (ev G.F el) p ρ0) (xs.drop i) z=some (.ok rest z2)∧ys=yd++rest,
  ⟨xs.length,rfl,zero_le _,zero_le _,[],z1,ys,Ext.refl,st1,.nil,by simpa using e,rfl⟩,?_⟩
 rintro i m vs H ⟨rfl,hi,hv,yd,z,rest,x,st,hd,et,ey⟩
 by_cases hlt:i < xs.length
 ·refine .inr ⟨IT.go i H x hlt,Nat.lt_of_le_of_lt hv (Nat.lt_of_lt_of_le hlt (d80 hm)),
   λws H'=>ws.length≤i + 1∧∃ yd z rest,Ext zA H1 H'∧c30 zA z H'∧HdA X.K (hz zA H') yd ws∧turns (s10 (ev G.F cond) (ev G.F el) p ρ0) (xs.drop (i + 1)) z=some (.ok rest z2)∧ys=yd++rest,
   λws H' q=>⟨xs.length - (i + 1),by omega,rfl,hlt,q.1,q.2⟩,λv H' y=>?_⟩
  obtain⟨sm,hx⟩:=IT.yld i H v H' z xs[i] x st y (by simp[hlt])
  rw[List.drop_eq_getElem_cons hlt] at et
  obtain⟨o,z3,l,f1,f2,f3⟩:=X60 et
  obtain⟨ρ',b1,f4⟩:=M.a00 (show M.bind (M.of (e50 p xs[i] ρ0)) _ z=_ from f1)
  have x':Ext zA H1 H':=x.trans (Ext.of sm)
  have st':=st.same sm
  refine h01 b1 (rel0.mono x') len hx λσ' rel' len'=>?_
  have yes:∀ {za:Z}{Ha:Hp},Ext zA H' Ha→c30 zA za Ha→M.bind (ev G.F el ρ') (λy=>M.bind (M.of (pl y)) λy=>M.ret (some y)) za=some (.ok o z3)→tI X.K G EF el σ' Ha (λy H4=>(vs++[y]).length≤i + 1∧∃ yd z rest,Ext zA H1 H4∧c30 zA z H4∧HdA X.K (hz zA H4) yd (vs++[y])∧turns (s10 (ev G.F cond) (ev G.F el) p ρ0) (xs.drop (i + 1)) z=some (.ok rest z2)∧ys=yd++rest):=λ{za Ha} xa sta ea=>by
   refine g80 (rel'.mono xa) sta ea (λc z1 h=>by cases h) λm z4 e4=>?_
   obtain⟨d,p1,e5⟩:=M.a00 e4
   obtain⟨s1,rfl,q1⟩:=d70 p1
   cases e5
   refine⟨s1,rfl,λw H4 x4 st4 rv=>⟨by rw[length_append];simp;omega,yd++[d],z3,l,(x'.trans xa).trans x4,st4,?_,f2,by rw[ey,f3,append_assoc];rfl⟩⟩
   exact(hd.same (a10.trans (h50 sm) (a10.trans xa.same x4.same))).append (.cons (rv.pl.d_ q1) .nil)
  rcases hc with rfl | ⟨c,rfl⟩
  ·have f5:M.bind (ev G.F el ρ') (λy=>M.bind (M.of (pl y)) λy=>M.ret (some y)) z=some (.ok o z3):=f4
   have ty:ttC X.K G .nil=c01:=rfl
   rw[ty]
   refine s71 ?_
   dsimp only
   rw[if_pos rfl]
   exact yes Ext.refl st' f5
  ·rcases M.bind_some (show M.bind (ev G.F (.cons c .nil) ρ') _ z=_ from f4) with ⟨m,za,e1,e2⟩ | ⟨q,za,e1,e2⟩
   ·rcases M.bind_some (show M.bind (ev G.F c ρ') _ z=_ from e1) with ⟨m',zb,e3,e4⟩ | ⟨q,zb,e3,e4⟩
    ·obtain⟨s,hs,e5⟩:=M.a00 e4
     cases e5
     have hm':=v00 hs
     subst hm'
     show tT X.K G EF c σ' H' _
     have tb:∃ b,s=.d (.bl b):=by
      cases s with
      |d y=>cases y with
       |bl b=>exact⟨b,rfl⟩
       |_=>cases e2
      |fr _=>cases e2
      |z=>cases e2
     obtain⟨b,rfl⟩:=tb
     refine⟨zA,ρ',z,_,rel',st',e3,b,rfl,λHa xa sta=>?_⟩
     cases b with
     |true =>
      rw[if_pos rfl]
      exact yes xa sta e2
     |false =>
      rw[if_neg Bool.false_ne_true]
      cases e2
      exact⟨Nat.le_trans hv (Nat.le_succ _),yd,z3,l,x'.trans xa,sta,hd.same (a10.trans (h50 sm) xa),f2,by rw[ey,f3]⟩
    ·cases e4
   ·cases e2
 ·have hi':i=xs.length:=by omega
  subst hi'
  rw[drop_length] at et
  cases et
  refine .inl ⟨IT.stop H x,λl hl=>fin H vs l x st (by rw[ey,append_nil];exact hd) hl⟩
end
section
variable {K:PySem.W.Frag}{zA:Option Addr}{z:Z}{H H2:Hp}{P:Addr}{q:Str}
theorem S30(KB:u40 P H H2)(t:Tab H P q)(t2:Tab H2 P q):Ext zA H H2:=by
 refine⟨λb o h=>?_,λb ps h=>?_⟩
 ·obtain⟨h1,h2⟩:=j60 h
  have nt:=k20 h
  obtain⟨ps,hp,_⟩:=t
  have hb:b≠P:=λz=>by
   subst z
   rw[hp] at h1
   cases h1
   exact nt _ rfl
  exact c80 (KB.same b o hb h1) h2 nt
 ·by_cases hb:b=P
  ·subst hb
   obtain⟨qs,e,_⟩:=t2
   exact⟨qs,e⟩
  ·exact⟨ps,KB.same b _ hb h⟩
theorem i11(KB:u40 P H H2)(t:Tab H P q)(t2:Tab H2 P q)(uq:∀ p∈TB.tb,p.1=P→p.2=q)(st:c30 zA z H):c30 zA z H2:=by
 obtain⟨ps,hp,_⟩:=t
 have ne:∀ {b:Addr}{o:HO},H b=some o→(∀ l,o≠.tbl l)→b≠P:=λ{b o} e1 e2 z=>by
  subst z
  rw[hp] at e1
  cases e1
  exact e2 _ rfl
 refine⟨?_,λp hq=>?_⟩
 ·have h:=st.zat
  cases zA with
  |none=>cases z with
   |none=>trivial
   |some _=>exact h.elim
  |some a=>cases z with
   |none=>exact h.elim
   |some pr =>
    have h':H a=some (.lst [.int pr.1,.bl pr.2]):=h
    exact KB.same _ _ (ne h' λ_ z=>nomatch z) h'
 ·by_cases hb:p.1=P
  ·rw[uq p hq hb,hb];exact t2
  ·obtain⟨qs,e,tr,k⟩:=st.tab p hq
   refine⟨qs,KB.same _ _ hb e,tr,λpos c hc=>?_⟩
   obtain⟨c',e1,e2⟩:=k pos c hc
   exact⟨c',e1,KB.same _ _ (ne e2 λ_ z=>nomatch z) e2⟩
theorem i21:∀ l:List Nat,(a90 N l).length≤l.length
 |[]=>Nat.le_refl _
 |j::q=>by
  have ih:=i21 (N:=N) q
  unfold a90
  split
  ·rw[length_cons,length_cons];omega
  ·rw[length_cons];omega
theorem v60(rel:q10 K zA H ρ σ):∀ {capt:List Nat}{ss:List S},Z20 ρ capt=some ss→(a90 N capt).length=capt.length →
  ∃ vs,RvA K zA H ss vs∧vs.length=(a90 N capt).length∧∀ (i:Nat) (x:Str) (v:V),((a90 N capt).map (·.1))[i]?=some x→vs[i]?=some v→∃ j:Nat,N[j]?=some x∧σ[j]?=some (some v)
 |[],ss,h,_=>by
  cases h
  exact⟨[],.nil,rfl,λi x v h=>by simp[a90] at h⟩
 |i::capt,ss,h,hl=>by
  have h:(match ρ[i]? with | some (some s)=>(Z20 ρ capt).map (s::·) | _=>none)=some ss:=h
  have le:=i21 (N:=N) capt
  obtain⟨s,r,e2,h3,rfl⟩:∃ s r,ρ[i]?=some (some s)∧Z20 ρ capt=some r∧ss=s::r:=by
   split at h
   ·rename_i s e
    obtain⟨r,h3,h4⟩:=Option.map_eq_some_iff.mp h
    exact⟨s,r,e,h3,h4.symm⟩
   ·cases h
  obtain⟨v,k1,k2⟩:=rel i s e2
  cases hN:N[i]? with
  |none =>
   unfold a90 at hl
   rw[hN] at hl
   simp only[length_cons] at hl
   omega
  |some y =>
   unfold a90 at hl ⊢
   rw[hN] at hl ⊢
   simp only[length_cons] at hl
   obtain⟨vs,a1,a2,a3⟩:=v60 rel (N:=N) (capt:=capt) h3 (by omega)
   refine⟨v::vs,.cons k2 a1,by simp[a2],λj x u b1 b2=>?_⟩
   cases j with
   |zero =>
    simp only[map_cons,List.getElem?_cons_zero,Option.some.injEq] at b1 b2
    subst b1;subst b2
    exact⟨i,hN,k1⟩
   |succ j=>exact a3 j x u (by simpa using b1) (by simpa using b2)
theorem C50:∀ {ss:List S}{vs:List V},RvA K zA H ss vs→q10 K zA H (ss.map some) (vs.map some)
 |[],_,h,i,s,e=>by simp at e
 |a::ss,_,h,i,s,e=>by
  cases h with
  |cons h1 h2 =>
   cases i with
   |zero =>
    simp only[map_cons,List.getElem?_cons_zero,Option.some.injEq] at e
    subst e
    exact⟨_,rfl,h1⟩
   |succ i =>
    obtain⟨v,k1,k2⟩:=C50 h2 i s (by simpa using e)
    exact⟨v,by simpa using k1,k2⟩
end
section
variable {lm:Bool}{X:Cx}{G:Gs}{E:XK}{N:List Str}{sc:Scope}
theorem W31(x:XI lm X G E N sc)(hlm:lm=true)(hg:glob sc "_law_refused"=true)(hc:(a90 N capt).length=capt.length)(hs:H40 lsc sc (a90 N capt)=true)(hL:isL a=false)
  (ih:∀ (k:Nat) {X:Cx}{E:XK},XI false X (lowG G k) E ((a90 N capt).map (·.1)) lsc→Good X (lowG G k) E a [body]):b00 X G E (.refd capt a) (.Call (.Name "_law_refused" p) [.Lambda ⟨[],[],none,[],[],none,[]⟩ body lsc lpos] [] pos):=by
 obtain⟨c,P,q,k,fR,fdR,L⟩:=x.lam hlm
 obtain⟨k1,k2,k3⟩:=d10 hg
 unfold H40 at hs
 simp only[and_eq_true,not_eq_true',beq_iff_eq,all_eq_true,decide_eq_true_eq] at hs
 obtain⟨⟨⟨⟨⟨⟨s1,s2⟩,s3⟩,s4⟩,s5⟩,s6⟩,s7⟩:=hs
 refine b10 (λpins s σ H Q I qq=>?_) rfl
 obtain⟨zA,ρ,z,rr,rel,st,e,po⟩:=qq
 have e0:R81 (Z20 ρ capt) (λρ'=>ev (p20 G.F) a ρ') z=some rr:=e
 unfold R81 at e0
 split at e0
 ·cases e0
 ·rename_i ss hss
  split at e0
  ·rename_i cc z1 he
   split at e0
   ·rename_i hc12
    cases e0
    obtain⟨vs,ra,hvl,hvs⟩:=v60 rel hss hc
    have tab:=st.tab _ L.tb
    have hfree:∀ y∈(a90 N capt).map (·.1),lsc.names.lookup y=some .free:=λy hy=>by
     obtain⟨pr,h1,rfl⟩:=List.mem_map.mp hy
     exact s6 pr h1
    refine L20 (RR:=λH2 H'=>Ext zA H2 H'∧c30 zA z1 H') (cls:=.ref (G.cls cc)) (N:=(a90 N capt).map (·.1)) (k:=k) (P:=P) (qual:=q) L.fn (by rw[← L.lv];exact x.room) (x.glb _ k1) L.m L.kp L.bd L.code L.hd L.qual L.bm (λy hy hf=>?_) (λy hy=>by simpa using s4 y hy) hfree s1 s2 s3 rfl (λ_ _ _ _=>rfl) k2 rfl pins s σ H Q I ?_
    ·have:=s5 y hy
     rw[hf] at this
     unfold Env.kindOf
     rw[L.sco]
     simpa using this
    ·refine⟨tab,vs,by rw[length_map];exact hvl,λi y v h1 h2=>by rw[x.hN];exact hvs i y v h1 h2,λH2 KB TB2=>?_⟩
     have x2:Ext zA H H2:=S30 KB tab TB2
     have st2:c30 zA z H2:=i11 KB tab TB2 L.uq st
     refine⟨λf c' cl A outer s3 H3 hr sm=>?_,λs2 f th=>?_⟩
     ·have XL:XI false (w80 X.prog X.w X.K X.mg X.base ((a90 N capt).map (·.1)) q lsc f (.ref c') cl A outer s3 H3 λc _ H'=>c=.ref (G.cls cc)∧Ext zA H2 H'∧c30 zA z1 H') (lowG G k) (λc _ H'=>c=.ref (G.cls cc)∧Ext zA H2 H'∧c30 zA z1 H') ((a90 N capt).map (·.1)) lsc :=
       { gok:=L.low,num:=x.num,blt:=x.blt,hN:=rfl,nd:=s7,vis:=λy hy=>.inr (.inr (hfree y hy)),glb:=λy h=>h,cel:=λy h=>h,calm:=rfl,room:=hr,pas:=e51,lam:=λh=>nomatch h }
      refine⟨_,(a70 hL (ih k XL)).pe,?_⟩
      refine⟨zA,ss.map some,z,_,C50 (RvA.mono ra (x2.trans (Ext.of sm))),st2.same sm,he,λea H' xx stt hn=>?_⟩
      exact⟨rfl,(Ext.of sm).trans xx,stt⟩
     ·refine⟨f,G.cls cc,cc,_,rfl,th,L.cls cc hc12,λl H1 H' hRR sm hl=>?_⟩
      obtain⟨x1,st1⟩:=hRR
      obtain⟨s',e',po⟩:=po
      cases e'
      have xx:Ext zA H H':=(x2.trans x1).trans (Ext.of sm)
      have stt:=st1.same sm
      exact po _ _ (xx.trans (Ext.of (a10.new _ hl))) (stt.same (a10.new _ hl)) ((k30 stt (HdA.cons Hd.int HdA.nil) hl).from xx)
   ·cases e0
  ·cases e0
end
theorem f70{env:PySem.Env}{k0:NameKind}(hk:k0≠.free):∀ {names:List (Str × NameKind)}{x:Str},names.lookup x=some k0 →
  (names.map λ(n,k)=>if (k == NameKind.free&&env.scope.kind == .function&&env.kindOf n == some .cell) then(n,NameKind.cell) else(n,k)).lookup x=some k0
 |[],_,h=>by simp at h
 |(n,k)::r,x,h=>by
  have ih:=@f70 env k0 hk r x
  show List.lookup x ((if (k == NameKind.free&&env.scope.kind == .function&&env.kindOf n == some .cell)=true then(n,NameKind.cell) else(n,k))::_)=_
  cases hx:x == n with
  |true =>
   simp only[lookup_cons,hx] at h
   cases h
   have:(k0 == NameKind.free)=false:=by simpa using hk
   rw[this,Bool.false_and,Bool.false_and,if_neg Bool.false_ne_true]
   simp only[lookup_cons,hx]
  |false =>
   simp only[lookup_cons,hx] at h
   by_cases hq:(k == NameKind.free&&env.scope.kind == .function&&env.kindOf n == some .cell)=true
   ·rw[if_pos hq];simp only[lookup_cons,hx];exact ih h
   ·rw[if_neg hq];simp only[lookup_cons,hx];exact ih h
section
variable {lm:Bool}{X:Cx}{G:Gs}{E:XK}{N:List Str}{sc csc:Scope}{on:List Str}{cs:List (Str × Nat)}
structure H61(csc sc:Scope)(N on:List Str)(cs:List (Str × Nat)):Prop where
 kind:csc.kind=.function
 nocell:∀ y∈csc.names,y.2≠.cell
 locs:∀ y∈csc.names,y.2=.local→csc.names.lookup y.1=some .local
 frees:∀ y∈csc.names,y.2=.free→(sc.names.lookup y.1=some .cell∨sc.names.lookup y.1=some .free)
 captd:∀ p∈cs,N[p.2]?=some p.1∧csc.names.lookup p.1=some .free
 own:∀ x∈on,csc.names.lookup x=some .local
 nd:(on++cs.map (·.1)).Nodup
theorem W41(h:H30 csc sc N on cs=true):H61 csc sc N on cs:=by
 unfold H30 at h
 simp only[and_eq_true] at h
 obtain⟨⟨⟨⟨⟨⟨h1,h2⟩,h3⟩,h4⟩,h5⟩,h6⟩,h7⟩:=h
 rw[all_eq_true] at h2 h3 h4 h5 h6
 refine⟨by simpa using h1,λy hy=>by simpa using h2 y hy,λy hy hl=>?_,λy hy hf=>?_,λp hp=>by simpa using h5 p hp,λx hx=>by simpa using h6 x hx,of_decide_eq_true h7⟩
 ·have:=h3 y hy;rw[hl] at this;simpa using this
 ·have:=h4 y hy
  rw[hf] at this
  simpa using this
theorem i31(x:XI lm X G E N sc)(c:H61 csc sc N on cs):j90 X csc on cs:=⟨c.kind,c.nocell,c.locs,λy hy hf=>x.cel _ (c.frees y hy hf),λp hp=>by rw[x.hN];exact c.captd p hp⟩
theorem C60(x:XI lm X G E N sc)(c:H61 csc sc N on cs)(cl:List (Str × Addr))(C:Addr)(s:Shared)(H:Hp)(fp:List Addr):XI false (b50 X (c00 on cs) csc cl C s H fp) G EF (on++cs.map (·.1)) csc where
 gok:=x.gok
 num:=x.num
 blt:=x.blt
 hN:=rfl
 nd:=c.nd
 vis:=λy hy=>by
  rcases List.mem_append.mp hy with h | h
  ·exact .inl (f70 (by decide) (c.own y h))
  ·obtain⟨p,hp,rfl⟩:=List.mem_map.mp h
   rcases l20 (env:=X.env) (c.captd p hp).2 with h | h
   ·exact .inr (.inl h)
   ·exact .inr (.inr h)
 glb:=λy hy=>f70 (by decide) hy
 cel:=λy hy=>by
  rcases hy with h | h
  ·exact .inl (f70 (by decide) h)
  ·exact l20 (env:=X.env) h
 calm:=x.calm
 room:=x.room
 pas:=Q91
 lam:=λh=>nomatch h
theorem C70(x:XI lm X G E N sc)(c:H61 csc sc N on cs)(cl:List (Str × Addr))(C:Addr)(s:Shared)(H:Hp)(fp:List Addr):u91 (b50 X (c00 on cs) csc cl C s H fp) (on++cs.map (·.1)) (λy=>on.contains y) where
 hN:=rfl
 nd:=c.nd
 lc:=λy hy=>.inl (f70 (by decide) (c.own y (by simpa using hy)))
 fn:=λy hy=>.inr (f70 (by decide) (c.own y (by simpa using hy)))
 calm:=x.calm
theorem S40:∀ {capt:List Nat},(a90 N capt).length=capt.length→(a90 N capt).map (·.2)=capt
 |[],_=>rfl
 |i::r,h=>by
  have le:∀ l:List Nat,(a90 N l).length≤l.length:=by
   intro l
   induction l with
   |nil=>exact Nat.le_refl _
   |cons j q ih =>
    unfold a90
    split
    ·rw[length_cons,length_cons];omega
    ·rw[length_cons];omega
  unfold a90 at h ⊢
  split at h
  ·rename_i y hy
   rw[length_cons,length_cons] at h
   rw[map_cons,S40 (by omega)]
  ·have:=le r
   rw[length_cons] at h
   omega
theorem v31(rel:q10 X.K zA H ρ σ)(h:cs.map (·.2)=capt):q10 X.K zA H (replicate on.length none++capt.map λi=>(ρ[i]?).getD none) (m20 on cs σ) ∧
  (replicate on.length (none:Option S)++capt.map λi=>(ρ[i]?).getD none).length=(m20 on cs σ).length:=by
 subst h
 constructor
 ·intro j s e
  unfold m20
  by_cases hj:j < on.length
  ·rw[List.getElem?_append_left (by simpa using hj)] at e
   simp[List.getElem?_replicate,hj] at e
  ·rw[List.getElem?_append_right (by simpa using hj),List.length_replicate,List.getElem?_map,List.getElem?_map] at e
   rw[List.getElem?_append_right (by simpa using hj),length_map,List.getElem?_map]
   cases hp:cs[j - on.length]? with
   |none=>rw[hp] at e;simp at e
   |some p =>
    rw[hp] at e
    simp only[Option.map_some,Option.some.injEq] at e
    have e2:ρ[p.2]?=some (some s):=by
     cases hr:ρ[p.2]? with
     |none=>rw[hr] at e;cases e
     |some o=>rw[hr] at e;exact congrArg some e
    obtain⟨v,h1,h2⟩:=rel p.2 s e2
    exact⟨v,by simp[h1],h2⟩
 ·unfold m20
  simp
theorem i41(h:o60 e=true)(env:PySem.Env)(x:Value):foldedSetIterable e env x=pure x:=by
 cases e with
 |Set _ _ _=>cases h
 |_=>rfl
def x90(X:Cx)(G:Gs)(E:XK)(x:Ex)(elt tg iter:Expr)(ifs:List Expr)(csc:Scope):Prop:=∃ (own:List Str) (capt:List (Str × Nat)) (wi:TI) (g:TG) (tt:TT) (te:TE),j90 X csc own capt∧PI X tg iter wi ∧
 (∀ cl C s H fp,PG (b50 X (c00 own capt) csc cl C s H fp) tg g)∧(∀ cl C s H fp,PTs (b50 X (c00 own capt) csc cl C s H fp) ifs tt)∧(∀ cl C s H fp,PE (b50 X (c00 own capt) csc cl C s H fp) elt te) ∧
 (∀ x,foldedSetIterable iter X.env x=pure x)∧∀ σ H Q,tI X.K G E x σ H Q→D31 own capt wi g tt te σ H Q
theorem k52(x:XI lm X G E N sc){p:Pat}{it:It}{src cond el:Ex}{capt:List Nat}{elt tg iter:Expr}{ifs:List Expr}(c:H61 csc sc N on cs)(hcap:cs.map (·.2)=capt)(hp:g90 (on++cs.map (·.1)) (λy=>on.contains y) p tg=true)
  (hi:PI X tg iter (tIt X.K G E it src)) (hns:o60 iter=true) (hc:(cond=.nil∧ifs=[])∨∃ q f,cond=.cons q .nil∧ifs=[f]∧∀ cl C s H fp,PT (b50 X (c00 on cs) csc cl C s H fp) f (tT X.K G EF q))
  (he:∀ cl C s H fp,PE (b50 X (c00 on cs) csc cl C s H fp) elt (tI X.K G EF el)):x90 X G E (.comp on.length capt p it src cond el) elt tg iter ifs csc:=by
 have ht:∀ cl C s H fp,PTs (b50 X (c00 on cs) csc cl C s H fp) ifs (ttC X.K G cond):=by
  rcases hc with ⟨rfl,rfl⟩ | ⟨q,f,rfl,rfl,h⟩
  ·exact λcl C s H fp=>c21
  ·exact λcl C s H fp=>c31 (h cl C s H fp)
 refine⟨on,cs,tIt X.K G E it src,gP X.K p,ttC X.K G cond,tI X.K G EF el,i31 x c,hi,λcl C s H fp=>g91 (C70 x c cl C s H fp) hp,ht,he,i41 hns X.env,λσ H Q q=>?_⟩
 obtain⟨zA,ρ,z,rr,rel,st,e,po⟩:=q
 have e0:M.bind (ev G.F src ρ) (λl=>M.bind (M.of ((plA l).bind (itD it))) λxs=>if xs.length≤most then M.bind (M.calm (turns (s10 (ev G.F cond) (ev G.F el) p (replicate on.length none++capt.map λi=>(ρ[i]?).getD none)) xs)) λys=>M.ret [.fr ys] else M.no) z=some rr:=e
 rcases M.bind_some e0 with ⟨m,z1,e1,e2⟩ | ⟨k,z1,e1,e2⟩
 ·obtain⟨xs,hx,e3⟩:=M.a00 e2
  refine⟨zA,ρ,z,_,rel,st,e1,xs,hx,λJ H1 x1 st1 IT'=>?_⟩
  have IT:=IT'.ok
  split at e3
  ·rename_i hm
   rcases M.bind_some e3 with ⟨ys,z2,e4,e5⟩ | ⟨k,z2,e4,e5⟩
   ·cases e5
    have e6:turns (s10 (ev G.F cond) (ev G.F el) p (replicate on.length none++capt.map λi=>(ρ[i]?).getD none)) xs z1=some (.ok ys z2):=by
     unfold M.calm at e4
     split at e4
     ·rename_i h;cases e4;exact h
     ·cases e4
    obtain⟨r1,r2⟩:=v31 (on:=on) (rel.mono x1) hcap
    refine H51 IT hm r1 r2 st1 (by rcases hc with ⟨h,_⟩ | ⟨q,_,h,_⟩;exact .inl h;exact .inr ⟨q,h⟩) e6 λH2 vs l x2 st2 hd hl=>?_
    exact e20 po (x1.trans x2) st2 _ _ (a10.new _ hl) (k30 st2 hd hl)
   ·unfold M.calm at e4
    split at e4 <;> cases e4
  ·cases e3
 ·exact⟨zA,ρ,z,_,rel,st,e1,(e90 po) k z1 e2⟩
theorem x90.good(hc:X.calm=true)(h:x90 X G E x elt tg iter ifs csc):b00 X G E x (.ListComp elt [⟨tg,iter,ifs,0⟩] csc pos):=by
 obtain⟨own,capt,wi,g,tt,te,h1,h2,h3,h4,h5,h6,h7⟩:=h
 exact b10 (PE.imp (c41 hc h1 h2 h3 h4 h5 h6) h7) rfl
theorem b20(h:(!isL x)=true):isL x=false:=by simpa using h
theorem i51(hL:isL x=true)(g:Good X G E x [e]):∃ a,x=.cons a .nil∧b00 X G E a e:=by
 cases x with
 |nil=>cases (show [e]=[] from g)
 |cons a r =>
  obtain⟨e',es,h,ns,ga,lr,gr⟩:=g
  cases h
  cases r with
  |nil=>exact⟨a,rfl,ga⟩
  |cons b q=>obtain⟨e,es,h,_⟩:=gr;cases h
  |_=>cases lr
 |_=>cases hL
theorem H70{lm:Bool}{G:Gs}{own:Nat}{capt:List Nat}{p:Pat}{it:It}{src cond el:Ex}(ihs:(∀ {X:Cx}{E:XK}{N:List Str}{sc:Scope},XI lm X G E N sc→∀ {es:List Expr},mt lm G.fns G.nums src sc N es=true→Good X G E src es))(ihc:(∀ {X:Cx}{E:XK}{N:List Str}{sc:Scope},XI false X G E N sc→∀ {es:List Expr},mt false G.fns G.nums cond sc N es=true→Good X G E cond es))(ihe:(∀ {X:Cx}{E:XK}{N:List Str}{sc:Scope},XI false X G E N sc→∀ {es:List Expr},mt false G.fns G.nums el sc N es=true→Good X G E el es))
  {X:Cx}{E:XK}{N:List Str}{sc:Scope} (x:XI lm X G E N sc) {elt tg iter:Expr}{ifs:List Expr}{csc:Scope} (h:(c60 tg).length == own&&(a90 N capt).length == capt.length&&H30 csc sc N (c60 tg) (a90 N capt)&&g90 (c60 tg++(a90 N capt).map (·.1)) (λx=>(c60 tg).contains x) p tg&&isL src&&!isL el&&isL cond&&ifs.length≤1&&noStar elt&&o60 iter&&ifs.all (λc=>!ifB c) &&
    (match it with
    |.seq=>mt lm G.fns G.nums src sc N [iter]
    |.rng1=>opt (L91 iter) λr=>r.1.1 == ("range":Str)&&glob sc r.1.1&&mt lm G.fns G.nums src sc N [r.1.2.2.1]
    |.rng2=>opt (M01 iter) λr=>r.1.1 == ("range":Str)&&glob sc r.1.1&&mt lm G.fns G.nums src sc N [r.1.2.2.1,r.1.2.2.2.1]
    |.zip=>opt (M01 iter) λr=>r.1.1 == ("zip":Str)&&glob sc r.1.1&&j20 tg&&mt lm G.fns G.nums src sc N [r.1.2.2.1,r.1.2.2.2.1]
    |.enum=>opt (L91 iter) λr=>r.1.1 == ("enumerate":Str)&&glob sc r.1.1&&j20 tg&&mt lm G.fns G.nums src sc N [r.1.2.2.1])&&mt false G.fns G.nums cond csc (c60 tg++(a90 N capt).map (·.1)) ifs&&mt false G.fns G.nums el csc (c60 tg++(a90 N capt).map (·.1)) [elt]):x90 X G E (.comp own capt p it src cond el) elt tg iter ifs csc:=by
 simp only[and_eq_true,beq_iff_eq,decide_eq_true_eq] at h
 obtain⟨⟨⟨⟨⟨⟨⟨⟨⟨⟨⟨⟨⟨h1,h2⟩,h3⟩,h4⟩,h5⟩,h6⟩,h7⟩,h8⟩,h9⟩,h10⟩,h11⟩,h12⟩,h13⟩,h14⟩:=h
 subst h1
 have c:=W41 h3
 have hi:PI X tg iter (tIt X.K G E it src):=by
  cases it with
  |seq =>
   obtain⟨a,rfl,ga⟩:=i51 h5 (ihs x h12)
   exact A31 ga
  |rng1 =>
   obtain⟨⟨⟨n,_,a,_⟩,rfl⟩,-,h12⟩:=a50 h12
   simp only[and_eq_true,beq_iff_eq] at h12
   exact h71 x h12.1.1 h12.1.2 h5 (ihs x h12.2)
  |rng2 =>
   obtain⟨⟨⟨n,_,a,b,_⟩,rfl⟩,-,h12⟩:=a50 h12
   simp only[and_eq_true,beq_iff_eq] at h12
   exact h81 x h12.1.1 h12.1.2 h5 (ihs x h12.2)
  |zip =>
   obtain⟨⟨⟨n,_,a,b,_⟩,rfl⟩,-,h12⟩:=a50 h12
   simp only[and_eq_true,beq_iff_eq] at h12
   exact i01 x h12.1.2 h12.1.1.1 h12.1.1.2 h5 (ihs x h12.2)
  |enum =>
   obtain⟨⟨⟨n,_,a,_⟩,rfl⟩,-,h12⟩:=a50 h12
   simp only[and_eq_true,beq_iff_eq] at h12
   exact S20 x h12.1.2 h12.1.1.1 h12.1.1.2 h5 (ihs x h12.2)
 have hc:(cond=.nil∧ifs=[])∨∃ q f,cond=.cons q .nil∧ifs=[f]∧∀ cl C s H fp,PT (b50 X (c00 (c60 tg) (a90 N capt)) csc cl C s H fp) f (tT X.K G EF q):=by
  match ifs,h8,h11,h13 with
  |[],_,_,h13 =>
   cases cond with
   |nil=>exact .inl ⟨rfl,rfl⟩
   |cons a r=>cases h13
   |_=>cases h7
  |[f],_,h11,h13 =>
   cases cond with
   |nil=>cases h13
   |cons a r =>
    have h13':(noStar f&&!isL a&&isL r&&mt false G.fns G.nums a csc (c60 tg++(a90 N capt).map (·.1)) [f]&&mt false G.fns G.nums r csc (c60 tg++(a90 N capt).map (·.1)) [])=true:=h13
    simp only[and_eq_true] at h13'
    have rn:r=.nil:=by
     cases r with
     |nil=>rfl
     |cons b q=>cases h13'.2
     |_=>cases h13'.1.1.2
    subst rn
    simp only[all_cons,all_nil,Bool.and_true] at h11
    refine .inr ⟨a,f,rfl,rfl,λcl C s H fp=>?_⟩
    obtain⟨e',es,he,ns,ga,lr,gr⟩:=ihc (C60 x c cl C s H fp) h13
    cases he
    exact ga.pt (H01 h11)
   |_=>cases h7
 refine k52 x c (S40 h2) h4 hi h10 hc λcl C s H fp=>?_
 exact(a70 (b20 h6) (ihe (C60 x c cl C s H fp) h14)).pe
theorem W51:∀ (t:Ex) {lm:Bool}{G:Gs}{X:Cx}{E:XK}{N:List Str}{sc:Scope},XI lm X G E N sc→∀ {es:List Expr},mt lm G.fns G.nums t sc N es=true→Good X G E t es:=by
 intro t
 induction t with
 |nil =>
  intro lm G X E N sc x es h
  exact List.isEmpty_iff.mp h
 |cons a r iha ihr =>
  intro lm G X E N sc x es h
  cases es with
  |nil=>cases h
  |cons e es =>
   have h:(noStar e&&!isL a&&isL r&&mt lm G.fns G.nums a sc N [e]&&mt lm G.fns G.nums r sc N es)=true:=h
   simp only[and_eq_true] at h
   obtain⟨⟨⟨⟨h1,h2⟩,h3⟩,h4⟩,h5⟩:=h
   exact⟨e,es,rfl,h1,a70 (b20 h2) (iha x h4),h3,ihr x h5⟩
 |var i =>
  intro lm G X E N sc x es h
  obtain⟨⟨q,rfl⟩,-,h⟩:=a50 h
  simp only[and_eq_true,beq_iff_eq] at h
  exact b60 rfl (i82 x h.1 h.2)
 |con d =>
  intro lm G X E N sc x es h
  rcases (or_eq_true _ _).mp h with h | h
  ·obtain⟨⟨q,rfl⟩,-,h⟩:=a50 h
   exact b60 rfl (i92 h)
  ·obtain⟨⟨p,rfl⟩,-,h⟩:=a50 h
   cases d with
   |dct=>exact b60 rfl j02
   |_=>cases h
 |gint g i =>
  intro lm G X E N sc x es h
  obtain⟨⟨⟨n,p⟩,rfl⟩,-,h⟩:=a50 h
  simp only[and_eq_true,beq_iff_eq,List.contains_iff_mem] at h
  obtain⟨⟨rfl,h2⟩,h3⟩:=h
  exact b60 rfl (U41 x h2 h3)
 |tup as ih =>
  intro lm G X E N sc x es h
  obtain⟨⟨q,rfl⟩,-,h⟩:=a50 h
  simp only[and_eq_true] at h
  exact b60 rfl (j12 h.1 (ih x h.2))
 |lst as ih =>
  intro lm G X E N sc x es h
  obtain⟨⟨q,rfl⟩,-,h⟩:=a50 h
  simp only[and_eq_true] at h
  exact b60 rfl (j22 h.1 (ih x h.2))
 |bin o a b iha ihb =>
  intro lm G X E N sc x es h
  obtain⟨⟨⟨l,op,r,p⟩,rfl⟩,-,h⟩:=a50 h
  simp only[and_eq_true,beq_iff_eq] at h
  obtain⟨⟨⟨⟨rfl,h2⟩,h3⟩,h4⟩,h5⟩:=h
  exact b60 rfl (j32 (a70 (b20 h2) (iha x h4)) (a70 (b20 h3) (ihb x h5)))
 |cmp o a b iha ihb =>
  intro lm G X E N sc x es h
  obtain⟨⟨⟨l,op,r,p⟩,rfl⟩,-,h⟩:=a50 h
  simp only[and_eq_true,beq_iff_eq] at h
  obtain⟨⟨⟨⟨⟨rfl,h1⟩,h2⟩,h3⟩,h4⟩,h5⟩:=h
  exact b60 rfl (j42 x h1 (a70 (b20 h2) (iha x h4)) (a70 (b20 h3) (ihb x h5)))
 |neg a ih =>
  intro lm G X E N sc x es h
  obtain⟨⟨q,rfl⟩,-,h⟩:=a50 h
  simp only[and_eq_true] at h
  exact b60 rfl (j52 (a70 (b20 h.1) (ih x h.2)))
 |not a ih =>
  intro lm G X E N sc x es h
  obtain⟨⟨q,rfl⟩,-,h⟩:=a50 h
  simp only[and_eq_true] at h
  obtain⟨⟨h1,h2⟩,h3⟩:=h
  exact b60 rfl (j62 (a70 (b20 h1) (ih x h3)) (H01 h2))
 |and a b iha ihb =>
  intro lm G X E N sc x es h
  obtain⟨⟨⟨l,r,vs,p⟩,rfl⟩,-,h⟩:=a50 h
  simp only[and_eq_true] at h
  obtain⟨⟨⟨⟨h1,h2⟩,h3⟩,h4⟩,h5⟩:=h
  refine b60 rfl (j72 (a70 (b20 h1) (iha x h4)) (H01 h3) ?_)
  cases vs with
  |nil =>
   rw[if_pos (show([]:List Expr).isEmpty=true from rfl),and_eq_true] at h5
   exact U51 (a70 (b20 h2) (ihb x h5.2)) (H01 h5.1)
  |cons v vs =>
   rw[if_neg (by exact Bool.false_ne_true)] at h5
   exact a70 (b20 h2) (ihb x h5)
 |or a b iha ihb =>
  intro lm G X E N sc x es h
  obtain⟨⟨⟨l,r,vs,p⟩,rfl⟩,-,h⟩:=a50 h
  simp only[and_eq_true] at h
  obtain⟨⟨⟨⟨h1,h2⟩,h3⟩,h4⟩,h5⟩:=h
  refine b60 rfl (t92 (a70 (b20 h1) (iha x h4)) (H01 h3) ?_)
  cases vs with
  |nil =>
   rw[if_pos (show([]:List Expr).isEmpty=true from rfl),and_eq_true] at h5
   exact U51 (a70 (b20 h2) (ihb x h5.2)) (H01 h5.1)
  |cons v vs =>
   rw[if_neg (by exact Bool.false_ne_true)] at h5
   exact a70 (b20 h2) (ihb x h5)
 |orT a b iha ihb =>
  intro lm G X E N sc x es h
  obtain⟨⟨⟨l,r,vs,p⟩,rfl⟩,-,h⟩:=a50 h
  simp only[and_eq_true] at h
  obtain⟨⟨⟨⟨h1,h2⟩,h3⟩,h4⟩,h5⟩:=h
  cases vs with
  |nil=>exact b60 rfl (j82 (a70 (b20 h1) (iha x h4)) (a70 (b20 h2) (ihb x h5)))
  |cons v vs=>cases h3
 |ite c a b ihc iha ihb =>
  intro lm G X E N sc x es h
  obtain⟨⟨q,rfl⟩,-,h⟩:=a50 h
  simp only[and_eq_true] at h
  obtain⟨⟨⟨⟨⟨⟨h1,h2⟩,h3⟩,h4⟩,h5⟩,h6⟩,h7⟩:=h
  exact b60 rfl (j92 (a70 (b20 h1) (ihc x h5)) (H01 h4) (a70 (b20 h2) (iha x h6)) (a70 (b20 h3) (ihb x h7)))
 |ch o o' a b c iha ihb ihc =>
  intro lm G X E N sc x es h
  obtain⟨⟨⟨l,op,op',r,s,p⟩,rfl⟩,-,h⟩:=a50 h
  simp only[and_eq_true,beq_iff_eq] at h
  obtain⟨⟨⟨⟨⟨⟨⟨⟨rfl,rfl⟩,h1⟩,h2⟩,h3⟩,h4⟩,h5⟩,h6⟩,h7⟩:=h
  exact b60 rfl (u02 x h1 (a70 (b20 h2) (iha x h5)) (a70 (b20 h3) (ihb x h6)) (a70 (b20 h4) (ihc x h7)))
 |bf f as ih =>
  intro lm G X E N sc x es h
  obtain⟨⟨q,rfl⟩,-,h⟩:=a50 h
  simp only[and_eq_true,beq_iff_eq] at h
  obtain⟨⟨⟨⟨h1,h2⟩,h3⟩,h4⟩,h5⟩:=h
  exact b60 rfl (u12 x h1 h2 h3 h4 (ih x h5))
 |isi t a ih =>
  intro lm G X E N sc x es h
  obtain⟨⟨⟨n,q,e,ty,p⟩,rfl⟩,-,h⟩:=a50 h
  simp only[and_eq_true,beq_iff_eq] at h
  obtain⟨⟨⟨⟨⟨h1,h2⟩,h3⟩,h4⟩,h5⟩,h6⟩:=h
  have g:=a70 (b20 h4) (ih x h5)
  refine b60 rfl ?_
  have one:∀ t:Ty,t≠.seq→(opt (shN ty) λq=>q.1.1 == Str.ofString (tyN t)&&glob sc (Str.ofString (tyN t)))=true→b00 X G E (.isi t a) (.Call (.Name n q) [e,ty] [] p):=λt hs h6=>by
   obtain⟨⟨⟨a,_⟩,rfl⟩,-,h6⟩:=a50 h6
   simp only[and_eq_true,beq_iff_eq] at h6
   obtain⟨rfl,k1⟩:=h6
   exact V51 x hs k1 h1 h2 h3 g
  cases t with
  |seq =>
   obtain⟨⟨⟨a,_,b,_,_,_⟩,rfl⟩,-,h6⟩:=a50 h6
   simp only[and_eq_true,beq_iff_eq] at h6
   obtain⟨⟨⟨rfl,rfl⟩,k1⟩,k2⟩:=h6
   exact V61 x k1 k2 h1 h2 h3 g
  |_=>exact one _ (λh=>by cases h) h6
 |idx a i iha ihi =>
  intro lm G X E N sc x es h
  obtain⟨⟨q,rfl⟩,-,h⟩:=a50 h
  simp only[and_eq_true] at h
  obtain⟨⟨⟨⟨h1,h2⟩,h3⟩,h4⟩,h5⟩:=h
  exact b60 rfl (k12 h1 (a70 (b20 h2) (iha x h4)) (a70 (b20 h3) (ihi x h5)))
 |sl a lo hi iha ihl ihh =>
  intro lm G X E N sc x es h
  obtain⟨⟨q,rfl⟩,-,h⟩:=a50 h
  simp only[and_eq_true] at h
  obtain⟨⟨⟨⟨⟨h1,h2⟩,h3⟩,h4⟩,h5⟩,h6⟩:=h
  exact b60 rfl (u22 (a70 (b20 h1) (iha x h4)) h2 h3 (ihl x h5) (ihh x h6))
 |call f as ih =>
  intro lm G X E N sc x es h
  obtain⟨⟨⟨n,q,e,l,p⟩,rfl⟩,-,h⟩:=a50 h
  simp only[and_eq_true] at h
  obtain⟨⟨⟨h1,h2⟩,h3⟩,h4⟩:=h
  obtain⟨pr,hf,h1'⟩:=a50 h1
  simp only[and_eq_true,beq_iff_eq] at h1'
  obtain⟨rfl,h7⟩:=h1'
  exact b60 rfl (s_call x hf h7 h2 h3 (ih x h4))
 |comp own capt p it src cond el ihs ihc ihe =>
  intro lm G X E N sc x es h
  obtain⟨⟨q,rfl⟩,-,h⟩:=a50 h
  exact b60 rfl ((H70 ihs ihc ihe x h).good x.calm)
 |lrng b as ih =>
  intro lm G X E N sc x es h
  obtain⟨⟨⟨n,p,m,q,a,r,t⟩,rfl⟩,-,h⟩:=a50 h
  simp only[and_eq_true,beq_iff_eq] at h
  obtain⟨⟨⟨⟨⟨⟨h1,h2⟩,h3⟩,h4⟩,h5⟩,h7⟩,h6⟩:=h
  subst h1;subst h2
  cases a with
  |nil=>simp at h7
  |cons a l=>exact b60 rfl (V91 x h3 h4 h5 (ih x h6))
 |zget i k =>
  intro lm G X E N sc x es h
  obtain⟨⟨⟨n,p,j,c,q,r⟩,rfl⟩,-,h⟩:=a50 h
  simp only[and_eq_true,beq_iff_eq] at h
  obtain⟨⟨h1,h2⟩,h3⟩:=h
  have h3:j=(k:Int):=h3
  subst h3
  exact b60 rfl (V71 x h1 h2)
 |refd capt a ih =>
  intro lm G X E N sc x es h
  obtain⟨⟨⟨n,p,body,lsc,lpos,pos⟩,rfl⟩,-,h⟩:=a50 h
  simp only[and_eq_true,beq_iff_eq] at h
  obtain⟨⟨⟨⟨⟨⟨h1,h2⟩,h3⟩,h4⟩,h5⟩,h6⟩,h7⟩:=h
  have h2:n="_law_refused":=h2
  subst h2
  exact b60 rfl (W31 x h1 h3 h4 h5 (b20 h6) λk X E xl=>ih xl h7)
theorem sound(G:Gs)(t:Ex)(x:XI lm X G E N sc)(h:mt lm G.fns G.nums t sc N es=true):Good X G E t es:=W51 t x h
end
section
variable {lm:Bool}{X:Cx}{G:Gs}{E:XK}{N:List Str}{sc:Scope}
structure W61(G:Gs)(N:List Str)(sc:Scope)(capt:List Nat)(a:Ex)(lsc:Scope)(body:Expr):Prop where
 hc:(a90 N capt).length=capt.length
 hs:H40 lsc sc (a90 N capt)=true
 hL:isL a=false
 ih:∀ (k:Nat) {X:Cx}{E:XK},XI false X (lowG G k) E ((a90 N capt).map (·.1)) lsc→Good X (lowG G k) E a [body]
def i61(X:Cx)(G:Gs)(N:List Str)(sc:Scope)(q:Str)(H:Hp)(t:LT)(p:List Nat × Ex):Prop:=t41 X q H t∧t.N=(a90 N p.1).map (·.1)∧W61 G N sc p.1 p.2 t.lsc t.body
theorem i71{F:FT}{ρ:Env}{capt:List Nat}{a:Ex}{r:List (List Nat × Ex)}{z:Z}{cs:List Nat}{z1:Z}(h:k00 F ρ ((capt,a)::r) z=some (cs,z1)):∃ ss c zm cs',Z20 ρ capt=some ss∧ev (p20 F) a (ss.map some) z=some (.er c zm)∧c < 12∧k00 F ρ r zm=some (cs',z1)∧cs=c::cs':=by
 unfold k00 at h
 split at h
 ·cases h
 ·rename_i ss hss
  split at h
  ·rename_i c zm he
   split at h
   ·rename_i hc
    obtain⟨⟨cs',z'⟩,h1,h2⟩:=Option.map_eq_some_iff.mp h
    cases h2
    exact⟨ss,c,zm,cs',hss,he,hc,h1,rfl⟩
   ·cases h
  ·cases h
theorem k62{α:Type}{l:List α}{a:α}:(l++[a]).length=l.length + 1:=by rw[length_append];rfl
theorem Paired.get{α β:Type}{R:α→β→Prop}:∀ {xs:List α}{ys:List β},Paired R xs ys→∀ {i:Nat}{x:α}{y:β},xs[i]?=some x→ys[i]?=some y→R x y
 |_,_,.nil,i,x,y,h,_=>by simp at h
 |_,_,.cons r t,0,x,y,h1,h2=>by simp at h1 h2;subst h1;subst h2;exact r
 |_,_,.cons r t,i + 1,x,y,h1,h2=>Paired.get t (by simpa using h1) (by simpa using h2)
def tLL(X:Cx)(G:Gs)(N:List Str)(sc:Scope)(q:Str)(i:Nat)(ls:List (List Nat × Ex)):TE:=λσ H Q=>∃ zA ρ z cs z1 L ts,q10 X.K zA H ρ σ∧c30 zA z H∧k00 G.F ρ ls z=some (cs,z1)∧σ[i]?=some (some (.ref L))∧H L=some (.lst (ts.map λt=>.ref t.f))∧zA≠some L∧Paired (i61 X G N sc q H) ts ls ∧
 ∀ v H',Ext zA H H'→c30 zA z1 H'→RvS X.K zA H H' (.fr (cs.map p11)) v→Q v H'
theorem H71(x:XI lm X G E N sc){c P:Addr}{q:Str}{k:Nat}{fR:Addr}{fdR:FuncData}(L:H20 X G sc c P q k fR fdR){i:Nat}{n y:Str}{ls:List (List Nat × Ex)}{csc:Scope}{p p2 p3 p4 pos ps:Pos}(hi:N[i]?=some y)(ny:b30 y=true)(nn:b30 n=true)(cc:H61 csc sc N [n] [])(hg:glob csc "_law_refused"=true)(hls:ls.length≤1000) :
  PE X (.ListComp (.Call (.Name "_law_refused" p) [.Name n p2] [] pos) [⟨.Name n p3,.Name y p4,[],0⟩] csc ps) (tLL X G N sc q i ls):=by
 unfold b30 at ny nn
 simp only[and_eq_true,not_eq_true'] at ny nn
 obtain⟨k1,k2,k3⟩:=d10 hg
 refine PE.imp (X00 (wi:=O21 X.K (L61 i)) (qual:=q) (k:=k) x.calm (i31 x cc) (z50 (h00 (i:=i) (by rw[x.hN];exact hi) (x.vis y (mem_of_getElem? hi)) ny.1 ny.2)) L.fn (by rw[← L.lv];exact x.room) (λcl C s H fp=>(C60 x cc cl C s H fp).glb _ k1) L.m L.kp L.bd (λcl C s H fp=>K30 (x:=n) (by simp[c00]) rfl ((C70 x cc cl C s H fp).lc n (by simp)) ((C70 x cc cl C s H fp).fn n (by simp))) (λcl C s H fp=>(C60 x cc cl C s H fp).vis n (by simp)) nn.1 nn.2 k2 (λ_=>rfl)) λσ H Q qq=>?_
 obtain⟨zA,ρ,z,cs,z1,Ld,ts,rel,st,run,eL,hL,zL,pr,po⟩:=qq
 refine⟨_,eL,Ld,rfl,⟨_,.of hL⟩,trivial,?_⟩
 have nz:∀ {a:Addr}{p:Heap→Prop},H a=some (.ext p)→zA≠some a:=λ{a p} h e=>by
  subst e
  have:=st.zat
  cases z with
  |none=>exact this.elim
  |some pr =>
   have h':H a=some (.lst [.int pr.1,.bl pr.2]):=this
   rw[h] at h';cases h'
 have len:=pr.length
 refine⟨λj m ys H'=>∃ zj ds cs',m=(ls.drop j).length∧Ext zA H H'∧c30 zA zj H'∧k00 G.F ρ (ls.drop j) zj=some (cs',z1)∧cs=ds++cs'∧HdA X.K (hz zA H') (ds.map p11) ys∧ds.length=j,⟨_,z,[],cs,rfl,.refl,st,run,rfl,.nil,rfl⟩,?_⟩
 rintro j m ys H' ⟨zj,ds,cs',rfl,xx,stj,rj,rfl,hd,rfl⟩
 have hL':=xx.at hL zL
 cases hdr:ls.drop ds.length with
 |nil =>
  rw[hdr] at rj
  cases rj
  have hle:ls.length≤ds.length:=List.drop_eq_nil_iff.mp hdr
  refine .inl ⟨⟨_,.of hL',by rw[length_map,len];exact hle⟩,λp hp=>?_⟩
  rw[append_nil] at po
  exact po _ _ (xx.trans (Ext.of (a10.new _ hp))) (stj.same (a10.new _ hp)) ((k30 stj hd hp).from xx)
 |cons pa r =>
  obtain⟨capt,a⟩:=pa
  rw[hdr] at rj
  obtain⟨ss,ce,zm,cs2,hss,he,hc12,rj2,rfl⟩:=i71 rj
  have hlt:ds.length < ls.length:=by
   rcases Nat.lt_or_ge ds.length ls.length with h | h
   ·exact h
   ·rw[List.drop_eq_nil_of_le h] at hdr;cases hdr
  have hls':ls[ds.length]?=some (capt,a):=by
   have:=List.getElem?_drop (xs:=ls) (i:=ds.length) (j:=0)
   rw[hdr] at this
   exact this.symm
  have hdr2:ls.drop (ds.length + 1)=r:=by
   have:=List.drop_eq_getElem_cons hlt
   rw[hdr] at this
   exact(List.cons.inj this).2.symm
  have hlt':ds.length < ts.length:=by rw[len];exact hlt
  obtain⟨lt,tN,lf⟩:=Paired.get pr (List.getElem?_eq_getElem hlt') hls'
  generalize et:ts[ds.length]=t at lt tN lf
  have ht:(ts.map λt=>V.ref t.f)[ds.length]?=some (.ref t.f):=by rw[List.getElem?_map,List.getElem?_eq_getElem hlt',et];rfl
  refine .inr ⟨⟨_,_,.of hL',ht⟩,?_,λzs H2=>∃ m',m' < ((capt,a)::r).length∧∃ zj ds2 cs',m'=(ls.drop (ds.length + 1)).length∧Ext zA H H2∧c30 zA zj H2∧k00 G.F ρ (ls.drop (ds.length + 1)) zj=some (cs',z1)∧ds++ce::cs2=ds2++cs'∧HdA X.K (hz zA H2) (ds2.map p11) zs∧ds2.length=ds.length + 1,λ_ _ h=>h,λy H2 hy=>?_⟩
  ·have:=hd.length
   rw[length_map] at this
   exact Nat.lt_of_lt_of_le (show ys.length < 1000 by omega) (by decide)
  obtain⟨rfl,hy⟩:=hy
  cases (Option.some.inj ((hy _ (.of hL')).symm.trans ht))
  obtain⟨vs,ra,hvl,hvs⟩:=v60 rel hss lf.hc
  have la:b92 H2 q t:=⟨xx.at lt.fn (nz lt.fn),xx.at lt.rc (nz lt.rc)⟩
  have hsc:=lf.hs
  unfold H40 at hsc
  simp only[and_eq_true,not_eq_true',beq_iff_eq,all_eq_true,decide_eq_true_eq] at hsc
  obtain⟨⟨⟨⟨⟨⟨s1,s2⟩,s3⟩,s4⟩,s5⟩,s6⟩,s7⟩:=hsc
  have hfree:∀ y∈(a90 N capt).map (·.1),t.lsc.names.lookup y=some .free:=λy hy=>by
   obtain⟨pr,h1,rfl⟩:=List.mem_map.mp hy
   exact s6 pr h1
  show teL X q k _ σ H [some (.ref t.f)] H2 _
  refine⟨t,vs,.ref (G.cls ce),λH3=>Ext zA H2 H3∧c30 zA zm H3,lt,⟨by rw[tN,length_map];exact hvl,λi y v h1 h2=>by rw[tN] at h1;rw[x.hN];exact hvs i y v h1 h2⟩,rfl,la,λA outer s H3 hr sm=>?_,λs2 th=>?_⟩
  ·have XL:XI false (w80 X.prog X.w X.K X.mg X.base t.N q t.lsc t.f (.ref t.c') t.cl A outer s H3 λc _ H'=>c=.ref (G.cls ce)∧Ext zA H2 H'∧c30 zA zm H') (lowG G k) (λc _ H'=>c=.ref (G.cls ce)∧Ext zA H2 H'∧c30 zA zm H') ((a90 N capt).map (·.1)) t.lsc :=
    { gok:=L.low,num:=x.num,blt:=x.blt,hN:=tN,nd:=s7,vis:=λy hy=>.inr (.inr (hfree y hy)),glb:=λy h=>h,cel:=λy h=>h,calm:=rfl,room:=hr,pas:=e51,lam:=λh=>nomatch h }
   refine⟨_,(a70 lf.hL (lf.ih k XL)).pe,?_⟩
   exact⟨zA,ss.map some,zj,_,C50 (RvA.mono ra (xx.trans (Ext.of sm))),stj.same sm,he,λea H' x3 stt hn=>⟨rfl,(Ext.of sm).trans x3,stt⟩⟩
  ·refine⟨t.f,G.cls ce,ce,_,rfl,th,L.cls ce hc12,λl H3 H4 hRR sm hl=>?_⟩
   obtain⟨x3,st3⟩:=hRR
   have x4:Ext zA H2 (upd H4 l (.lst [.int ce])):=(x3.trans (Ext.of sm)).trans (Ext.of (a10.new _ hl))
   have st4:=st3.same sm
   refine⟨r.length,lt_succ_self _,zm,ds++[ce],cs2,by rw[hdr2],xx.trans x4,st4.same (a10.new _ hl),by rw[hdr2];exact rj2,by rw[append_assoc];rfl,?_,k62⟩
   rw[map_append]
   exact(hd.same x4.same).append (.cons (k30 st4 (HdA.cons Hd.int HdA.nil) hl).pl .nil)
end
open Classical in
def hw(ow:Nat→Option Addr)(H:Hp):Hp:=λb=>if ∃ i,ow i=some b then none else H b
section
variable {K:PySem.W.Frag}{ow:Nat→Option Addr}{H H':Hp}
theorem h60:a10 (hw ow H) H:=λb o e=>by
 unfold hw at e
 split at e
 ·cases e
 ·exact e
theorem g20(h:H b=some o)(n:∀ i,ow i≠some b):hw ow H b=some o:=by
 unfold hw
 rw[if_neg (λ⟨i,e⟩=>n i e)]
 exact h
theorem v70(h:hw ow H b=some o):H b=some o∧∀ i,ow i≠some b:=by
 refine⟨h60 b o h,λi e=>?_⟩
 unfold hw at h
 rw[if_pos ⟨i,e⟩] at h
 cases h
theorem b90(e:a10 H H'):a10 (hw ow H) (hw ow H'):=λb o h=>by
 obtain⟨h1,h2⟩:=v70 h
 exact g20 (e b o h1) h2
theorem q20:hw (λ_=>none) H=H:=by
 funext b
 unfold hw
 rw[if_neg (λ⟨i,e⟩=>by cases e)]
theorem i81(h:SqT K H a xs)(hl:∀ i b,ow i=some b→∃ ys,H b=some (.lst ys)):SqT K (hw ow H) a xs:=by
 rcases h with (h | ⟨o,h⟩) | h
 ·refine .inl (.inl (g20 h λi e=>?_))
  obtain⟨ys,q⟩:=hl i a e
  rw[h] at q;cases q
 ·refine .inl (.inr ⟨o,g20 h λi e=>?_⟩)
  obtain⟨ys,q⟩:=hl i a e
  rw[h] at q;cases q
 ·exact .inr h
mutual
theorem v80(hl:∀ i b,ow i=some b→∃ ys,H b=some (.lst ys)):∀ {d:D}{v:V},bare d=true→Hd K H d v→Hd K (hw ow H) d v
 |.non,_,_,h=>by rw[h.c42];exact Hd.non
 |.bl _,_,_,h=>by rw[h.bl_];exact Hd.bl
 |.int _,_,_,h=>by rw[h.g60];exact Hd.int
 |.str _,_,_,h=>by rw[h.g62];exact Hd.str
 |.tup l,_,b,h=>by
  obtain⟨a,xs,rfl,h1,h2⟩:=h.u70
  exact Hd.tup (i81 h1 hl) (s70 hl (by simpa [bare] using b) h2)
 |.lst _,_,b,_=>by cases b
 |.dct,_,b,_=>by cases b
theorem s70(hl:∀ i b,ow i=some b→∃ ys,H b=some (.lst ys)):∀ {ds:List D}{vs:List V},n10 ds=true→HdA K H ds vs→HdA K (hw ow H) ds vs
 |[],_,_,h=>by rw[h.e10];exact .nil
 |d::ds,_,b,h=>by
  obtain⟨x,r,rfl,h1,h2⟩:=h.b70
  simp only[n10,and_eq_true] at b
  exact .cons (v80 hl b.1 h1) (s70 hl b.2 h2)
end
end
def RvW(K:PySem.W.Frag)(zA:Option Addr)(ow:Nat→Option Addr)(H:Hp)(i:Nat):S→V→Prop
 |.d x,v=>ow i=none∧Hd K (hw ow (hz zA H)) x v
 |.fr xs,v=>∃ a ys,ow i=some a∧v=.ref a∧H a=some (.lst ys)∧HdA K (hw ow (hz zA H)) xs ys
 |.z,v=>ow i=none∧∃ a,zA=some a∧v=.ref a
structure RW(K:PySem.W.Frag)(H0:Hp)(zE zA:Option Addr)(ow:Nat→Option Addr)(H:Hp)(ρ:Env)(σ:L2.St):Prop where
 len:ρ.length=σ.length
 inj:∀ i j a,ow i=some a→ow j=some a→i=j
 zne:∀ i a,ow i=some a→zA≠some a
 own:∀ i a,ow i=some a→∃ xs,ρ[i]?=some (some (.fr xs))
 wor:∀ i s,ρ[i]?=some (some s)→∃ v,σ[i]?=some (some v)∧RvW K zA ow H i s v
 ext:Ext zE H0 H
 zok:zA=zE∨(zE=none∧∀ a,zA=some a→H0 a=none)
 new:∀ i a,ow i=some a→H0 a=none
section
variable {K:PySem.W.Frag}{H0 H H':Hp}{zE zA:Option Addr}{ow:Nat→Option Addr}{ρ:Env}{σ:L2.St}
theorem RW.lst(r:RW K H0 zE zA ow H ρ σ):∀ i a,ow i=some a→∃ ys,H a=some (.lst ys):=λi a e=>by
 obtain⟨xs,h⟩:=r.own i a e
 obtain⟨v,h1,a',ys,h2,h3,h4,h5⟩:=r.wor i _ h
 rw[e] at h2;cases h2
 exact⟨ys,h4⟩
theorem RW.A41(r:RW K H0 zE zA ow H ρ σ):∀ i a,ow i=some a→∃ ys,hz zA H a=some (.lst ys):=λi a e=>by
 obtain⟨ys,h⟩:=r.lst i a e
 exact⟨ys,c80 h (r.zne i a e)⟩
theorem RvW.pl{i:Nat}{s:S}{v:V}(h:RvW K zA ow H i s v)(hz':∀ a,ow i=some a→zA≠some a):RvP K zA H s v:=by
 cases s with
 |d x=>exact h.2.same h60
 |z=>exact h.2
 |fr xs =>
  obtain⟨a,ys,h1,rfl,h3,h4⟩:=h
  exact Hd.lst (c80 h3 (hz' a h1)) (h4.same h60)
theorem RW.y00(r:RW K H0 zE zA ow H ρ σ):q10 K zA H ρ σ:=λi s e=>by
 obtain⟨v,h1,h2⟩:=r.wor i s e
 exact⟨v,h1,h2.pl λa q=>r.zne i a q⟩
theorem RvW.mono{i:Nat}{s:S}{v:V}(h:RvW K zA ow H i s v)(hz':∀ a,ow i=some a→zA≠some a)(x:Ext zA H H'):RvW K zA ow H' i s v:=by
 cases s with
 |d y=>exact⟨h.1,h.2.same (b90 x)⟩
 |z=>exact h
 |fr xs =>
  obtain⟨a,ys,h1,rfl,h3,h4⟩:=h
  exact⟨a,ys,h1,rfl,x.at h3 (hz' a h1),h4.same (b90 x)⟩
theorem A51(zA:Option Addr)(H:Hp):a10 (hz zA H) (hz none H):=λ_ _ h=>c80 (j60 h).1 (λq=>nomatch q) (k20 h)
theorem i91(e:Ext zE H0 H)(zok:zA=zE∨(zE=none∧∀ a,zA=some a→H0 a=none))(x:Ext zA H H'):Ext zE H0 H':=by
 rcases zok with rfl | ⟨rfl,hn⟩
 ·exact e.trans x
 ·refine⟨λb o h=>?_,λb ps h=>let ⟨qs,q⟩:=e.tbl b ps h;x.tbl b qs q⟩
  have h1:=e.same b o h
  refine c80 (x.at (j60 h1).1 (λq=>?_) (k20 h1)) (λq=>nomatch q) (k20 h1)
  have h0:=(j60 h).1
  rw[hn b q] at h0;cases h0
theorem RW.mono(r:RW K H0 zE zA ow H ρ σ)(x:Ext zA H H'):RW K H0 zE zA ow H' ρ σ :=
 ⟨r.len,r.inj,r.zne,r.own,λi s e=>let ⟨v,h1,h2⟩:=r.wor i s e;⟨v,h1,h2.mono (λa q=>r.zne i a q) x⟩,i91 r.ext r.zok x,r.zok,r.new⟩
theorem RW.young(r:RW K H0 zE zA ow H ρ σ)(h:H a=none)(n:zA≠some a):H0 a=none∧zE≠some a:=by
 have hE:zE≠some a:=λq=>by
  rcases r.zok with rfl | ⟨rfl,_⟩
  ·exact n q
  ·cases q
 exact⟨r.ext.free h hE,hE⟩
theorem RW.out(r:RW K H0 zE zA ow H ρ σ){s:S}{v:V}(hs:s≠.z)(x:Ext zA H H')(h:RvS K zA H H' s v):RvS K zE H0 H' s v:=by
 have sm:a10 (hz zA H') (hz zE H'):=by
  rcases r.zok with rfl | ⟨rfl,_⟩
  ·exact a10.refl _
  ·exact A51 _ _
 cases s with
 |d y=>exact Hd.same sm h
 |z=>exact absurd rfl hs
 |fr xs =>
  obtain⟨a,ys,rfl,h1,h2,h3,h4⟩:=h
  obtain⟨k1,k2⟩:=r.young h1 h2
  exact⟨a,ys,rfl,k1,k2,h3,h4.same (u00 λb o _ q=>sm b o q)⟩
theorem RW.u32(r:RW K H0 zE zA ow H ρ σ){i:Nat}{s:S}(hs:s≠.z)(e:ρ[i]?=some (some s)):∃ v,σ[i]?=some (some v)∧RvS K zE H0 H s v:=by
 obtain⟨v,h1,h2⟩:=r.wor i s e
 have sm:a10 (hz zA H) (hz zE H):=by
  rcases r.zok with rfl | ⟨rfl,_⟩
  ·exact a10.refl _
  ·exact A51 _ _
 refine⟨v,h1,?_⟩
 cases s with
 |d y=>exact Hd.same (a10.trans h60 sm) h2.2
 |z=>exact absurd rfl hs
 |fr xs =>
  obtain⟨a,ys,k1,rfl,k3,k4⟩:=h2
  have n:=r.zne i a k1
  have hE:zE≠some a:=λq=>by
   rcases r.zok with rfl | ⟨rfl,_⟩
   ·exact n q
   ·cases q
  refine⟨a,ys,rfl,r.new i a k1,hE,k3,k4.same λb o q=>?_⟩
  obtain⟨q1,q2⟩:=v70 q
  exact B00 (sm b o q1) λz=>q2 i (by rw[z];exact k1)
theorem RW.L60(r:RW K H0 zE zA ow H ρ σ):RW K H0 zE zA (λ_=>none) H (L60 ρ) σ:=by
 refine⟨by unfold Q.L60;rw[length_map];exact r.len,λi j a h=>(by cases h),λi a h=>(by cases h),λi a h=>(by cases h),λi s e=>?_,r.ext,r.zok,λi a h=>(by cases h)⟩
 unfold Q.L60 at e
 rw[List.getElem?_map] at e
 obtain⟨o,e1,e2⟩:=Option.map_eq_some_iff.mp e
 cases o with
 |none=>cases e2
 |some s0 =>
  cases e2
  obtain⟨v,h1,h2⟩:=r.y00 i s0 e1
  refine⟨v,h1,?_⟩
  cases s0 with
  |d y=>exact⟨rfl,by rw[q20];exact h2⟩
  |fr xs=>exact⟨rfl,by rw[q20];exact h2⟩
  |z=>exact⟨rfl,h2⟩
def ow0(ow:Nat→Option Addr)(i:Nat):Nat→Option Addr:=λj=>if j=i then none else ow j
def ow1(ow:Nat→Option Addr)(i:Nat)(a:Addr):Nat→Option Addr:=λj=>if j=i then some a else ow j
theorem RvW.move{ow':Nat→Option Addr}{j:Nat}{s:S}{v:V}(h:RvW K zA ow H j s v)(e:ow' j=ow j)(sm:a10 (hw ow (hz zA H)) (hw ow' (hz zA H')))(hk:∀ a,ow j=some a→H' a=H a):RvW K zA ow' H' j s v:=by
 cases s with
 |d y=>exact⟨by rw[e];exact h.1,h.2.same sm⟩
 |z=>exact⟨by rw[e];exact h.1,h.2⟩
 |fr xs =>
  obtain⟨a,ys,h1,rfl,h3,h4⟩:=h
  exact⟨a,ys,by rw[e];exact h1,rfl,by rw[hk a h1];exact h3,h4.same sm⟩
theorem getElem?_set'{α:Type}{l:List α}{i j:Nat}{x y:α}(h:(l.set i x)[j]?=some y):(j=i∧y=x∧i < l.length)∨(j≠i∧l[j]?=some y):=by
 by_cases hj:j=i
 ·subst hj
  have hlt:j < l.length:=by
   have:=(List.getElem?_eq_some_iff.mp h).1
   simpa using this
  rw[List.getElem?_set_self hlt] at h
  cases h
  exact .inl ⟨rfl,rfl,hlt⟩
 ·rw[List.getElem?_set_ne (Ne.symm hj)] at h
  exact .inr ⟨hj,h⟩
theorem RW.u42(r:RW K H0 zE zA ow H ρ σ){i:Nat}(h:Hd K (hw ow (hz zA H)) x v):RW K H0 zE zA (ow0 ow i) H (ρ.set i (some (.d x))) (σ.set i (some v)):=by
 have sub:∀ j a,ow0 ow i j=some a→j≠i∧ow j=some a:=λj a e=>by
  unfold ow0 at e
  split at e
  ·cases e
  ·rename_i n;exact⟨n,e⟩
 have sm:a10 (hw ow (hz zA H)) (hw (ow0 ow i) (hz zA H)):=λb o e=>by
  obtain⟨e1,e2⟩:=v70 e
  exact g20 e1 λj q=>e2 j (sub j b q).2
 refine⟨by rw[length_set,length_set];exact r.len,λj k a h1 h2=>r.inj j k a (sub j a h1).2 (sub k a h2).2,λj a h1=>r.zne j a (sub j a h1).2,λj a h1=>?_,λj s e=>?_,r.ext,r.zok,λj a h1=>r.new j a (sub j a h1).2⟩
 ·obtain⟨n,h2⟩:=sub j a h1
  obtain⟨xs,h3⟩:=r.own j a h2
  exact⟨xs,by rw[List.getElem?_set_ne (Ne.symm n)];exact h3⟩
 ·rcases getElem?_set' e with ⟨rfl,e1,hlt⟩ | ⟨n,e1⟩
  ·cases e1
   exact⟨v,List.getElem?_set_self (by rw[← r.len];exact hlt),by unfold ow0;exact if_pos rfl,h.same sm⟩
  ·obtain⟨w,h1,h2⟩:=r.wor j s e1
   exact⟨w,by rw[List.getElem?_set_ne (Ne.symm n)];exact h1,h2.move (by unfold ow0;exact if_neg n) sm λ_ _=>rfl⟩
theorem RW.u52(r:RW K H0 zE zA ow H ρ σ){i:Nat}(h:∃ a,zA=some a∧v=.ref a):RW K H0 zE zA (ow0 ow i) H (ρ.set i (some .z)) (σ.set i (some v)):=by
 have sub:∀ j a,ow0 ow i j=some a→j≠i∧ow j=some a:=λj a e=>by
  unfold ow0 at e
  split at e
  ·cases e
  ·rename_i n;exact⟨n,e⟩
 have sm:a10 (hw ow (hz zA H)) (hw (ow0 ow i) (hz zA H)):=λb o e=>by
  obtain⟨e1,e2⟩:=v70 e
  exact g20 e1 λj q=>e2 j (sub j b q).2
 refine⟨by rw[length_set,length_set];exact r.len,λj k a h1 h2=>r.inj j k a (sub j a h1).2 (sub k a h2).2,λj a h1=>r.zne j a (sub j a h1).2,λj a h1=>?_,λj s e=>?_,r.ext,r.zok,λj a h1=>r.new j a (sub j a h1).2⟩
 ·obtain⟨n,h2⟩:=sub j a h1
  obtain⟨xs,h3⟩:=r.own j a h2
  exact⟨xs,by rw[List.getElem?_set_ne (Ne.symm n)];exact h3⟩
 ·rcases getElem?_set' e with ⟨rfl,e1,hlt⟩ | ⟨n,e1⟩
  ·cases e1
   exact⟨v,List.getElem?_set_self (by rw[← r.len];exact hlt),by unfold ow0;exact if_pos rfl,h⟩
  ·obtain⟨w,h1,h2⟩:=r.wor j s e1
   exact⟨w,by rw[List.getElem?_set_ne (Ne.symm n)];exact h1,h2.move (by unfold ow0;exact if_neg n) sm λ_ _=>rfl⟩
theorem RW.u62(r:RW K H0 zE zA ow H ρ σ){i:Nat}(x:Ext zA H H')(hn:H a=none)(za:zA≠some a)(hl:H' a=some (.lst ys))(h:HdA K (hw (ow1 ow i a) (hz zA H')) xs ys)(hi:i < ρ.length) :
  RW K H0 zE zA (ow1 ow i a) H' (ρ.set i (some (.fr xs))) (σ.set i (some (.ref a))):=by
 have r':=r.mono x
 have old:∀ j b,ow j=some b→b≠a:=λj b e q=>by
  obtain⟨zs,h1⟩:=r.lst j b e
  rw[q,hn] at h1;cases h1
 have sub:∀ j b,ow1 ow i a j=some b→(j=i∧b=a)∨(j≠i∧ow j=some b):=λj b e=>by
  unfold ow1 at e
  split at e
  ·rename_i n;cases e;exact .inl ⟨n,rfl⟩
  ·rename_i n;exact .inr ⟨n,e⟩
 have sm:a10 (hw ow (hz zA H)) (hw (ow1 ow i a) (hz zA H')):=λb o e=>by
  obtain⟨e1,e2⟩:=v70 e
  have e3:=(j60 e1).1
  have hb:b≠a:=λq=>by rw[q,hn] at e3;cases e3
  refine g20 (x b o e1) λj q=>?_
  rcases sub j b q with ⟨_,q⟩ | ⟨_,q⟩
  ·exact hb q
  ·exact e2 j q
 refine⟨by rw[length_set,length_set];exact r.len,λj k b h1 h2=>?_,λj b h1=>?_,λj b h1=>?_,λj s e=>?_,r'.ext,r.zok,λj b h1=>?_⟩
 ·rcases sub j b h1 with ⟨q1,q2⟩ | ⟨q1,q2⟩
  ·rcases sub k b h2 with ⟨p1,p2⟩ | ⟨p1,p2⟩
   ·rw[q1,p1]
   ·exact absurd q2 (old k b p2)
  ·rcases sub k b h2 with ⟨p1,p2⟩ | ⟨p1,p2⟩
   ·exact absurd p2 (old j b q2)
   ·exact r.inj j k b q2 p2
 ·rcases sub j b h1 with ⟨_,q2⟩ | ⟨_,q2⟩
  ·rw[q2];exact za
  ·exact r.zne j b q2
 ·rcases sub j b h1 with ⟨q1,q2⟩ | ⟨q1,q2⟩
  ·rw[q1];exact⟨xs,List.getElem?_set_self hi⟩
  ·obtain⟨zs,h3⟩:=r.own j b q2
   exact⟨zs,by rw[List.getElem?_set_ne (Ne.symm q1)];exact h3⟩
 ·rcases getElem?_set' e with ⟨rfl,e1,hlt⟩ | ⟨n,e1⟩
  ·cases e1
   exact⟨.ref a,List.getElem?_set_self (by rw[← r.len];exact hlt),a,ys,by unfold ow1;exact if_pos rfl,rfl,hl,h⟩
  ·obtain⟨w,h1,h2⟩:=r.wor j s e1
   refine⟨w,by rw[List.getElem?_set_ne (Ne.symm n)];exact h1,h2.move (by unfold ow1;exact if_neg n) sm λb q=>?_⟩
   obtain⟨zs,k⟩:=r.lst j b q
   rw[k]
   exact x.at k (r.zne j b q)
 ·rcases sub j b h1 with ⟨_,q2⟩ | ⟨_,q2⟩
  ·rw[q2];exact(r.young hn za).1
  ·exact r.new j b q2
theorem RW.upd(r:RW K H0 zE zA ow H ρ σ){i:Nat}(e:ow i=some a)(h:HdA K (hw ow (hz zA H)) xs ys):RW K H0 zE zA ow (upd H a (.lst ys)) (ρ.set i (some (.fr xs))) σ:=by
 have za:=r.zne i a e
 have sm:a10 (hw ow (hz zA H)) (hw ow (hz zA (L2.upd H a (.lst ys)))):=λb o q=>by
  obtain⟨e1,e2⟩:=v70 q
  obtain⟨e3,e4⟩:=j60 e1
  have hb:b≠a:=λz=>e2 i (by rw[z];exact e)
  exact g20 (c80 (by rw[a20 hb];exact e3) e4 (k20 e1)) e2
 obtain⟨xs0,h0⟩:=r.own i a e
 have hi:i < ρ.length:=(List.getElem?_eq_some_iff.mp h0).1
 obtain⟨v0,s0,a0,ys0,q1,q2,q3,q4⟩:=r.wor i _ h0
 rw[e] at q1;cases q1
 refine⟨by rw[length_set];exact r.len,r.inj,r.zne,λj b h1=>?_,λj s q=>?_,⟨λb o q=>?_,λb ps q=>?_⟩,r.zok,r.new⟩
 ·by_cases hj:j=i
  ·subst hj;exact⟨xs,List.getElem?_set_self hi⟩
  ·obtain⟨zs,h3⟩:=r.own j b h1
   exact⟨zs,by rw[List.getElem?_set_ne (Ne.symm hj)];exact h3⟩
 ·rcases getElem?_set' q with ⟨rfl,e1,hlt⟩ | ⟨n,e1⟩
  ·cases e1
   exact⟨v0,s0,a,ys,e,q2,a80,h.same sm⟩
  ·obtain⟨w,h1,h2⟩:=r.wor j s e1
   refine⟨w,h1,h2.move rfl sm λb q=>?_⟩
   have hb:b≠a:=λz=>n (r.inj j i b q (by rw[z];exact e))
   exact a20 hb
 ·obtain⟨e1,e2⟩:=j60 (r.ext b o q)
  have hb:b≠a:=λz=>by
   have:=(j60 q).1
   rw[z,r.new i a e] at this;cases this
  exact c80 (by rw[a20 hb];exact e1) e2 (k20 q)
 ·obtain⟨qs,e1⟩:=r.ext.tbl b ps q
  have hb:b≠a:=λz=>by rw[z,q3] at e1;cases e1
  exact⟨qs,by rw[a20 hb];exact e1⟩
end
end Q
namespace Q
open PySem L2 PySem.Spec PyProof.Rows
variable [TB:Tb]
def c62:Option Addr→Z→Z
 |none,_=>none
 |some _,z=>z
def j70(K:PySem.W.Frag)(G:Gs)(E:XK)(H0:Hp)(zE:Option Addr)(B:Hp)(D:Ends):R O→Prop
 |.ok (.nx ρ) z=>∀ zA ow σ H,RW K H0 zE zA ow H ρ σ→c30 zA z H→a10 B (hw ow (hz zA H))→D.nx σ H
 |.ok (.rt s) z=>∀ v H,s≠.z→Ext zE H0 H→c30 zE (c62 zE z) H→RvS K zE H0 H s v→D.rt v H
 |.er c z=>∀ e H,Ext zE H0 H→c30 zE (c62 zE z) H→H e=none→E (.ref (G.cls c)) (some e) H
def tX(K:PySem.W.Frag)(G:Gs)(E:XK)(H0:Hp)(zE:Option Addr)(x:Sm):TS:=λD σ H=>∃ zA ow ρ z r,RW K H0 zE zA ow H ρ σ∧c30 zA z H∧ex G.F zE.isNone x ρ z=some r∧j70 K G E H0 zE (hw ow (hz zA H)) D r
section
variable {K:PySem.W.Frag}{G:Gs}{E:XK}{H0 H H':Hp}{zE zA:Option Addr}{ow:Nat→Option Addr}{ρ:Env}{σ:L2.St}{Dn:Ends}{z:Z}
theorem M11(zok:zA=zE∨(zE=none∧∀ a,zA=some a→H0 a=none))(st:c30 zA z H):c30 zE (c62 zE z) H:=by
 cases zE with
 |none=>exact⟨trivial,st.tab⟩
 |some a =>
  rcases zok with rfl | ⟨h,_⟩
  ·exact st
  ·cases h
theorem j70.er_(po:j70 K G E H0 zE B Dn (.er c z))(r:RW K H0 zE zA ow H ρ σ):EPost G zA E c z H:=λe H' x st n=>po e H' (i91 r.ext r.zok x) (M11 r.zok st) n
theorem j70.ers(po:j70 K G E H0 zE B Dn rr)(r:RW K H0 zE zA ow H ρ σ):∀ c z1,rr=.er c z1→EPost G zA E c z1 H:=λc z1 e=>by subst e;exact po.er_ r
theorem j70.mono(po:j70 K G E H0 zE B Dn rr)(h:a10 B B'):j70 K G E H0 zE B' Dn rr:=by
 match rr,po with
 |.ok (.nx _) _,po=>exact λzA ow σ H r st sm=>po zA ow σ H r st (a10.trans h sm)
 |.ok (.rt _) _,po=>exact po
 |.er _ _,po=>exact po
theorem l80(ow:Nat→Option Addr)(i:Nat):a10 (hw ow H) (hw (ow0 ow i) H):=λb o e=>by
 obtain⟨e1,e2⟩:=v70 e
 refine g20 e1 λj q=>?_
 unfold ow0 at q
 split at q
 ·cases q
 ·exact e2 j q
theorem v90(ow:Nat→Option Addr):a10 (hw ow H) (hw (λ_=>none) H):=λb o e=>g20 (v70 e).1 λj q=>nomatch q
theorem v41(x:Ext zA H H')(hn:H a=none)(i:Nat):a10 (hw ow (hz zA H)) (hw (ow1 ow i a) (hz zA H')):=λb o e=>by
 obtain⟨e1,e2⟩:=v70 e
 have e3:=(j60 e1).1
 have hb:b≠a:=λq=>by rw[q,hn] at e3;cases e3
 refine g20 (x b o e1) λj q=>?_
 unfold ow1 at q
 split at q
 ·cases q;exact hb rfl
 ·exact e2 j q
theorem C80(e:ow i=some a):a10 (hw ow (hz zA H)) (hw ow (hz zA (upd H a o))):=λb u q=>by
 obtain⟨e1,e2⟩:=v70 q
 obtain⟨e3,e4⟩:=j60 e1
 have hb:b≠a:=λw=>e2 i (by rw[w];exact e)
 exact g20 (c80 (by rw[a20 hb];exact e3) e4 (k20 e1)) e2
mutual
theorem v51:∀ {p:Pat}{d:D}{ρ ρ':Env},e50 p d ρ=some ρ'→∀ {ow:Nat→Option Addr}{σ:L2.St}{v:V}{R:L2.St→Hp→Prop},RW K H0 zE zA ow H ρ σ→Hd K (hw ow (hz zA H)) d v →
  (∀ ow' σ',RW K H0 zE zA ow' H ρ' σ'→a10 (hw ow (hz zA H)) (hw ow' (hz zA H))→R σ' H)→gP K p v σ H R
 |.v i,d,ρ,ρ',e,ow,σ,v,R,r,hd,k=>by
  unfold e50 at e
  cases e
  unfold gP
  exact k _ _ (r.u42 hd) (l80 ow i)
 |.tup ps,d,ρ,ρ',e,ow,σ,v,R,r,hd,k=>by
  unfold e50 at e
  cases d with
  |tup l =>
   obtain⟨a,xs,rfl,h1,h2⟩:=hd.u70
   unfold gP
   exact⟨a,xs,rfl,(a30 zA H).sqT (a10.sqT h60 h1),by rw[h2.length];exact v50 e,j01 e r h2 k⟩
  |_=>cases e
 |.nil,_,_,_,e,_,_,_,_,_,_,_=>by unfold e50 at e;cases e
 |.cons _ _,_,_,_,e,_,_,_,_,_,_,_=>by unfold e50 at e;cases e
theorem j01:∀ {r:Pat}{l:List D}{ρ ρ':Env},bindL r l ρ=some ρ'→∀ {ow:Nat→Option Addr}{σ:L2.St}{vs:List V}{R:L2.St→Hp→Prop},RW K H0 zE zA ow H ρ σ→HdA K (hw ow (hz zA H)) l vs →
  (∀ ow' σ',RW K H0 zE zA ow' H ρ' σ'→a10 (hw ow (hz zA H)) (hw ow' (hz zA H))→R σ' H)→gL K r vs σ H R
 |.nil,l,ρ,ρ',e,ow,σ,vs,R,r,hd,k=>by
  unfold bindL at e
  cases l with
  |nil =>
   cases e
   unfold gL
   exact⟨hd.e10,k ow σ r (a10.refl _)⟩
  |cons x l=>cases e
 |.cons p q,l,ρ,ρ',e,ow,σ,vs,R,r,hd,k=>by
  unfold bindL at e
  cases l with
  |nil=>cases e
  |cons x l =>
   obtain⟨ρ1,e1,e2⟩:=Option.bind_eq_some_iff.mp e
   obtain⟨v,ws,rfl,h1,h2⟩:=hd.b70
   unfold gL
   exact⟨v,ws,rfl,v51 e1 r h1 λow' σ' r' sm=>j01 e2 r' (h2.same sm) λow2 σ2 r2 sm2=>k ow2 σ2 r2 (a10.trans sm sm2)⟩
 |.v _,_,_,_,e,_,_,_,_,_,_,_=>by unfold bindL at e;cases e
 |.tup _,_,_,_,e,_,_,_,_,_,_,_=>by unfold bindL at e;cases e
end
theorem j11(r:RW K H0 zE zA ow H ρ σ)(s:S):∃ ow',RW K H0 zE zA ow' H (i20 s ρ) σ∧a10 (hw ow (hz zA H)) (hw ow' (hz zA H))∧(s20 s=true∨∀ i,ow' i=none):=by
 unfold i20
 rw[Q60]
 cases hb:s20 s with
 |true=>exact⟨ow,r,a10.refl _,.inl rfl⟩
 |false=>exact⟨_,r.L60,v90 ow,.inr λ_=>rfl⟩
theorem v61{p:Pat}{s:S}{v:V}{ρ':Env}{R:L2.St→Hp→Prop}(r:RW K H0 zE zA ow H ρ σ)(x:Ext zA H H')(rv:RvS K zA H H' s v)(e:G80 p s (i20 s ρ)=some ρ')
  (k:∀ ow' σ',RW K H0 zE zA ow' H' ρ' σ'→a10 (hw ow (hz zA H)) (hw ow' (hz zA H'))→R σ' H'):gP K p v σ H' R:=by
 obtain⟨owk,r1,s1,b1⟩:=j11 r s
 have r2:=r1.mono x
 have s2:a10 (hw ow (hz zA H)) (hw owk (hz zA H')):=a10.trans s1 (b90 x)
 cases s with
 |d y =>
  have e':e50 p y (i20 (.d y) ρ)=some ρ':=by cases p <;> exact e
  refine v51 e' r2 ?_ λow' σ' r3 s3=>k ow' σ' r3 (a10.trans s2 s3)
  rcases b1 with b1 | b1
  ·exact v80 r2.A41 b1 rv
  ·have:owk=λ_=>none:=funext b1
   subst this
   rw[q20];exact rv
 |z =>
  cases p with
  |v i =>
   simp only[G80] at e
   split at e
   ·cases e
    unfold gP
    exact k _ _ (r2.u52 rv) (a10.trans s2 (l80 owk i))
   ·cases e
  |_=>cases e
 |fr xs =>
  cases p with
  |v i =>
   simp only[G80] at e
   split at e
   ·rename_i hi
    cases e
    unfold gP
    obtain⟨a,ys,rfl,h1,h2,h3,h4⟩:=rv
    refine k _ _ (r1.u62 x h1 h2 h3 ?_ hi) (a10.trans s1 (v41 x h1 i))
    rcases b1 with b1 | b1
    ·refine s70 (λj b q=>?_) b1 (h4.same (d50 a _))
     unfold ow1 at q
     split at q
     ·cases q;exact⟨ys,c80 h3 h2⟩
     ·exact r2.A41 j b q
    ·refine h4.same λb o q=>?_
     have hb:b≠a:=λw=>by subst w;unfold hide at q;rw[if_pos rfl] at q;cases q
     refine g20 (d50 a _ b o q) λj w=>?_
     unfold ow1 at w
     split at w
     ·cases w;exact hb rfl
     ·rw[b1 j] at w;cases w
   ·cases e
  |_=>cases e
end
end Q
namespace Q
open PySem L2 PySem.Spec PyProof.Rows
variable [TB:Tb]
theorem H81(h:j20 v=false):swappedStores [tg] v env=pure none:=by
 cases v <;> first | (cases h;done) | (cases tg <;> rfl)
theorem H91(h:vs.all (foldedForSure 8)=true):swappedStores [.Tuple ts k p] (.Tuple vs k' p') env=pure none:=by
 unfold swappedStores
 simp only[h,if_true]
 split
 ·rfl
 ·split
  ·rfl
  ·split
   ·rfl
   ·rfl
def j21(look:Str→Option NameKind):Expr→Bool
 |.Name id _=>look id != some .local
 |_=>true
theorem I01(h:ts.any (j21 env.kindOf)=true):swappedStores [.Tuple ts k p] (.Tuple vs k' p') env=pure none:=by
 have hl:∀ (l:Nat) (ts:List Expr),ts.any (j21 env.kindOf)=true→(ts.filterMap fun
   |.Name id pos=>if env.kindOf id == some .local&&pos.line == l then some id else none
   |_=>none).length < ts.length:=by
  intro l ts
  induction ts with
  |nil=>intro h;cases h
  |cons e r ih =>
   intro h
   have le:=List.length_filterMap_le (fun
    |.Name id pos=>if env.kindOf id == some .local&&pos.line == l then some id else none
    |_=>none:Expr→Option Str) r
   rw[List.any_cons,or_eq_true] at h
   rw[filterMap_cons]
   split
   ·rw[length_cons];omega
   ·rename_i b hb
    rcases h with h | h
    ·exfalso
     cases e with
     |Name id pos =>
      have h':(env.kindOf id != some .local)=true:=h
      simp only[bne_iff_ne,ne_eq] at h'
      simp[h'] at hb
     |_=>cases hb
    ·have:=ih h
     rw[length_cons,length_cons];omega
 unfold swappedStores
 dsimp only
 split
 ·rfl
 ·split
  ·rfl
  ·have:=hl ((ts.head?.map (·.pos.line)).getD 0) ts h
   rw[if_pos]
   simp only[or_eq_true,bne_iff_ne,ne_eq]
   exact .inl (Nat.ne_of_lt this)
theorem W71{x y:Str}{a b:Expr}{px py pt pt2:Pos}{k k2:Nat}{env:PySem.Env}(hb:env.blockKind=.function)(hx:env.kindOf x=some .local)(hy:env.kindOf y=some .local)(hxy:(x == y)=false)(hl:(py.line == px.line)=true)
  (ha:noStar a=true) (hb':noStar b=true) (hf:[a,b].all (foldedForSure 8)=false) (hc:[a,b].all (constantsAlone 8)=false) :
  swappedStores [.Tuple [.Name x px,.Name y py] k pt] (.Tuple [a,b] k2 pt2) env=pure (some [x,y]):=by
 have hbk:(env.blockKind != .function)=false:=by rw[hb];rfl
 have e1:(x == x)=true:=beq_self_eq_true x
 have hyx:(y == x)=false:=by
  cases h:y == x with
  |false=>rfl
  |true=>rw[beq_iff_eq] at h;subst h;rw[e1] at hxy;cases hxy
 have hl2:(Expr.Name x px).pos.line=px.line:=rfl
 have hl3:(Expr.Name y py).pos.line=py.line:=rfl
 have hl':py.line=px.line:=by simpa using hl
 unfold swappedStores
 simp only[List.filterMap,List.head?,map,Option.getD,hx,hy,hf,hc,hbk,hl2,hl']
 simp[List.eraseDups,List.eraseDupsBy,List.eraseDupsBy.loop,hyx,hxy]
 intro h
 rcases h with h | h
 ·cases a <;> first | (cases h;done) | (cases ha;done)
 ·cases b <;> first | (cases h;done) | (cases hb';done)
def H80:Expr→Bool
 |.ListComp ..=>false
 |.SetComp ..=>false
 |.DictComp ..=>false
 |_=>true
theorem l90(h:H80 v=true)(t:Option Expr):swapsWith v t n env=pure false:=by
 cases v <;> first | rfl | (cases h;done)
theorem w00(h:(match tg with | .Name ..=>true | _=>false)=false):swapsWith v (some tg) n env=pure false:=by
 cases v <;> first | rfl | (cases tg <;> first | rfl | (cases h;done))
theorem v71{el:Expr}{gs:List Comprehension}{sc:Scope}{p px:Pos}{t:Str}{n:Nat}{env:PySem.Env}:∃ b,swapsWith (.ListComp el gs sc p) (some (.Name t px)) n env=pure b:=⟨_,rfl⟩
structure XS(lm:Bool)(X:Cx)(G:Gs)(E:XK)(N:List Str)(sc:Scope)(cn:List Str):Prop extends XI lm X G E N sc where
 sco:X.env.scope=sc
 fnk:sc.kind=.function
 own:PassesOwn (model X.prog X.w) X.A X.env X.xe
 can:B40 X E
 fnx:∀ x,X.fn x=true
 cls:∀ c x,cn[c]?=some x→X.mg x=some (.ref (G.cls c))∧PySem.W.excIn X.K (G.cls c) [.type "ValueError",.type "Exception",.type "BaseException",.type "object"] "ValueError.__new__"=true
def C90(sc:Scope)(x:Str):Bool:=sc.names.lookup x == some .local || sc.names.lookup x == some .cell
section
variable {lm:Bool}{X:Cx}{G:Gs}{E:XK}{N:List Str}{sc:Scope}{cn:List Str}{H0:Hp}{zE:Option Addr}
theorem XS.loc(x:XS lm X G E N sc cn):u91 X N (C90 sc):=by
 refine⟨x.hN,x.nd,λy h=>?_,λy _=>.inl (x.fnx y),x.calm⟩
 unfold C90 at h
 rw[or_eq_true,beq_iff_eq,beq_iff_eq] at h
 rw[x.sco];exact h
theorem XS.bk(x:XS lm X G E N sc cn):X.env.blockKind=.function:=by
 unfold Env.blockKind
 rw[x.sco,x.fnk];rfl
theorem PS.imp{st:Stmt}{t t':TS}(h:PS X st t)(i:∀ D σ H,t' D σ H→t D σ H):PS X st t':=λpins s σ H D I q=>h pins s σ H D I (i _ _ _ q)
theorem PSs.imp{st:List Stmt}{t t':TS}(h:PSs X st t)(i:∀ D σ H,t' D σ H→t D σ H):PSs X st t':=λpins s σ H D I q=>h pins s σ H D I (i _ _ _ q)
theorem PI.imp(h:PI X tg e t)(i:∀ σ H R,t' σ H R→t σ H R):PI X tg e t':=λpins s σ H R I q=>h pins s σ H R I (i _ _ _ q)
theorem k72:PSs X [] (tX X.K G E H0 zE .nil):=PSs.imp K20 λD σ H q=>by
 obtain⟨zA,ow,ρ,z,r,rw,st,e,po⟩:=q
 cases e
 exact po zA ow σ H rw st (a10.refl _)
theorem k82{s r:Sm}{st:Stmt}{rest:List Stmt}(h1:PS X st (tX X.K G E H0 zE s))(h2:PSs X rest (tX X.K G E H0 zE r)):PSs X (st::rest) (tX X.K G E H0 zE (.seq s r)):=PSs.imp (d40 h1 h2) λD σ H q=>by
 obtain⟨zA,ow,ρ,z,rr,rw,st,e,po⟩:=q
 have e0:M.bind (ex G.F zE.isNone s ρ) (λo=>match o with | .nx ρ=>ex G.F zE.isNone r ρ | .rt s=>M.ret (.rt s)) z=some rr:=e
 rcases M.bind_some e0 with ⟨o,z1,e1,e2⟩ | ⟨c,z1,e1,e2⟩
 ·refine⟨zA,ow,ρ,z,_,rw,st,e1,?_⟩
  cases o with
  |nx ρ1=>exact λzA' ow' σ' H' rw' st' sm=>⟨zA',ow',ρ1,z1,rr,rw',st',e2,po.mono sm⟩
  |rt s=>cases e2;exact po
 ·subst e2
  exact⟨zA,ow,ρ,z,_,rw,st,e1,po⟩
theorem A61{p:Pat}{e:Ex}{D:Ends}{σ:L2.St}{H:Hp}(q:tX X.K G E H0 zE (.set p e) D σ H):N91 (tI X.K G E e) (gP X.K p) D σ H:=by
 obtain⟨zA,ow,ρ,z,rr,rw,st,ee,po⟩:=q
 refine g80 rw.y00 st ee (po.ers rw) λl z1 e1=>?_
 obtain⟨s,hs,e2⟩:=M.a00 e1
 refine⟨s,v00 hs,λv H1 x1 st1 rv=>?_⟩
 obtain⟨ρ',hb,e3⟩:=M.a00 e2
 cases e3
 exact v61 rw x1 rv hb λow' σ' r' sm=>po zA ow' σ' H1 r' st1 sm
theorem u72{K:PySem.W.Frag}{i:Nat}:gP K (.v i)=z40 i:=by unfold gP;rfl
theorem k92(x:XS lm X G E N sc cn){i:Nat}{e:Ex}{y:Str}{v:Expr}{px pos:Pos}(hi:N[i]?=some y)(hl:C90 sc y=true)(g:b00 X G E e v)
  (hc:∀ elt gs csc q,v=.ListComp elt gs csc q→∃ tg iter ifs,gs=[⟨tg,iter,ifs,0⟩]∧x90 X G E e elt tg iter ifs csc) (hno:∀ a b c d,v≠.SetComp a b c d) (hnd:∀ a b c d f,v≠.DictComp a b c d f) :
  PS X (.Assign [.Name y px] v pos) (tX X.K G E H0 zE (.set (.v i) e)):=by
 have L:=x.loc
 refine PS.imp (t:=N91 (tI X.K G E e) (z40 i)) ?_ λD σ H q=>by rw[← u72 (K:=X.K)];exact A61 q
 have h1:X.N.Nodup:=by rw[x.hN];exact x.nd
 have h2:X.N[i]?=some y:=by rw[x.hN];exact hi
 by_cases hv:∃ elt gs csc q,v=.ListComp elt gs csc q
 ·obtain⟨elt,gs,csc,q,rfl⟩:=hv
  obtain⟨b,hb⟩:=v71 (el:=elt) (gs:=gs) (sc:=csc) (p:=q) (px:=px) (t:=y) (n:=pos.line) (env:=X.env)
  cases b with
  |false=>exact n60 h1 h2 (L.lc y hl) g.pe hb (L.fn y hl)
  |true =>
   obtain⟨tg,iter,ifs,rfl,own,capt,wi,gg,tt,te,k1,k2,k3,k4,k5,k6,k7⟩:=hc elt gs csc q rfl
   refine PS.imp (D41 h1 h2 (L.lc y hl) hb x.calm k1 k2 k3 k4 k5 k6 (L.fn y hl)) λD σ H q=>k7 _ _ _ q
 ·exact n60 h1 h2 (L.lc y hl) g.pe (l90 (by cases v <;> first | rfl | exact absurd rfl (hno _ _ _ _) | exact absurd rfl (hnd _ _ _ _ _) | exact absurd ⟨_,_,_,_,rfl⟩ hv) _) (L.fn y hl)
theorem j31(x:XS lm X G E N sc cn)(hp:g90 N (C90 sc) p tg=true)(g:b00 X G E e v)(ht:j20 tg=true)(hv:swappedStores [tg] v X.env=pure none) :
  PS X (.Assign [tg] v pos) (tX X.K G E H0 zE (.set p e)):=by
 refine PS.imp (a11 g.pe (g91 x.loc hp) ?_ hv ?_) λD σ H q=>A61 q
 ·exact w00 (by cases tg <;> first | rfl | (cases ht;done))
 ·cases tg <;> first | rfl | (cases ht;done)
theorem l02(x:XS lm X G E N sc cn){i j:Nat}{ea eb:Ex}{a b:Expr}{y w:Str}{px py pt pt2 pos:Pos}{k k2:Nat}(hi:N[i]?=some y)(hj:N[j]?=some w)(hyw:(y == w)=false)(hy:sc.names.lookup y=some .local)(hw':sc.names.lookup w=some .local)
  (g:Good X G E (.cons ea (.cons eb .nil)) [a,b]) (hs:swappedStores [.Tuple [.Name y px,.Name w py] k pt] (.Tuple [a,b] k2 pt2) X.env=pure (some [y,w])) :
  PS X (.Assign [.Tuple [.Name y px,.Name w py] k pt] (.Tuple [a,b] k2 pt2) pos) (tX X.K G E H0 zE (.set (.tup (.cons (.v i) (.cons (.v j) .nil))) (.tup (.cons ea (.cons eb .nil))))):=by
 have hij:i≠j:=λh=>by
  subst h
  rw[hi] at hj;cases hj
  rw[beq_self_eq_true] at hyw;cases hyw
 refine PS.imp (O01 x.calm (by rw[x.hN];exact x.nd) (by rw[x.hN];exact hi) (by rw[x.hN];exact hj) hij (by rw[x.sco];exact hy) (by rw[x.sco];exact hw') (g.args rfl).1 hs rfl) λD σ H q=>?_
 obtain⟨zA,ow,ρ,z,rr,rw,st,ee,po⟩:=q
 have e0:M.bind (M.bind (ev G.F (.cons ea (.cons eb .nil)) ρ) λl=>M.bind (M.of (plA l)) λds=>if ds.length≤most then M.ret [S.d (.tup ds)] else M.no) (λl=>M.bind (M.of (one l)) λs=>M.bind (M.of (G80 (.tup (.cons (.v i) (.cons (.v j) .nil))) s (i20 s ρ))) λρ=>M.ret (O.nx ρ)) z=some rr:=ee
 rcases M.bind_some e0 with ⟨l0,z0,e1,e2⟩ | ⟨c,z1,e1,e2⟩
 ·rcases M.bind_some e1 with ⟨l,z1,e3,e4⟩ | ⟨c,z1,e3,e4⟩
  ·obtain⟨ds,hds,e5⟩:=M.a00 e4
   split at e5
   ·cases e5
    obtain⟨s,hs',e6⟩:=M.a00 e2
    cases hs'
    obtain⟨ρ',hb,e7⟩:=M.a00 e6
    cases e7
    refine⟨zA,ρ,z,_,rw.y00,st,e3,λvs H1 x1 st1 rvs=>?_⟩
    have hd:=C00 rvs hds
    obtain⟨owk,r1,s1,b1⟩:=j11 rw (.d (.tup ds))
    have hb':bindL (.cons (.v i) (.cons (.v j) .nil)) ds (i20 (.d (.tup ds)) ρ)=some ρ':=by
     have:e50 (.tup (.cons (.v i) (.cons (.v j) .nil))) (.tup ds) (i20 (.d (.tup ds)) ρ)=some ρ':=hb
     unfold e50 at this;exact this
    have r2:=r1.mono x1
    have hd2:HdA X.K (hw owk (hz zA H1)) ds vs:=by
     rcases b1 with b1 | b1
     ·exact s70 r2.A41 (by simpa [s20,bare] using b1) hd
     ·have:owk=λ_=>none:=funext b1
      subst this
      rw[q20];exact hd
    have:=j01 hb' (R:=D.nx) r2 hd2 λow' σ' r' sm=>po zA ow' σ' H1 r' st1 (a10.trans s1 (a10.trans (b90 x1) sm))
    unfold gL at this
    obtain⟨v,vr,rfl,this⟩:=this
    unfold gP gL at this
    obtain⟨u,ur,rfl,this⟩:=this
    unfold gP gL at this
    obtain⟨rfl,this⟩:=this
    exact⟨v,u,rfl,this⟩
   ·cases e5
  ·cases e4
 ·subst e2
  rcases M.bind_some e1 with ⟨l,z2,e3,e4⟩ | ⟨c,z2,e3,e4⟩
  ·obtain⟨ds,hds,e5⟩:=M.a00 e4
   split at e5 <;> cases e5
  ·cases e4
   exact⟨zA,ρ,z,_,rw.y00,st,e3,po.er_ rw⟩
theorem A71{s t:S}(h:noS s=some t):s=t∧t≠.z:=by
 cases s with
 |z=>cases h
 |d _=>cases h;exact⟨rfl,λh=>nomatch h⟩
 |fr _=>cases h;exact⟨rfl,λh=>nomatch h⟩
theorem W81(x:XS lm X G E N sc cn){i:Nat}{n:Str}{p pos:Pos}(h1:N[i]?=some n)(h2:b30 n=true):PS X (.Return (some (.Name n p)) pos) (tX X.K G E H0 zE (.ret (.var i))):=by
 unfold b30 at h2
 simp only[and_eq_true,not_eq_true'] at h2
 refine PS.imp (P40 (h00 (i:=i) (by rw[x.hN];exact h1) (x.vis n (mem_of_getElem? h1)) h2.1 h2.2)) λD σ H q=>?_
 obtain⟨zA,ow,ρ,z,rr,rw,st,ee,po⟩:=q
 have e0:(match ρ[i]? with | some (some s)=>M.bind (M.of (noS s)) λs=>M.ret (O.rt s) | _=>M.no) z=some rr:=ee
 cases hs:ρ[i]? with
 |none=>rw[hs] at e0;cases e0
 |some o =>
  cases o with
  |none=>rw[hs] at e0;cases e0
  |some s =>
   rw[hs] at e0
   obtain⟨t,ht,e1⟩:=M.a00 e0
   cases e1
   obtain⟨rfl,nz⟩:=A71 ht
   obtain⟨v,k1,k2⟩:=rw.u32 nz hs
   exact⟨v,k1,po v H nz rw.ext (M11 rw.zok st) k2⟩
theorem l12(hv:∀ i,e≠.var i)(g:b00 X G E e v):PS X (.Return (some v) pos) (tX X.K G E H0 zE (.ret e)):=by
 refine PS.imp (P40 g.pe) λD σ H q=>?_
 obtain⟨zA,ow,ρ,z,rr,rw,st,ee,po⟩:=q
 have e0:M.bind (ev G.F e ρ) (λl=>M.bind (M.of ((one l).bind noS)) λs=>M.ret (O.rt s)) z=some rr:=by
  cases e <;> first | exact ee | exact absurd rfl (hv _)
 refine g80 rw.y00 st e0 (po.ers rw) λl z1 e1=>?_
 obtain⟨t,ht,e2⟩:=M.a00 e1
 cases e2
 obtain⟨s,hs,hn⟩:=Option.bind_eq_some_iff.mp ht
 obtain⟨rfl,nz⟩:=A71 hn
 exact⟨s,v00 hs,λv H1 x1 st1 rv=>po v H1 nz (i91 rw.ext rw.zok x1) (M11 rw.zok st1) (rw.out nz x1 rv)⟩
theorem u82(g:b00 X G E c ce)(hn:∀ t a b p,ce≠.IfExp t a b p)(ha:PSs X a (tX X.K G E H0 zE t))(hb:PSs X b (tX X.K G E H0 zE u)) :
  PS X (.If ce a b pos) (tX X.K G E H0 zE (.iff c t u)):=by
 refine PS.imp (C01 (g.pt hn) ha hb) λD σ H q=>?_
 obtain⟨zA,ow,ρ,z,rr,rw,st,ee,po⟩:=q
 refine H10 rw.y00 st ee (po.ers rw) λb z1 e1 H1 x1 st1=>?_
 have r1:=rw.mono x1
 have sm:a10 (hw ow (hz zA H)) (hw ow (hz zA H1)):=b90 x1
 cases b with
 |true=>exact⟨zA,ow,ρ,z1,rr,r1,st1,e1,po.mono sm⟩
 |false=>exact⟨zA,ow,ρ,z1,rr,r1,st1,e1,po.mono sm⟩
theorem l22(g:b00 X G E e v)(h:H80 v=true):PS X (.Expr v pos) (tX X.K G E H0 zE (.exp e)):=by
 refine PS.imp (z30 g.pe (l90 h none)) λD σ H q=>?_
 obtain⟨zA,ow,ρ,z,rr,rw,st,ee,po⟩:=q
 have e0:M.bind (ev G.F e ρ) (λl=>M.bind (M.of (one l)) λ_=>M.ret (O.nx ρ)) z=some rr:=ee
 refine g80 rw.y00 st e0 (po.ers rw) λl z1 e1=>?_
 obtain⟨s,hs,e2⟩:=M.a00 e1
 cases e2
 exact⟨s,v00 hs,λv H1 x1 st1 rv=>po zA ow σ H1 (rw.mono x1) st1 (b90 x1)⟩
theorem x_raise(x:XS lm X G E N sc cn){c:Nat}{n:Str}{y:Str}{k:Nat}{p1 p2 p3 p4:Pos}(hc:cn[c]?=some n)(hg:glob sc n=true):PS X (.Raise (some (.Call (.Name n p1) [.Constant (.str y) k p2] [] p3)) none p4) (tX X.K G E H0 zE (.rais c)):=by
 obtain⟨k1,k2,_⟩:=d10 hg
 obtain⟨m1,m2⟩:=x.cls c n hc
 refine PS.imp (s81 x.can x.calm (x.glb n k1) m1 m2 (d20 x91 j80) k2 rfl rfl) λD σ H q=>?_
 obtain⟨zA,ow,ρ,z,rr,rw,st,ee,po⟩:=q
 cases ee
 exact⟨by show 1≤sizeLine;decide,λe hn=>po e H rw.ext (M11 rw.zok st) hn⟩
end
section
variable {K:PySem.W.Frag}{H0 H H':Hp}{zE zA:Option Addr}{ow:Nat→Option Addr}{ρ:Env}{σ:L2.St}
theorem f10(e:ow0 ow i j=some a):j≠i∧ow j=some a:=by
 unfold ow0 at e
 split at e
 ·cases e
 ·rename_i n;exact⟨n,e⟩
theorem s80:ow0 ow i i=none:=if_pos rfl
theorem j41(h:j≠i):ow0 ow i j=ow j:=if_neg h
theorem v81{ρ:Env}{j:Nat}{s:S}(h:(G70 ρ)[j]?=some (some s)):ρ[j]?=some (some s)∧s≠.z:=by
 unfold G70 at h
 rw[List.getElem?_map] at h
 obtain⟨o,e1,e2⟩:=Option.map_eq_some_iff.mp h
 cases o with
 |none=>cases e2
 |some t =>
  cases t with
  |z=>cases e2
  |d x=>cases e2;exact⟨e1,λh=>nomatch h⟩
  |fr x=>cases e2;exact⟨e1,λh=>nomatch h⟩
theorem I11{j:Nat}(h:ρ[j]?=some (some (.fr xs))):(G70 ρ)[j]?=some (some (.fr xs)):=by
 unfold G70
 rw[List.getElem?_map,h];rfl
theorem RW.u92(r:RW K H0 none zA ow H ρ σ){i:Nat}(x:Ext zA H H')(hn:H a=none)(za:zA≠some a)(hl:H' a=some (.lst ys)) :
  RW K H0 none (some a) (ow0 ow i) H' ((G70 ρ).set i (some .z)) (σ.set i (some (.ref a)))∧a10 (hw ow (hz zA H)) (hw (ow0 ow i) (hz (some a) H')):=by
 have r':=r.mono x
 have old:∀ j b,ow j=some b→b≠a:=λj b e q=>by
  obtain⟨zs,h1⟩:=r.lst j b e
  rw[q,hn] at h1;cases h1
 have sm:a10 (hw ow (hz zA H)) (hw (ow0 ow i) (hz (some a) H')):=λb o e=>by
  obtain⟨e1,e2⟩:=v70 e
  have hb:b≠a:=λq=>by
   have e3:H b=some o:=(j60 e1).1
   rw[q,hn] at e3;cases e3
  exact g20 (c80 (j60 (x b o e1)).1 (λq=>by cases q;exact hb rfl) (k20 e1)) λj q=>e2 j (f10 q).2
 have dl:(G70 ρ).length=ρ.length:=by unfold G70;rw[length_map]
 refine⟨⟨by rw[length_set,length_set,dl];exact r.len,λj k b h1 h2=>r.inj j k b (f10 h1).2 (f10 h2).2,λj b h1 q=>?_,λj b h1=>?_,λj s e=>?_,r'.ext,.inr ⟨rfl,λb q=>?_⟩,λj b h1=>r.new j b (f10 h1).2⟩,sm⟩
 ·cases q
  exact old j _ (f10 h1).2 rfl
 ·obtain⟨n,h2⟩:=f10 h1
  obtain⟨xs,h3⟩:=r.own j b h2
  exact⟨xs,by rw[List.getElem?_set_ne (Ne.symm n)];exact I11 h3⟩
 ·rcases getElem?_set' e with ⟨rfl,e1,hlt⟩ | ⟨n,e1⟩
  ·cases e1
   exact⟨.ref a,List.getElem?_set_self (by rw[← r.len,← dl];exact hlt),s80,a,rfl,rfl⟩
  ·obtain⟨e1,nz⟩:=v81 e1
   obtain⟨w,h1,h2⟩:=r.wor j s e1
   refine⟨w,by rw[List.getElem?_set_ne (Ne.symm n)];exact h1,?_⟩
   cases s with
   |d y=>exact⟨by rw[j41 n];exact h2.1,h2.2.same sm⟩
   |z=>exact absurd rfl nz
   |fr xs =>
    obtain⟨b,zs,k1,rfl,k3,k4⟩:=h2
    exact⟨b,zs,by rw[j41 n];exact k1,rfl,x.at k3 (r.zne j b k1),k4.same sm⟩
 ·cases q
  exact(r.young hn za).1
theorem RW.plain(r:RW K H0 zE zA ow H ρ σ)(i:Nat):RW K H0 zE zA (ow0 ow i) H (ρ.set i ((ρ[i]?.getD none).map plS)) σ:=by
 have sm:=l80 (H:=hz zA H) ow i
 refine⟨by rw[length_set];exact r.len,λj k b h1 h2=>r.inj j k b (f10 h1).2 (f10 h2).2,λj b h1=>r.zne j b (f10 h1).2,λj b h1=>?_,λj s e=>?_,r.ext,r.zok,λj b h1=>r.new j b (f10 h1).2⟩
 ·obtain⟨n,h2⟩:=f10 h1
  obtain⟨xs,h3⟩:=r.own j b h2
  exact⟨xs,by rw[List.getElem?_set_ne (Ne.symm n)];exact h3⟩
 ·rcases getElem?_set' e with ⟨rfl,e1,hlt⟩ | ⟨n,e1⟩
  ·cases hs:ρ[j]? with
   |none=>rw[hs] at e1;cases e1
   |some o =>
    rw[hs] at e1
    cases o with
    |none=>cases e1
    |some s0 =>
     cases e1
     obtain⟨w,h1,h2⟩:=r.wor j s0 hs
     refine⟨w,h1,?_⟩
     cases s0 with
     |d y=>exact⟨s80,h2.2.same sm⟩
     |z=>exact⟨s80,h2.2⟩
     |fr xs =>
      obtain⟨b,zs,k1,rfl,k3,k4⟩:=h2
      refine⟨s80,Hd.lst (g20 (c80 k3 (r.zne j b k1)) λk q=>?_) (k4.same sm)⟩
      obtain⟨q1,q2⟩:=f10 q
      exact q1 (r.inj k j b q2 k1)
  ·obtain⟨w,h1,h2⟩:=r.wor j s e1
   exact⟨w,h1,h2.move (j41 n) sm λ_ _=>rfl⟩
end
theorem HdA.eraseIdx{K:PySem.W.Frag}{H:Hp}:∀ {ds:List D}{vs:List V} (n:Nat),HdA K H ds vs→HdA K H (ds.eraseIdx n) (vs.eraseIdx n)
 |[],_,n,h=>by rw[h.e10];exact .nil
 |d::ds,_,0,h=>by
  obtain⟨x,r,rfl,h1,h2⟩:=h.b70
  exact h2
 |d::ds,_,n + 1,h=>by
  obtain⟨x,r,rfl,h1,h2⟩:=h.b70
  exact .cons h1 (HdA.eraseIdx n h2)
section
variable {lm:Bool}{X:Cx}{G:Gs}{E:XK}{N:List Str}{sc:Scope}{cn:List Str}{H0:Hp}{zE:Option Addr}
theorem j51{α β:Type}{R:α→β→Prop}{a:α}{vs:List β}(h:Paired R [a] vs):∃ v,vs=[v]∧R a v:=by
 cases h with
 |cons h1 h2=>cases h2;exact⟨_,rfl,h1⟩
theorem c30.a20(st:c30 zA z H)(n:zA≠some a)(h:H a=some (.lst xs)):c30 zA z (upd H a o):=by
 refine⟨?_,λp hp=>Tab.upd (st.tab p hp) h⟩
 have st:=st.zat
 cases zA with
 |none=>cases z <;> exact st
 |some b =>
  cases z with
  |none=>exact st
  |some p =>
   have hb:b≠a:=λq=>n (by rw[q])
   exact(L2.a20 hb).trans st
theorem S50(h:ownAt ρ i=some xs):ρ[i]?=some (some (.fr xs)):=by
 unfold ownAt at h
 split at h
 ·rename_i h1;cases h;exact h1
 ·cases h
theorem X70{K:PySem.W.Frag}{zA:Option Addr}{H0 H:Hp}{s:S}{v:V}{x:D}(h:RvS K zA H0 H s v)(e:plD s=some x):Hd K (hz zA H) x v:=h.pl.d_ e
theorem l32(x:XS lm X G E N sc cn){i:Nat}{n:Str}{e:Ex}{v:Expr}{p apos cpos pos:Pos}(h1:N[i]?=some n)(h2:b30 n=true)(ns:noStar v=true)(g:b00 X G E e v)(hl:(apos.endLine == cpos.line)=true) :
  PS X (.Expr (.Call (.Attribute (.Name n p) "append" apos) [v] [] cpos) pos) (tX X.K G E H0 zE (.app i e)):=by
 unfold b30 at h2
 simp only[and_eq_true,not_eq_true'] at h2
 have ga:Good X G E (.cons e .nil) [v]:=⟨v,[],rfl,ns,g,rfl,rfl⟩
 have hs:=c40 ns [] X.env
 refine PS.imp (z30 (q71 PySem.F.plainAttrs_list PySem.F.slot_list_append PySem.F.type_list_append t60 (h00 (i:=i) (by rw[x.hN];exact h1) (x.vis n (mem_of_getElem? h1)) h2.1 h2.2) (ga.args rfl).1 rfl (by rw[hs];rfl) hl hs rfl) (l90 rfl none)) λD σ H q=>?_
 obtain⟨zA,ow,ρ,z,rr,rw,st,ee,po⟩:=q
 obtain⟨xs,hx,e1⟩:=M.a00 ee
 have ho:=S50 hx
 obtain⟨w,k1,a,ys,k2,rfl,k3,k4⟩:=rw.wor i _ ho
 refine⟨_,k1,.inl ⟨rfl,ys,SqL.of k3⟩,?_⟩
 have e2:M.bind (ev G.F (.cons e .nil) ρ) (λm=>M.bind (M.of (pl m)) λx=>if bare x=true∧xs.length < most then M.ret (O.nx (ρ.set i (some (.fr (xs++[x]))))) else M.no) z=some rr∨∃ c z1,ev G.F e ρ z=some (.er c z1)∧rr=.er c z1:=by
  rcases M.bind_some e1 with ⟨l,z1,e3,e4⟩ | ⟨c,z1,e3,e4⟩
  ·obtain⟨y,hy,e5⟩:=M.a00 e4
   obtain⟨s,rfl,hs⟩:=d70 hy
   refine .inl ?_
   show M.bind (M.bind (ev G.F e ρ) λx=>M.bind (M.of (one x)) λs=>M.bind (ev G.F .nil ρ) λy=>M.ret (s::y)) _ z=some rr
   simp only[M.bind,e3,M.of,one,M.ret,ev,hy]
   exact e5
  ·exact .inr ⟨c,z1,e3,e4⟩
 rcases e2 with e2 | ⟨c,z1,e3,rfl⟩
 ·refine X40 rw.y00 st e2 (po.ers rw) λl z1 e3 vs H1 x1 st1 rvs=>?_
  obtain⟨y,hy,e5⟩:=M.a00 e3
  obtain⟨s,rfl,hs⟩:=d70 hy
  split at e5
  ·rename_i hb
   cases e5
   obtain⟨u,rfl,ru⟩:=j51 rvs
   have r1:=rw.mono x1
   have k3':=x1.at k3 (rw.zne i a k2)
   have k4':HdA X.K (hw ow (hz zA H1)) xs ys:=k4.same (b90 x1)
   have hd:=v80 r1.A41 hb.1 (X70 ru hs)
   refine⟨a,ys,u,rfl,rfl,k3',Nat.lt_of_lt_of_le (by rw[k4.length];exact hb.2) (d80 (Nat.le_refl _)),?_⟩
   refine po zA ow σ _ (r1.upd k2 (k4'.append (.cons hd .nil))) ?_ (a10.trans (b90 x1) (C80 k2))
   exact st1.a20 (rw.zne i a k2) k3'
  ·cases e5
 ·refine⟨zA,ρ,z,.er c z1,rw.y00,st,?_,po.er_ rw⟩
  show M.bind (ev G.F e ρ) _ z=_
  simp only[M.bind,e3]
theorem l42(x:XS lm X G E N sc cn){i:Nat}{n:Str}{e ix:Ex}{v w:Expr}{p tp pos:Pos}(h1:N[i]?=some n)(h2:b30 n=true)(g:b00 X G E e v)(gi:b00 X G E ix w)(hw':v40 w=true) :
  PS X (.Assign [.Subscript (.Name n p) w tp] v pos) (tX X.K G E H0 zE (.sti i ix e)):=by
 unfold b30 at h2
 simp only[and_eq_true,not_eq_true'] at h2
 refine PS.imp (a11 g.pe (y11 (h00 (i:=i) (by rw[x.hN];exact h1) (x.vis n (mem_of_getElem? h1)) h2.1 h2.2) gi.pe set_list (by intro u;cases w <;> first | rfl | (cases hw';done))) (show swapsWith v (some (.Subscript (.Name n p) w tp)) pos.line X.env=pure false from w00 rfl) (by cases v <;> rfl)) λD σ H q=>?_
 obtain⟨zA,ow,ρ,z,rr,rw,st,ee,po⟩:=q
 refine g80 rw.y00 st ee (po.ers rw) λl z1 e1=>?_
 obtain⟨y,hy,e2⟩:=M.a00 e1
 obtain⟨s,rfl,hs⟩:=d70 hy
 refine⟨s,rfl,λu H1 x1 st1 rv=>?_⟩
 obtain⟨xs,hx,e3⟩:=M.a00 e2
 have ho:=S50 hx
 have r1:=rw.mono x1
 obtain⟨w',k1,a,ys,k2,rfl,k3,k4⟩:=r1.wor i _ ho
 refine⟨_,k1,?_⟩
 refine g80 r1.y00 st1 e3 (po.ers r1) λl2 z2 e4=>?_
 obtain⟨j,hj,e5⟩:=M.a00 e4
 obtain⟨dj,hj1,hj2⟩:=Option.bind_eq_some_iff.mp hj
 obtain⟨s2,rfl,hs2⟩:=d70 hj1
 refine⟨s2,rfl,λu2 H2 x2 st2 rv2=>?_⟩
 obtain⟨xs2,hx2,e6⟩:=M.a00 e5
 split at e6
 ·rename_i hb
  cases e6
  have hdj:u2=.int j:=by
   have:=X70 rv2 hs2
   cases dj <;> first | (cases hj2;exact this.g60) | (cases hj2;done)
  unfold x50 at hx2
  obtain⟨m,hm1,rfl⟩:=Option.map_eq_some_iff.mp hx2
  have r2:=r1.mono x2
  have k4':HdA X.K (hw ow (hz zA H2)) xs ys:=k4.same (b90 x2)
  have hd:=v80 r2.A41 hb ((X70 rv hs).same x2)
  refine⟨a,ys,j,m,rfl,hdj,x2.at k3 (rw.zne i a k2),by rw[k4.length];exact hm1,?_⟩
  refine po zA ow σ _ (r2.upd k2 (k4'.set m hd)) (st2.a20 (rw.zne i a k2) (x2.at k3 (rw.zne i a k2))) (a10.trans (b90 (x1.trans x2)) (C80 k2))
 ·cases e6
theorem W91(x:XS lm X G E N sc cn){i f:Nat}{as:Ex}{y:Str}{v:Expr}{px pos:Pos}(hi:N[i]?=some y)(hl:C90 sc y=true)(g:b00 X G E (.call f as) v)(hv:H80 v=true) :
  PS X (.Assign [.Name y px] v pos) (tX X.K G E H0 zE (.newz i f as)):=by
 have L:=x.loc
 refine PS.imp (n60 (i:=i) (by rw[x.hN];exact x.nd) (by rw[x.hN];exact hi) (L.lc y hl) g.pe (l90 hv _) (L.fn y hl)) λD σ H q=>?_
 obtain⟨zA,ow,ρ,z,rr,rw,st,ee,po⟩:=q
 refine g80 rw.y00 st ee (po.ers rw) λl z1 e1=>?_
 have e2:f41 zE.isNone ρ i l=some rr:=e1
 unfold f41 at e2
 split at e2
 ·split at e2
  ·rename_i m b hz'
   cases e2
   have zn:zE=none:=by
    cases zE with
    |none=>rfl
    |some _=>cases hz'
   subst zn
   refine⟨_,rfl,λu H1 x1 st1 rv=>?_⟩
   obtain⟨a,ys,rfl,k1,k2,k3,k4⟩:=rv
   obtain⟨v1,v2,rfl,h3,h4⟩:=k4.two
   cases h3.g60;cases h4.bl_
   obtain⟨r1,sm⟩:=rw.u92 (i:=i) x1 k1 k2 k3
   exact po (some a) _ _ H1 r1 ⟨k3,st1.tab⟩ sm
  ·cases e2
 ·cases e2
theorem X01(x:XS lm X G E N sc cn){i:Nat}{n:Str}{e:Ex}{v:Expr}{c:Nat}{p q tp pos:Pos}(h1:N[i]?=some n)(h2:b30 n=true)(g:b00 X G E e v) :
  PS X (.Assign [.Subscript (.Name n p) (.Constant (.int 0) c q) tp] v pos) (tX X.K G E H0 zE (.zset i e)):=by
 unfold b30 at h2
 simp only[and_eq_true,not_eq_true'] at h2
 refine PS.imp (a11 g.pe (y11 (h00 (i:=i) (by rw[x.hN];exact h1) (x.vis n (mem_of_getElem? h1)) h2.1 h2.2) P20 set_list (by intro u;rfl)) (show swapsWith v (some (.Subscript (.Name n p) (.Constant (.int 0) c q) tp)) pos.line X.env=pure false from w00 rfl) (by cases v <;> rfl)) λD σ H q=>?_
 obtain⟨zA,ow,ρ,z,rr,rw,st,ee,po⟩:=q
 refine g80 rw.y00 st ee (po.ers rw) λl z1 e1=>?_
 obtain⟨y,hy,e2⟩:=M.a00 e1
 obtain⟨dy,hy1,hy2⟩:=Option.bind_eq_some_iff.mp hy
 obtain⟨s,rfl,hs⟩:=d70 hy1
 refine⟨s,rfl,λu H1 x1 st1 rv=>?_⟩
 have e3:f51 ρ y ρ[i]? z1=some rr:=e2
 unfold f51 at e3
 split at e3
 ·rename_i p' hsl
  cases e3
  have r1:=rw.mono x1
  obtain⟨w,k1,k2,a,rfl,rfl⟩:=r1.wor i .z hsl
  have hu:u=.int y:=by
   have:=X70 rv hs
   cases dy <;> first | (cases hy2;exact this.g60) | (cases hy2;done)
  subst hu
  have st':H1 a=some (.lst [.int p'.1,.bl p'.2]):=st1.zat
  refine⟨_,k1,a,[.int p'.1,.bl p'.2],0,0,rfl,rfl,st',rfl,?_⟩
  have x2:Ext (some a) H1 (upd H1 a (.lst [.int y,.bl p'.2])):=by
   refine⟨λb o h=>?_,λb ps h=>⟨ps,by rw[a20 (λz=>by rw[z,st'] at h;cases h)];exact h⟩⟩
   obtain⟨h3,h4⟩:=j60 h
   exact c80 (by rw[a20 (λz=>h4 (by rw[z]))];exact h3) h4 (k20 h)
  exact po (some a) ow σ _ (r1.mono x2) ⟨a80,λp hp=>Tab.upd (st1.tab p hp) st'⟩ (a10.trans (b90 x1.same) (b90 x2.same))
 ·cases e3
theorem l52(x:XS lm X G E N sc cn)(g:b00 X G E c ce)(hn:∀ t a b p,ce≠.IfExp t a b p)(hb:PSs X body (tX X.K G E H0 zE b)):PS X (.While ce body [] pos) (tX X.K G E H0 zE (.whl c b)):=by
 refine PS.imp (p81 x.own (g.pt hn) hb) λD σ H q=>?_
 obtain⟨zA,ow,ρ,z,rr,rw,st,ee,po⟩:=q
 refine⟨λm σ H=>∃ zA ow ρ z r,RW X.K H0 zE zA ow H ρ σ∧c30 zA z H∧z11 (ev G.F c) (ex G.F zE.isNone b) m ρ z=some r∧j70 X.K G E H0 zE (hw ow (hz zA H)) D r,⟨L81,zA,ow,ρ,z,rr,rw,st,ee,po⟩,?_⟩
 rintro m σ H ⟨zA,ow,ρ,z,rr,rw,st,ee,po⟩
 cases m with
 |zero=>cases ee
 |succ m =>
  refine H10 rw.y00 st ee (po.ers rw) λk z1 e1 H1 x1 st1=>?_
  have r1:=rw.mono x1
  have sm:a10 (hw ow (hz zA H)) (hw ow (hz zA H1)):=b90 x1
  cases k with
  |false =>
   cases e1
   exact po zA ow σ H1 r1 st1 sm
  |true =>
   rw[if_pos rfl]
   have e2:M.bind (ex G.F zE.isNone b ρ) (λo=>match o with | .nx ρ=>z11 (ev G.F c) (ex G.F zE.isNone b) m ρ | .rt s=>M.ret (.rt s)) z1=some rr:=e1
   refine⟨λσ' H'=>∃ zA ow ρ z r,RW X.K H0 zE zA ow H' ρ σ'∧c30 zA z H'∧z11 (ev G.F c) (ex G.F zE.isNone b) m ρ z=some r∧j70 X.K G E H0 zE (hw ow (hz zA H')) D r,λσ' H' h=>⟨m,lt_succ_self m,h⟩,?_⟩
   rcases M.bind_some e2 with ⟨o,z2,e3,e4⟩ | ⟨k,z2,e3,e4⟩
   ·refine⟨zA,ow,ρ,z1,_,r1,st1,e3,?_⟩
    cases o with
    |nx ρ1=>exact λzA' ow' σ' H' rw' st' sm'=>⟨zA',ow',ρ1,z2,rr,rw',st',e4,po.mono (a10.trans sm sm')⟩
    |rt s=>cases e4;exact po
   ·subst e4
    exact⟨zA,ow,ρ,z1,_,r1,st1,e3,po⟩
theorem I21{i j:Nat}{e:Ex}{D:Ends}{σ:L2.St}{H:Hp}{zA:Option Addr}{ow:Nat→Option Addr}{ρ:Env}{z:Z}{rr:R O}(rw:RW X.K H0 zE zA ow H ρ σ)(st:c30 zA z H)(ee:S01 G.F i j e ρ z=some rr)(po:j70 X.K G E H0 zE (hw ow (hz zA H)) D rr) :
  N51 (tBM X.K "list" b51 (L61 i) (P01 (tBM X.K "list" y51 (L61 j) (tA X.K G E (.cons e .nil))) o62)) D σ H:=by
 obtain⟨xs,hx,e1⟩:=M.a00 ee
 obtain⟨ys,hy,e1⟩:=M.a00 e1
 have ho:=S50 hx
 have hp:=S50 hy
 obtain⟨w,k1,a,us,k2,rfl,k3,k4⟩:=rw.wor i _ ho
 obtain⟨w',m1,b,ws,m2,rfl,m3,m4⟩:=rw.wor j _ hp
 refine⟨_,k1,.inl ⟨rfl,us,SqL.of k3⟩,⟨_,m1,.inl ⟨rfl,ws,SqL.of m3⟩,?_⟩⟩
 rcases M.bind_some e1 with ⟨l,z1,e3,e4⟩ | ⟨c,z1,e3,e4⟩
 ·obtain⟨k,hk,e5⟩:=M.a00 e4
  obtain⟨dk,hk1,hk2⟩:=Option.bind_eq_some_iff.mp hk
  obtain⟨s,rfl,hs⟩:=d70 hk1
  obtain⟨o,hv,e6⟩:=M.a00 e5
  cases e6
  refine⟨zA,ρ,z,.ok [s] z1,rw.y00,st,?_,λvs H1 x1 st1 rvs=>?_⟩
  ·show M.bind (ev G.F e ρ) _ z=_
   simp only[M.bind,e3,M.of,one,M.ret,ev]
  obtain⟨u,rfl,ru⟩:=j51 rvs
  have hu:u=.int k:=by
   have:=X70 ru hs
   cases dk <;> first | (cases hk2;exact this.g60) | (cases hk2;done)
  subst hu
  unfold f31 at hv
  split at hv
  ·rename_i hb
   have hkk:=u60.mp hb.2.2.1
   obtain⟨y,hy1,hv⟩:=Option.bind_eq_some_iff.mp hv
   split at hv
   ·rename_i hby
    cases hv
    have r1:=rw.mono x1
    have m4':HdA X.K (hw ow (hz zA H1)) ys ws:=m4.same (b90 x1)
    have k4':HdA X.K (hw ow (hz zA H1)) xs us:=k4.same (b90 x1)
    obtain⟨yv,g1,g2⟩:=m4'.get hy1
    have hlt:k.toNat < ws.length:=(List.getElem?_eq_some_iff.mp g1).1
    have hab:a≠b:=λq=>hb.1 (rw.inj i j a k2 (by rw[q];exact m2))
    refine⟨b,ws,k,k.toNat,yv,rfl,rfl,x1.at m3 (rw.zne j b m2),by omega,by omega,?_,g1,?_⟩
    ·have h0:(0:Int)≤k:=hb.2.1
     exact seqIndex_of h0 (by omega)
    ·have r2:=r1.upd m2 (m4'.eraseIdx k.toNat)
     have sm2:=C80 (H:=H1) (zA:=zA) (o:=.lst (ws.eraseIdx k.toNat)) m2
     refine⟨a,us,yv,rfl,rfl,?_,?_,?_⟩
     ·rw[a20 hab];exact x1.at k3 (rw.zne i a k2)
     ·exact Nat.lt_of_lt_of_le (by rw[k4.length];exact hb.2.2.2) (d80 (Nat.le_refl _))
     ·exact po zA ow σ _ (r2.upd k2 ((k4'.same sm2).append (.cons (g2.same sm2) .nil))) ((st1.a20 (rw.zne j b m2) (x1.at m3 (rw.zne j b m2))).a20 (rw.zne i a k2) (by rw[a20 hab];exact x1.at k3 (rw.zne i a k2))) (a10.trans (b90 x1) (a10.trans sm2 (C80 k2)))
   ·cases hv
  ·cases hv
 ·subst e4
  refine⟨zA,ρ,z,.er c z1,rw.y00,st,?_,po.er_ rw⟩
  show M.bind (ev G.F e ρ) _ z=_
  simp only[M.bind,e3]
theorem X11(x:XS lm X G E N sc cn){i j:Nat}{n m:Str}{e:Ex}{v:Expr}{p p' apos cpos apos' cpos' pos:Pos}(h1:N[i]?=some n)(h2:b30 n=true)(h3:N[j]?=some m)(h4:b30 m=true)(ns:noStar v=true)(g:b00 X G E e v)(hl:(apos.endLine == cpos.line)=true)(hl':(apos'.endLine == cpos'.line)=true) :
  PS X (.Expr (.Call (.Attribute (.Name n p) "append" apos) [.Call (.Attribute (.Name m p') "pop" apos') [v] [] cpos'] [] cpos) pos) (tX X.K G E H0 zE (.apop i j e)):=by
 unfold b30 at h2 h4
 simp only[and_eq_true,not_eq_true'] at h2 h4
 have ga:Good X G E (.cons e .nil) [v]:=⟨v,[],rfl,ns,g,rfl,rfl⟩
 have hs:=c40 ns [] X.env
 refine PS.imp (z30 (q71 PySem.F.plainAttrs_list PySem.F.slot_list_append PySem.F.type_list_append t60 (h00 (i:=i) (by rw[x.hN];exact h1) (x.vis n (mem_of_getElem? h1)) h2.1 h2.2)
  (d20 (q71 PySem.F.plainAttrs_list PySem.F.slot_list_pop PySem.F.type_list_pop q91 (h00 (i:=j) (by rw[x.hN];exact h3) (x.vis m (mem_of_getElem? h3)) h4.1 h4.2) (ga.args rfl).1 rfl (by rw[hs];rfl) hl' hs rfl) j80) rfl rfl hl rfl rfl) (l90 rfl none)) λD σ H q=>?_
 obtain⟨zA,ow,ρ,z,rr,rw,st,ee,po⟩:=q
 exact I21 rw st ee po
end
def v91(F:FT)(tp:Bool)(all:List (List Nat × Ex))(e:Ex)(t r:Sm)(ρ:Env):M O:=λz=>match k00 F ρ all z with
 |none=>none
 |some (cs,z1)=>M.bind (ev F e ρ) (λl=>M.bind (M.of (pl l)) λd=>M.bind (M.of (p90 .ne (.lst (cs.map p11)) d)) λb=>M.bind (if b then ex F tp t ρ else M.ret (.nx ρ)) λo=>match o with
  |.nx ρ=>ex F tp r ρ
  |.rt s=>M.ret (.rt s)) z1
section
variable {K:PySem.W.Frag}{H0 H H':Hp}{zE zA:Option Addr}{ow:Nat→Option Addr}{ρ:Env}{σ:L2.St}
theorem RW.v02(r:RW K H0 zE zA ow H ρ σ){i:Nat}{v:V}:RW K H0 zE zA (ow0 ow i) H (ρ.set i none) (σ.set i (some v)):=by
 have sub:∀ j a,ow0 ow i j=some a→j≠i∧ow j=some a:=λj a e=>by
  unfold ow0 at e
  split at e
  ·cases e
  ·rename_i n;exact⟨n,e⟩
 refine⟨by rw[length_set,length_set];exact r.len,λj k a h1 h2=>r.inj j k a (sub j a h1).2 (sub k a h2).2,λj a h1=>r.zne j a (sub j a h1).2,λj a h1=>?_,λj s e=>?_,r.ext,r.zok,λj a h1=>r.new j a (sub j a h1).2⟩
 ·obtain⟨n,h2⟩:=sub j a h1
  obtain⟨xs,h3⟩:=r.own j a h2
  exact⟨xs,by rw[List.getElem?_set_ne (Ne.symm n)];exact h3⟩
 ·rcases getElem?_set' e with ⟨rfl,e1,hlt⟩ | ⟨n,e1⟩
  ·cases e1
  ·obtain⟨w,h1,h2⟩:=r.wor j s e1
   exact⟨w,by rw[List.getElem?_set_ne (Ne.symm n)];exact h1,h2.move (by unfold ow0;exact if_neg n) (l80 _ _) λ_ _=>rfl⟩
end
section
variable {lm:Bool}{X:Cx}{G:Gs}{E:XK}{N:List Str}{sc:Scope}{cn:List Str}{H0:Hp}{zE:Option Addr}{c P:Addr}{q:Str}{k:Nat}{fR:Addr}{fdR:FuncData}
def LB(X:Cx)(G:Gs)(N:List Str)(sc:Scope)(H0:Hp)(zE:Option Addr)(q:Str)(i:Nat)(done all:List (List Nat × Ex))(e:Ex)(t r:Sm)(B:Hp)(rr:R O)(σ:L2.St)(H:Hp):Prop:=∃ zA ow ρ z Ld ts Hb,RW X.K H0 zE zA ow Hb ρ σ∧Hb Ld=none∧Ext zA Hb H∧a10 B (hw ow (hz zA Hb))∧c30 zA z H∧σ[i]?=some (some (.ref Ld))∧H Ld=some (.lst (ts.map λt=>.ref t.f))∧zA≠some Ld∧Paired (i61 X G N sc q H) ts done∧v91 G.F zE.isNone all e t r ρ z=some rr
theorem S60{H:Hp}{t:LT}{Ld:Addr}{ys:List V}{o:HO}(h:t41 X q H t)(hL:H Ld=some (.lst ys)):t41 X q (upd H Ld o) t :=
 ⟨h.form,by rw[a20 (λz=>by have:=h.fn;rw[z,hL] at this;cases this)];exact h.fn,by rw[a20 (λz=>by have:=h.rc;rw[z,hL] at this;cases this)];exact h.rc,h.cl1,h.cl2⟩
theorem I31{zA:Option Addr}{Hb H:Hp}{Ld:Addr}{o:HO}(x:Ext zA Hb H)(n:Hb Ld=none):Ext zA Hb (upd H Ld o):=by
 refine⟨λb u e=>?_,λb ps e=>?_⟩
 ·obtain⟨e1,e2⟩:=j60 e
  have ne:b≠Ld:=a60 e1 n
  refine c80 ?_ e2 (k20 e)
  rw[a20 ne]
  exact(j60 (x.same b u e)).1
 ·obtain⟨qs,h⟩:=x.tbl b ps e
  exact⟨qs,by rw[a20 (a60 e n)];exact h⟩
theorem X21(L:H20 X G sc c P q k fR fdR){capt:List Nat}{lsc:Scope}(hs:H40 lsc sc (a90 N capt)=true):LTf X lsc ((a90 N capt).map (·.1)):=by
 unfold H40 at hs
 simp only[and_eq_true,not_eq_true',beq_iff_eq,all_eq_true,decide_eq_true_eq] at hs
 obtain⟨⟨⟨⟨⟨⟨s1,s2⟩,s3⟩,s4⟩,s5⟩,s6⟩,s7⟩:=hs
 refine⟨λy hy hf=>?_,λy hy=>by simpa using s4 y hy,λy hy=>?_,s1,s2,s3⟩
 ·have:=s5 y hy
  rw[hf] at this
  unfold Env.kindOf
  rw[L.sco]
  simpa using this
 ·obtain⟨pr,h1,rfl⟩:=List.mem_map.mp hy
  exact s6 pr h1
theorem j61{H H':Hp}{t:LT}(h:t41 X q H t){zA:Option Addr}(x:Ext zA H H')(nz:∀ {a:Addr}{p:Heap→Prop},H a=some (.ext p)→zA≠some a):t41 X q H' t:=⟨h.form,x.at h.fn (nz h.fn),x.at h.rc (nz h.rc),h.cl1,h.cl2⟩
theorem A81{zA:Option Addr}{z:Z}{H:Hp}(st:c30 zA z H){a:Addr}{p:Heap→Prop}(h:H a=some (.ext p)):zA≠some a:=λe=>by
 subst e
 have:=st.zat
 cases z with
 |none=>exact this.elim
 |some pr =>
  have h':H a=some (.lst [.int pr.1,.bl pr.2]):=this
  rw[h] at h';cases h'
theorem S70(L:H20 X G sc c P q k fR fdR){capt:List Nat}{a:Ex}{lsc:Scope}{body:Expr}{lpos:Pos}(f:W61 G N sc capt a lsc body):PE X (.Lambda noArgs body lsc lpos) (λσ H Q=>∃ zA z,c30 zA z H∧∀ t H2,t.lsc=lsc→t.body=body→i61 X G N sc q H2 t (capt,a)→Ext zA H H2→c30 zA z H2→H t.f=none→Q (.ref t.f) H2):=by
 have fm:=X21 (N:=N) L f.hs
 refine PE.imp (R01 (lpos:=lpos) L.code L.hd L.qual rfl L.bm fm.hfr) λσ H Q qq=>?_
 obtain⟨zA,z,st,po⟩:=qq
 have tab:=st.tab _ L.tb
 refine⟨tab,λcl fa c' pm ctv H2 h1 h2 t2 kb nf e1 e2=>?_⟩
 exact po ⟨fa,c',cl,pm,ctv,lsc,body,(a90 N capt).map (·.1)⟩ H2 rfl rfl ⟨⟨fm,e1,e2,h1,h2⟩,rfl,f⟩ (S30 kb tab t2) (i11 kb tab t2 L.uq st) nf
theorem S80{α β:Type}{R:α→β→Prop}{x:α}{y:β}(r:R x y):∀ {xs:List α}{ys:List β},Paired R xs ys→Paired R (xs++[x]) (ys++[y])
 |_,_,.nil=>.cons r .nil
 |_,_,.cons h t=>.cons h (S80 r t)
theorem X31{zA:Option Addr}{z:Z}{H H':Hp}(st:c30 zA z H)(x:Ext zA H H'){ts:List LT}{ls:List (List Nat × Ex)}(h:Paired (i61 X G N sc q H) ts ls):Paired (i61 X G N sc q H') ts ls:=Paired.x81 h λ_ _ ⟨a,b,d⟩=>⟨j61 a x λh=>A81 st h,b,d⟩
theorem X41(x:XS lm X G E N sc cn)(L:H20 X G sc c P q k fR fdR){i:Nat}{y:Str}{capt:List Nat}{a:Ex}{lsc:Scope}{body:Expr}{lpos lp p pos:Pos}(hi:N[i]?=some y)(hy:C90 sc y=true)(f:W61 G N sc capt a lsc body){all:List (List Nat × Ex)}{e:Ex}{t r:Sm} :
  PS X (.Assign [.Name y p] (.List [.Lambda noArgs body lsc lpos] lp) pos) (λD σ H=>∃ zA ow ρ z rr,RW X.K H0 zE zA ow H ρ σ∧c30 zA z H∧i < ρ.length∧v91 G.F zE.isNone all e t r (ρ.set i none) z=some rr∧∀ σ' H',LB X G N sc H0 zE q i [(capt,a)] all e t r (hw ow (hz zA H)) rr σ' H'→D.nx σ' H'):=by
 have Lc:=x.loc
 refine PS.imp (n60 (by rw[x.hN];exact x.nd) (by rw[x.hN];exact hi) (Lc.lc y hy) (a81 (d20 (S70 L f) j80)) rfl (Lc.fn y hy)) λD σ H qq=>?_
 obtain⟨zA,ow,ρ,z,rr,rw,st,il,run,po⟩:=qq
 refine⟨zA,z,st,λt H2 _ _ lt xx st2 nf=>⟨by show 1≤sizeLine;decide,λp hp=>?_⟩⟩
 have hil:i < σ.length:=by rw[← rw.len];exact il
 exact po _ _ ⟨zA,_,_,z,p,[t],H2,(rw.mono xx).v02 (v:=.ref p),hp,Ext.of (a10.new _ hp),a10.trans (b90 xx) (l80 _ _),st2.same (a10.new _ hp),List.getElem?_set_self hil,a80,st2.R00 hp,.cons ⟨j61 lt.1 (Ext.of (a10.new _ hp)) λh=>A81 st2 h,lt.2⟩ .nil,run⟩
theorem X51(x:XS lm X G E N sc cn)(L:H20 X G sc c P q k fR fdR){i:Nat}{y:Str}{capt:List Nat}{a:Ex}{lsc:Scope}{body:Expr}{lpos p apos cpos pos:Pos}(hi:N[i]?=some y)(h2:b30 y=true)(hl:(apos.endLine == cpos.line)=true)(f:W61 G N sc capt a lsc body){done all:List (List Nat × Ex)}{e:Ex}{t r:Sm}(hd:done.length < 1000) :
  PS X (.Expr (.Call (.Attribute (.Name y p) "append" apos) [.Lambda noArgs body lsc lpos] [] cpos) pos) (λD σ H=>∃ B rr,LB X G N sc H0 zE q i done all e t r B rr σ H∧∀ σ' H',LB X G N sc H0 zE q i (done++[(capt,a)]) all e t r B rr σ' H'→D.nx σ' H'):=by
 unfold b30 at h2
 simp only[and_eq_true,not_eq_true'] at h2
 refine PS.imp (z30 (q71 PySem.F.plainAttrs_list PySem.F.slot_list_append PySem.F.type_list_append t60 (h00 (i:=i) (by rw[x.hN];exact hi) (x.vis y (mem_of_getElem? hi)) h2.1 h2.2) (d20 (S70 L f) j80) rfl rfl hl rfl rfl) (l90 rfl none)) λD σ H qq=>?_
 obtain⟨B,rr,⟨zA,ow,ρ,z,Ld,ts,Hb,rw,nb,xb,sb,st,eL,hL,zL,pr,run⟩,po⟩:=qq
 refine⟨_,eL,.inl ⟨rfl,_,SqL.of hL⟩,zA,z,st,λt H2 _ _ lt xx st2 nf=>?_⟩
 have hL2:=xx.at hL zL
 refine⟨Ld,_,_,rfl,rfl,hL2,?_,?_⟩
 ·rw[length_map,pr.length]
  exact Nat.lt_of_lt_of_le hd (by decide)
 ·refine po _ _ ⟨zA,ow,ρ,z,Ld,ts++[t],Hb,rw,nb,I31 (xb.trans xx) nb,sb,st2.a20 zL hL2,eL,?_,zL,S80 ⟨S60 lt.1 hL2,lt.2⟩ (Paired.x81 (X31 st xx pr) λ_ _ ⟨u,v⟩=>⟨S60 u hL2,v⟩),run⟩
  rw[map_append]
  exact a80
theorem l62(x:XS lm X G E N sc cn)(L:H20 X G sc c P q k fR fdR){i:Nat}{n y:Str}{csc:Scope}{p p2 p3 p4 pos ps cp ip:Pos}{rhs:Expr}{body rest:List Stmt}{all:List (List Nat × Ex)}{e:Ex}{t r:Sm}(hi:N[i]?=some y)(ny:b30 y=true)(nn:b30 n=true)(cc:H61 csc sc N [n] [])(hg:glob csc "_law_refused"=true)(hls:all.length≤1000)(hs:o60 rhs=true)(ge:b00 X G E e rhs)(ht:PSs X body (tX X.K G E H0 zE t))(hr:PSs X rest (tX X.K G E H0 zE r)) :
  PSs X (.If (.Compare (.ListComp (.Call (.Name "_law_refused" p) [.Name n p2] [] pos) [⟨.Name n p3,.Name y p4,[],0⟩] csc ps) [.NotEq] [rhs] cp) body [] ip::rest) (λD σ H=>∃ B rr,LB X G N sc H0 zE q i all all e t r B rr σ H∧j70 X.K G E H0 zE B D rr):=by
 refine PSs.imp (d40 (C01 (a41 (G31 x.room.units .ne) (H71 x.toXI L hi ny nn cc hg hls) ge.pe (R40 hs _)) ht K20) hr) λD σ H qq=>?_
 obtain⟨B,rr,⟨zA,ow,ρ,z,Ld,ts,Hb,rw,nb,xb,sb,st,eL,hL,zL,pr,run⟩,po⟩:=qq
 unfold v91 at run
 split at run
 ·cases run
 ·rename_i cs z1 hlv
  refine⟨zA,ρ,z,cs,z1,Ld,ts,(rw.mono xb).y00,st,hlv,eL,hL,zL,pr,λv H1 x1 st1 rv=>?_⟩
  have rw1:=rw.mono (xb.trans x1)
  refine g80 rw1.y00 st1 run ((po.mono (a10.trans sb (b90 (xb.trans x1).same))).ers rw1) λl z2 e1=>?_
  obtain⟨d,hd,e2⟩:=M.a00 e1
  obtain⟨s,rfl,hs'⟩:=d70 hd
  refine⟨s,rfl,λw H2 x2 st2 rv2=>?_⟩
  obtain⟨b,hb,e3⟩:=M.a00 e2
  refine⟨zA,z2,.lst (cs.map p11),d,.d (.bl b),st2,(show RvP X.K zA H1 (.fr (cs.map p11)) v from rv.pl).mono x2,X70 rv2 hs',by show map _ (p90 .ne _ d)=_;rw[hb];rfl,λv' H3 sm rv3=>⟨b,Hd.bl_ (show Hd X.K (hz zA H3) (.bl b) v' from rv3),?_⟩⟩
  have x3:=(xb.trans x1).trans (x2.trans (Ext.of sm))
  have rw3:=rw.mono x3
  have st3:=st2.same sm
  have po3:=po.mono (a10.trans sb (b90 x3.same))
  cases b with
  |true =>
   show tX X.K G E H0 zE t _ σ H3
   rcases M.bind_some e3 with ⟨o,z4,e4,e5⟩ | ⟨c,z4,e4,e5⟩
   ·refine⟨zA,ow,ρ,z2,_,rw3,st3,e4,?_⟩
    cases o with
    |nx ρ1=>exact λzA' ow' σ' H' rw' st' sm'=>⟨zA',ow',ρ1,z4,rr,rw',st',e5,po3.mono sm'⟩
    |rt s=>cases e5;exact po3
   ·subst e5
    exact⟨zA,ow,ρ,z2,_,rw3,st3,e4,po3⟩
  |false=>exact⟨zA,ow,ρ,z2,rr,rw3,st3,e3,po3⟩
def X61:(ss:List Stmt)→Option {u:Str × Pos × Expr × Scope × Pos × Pos × Pos × List Stmt // ss=.Assign [.Name u.1 u.2.1] (.List [.Lambda ⟨[],[],none,[],[],none,[]⟩ u.2.2.1 u.2.2.2.1 u.2.2.2.2.1] u.2.2.2.2.2.1) u.2.2.2.2.2.2.1::u.2.2.2.2.2.2.2}
 |.Assign [.Name y p] (.List [.Lambda ⟨[],[],none,[],[],none,[]⟩ b l lp] q) pos::rest=>some ⟨(y,p,b,l,lp,q,pos,rest),rfl⟩
 |_=>none
def X71:(ss:List Stmt)→Option {u:Str × Pos × Str × Pos × Expr × Scope × Pos × Pos × Pos × List Stmt // ss=.Expr (.Call (.Attribute (.Name u.1 u.2.1) u.2.2.1 u.2.2.2.1) [.Lambda ⟨[],[],none,[],[],none,[]⟩ u.2.2.2.2.1 u.2.2.2.2.2.1 u.2.2.2.2.2.2.1] [] u.2.2.2.2.2.2.2.1) u.2.2.2.2.2.2.2.2.1::u.2.2.2.2.2.2.2.2.2}
 |.Expr (.Call (.Attribute (.Name y p) at' ap) [.Lambda ⟨[],[],none,[],[],none,[]⟩ b l lp] [] cp) pos::rest=>some ⟨(y,p,at',ap,b,l,lp,cp,pos,rest),rfl⟩
 |_=>none
structure LIf where
 g:Str
 p:Pos
 n:Str
 p2:Pos
 pos:Pos
 n3:Str
 p3:Pos
 y:Str
 p4:Pos
 csc:Scope
 ps:Pos
 rhs:Expr
 cp:Pos
 body:List Stmt
 ip:Pos
 rest:List Stmt
def l72:(ss:List Stmt)→Option {u:LIf // ss=.If (.Compare (.ListComp (.Call (.Name u.g u.p) [.Name u.n u.p2] [] u.pos) [⟨.Name u.n3 u.p3,.Name u.y u.p4,[],0⟩] u.csc u.ps) [.NotEq] [u.rhs] u.cp) u.body [] u.ip::u.rest}
 |.If (.Compare (.ListComp (.Call (.Name g p) [.Name n p2] [] pos) [⟨.Name n3 p3,.Name y p4,[],0⟩] csc ps) [.NotEq] [rhs] cp) body [] ip::rest=>some ⟨⟨g,p,n,p2,pos,n3,p3,y,p4,csc,ps,rhs,cp,body,ip,rest⟩,rfl⟩
 |_=>none
def c72(fns:List (Str × List Str))(nums:List (Str × Int))(sc:Scope)(N:List Str)(u:List Nat × Ex)(lsc:Scope)(body:Expr):Bool:=(a90 N u.1).length == u.1.length&&H40 lsc sc (a90 N u.1)&&!isL u.2&&mt false fns nums u.2 lsc ((a90 N u.1).map (·.1)) [body]
theorem j71{u:List Nat × Ex}{lsc:Scope}{body:Expr}(h:c72 G.fns G.nums sc N u lsc body=true):W61 G N sc u.1 u.2 lsc body:=by
 unfold c72 at h
 simp only[and_eq_true,beq_iff_eq] at h
 obtain⟨⟨⟨h1,h2⟩,h3⟩,h4⟩:=h
 exact⟨h1,h2,b20 h3,λk {X E} xl=>sound (lowG G k) u.2 xl h4⟩
def w01(fns:List (Str × List Str))(nums:List (Str × Int))(sc:Scope)(N:List Str)(i:Nat):List (List Nat × Ex)→List Stmt→Option (List Stmt)
 |[],ss=>some ss
 |u::r,ss=>match X71 ss with
  |none=>none
  |some v=>if v.1.2.2.1 == ("append":Str)&&N[i]? == some v.1.1&&b30 v.1.1&&v.1.2.2.2.1.endLine == v.1.2.2.2.2.2.2.2.1.line&&c72 fns nums sc N u v.1.2.2.2.2.2.1 v.1.2.2.2.2.1 then w01 fns nums sc N i r v.1.2.2.2.2.2.2.2.2.2 else none
def tLB(X:Cx)(G:Gs)(E:XK)(N:List Str)(sc:Scope)(H0:Hp)(zE:Option Addr)(q:Str)(i:Nat)(done all:List (List Nat × Ex))(e:Ex)(t r:Sm):TS:=λD σ H=>∃ B rr,LB X G N sc H0 zE q i done all e t r B rr σ H∧j70 X.K G E H0 zE B D rr
theorem X81(x:XS lm X G E N sc cn)(L:H20 X G sc c P q k fR fdR){i:Nat}{all:List (List Nat × Ex)}{e:Ex}{t r:Sm}{rest:List Stmt}:∀ (us done:List (List Nat × Ex)) (ss:List Stmt),w01 G.fns G.nums sc N i us ss=some rest→done.length + us.length≤1000→PSs X rest (tLB X G E N sc H0 zE q i (done++us) all e t r)→PSs X ss (tLB X G E N sc H0 zE q i done all e t r)
 |[],done,ss,h,_,hr=>by
  cases h
  rw[append_nil] at hr
  exact hr
 |u::us,done,ss,h,hl,hr=>by
  unfold w01 at h
  split at h
  ·cases h
  ·rename_i v hv
   split at h
   ·rename_i hb
    simp only[and_eq_true,beq_iff_eq] at hb
    obtain⟨⟨⟨⟨b1,b2⟩,b3⟩,b4⟩,b5⟩:=hb
    obtain⟨⟨y,p,at',ap,b,l,lp,cp,pos,rest'⟩,rfl⟩:=v
    have b1:at'="append":=b1
    subst b1
    rw[length_cons] at hl
    have ih:=X81 x L us (done++[u]) rest' h (by rw[length_append];show done.length + 1 + us.length≤1000;omega) (by rw[append_assoc];exact hr)
    refine PSs.imp (d40 (X51 (done:=done) (H0:=H0) (zE:=zE) (all:=all) (e:=e) (t:=t) (r:=r) x L b2 b3 (by rw[beq_iff_eq];exact b4) (j71 b5) (by omega)) ih) λD σ H qq=>?_
    obtain⟨B,rr,lb,po⟩:=qq
    exact⟨B,rr,lb,λσ' H' lb'=>⟨B,rr,lb',po⟩⟩
   ·cases h
def I41(lm:Bool)(fns:List (Str × List Str))(nums:List (Str × Int))(sc:Scope)(N:List Str)(i:Nat)(ls:List (List Nat × Ex))(e:Ex)(ss:List Stmt):Option LIf:=match ls with
 |[]=>none
 |u::us=>match X61 ss with
  |none=>none
  |some v=>if lm&&N[i]? == some v.1.1&&C90 sc v.1.1&&b30 v.1.1&&decide (us.length < 900)&&c72 fns nums sc N u v.1.2.2.2.1 v.1.2.2.1 then match w01 fns nums sc N i us v.1.2.2.2.2.2.2.2 with
   |none=>none
   |some rest=>match l72 rest with
    |none=>none
    |some w=>if w.1.g == ("_law_refused":Str)&&N[i]? == some w.1.y&&b30 w.1.n&&w.1.n == w.1.n3&&H30 w.1.csc sc N [w.1.n] []&&glob w.1.csc "_law_refused"&&o60 w.1.rhs&&!isL e&&mt lm fns nums e sc N [w.1.rhs] then some w.1 else none
   else none
theorem X91(x:XS lm X G E N sc cn){i:Nat}{ls:List (List Nat × Ex)}{e:Ex}{t r:Sm}{ss:List Stmt}{w:LIf}(h:I41 lm G.fns G.nums sc N i ls e ss=some w)(ht:PSs X w.body (tX X.K G E H0 zE t))(hr:PSs X w.rest (tX X.K G E H0 zE r)):PSs X ss (tX X.K G E H0 zE (.lams i ls e t r)):=by
 unfold I41 at h
 split at h
 ·cases h
 ·rename_i u us
  split at h
  ·cases h
  ·rename_i v hv
   split at h
   ·rename_i hb
    simp only[and_eq_true,beq_iff_eq,decide_eq_true_eq] at hb
    obtain⟨⟨⟨⟨⟨b1,b2⟩,b3⟩,b4⟩,b5⟩,b6⟩:=hb
    split at h
    ·cases h
    ·rename_i rest hrest
     split at h
     ·cases h
     ·rename_i w' hw'
      split at h
      ·rename_i hc
       cases h
       simp only[and_eq_true,beq_iff_eq] at hc
       obtain⟨⟨⟨⟨⟨⟨⟨⟨c1,c2⟩,c3⟩,c4⟩,c5⟩,c6⟩,c7⟩,c8⟩,c9⟩:=hc
       obtain⟨c,P,q,k,fR,fdR,L⟩:=x.lam b1
       obtain⟨⟨y,p,b,l,lp,lq,pos,rest1⟩,rfl⟩:=v
       obtain⟨⟨g,wp,n,p2,wpos,n3,p3,y2,p4,csc,ps,rhs,cp,body,ip,rest2⟩,rfl⟩:=w'
       replace c1:g="_law_refused":=c1
       replace c4:n3=n:=Eq.symm c4
       replace c2:N[i]?=some y2:=c2
       replace b2:N[i]?=some y:=b2
       clear hw' hv
       subst c1
       subst c4
       rw[b2] at c2;cases c2
       have last:=l62 (H0:=H0) (zE:=zE) (all:=u::us) (p:=wp) (p2:=p2) (p3:=p3) (p4:=p4) (pos:=wpos) (ps:=ps) (cp:=cp) (ip:=ip) x L b2 b4 c3 (W41 c5) c6 (by rw[length_cons];omega) c7 (a70 (b20 c8) (sound G e x.toXI c9)) ht hr
       have mid:=X81 (all:=u::us) (e:=e) (t:=t) (r:=r) (H0:=H0) (zE:=zE) x L us [u] rest1 hrest (by rw[List.length_singleton];omega) last
       refine PSs.imp (d40 (X41 (H0:=H0) (zE:=zE) (all:=u::us) (e:=e) (t:=t) (r:=r) x L b2 b3 (j71 b6)) mid) λD σ H qq=>?_
       obtain⟨zA,ow,ρ,z,rr,rw,st,ee,po⟩:=qq
       have e0:(if i < ρ.length then v91 G.F zE.isNone (u::us) e t r (ρ.set i none) else M.no) z=some rr:=ee
       split at e0
       ·rename_i il
        exact⟨zA,ow,ρ,z,rr,rw,st,il,e0,λσ' H' lb=>⟨_,rr,lb,po⟩⟩
       ·cases e0
      ·cases h
   ·cases h
end
section
variable {lm:Bool}{X:Cx}{G:Gs}{E:XK}{N:List Str}{sc:Scope}{cn:List Str}{H0:Hp}{zE:Option Addr}
def l82(K:PySem.W.Frag)(i:Nat):TI:=λσ H R=>∃ a,σ[i]?=some (some (.ref a))∧((∃ ys,SqT K H a ys)∧R (Itt K a) H∨(∃ ys,SqL K H a ys)∧R (Itl K a) H)
theorem Y01(x:XI lm X G E N sc){tg:Expr}{i:Nat}{n:Str}{pos:Pos}(h1:N[i]?=some n)(h2:b30 n=true):PI X tg (.Name n pos) (l82 X.K i):=by
 unfold b30 at h2
 simp only[and_eq_true,not_eq_true'] at h2
 have hv:PE X (.Name n pos) (L61 i):=h00 (i:=i) (by rw[x.hN];exact h1) (x.vis n (mem_of_getElem? h1)) h2.1 h2.2
 intro pins s σ H R I q
 obtain⟨a,k,q | q⟩:=q
 ·exact y21 hv pins s σ H R I ⟨_,k,a,rfl,q.1,q.2⟩
 ·exact z50 hv pins s σ H R I ⟨_,k,a,rfl,q.1,q.2⟩
def fBody(F:FT)(tp:Bool)(p:Pat)(b:Sm):D→Env→M O:=λx ρ=>M.bind (M.of (e50 p x ρ)) λρ=>ex F tp b ρ
theorem w10:∀ {l:List D}{d:D},n10 l=true→d∈l→bare d=true
 |x::r,d,h,hd=>by
  simp only[n10,and_eq_true] at h
  rcases List.mem_cons.mp hd with rfl | hd
  ·exact h.1
  ·exact w10 h.2 hd
theorem S90{p:Pat}{b:Sm}{J:L2.It}{xs:List D}{B:Hp}{D:Ends}{σ:L2.St}{H:Hp}{zA:Option Addr}{ow:Nat→Option Addr}{ρ:Env}{z:Z}{rr:R O}(IT:ItB X.K J xs B)
  (rw:RW X.K H0 zE zA ow H ρ σ) (st:c30 zA z H) (sm:a10 B (hw ow (hz zA H))) (ee:K10 (fBody G.F zE.isNone p b) xs ρ z=some rr) (po:j70 X.K G E H0 zE (hw ow (hz zA H)) D rr) :
  ∃ W:Nat→Nat→L2.St→Hp→Prop,(∃ m,W 0 m σ H)∧∀ i m σ H,W i m σ H →
   (J.stop i H∧D.nx σ H)∨(J.go i H∧∃ Nn:L2.St→Hp→Prop,(∀ σ' H',Nn σ' H'→∃ m',m' < m∧W (i + 1) m' σ' H')∧∀ x H',J.yld i H x H'→gP X.K p x σ H' λσ2 H2=>tX X.K G E H0 zE b { D with nx:=Nn,ct:=Nn,bk:=D.nx } σ2 H2):=by
 refine⟨λi m σ H=>m=xs.length - i∧i≤xs.length∧∃ zA ow ρ z r,RW X.K H0 zE zA ow H ρ σ∧c30 zA z H∧a10 B (hw ow (hz zA H))∧K10 (fBody G.F zE.isNone p b) (xs.drop i) ρ z=some r∧j70 X.K G E H0 zE (hw ow (hz zA H)) D r,
  ⟨xs.length,by simp,zero_le _,zA,ow,ρ,z,rr,rw,st,sm,by simpa using ee,po⟩,?_⟩
 rintro i m σ H ⟨rfl,hi,zA,ow,ρ,z,rr,rw,st,sm,ee,po⟩
 have sH:a10 B H:=a10.trans sm (a10.trans h60 (a30 zA H))
 by_cases hlt:i < xs.length
 ·refine .inr ⟨IT.go i H sH hlt,λσ' H'=>∃ zA ow ρ z r,RW X.K H0 zE zA ow H' ρ σ'∧c30 zA z H'∧a10 B (hw ow (hz zA H'))∧K10 (fBody G.F zE.isNone p b) (xs.drop (i + 1)) ρ z=some r∧j70 X.K G E H0 zE (hw ow (hz zA H')) D r,
   λσ' H' h=>⟨xs.length - (i + 1),by omega,rfl,hlt,h⟩,λx H' y=>?_⟩
  have hd0:xs[i]?=some xs[i]:=List.getElem?_eq_getElem hlt
  obtain⟨s1,hd⟩:=IT.yld i H x H' zA z _ (a10.trans sm h60) st y hd0
  rw[List.drop_eq_getElem_cons hlt] at ee
  have e0:M.bind (fBody G.F zE.isNone p b xs[i] ρ) (λo=>match o with | .nx ρ=>K10 (fBody G.F zE.isNone p b) (xs.drop (i + 1)) ρ | .rt s=>M.ret (.rt s)) z=some rr:=ee
  have r1:=rw.mono (Ext.of s1)
  have st1:=st.same s1
  have sm1:a10 (hw ow (hz zA H)) (hw ow (hz zA H')):=b90 (h50 s1)
  have hd1:=hd (hw ow (hz zA H')) (a10.trans sm sm1) λ_ _ q=>i81 q r1.A41
  have fin:∀ {ρ1:Env}{o:O}{z1:Z},e50 p xs[i] ρ=some ρ1→ex G.F zE.isNone b ρ1 z=some (.ok o z1)→(match o with | .nx ρ=>K10 (fBody G.F zE.isNone p b) (xs.drop (i + 1)) ρ | .rt s=>M.ret (.rt s)) z1=some rr→gP X.K p x σ H' λσ2 H2=>tX X.K G E H0 zE b { D with nx:=λσ' H'=>∃ zA ow ρ z r,RW X.K H0 zE zA ow H' ρ σ'∧c30 zA z H'∧a10 B (hw ow (hz zA H'))∧K10 (fBody G.F zE.isNone p b) (xs.drop (i + 1)) ρ z=some r∧j70 X.K G E H0 zE (hw ow (hz zA H')) D r,ct:=λσ' H'=>∃ zA ow ρ z r,RW X.K H0 zE zA ow H' ρ σ'∧c30 zA z H'∧a10 B (hw ow (hz zA H'))∧K10 (fBody G.F zE.isNone p b) (xs.drop (i + 1)) ρ z=some r∧j70 X.K G E H0 zE (hw ow (hz zA H')) D r,bk:=D.nx } σ2 H2:=λ{ρ1 o z1} hbp e1 e2=>by
   refine v51 hbp r1 hd1 λow' σ' r2 sm2=>⟨zA,ow',ρ1,z,_,r2,st1,e1,?_⟩
   cases o with
   |nx ρ2=>exact λzA3 ow3 σ3 H3 r3 st3 sm3=>⟨zA3,ow3,ρ2,z1,rr,r3,st3,a10.trans sm (a10.trans sm1 (a10.trans sm2 sm3)),e2,po.mono (a10.trans sm1 (a10.trans sm2 sm3))⟩
   |rt s=>cases e2;exact po
  rcases M.bind_some e0 with ⟨o,z1,e1,e2⟩ | ⟨c,z1,e1,e2⟩
  ·obtain⟨ρ1,hbp,e3⟩:=M.a00 e1
   exact fin hbp e3 e2
  ·subst e2
   obtain⟨ρ1,hbp,e3⟩:=M.a00 e1
   exact v51 hbp r1 hd1 λow' σ' r2 sm2=>⟨zA,ow',ρ1,z,_,r2,st1,e3,po⟩
 ·have e:i=xs.length:=by omega
  subst e
  rw[drop_length] at ee
  cases ee
  exact .inl ⟨IT.stop H sH,po zA ow σ H rw st (a10.refl _)⟩
theorem Y11(x:XS lm X G E N sc cn){p:Pat}{i:Nat}{n:Str}{b:Sm}{tg:Expr}{body:List Stmt}{np pos:Pos}(hp:g90 N (C90 sc) p tg=true)(h1:N[i]?=some n)(h2:b30 n=true)(hb:PSs X body (tX X.K G E H0 zE b)) :
  PS X (.For tg (.Name n np) body [] pos) (tX X.K G E H0 zE (.fr p .seq (.cons (.var i) .nil) b)):=by
 refine PS.imp (y31 x.own x.calm (Y01 x.toXI h1 h2) (g91 x.loc hp) hb (λ_=>rfl)) λD σ H q=>?_
 obtain⟨zA,ow,ρ,z,rr,rw,st,ee,po⟩:=q
 have e0:M.bind (M.bind (match ρ[i]? with | some (some s)=>M.ret [plS s] | _=>M.no) λx=>M.bind (M.of (one x)) λs=>M.bind (ev G.F .nil ρ) λy=>M.ret (s::y)) (λl=>M.bind (M.of ((plA l).bind (itD .seq))) λxs=>K10 (fBody G.F zE.isNone p b) xs (F21 .seq (.cons (.var i) .nil) l ρ)) z=some rr:=ee
 cases hs:ρ[i]? with
 |none=>rw[hs] at e0;cases e0
 |some o =>
  cases o with
  |none=>rw[hs] at e0;cases e0
  |some s =>
   rw[hs] at e0
   have e1:M.bind (M.of ((plA [plS s]).bind (itD .seq))) (λxs=>K10 (fBody G.F zE.isNone p b) xs ((ρ.set i ((ρ[i]?.getD none).map plS)).map (s30 (X10 [plS s])))) z=some rr:=e0
   obtain⟨xs,hx,e2⟩:=M.a00 e1
   have r1:=rw.plain i
   have sm:=l80 (H:=hz zA H) ow i
   have hi:i < ρ.length:=(List.getElem?_eq_some_iff.mp hs).1
   have hsl:(ρ.set i ((ρ[i]?.getD none).map plS))[i]?=some (some (plS s)):=by rw[List.getElem?_set_self hi,hs];rfl
   obtain⟨w,k1,k2⟩:=r1.wor i _ hsl
   obtain⟨ds,h3,h4⟩:=Option.bind_eq_some_iff.mp hx
   obtain⟨d,rfl,h5⟩:=h61 h3
   have hd:Hd X.K (hw (ow0 ow i) (hz zA H)) d w:=by
    cases s with
    |d y=>cases h5;exact k2.2
    |fr ys=>cases h5;exact k2.2
    |z=>cases h5
   obtain⟨ow',r2,sm2⟩:∃ ow',RW X.K H0 zE zA ow' H ((ρ.set i ((ρ[i]?.getD none).map plS)).map (s30 (X10 [plS s]))) σ∧a10 (hw (ow0 ow i) (hz zA H)) (hw ow' (hz zA H)):=by
    rw[Q60]
    cases X10 [plS s] with
    |true=>exact⟨_,r1,a10.refl _⟩
    |false=>exact⟨_,r1.L60,v90 _⟩
   cases d with
   |tup l =>
    cases h4
    obtain⟨a,ys,rfl,m1,m2⟩:=hd.u70
    exact⟨a,k1,.inl ⟨⟨ys,(a30 zA H).sqT (a10.sqT h60 m1)⟩,S90 (h31 m1 m2) r2 st sm2 e2 (po.mono (a10.trans sm sm2))⟩⟩
   |lst l =>
    cases h4
    obtain⟨a,ys,rfl,m1,m2⟩:=hd.Q80
    exact⟨a,k1,.inr ⟨⟨ys,((m1.same h60).same (a30 zA H)).sq⟩,S90 (R90 m1 m2) r2 st sm2 e2 (po.mono (a10.trans sm sm2))⟩⟩
   |_=>cases h4
theorem l92(x:XS lm X G E N sc cn){p:Pat}{it:It}{src:Ex}{b:Sm}{tg iter:Expr}{body:List Stmt}{pos:Pos}(hp:g90 N (C90 sc) p tg=true)(hi:PI X tg iter (tIt X.K G E it src))(hns:o60 iter=true)(hv:F11 it src=none)(hb:PSs X body (tX X.K G E H0 zE b)) :
  PS X (.For tg iter body [] pos) (tX X.K G E H0 zE (.fr p it src b)):=by
 refine PS.imp (y31 x.own x.calm hi (g91 x.loc hp) hb (i41 hns X.env)) λD σ H q=>?_
 obtain⟨zA,ow,ρ,z,rr,rw,st,ee,po⟩:=q
 have e0:M.bind (ev G.F src ρ) (λl=>M.bind (M.of ((plA l).bind (itD it))) λxs=>K10 (fBody G.F zE.isNone p b) xs ((Q70 it src l ρ).map (s30 (X10 l)))) z=some rr:=ee
 rcases M.bind_some e0 with ⟨l,z1,e1,e2⟩ | ⟨c,z1,e1,e2⟩
 ·obtain⟨xs,hx,e3⟩:=M.a00 e2
  refine⟨zA,ρ,z,_,rw.y00,st,e1,xs,hx,λJ H1 x1 st1 IT=>?_⟩
  have r1:=rw.mono x1
  have frz:K10 (fBody G.F zE.isNone p b) xs (L60 ρ) z1=some rr→_:=λe3=>S90 (G:=G) (E:=E) (D:=D) (IT (λ_=>True) (hz zA H1) (a10.refl _) (λ_ _ q=>q) (λ_ _ _ q=>q) (λds hds d hd=>by cases d <;> first | trivial | exact λ_ _=>trivial) λ_ _ q _=>q) r1.L60 st1 (by rw[q20];exact a10.refl _) e3 (po.mono (a10.trans (b90 x1) (v90 ow)))
  rw[Q60] at e3
  have he:Q70 it src l ρ=match X20 l with | true=>L60 ρ | false=>ρ:=by
   unfold Q70;rw[hv] <;> cases X20 l <;> rfl
  have tt:L60 (L60 ρ)=L60 ρ:=by
   unfold L60
   rw[List.map_map]
   refine map_congr_left λo _=>?_
   match o with
   |none=>rfl
   |some (.d _)=>rfl
   |some (.fr _)=>rfl
   |some .z=>rfl
  cases hl:X20 l with
  |true =>
   rw[hl] at he
   rw[he] at e3
   dsimp only at e3
   rw[tt,ite_self] at e3
   exact frz e3
  |false =>
   rw[hl] at he
   rw[he] at e3
   dsimp only at e3
   split at e3
   ·rename_i hbb
    refine S90 (IT (λy=>bare y=true) (hw ow (hz zA H1)) h60 (λa ys q=>i81 q r1.A41) (λd v hd q=>v80 r1.A41 hd q) (λds hds d hd=>?_) λa ys q hor=>?_) r1 st1 (a10.refl _) e3 (po.mono (b90 x1))
    ·have h:=hbb
     unfold X10 at h
     rw[hds] at h
     have:=List.all_eq_true.mp h d hd
     cases d with
     |tup m=>exact λy hy=>w10 this hy
     |lst m=>exact λy hy=>w10 this hy
     |_=>trivial
    ·rcases hor with ⟨hn,hm1⟩ | hm
     ·refine l70.of (g20 (c80 hm1 (st.R00 hn)) λj w=>?_)
      obtain⟨zs,k⟩:=rw.lst j a w
      rw[hn] at k;cases k
     ·rw[hl] at hm;cases hm
   ·exact frz e3
 ·subst e2
  exact⟨zA,ρ,z,_,rw.y00,st,e1,po.er_ rw⟩
end
def isQ:Sm→Bool
 |.nil=>true
 |.seq _ _=>true
 |.lams ..=>true
 |_=>false
def I51:Expr→Bool
 |.IfExp ..=>false
 |_=>true
def v12:Expr→Bool
 |.SetComp ..=>false
 |.DictComp ..=>false
 |_=>true
def mtI(lm:Bool)(fns:List (Str × List Str))(nums:List (Str × Int))(it:It)(src:Ex)(sc:Scope)(N:List Str)(tg iter:Expr):Bool:=match it with
 |.seq=>mt lm fns nums src sc N [iter]
 |.rng1=>opt (L91 iter) λr=>r.1.1 == ("range":Str)&&glob sc r.1.1&&mt lm fns nums src sc N [r.1.2.2.1]
 |.rng2=>opt (M01 iter) λr=>r.1.1 == ("range":Str)&&glob sc r.1.1&&mt lm fns nums src sc N [r.1.2.2.1,r.1.2.2.2.1]
 |.zip=>opt (M01 iter) λr=>r.1.1 == ("zip":Str)&&glob sc r.1.1&&j20 tg&&mt lm fns nums src sc N [r.1.2.2.1,r.1.2.2.2.1]
 |.enum=>opt (L91 iter) λr=>r.1.1 == ("enumerate":Str)&&glob sc r.1.1&&j20 tg&&mt lm fns nums src sc N [r.1.2.2.1]
def v22:(p:Pat)→Option {q:Nat × Nat // p=.tup (.cons (.v q.1) (.cons (.v q.2) .nil))}
 |.tup (.cons (.v i) (.cons (.v j) .nil))=>some ⟨(i,j),rfl⟩
 |_=>none
def v32:(e:Ex)→Option {q:Ex × Ex // e=.tup (.cons q.1 (.cons q.2 .nil))}
 |.tup (.cons a (.cons b .nil))=>some ⟨(a,b),rfl⟩
 |_=>none
def v42:(e:Expr)→Option {q:Expr × Expr × Nat × Pos // e=.Tuple [q.1,q.2.1] q.2.2.1 q.2.2.2}
 |.Tuple [a,b] k p=>some ⟨(a,b,k,p),rfl⟩
 |_=>none
def v52(sc:Scope)(p:Pat)(e:Ex)(tg v:Expr):Bool:=opt (v22 p) λ_=>opt (v32 e) λ_=>opt (p52 tg) λt=>opt (v42 v) λu =>
  !(t.1.1 == t.1.2.2.1)&&sc.names.lookup t.1.1 == some .local&&sc.names.lookup t.1.2.2.1 == some .local&&t.1.2.2.2.1.line == t.1.2.1.line&&noStar u.1.1&&noStar u.1.2.1&&!([u.1.1,u.1.2.1].all (foldedForSure 8))&&!([u.1.1,u.1.2.1].all (constantsAlone 8))
def isNm:Expr→Bool
 |.Name ..=>true
 |_=>false
def setB(sc:Scope)(p:Pat)(e:Ex)(tg v:Expr):Bool :=
 if isNm tg then v12 v else if j20 tg then(if j20 v then(match v with | .Tuple vs _ _=>vs.all (foldedForSure 8) | _=>false) || (match tg with | .Tuple ts _ _=>ts.any (j21 λy=>sc.names.lookup y) | _=>false) || v52 sc p e tg v else true) else false
def w11:(e:List Stmt)→Option {q:Expr × Expr × Pos // e=[.Assign [q.1] q.2.1 q.2.2]}
 |[.Assign [tg] v p]=>some ⟨(tg,v,p),rfl⟩
 |_=>none
def m02:(e:List Stmt)→Option {q:Option Expr × Pos // e=[.Return q.1 q.2]}
 |[.Return v p]=>some ⟨(v,p),rfl⟩
 |_=>none
def v62:(e:List Stmt)→Option {q:Expr × List Stmt × List Stmt × Pos // e=[.If q.1 q.2.1 q.2.2.1 q.2.2.2]}
 |[.If c a b p]=>some ⟨(c,a,b,p),rfl⟩
 |_=>none
def m12:(e:List Stmt)→Option {q:Expr × Expr × List Stmt × Pos // e=[.For q.1 q.2.1 q.2.2.1 [] q.2.2.2]}
 |[.For tg iter body [] p]=>some ⟨(tg,iter,body,p),rfl⟩
 |_=>none
def m22:(e:List Stmt)→Option {q:Expr × List Stmt × Pos // e=[.While q.1 q.2.1 [] q.2.2]}
 |[.While c body [] p]=>some ⟨(c,body,p),rfl⟩
 |_=>none
def Y21:(e:List Stmt)→Option {q:Expr × Pos // e=[.Raise (some q.1) none q.2]}
 |[.Raise (some x) none p]=>some ⟨(x,p),rfl⟩
 |_=>none
def I61:(e:List Stmt)→Option {q:Expr × Pos // e=[.Expr q.1 q.2]}
 |[.Expr v p]=>some ⟨(v,p),rfl⟩
 |_=>none
def m32:(e:Expr)→Option {q:Str × Pos × Str × Nat × Pos × Pos // e=.Call (.Name q.1 q.2.1) [.Constant (.str q.2.2.1) q.2.2.2.1 q.2.2.2.2.1] [] q.2.2.2.2.2}
 |.Call (.Name n p1) [.Constant (.str y) k p2] [] p3=>some ⟨(n,p1,y,k,p2,p3),rfl⟩
 |_=>none
def I71:(e:Expr)→Option {q:Str × Pos × Str × Pos × Expr × Pos // e=.Call (.Attribute (.Name q.1 q.2.1) q.2.2.1 q.2.2.2.1) [q.2.2.2.2.1] [] q.2.2.2.2.2}
 |.Call (.Attribute (.Name n p) a ap) [v] [] cp=>some ⟨(n,p,a,ap,v,cp),rfl⟩
 |_=>none
def v72:(e:Expr)→Option {q:Str × Pos × Nat × Pos × Pos // e=.Subscript (.Name q.1 q.2.1) (.Constant (.int 0) q.2.2.1 q.2.2.2.1) q.2.2.2.2}
 |.Subscript (.Name n p) (.Constant (.int 0) c q1) tp=>some ⟨(n,p,c,q1,tp),rfl⟩
 |_=>none
def m42:(e:Expr)→Option {q:Str × Pos × Expr × Pos // e=.Subscript (.Name q.1 q.2.1) q.2.2.1 q.2.2.2}
 |.Subscript (.Name n p) w tp=>some ⟨(n,p,w,tp),rfl⟩
 |_=>none
def v82:(e:Expr)→Option {q:Str × Pos // e=.Name q.1 q.2}
 |.Name n p=>some ⟨(n,p),rfl⟩
 |_=>none
def w21:Ex→Bool
 |.con .non=>true
 |_=>false
def mtS(lm:Bool)(fns:List (Str × List Str))(nums:List (Str × Int))(cn:List Str)(sc:Scope)(N:List Str):Sm→List Stmt→Bool
 |.nil,ss=>ss.isEmpty
 |.seq s r,ss=>opt ss.head? λst=>!isQ s&&isQ r&&mtS lm fns nums cn sc N s [st]&&mtS lm fns nums cn sc N r ss.tail
 |.lams i ls e t r,ss=>match I41 lm fns nums sc N i ls e ss with
  |some w=>isQ t&&isQ r&&mtS lm fns nums cn sc N t w.body&&mtS lm fns nums cn sc N r w.rest
  |none=>false
 |.set p e,ss=>opt (w11 ss) λq=>!isL e&&g90 N (C90 sc) p q.1.1&&mt lm fns nums e sc N [q.1.2.1]&&setB sc p e q.1.1 q.1.2.1
 |.ret e,ss=>opt (m02 ss) λq=>match q.1.1 with
  |some v=>!isL e&&mt lm fns nums e sc N [v]
  |none=>w21 e
 |.iff c t u,ss=>opt (v62 ss) λq=>!isL c&&I51 q.1.1&&isQ t&&isQ u&&mt lm fns nums c sc N [q.1.1]&&mtS lm fns nums cn sc N t q.1.2.1&&mtS lm fns nums cn sc N u q.1.2.2.1
 |.fr p it src b,ss=>opt (m12 ss) λq=>g90 N (C90 sc) p q.1.1&&isL src&&o60 q.1.2.1&&isQ b&&mtI lm fns nums it src sc N q.1.1 q.1.2.1&&mtS lm fns nums cn sc N b q.1.2.2.1
 |.whl c b,ss=>opt (m22 ss) λq=>!isL c&&I51 q.1.1&&isQ b&&mt lm fns nums c sc N [q.1.1]&&mtS lm fns nums cn sc N b q.1.2.1
 |.rais c,ss=>opt (Y21 ss) λq=>opt (m32 q.1.1) λr=>cn[c]? == some r.1.1&&glob sc r.1.1
 |.exp e,ss=>opt (I61 ss) λq=>H80 q.1.1&&!isL e&&mt lm fns nums e sc N [q.1.1]
 |.app i e,ss=>opt (I61 ss) λq=>opt (I71 q.1.1) λr=>r.1.2.2.1 == ("append":Str)&&N[i]? == some r.1.1&&b30 r.1.1&&noStar r.1.2.2.2.2.1&&!isL e&&r.1.2.2.2.1.endLine == r.1.2.2.2.2.2.line&&mt lm fns nums e sc N [r.1.2.2.2.2.1]
 |.sti i ix e,ss=>opt (w11 ss) λq=>opt (m42 q.1.1) λr=>N[i]? == some r.1.1&&b30 r.1.1&&v40 r.1.2.2.1&&!isL e&&!isL ix&&mt lm fns nums e sc N [q.1.2.1]&&mt lm fns nums ix sc N [r.1.2.2.1]
 |.newz i f as,ss=>opt (w11 ss) λq=>opt (v82 q.1.1) λr=>N[i]? == some r.1.1&&C90 sc r.1.1&&H80 q.1.2.1&&mt lm fns nums (.call f as) sc N [q.1.2.1]
 |.zset i e,ss=>opt (w11 ss) λq=>opt (v72 q.1.1) λr=>N[i]? == some r.1.1&&b30 r.1.1&&!isL e&&mt lm fns nums e sc N [q.1.2.1]
 |.apop i j e,ss=>opt (I61 ss) λq=>opt (I71 q.1.1) λr=>opt (I71 r.1.2.2.2.2.1) λt=>r.1.2.2.1 == ("append":Str)&&t.1.2.2.1 == ("pop":Str)&&N[i]? == some r.1.1&&b30 r.1.1&&N[j]? == some t.1.1&&b30 t.1.1&&noStar t.1.2.2.2.2.1&&!isL e&&r.1.2.2.2.1.endLine == r.1.2.2.2.2.2.line&&t.1.2.2.2.1.endLine == t.1.2.2.2.2.2.line&&mt lm fns nums e sc N [t.1.2.2.2.2.1]
section
variable {lm:Bool}{X:Cx}{G:Gs}{E:XK}{N:List Str}{sc:Scope}{cn:List Str}{H0:Hp}{zE:Option Addr}
theorem m52(x:XI lm X G E N sc){it:It}{src:Ex}{tg iter:Expr}(hL:isL src=true)(h:mtI lm G.fns G.nums it src sc N tg iter=true):PI X tg iter (tIt X.K G E it src):=by
 cases it with
 |seq =>
  obtain⟨a,rfl,ga⟩:=i51 hL (sound G src x h)
  exact A31 ga
 |rng1 =>
  obtain⟨⟨⟨n,_,a,_⟩,rfl⟩,-,h⟩:=a50 h
  simp only[and_eq_true,beq_iff_eq] at h
  exact h71 x h.1.1 h.1.2 hL (sound G src x h.2)
 |rng2 =>
  obtain⟨⟨⟨n,_,a,b,_⟩,rfl⟩,-,h⟩:=a50 h
  simp only[and_eq_true,beq_iff_eq] at h
  exact h81 x h.1.1 h.1.2 hL (sound G src x h.2)
 |zip =>
  obtain⟨⟨⟨n,_,a,b,_⟩,rfl⟩,-,h⟩:=a50 h
  simp only[and_eq_true,beq_iff_eq] at h
  exact i01 x h.1.2 h.1.1.1 h.1.1.2 hL (sound G src x h.2)
 |enum =>
  obtain⟨⟨⟨n,_,a,_⟩,rfl⟩,-,h⟩:=a50 h
  simp only[and_eq_true,beq_iff_eq] at h
  exact S20 x h.1.2 h.1.1.1 h.1.1.2 hL (sound G src x h.2)
theorem T00(h:I51 e=true):∀ t a b p,e≠.IfExp t a b p:=by
 intro t a b p he
 subst he
 cases h
def GS(X:Cx)(G:Gs)(E:XK)(H0:Hp)(zE:Option Addr)(s:Sm)(ss:List Stmt):Prop:=(isQ s=true→PSs X ss (tX X.K G E H0 zE s))∧(isQ s=false→∃ st,ss=[st]∧PS X st (tX X.K G E H0 zE s))
theorem j30{s:Sm}{st:Stmt}(hq:isQ s=false)(h:PS X st (tX X.K G E H0 zE s)):GS X G E H0 zE s [st]:=⟨λk=>(by rw[hq] at k;cases k),λ_=>⟨st,rfl,h⟩⟩
theorem I81{x:XI lm X G E N sc}{e:Ex}{elt:Expr}{gs:List Comprehension}{csc:Scope}{q:Pos}(h:mt lm G.fns G.nums e sc N [.ListComp elt gs csc q]=true)(hL:isL e=false):∃ tg iter ifs,gs=[⟨tg,iter,ifs,0⟩]∧x90 X G E e elt tg iter ifs csc:=by
 cases e with
 |comp own capt p it src cond el =>
  match gs,h with
  |[⟨tg,iter,ifs,0⟩],h=>exact⟨tg,iter,ifs,rfl,H70 (λx _=>sound G src x) (λx _=>sound G cond x) (λx _=>sound G el x) x h⟩
 |nil=>cases hL
 |cons _ _=>cases hL
 |bf f as=>cases f <;> cases h
 |_=>cases h
theorem m62(x:XS lm X G E N sc cn){p:Pat}{e:Ex}{tg v:Expr}{pos:Pos}(h1:(!isL e)=true)(h2:g90 N (C90 sc) p tg=true)(h3:mt lm G.fns G.nums e sc N [v]=true)(h4:setB sc p e tg v=true):PS X (.Assign [tg] v pos) (tX X.K G E H0 zE (.set p e)):=by
 have g:=a70 (b20 h1) (sound G e x.toXI h3)
 unfold setB at h4
 split at h4
 ·rename_i hn
  cases tg with
  |Name y px =>
   cases p with
   |v i =>
    unfold g90 at h2
    rw[and_eq_true,beq_iff_eq] at h2
    refine k92 x h2.1 h2.2 g (λelt gs csc q hv=>?_) (λa b c d hv=>?_) (λa b c d f hv=>?_)
    ·subst hv;exact I81 (x:=x.toXI) h3 (b20 h1)
    ·subst hv;cases h4
    ·subst hv;cases h4
   |tup _=>unfold g90 at h2;cases h2
   |nil=>unfold g90 at h2;cases h2
   |cons _ _=>unfold g90 at h2;cases h2
  |_=>cases hn
 ·split at h4
  ·rename_i ht
   split at h4
   ·rename_i hv
    rw[or_eq_true,or_eq_true] at h4
    rcases h4 with (h4 | h4) | h4
    ·cases tg with
     |Tuple ts k tp =>
      cases v with
      |Tuple vs k' vp=>exact j31 x h2 g rfl (H91 h4)
      |_=>cases hv
     |_=>cases ht
    ·cases tg with
     |Tuple ts k tp =>
      cases v with
      |Tuple vs k' vp =>
       refine j31 x h2 g rfl (I01 ?_)
       have e:X.env.kindOf=λy=>sc.names.lookup y:=by funext y;unfold Env.kindOf;rw[x.sco]
       rw[e];exact h4
      |_=>cases hv
     |_=>cases ht
    ·obtain⟨⟨⟨i,j⟩,rfl⟩,-,h4⟩:=a50 h4
     obtain⟨⟨⟨ea,eb⟩,rfl⟩,-,h4⟩:=a50 h4
     obtain⟨⟨⟨y,px,w,py,kt,tp⟩,rfl⟩,-,h4⟩:=a50 h4
     obtain⟨⟨⟨a,b,kv,vp⟩,rfl⟩,-,h4⟩:=a50 h4
     simp only[and_eq_true,not_eq_true',beq_iff_eq] at h4
     obtain⟨⟨⟨⟨⟨⟨⟨k1,k2⟩,k3⟩,k4⟩,k5⟩,k6⟩,k7⟩,k8⟩:=h4
     unfold g90 at h2
     simp only[X50,g90,and_eq_true,beq_iff_eq] at h2
     obtain⟨⟨_,h21,_⟩,⟨_,h22,_⟩,_⟩:=h2
     have h3':(isL (.cons ea (.cons eb .nil))&&mt lm G.fns G.nums (.cons ea (.cons eb .nil)) sc N [a,b])=true:=h3
     rw[and_eq_true] at h3'
     have ga:Good X G E (.cons ea (.cons eb .nil)) [a,b]:=sound G (.cons ea (.cons eb .nil)) x.toXI h3'.2
     refine l02 x h21 h22 (by simpa using k1) k2 k3 ga (W71 x.bk ?_ ?_ (by simpa using k1) (by rw[k4];exact beq_self_eq_true _) k5 k6 k7 k8)
     ·unfold Env.kindOf;rw[x.sco];exact k2
     ·unfold Env.kindOf;rw[x.sco];exact k3
   ·rename_i hv
    exact j31 x h2 g ht (H81 (by simpa using hv))
  ·cases h4
theorem j81(h:w21 e=true):e=.con .non:=by
 unfold w21 at h
 split at h
 ·rfl
 ·cases h
theorem m72(x:XS lm X G E N sc cn)(h:(match o with | some v=>!isL e&&mt lm G.fns G.nums e sc N [v] | none=>w21 e)=true):PS X (.Return o pos) (tX X.K G E H0 zE (.ret e)):=by
 cases o with
 |some v =>
  have h:(!isL e&&mt lm G.fns G.nums e sc N [v])=true:=h
  rw[and_eq_true] at h
  by_cases hv:∃ i,e=.var i
  ·obtain⟨i,rfl⟩:=hv
   have h2:=h.2
   cases v with
   |Name n p =>
    have h2:(N[i]? == some n&&b30 n)=true:=h2
    rw[and_eq_true,beq_iff_eq] at h2
    exact W81 x h2.1 h2.2
   |_=>cases h2
  ·exact l12 (λi hi=>hv ⟨i,hi⟩) (a70 (b20 h.1) (sound G e x.toXI h.2))
 |none =>
  have he:=j81 h
  subst he
  refine PS.imp B91 λD σ H q=>?_
  obtain⟨zA,ow,ρ,z,rr,rw,st,ee,po⟩:=q
  cases ee
  exact po .non H (λk=>nomatch k) rw.ext (M11 rw.zok st) (show Hd X.K (hz zE H) .non .non from Hd.non)
theorem v92(x:XS lm X G E N sc cn){p:Pat}{it:It}{src:Ex}{b:Sm}{tg iter:Expr}{body:List Stmt}{pos:Pos}(h1:g90 N (C90 sc) p tg=true)(h2:isL src=true)(h3:o60 iter=true)(h5:mtI lm G.fns G.nums it src sc N tg iter=true)(hb:PSs X body (tX X.K G E H0 zE b)) :
  PS X (.For tg iter body [] pos) (tX X.K G E H0 zE (.fr p it src b)):=by
 cases hv:F11 it src with
 |some q =>
  obtain⟨i,rfl,rfl⟩:=q
  have h5':(noStar iter&&!isL (.var i)&&isL .nil&&mt lm G.fns G.nums (.var i) sc N [iter]&&mt lm G.fns G.nums .nil sc N [])=true:=h5
  simp only[and_eq_true] at h5'
  have h7:=h5'.1.2
  cases iter with
  |Name n np =>
   have h7:(N[i]? == some n&&b30 n)=true:=h7
   rw[and_eq_true,beq_iff_eq] at h7
   exact Y11 x h1 h7.1 h7.2 hb
  |_=>cases h7
 |none=>exact l92 x h1 (m52 x.toXI h2 h5) h3 hv hb
theorem Y31(x:XS lm X G E N sc cn):∀ (s:Sm) {ss:List Stmt},mtS lm G.fns G.nums cn sc N s ss=true→GS X G E H0 zE s ss:=by
 intro s
 induction s with
 |nil =>
  intro ss h
  have:ss=[]:=List.isEmpty_iff.mp h
  subst this
  exact⟨λ_=>k72,λk=>by cases k⟩
 |seq s r ihs ihr =>
  intro ss h
  obtain⟨st,h0,h⟩:=a50 h
  cases ss with
  |nil=>cases h0
  |cons st' rest =>
   cases h0
   simp only[and_eq_true,not_eq_true',List.tail_cons] at h
   obtain⟨⟨⟨h1,h2⟩,h3⟩,h4⟩:=h
   obtain⟨st',he,hs⟩:=(ihs h3).2 h1
   cases he
   exact⟨λ_=>k82 hs ((ihr h4).1 h2),λk=>by cases k⟩
 |lams i ls e t r iht ihr =>
  intro ss h
  unfold mtS at h
  split at h
  ·rename_i w hw
   simp only[and_eq_true] at h
   obtain⟨⟨⟨h1,h2⟩,h3⟩,h4⟩:=h
   exact⟨λ_=>X91 x hw ((iht h3).1 h1) ((ihr h4).1 h2),λk=>by cases k⟩
  ·cases h
 |set p e =>
  intro ss h
  obtain⟨⟨q,rfl⟩,-,h⟩:=a50 h
  simp only[and_eq_true] at h
  exact j30 rfl (m62 x h.1.1.1 h.1.1.2 h.1.2 h.2)
 |ret e =>
  intro ss h
  obtain⟨⟨q,rfl⟩,-,h⟩:=a50 h
  exact j30 rfl (m72 x h)
 |iff c t u iht ihu =>
  intro ss h
  obtain⟨⟨q,rfl⟩,-,h⟩:=a50 h
  simp only[and_eq_true] at h
  obtain⟨⟨⟨⟨⟨⟨h1,h2⟩,h3⟩,h4⟩,h5⟩,h6⟩,h7⟩:=h
  exact j30 rfl (u82 (a70 (b20 h1) (sound G c x.toXI h5)) (T00 h2) ((iht h6).1 h3) ((ihu h7).1 h4))
 |fr p it src b ih =>
  intro ss h
  obtain⟨⟨q,rfl⟩,-,h⟩:=a50 h
  simp only[and_eq_true] at h
  obtain⟨⟨⟨⟨⟨h1,h2⟩,h3⟩,h4⟩,h5⟩,h6⟩:=h
  exact j30 rfl (v92 x h1 h2 h3 h5 ((ih h6).1 h4))
 |whl c b ih =>
  intro ss h
  obtain⟨⟨q,rfl⟩,-,h⟩:=a50 h
  simp only[and_eq_true] at h
  obtain⟨⟨⟨⟨h1,h2⟩,h3⟩,h4⟩,h5⟩:=h
  exact j30 rfl (l52 x (a70 (b20 h1) (sound G c x.toXI h4)) (T00 h2) ((ih h5).1 h3))
 |rais c =>
  intro ss h
  obtain⟨⟨⟨e,pos⟩,rfl⟩,-,h⟩:=a50 h
  dsimp only at h
  obtain⟨⟨⟨n,p1,y,k,p2,p3⟩,rfl⟩,-,h⟩:=a50 h
  simp only[and_eq_true,beq_iff_eq] at h
  exact j30 rfl (x_raise x h.1 h.2)
 |exp e =>
  intro ss h
  obtain⟨⟨q,rfl⟩,-,h⟩:=a50 h
  simp only[and_eq_true] at h
  exact j30 rfl (l22 (a70 (b20 h.1.2) (sound G e x.toXI h.2)) h.1.1)
 |app i e =>
  intro ss h
  obtain⟨⟨⟨v0,pos⟩,rfl⟩,-,h⟩:=a50 h
  dsimp only at h
  obtain⟨⟨⟨n,p1,a,apos,v,cpos⟩,rfl⟩,-,h⟩:=a50 h
  simp only[and_eq_true,beq_iff_eq] at h
  obtain⟨⟨⟨⟨⟨⟨h7,h8⟩,h2⟩,h3⟩,h4⟩,h5⟩,h6⟩:=h
  subst h7
  exact j30 rfl (l32 x h8 h2 h3 (a70 (b20 h4) (sound G e x.toXI h6)) (by rw[h5];exact beq_self_eq_true _))
 |sti i ix e =>
  intro ss h
  obtain⟨⟨⟨tg,v,pos⟩,rfl⟩,-,h⟩:=a50 h
  dsimp only at h
  obtain⟨⟨⟨n,p1,w,tp⟩,rfl⟩,-,h⟩:=a50 h
  simp only[and_eq_true,beq_iff_eq] at h
  obtain⟨⟨⟨⟨⟨⟨h1,h2⟩,h3⟩,h4⟩,h5⟩,h6⟩,h7⟩:=h
  exact j30 rfl (l42 x h1 h2 (a70 (b20 h4) (sound G e x.toXI h6)) (a70 (b20 h5) (sound G ix x.toXI h7)) h3)
 |newz i f as =>
  intro ss h
  obtain⟨⟨⟨tg,v,pos⟩,rfl⟩,-,h⟩:=a50 h
  dsimp only at h
  obtain⟨⟨⟨y,p1⟩,rfl⟩,-,h⟩:=a50 h
  simp only[and_eq_true,beq_iff_eq] at h
  obtain⟨⟨⟨h1,h2⟩,h3⟩,h4⟩:=h
  exact j30 rfl (W91 x h1 h2 (a70 rfl (sound G (.call f as) x.toXI h4)) h3)
 |zset i e =>
  intro ss h
  obtain⟨⟨⟨tg,v,pos⟩,rfl⟩,-,h⟩:=a50 h
  dsimp only at h
  obtain⟨⟨⟨n,p1,c,p2,p3⟩,rfl⟩,-,h⟩:=a50 h
  simp only[and_eq_true,beq_iff_eq] at h
  exact j30 rfl (X01 x h.1.1.1 h.1.1.2 (a70 (b20 h.1.2) (sound G e x.toXI h.2)))
 |apop i j e =>
  intro ss h
  obtain⟨⟨⟨v0,pos⟩,rfl⟩,-,h⟩:=a50 h
  dsimp only at h
  obtain⟨⟨⟨n,p1,a,apos,v1,cpos⟩,rfl⟩,-,h⟩:=a50 h
  dsimp only at h
  obtain⟨⟨⟨m,p2,b,apos',v,cpos'⟩,rfl⟩,-,h⟩:=a50 h
  simp only[and_eq_true,beq_iff_eq] at h
  obtain⟨⟨⟨⟨⟨⟨⟨⟨⟨⟨g1,g2⟩,g3⟩,g4⟩,g5⟩,g6⟩,g7⟩,g8⟩,g9⟩,g10⟩,g11⟩:=h
  subst g1;subst g2
  exact j30 rfl (X11 x g3 g4 g5 g6 g7 (a70 (b20 g8) (sound G e x.toXI g11)) (by rw[g9];exact beq_self_eq_true _) (by rw[g10];exact beq_self_eq_true _))
end
structure GX(P:Program)(w:World)(K:PySem.W.Frag)(mg:Str→Option Value)(base:Heap)(G:Gs)(cn:List Str):Prop where
 gok:∀ f nm ps,G.fns[f]?=some (nm,ps)→∃ fa fd,mg nm=some (.ref fa)∧PySem.W.keepIn K (.ref fa)=true∧Binds K fd ps []∧K00 P w K mg base (CX1 P w) G.lv fa fd ps (spF K G f ps.length)
 num:∀ p∈G.nums,∃ t,mg p.1=some (.int p.2 t)
 blt:∀ n∈G91,mg n=none
 cls:∀ c x,cn[c]?=some x→mg x=some (.ref (G.cls c))∧PySem.W.excIn K (G.cls c) [.type "ValueError",.type "Exception",.type "BaseException",.type "object"] "ValueError.__new__"=true
section
variable {P:Program}{w:World}{K:PySem.W.Frag}{mg:Str→Option Value}{base:Heap}{G:Gs}{cn:List Str}
structure c82(P:Program)(w:World)(K:PySem.W.Frag)(mg:Str→Option Value)(base:Heap)(cls:Nat→Addr)(fR:Addr)(fdR:FuncData):Prop where
 bm:BMain mg base
 cls:∀ j,j < 12→G50 K mg (cls j) j
 m:mg "_law_refused"=some (.ref fR)
 kp:PySem.W.keepIn K (.ref fR)=true
 bd:Binds K fdR ["_law_call"] []
 fn:∀ k,G30 P w K mg base CX0 (k + 2) fR fdR ["_law_call"] (E91 P w K mg base (k + 1))
def c92(K:PySem.W.Frag)(nm:Str)(fd:FuncData):Prop:=∃ (c P:Addr) (q:Str),fd.code=.ref c∧PySem.W.codeHdIn K c P=true∧(∀ sc n f cd,(envOfC nm sc n f cd).qual++"<lambda>"=q)∧(P,q)∈TB.tb∧∀ p∈TB.tb,p.1=P→p.2=q
def Low(P:Program)(w:World)(K:PySem.W.Frag)(mg:Str→Option Value)(base:Heap)(G:Gs)(k:Nat):Prop:=∀ f nm ps,G.fns[f]?=some (nm,ps)→∃ fa fd,mg nm=some (.ref fa)∧PySem.W.keepIn K (.ref fa)=true∧Binds K fd ps []∧K00 P w K mg base (CX1 P w) k fa fd ps (spF K (lowG G k) f ps.length)
theorem Y41(g:GX P w K mg base G cn){lm:Bool}{N ps:List Str}{qual:Str}{sc:Scope}{f:Addr}{fd:FuncData}{cd:Value}{A:Around}{outer:List PySem.Env}{s:Shared}{H:Hp}{E:XK}(S:h40 N ps sc)(hl:N.all (C90 sc)=true)
  (hr:p50 G.lv (A.deeper (envOfC qual sc s.heap.objs.size f cd))) (hc:fd.code=cd) (hlam:lm=true→∃ k fR fdR,G.lv=k + 2∧c82 P w K mg base G.cls fR fdR∧c92 K qual fd∧Low P w K mg base G k):XS lm (w70 (CX1 P w) P w K mg base N qual sc f cd A outer s H E) G E N sc cn where
 gok:=g.gok
 num:=g.num
 blt:=g.blt
 hN:=rfl
 nd:=S.nd
 vis:=λx hx=>by
  have:=List.all_eq_true.mp hl x hx
  unfold C90 at this
  rw[or_eq_true,beq_iff_eq,beq_iff_eq] at this
  rcases this with h | h
  ·exact .inl h
  ·exact .inr (.inl h)
 glb:=λx h=>h
 cel:=λx h=>h
 calm:=rfl
 room:=hr
 pas:=g22
 lam:=λh=>by
  obtain⟨k,fR,fdR,e1,L,⟨c,P',q,d1,d2,d3,d4,d5⟩,lo⟩:=hlam h
  exact⟨c,P',q,k,fR,fdR,rfl,hc.symm.trans d1,d2,d3 _ _ _ _,d4,d5,L.bm,e1,L.cls,L.m,L.kp,L.bd,L.fn k,lo⟩
 sco:=rfl
 fnk:=S.kind
 own:=PassesOwn.leaving
 can:=e11
 fnx:=λ_=>rfl
 cls:=g.cls
theorem w02{x qual:Str}{st:Stmt}{f:Addr}{fd:FuncData}{N ps:List Str}{k:Nat}{sp:Sp}(F:Fun K x qual st f fd)(S:h40 N ps (b40 st))(len:∀ vs H Q E,sp vs H Q E→vs.length=ps.length)
  (hb:∀ (cdv:Value),fd.code=cdv→∀ (A:Around) (outer:List PySem.Env) (s:Shared) (H:Hp) (vs:List V) (Q:VK) (E:XK),p50 k (A.deeper (envOfC qual (b40 st) s.heap.objs.size f cdv))→sp vs H Q E →
   ∃ t,PSs (w70 (CX1 P w) P w K mg base N qual (b40 st) f cdv A outer s H E) (f80 st) t∧t { nx:=λ_ H'=>Q .non H',rt:=Q } (L2.start N vs) H):K00 P w K mg base (CX1 P w) (k + 1) f fd ps sp:=by
 obtain⟨oc,od,kV,doc,pm,an,cdv,ct,osl,rfl,lk,hcd⟩:=F.ex
 exact f32 lk hcd S len λA outer s H vs Q E hr hsp=>hb cdv rfl A outer s H vs Q E hr hsp
theorem T10:∀ {ss:List S}{vs:List V}{i:Nat}{s:S}{n:Nat},RvA K zA H ss vs→(ss.map some++replicate n none)[i]?=some (some s)→∃ v,(vs.map some++replicate n none)[i]?=some (some v)∧RvP K zA H s v
 |[],_,i,s,n,h,e=>by
  cases h
  simp only[map_nil,nil_append] at e
  rw[List.getElem?_replicate] at e
  split at e <;> cases e
 |a::ss,_,0,s,n,h,e=>by
  cases h with
  |cons h1 h2 =>
   simp only[map_cons,List.cons_append,List.getElem?_cons_zero] at e
   cases e
   exact⟨_,rfl,h1⟩
 |a::ss,_,i + 1,s,n,h,e=>by
  cases h with
  |cons h1 h2 =>
   obtain⟨v,k1,k2⟩:=T10 (i:=i) (s:=s) (n:=n) h2 (by simpa using e)
   exact⟨v,by simpa using k1,k2⟩
theorem Paired.len{α β:Type}{R:α→β→Prop}:∀ {l:List α}{m:List β},Paired R l m→l.length=m.length
 |[],_,h=>by cases h;rfl
 |_::_,_,h=>by
  cases h with
  |cons h1 h2=>simp[Paired.len h2]
theorem w31(h:RvA K zA H ss vs)(hn:∀ s∈ss,∀ xs,s≠.fr xs):RW K H zA zA (λ_=>none) H (Q.start N.length ss) (L2.start N vs):=by
 have hl:ss.length=vs.length:=Paired.len h
 refine⟨?_,λi j a e=>(nomatch e),λi a e=>(nomatch e),λi a e=>(nomatch e),λi s e=>?_,Ext.refl,.inl rfl,λi a e=>(nomatch e)⟩
 ·unfold Q.start L2.start
  simp[hl]
 ·unfold Q.start at e
  obtain⟨v,k1,k2⟩:=T10 h e
  refine⟨v,?_,?_⟩
  ·unfold L2.start
   rw[← hl];exact k1
  ·cases s with
   |d x=>exact⟨rfl,by rw[q20];exact k2⟩
   |z=>exact⟨rfl,k2⟩
   |fr xs =>
    rcases List.mem_append.mp (mem_of_getElem? e) with q | q
    ·obtain⟨s',q1,q2⟩:=List.mem_map.mp q
     cases q2
     exact absurd rfl (hn _ q1 xs)
    ·cases List.eq_of_mem_replicate q
theorem I91(st:c30 zA z H):c62 zA z1=w90 z z1:=by
 have st:=st.zat
 cases zA with
 |none =>
  cases z with
  |none=>rfl
  |some p=>exact st.elim
 |some a =>
  cases z with
  |none=>exact st.elim
  |some p=>rfl
theorem j91(st:c30 zA z H):z.isNone=zA.isNone:=by
 have st:=st.zat
 cases zA with
 |none =>
  cases z with
  |none=>rfl
  |some p=>exact st.elim
 |some a =>
  cases z with
  |none=>exact st.elim
  |some p=>rfl
theorem k01(g:GX P w K mg base G cn){lm:Bool}{N ps:List Str}{nm:Str}{st:Stmt}{fa:Addr}{fd:FuncData}{b:Sm}{f:Nat}{F':FT}(Fn:Fun K nm nm st fa fd)(Sc:h40 N ps (b40 st))(hl:N.all (C90 (b40 st))=true)
  (ch:mtS lm G.fns G.nums cn (b40 st) N b (f80 st)=true) (hq:isQ b=true) (hlam:lm=true→∃ k fR fdR,G.lv=k + 2∧c82 P w K mg base G.cls fR fdR∧c92 K nm fd∧Low P w K mg base G k)
  (hF:∀ l z,F' false f l z=run G.F (.code ps.length N.length b) l z):K00 P w K mg base (CX1 P w) (G.lv + 1) fa fd ps (spF K { G with F:=F',lv:=G.lv + 1 } f ps.length):=by
 refine w02 Fn Sc (λvs H Q E h=>h.1) λcdv hcd A outer s H vs Qv E hr hsp=>?_
 obtain⟨hlen,zA,z,ss,r,rv,st',e,po⟩:=hsp
 refine⟨_,(Y31 (H0:=H) (zE:=zA) (Y41 g Sc hl hr hcd hlam) b ch).1 hq,?_⟩
 have e0:(if ss.length=ps.length∧ps.length≤N.length then(match ex G.F z.isNone b (Q.start N.length (ss.map plS)) z with
  |some (.ok (.nx _) z1)=>some (R.ok (S.d .non) (w90 z z1))
  |some (.ok (.rt s) z1)=>some (R.ok s (w90 z z1))
  |some (.er c z1)=>some (R.er c (w90 z z1))
  |none=>none) else none)=some r:=by
  have:=hF ss z
  exact this.symm.trans e
 rw[j91 st'] at e0
 split at e0
 ·have rw0:RW K H zA zA (λ_=>none) H (Q.start N.length (ss.map plS)) (L2.start N vs):=w31 rv.plS λs hs xs=>by
   obtain⟨s',_,rfl⟩:=List.mem_map.mp hs
   cases s' <;> exact λh=>nomatch h
  split at e0
  ·rename_i ρ z1 e1
   cases e0
   refine⟨zA,_,_,z,_,rw0,st',e1,λzA' ow' σ' H' r' st1 _=>?_⟩
   refine po .non H' r'.ext ?_ (show Hd K (hz zA H') .non .non from Hd.non)
   rw[← I91 st'];exact M11 r'.zok st1
  ·rename_i s1 z1 e1
   cases e0
   refine⟨zA,_,_,z,_,rw0,st',e1,λv H' nz x st1 rv'=>?_⟩
   exact po v H' x (by rw[← I91 st'];exact st1) rv'
  ·rename_i c z1 e1
   cases e0
   refine⟨zA,_,_,z,_,rw0,st',e1,λe H' x st1 hn=>?_⟩
   exact po e H' x (by rw[← I91 st'];exact st1) hn
  ·cases e0
 ·cases e0
def lev(G:Gs)(T:List Df)(k:Nat):Gs:={ G with F:=E10 T k,lv:=k }
theorem Y51{T:List Df}(num:∀ p∈G.nums,∃ t,mg p.1=some (.int p.2 t))(blt:∀ n∈G91,mg n=none)
  (cls:∀ c x,cn[c]?=some x→mg x=some (.ref (G.cls c))∧PySem.W.excIn K (G.cls c) [.type "ValueError",.type "Exception",.type "BaseException",.type "object"] "ValueError.__new__"=true)
  (hd:∀ (f:Nat) (nm:Str) (ps:List Str),G.fns[f]?=some (nm,ps)→∃ (fa:Addr) (fd:FuncData),mg nm=some (.ref fa)∧PySem.W.keepIn K (.ref fa)=true∧Binds K fd ps [] ∧
   ((∃ (lm:Bool) (N:List Str) (st:Stmt) (b:Sm),T[f]?=some (Df.code ps.length N.length b)∧Fun K nm nm st fa fd∧h40 N ps (b40 st)∧N.all (C90 (b40 st))=true∧isQ b=true∧mtS lm G.fns G.nums cn (b40 st) N b (f80 st)=true∧(lm=true→∃ fR fdR,c82 P w K mg base G.cls fR fdR∧c92 K nm fd)) ∨
    T[f]?=none)):∀ k,GX P w K mg base (lev G T k) cn:=by
 have zero:∀ k,k < 3→GX P w K mg base (lev G T k) cn:=λk hk=>by
  refine⟨λf nm ps h=>?_,num,blt,cls⟩
  obtain⟨fa,fd,h1,h2,h3,_⟩:=hd f nm ps h
  refine⟨fa,fd,h1,h2,h3,λvs H Q E q=>q.1,λA outer s H args us vs Q E hr he hb hv hs=>?_⟩
  obtain⟨_,zA,z,ss,r,_,_,e,_⟩:=hs
  match k,hk with
  |0,_=>cases e
  |1,_=>cases e
  |2,_=>cases e
 intro k
 induction k using Nat.strongRecOn with
 |ind k ih =>
  match k,ih with
  |0,_=>exact zero 0 (by decide)
  |1,_=>exact zero 1 (by decide)
  |2,_=>exact zero 2 (by decide)
  |k + 3,ih =>
   refine⟨λf nm ps h=>?_,num,blt,cls⟩
   obtain⟨fa,fd,h1,h2,h3,h4⟩:=hd f nm ps h
   refine⟨fa,fd,h1,h2,h3,?_⟩
   rcases h4 with ⟨lm,N,st,b,k1,k2,k3,k4,k5,k6,k7⟩ | h4
   ·refine k01 (G:=lev G T (k + 2)) (F':=E10 T (k + 3)) (ih (k + 2) (by omega)) k2 k3 k4 k6 k5 (λhlm=>?_) λl z=>?_
    ·obtain⟨fR,fdR,L,D⟩:=k7 hlm
     exact⟨k,fR,fdR,rfl,L,D,λf nm ps h=>(ih k (by omega)).gok f nm ps h⟩
    ·show(match T[f]? with | some d=>run (E10 T (k + 2)) d l | none=>M.no) z=_
     rw[k1];rfl
   ·refine⟨λvs H Q E q=>q.1,λA outer s H args us vs Q E hr he hb hv hs=>?_⟩
    obtain⟨_,zA,z,ss,r,_,_,e,_⟩:=hs
    have e':(match T[f]? with | some d=>run (E10 T (k + 2)) d ss | none=>M.no) z=some r:=e
    rw[h4] at e'
    cases e'
end
end Q
namespace L2
open PySem PySem.W PySem.Calls PyProof.Rows
def w20(thr sok:Thread→Bool)(stp:SharedT→Thread→Option (SharedT × Thread)):Nat→SharedT→Thread→Option SharedT
 |0,_,_=>none
 |n + 1,s,t=>match thr t with
  |true=>some s
  |false=>match sok t with
   |false=>none
   |true=>match stp s t with
    |some (s',t')=>w20 thr sok stp n s' t'
    |none=>none
theorem H90:∀ {n:Nat}{s s':SharedT}{t:Thread},w20 through (stepOk n₀ ann) (stepT (denote tb) p w) n s t=some s'→topRun tb p w n₀ ann n s.abs t=some s'.abs
 |0,_,_,_,h=>by cases h
 |n + 1,s,s',t,h=>by
  unfold w20 at h
  unfold topRun
  cases ht:through t with
  |true=>rw[ht] at h;cases h;rfl
  |false =>
   rw[ht] at h
   cases hok:stepOk n₀ ann t with
   |false=>rw[hok] at h;cases h
   |true =>
    rw[hok] at h
    cases hst:stepT (denote tb) p w s t with
    |none=>rw[hst] at h;cases h
    |some r=>obtain⟨s₂,t₂⟩:=r;rw[hst] at h;rw[stepT_spec hst];exact H90 h
def grow:List Obj→Nat→BT→BT
 |[],_,t=>t
 |o::r,i,t=>grow r (i + 1) (t.ins i o)
def J01(w:World)(os:OsState):SharedT:=⟨grow (boot_heap w.params).objs.toList 0 .nil,11,(boot_heap w.params).life,Array.mk [],boot_drawn,boot_toks,os⟩
theorem k21:∀ (w:World) (os:OsState),(J01 w os).abs=⟨boot_heap w.params,Array.mk [],boot_drawn,boot_toks,os⟩:=λw os=>by kernel_rfl
theorem k31:∀ w:World,((boot_heap w.params).isNs mainGlobals&&(Array.mk []:Array GenState).size == 0,(boot_heap w.params).objs.size,(boot_heap w.params).nsMap mainGlobals "__annotations__")=(true,11,some (.ref 6)):=λw=>by kernel_rfl
theorem J11{p q:Program}{loose:List Str}{Xt:Shared→Bool}{α:Type}{Yf:Shared→α}{Ya:World→α}{N:Nat}
  (e:opening p=plainProg p.main.scope.names) (hN:ble 600 N=true) (f:∀ s,fenceModules? p s=some s)
  (run:∀ (w:World) (os:OsState),(w20 through (stepOk 11 (some (.ref 6))) (stepT (denote treeTable) p w) N (J01 w os) (topStub p)).map (λs =>
   (staticsOk (importedModules p.main.body) (boot_heap w.params) s.abs.heap&&namesBound p s.abs.heap&&gensDone s.abs&&laidKept (boot_heap w.params) s.abs.heap,
    openSeen q loose (importedModules p.main.body) Xt true s.abs,Yf s.abs))=some (true,openGood q loose,Ya w)):LeftO p q loose Xt Yf Ya N:=λw=>by
 obtain⟨⟨h,gs,d,k,os⟩,e1,e2⟩:=Option.map_eq_some_iff.mp (boot_open (N:=N) e hN f w)
 obtain⟨rfl,rfl,rfl,rfl⟩:h=boot_heap w.params∧gs=Array.mk []∧d=boot_drawn∧k=boot_toks:=by simpa using e2
 obtain⟨z1,z2,z3⟩:_∧_∧_:=by simpa only [Prod.mk.injEq] using k31 w
 obtain⟨s1,r1,r2⟩:=Option.map_eq_some_iff.mp (run w os)
 obtain⟨l1,l2,l3⟩:_∧_∧_:=by simpa only [Prod.mk.injEq] using r2
 have r:=H90 r1
 rw[k21] at r
 unfold openEnds
 rw[e1]
 show map _ (topFrom treeTable p w N _)=_
 unfold topFrom
 dsimp only
 rw[z1,z2,z3,r]
 show map _ (match staticsOk (importedModules p.main.body) (boot_heap w.params) s1.abs.heap&&namesBound p s1.abs.heap&&gensDone s1.abs&&laidKept (boot_heap w.params) s1.abs.heap with | true=>_ | false=>_)=_
 rw[l1]
 exact congrArg Option.some (Prod.ext l2 l3)
def I00(o:Obj):Bool:=match o with
 |⟨.none,none,.fields vs,sl⟩=>vs.isEmpty&&sl.isEmpty
 |_=>false
def m82(h:Heap)(a:Addr):Option Obj:=match h.get? a with
 |some o=>if I00 o then none else some o
 |none=>none
def fragOf(h:Heap):Frag:=(range h.objs.size).filterMap λa=>(m82 h a).map λo=>(a,o)
theorem o80(g:Addr→Option Obj)(a:Addr):∀ l:List Addr,(l.filterMap λa=>(g a).map λo=>(a,o)).lookup a=if a∈l then g a else none
 |[]=>rfl
 |b::r=>by
  by_cases hb:a=b
  ·subst hb
   rw[if_pos mem_cons_self]
   cases hg:g a with
   |none =>
    rw[filterMap_cons,hg]
    show(r.filterMap λa=>(g a).map λo=>(a,o)).lookup a=none
    rw[o80 g a r]
    split
    ·exact hg
    ·rfl
   |some o =>
    rw[filterMap_cons,hg]
    show List.lookup a ((a,o)::_)=some o
    rw[List.lookup_cons_self]
  ·have hm:(a∈b::r)↔a∈r:=by rw[mem_cons];exact⟨λh=>h.resolve_left hb,Or.inr⟩
   have ih:=o80 g a r
   have e:(if a∈b::r then g a else none)=if a∈r then g a else none:=by simp only[hm]
   rw[e,← ih]
   cases hg:g b with
   |none=>rw[filterMap_cons,hg];rfl
   |some o =>
    rw[filterMap_cons,hg]
    show List.lookup a ((b,o)::_)=_
    have:(a == b)=false:=by simpa using hb
    simp only[List.lookup,this]
theorem k41(h:Heap):(fragOf h).In h:=λa o e=>by
 unfold fragOf at e
 rw[o80] at e
 split at e
 ·unfold m82 at e
  cases hg:h.get? a with
  |none=>rw[hg] at e;cases e
  |some u =>
   rw[hg] at e
   dsimp only at e
   split at e
   ·cases e
   ·exact e
 ·cases e
theorem J21(h:I00 o=true):o=tabObj #[]:=by
 unfold I00 at h
 split at h
 ·rename_i vs sl
  rw[and_eq_true,Array.isEmpty_iff,Array.isEmpty_iff] at h
  obtain⟨rfl,rfl⟩:=h
  rfl
 ·cases h
theorem X80(e:h.get? a=some o)(t:I00 o=true):(fragOf h).lookup a=none:=by
 unfold fragOf
 rw[o80]
 split
 ·unfold m82;rw[e];exact if_pos t
 ·rfl
def k51(K:Frag)(x:Str):Option (Str × Str × Arguments × FuncBody × Scope × Addr × List (Str × Addr) × Value × Addr × Bool):=match nsIn K mainGlobals x with
 |some (some (.ref at0))=>(match K.lookup at0 with
  |some ⟨_,_,.func fd,_⟩=>some (fd.name,fd.qualname,fd.params,fd.body,fd.scope,fd.globals,fd.closure,fd.defaults,fd.builtins,codeIn K fd.code x)
  |_=>none)
 |_=>none
def J31(x:Str)(st:Stmt):Option (Str × Str × Arguments × FuncBody × Scope × Addr × List (Str × Addr) × Value × Addr × Bool):=some (x,x,A10 st,.stmts (f80 st),b40 st,mainGlobals,[],.none,builtinsNs,true)
theorem N00{K:Frag}{x:Str}{st:Stmt}(e:k51 K x=J31 x st):∃ f fd,nsIn K mainGlobals x=some (some (.ref f))∧Fun K x x st f fd∧∃ oc od sl,K.lookup f=some ⟨oc,od,.func fd,sl⟩:=by
 unfold k51 J31 at e
 split at e
 ·rename_i f hf
  split at e
  ·rename_i oc od fd sl hl
   obtain⟨nm,qn,pm,bd,sc,gl,cl,df,kd,dc,py,an,cd,ct,bl⟩:=fd
   simp only[Prod.mk.injEq,Option.some.injEq] at e
   obtain⟨rfl,rfl,rfl,rfl,rfl,rfl,rfl,rfl,rfl,hc⟩:=e
   exact⟨f,_,hf,⟨⟨oc,od,kd,dc,py,an,cd,ct,sl,rfl,hl,hc⟩,by simp only[keepIn,hl]⟩,oc,od,sl,hl⟩
  ·cases e
 ·cases e
def tab0At(h:Heap)(T:Addr):Bool:=match h.get? T with
 |some o=>I00 o
 |none=>false
theorem k61{h:Heap}{T:Addr}(e:tab0At h T=true):h.get? T=some (tabObj #[]):=by
 unfold tab0At at e
 split at e
 ·rename_i o ho
  rw[ho,J21 e]
 ·cases e
def k71(h:Heap)(K:Frag)(x:Str):Option Addr:=match nsIn K mainGlobals x with
 |some (some (.ref at0))=>(match K.lookup at0 with
  |some ⟨_,_,.func fn0,_⟩=>(match fn0.code with
   |.ref c=>(match K.lookup c with
    |some ⟨_,_,.fields vs,_⟩=>(match (vs[11]?:Option Value) with
     |some (.ref T)=>if codeHdIn K c T&&tab0At h T then some T else none
     |_=>none)
    |_=>none)
   |_=>none)
  |_=>none)
 |_=>none
theorem X90{h:Heap}{K:Frag}{x:Str}{T:Addr}(e:k71 h K x=some T):h.get? T=some (tabObj #[])∧∃ f oc od fd sl c,nsIn K mainGlobals x=some (some (.ref f))∧K.lookup f=some ⟨oc,od,.func fd,sl⟩∧fd.code=.ref c∧codeHdIn K c T=true:=by
 unfold k71 at e
 split at e
 ·rename_i f hf
  split at e
  ·rename_i oc od fd sl hl
   split at e
   ·rename_i c hc
    split at e
    ·split at e
     ·rename_i T' _
      split at e
      ·rename_i q
       cases e
       rw[and_eq_true] at q
       obtain⟨q1,q2⟩:=q
       exact⟨k61 q2,f,oc,od,fd,sl,c,hf,hl,hc,q1⟩
      ·cases e
     ·cases e
    ·cases e
   ·cases e
  ·cases e
 ·cases e
def f50:List Str:=["NoWeb","NoLot","NoPlaces","NoPlace","NoTie","NoChance","NoChances","NoPaper","TooMany","NoText","NoLine","NoDeed"]
def I10(K:Frag)(x:Str):Option Addr:=match nsIn K mainGlobals x with
 |some (some (.ref f))=>some f
 |_=>none
theorem D00{K:Frag}{x:Str}{f:Addr}(e:I10 K x=some f):nsIn K mainGlobals x=some (some (.ref f)):=by
 unfold I10 at e
 split at e
 ·cases e;assumption
 ·cases e
abbrev p62:=Option (Option Value) × Option (Option Value) × Option Bool × Option Bool × Option (Option Value) × Bool × Option Bool × Option Bool × Bool × List (Option Bool)
def N10(K:Frag)(C:Addr):p62:=(findIn K (.ref C) "__getattribute__",findIn K (.ref C) "__getattr__",mroIn K C (.type "BaseException"),mroIn K C (.type "object"),findIn K (.ref C) "__class__",hasDictIn K C,kitOne K (.ref C) (.type "ValueError"),
 (I10 K "ChanceError").bind λD=>exmOne K (.ref C) (.ref D),excIn K C [.type "ValueError",.type "Exception",.type "BaseException",.type "object"] "ValueError.__new__",f50.map λy=>(I10 K y).bind λB=>kitOne K (.ref C) (.ref B))
def k81(x:Str):p62:=(some (some (Value.builtin "BaseException.__getattribute__")),some (none:Option Value),some true,some true,some (some (Value.builtin "object.__class__")),true,some true,some true,true,f50.map λy=>some (decide (x=y)))
def N20(K:Frag)(x:Str):Option Int:=match nsIn K mainGlobals x with
 |some (some (.int i _))=>some i
 |_=>none
theorem N30{K:Frag}{x:Str}{i:Int}(e:N20 K x=some i):∃ t,nsIn K mainGlobals x=some (some (.int i t)):=by
 unfold N20 at e
 split at e
 ·rename_i t h;cases e;exact⟨t,h⟩
 ·cases e
def N40(K:Frag)(x:Str):Bool:=match nsIn K mainGlobals x with
 |some none=>true
 |_=>false
theorem N50{K:Frag}{x:Str}(e:N40 K x=true):nsIn K mainGlobals x=some none:=by
 unfold N40 at e
 split at e
 ·assumption
 ·cases e
structure j50 where
 ds:List (Str × Stmt)
 is:List (Str × Int)
 ns:List Str
 ms:List Str
 cs:List Str
def j50.obs(q:j50)(s:Shared) :=
 let K:=fragOf s.heap
 (q.ds.map λd=>k51 K d.1,q.is.map λd=>N20 K d.1,q.ns.map (N40 K),q.ms.map λx=>(k71 s.heap K x).isSome,q.cs.map λx=>(I10 K x).map (N10 K),
  (specialIn K (.builtin "object.__class__") "__get__",takesIn K (.builtin "object.__class__")))
def j50.due(q:j50)(_:World) :=
 (q.ds.map λd=>J31 d.1 d.2,q.is.map λd=>some d.2,q.ns.map λ_=>true,q.ms.map λ_=>true,q.cs.map λx=>some (k81 x),
  (some (some (Value.builtin "getset_descriptor.__get__")),some true))
structure Facts(q:j50)(K:Frag)(h:Heap):Prop where
 fn:∀ d∈q.ds,∃ f fd,nsIn K mainGlobals d.1=some (some (.ref f))∧Fun K d.1 d.1 d.2 f fd∧∃ oc od sl,K.lookup f=some ⟨oc,od,.func fd,sl⟩
 it:∀ d∈q.is,∃ t,nsIn K mainGlobals d.1=some (some (.int d.2 t))
 no:∀ x∈q.ns,nsIn K mainGlobals x=some none
 mt:∀ x∈q.ms,∃ T,h.get? T=some (tabObj #[])∧K.lookup T=none∧∃ f oc od fd sl c,nsIn K mainGlobals x=some (some (.ref f))∧K.lookup f=some ⟨oc,od,.func fd,sl⟩∧fd.code=.ref c∧codeHdIn K c T=true
 cl:∀ x∈q.cs,∃ C,nsIn K mainGlobals x=some (some (.ref C))∧N10 K C=k81 x
 sp:specialIn K (.builtin "object.__class__") "__get__"=some (some (Value.builtin "getset_descriptor.__get__"))
 tk:takesIn K (.builtin "object.__class__")=some true
theorem y10{α β:Type}{f g:α→β}:∀ {l:List α},l.map f=l.map g→∀ a∈l,f a=g a:=λ{l} h a ha=>List.map_inj_left.mp h a ha
theorem j50.facts(q:j50)(w:World)(s:Shared)(e:q.obs s=q.due w):Facts q (fragOf s.heap) s.heap:=by
 unfold j50.obs j50.due at e
 simp only[Prod.mk.injEq] at e
 obtain⟨e1,e2,e3,e4,e5,e6,e7⟩:=e
 refine⟨λd hd=>N00 (y10 e1 d hd),λd hd=>N30 (y10 e2 d hd),λx hx=>N50 (y10 e3 x hx),λx hx=>?_,λx hx=>?_,e6,e7⟩
 ·obtain⟨T,hT⟩:=Option.isSome_iff_exists.mp (y10 e4 x hx)
  obtain⟨h1,h2⟩:=X90 hT
  exact⟨T,h1,X80 h1 rfl,h2⟩
 ·obtain⟨C,h1,h2⟩:=Option.map_eq_some_iff.mp (y10 e5 x hx)
  exact⟨C,D00 h1,h2⟩
def j50.hook(q:j50):Hook where
 α:=_
 obs:=q.obs
 val:=q.due
 says:=λ_ h=>∃ K:Frag,K.In h∧Facts q K h
 of:=λw s e=>⟨_,k41 _,q.facts w s e⟩
 keeps:=λ_ h h' ⟨K,X,F⟩ k=>⟨K,X.keeps k,⟨F.fn,F.it,F.no,λx hx=>let ⟨T,a,b⟩:=F.mt x hx;⟨T,k _ _ a,b⟩,F.cl,F.sp,F.tk⟩⟩
end L2
namespace Q
open PySem L2 PySem.Spec PyProof.Rows
structure Row where
 nm:Str
 ps:List Str
 st:Stmt
 N:List Str
 b:Sm
 lm:Bool
def k91(N ps:List Str)(sc:Scope):Bool:=sc.kind == .function&&!sc.isCoroutine&&!sc.isGenerator&&decide N.Nodup&&N.take ps.length == ps&&ps.all (λx=>sc.names.lookup x == some .local || sc.names.lookup x == some .cell)&&sc.names.all λy=>y.2 != .free
theorem T20(h:k91 N ps sc=true):h40 N ps sc:=by
 unfold k91 at h
 simp only[and_eq_true,not_eq_true',beq_iff_eq,all_eq_true,decide_eq_true_eq,or_eq_true] at h
 obtain⟨⟨⟨⟨⟨⟨h1,h2⟩,h3⟩,h4⟩,h5⟩,h6⟩,h7⟩:=h
 exact⟨h1,h2,h3,h4,h5,h6,λy hy=>by simpa using h7 y hy⟩
def l01(r:Row):Prop:=∀ (kV doc pm:Value) (an:Option Addr) (cdv ct:Value) (us:List Value),us.length=r.ps.length→bindArgs (fnOf r.nm r.nm (A10 r.st) (f80 r.st) (b40 r.st) .none kV doc pm an cdv ct) ⟨us,[]⟩=pure (r.ps.zip us)
def k50:List Row→Prop
 |[]=>True
 |r::l=>l01 r∧k50 l
theorem k50.at:∀ {l:List Row}{r:Row},k50 l→r∈l→l01 r
 |_::_,_,h,.head _=>h.1
 |_::_,_,h,.tail _ m=>k50.at h.2 m
theorem us1(h:us.length=1):∃ a,us=[a]:=List.length_eq_one_iff.mp h
theorem us2(h:us.length=2):∃ a b,us=[a,b]:=by
 match us,h with
 |[a,b],_=>exact⟨a,b,rfl⟩
theorem us3(h:us.length=3):∃ a b c,us=[a,b,c]:=by
 match us,h with
 |[a,b,c],_=>exact⟨a,b,c,rfl⟩
def M21(fns:List (Str × List Str))(nums:List (Str × Int))(r:Row):Bool:=mtS r.lm fns nums f50 (b40 r.st) r.N r.b (f80 r.st)&&isQ r.b&&r.N.all (C90 (b40 r.st))&&k91 r.N r.ps (b40 r.st)
def x00(rows:List Row):List (Str × List Str):=rows.map λr=>(r.nm,r.ps)
def tabOf(rows:List Row):List Df:=rows.map λr=>Df.code r.ps.length r.N.length r.b
def y20(rows:List Row)(nums:List (Str × Int))(mn:List Str)(ex:List (Str × Stmt)):j50:=⟨rows.map (λr=>(r.nm,r.st))++ex,nums,"ValueError"::G91,mn,f50⟩
def clsAt(K:PySem.W.Frag)(c:Nat):Addr:=(I10 K (f50.getD c "")).getD 0
theorem Y61{K:PySem.W.Frag}{C:Addr}{c:Nat}{x:Str}(hc:f50[c]?=some x)(h:PySem.W.nsIn K mainGlobals x=some (some (.ref C))):clsAt K c=C:=by
 unfold clsAt
 rw[List.getD_eq_getElem?_getD,hc]
 show(I10 K x).getD 0=C
 unfold I10
 rw[h];rfl
theorem Y71{K:PySem.W.Frag}{h:Heap}{mg:Str→Option Value}{q:j50}{x:Str}{j:Nat}(X:K.In h)(G:h.Ns mainGlobals mg)(F:Facts q K h)(hx:x∈q.cs)(hj:names12[j]?=some x)(hv:("ValueError":Str)∈q.ns):∃ C,PySem.W.nsIn K mainGlobals x=some (some (.ref C))∧G50 K mg C j∧PySem.W.excIn K C [.type "ValueError",.type "Exception",.type "BaseException",.type "object"] "ValueError.__new__"=true:=by
 obtain⟨C,hC,e⟩:=F.cl x hx
 unfold N10 k81 at e
 simp only[Prod.mk.injEq] at e
 obtain⟨u1,u2,u3,u4,u5,hd,ve,ce,ex,ys⟩:=e
 obtain⟨D,hD,ce⟩:=Option.bind_eq_some_iff.mp ce
 have lt:j < 12:=(List.getElem?_eq_some_iff.mp hj).1
 refine⟨C,hC,⟨λi y hy=>?_,⟨u1,u2,u3,u4,u5,F.sp,F.tk⟩,hd,ve,mg_none_of X G (F.no _ hv),⟨D,mg_of X G (D00 hD),ce⟩,lt⟩,ex⟩
 have hm:=y10 ys y (mem_of_getElem? hy)
 obtain⟨B,hB,hk⟩:=Option.bind_eq_some_iff.mp hm
 refine⟨B,mg_of X G (D00 hB),hk.trans (congrArg some (decide_eq_decide.mpr ⟨λq=>?_,λq=>?_⟩))⟩
 ·subst q
  have nd:names12.Nodup:=by decide +kernel
  exact(List.getElem?_inj (List.getElem?_eq_some_iff.mp hy).1 nd).mp (hy.trans hj.symm)
 ·subst q
  rw[hj] at hy;cases hy;rfl
section
variable {P:Program}{w:World}{K:PySem.W.Frag}{mg:Str→Option Value}{base:Heap}
theorem ok0(F:K00 P w K mg base (CX1 P w) k f fd ps sp):K00 P w K mg base CX0 k f fd ps (λvs H Q _=>sp vs H Q λ_ _ _=>False) :=
 ⟨λvs H Q E h=>F.len _ _ _ _ h,λA outer s H args us vs Q E hr he hb hv hs=>codeAny_mono (F.run A outer s H args us vs Q _ hr he hb hv hs) λr s' h=>by
  cases r with
  |error e =>
   obtain⟨_,_,_,_,_,_,_,_,_,_,_,_,_,hE⟩:=h
   exact hE.elim
  |ok fl=>cases fl <;> exact h⟩
theorem w12:TriplesOk (#[]:Array Value).toList:=by first | trivial | (unfold TriplesOk;trivial)
theorem l70.noT[TB:Tb](h:l70 K H a xs):l70 K (hz none H) a xs:=by
 rcases h with (h | ⟨o,h⟩) | h
 ·exact .inl (.inl (c80 h (λq=>nomatch q)))
 ·exact .inl (.inr ⟨o,c80 h (λq=>nomatch q)⟩)
 ·exact .inr h
theorem Y81[TB:Tb]{G:Gs}{T:List Df}{k f:Nat}{H:Hp}{a:Addr}{ns:List Int}(pure:c20 T k f [.d (.lst (ns.map D.int))] none=some (.ok (.d (.bl true)) none))(hH:∀ p∈TB.tb,H p.1=some (.tbl #[]))(hS:l70 K H a (ns.map V.int)) :
  spF K (lev G T k) f 1 [.ref a] H (λv _=>v=.bl true) λ_ _ _=>False:=by
 refine⟨rfl,none,none,[.d (.lst (ns.map D.int))],_,.cons ?_ .nil,⟨trivial,λp hp=>⟨#[],hH p hp,w12,λpos c e=>nomatch e⟩⟩,pure,λv H' x st rv=>Hd.bl_ (show Hd K (hz none H') (.bl true) v from rv)⟩
 show Hd K (hz none H) (.lst (ns.map D.int)) (.ref a)
 unfold Hd
 exact⟨a,ns.map V.int,rfl,hS.noT,HdA.ints ns⟩
end
def p72(nm:Str):Str:=(envOfC nm ⟨.function,[],false,false,[]⟩ 0 0 .none).qual++"<lambda>"
theorem Y91{rows:List Row}{f:Nat}{nm:Str}{ps:List Str}(h:(x00 rows)[f]?=some (nm,ps)):∃ r∈rows,rows[f]?=some r∧r.nm=nm∧r.ps=ps:=by
 unfold x00 at h
 rw[List.getElem?_map] at h
 obtain⟨r,h1,h2⟩:=Option.map_eq_some_iff.mp h
 cases h2
 exact⟨r,mem_of_getElem? h1,h1,rfl,rfl⟩
section
variable [TB:Tb] {P:Program}{w:World}{K:PySem.W.Frag}{h:Heap}{mg:Str→Option Value}{base:Heap}{rows:List Row}{nums:List (Str × Int)}{mn:List Str}{ex:List (Str × Stmt)}
def Z01(rows:List Row)(mn:List Str)(ex:List (Str × Stmt)):Prop:=∀ r∈rows,r.lm=true→r.nm∈mn∧∃ (sR:Stmt) (n:Nat),(("_law_refused":Str),sR)∈ex∧b40 sR=o10∧f80 sR=L30 n∧l01 ⟨"_law_refused",["_law_call"],sR,[],.nil,false⟩
def m92[TB:Tb](K:PySem.W.Frag)(rows:List Row):Prop:=∀ r∈rows,r.lm=true→∀ fd,(∃ f oc od sl,PySem.W.nsIn K mainGlobals r.nm=some (some (.ref f))∧K.lookup f=some ⟨oc,od,.func fd,sl⟩)→c92 K r.nm fd
theorem l11(X:K.In h)(Gn:h.Ns mainGlobals mg)(Q:Facts (y20 rows nums mn ex) K h):∀ c x,f50[c]?=some x→PySem.W.nsIn K mainGlobals x=some (some (.ref (clsAt K c)))∧G50 K mg (clsAt K c) c∧PySem.W.excIn K (clsAt K c) [.type "ValueError",.type "Exception",.type "BaseException",.type "object"] "ValueError.__new__"=true:=λc x hc=>by
 obtain⟨C,h1,h2,h3⟩:=Y71 (x:=x) (j:=c) X Gn Q (mem_of_getElem? hc) hc mem_cons_self
 rw[Y61 hc h1]
 exact⟨h1,h2,h3⟩
theorem l21(X:K.In h)(Gn:h.Ns mainGlobals mg)(Q:Facts (y20 rows nums mn ex) K h)(bm:BMain mg base)(hR:Z01 rows mn ex)(hr:r∈rows)(hlm:r.lm=true):∃ fR fdR,c82 P w K mg base (clsAt K) fR fdR:=by
 obtain⟨hmn,sR,n,g1,g2,g3,g4⟩:=hR r hr hlm
 obtain⟨fR,fdR,a2,F2,oc2,od2,sl2,lk2⟩:=Q.fn ("_law_refused",sR) (mem_append_right _ g1)
 refine⟨fR,fdR,bm,λj hj=>?_,mg_of X Gn a2,F2.kp,F2.binds g4,λk=>R41 F2 g2 g3 (mg_none_of X Gn (Q.no _ (mem_cons_of_mem _ (by decide)))) (mg_none_of X Gn (Q.no _ (mem_cons_of_mem _ (by decide))))⟩
 have hx:∃ x,f50[j]?=some x:=⟨_,List.getElem?_eq_getElem (by exact hj)⟩
 obtain⟨x,hx⟩:=hx
 exact(l11 X Gn Q j x hx).2.1
theorem J41(X:K.In h)(Gn:h.Ns mainGlobals mg)(Q:Facts (y20 rows nums mn ex) K h)(ok:rows.all (M21 (x00 rows) nums)=true)(bd:k50 rows)(bm:BMain mg base)(hR:Z01 rows mn ex)(hT:m92 K rows)(F0:FT):∀ k,GX P w K mg base (lev ⟨x00 rows,nums,F0,clsAt K,0⟩ (tabOf rows) k) f50:=by
 refine Y51 (λp hp=>?_) (λn hn=>?_) (λc x hc=>?_) λf nm ps hf=>?_
 ·obtain⟨t,e⟩:=Q.it p hp
  exact⟨t,mg_of X Gn e⟩
 ·exact mg_none_of X Gn (Q.no n (mem_cons_of_mem _ hn))
 ·obtain⟨h1,_,h3⟩:=l11 X Gn Q c x hc
  exact⟨mg_of X Gn h1,h3⟩
 ·obtain⟨r,hr,hr2,rfl,rfl⟩:=Y91 hf
  obtain⟨fa,fd,a1,F1,oc,od,sl,lk⟩:=Q.fn (r.nm,r.st) (mem_append_left _ (List.mem_map.mpr ⟨r,hr,rfl⟩))
  have rb:=List.all_eq_true.mp ok r hr
  unfold M21 at rb
  simp only[and_eq_true] at rb
  obtain⟨⟨⟨b1,b2⟩,b3⟩,b4⟩:=rb
  refine⟨fa,fd,mg_of X Gn a1,F1.kp,F1.binds (bd.at hr),.inl ⟨r.lm,r.N,r.st,r.b,?_,F1,T20 b4,b3,b2,b1,λhlm=>?_⟩⟩
  ·unfold tabOf
   rw[List.getElem?_map,hr2];rfl
  ·obtain⟨fR,fdR,L⟩:=l21 (P:=P) (w:=w) X Gn Q bm hR hr hlm
   exact⟨fR,fdR,L,hT r hr hlm fd ⟨fa,oc,od,sl,a1,lk⟩⟩
theorem Z11(X:K.In h)(Gn:h.Ns mainGlobals mg)(Q:Facts (y20 rows nums mn ex) K h)(ok:rows.all (M21 (x00 rows) nums)=true)(bd:k50 rows)(bm:BMain mg base)(hR:Z01 rows mn ex)(hT:m92 K rows)(F0:FT)(k:Nat)(hi:rows[i]?=some r)(F1:Fun K r.nm r.nm r.st fa fd)
  (hfd:∃ f oc od sl,PySem.W.nsIn K mainGlobals r.nm=some (some (.ref f))∧K.lookup f=some ⟨oc,od,.func fd,sl⟩):K00 P w K mg base (CX1 P w) (k + 3) fa fd r.ps (spF K (lev ⟨x00 rows,nums,F0,clsAt K,0⟩ (tabOf rows) (k + 3)) i r.ps.length):=by
 have hr:=mem_of_getElem? hi
 have rb:=List.all_eq_true.mp ok r hr
 unfold M21 at rb
 simp only[and_eq_true] at rb
 obtain⟨⟨⟨b1,b2⟩,b3⟩,b4⟩:=rb
 have all:=J41 (P:=P) (w:=w) X Gn Q ok bd bm hR hT F0
 refine k01 (G:=lev ⟨x00 rows,nums,F0,clsAt K,0⟩ (tabOf rows) (k + 2)) (F':=E10 (tabOf rows) (k + 3)) (all (k + 2)) F1 (T20 b4) b3 b1 b2 (λhlm=>?_) λl z=>?_
 ·obtain⟨fR,fdR,L⟩:=l21 (P:=P) (w:=w) X Gn Q bm hR hr hlm
  exact⟨k,fR,fdR,rfl,L,hT r hr hlm fd hfd,λf nm ps h=>(all k).gok f nm ps h⟩
 ·show(match (tabOf rows)[i]? with | some d=>run (E10 (tabOf rows) (k + 2)) d l | none=>M.no) z=_
  unfold tabOf
  rw[List.getElem?_map,hi];rfl
end
theorem l31{P:Program}{w:World}{K:PySem.W.Frag}{mg mb:Str→Option Value}{k:Nat}{fa a:Addr}{fd:FuncData}{x:Str}{sp:Sp}{s₁:Shared}{vs:List Value}{ns:List Int}{ts:List Addr}
  (KX:K.In s₁.heap) (hns:s₁.heap.Ns mainGlobals mg) (hb:s₁.heap.Ns builtinsNs mb) (hbb:∀ x:Str,x≠"__name__"→mb x=bootBuiltins x) (hlim:s₁.heap.NoLimit) (hg:s₁.gens=#[])
  (ha:s₁.heap.get? a=some { cls:=.type "list",data:=.seq vs.toArray }) (hi:IntsAre vs ns) (hl:ns.length≤sizeLine) (hr:p50 k callerA)
  (hT:∀ Pt∈ts,s₁.heap.get? Pt=some (PySem.W.tabObj #[])∧K.lookup Pt=none∧∃ c,PySem.W.codeHdIn K c Pt=true) (bmn:BMain mg s₁.heap)
  (F:∀ base:Heap,K.In base→base.Ns mainGlobals mg→BMain mg base→K00 P w K mg base CX0 k fa fd [x] sp) (hbind:∀ (s:Shared) (u:Value),BindsTo s fd ⟨[u],[]⟩ [(x,u)])
  (hsp:∀ H:Hp,(∀ Pt∈ts,H Pt=some (.tbl #[]))→l70 K H a (ns.map V.int)→sp [.ref a] H (λv _=>v=.bl true) λ_ _ _=>False) :
  codeAny (model P w) callerA (.call (.ref fa) ⟨[.ref a],[]⟩) (λr s'=>r=.ok (.ret (.bool true))∧OldK s₁.heap s'.heap∧s'.os=s₁.os∧AllBare s'.gens) s₁:=by
 have rv:=F60 hi
 have lenV:=hi.length
 have naT:a ∉ ts:=λh=>by have:=(hT a h).1;rw[ha] at this;cases this
 have core:∀ H:Hp,(∀ Pt∈ts,H Pt=some (.tbl #[]))→(∀ b,H b=none∨b∈ts∨(b=a∧∃ xs,H b=some (.frz { cls:=.type "list",data:=.seq vs.toArray } (.lst xs))))→l70 K H a (ns.map V.int)→HOk P w H s₁.heap→(H a≠none→K.lookup a=none) →
   codeAny (model P w) callerA (.call (.ref fa) ⟨[.ref a],[]⟩) (λr s'=>r=.ok (.ret (.bool true))∧OldK s₁.heap s'.heap∧s'.os=s₁.os∧AllBare s'.gens) s₁:=by
  intro H hH hO hS hok hK
  have plainN:∀ {b:Addr}{o:Obj},s₁.heap.get? b=some o→(∀ xs n,o.data≠.seq xs n)→(∀ xs,o.data≠.fields xs)→H b=none:=λ{b o} e d1 d2=>by
   rcases hO b with z | z | ⟨z,_⟩
   ·exact z
   ·have:=(hT b z).1
    rw[e] at this;cases this
    exact absurd rfl (d2 _)
   ·rw[z,ha] at e;cases e
    exact absurd rfl (d1 _ _)
  have nsK:∀ {b:Addr}{m:Str→Option Value},s₁.heap.Ns b m→(p51 s₁.heap H).Ns b m:=λ{b m} ⟨o,es,ep,e,d,r⟩=>⟨o,es,ep,z10 e (plainN e (λxs n z=>by rw[d] at z;cases z) λxs z=>by rw[d] at z;cases z),d,r⟩
  have hKb:K.In (p51 s₁.heap H):=λb o e=>z10 (KX b o e) (by
   rcases hO b with z | z | ⟨z,xs,z2⟩
   ·exact z
   ·rw[(hT b z).2.1] at e;cases e
   ·rw[z] at e z2
    rw[hK (by rw[z2];exact λy=>nomatch y)] at e;cases e)
  have hM:Mod K mg (p51 s₁.heap H):=⟨hKb,nsK hns,⟨mb,nsK hb,hbb⟩,let ⟨mc,h1,h2⟩:=hlim;⟨mc,nsK h1,h2⟩⟩
  have hBM:BMain mg (p51 s₁.heap H):=by
   obtain⟨bm,ob,b1,b2,b3,b4,b5,b6⟩:=bmn
   exact⟨bm,ob,b1,b2,z10 b3 (plainN b3 (λxs n z=>by rw[b6] at z;cases z) λxs z=>by rw[b6] at z;cases z),b4,b5,b6⟩
  have e0:C41 P w K mg (p51 s₁.heap H) callerA [] s₁ H:=⟨rfl,hM,λb o e=>B71 e,Nat.le_of_eq (Z60 _ _),trivial,λb hb=>absurd (show b∈([]:List Addr) from hb) (by simp),hok,.of_eq hg⟩
  refine codeAny_mono ((F _ hKb (nsK hns) hBM).run callerA [] s₁ H ⟨[.ref a],[]⟩ [.ref a] [.ref a] _ _ hr e0 (hbind s₁ (.ref a)) (.cons rfl .nil) (hsp H hH hS)) λr s' h=>?_
  cases r with
  |error e=>exact False.elim h
  |ok fl =>
   cases fl with
   |next=>exact False.elim h
   |brk=>exact False.elim h
   |cont=>exact False.elim h
   |ret u =>
    obtain⟨v,H',os,bare,un,hok',r',q⟩:=h
    have q':v=.bl true:=q
    subst q'
    obtain rfl:u=Value.bool true:=r'
    refine⟨rfl,⟨λb o e=>?_,λb o e=>un.there b o e (by simp)⟩,os,bare⟩
    rcases hO b with z | z | ⟨z,xs,z2⟩
    ·exact .inl (un.keep b o e z (by intro y;exact absurd (show b∈([]:List Addr) from y) (by simp)) (by simp))
    ·obtain⟨t1,_,c,t2⟩:=hT b z
     rw[e] at t1;cases t1
     obtain⟨more,m1⟩:=un.tbls b _ (hH b z)
     have m2:s'.heap.get? b=some { cls:=.none,data:=.fields (#[]++more) }:=hok' b _ m1
     have CH:=codeHd_of_K KX t2
     exact .inr (.inl ⟨(CH.tab e).isCodeTable,rfl,#[],more,rfl,m2⟩)
    ·have z3:=un.frzs b _ _ z2
     obtain⟨e1,_⟩:=hok b _ z2
     obtain⟨e2,_⟩:=hok' b _ z3
     rw[e] at e1;cases e1
     exact .inl e2
 cases hk:K.lookup a with
 |some o =>
  have e:=KX a o hk
  rw[ha] at e
  cases e
  refine core (λb=>if b∈ts then some (.tbl #[]) else none) (λPt h=>if_pos h) (λb=>?_) (.inr ⟨vs.toArray,_,hk,by rw[size_toArray,lenV];exact hl,by simpa using rv⟩) (λb u z=>?_) λz=>absurd (if_neg naT) z
  ·by_cases h:b∈ts
   ·exact .inr (.inl h)
   ·exact .inl (if_neg h)
  ·by_cases h:b∈ts
   ·have z':=(if_pos h).symm.trans z
    cases z'
    exact(hT b h).1
   ·have z':=(if_neg h).symm.trans z
    cases z'
 |none =>
  refine core (λb=>if b=a then some (.frz { cls:=.type "list",data:=.seq vs.toArray } (.lst (ns.map V.int))) else if b∈ts then some (.tbl #[]) else none) (λPt h=>?_) (λb=>?_) (.inl (.inr ⟨{ cls:=.type "list",data:=.seq vs.toArray },if_pos rfl⟩)) (λb u z=>?_) λ_=>hk
  ·rw[if_neg (λy=>naT (by rw[← y];exact h)),if_pos h]
  ·by_cases hb:b=a
   ·exact .inr (.inr ⟨hb,_,if_pos hb⟩)
   ·by_cases h:b∈ts
    ·exact .inr (.inl h)
    ·exact .inl (by rw[if_neg hb,if_neg h])
  ·by_cases hb:b=a
   ·have z':=(if_pos hb).symm.trans z
    cases z'
    subst hb
    exact⟨ha,by rw[length_map];exact hl,vs,_,rv,ha⟩
   ·replace z:=(if_neg hb).symm.trans z
    by_cases h:b∈ts
    ·have z':=(if_pos h).symm.trans z
     cases z'
     exact(hT b h).1
    ·have z':=(if_neg h).symm.trans z
     cases z'
theorem w41{l:PySem.W.OpenLaw}{n k:Nat}{q:Program}{loose:List Str}{XP:(Str→Option Value)→Heap→Prop}{d:DefRec}{A:j50}{x:Str}
  (hn:l.most=some n) (hn2:n≤sizeLine) (hdf:d.params.defaults=[]) (hr:p50 k callerA)
  (F:∀ (w:World) (mg:Str→Option Value) (fa:Addr) (h:Heap) (K:PySem.W.Frag),Facts A K h→K.In h→h.Ns mainGlobals mg→mg d.name=some (.ref fa) →
   ∃ (fd:FuncData) (ts:List Addr) (sp:Sp),(∀ Pt∈ts,h.get? Pt=some (PySem.W.tabObj #[])∧K.lookup Pt=none∧∃ c,PySem.W.codeHdIn K c Pt=true)∧(∀ (s:Shared) (u:Value),BindsTo s fd ⟨[u],[]⟩ [(x,u)]) ∧
    (∀ base:Heap,K.In base→base.Ns mainGlobals mg→BMain mg base→K00 l.prog w K mg base CX0 k fa fd [x] sp) ∧
    ∀ (H:Hp) (a:Addr) (ns:List Int),ns.length≤n→(∀ Pt∈ts,H Pt=some (.tbl #[]))→l70 K H a (ns.map V.int)→sp [.ref a] H (λv _=>v=.bl true) λ_ _ _=>False) :
  PySem.W.WalkO q loose XP A.hook.says l.row.toRowW d [] (λf vs=>PySem.call f vs):=by
 refine Att.K60 hn hdf λw s₀ s₁ mg mb fa o pm cd doc a vs ns G Y ho hd hcd hmg hobj hints hlen hg=>?_
 obtain⟨K,KX,FX⟩:=Y
 obtain⟨fd,ts,sp,hT,hb,hF,hsp⟩:=F w mg fa _ K FX KX G.T.g hmg
 exact l31 KX G.T.g G.T.b G.T.builtins G.T.nolimit hg hobj hints (Nat.le_trans hlen hn2) hr hT G.T.bmain hF hb λH hH hS=>hsp H a ns hlen hH hS
theorem J51{l:PySem.W.OpenLaw}{rows:List Row}{nums:List (Str × Int)}{mn:List Str}{ex:List (Str × Stmt)}{k iL n:Nat}{rL:Row}(ok:rows.all (M21 (x00 rows) nums)=true)(bd:k50 rows)(hL:rows[iL]?=some rL)(hn:rL.nm="law")(hp:rL.ps=[("_law_script":Str)])(hmn:mn.length≤1)(hR:Z01 rows mn ex)
  (pure:∀ ns:List Int,ns.length≤n→c20 (tabOf rows) (k + 3) iL [.d (.lst (ns.map D.int))] none=some (.ok (.d (.bl true)) none)) (w:World) (mg:Str→Option Value) (fa:Addr) (h:Heap) (K:PySem.W.Frag) (Q:Facts (y20 rows nums mn ex) K h) (X:K.In h) (Gn:h.Ns mainGlobals mg) (hfa:mg "law"=some (.ref fa)) :
   ∃ (fd:FuncData) (ts:List Addr) (sp:Sp),(∀ Pt∈ts,h.get? Pt=some (PySem.W.tabObj #[])∧K.lookup Pt=none∧∃ c,PySem.W.codeHdIn K c Pt=true)∧(∀ (s:Shared) (u:Value),BindsTo s fd ⟨[u],[]⟩ [("_law_script",u)]) ∧
    (∀ base:Heap,K.In base→base.Ns mainGlobals mg→BMain mg base→K00 l.prog w K mg base CX0 (k + 3) fa fd ["_law_script"] sp) ∧
    ∀ (H:Hp) (a:Addr) (ns:List Int),ns.length≤n→(∀ Pt∈ts,H Pt=some (.tbl #[]))→l70 K H a (ns.map V.int)→sp [.ref a] H (λv _=>v=.bl true) λ_ _ _=>False:=by
 have hrL:rL∈rows:=mem_of_getElem? hL
 obtain⟨fL,fdL,aL,FL,ocL,odL,slL,lkL⟩:=Q.fn (rL.nm,rL.st) (mem_append_left _ (List.mem_map.mpr ⟨rL,hrL,rfl⟩))
 have bL:=bd.at hrL
 have e:=hfa.symm.trans (mg_of X Gn (by rw[← hn];exact aL))
 cases e
 have bT:∀ (s:Shared) (u:Value),BindsTo s fdL ⟨[u],[]⟩ [("_law_script",u)]:=by
  obtain⟨_,_,kV,doc,pm,an,cdv,ct,_,e,_,_⟩:=FL.ex
  subst e
  intro s u
  have:=bL kV doc pm an cdv ct [u] (by rw[hp];rfl)
  rw[hp] at this
  exact .of_eq this
 have fin:∀ (TB:Tb) (ts:List Addr),(∀ p∈TB.tb,p.1∈ts)→(∀ Pt∈ts,h.get? Pt=some (PySem.W.tabObj #[])∧K.lookup Pt=none∧∃ c,PySem.W.codeHdIn K c Pt=true)→m92 K rows →
   ∃ (fd:FuncData) (ts:List Addr) (sp:Sp),(∀ Pt∈ts,h.get? Pt=some (PySem.W.tabObj #[])∧K.lookup Pt=none∧∃ c,PySem.W.codeHdIn K c Pt=true)∧(∀ (s:Shared) (u:Value),BindsTo s fd ⟨[u],[]⟩ [("_law_script",u)]) ∧
    (∀ base:Heap,K.In base→base.Ns mainGlobals mg→BMain mg base→K00 l.prog w K mg base CX0 (k + 3) fa fd ["_law_script"] sp) ∧
    ∀ (H:Hp) (a:Addr) (ns:List Int),ns.length≤n→(∀ Pt∈ts,H Pt=some (.tbl #[]))→l70 K H a (ns.map V.int)→sp [.ref a] H (λv _=>v=.bl true) λ_ _ _=>False:=λTB ts h1 h2 h3=>by
  refine⟨fdL,ts,λvs H Q _=>spF K (lev ⟨x00 rows,nums,λ_ _ _=>M.no,clsAt K,0⟩ (tabOf rows) (k + 3)) iL 1 vs H Q λ_ _ _=>False,h2,bT,λbase kb nb bm=>?_,λH a ns hl hH hS=>Y81 (pure ns hl) (λp hp=>hH p.1 (h1 p hp)) hS⟩
  have F:=ok0 (Z11 (P:=l.prog) (w:=w) X Gn Q ok bd bm hR h3 (λ_ _ _=>M.no) k hL FL ⟨fa,ocL,odL,slL,aL,lkL⟩)
  rw[hp] at F
  exact F
 match mn,hmn,Q with
 |[],_,Q =>
  exact fin ⟨[]⟩ [] (λp hp=>by cases hp) (λp hp=>by cases hp) λr hr hlm=>by
   have:=(hR r hr hlm).1
   cases this
 |[m],_,Q =>
  obtain⟨T,t1,t2,f,oc,od,fd,sl,c,t3,t4,t5,t6⟩:=Q.mt m (.head _)
  refine fin ⟨[(T,p72 m)]⟩ [T] (λp hp=>?_) (λp hp=>?_) λr hr hlm fd' h'=>?_
  ·cases List.mem_singleton.mp hp
   exact .head _
  ·cases List.mem_singleton.mp hp
   exact⟨t1,t2,c,t6⟩
  ·have hm:r.nm=m:=List.mem_singleton.mp (hR r hr hlm).1
   rw[hm] at h' ⊢
   obtain⟨f',oc',od',sl',e1,e2⟩:=h'
   rw[t3] at e1;cases e1
   rw[t4] at e2;cases e2
   exact⟨c,T,p72 m,t5,t6,λ_ _ _ _=>rfl,.head _,λp hp _=>by cases List.mem_singleton.mp hp;rfl⟩
end Q
namespace Q
open L2 (D)
open PySem (Paired)
def T30:Ex→Bool
 |.var _=>false
 |_=>true
def w22:Ex→Env→Option (Option S)
 |.var i,ρ=>ρ[i]?
 |_,_=>none
def p82:Option (Option S)→Option S
 |some (some s)=>noS s
 |_=>none
def blS:S→Option Bool
 |.d (.bl b)=>some b
 |_=>none
abbrev Du{α:Type}(_:α→Z→Prop)(_:Nat→Z→Prop):Type:=Unit
abbrev Dv{α:Type}(_:α→Prop):Type:=Unit
structure W{α:Type}(m:M α)(z:Z)(Q:α→Z→Prop)(E:Nat→Z→Prop)(du:Du Q E:=()):Prop where
 ex:∃ r,m z=some r∧match r with
  |.ok a z1=>Q a z1
  |.er c z1=>E c z1
theorem W_e{α:Type}{m:M α}{Q:α→Z→Prop}:W m z Q E↔∃ r,m z=some r∧match r with
  |.ok a z1=>Q a z1
  |.er c z1=>E c z1:=⟨W.ex,W.mk⟩
abbrev NE:Nat→Z→Prop:=λ_ _=>False
def Get{α:Type}(o:Option α)(P:α→Prop)(_:Dv P:=()):Prop:=match o with
 |some a=>P a
 |none=>False
theorem Z21{α:Type}{a:α}{P:α→Prop}:Get (some a) P↔P a:=Iff.rfl
theorem m40{α:Type}{o:Option α}{P:α→Prop}(h:Get o P):∃ a,o=some a∧P a:=by
 cases o with
 |none=>exact h.elim
 |some a=>exact⟨a,rfl,h⟩
theorem a40{α:Type}{o:Option α}{a:α}{P:α→Prop}(h:o=some a)(hp:P a):Get o P:=by rw[h];exact hp
theorem l41{α:Type}{o:Option α}{P P':α→Prop}(h:∀ a,P a↔P' a):Get o P↔Get o P':=by
 cases o with
 |none=>exact Iff.rfl
 |some a=>exact h a
section
variable {α β:Type}{m:M α}{z z1:Z}{Q Q':α→Z→Prop}{E E':Nat→Z→Prop}
theorem W.mono(h:W m z Q E)(hq:∀ a z,Q a z→Q' a z)(he:∀ c z,E c z→E' c z):W m z Q' E':=by
 obtain⟨r,e,h⟩:=h
 refine⟨r,e,?_⟩
 cases r with
 |ok a z1=>exact hq _ _ h
 |er c z1=>exact he _ _ h
theorem W.imp(h:W m z Q NE)(hq:∀ a z,Q a z→Q' a z):W m z Q' E':=h.mono hq λ_ _ h=>h.elim
theorem W.ok{a:α}(h:W m z (λb z2=>b=a∧z2=z1) NE):m z=some (.ok a z1):=by
 obtain⟨r,e,h⟩:=h
 cases r with
 |ok b z2=>obtain⟨rfl,rfl⟩:=h;exact e
 |er c z2=>exact h.elim
theorem W.er(h:W m z (λ_ _=>False) (λd z2=>d=c∧z2=z1)):m z=some (.er c z1):=by
 obtain⟨r,e,h⟩:=h
 cases r with
 |ok b z2=>exact h.elim
 |er d z2=>obtain⟨rfl,rfl⟩:=h;exact e
theorem p92{a:α}(h:m z=some (.ok a z1)):W m z Q E↔Q a z1:=by
 rw[W_e]
 constructor
 ·rintro ⟨r,e,q⟩
  rw[h] at e;cases e
  exact q
 ·exact λq=>⟨_,h,q⟩
theorem w32{c:Nat}(h:m z=some (.er c z1)):W m z Q E↔E c z1:=by
 rw[W_e]
 constructor
 ·rintro ⟨r,e,q⟩
  rw[h] at e;cases e
  exact q
 ·exact λq=>⟨_,h,q⟩
theorem N60{a:α}:W (M.ret a) z Q E↔Q a z:=p92 rfl
theorem Z31:W (M.no:M α) z Q E↔False:=⟨λ⟨_,e,_⟩=>(by cases e),False.elim⟩
theorem y30{f:α→M β}{Q:β→Z→Prop}:W (M.bind m f) z Q E↔W m z (λa z1=>W (f a) z1 Q E) E:=by
 constructor
 ·rintro ⟨r,e,q⟩
  unfold M.bind at e
  split at e
  ·rename_i a z1 e1
   exact⟨_,e1,r,e,q⟩
  ·rename_i c z1 e1
   cases e
   exact⟨_,e1,q⟩
  ·cases e
 ·rintro ⟨r,e,q⟩
  cases r with
  |ok a z1 =>
   obtain⟨r,e2,q⟩:=q
   refine⟨r,?_,q⟩
   unfold M.bind;rw[e];exact e2
  |er c z1 =>
   refine⟨.er c z1,?_,q⟩
   unfold M.bind;rw[e]
theorem A91:W (M.calm m) z Q E↔W m z Q NE:=by
 rw[W_e,W_e]
 unfold M.calm
 constructor
 ·rintro ⟨r,e,q⟩
  split at e
  ·rename_i a z1 e1
   cases e
   exact⟨_,e1,q⟩
  ·cases e
 ·rintro ⟨r,e,q⟩
  cases r with
  |ok a z1=>exact⟨.ok a z1,by rw[e],q⟩
  |er c z1=>exact q.elim
theorem J61(h:∀ a z,Q a z↔Q' a z):W m z Q E↔W m z Q' E:=⟨λx=>x.mono (λa z=>(h a z).mp) λ_ _ h=>h,λx=>x.mono (λa z=>(h a z).mpr) λ_ _ h=>h⟩
theorem wR{a:α}:Q a z↔W (M.ret a) z Q E:=N60.symm
theorem wN:False↔W (M.no:M α) z Q E:=Z31.symm
theorem wT{c:Prop}[Decidable c]{a b:M α}{A B:Prop}(h1:A↔W a z Q E)(h2:B↔W b z Q E):(if c then A else B)↔W (if c then a else b) z Q E:=by
 split <;> assumption
theorem wG{o:Option β}{f:β→M α}{K:β→Prop}(h:∀ a,K a↔W (f a) z Q E):Get o K↔W (M.bind (M.of o) f) z Q E:=by
 cases o with
 |none=>exact Z31.symm
 |some a=>exact h a
theorem wB{m:M β}{f:β→M α}{V:Prop}{K:β→Z→Prop}(h1:V↔W m z K E)(h2:∀ a z1,K a z1↔W (f a) z1 Q E):V↔W (M.bind m f) z Q E:=h1.trans ((J61 h2).trans y30.symm)
end
def Wm{α:Type}(o:Option (R α))(Q:α→Z→Prop)(E:Nat→Z→Prop):Prop:=match o with
 |some (.ok a z1)=>Q a z1
 |some (.er c z1)=>E c z1
 |none=>False
theorem wM{α:Type}{m:M α}{z:Z}{Q:α→Z→Prop}{E:Nat→Z→Prop}:Wm (m z) Q E↔W m z Q E:=by
 rw[W_e]
 unfold Wm
 cases h:m z with
 |none=>exact⟨False.elim,λ⟨_,e,_⟩=>by cases e⟩
 |some r =>
  refine⟨λq=>⟨r,rfl,?_⟩,λ⟨_,e,q⟩=>?_⟩
  ·cases r <;> exact q
  ·cases e;cases r <;> exact q
def Vr(o:Option (Option S))(z:Z)(Q:List S→Z→Prop)(_:Du Q NE:=()):Prop:=match o with
 |some (some s)=>Q [plS s] z
 |_=>False
def WV:FT→Ex→Env→Z→(List S→Z→Prop)→(Nat→Z→Prop)→Prop
 |F,.nil=>λρ z Q E=>Q [] z
 |F,.cons a r=>λρ z Q E=>WV F a ρ z (λx z1=>Get (one x) λs=>WV F r ρ z1 (λy z2=>Q (s::y) z2) E) E
 |F,.con x=>λρ z Q E=>Q [.d x] z
 |F,.gint g i=>λρ z Q E=>Q [.d (.int i)] z
 |F,.tup as=>λρ z Q E=>WV F as ρ z (λl z1=>Get (plA l) λds=>if ds.length≤most then Q [.d (.tup ds)] z1 else False) E
 |F,.lst as=>λρ z Q E=>WV F as ρ z (λl z1=>Get (plA l) λds=>if ds.length≤most then Q [.fr ds] z1 else False) E
 |F,.bin o a b=>λρ z Q E=>WV F a ρ z (λx z1=>Get (pl x) λdx=>WV F b ρ z1 (λy z2=>Get (pl y) λdy=>Get (Q50 o dx dy) λs=>Q [s] z2) E) E
 |F,.cmp o a b=>λρ z Q E=>WV F a ρ z (λx z1=>Get (pl x) λdx=>WV F b ρ z1 (λy z2=>Get (pl y) λdy=>Get (p90 o dx dy) λt=>Q [.d (.bl t)] z2) E) E
 |F,.neg a=>λρ z Q E=>WV F a ρ z (λx z1=>Get ((pl x).bind asI) λi=>Q [.d (.int (-i))] z1) E
 |F,.not a=>λρ z Q E=>WV F a ρ z (λx z1=>Get ((pl x).bind asB) λb=>Q [.d (.bl !b)] z1) E
 |F,.and a b=>λρ z Q E=>WV F a ρ z (λx z1=>Get ((pl x).bind asB) λc=>if c then WV F b ρ z1 (λy z2=>Get ((pl y).bind asB) λc=>Q [.d (.bl c)] z2) E else Q [.d (.bl false)] z1) E
 |F,.or a b=>λρ z Q E=>WV F a ρ z (λx z1=>Get ((pl x).bind asB) λc=>if c then Q [.d (.bl true)] z1 else WV F b ρ z1 (λy z2=>Get ((pl y).bind asB) λc=>Q [.d (.bl c)] z2) E) E
 |F,.orT a b=>λρ z Q E=>WV F a ρ z (λx z1=>Get ((pl x).bind R61) λl=>if l.isEmpty then WV F b ρ z1 (λy z2=>Get ((pl y).bind R61) λl=>Q [.d (.tup l)] z2) NE else Q [.d (.tup l)] z1) NE
 |F,.ite c a b=>λρ z Q E=>WV F c ρ z (λx z1=>Get ((pl x).bind asB) λc=>if c then WV F a ρ z1 Q E else WV F b ρ z1 Q E) E
 |F,.ch o o' a b c=>λρ z Q E=>WV F a ρ z (λx z1=>Get (pl x) λdx=>WV F b ρ z1 (λy z2=>Get (pl y) λdy=>Get (p90 o dx dy) λt=>if t then WV F c ρ z2 (λw z3=>Get (pl w) λdw=>Get (p90 o' dy dw) λt=>Q [.d (.bl t)] z3) E else Q [.d (.bl false)] z2) E) E
 |F,.bf f as=>λρ z Q E=>WV F as ρ z (λl z1=>Get (plA l) λds=>Get (bfD f ds) λs=>Q [s] z1) E
 |F,.isi t a=>λρ z Q E=>WV F a ρ z (λx z1=>Get (pl x) λx=>Q [.d (.bl (L71 t x))] z1) E
 |F,.idx a i=>λρ z Q E=>WV F a ρ z (λx z1=>Get (pl x) λdx=>WV F i ρ z1 (λy z2=>Get (pl y) λdy=>Get (Z10 dx dy) λr=>Q [.d r] z2) E) E
 |F,.sl a lo hi=>λρ z Q E=>WV F a ρ z (λx z1=>Get (pl x) λdx=>WV F lo ρ z1 (λu z2=>Get (f11 u) λu=>WV F hi ρ z2 (λv z3=>Get (f11 v) λv=>Get (slD dx u v) λs=>Q [s] z3) E) E) E
 |F,.call f as=>λρ z Q E=>WV F as ρ z (λl z1=>W (F false f (l.map plS)) z1 (λs z2=>Q [s] z2) E) E
 |F,.comp own capt p it src cond el=>λρ z Q E=>WV F src ρ z (λl z1=>Get ((plA l).bind (itD it)) λxs=>if xs.length≤most then W (turns (s10 (ev F cond) (ev F el) p (replicate own none++capt.map λi=>(ρ[i]?).getD none)) xs) z1 (λys z2=>Q [.fr ys] z2) NE else False) E
 |F,.lrng b as=>λρ z Q E=>WV F as ρ z (λl z1=>Get ((plA l).bind lrD) λxs=>Q [lrS b xs] z1) E
 |F,.refd capt a=>λρ z Q E=>Get (Z20 ρ capt) λss=>WV (λ_=>F true) a (ss.map some) z (λ_ _=>False) (λc z1=>if c < 12 then Q [.fr [.int c]] z1 else False)
 |F,.var i=>λρ z Q E=>Vr ρ[i]? z Q
 |F,.zget i k=>λρ z Q E=>Wm (f21 k ρ[i]? z) Q E
def WE(F:FT)(e:Ex)(ρ:Env)(z:Z)(Q:List S→Z→Prop)(E:Nat→Z→Prop)(_:Du Q E:=()):Prop:=WV F e ρ z Q E
def WX(F:FT)(tp:Bool):Sm→Env→Z→(O→Z→Prop)→(Nat→Z→Prop)→Prop
 |.nil=>λρ z Q E=>Q (.nx ρ) z
 |.seq s r=>λρ z Q E=>WX F tp s ρ z (λo z1=>match o with
  |.nx ρ=>WX F tp r ρ z1 Q E
  |.rt s=>Q (.rt s) z1) E
 |.set p e=>λρ z Q E=>WE F e ρ z (λl z1=>Get (one l) λs=>Get (G80 p s (i20 s ρ)) λρ'=>Q (.nx ρ') z1) E
 |.ret e=>λρ z Q E=>if T30 e then WE F e ρ z (λl z1=>Get ((one l).bind noS) λs=>Q (.rt s) z1) E else Get (p82 (w22 e ρ)) λs=>Q (.rt s) z
 |.iff c t e=>λρ z Q E=>WE F c ρ z (λx z1=>Get ((pl x).bind asB) λb=>if b then WX F tp t ρ z1 Q E else WX F tp e ρ z1 Q E) E
 |.exp e=>λρ z Q E=>WE F e ρ z (λl z1=>Get (one l) λ_=>Q (.nx ρ) z1) E
 |.rais c=>λρ z Q E=>E c z
 |.fr p it src b=>λρ z Q E=>WE F src ρ z (λl z1=>Get ((plA l).bind (itD it)) λxs=>W (K10 (λx ρ=>M.bind (M.of (e50 p x ρ)) λρ=>ex F tp b ρ) xs (F21 it src l ρ)) z1 Q E) E
 |.whl c b=>λρ z Q E=>W (z11 (ev F c) (ex F tp b) L81 ρ) z Q E
 |.lams i ls e t r=>λρ z Q E=>W (ex F tp (.lams i ls e t r) ρ) z Q E
 |.zset i e=>λρ z Q E=>WE F e ρ z (λl z1=>Get ((pl l).bind asI) λv=>Wm (f51 ρ v ρ[i]? z1) Q E) E
 |.app i e=>λρ z Q E=>Get (ownAt ρ i) λxs=>WE F e ρ z (λl z1=>Get (pl l) λx=>if bare x=true∧xs.length < most then Q (.nx (ρ.set i (some (.fr (xs++[x]))))) z1 else False) E
 |.apop i j e=>λρ z Q E=>Get (ownAt ρ i) λxs=>Get (ownAt ρ j) λys=>WE F e ρ z (λl z1=>Get ((pl l).bind asI) λk=>Get (f31 ρ i j xs ys k) λo=>Q o z1) E
 |.newz i f as=>λρ z Q E=>WE F (.call f as) ρ z (λl z1=>Wm (f41 tp ρ i l) Q E) E
 |.sti i ix e=>λρ z Q E=>WE F e ρ z (λl z1=>Get (pl l) λx=>Get (ownAt ρ i) λxs=>WE F ix ρ z1 (λj z2=>Get ((pl j).bind asI) λj=>Get (x50 xs j x) λxs=>if bare x=true then Q (.nx (ρ.set i (some (.fr xs)))) z2 else False) E) E
def WS(F:FT)(tp:Bool)(s:Sm)(ρ:Env)(z:Z)(Q:O→Z→Prop)(E:Nat→Z→Prop)(_:Du Q E:=()):Prop:=WX F tp s ρ z Q E
theorem Z41:W (ev F (.refd capt a) ρ) z Q E↔Get (Z20 ρ capt) λss=>W (ev (p20 F) a (ss.map some)) z (λ_ _=>False) (λc z1=>if c < 12 then Q [.fr [.int c]] z1 else False):=by
 show W (R81 (Z20 ρ capt) λρ'=>ev (p20 F) a ρ') z Q E↔_
 rw[W_e]
 unfold R81
 constructor
 ·rintro ⟨r,e,q⟩
  split at e
  ·cases e
  ·rename_i ss h1
   split at e
   ·rename_i c z1 h2
    split at e
    ·rename_i h3
     cases e
     refine a40 h1 ⟨_,h2,?_⟩
     dsimp only
     rw[if_pos h3];exact q
    ·cases e
   ·cases e
 ·intro h
  obtain⟨ss,h1,r,h2,q⟩:=m40 h
  cases r with
  |ok a z1=>exact q.elim
  |er c z1 =>
   dsimp only at q
   split at q
   ·rename_i h3
    refine⟨.ok [.fr [.int c]] z1,?_,q⟩
    rw[h1]
    dsimp only
    rw[h2]
    dsimp only
    rw[if_pos h3]
   ·exact q.elim
theorem Z51:∀ (e:Ex) {F:FT}{ρ:Env}{z:Z}{Q:List S→Z→Prop}{E:Nat→Z→Prop},WV F e ρ z Q E↔W (ev F e ρ) z Q E:=by
 intro e
 induction e with
 |nil=>intros;exact wR
 |cons a r ha hr=>intros;exact wB ha λx z1=>wG λs=>wB hr λy z2=>wR
 |var i =>
  intro F ρ z Q E
  show Vr ρ[i]? z Q↔W (match ρ[i]? with | some (some s)=>M.ret [plS s] | _=>M.no) z Q E
  generalize ρ[i]?=o
  match o with
  |some (some s)=>exact wR
  |some none=>exact wN
  |none=>exact wN
 |con x=>intros;exact wR
 |gint g i=>intros;exact wR
 |tup a ha=>intros;exact wB ha λl z1=>wG λds=>wT wR wN
 |lst a ha=>intros;exact wB ha λl z1=>wG λds=>wT wR wN
 |bin o a b ha hb=>intros;exact wB ha λx z1=>wG λdx=>wB hb λy z2=>wG λdy=>wG λs=>wR
 |cmp o a b ha hb=>intros;exact wB ha λx z1=>wG λdx=>wB hb λy z2=>wG λdy=>wG λs=>wR
 |neg a ha=>intros;exact wB ha λx z1=>wG λi=>wR
 |not a ha=>intros;exact wB ha λx z1=>wG λi=>wR
 |and a b ha hb=>intros;exact wB ha λx z1=>wG λc=>wT (wB hb λy z2=>wG λc=>wR) wR
 |or a b ha hb=>intros;exact wB ha λx z1=>wG λc=>wT wR (wB hb λy z2=>wG λc=>wR)
 |orT a b ha hb=>intros;refine Iff.trans ?_ A91.symm;exact wB ha λx z1=>wG λl=>wT (wB hb λy z2=>wG λl=>wR) wR
 |ite c a b hc ha hb=>intros;exact wB hc λx z1=>wG λc=>wT ha hb
 |ch o o' a b c ha hb hc=>intros;exact wB ha λx z1=>wG λdx=>wB hb λy z2=>wG λdy=>wG λt=>wT (wB hc λw z3=>wG λdw=>wG λt=>wR) wR
 |bf f a ha=>intros;exact wB ha λl z1=>wG λds=>wG λs=>wR
 |isi t a ha=>intros;exact wB ha λx z1=>wG λx=>wR
 |idx a i ha hi=>intros;exact wB ha λx z1=>wG λdx=>wB hi λy z2=>wG λdy=>wG λr=>wR
 |sl a l h ha hl hh=>intros;exact wB ha λx z1=>wG λdx=>wB hl λu z2=>wG λu=>wB hh λv z3=>wG λv=>wG λs=>wR
 |call f a ha=>intros;exact wB ha λl z1=>wB Iff.rfl λs z2=>wR
 |comp own capt p it src cond el hs hc he=>intros;exact wB hs λl z1=>wG λxs=>wT (wB A91.symm λys z2=>wR) wN
 |zget i k=>intros;exact wM (m:=f21 k _)
 |lrng b a ha=>intros;exact wB ha λl z1=>wG λxs=>wR
 |refd capt a ha=>intros;exact(l41 λss=>ha).trans Z41.symm
theorem c90{e:Ex}{F:FT}{ρ:Env}{z:Z}{Q:List S→Z→Prop}{E:Nat→Z→Prop}:WE F e ρ z Q E↔W (ev F e ρ) z Q E:=Z51 e
theorem n02{F:FT}{tp:Bool}{ρ:Env}{e:Ex}(h:T30 e=true):ex F tp (.ret e) ρ=M.bind (ev F e ρ) λl=>M.bind (M.of ((one l).bind noS)) λs=>M.ret (.rt s):=by
 cases e with
 |var i=>cases h
 |_=>rfl
theorem Z61{F:FT}{tp:Bool}:∀ (s:Sm) {ρ:Env}{z:Z}{Q:O→Z→Prop}{E:Nat→Z→Prop},WX F tp s ρ z Q E↔W (ex F tp s ρ) z Q E:=by
 intro s
 induction s with
 |nil=>intros;exact wR
 |seq s r hs hr =>
  intros
  refine wB hs λo z1=>?_
  cases o with
  |nx ρ=>exact hr
  |rt s=>exact wR
 |set p e=>intros;exact wB c90 λl z1=>wG λs=>wG λρ'=>wR
 |ret e =>
  intro ρ z Q E
  show(if T30 e then _ else _)↔_
  cases h:T30 e with
  |true =>
   refine(iff_of_eq (if_pos rfl)).trans ?_
   rw[n02 h]
   exact wB c90 λl z1=>wG λs=>wR
  |false =>
   cases e with
   |var i =>
    refine(iff_of_eq (if_neg Bool.false_ne_true)).trans ?_
    show Get (p82 ρ[i]?) _↔W (match ρ[i]? with | some (some s)=>M.bind (M.of (noS s)) λs=>M.ret (O.rt s) | _=>M.no) z Q E
    generalize ρ[i]?=o
    match o with
    |some (some s)=>exact wG λs=>wR
    |some none=>exact wN
    |none=>exact wN
   |_=>cases h
 |iff c t u ht hu=>intros;exact wB c90 λx z1=>wG λc=>wT ht hu
 |exp e=>intros;exact wB c90 λl z1=>wG λs=>wR
 |rais c=>intros;exact(w32 rfl).symm
 |fr p it src b ih=>intros;exact wB c90 λl z1=>wG λxs=>Iff.rfl
 |whl c b ih=>intros;exact Iff.rfl
 |lams i ls e t r iht ihr=>intros;exact Iff.rfl
 |zset i e=>intros;exact wB c90 λl z1=>wG λv=>wM (m:=f51 _ v _)
 |app i e=>intros;exact wG λxs=>wB c90 λl z1=>wG λx=>wT wR wN
 |apop i j e=>intros;exact wG λxs=>wG λys=>wB c90 λl z1=>wG λk=>wG λo=>wR
 |newz i f as=>intros;exact wB c90 λl z1=>wM (m:=λ_=>f41 tp _ i l)
 |sti i ix e=>intros;exact wB c90 λl z1=>wG λx=>wG λxs=>wB c90 λj z2=>wG λj=>wG λxs=>wT wR wN
theorem y40:WS F tp s ρ z Q E↔W (ex F tp s ρ) z Q E:=Z61 s
theorem WS.mono{s:Sm}{F:FT}{tp:Bool}{ρ:Env}{z:Z}{Q Q':O→Z→Prop}{E E':Nat→Z→Prop}(h:WS F tp s ρ z Q E)(hq:∀ a z,Q a z→Q' a z)(he:∀ c z,E c z→E' c z):WS F tp s ρ z Q' E':=y40.mpr (W.mono (y40.mp h) hq he)
theorem J71(Mid:Env→Z→Prop)(h:WS F tp s ρ z (λo z1=>match o with
  |.nx ρ=>Mid ρ z1
  |.rt s=>Q (.rt s) z1) E) (h2:∀ ρ z,Mid ρ z→WS F tp r ρ z Q E):WS F tp (.seq s r) ρ z Q E:=by
 refine WS.mono (s:=s) h (λo z1 h=>?_) λ_ _ h=>h
 cases o with
 |nx ρ=>exact h2 ρ z1 h
 |rt s=>exact h
section
variable {T:List Df}{k f ps ns:Nat}{b:Sm}{l:List S}{z:Z}{Q:S→Z→Prop}{E:Nat→Z→Prop}
theorem Z71(h:T[f]?=some (.code ps ns b))(hl:l.length=ps)(hn:ps≤ns):W (c20 T (k + 3) f l) z Q E↔WS (E10 T (k + 2)) z.isNone b (start ns (l.map plS)) z (λo z1=>match o with
  |.nx _=>Q (.d .non) (w90 z z1)
  |.rt s=>Q s (w90 z z1)) λc z1=>E c (w90 z z1):=by
 refine Iff.trans ?_ y40.symm
 rw[L70,h]
 show W (λz=>if l.length=ps∧ps≤ns then(match ex (E10 T (k + 2)) z.isNone b (start ns (l.map plS)) z with
  |some (.ok (.nx _) z1)=>some (R.ok (S.d .non) (w90 z z1))
  |some (.ok (.rt s) z1)=>some (.ok s (w90 z z1))
  |some (.er c z1)=>some (.er c (w90 z z1))
  |none=>none) else none) z Q E↔_
 rw[W_e,W_e]
 constructor
 ·rintro ⟨r,e,q⟩
  rw[if_pos ⟨hl,hn⟩] at e
  split at e
  ·rename_i ρ z1 e1
   cases e
   exact⟨_,e1,q⟩
  ·rename_i s z1 e1
   cases e
   exact⟨_,e1,q⟩
  ·rename_i c z1 e1
   cases e
   exact⟨_,e1,q⟩
  ·cases e
 ·rintro ⟨r,e,q⟩
  rw[if_pos ⟨hl,hn⟩,e]
  match r,q with
  |.ok (.nx ρ) z1,q=>exact⟨_,rfl,q⟩
  |.ok (.rt s) z1,q=>exact⟨_,rfl,q⟩
  |.er c z1,q=>exact⟨_,rfl,q⟩
end
section
variable {F:FT}{tp:Bool}{ρ:Env}{z:Z}{E:Nat→Z→Prop}
theorem N70{f:D→M (Option D)}{o:D→Option D}:∀ {xs:List D}{Q:List D→Z→Prop},(∀ x∈xs,f x z=some (.ok (o x) z))→(W (turns f xs) z Q E↔Q (xs.filterMap o) z)
 |[],Q,_=>N60
 |x::r,Q,h=>by
  show W (M.bind (f x) _) z Q E↔_
  rw[y30,p92 (h x mem_cons_self),y30,N70 λy hy=>h y (mem_cons_of_mem _ hy),N60]
  rw[filterMap_cons]
  cases o x <;> rfl
theorem B01(I:List D→Env→Z→Prop):∀ (xs:List D) {ρ:Env}{z:Z},I xs ρ z→(∀ x r ρ z,I (x::r) ρ z→W (f x ρ) z (λo z1=>match o with
  |.nx ρ=>I r ρ z1
  |.rt s=>Q (.rt s) z1) E)→(∀ ρ z,I [] ρ z→Q (.nx ρ) z)→W (K10 f xs ρ) z Q E
 |[],ρ,z,hi,_,q=>N60.mpr (q _ _ hi)
 |x::r,ρ,z,hi,h,q=>by
  show W (M.bind (f x ρ) _) z Q E
  rw[y30]
  refine(h x r ρ z hi).mono (λo z1 ho=>?_) λ_ _ h=>h
  cases o with
  |nx ρ1=>exact B01 I r ho h q
  |rt s=>exact N60.mpr ho
theorem Z81{c:Env→M (List S)}{f:Env→M O}{Q:O→Z→Prop}(I:Nat→Env→Z→Prop)(step:∀ n ρ z,I n ρ z→W (c ρ) z (λx z1=>Get ((pl x).bind asB) λk=>if k then W (f ρ) z1 (λo z2=>match o with
  |.nx ρ=>∃ m,m < n∧I m ρ z2
  |.rt s=>Q (.rt s) z2) E else Q (.nx ρ) z1) E):∀ (n m:Nat) {ρ:Env}{z:Z},I n ρ z→n < m→W (z11 c f m ρ) z Q E:=by
 intro n
 induction n using Nat.strongRecOn with
 |ind n ih =>
  intro m ρ z hi hm
  cases m with
  |zero=>omega
  |succ m =>
   show W (M.bind (c ρ) _) z Q E
   rw[y30]
   refine(step n ρ z hi).mono (λx z1 h=>?_) λ_ _ h=>h
   obtain⟨k,e,h⟩:=m40 h
   refine(wG (K:=λk=>if k=true then W (M.bind (f ρ) _) z1 Q E else W (M.ret (O.nx ρ)) z1 Q E) λk=>wT Iff.rfl Iff.rfl).mp (a40 e ?_)
   cases k with
   |true =>
    rw[if_pos rfl] at h ⊢
    rw[y30]
    refine h.mono (λo z2 h=>?_) λ_ _ h=>h
    cases o with
    |nx ρ1 =>
     obtain⟨j,hj,hi⟩:=h
     exact ih j hj m hi (by omega)
    |rt s=>exact N60.mpr h
   |false =>
    rw[if_neg Bool.false_ne_true] at h ⊢
    exact N60.mpr h
end
mutual
noncomputable def cE:D→Ex
 |.tup l=>.tup (cEs l)
 |.lst l=>.lst (cEs l)
 |.int i=>if i < 0 then .neg (.con (.int (-i))) else .con (.int i)
 |x=>.con x
noncomputable def cEs:List D→Ex
 |[]=>.nil
 |x::r=>.cons (cE x) (cEs r)
end
mutual
noncomputable def okC:D→Bool
 |.tup l=>decide (l.length≤most)&&n12 l
 |.lst l=>decide (l.length≤most)&&n12 l
 |_=>true
noncomputable def n12:List D→Bool
 |[]=>true
 |x::r=>okC x&&n12 r
end
def cX(d:D)(_:okC d=true):Ex:=cE d
section
variable {F:FT}{ρ:Env}{z:Z}{Q:List S→Z→Prop}{E:Nat→Z→Prop}{a b c as:Ex}{p:Pat}{ρ0:Env}{x:D}{Q1:Option D→Z→Prop}
theorem J81:W (s10 (ev F .nil) (ev F a) p ρ0 x) z Q1 E↔Get (e50 p x ρ0) λρ=>WE F a ρ z (λy z1=>Get (pl y) λd=>Q1 (some d) z1) E :=
 (wG λρ=>show _↔W (M.bind (ev F a ρ) λy=>M.bind (M.of (pl y)) λy=>M.ret (some y)) z Q1 E from wB c90 λy z1=>wG λd=>wR).symm
theorem Z91{l:List S}{m:M (List S)}{V:Prop}(h:V↔W (M.bind m λy=>M.bind (M.of (pl y)) λy=>M.ret (some y)) z Q1 E):(match l with | [s]=>Get (blS s) λb=>if b then V else Q1 none z | _=>l=[]∧V)↔W (match l with
  |[]=>M.bind m λy=>M.bind (M.of (pl y)) λy=>M.ret (some y)
  |[.d (.bl true)]=>M.bind m λy=>M.bind (M.of (pl y)) λy=>M.ret (some y)
  |[.d (.bl false)]=>M.ret none
  |_=>M.no) z Q1 E:=by
 match l with
 |[]=>exact⟨λx=>h.mp x.2,λx=>⟨rfl,h.mpr x⟩⟩
 |[.d (.bl true)]=>exact Z21.trans ((iff_of_eq (if_pos rfl)).trans h)
 |[.d (.bl false)]=>exact Z21.trans ((iff_of_eq (if_neg Bool.false_ne_true)).trans wR)
 |[.d .non]=>exact wN
 |[.d (.int _)]=>exact wN
 |[.d (.str _)]=>exact wN
 |[.d (.tup _)]=>exact wN
 |[.d (.lst _)]=>exact wN
 |[.d .dct]=>exact wN
 |[.fr _]=>exact wN
 |[.z]=>exact wN
 |s::_::_ =>
  refine⟨λx=>(by cases x.1),λx=>?_⟩
  cases s with
  |d y =>
   cases y with
   |bl b=>cases b <;> exact(Z31.mp x).elim
   |_=>exact(Z31.mp x).elim
  |_=>exact(Z31.mp x).elim
theorem J91:W (s10 (ev F (.cons c .nil)) (ev F a) p ρ0 x) z Q1 E↔Get (e50 p x ρ0) λρ=>WE F c ρ z (λy z1=>Get (one y) λs=>Get (blS s) λb=>if b then WE F a ρ z1 (λy z2=>Get (pl y) λd=>Q1 (some d) z2) E else Q1 none z1) E:=by
 refine Iff.symm (wG λρ=>?_)
 refine wB (c90 (F:=F) (e:=.cons c .nil) (ρ:=ρ) (Q:=λl z1=>match l with | [s]=>Get (blS s) λb=>if b then WE F a ρ z1 (λy z2=>Get (pl y) λd=>Q1 (some d) z2) E else Q1 none z1 | _=>l=[]∧WE F a ρ z1 (λy z2=>Get (pl y) λd=>Q1 (some d) z2) E)) λl z1=>?_
 exact Z91 (wB c90 λy z1=>wG λd=>wR)
end
section
variable {α:Type}{m:M α}{z z1:Z}{Q Q':α→Z→Prop}{E:Nat→Z→Prop}
theorem Wo(h:m z=some (.ok a z1))(q:Q a z1):W m z Q E:=⟨_,h,q⟩
theorem We(h:m z=some (.er c z1))(q:E c z1):W m z Q E:=⟨_,h,q⟩
end
theorem p30{T:List Df}{k f ps ns:Nat}{b:Sm}{l:List S}{z:Z}{Q:S→Z→Prop}{E:Nat→Z→Prop}(h:T[f]?=some (.code ps ns b))(hl:l.length=ps)(hn:ps≤ns)(q:WS (E10 T (k + 2)) z.isNone b (start ns (l.map plS)) z (λo z1=>match o with
  |.nx _=>Q (.d .non) (w90 z z1)
  |.rt s=>Q s (w90 z z1)) λc z1=>E c (w90 z z1)):W (c20 T (k + 3) f l) z Q E:=(Z71 h hl hn).mpr q
theorem ib{b:Bool}{A B:Prop}(ht:b=true→A)(hf:b=false→B):if b=true then A else B:=by
 cases b with
 |true=>exact ht rfl
 |false=>exact hf rfl
theorem it{b:Bool}{A B:Prop}(h:b=true)(a:A):if b=true then A else B:=by rw[if_pos h];exact a
theorem ie{b:Bool}{A B:Prop}(h:b=false)(a:B):if b=true then A else B:=by rw[h];exact a
theorem ip{c:Prop}[Decidable c]{A B:Prop}(h:c)(a:A):if c then A else B:=by rw[if_pos h];exact a
theorem g30(z:Z):w90 z z=z:=by cases z <;> rfl
theorem sd{s t:S}{z:Z}(h:s=t):s=t∧w90 z z=z:=⟨h,g30 z⟩
theorem sb(h:b=c):S.d (.bl b)=S.d (.bl c)∧w90 z z=z:=sd (by rw[h])
section
variable {F:FT}{tp:Bool}{z:Z}{E:Nat→Z→Prop}{p:Pat}
theorem N80(I:List D→Env→Z→Prop)(xs:List D)(hi:I xs ρ z)(h:∀ x r ρ z,I (x::r) ρ z→Get (e50 p x ρ) λρ=>WS F tp b ρ z (λo z1=>match o with
  |.nx ρ=>I r ρ z1
  |.rt s=>Q (.rt s) z1) E) (q:∀ ρ z,I [] ρ z→Q (.nx ρ) z):W (K10 (λx ρ=>M.bind (M.of (e50 p x ρ)) λρ=>ex F tp b ρ) xs ρ) z Q E :=
 B01 I xs hi (λx r ρ z hi=>(wG λρ=>y40).mp (h x r ρ z hi)) q
theorem n22(I:Nat→Env→Z→Prop)(n:Nat)(hi:I n ρ z)(hn:n < L81)(h:∀ n ρ z,I n ρ z→WE F c ρ z (λx z1=>Get ((pl x).bind asB) λk=>if k then WS F tp b ρ z1 (λo z2=>match o with
  |.nx ρ=>∃ m,m < n∧I m ρ z2
  |.rt s=>Q (.rt s) z2) E else Q (.nx ρ) z1) E):W (z11 (ev F c) (ex F tp b) L81 ρ) z Q E:=by
 refine Z81 I (λn ρ z hi=>?_) n L81 hi hn
 refine(c90.mp (h n ρ z hi)).mono (λx z1 h=>?_) λ_ _ h=>h
 obtain⟨k,e,h⟩:=m40 h
 refine a40 e ?_
 cases k with
 |true=>exact y40.mp h
 |false=>exact h
variable {ρ0:Env}{cond el:Ex}{xs:List D}{Q:List D→Z→Prop}
theorem l51(o:D→D)(h:∀ x∈xs,Get (e50 p x ρ0) λρ=>WE F el ρ z (λy z1=>Get (pl y) λd=>d=o x∧z1=z) NE)(q:Q (xs.map o) z):W (turns (s10 (ev F .nil) (ev F el) p ρ0) xs) z Q E:=by
 refine(N70 (o:=λx=>some (o x)) λx hx=>?_).mpr ?_
 ·refine W.ok (J81.mpr ?_)
  obtain⟨ρ,e,h⟩:=m40 (h x hx)
  refine a40 e (c90.mpr ((c90.mp h).imp λy z1 h=>?_))
  obtain⟨d,e,rfl,rfl⟩:=m40 h
  exact a40 e ⟨rfl,rfl⟩
 ·rw[show xs.filterMap (λx=>some (o x))=xs.map o from congrFun (List.filterMap_eq_map (f:=o)) xs];exact q
theorem n32{c:D→Bool}{o:D→D}:∀ xs:List D,xs.filterMap (λx=>if c x then some (o x) else none)=(xs.filter c).map o
 |[]=>rfl
 |x::r=>by
  rw[filterMap_cons,filter_cons]
  cases hc:c x with
  |false=>exact n32 r
  |true=>exact congrArg (o x::·) (n32 r)
theorem q02(c:D→Bool)(o:D→D)(h:∀ x∈xs,Get (e50 p x ρ0) λρ=>WE F cond ρ z (λy z1=>Get (one y) λs=>s=.d (.bl (c x))∧z1=z∧(c x=true→WE F el ρ z (λy z1=>Get (pl y) λd=>d=o x∧z1=z) NE)) NE)(q:Q ((xs.filter c).map o) z):W (turns (s10 (ev F (.cons cond .nil)) (ev F el) p ρ0) xs) z Q E:=by
 refine(N70 (o:=λx=>if c x then some (o x) else none) λx hx=>?_).mpr ?_
 ·refine W.ok (J91.mpr ?_)
  obtain⟨ρ,e,h⟩:=m40 (h x hx)
  refine a40 e (c90.mpr ((c90.mp h).imp λy z1 h=>?_))
  obtain⟨s,e,rfl,rfl,h⟩:=m40 h
  refine a40 e ?_
  show if c x=true then _ else _
  cases hc:c x with
  |false=>exact⟨rfl,rfl⟩
  |true =>
   refine c90.mpr ((c90.mp (h hc)).imp λy z1 h=>?_)
   obtain⟨d,e,rfl,rfl⟩:=m40 h
   exact a40 e ⟨rfl,rfl⟩
 ·rw[n32];exact q
end
end Q
namespace K3
open PySem L2 Q
def top(i:Nat):Stmt:=PySem.Challenge.pw_tiechances_k40_webs_cut_and_drawn.main.body.getD i (.Pass ⟨0,0,0,0⟩)
def nums:List (Str × Int):=[(("MOST_PLACES":Str),(6:Int)),(("MOST_TIES":Str),(8:Int))]
abbrev v0:Ex:=.var 0
abbrev v1:Ex:=.var 1
abbrev v2:Ex:=.var 2
abbrev v3:Ex:=.var 3
abbrev v4:Ex:=.var 4
abbrev v5:Ex:=.var 5
abbrev v6:Ex:=.var 6
abbrev v7:Ex:=.var 7
abbrev v8:Ex:=.var 8
abbrev v9:Ex:=.var 9
abbrev n0:Ex:=.con (.int 0)
abbrev n1:Ex:=.con (.int 1)
abbrev n2:Ex:=.con (.int 2)
abbrev c1(a:Ex):Ex:=.cons a .nil
abbrev c2(a b:Ex):Ex:=.cons a (.cons b .nil)
abbrev c3(a b c:Ex):Ex:=.cons a (.cons b (.cons c .nil))
abbrev c4(a b c d:Ex):Ex:=.cons a (.cons b (.cons c (.cons d .nil)))
abbrev c5(a b c d e:Ex):Ex:=.cons a (.cons b (.cons c (.cons d (.cons e .nil))))
abbrev s1(a:Sm):Sm:=.seq a .nil
abbrev p2(a b:Pat):Pat:=.tup (.cons a (.cons b .nil))
abbrev q30:Nat:=0
abbrev m00:Nat:=1
abbrev T40:Nat:=2
abbrev y50:Nat:=3
abbrev T50:Nat:=4
abbrev i60:Nat:=5
abbrev e60:Nat:=6
abbrev T60:Nat:=7
abbrev I20:Nat:=8
abbrev w30:Nat:=9
abbrev i30:Nat:=10
abbrev r10:Nat:=11
abbrev r20:Nat:=12
abbrev q40:Nat:=13
abbrev m50:Nat:=14
abbrev r30:Nat:=15
abbrev b80:Nat:=16
abbrev r40:Nat:=17
abbrev y60:Nat:=18
abbrev g40:Nat:=19
abbrev m60:Nat:=20
abbrev m70:Nat:=21
abbrev r50:Nat:=22
abbrev a02:Nat:=23
def y70:Sm:=(s1 (.ret (.and (.isi .int v0) (.not (.isi .bool v0)))))
def q50:Sm:=(s1 (.ret (.and (.call q30 (c1 v0)) (.ch .le .lt n0 v0 v1))))
def D10:Sm:=(.seq (.iff (.or (.not (.isi .tuple v0)) (.cmp .ne (.bf .len (c1 v0)) n2)) (s1 (.ret (.con (.bl false)))) .nil) (.seq (.set (p2 (.v 2) (.v 3)) v0) (s1 (.ret (.and (.call m00 (c2 v2 v1)) (.and (.call m00 (c2 v3 v1)) (.cmp .lt v2 v3)))))))
def q60:Sm:=(.seq (.iff (.or (.not (.isi .tuple v0)) (.cmp .gt (.bf .len (c1 v0)) (.gint "MOST_TIES" 8))) (s1 (.ret (.con (.bl false)))) .nil) (.seq (.iff (.not (.bf .all (c1 (.comp 1 [1] (.v 0) .seq (c1 v0) .nil (.call T40 (c2 v0 v1)))))) (s1 (.ret (.con (.bl false)))) .nil) (s1 (.ret (.bf .all (c1 (.comp 2 [] (p2 (.v 0) (.v 1)) .zip (c2 v0 (.sl v0 (c1 n1) .nil)) .nil (.cmp .le v0 v1))))))))
def D20:Sm:=(.seq (.iff (.or (.not (.isi .tuple v0)) (.cmp .ne (.bf .len (c1 v0)) n2)) (s1 (.ret (.con (.bl false)))) .nil) (.seq (.set (p2 (.v 1) (.v 2)) v0) (s1 (.ret (.and (.call q30 (c1 v1)) (.and (.ch .le .le n1 v1 (.gint "MOST_PLACES" 6)) (.call y50 (c2 v2 v1))))))))
def i70:Sm:=(s1 (.iff (.not (.call T50 (c1 v0))) (s1 (.rais 0)) .nil))
def e70:Sm:=(s1 (.iff (.not (.call m00 (c2 v1 (.bf .len (c1 (.idx v0 n1)))))) (s1 (.rais 4)) .nil))
def D30:Sm:=(s1 (.ret (.tup (c2 (.bf .min (c2 v0 v1)) (.bf .max (c2 v0 v1))))))
def w40:Sm:=(.seq (.set (p2 (.v 2) (.v 3)) v0) (s1 (.ret (.call T60 (c2 (.idx v1 v2) (.idx v1 v3))))))
def n20:Sm:=(s1 (.ret (.ite (.cmp .gt v0 v1) (.bin .sub v0 n1) v0)))
def k60:Sm:=(.seq (.exp (.call i60 (c1 v0))) (.seq (.exp (.call e60 (c2 v0 v1))) (.seq (.set (p2 (.v 2) (.v 3)) v0) (s1 (.ret (.tup (c2 v2 (.bin .add (.sl v3 .nil (c1 v1)) (.sl v3 (c1 (.bin .add v1 n1)) .nil)))))))))
def k70:Sm:=(.seq (.set (p2 (.v 2) (.v 3)) v1) (s1 (.ret (.ite (.cmp .eq v0 v3) v2 (.call w30 (c2 v0 v3))))))
def k80:Sm:=(s1 (.ret (.bf .sorted (c1 (.comp 2 [1,2] (p2 (.v 0) (.v 1)) .enum (c1 v0) (c1 (.cmp .ne v1 v3)) (.tup (c2 (.call I20 (c2 v1 v2)) v0)))))))
def q70:Sm:=(.seq (.exp (.call i60 (c1 v0))) (.seq (.exp (.call e60 (c2 v0 v1))) (.seq (.set (p2 (.v 2) (.v 3)) v0) (.seq (.set (.v 4) (.bf .tuple (c1 (.comp 1 [1,3] (.v 0) .rng1 (c1 v2) .nil (.call r10 (c2 v0 (.idx v2 v1))))))) (.seq (.set (.v 5) (.call r20 (c3 v3 v4 (.idx v3 v1)))) (.seq (.set (.v 6) (.tup (c2 (.bin .sub v2 n1) (.bf .tuple (c1 (.comp 2 [] (p2 (.v 0) (.v 1)) .seq (c1 v5) .nil v0)))))) (s1 (.ret (.tup (c3 v6 v4 (.bf .tuple (c1 (.comp 2 [] (p2 (.v 0) (.v 1)) .seq (c1 v5) .nil v1)))))))))))))
def e80:Sm:=(.seq (.iff (.cmp .lt v1 (.bf .len (c1 v0))) (s1 (.ret (.idx v0 v1))) .nil) (s1 (.ret n0)))
def h20:Sm:=(.seq (.set (.v 2) (.call m50 (c2 v0 v1))) (.seq (.iff (.cmp .ge v2 (.bin .pow (.con (.int 10)) (.con (.int 18)))) (s1 (.ret (.lst (c2 (.bin .sub v2 (.bin .pow (.con (.int 10)) (.con (.int 18)))) (.con (.bl true)))))) .nil) (s1 (.ret (.lst (c2 (.bin .mod v2 (.con (.int 2147483647))) (.con (.bl false))))))))
def n30:Sm:=(.seq (.iff (.zget 0 1) (.seq (.set (.v 2) (.bin .mod (.zget 0 0) v1)) (.seq (.zset 0 (.bin .fdiv (.zget 0 0) v1)) (s1 (.ret v2)))) .nil) (.seq (.zset 0 (.bin .mod (.bin .add (.bin .mul (.zget 0 0) (.con (.int 48271))) (.con (.int 29))) (.con (.int 2147483647)))) (.seq (.set (.v 3) (.bin .mod (.bin .add (.bin .add (.bin .mul (.zget 0 0) (.zget 0 0)) (.bin .mul (.con (.int 39373)) (.zget 0 0))) (.con (.int 7))) (.con (.int 2147483629)))) (.seq (.set (.v 3) (.bin .mod (.bin .add (.bin .mul v3 v3) (.bin .mul (.con (.int 16807)) v3)) (.con (.int 2147483587)))) (s1 (.ret (.bin .mod (.bin .fdiv v3 (.con (.int 8))) v1)))))))
def k90:Sm:=(.seq (.set (.v 2) (.lrng false (c1 v1))) (.seq (.set (.v 3) (.lst .nil)) (.seq (.whl (.cmp .ne v2 (.lst .nil)) (s1 (.apop 3 2 (.call b80 (c2 v0 (.bf .len (c1 v2))))))) (s1 (.ret (.bf .tuple (c1 v3)))))))
def q80:Sm:=(.seq (.set (.v 2) (.idx (cX (.lst [(.int 5),(.int 4),(.int 6),(.int 3),(.int 4),(.int 2),(.int 6),(.int 1)]) (by decide)) (.call b80 (c2 v0 (.con (.int 8)))))) (.seq (.set (.v 3) (.call r40 (c2 v0 v2))) (.seq (.set (.v 4) (.call b80 (c2 v0 (.con (.int 6))))) (.seq (.set (.v 5) (.lst .nil)) (.seq (.fr (.v 6) .rng2 (c2 n1 v2) (s1 (.app 5 (.tup (c2 (.idx v3 v6) (.idx v3 (.idx (.lst (.cons (.bin .sub v6 n1) (c5 (.bin .sub v6 n1) n0 (.bin .fdiv v6 n2) (.bin .sub v6 n1) n0))) v4))))))) (.seq (.iff (.and (.cmp .eq v4 n0) (.cmp .gt v2 n2)) (s1 (.app 5 (.tup (c2 (.idx v3 n0) (.idx v3 (.bin .sub v2 n1)))))) .nil) (.seq (.iff (.cmp .eq v4 (.con (.int 4))) (s1 (.set (.v 5) (.sl v5 (c1 n1) .nil))) .nil) (.seq (.fr (.v 7) .rng1 (c1 (.call b80 (c2 v0 (.con (.int 5))))) (.seq (.set (p2 (.v 8) (.v 9)) (.tup (c2 (.call b80 (c2 v0 v2)) (.call b80 (c2 v0 v2))))) (s1 (.iff (.cmp .ne v8 v9) (s1 (.app 5 (.tup (c2 v8 v9)))) .nil)))) (.seq (.iff (.and (.cmp .ne v5 (.lst .nil)) (.cmp .eq (.call b80 (c2 v0 (.con (.int 3)))) n0)) (s1 (.app 5 (.idx v5 (.call b80 (c2 v0 (.bf .len (c1 v5))))))) .nil) (.seq (.set (.v 5) (.sl v5 .nil (c1 v1))) (s1 (.ret (.tup (c2 v2 (.bf .tuple (c1 (.bf .sorted (c1 (.comp 2 [] (p2 (.v 0) (.v 1)) .seq (c1 v5) .nil (.tup (c2 (.bf .min (c2 v0 v1)) (.bf .max (c2 v0 v1)))))))))))))))))))))))
def i80:Sm:=(.seq (.iff (.isi .seq v1) (.seq (.iff (.or (.cmp .ne (.isi .tuple v0) (.isi .tuple v1)) (.cmp .ne (.isi .list v0) (.isi .list v1))) (s1 (.ret (.con (.bl false)))) .nil) (.seq (.iff (.cmp .ne (.bf .len (c1 v0)) (.bf .len (c1 v1))) (s1 (.ret (.con (.bl false)))) .nil) (s1 (.ret (.bf .all (c1 (.comp 2 [] (p2 (.v 0) (.v 1)) .zip (c2 v0 v1) .nil (.call g40 (c2 v0 v1))))))))) .nil) (s1 (.ret (.and (.cmp .eq v0 v1) (.cmp .eq (.isi .bool v0) (.isi .bool v1))))))
def h70:Sm:=(s1 (.ret (.idx (.lst (.cons (.bf .len (c1 (.idx v1 n1))) (.cons (.neg n1) (.cons (.con (.bl true)) (.cons (.con .non) (c5 (.con (.str "0")) (cX (.tup [(.int 0)]) (by decide)) (.bin .pow (.con (.int 10)) (.con (.int 29))) (.bin .add (.bf .len (c1 (.idx v1 n1))) n1) (.con (.bl false)))))))) (.call b80 (c2 v0 (.con (.int 9)))))))
def h80:Sm:=(.seq (.set (.v 1) (cX (.lst [.non,(.int 0),(.tup []),(.tup [(.int 0),(.tup [])]),(.tup [(.int 7),(.tup [])]),(.tup [(.bl true),(.tup [])]),(.tup [(.int 2),(.lst [])]),(.lst [(.int 2),(.tup [])]),(.tup [(.int 2),(.tup [(.tup [(.int 1),(.int 0)])])]),(.tup [(.int 2),(.tup [(.tup [(.int 0),(.int 0)])])])]) (by decide))) (.seq (.set (.v 1) (.bin .add v1 (cX (.lst [(.tup [(.int 2),(.tup [(.tup [(.int 0),(.int 2)])])]),(.tup [(.int 3),(.tup [(.tup [(.int 1),(.int 2)]),(.tup [(.int 0),(.int 1)])])]),(.tup [(.int 2),(.tup [(.tup [(.int 0),(.int 1),(.int 1)])])]),(.tup [(.int 2),(.tup [(.tup [(.int 0),(.bl true)])])]),(.tup [(.int 2)]),(.str "2:")]) (by decide)))) (.seq (.set (.v 1) (.bin .add v1 (.lst (.cons (.tup (c2 n2 (.bin .mul (cX (.tup [(.tup [(.int 0),(.int 1)])]) (by decide)) (.con (.int 9))))) (c5 (.con .dct) (cX (.tup [(.int 2),(.tup [(.lst [(.int 0),(.int 1)])])]) (by decide)) (cX (.tup [(.int 2),(.tup []),(.tup [])]) (by decide)) (cX (.tup [(.int 2),.non]) (by decide)) (cX (.tup [(.str "2"),(.tup [])]) (by decide))))))) (s1 (.ret (.idx v1 (.call b80 (c2 v0 (.con (.int 22))))))))))
def d30:Sm:=(.seq (.set (p2 (.v 2) (.v 3)) (.idx (.idx v0 n1) v1)) (.seq (.set (.v 4) (.comp 1 [] (.v 0) .rng1 (c1 (.idx v0 n0)) .nil v0)) (.seq (.fr (.v 5) .rng1 (c1 (.idx v0 n0)) (s1 (.iff (.cmp .eq v5 v3) (s1 (.sti 4 v5 v2)) (s1 (.iff (.cmp .gt v5 v3) (s1 (.sti 4 v5 (.bin .sub v5 n1))) .nil))))) (.seq (.set (.v 6) (.lst .nil)) (.seq (.fr (.v 7) .rng1 (c1 (.bf .len (c1 (.idx v0 n1)))) (.seq (.set (.v 8) (.bf .sorted (c1 (.comp 1 [4] (.v 0) .seq (c1 (.idx (.idx v0 n1) v7)) .nil (.idx v1 v0))))) (s1 (.iff (.cmp .ne (.idx v8 n0) (.idx v8 n1)) (s1 (.app 6 (.tup (c3 (.idx v8 n0) (.idx v8 n1) v7)))) .nil)))) (.seq (.set (.v 6) (.bf .sorted (c1 v6))) (.seq (.set (.v 9) (.bf .tuple (c1 (.comp 3 [] (.tup (.cons (.v 0) (.cons (.v 1) (.cons (.v 2) .nil)))) .seq (c1 v6) .nil (.tup (c2 v0 v1)))))) (s1 (.ret (.tup (c3 (.tup (c2 (.bin .sub (.idx v0 n0) n1) v9)) (.bf .tuple (c1 v4)) (.bf .tuple (c1 (.comp 3 [] (.tup (.cons (.v 0) (.cons (.v 1) (.cons (.v 2) .nil)))) .seq (c1 v6) .nil v2))))))))))))))
def w51:Sm:=(.seq (.fr (.v 1) .rng1 (c1 (.bf .max (c2 n1 (.bf .min (c2 (.bf .len (c1 v0)) (.con (.int 8))))))) (.seq (.newz 2 r30 (c2 v0 v1)) (.seq (.set (.v 3) (.call y60 (c2 v2 (.con (.int 8))))) (.seq (.fr (.v 4) .rng1 (c1 (.bf .len (c1 (.idx v3 n1)))) (.seq (.set (.v 5) (.tup (c2 (.idx v3 n0) (.bf .tuple (c1 (.comp 1 [3,4] (.v 0) .rng1 (c1 (.bf .len (c1 (.idx v3 n1)))) (c1 (.cmp .ne v0 v2)) (.idx (.idx v1 n1) v0))))))) (s1 (.fr (.v 6) .rng1 (c1 n2) (.seq (.iff (.not (.call g40 (c2 (.call i30 (c2 v3 v4)) v5))) (s1 (.ret (.con (.bl false)))) .nil) (s1 (.iff (.not (.call g40 (c2 (.call q40 (c2 v3 v4)) (.call r50 (c2 v3 v4))))) (s1 (.ret (.con (.bl false)))) .nil))))))) (.seq (.set (p2 (.v 7) (.v 8)) (.tup (c2 (.call m60 (c2 v2 v3)) (.call m70 (c1 v2))))) (.lams 9 [([3,7] ,(.call i30 (c2 v0 v1))),([3,7] ,(.call q40 (c2 v0 v1)))] (.bin .mul (cX (.lst [(.lst [(.int 4)])]) (by decide)) n2) (s1 (.ret (.con (.bl false)))) (.lams 9 [([7,8] ,(.call i30 (c2 v1 v0))),([7,8] ,(.call q40 (c2 v1 v0)))] (.bin .mul (cX (.lst [(.lst [(.int 0)])]) (by decide)) n2) (s1 (.ret (.con (.bl false)))) .nil))))))) (s1 (.ret (.con (.bl true)))))
def rows:List Row:=[(⟨"is_whole",["thing"],top 17,["thing"],y70,false⟩:Row),
 (⟨"is_below",["thing","many"],top 18,["thing","many"],q50,false⟩:Row),
 (⟨"is_tie",["thing","many"],top 19,["thing","many","a","b"],D10,false⟩:Row),
 (⟨"are_ties",["thing","many"],top 20,["thing","many"],q60,false⟩:Row),
 (⟨"is_web",["thing"],top 21,["thing","many","ties"],D20,false⟩:Row),
 (⟨"check_web",["thing"],top 22,["thing"],i70,false⟩:Row),
 (⟨"check_number",["web","thing"],top 23,["web","thing"],e70,false⟩:Row),
 (⟨"tie_of",["one","other"],top 24,["one","other"],D30,false⟩:Row),
 (⟨"renamed",["tie","names"],top 25,["tie","names","a","b"],w40,false⟩:Row),
 (⟨"closed_up",["place","gone"],top 26,["place","gone"],n20,false⟩:Row),
 (⟨"without",["web","number"],top 28,["web","number","many","ties"],k60,false⟩:Row),
 (⟨"name_drawn",["place","tie"],top 29,["place","tie","stays","goes"],k70,false⟩:Row),
 (⟨"drawn_ties",["ties","names","tie"],top 30,["ties","names","tie"],k80,false⟩:Row),
 (⟨"drawn",["web","number"],top 31,["web","number","many","ties","names","stay","fewer"],q70,false⟩:Row),
 (⟨"_law_cell_at",["_law_script","_law_k"],top 33,["_law_script","_law_k"],e80,false⟩:Row),
 (⟨"_law_state",["_law_script","_law_k"],top 34,["_law_script","_law_k","_law_cell"],h20,false⟩:Row),
 (⟨"_law_take",["_law_state_here","_law_many"],top 35,["_law_state_here","_law_many","_law_found","_law_stirred"],n30,false⟩:Row),
 (⟨"_law_mixed",["_law_state_here","_law_many"],top 36,["_law_state_here","_law_many","_law_left","_law_found"],k90,false⟩:Row),
 (⟨"_law_web",["_law_state_here","_law_most"],top 37,["_law_state_here","_law_most","_law_many","_law_names","_law_way","_law_ties","_law_at","_law_turn","_law_one","_law_other"],q80,false⟩:Row),
 (⟨"_law_same",["_law_found","_law_due"],top 38,["_law_found","_law_due"],i80,false⟩:Row),
 (⟨"_law_bad_tie",["_law_state_here","_law_web_here"],top 39,["_law_state_here","_law_web_here"],h70,false⟩:Row),
 (⟨"_law_bad_web",["_law_state_here"],top 40,["_law_state_here","_law_some"],h80,false⟩:Row),
 (⟨"_law_drawn",["_law_web_here","_law_number"],top 42,["_law_web_here","_law_number","_law_low","_law_high","_law_names","_law_place","_law_rows","_law_old","_law_ends","_law_ties"],d30,false⟩:Row),
 (⟨"law",["_law_script"],top 43,["_law_script","_law_k","_law_state_here","_law_web_here","_law_number","_law_fewer","_law_turn","_law_bad","_law_none","_law_calls"],w51,true⟩:Row)]
def T:List Df:=[(Df.code 1 1 y70:Df),(Df.code 2 2 q50:Df),(Df.code 2 4 D10:Df),(Df.code 2 2 q60:Df),(Df.code 1 3 D20:Df),(Df.code 1 1 i70:Df),(Df.code 2 2 e70:Df),(Df.code 2 2 D30:Df),(Df.code 2 4 w40:Df),(Df.code 2 2 n20:Df),(Df.code 2 4 k60:Df),(Df.code 2 4 k70:Df),(Df.code 3 3 k80:Df),(Df.code 2 7 q70:Df),(Df.code 2 2 e80:Df),(Df.code 2 3 h20:Df),(Df.code 2 4 n30:Df),(Df.code 2 4 k90:Df),(Df.code 2 10 q80:Df),(Df.code 2 2 i80:Df),(Df.code 2 2 h70:Df),(Df.code 1 2 h80:Df),(Df.code 2 10 d30:Df),(Df.code 1 10 w51:Df)]
theorem w42:tabOf rows=T:=rfl
end K3
namespace K3
open Q
open L2 (D)
def a12:D→Bool
 |.int _=>true
 |_=>false
theorem w50(k:Nat)(x:D)(z:Z):c20 T (k + 3) q30 [.d x] z=some (.ok (.d (.bl (a12 x))) z):=by
 cases z <;> cases x <;> rfl
def d00(x:D)(m:Int):Bool:=match x with
 |.int i=>decide (0≤i)&&decide (i < m)
 |_=>false
theorem i90(k:Nat)(x:D)(m:Int)(z:Z):c20 T (k + 4) m00 [.d x,.d (.int m)] z=some (.ok (.d (.bl (d00 x m))) z):=by
 refine W.ok (p30 (ps:=2) (ns:=2) (b:=q50) rfl rfl (by decide) (Wo (w50 (k:=k) x z) ?_))
 cases x with
 |int i=>exact ib (b:=decide (0≤i)) (λh=>sb (show decide (i < m)=(decide (0≤i)&&decide (i < m)) by rw[h];rfl)) λh=>sb (show false=(decide (0≤i)&&decide (i < m)) by rw[h];rfl)
 |_=>exact sb rfl
def p31(x:D)(m:Int):Bool:=match x with
 |.tup [a,b]=>d00 a m&&(d00 b m&&(match a,b with
  |.int i,.int j=>decide (i < j)
  |_,_=>false))
 |_=>false
theorem o90(h:d00 x m=true):∃ i,x=.int i∧0≤i∧i < m:=by
 cases x with
 |int i =>
  unfold d00 at h
  rw[and_eq_true,decide_eq_true_eq,decide_eq_true_eq] at h
  exact⟨i,rfl,h⟩
 |_=>cases h
theorem l61(k:Nat)(x:D)(m:Int)(z:Z):c20 T (k + 5) T40 [.d x,.d (.int m)] z=some (.ok (.d (.bl (p31 x m))) z):=by
 refine W.ok (p30 (ps:=2) (ns:=4) (b:=D10) rfl rfl (by decide) ?_)
 cases x with
 |tup l =>
  match l with
  |[a,b] =>
   refine Wo (i90 k a m z) (ib (b:=d00 a m) (λh1=>Wo (i90 k b m z) (ib (b:=d00 b m) (λh2=>?_) λh=>?_)) λh=>?_)
   ·obtain⟨i,rfl,_⟩:=o90 h1
    obtain⟨j,rfl,_⟩:=o90 h2
    exact sb (show decide (i < j)=(d00 (.int i) m&&(d00 (.int j) m&&decide (i < j))) by rw[h1,h2];rfl)
   ·exact sb (show false=(d00 a m&&(d00 b m&&_)) by rw[h1,h];rfl)
   ·exact sb (show false=(d00 a m&&_) by rw[h];rfl)
  |[]=>exact sb rfl
  |[_]=>exact sb rfl
  |_::_::_::_=>exact sb rfl
 |_=>exact sb rfl
theorem l71(l:List D)(p:D→Bool):bfD .all [.lst (l.map λx=>D.bl (p x))]=some (.d (.bl (l.all p))):=by
 have h:(l.map λx=>D.bl (p x)).mapM asB=some (l.map p):=by
  induction l with
  |nil=>rfl
  |cons x r ih =>
   rw[map_cons,List.mapM_cons,ih];rfl
 show((l.map λx=>D.bl (p x)).mapM asB).map _=_
 rw[h]
 simp[List.all_map]
theorem s90(l:List D)(n:Nat):cutD l (some (n:Int)) none=l.drop n:=by
 have h1:HT.sIx l.length 0 (some (n:Int))=min n l.length:=HT.b01 l.length 0 n
 unfold cutD
 rw[h1]
 show((l.drop (min n l.length)).take (l.length - min n l.length))=_
 rcases Nat.le_total n l.length with h | h
 ·rw[Nat.min_eq_left h,List.take_of_length_le (by rw[length_drop];omega)]
 ·rw[Nat.min_eq_right h,drop_length,List.take_nil,List.drop_of_length_le h]
theorem D40:∀ a b:List D,(s00 a b).length≤a.length
 |[],_=>Nat.le_refl _
 |_::_,[]=>zero_le _
 |_::r,_::q=>Nat.succ_le_succ (D40 r q)
theorem l81:∀ {a b:List D}{d:D},d∈s00 a b→∃ x∈a,∃ y∈b,d=.tup [x,y]
 |x::r,y::q,d,h=>by
  rcases List.mem_cons.mp h with h | h
  ·exact⟨x,mem_cons_self,y,mem_cons_self,h⟩
  ·obtain⟨u,hu,v,hv,e⟩:=l81 h
   exact⟨u,mem_cons_of_mem _ hu,v,mem_cons_of_mem _ hv,e⟩
def leD:D→Bool
 |.tup [.tup a,.tup b]=>(match L40 a,L40 b with
  |some ns,some ms=>HT.leB ns ms
  |_,_=>false)
 |_=>false
def T70(l:List D):Bool:=(s00 l (l.drop 1)).all leD
def N90(x:D)(m:Int):Bool:=match x with
 |.tup l=>decide (l.length≤8)&&(l.all (λt=>p31 t m)&&T70 l)
 |_=>false
theorem I30(h:p31 x m=true):∃ i j,x=.tup [.int i,.int j]∧0≤i∧i < j∧j < m:=by
 cases x with
 |tup l =>
  match l,h with
  |[a,b],h =>
   unfold p31 at h
   rw[and_eq_true,and_eq_true] at h
   obtain⟨h1,h2,h3⟩:=h
   obtain⟨i,rfl,i1,i2⟩:=o90 h1
   obtain⟨j,rfl,j1,j2⟩:=o90 h2
   exact⟨i,j,rfl,i1,of_decide_eq_true h3,j2⟩
 |_=>cases h
theorem s40(h:n≤1000):n≤most:=Nat.le_trans h (by decide)
theorem O00(k:Nat)(x:D)(m:Int)(z:Z):c20 T (k + 6) y50 [.d x,.d (.int m)] z=some (.ok (.d (.bl (N90 x m))) z):=by
 refine W.ok (p30 (ps:=2) (ns:=2) (b:=q60) rfl rfl (by decide) ?_)
 cases x with
 |tup l =>
  refine ib (b:=decide ((8:Int) < (l.length:Int))) (λh=>?_) λh=>?_
  ·refine sb (show false=(decide (l.length≤8)&&_) from ?_)
   rw[decide_eq_true_eq] at h
   rw[decide_eq_false (by omega)];rfl
  ·rw[decide_eq_false_iff_not] at h
   have h8:l.length≤8:=by omega
   refine ip (s40 (by omega)) (l51 (λx=>.bl (p31 x m)) (λx _=>Wo (l61 k x m z) ⟨rfl,rfl⟩) ?_)
   refine(a40 (l71 l λx=>p31 x m) ?_ :)
   refine ib (b:=!l.all λx=>p31 x m) (λh=>?_) λh2=>?_
   ·exact sb (show false=(decide (l.length≤8)&&(l.all (λt=>p31 t m)&&T70 l)) by rw[not_eq_true'] at h;rw[h,Bool.false_and,Bool.and_false])
   ·rw[Bool.not_eq_false'] at h2
    have ha:=List.all_eq_true.mp h2
    have e1:cutD l (some 1) none=l.drop 1:=s90 l 1
    refine ip (c:=(s00 l (cutD l (some 1) none)).length≤most) (Nat.le_trans (D40 _ _) (s40 (by omega))) (l51 (λx=>.bl (leD x)) (λx hx=>?_) (a40 (l71 _ leD) ?_ :))
    ·obtain⟨u,hu,v,hv,rfl⟩:=l81 hx
     rw[e1] at hv
     obtain⟨i,j,rfl,_⟩:=I30 (ha u hu)
     obtain⟨i',j',rfl,_⟩:=I30 (ha v (List.mem_of_mem_drop hv))
     exact⟨rfl,rfl⟩
    ·refine sb (b:=(s00 l (cutD l (some 1) none)).all leD) ?_
     show _=(decide (l.length≤8)&&(l.all (λt=>p31 t m)&&T70 l))
     rw[e1,h2,decide_eq_true h8,Bool.true_and,Bool.true_and];rfl
 |_=>exact sb rfl
def q12(a t:D):Bool:=match a with
 |.int m=>decide (1≤m)&&(decide (m≤6)&&N90 t m)
 |_=>false
def Z30(x:D):Bool:=match x with
 |.tup [a,t]=>q12 a t
 |_=>false
theorem I40(k:Nat)(x:D)(z:Z):c20 T (k + 7) T50 [.d x] z=some (.ok (.d (.bl (Z30 x))) z):=by
 refine W.ok (p30 (ps:=1) (ns:=3) (b:=D20) rfl rfl (by decide) ?_)
 cases x with
 |tup l =>
  match l with
  |[a,t] =>
   refine Wo (w50 (k + 3) a _) ?_
   cases a with
   |int m =>
    refine ib (b:=decide (1≤m)) (λg1=>ib (b:=decide (m≤6)) (λg2=>Wo (O00 k t m _) ?_) λg2=>?_) λg1=>?_
    ·exact sb (show N90 t m=(decide (1≤m)&&(decide (m≤6)&&N90 t m)) by rw[g1,g2];rfl)
    ·exact sb (show false=(decide (1≤m)&&(decide (m≤6)&&N90 t m)) by rw[g1,g2];rfl)
    ·exact sb (show false=(decide (1≤m)&&(decide (m≤6)&&N90 t m)) by rw[g1];rfl)
   |_=>exact sb rfl
  |[]=>exact sb rfl
  |[_]=>exact sb rfl
  |_::_::_::_=>exact sb rfl
 |_=>exact sb rfl
theorem h30(k:Nat)(z:Z)(h:Z30 x=true):c20 T (k + 8) i60 [.d x] z=some (.ok (.d .non) z) :=
 W.ok (p30 (ps:=1) (ns:=1) (b:=i70) rfl rfl (by decide) (Wo (I40 k x z) (ie (b:=!Z30 x) (by rw[h];rfl) (sd rfl))))
theorem r60(k:Nat)(z:Z)(h:Z30 x=false):c20 T (k + 8) i60 [.d x] z=some (.er 0 z) :=
 W.er (p30 (ps:=1) (ns:=1) (b:=i70) rfl rfl (by decide) (Wo (I40 k x z) (it (b:=!Z30 x) (by rw[h];rfl) ⟨rfl,g30 z⟩)))
theorem a22(hj:0 < j):Q50 .mod (.int i) (.int j)=some (.d (.int (i % j))):=by
 show(if 0 < j then some (S.d (.int (i % j))) else none)=_
 rw[if_pos hj]
def GT(n:Nat)(a b:Int):Prop:=0≤b∧((∃ k:Nat,n=2 * k + 1∧b < 2 ^ k)∨∃ k:Nat,n=2 * k∧b < a∧a < 2 ^ k)
theorem GT.step(h:GT n a b)(hb:0 < b):∃ m,m < n∧GT m b (a % b):=by
 obtain⟨h0,h⟩:=h
 have r0:=emod_nonneg a (show b≠0 by omega)
 have r1:=emod_lt_of_pos a hb
 rcases h with ⟨k,rfl,hk⟩ | ⟨k,rfl,hba,hk⟩
 ·exact⟨2 * k,lt_succ_self _,r0,.inr ⟨k,rfl,r1,hk⟩⟩
 ·cases k with
  |zero=>simp at hk;omega
  |succ k =>
   refine⟨2 * k + 1,by omega,r0,.inl ⟨k,rfl,?_⟩⟩
   have e:=Int.emod_add_mul_ediv a b
   have q1:1≤a / b:=Int.le_ediv_of_mul_le hb (by omega)
   have:b * 1≤b * (a / b):=Int.mul_le_mul_of_nonneg_left q1 (by omega)
   have h2:(2:Int) ^ (k + 1)=2 * 2 ^ k:=by rw[Int.pow_succ,Int.mul_comm]
   rw[h2] at hk
   omega
def big(b:Int):Prop:=b < 2 ^ 4000
def chI(t b:Int):Bool:=(decide (1≤b)&&decide (b≤1000))&&((decide (0≤t)&&decide (t≤b))&&(((gcd t b:Nat):Int) == 1))
def chP:D→D→Bool
 |.int t,.int b=>chI t b
 |_,_=>false
def chD:D→Bool
 |.tup [d,e]=>chP d e
 |_=>false
def ZI(z:Z):Prop:=∃ n b,z=some (n,b)∧0≤n∧(b=false→n < 2147483647)
theorem a32{T:List Df}{k f ps ns:Nat}{b:Sm}{l:List S}{z:Z}{Q:S→Z→Prop}{E:Nat→Z→Prop}(hz:ZI z)(h:T[f]?=some (.code ps ns b))(hl:l.length=ps)(hn:ps≤ns)(q:WS (E10 T (k + 2)) false b (start ns (l.map plS)) z (λo z1=>match o with
  |.nx _=>Q (.d .non) z1
  |.rt s=>Q s z1) E):W (c20 T (k + 3) f l) z Q E:=by
 obtain⟨n,c,rfl,_⟩:=hz
 refine p30 h hl hn (q.mono (λo z1 h=>?_) λ_ _ h=>h)
 cases o <;> exact h
theorem l91{a:Int}{n:Nat}(h:a.natAbs < n)(hn:n≤2 ^ 64:=by decide):a.natAbs < e81:=Nat.lt_of_lt_of_le h (Nat.le_trans hn (by decide))
theorem m01{i j:Int}(hi:i.natAbs < 2 ^ 64)(hj:j.natAbs < 2 ^ 64):Q50 .mul (.int i) (.int j)=some (.d (.int (i * j))):=by
 show(if i.natAbs < e81∧j.natAbs < e81 then some (S.d (.int (i * j))) else none)=_
 rw[if_pos ⟨l91 hi,l91 hj⟩]
theorem n42{i j:Int}(hj:0 < j)(hb:j.natAbs < 2 ^ 64):Q50 .fdiv (.int i) (.int j)=some (.d (.int (i / j))):=by
 show(if 0 < j∧j.natAbs < e81 then some (S.d (.int (i / j))) else none)=_
 rw[if_pos ⟨hj,l91 hb⟩]
def Drawn(m:Int)(s:S)(z1:Z):Prop:=ZI z1∧∃ r:Nat,s=.d (.int r)∧(r:Int) < m
theorem m80(k:Nat)(m:Int)(hz:ZI z)(m0:0 < m)(m1:m < 2 ^ 32):W (c20 T (k + 3) b80 [.z,.d (.int m)]) z (Drawn m) NE:=by
 have fin:∀ (a:Int) (z1:Z),ZI z1→Drawn m (.d (.int (a % m))) z1:=λa z1 h=>by
  have h0:=emod_nonneg a (show m≠0 by omega)
  exact⟨h,(a % m).toNat,by rw[Int.toNat_of_nonneg h0],by rw[Int.toNat_of_nonneg h0];exact emod_lt_of_pos _ m0⟩
 refine a32 hz (ps:=2) (ns:=4) (b:=n30) rfl rfl (by decide) ?_
 obtain⟨n,b,rfl,n0,n1⟩:=hz
 cases b with
 |true =>
  refine(a40 (a22 (i:=n) m0) ?_ :)
  refine(a40 (n42 (i:=n) m0 (by omega)) ?_ :)
  exact fin n _ ⟨n / m,true,rfl,Int.ediv_nonneg n0 (by omega),λh=>nomatch h⟩
 |false =>
  have n1:=n1 rfl
  have e1:∀ a:Int,0≤a % 2147483647∧a % 2147483647 < 2147483647:=λa=>⟨emod_nonneg _ (by decide),emod_lt_of_pos _ (by decide)⟩
  have e2:∀ a:Int,0≤a % 2147483629∧a % 2147483629 < 2147483629:=λa=>⟨emod_nonneg _ (by decide),emod_lt_of_pos _ (by decide)⟩
  have s1:∀ a:Int,(a % 2147483647).natAbs < 2 ^ 64:=λa=>by have:=e1 a;omega
  have s2:∀ a:Int,(a % 2147483629).natAbs < 2 ^ 64:=λa=>by have:=e2 a;omega
  refine(a40 (m01 (i:=n) (j:=48271) (by omega) (by decide)) ?_ :)
  have a1:=e1 (n * 48271 + 29)
  refine(a40 (m01 (s1 (n * 48271 + 29)) (s1 (n * 48271 + 29))) ?_ :)
  refine(a40 (m01 (i:=39373) (by decide) (s1 (n * 48271 + 29))) ?_ :)
  refine(a40 (m01 (s2 _) (s2 _)) ?_ :)
  refine(a40 (m01 (i:=16807) (by decide) (s2 _)) ?_ :)
  refine(a40 (a22 m0) ?_ :)
  exact fin _ _ ⟨_,false,rfl,a1.1,λ_=>a1.2⟩
theorem Y00(k:Nat)(ns:List Int)(j:Nat)(z:Z):∃ c:Int,c20 T (k + 3) m50 [.d (.lst (ns.map D.int)),.d (.int j)] z=some (.ok (.d (.int c)) z):=by
 by_cases h:j < ns.length
 ·refine⟨ns[j],W.ok (p30 (ps:=2) (ns:=2) (b:=e80) rfl rfl (by decide) (it (b:=decide ((j:Int) < ((ns.map D.int).length:Int))) (by simp[h]) ?_))⟩
  refine(a40 (o:=Z10 (.lst (ns.map D.int)) (.int j)) (L2.z80 (v:=.int ns[j]) (by simp[h])) ?_ :)
  exact sd rfl
 ·exact⟨0,W.ok (p30 (ps:=2) (ns:=2) (b:=e80) rfl rfl (by decide) (ie (b:=decide ((j:Int) < ((ns.map D.int).length:Int))) (by simp;omega) (sd rfl)))⟩
theorem w61(k:Nat)(ns:List Int)(j:Nat)(z:Z):∃ (n:Int) (b:Bool),ZI (some (n,b))∧c20 T (k + 4) r30 [.d (.lst (ns.map D.int)),.d (.int j)] z=some (.ok (.fr [.int n,.bl b]) z):=by
 obtain⟨c,hc⟩:=Y00 k ns j z
 by_cases h:(10 ^ 18:Int)≤c
 ·exact⟨c - 10 ^ 18,true,⟨_,_,rfl,by omega,λh=>nomatch h⟩,W.ok (p30 (ps:=2) (ns:=3) (b:=h20) rfl rfl (by decide) (Wo hc (it (b:=decide ((10 ^ 18:Int)≤c)) (decide_eq_true h) (sd rfl))))⟩
 ·refine⟨c % 2147483647,false,⟨_,_,rfl,emod_nonneg _ (by decide),λ_=>emod_lt_of_pos _ (by decide)⟩,W.ok (p30 (ps:=2) (ns:=3) (b:=h20) rfl rfl (by decide) (Wo hc (ie (b:=decide ((10 ^ 18:Int)≤c)) (decide_eq_false h) (sd rfl))))⟩
theorem O10(h0:0≤m)(h1:m < 100000):itD .rng1 [.int m]=some ((range m.toNat).map λ(i:Nat)=>D.int i):=by
 show(if inR m=true then _ else none)=_
 rw[if_pos (u60.mpr ⟨by omega,h1⟩)]
theorem ne_nil(h:okD (.lst l)=true):p90 .ne (.lst l) (.lst [])=some (!l.isEmpty):=by
 show(eqO (.lst l) (.lst [])).map (!·)=_
 unfold eqO
 rw[h]
 cases l <;> rfl
theorem m21:∀ l:List Int,g50 (l.map D.int)=true∧i10 (l.map D.int)=0
 |[]=>⟨rfl,rfl⟩
 |x::r=>by
  obtain⟨h1,h2⟩:=m21 r
  refine⟨h1,?_⟩
  show Nat.max 0 (i10 (r.map D.int))=0
  rw[h2];rfl
theorem m31(l:List Int):okD (.lst (l.map D.int))=true:=by
 obtain⟨h1,h2⟩:=m21 l
 show(g50 (l.map D.int)&&decide (i10 (l.map D.int) + 1≤40))=true
 rw[h1,h2];rfl
theorem w71(n:Nat):(range n).map (λ(i:Nat)=>D.int i)=((range n).map λ(i:Nat)=>(i:Int)).map D.int:=by
 rw[List.map_map];rfl
theorem r70(f:α→β):∀ (l:List α) (i:Nat),(l.map f).eraseIdx i=(l.eraseIdx i).map f
 |[],_=>rfl
 |x::r,0=>rfl
 |x::r,i + 1=>congrArg (f x::·) (r70 f r i)
theorem y80:∀ (l:List α) (j:Nat) (h:j < l.length),(l[j]::l.eraseIdx j).Perm l
 |x::r,0,_=>.refl _
 |x::r,j + 1,h=>(List.Perm.swap _ _ _).trans ((y80 r j (Nat.lt_of_succ_lt_succ h)).cons x)
theorem w60{l:List Int}{j:Nat}(h:j < l.length):(l.map D.int)[j]?=some (.int l[j]):=by rw[List.getElem?_map,List.getElem?_eq_getElem h];rfl
theorem w81{j:Nat}(h:l[j]?=some x):Z10 (.lst l) (.int j)=some x:=L2.z80 h
theorem Y10{j:Nat}(h:l[j]?=some x):Z10 (.tup l) (.int j)=some x:=L2.z80 h
theorem K01(k:Nat){m:Int}{z:Z}(hz:ZI z)(m0:1≤m)(m1:m≤100):W (c20 T (k + 4) r40 [.z,.d (.int m)]) z (λs z1=>ZI z1∧∃ l:List Int,s=.d (.tup (l.map D.int))∧(l.length:Int)=m∧(∀ x∈l,0≤x∧x < m)∧l.Nodup) NE:=by
 refine a32 hz (ps:=2) (ns:=4) (b:=k90) rfl rfl (by decide) ?_
 refine(a40 (o:=lrD [.int m]) (O10 (by omega) (by omega)) ?_ :)
 refine n22 (λn ρ z1=>ZI z1∧∃ left found:List Int,ρ=[some .z,some (.d (.int m)),some (.fr (left.map D.int)),some (.fr (found.map D.int))]∧n=left.length∧(left++found).Nodup∧(∀ x∈left++found,0≤x∧x < m)∧((left.length + found.length:Nat):Int)=m) m.toNat ?_ (by show m.toNat < 20000;omega) ?_
 ·refine⟨hz,(range m.toNat).map λ(i:Nat)=>(i:Int),[],?_,by simp,?_,?_,by simp;omega⟩
  ·rw[← w71];rfl
  ·rw[append_nil]
   exact List.pairwise_map.mpr (List.nodup_range.imp λh e=>h (Int.ofNat_inj.mp e))
  ·intro x hx
   rw[append_nil] at hx
   obtain⟨i,hi,rfl⟩:=List.mem_map.mp hx
   have:=List.mem_range.mp hi
   omega
 ·rintro n ρ z1 ⟨hz1,left,found,rfl,rfl,nd,hm,hl⟩
  refine(a40 (ne_nil (m31 left)) ?_ :)
  cases left with
  |nil=>exact⟨hz1,found,rfl,by simpa using hl,λx hx=>hm x (by simpa using hx),by simpa using nd⟩
  |cons x r =>
   have hl2:((r.length + 1 + found.length:Nat):Int)=m:=by simpa using hl
   refine(m80 k (((x::r).map D.int).length:Int) hz1 (by simp only[length_map,length_cons];omega) (by simp only[length_map,length_cons];omega)).imp λs z2 ⟨hz2,j,e,v1⟩=>?_
   subst e
   have hj:j < (x::r).length:=by simp only[length_map] at v1;omega
   have hget:((x::r).map D.int)[j]?=some (.int ((x::r)[j])):=w60 hj
   have ha:f31 [some .z,some (.d (.int m)),some (.fr ((x::r).map D.int)),some (.fr (found.map D.int))] 3 2 (found.map D.int) ((x::r).map D.int) j=some (.nx [some .z,some (.d (.int m)),some (.fr (((x::r).map D.int).eraseIdx j)),some (.fr (found.map D.int++[.int ((x::r)[j])]))]):=by
    unfold f31
    rw[if_pos ⟨by decide,by omega,u60.mpr (by simp only[length_cons] at hj;omega),by rw[length_map];simp only[most];omega⟩,toNat_natCast,hget]
    rfl
   refine a40 (o:=(pl [S.d (.int j)]).bind asI) (a:=(j:Int)) rfl (a40 ha ?_)
   refine⟨((x::r).eraseIdx j).length,?_,hz2,(x::r).eraseIdx j,found++[(x::r)[j]],?_,rfl,?_,?_,?_⟩
   ·rw[List.length_eraseIdx_of_lt hj];simp
   ·rw[r70,map_append];rfl
   ·have hp:(((x::r).eraseIdx j)++(found++[(x::r)[j]])).Perm ((x::r)++found):=by
     have h1:((x::r)[j]::(x::r).eraseIdx j).Perm (x::r):=y80 _ _ hj
     have h2:(((x::r).eraseIdx j)++(found++[(x::r)[j]])).Perm ((x::r)[j]::((x::r).eraseIdx j++found)):=by
      rw[← append_assoc]
      exact List.perm_append_singleton _ _
     exact h2.trans (h1.append_right found)
    exact hp.nodup_iff.mpr nd
   ·intro y hy
    refine hm y ?_
    simp only[List.mem_append,List.mem_singleton] at hy ⊢
    rcases hy with hy | hy | hy
    ·exact .inl (List.mem_of_mem_eraseIdx hy)
    ·exact .inr hy
    ·exact .inl (by rw[hy];exact getElem_mem hj)
   ·rw[List.length_eraseIdx_of_lt hj,length_append]
    simp only[length_cons,length_nil] at hl ⊢
    omega
def pr(p:Int × Int):D:=.tup [.int p.1,.int p.2]
def ky(p:Int × Int):List Int:=[p.1,p.2]
theorem n52(a b c d:Int):MySort.e00 [a,b] [c,d]=if a=c then(if b=d then false else decide (b < d)) else decide (a < c):=rfl
def Ch:List (Int × Int)→Prop
 |a::b::r=>HT.leB (ky a) (ky b)=true∧Ch (b::r)
 |_=>True
theorem T80(h:MySort.e00 (ky p) (ky q)=true):HT.leB (ky p) (ky q)=true:=by
 unfold HT.leB
 unfold ky at h ⊢
 rw[n52] at h ⊢
 by_cases h1:p.1=q.1
 ·rw[if_pos h1] at h
  rw[if_pos h1.symm]
  by_cases h2:p.2=q.2
  ·rw[if_pos h2] at h;cases h
  ·rw[if_neg h2] at h
   rw[if_neg (Ne.symm h2)]
   simp only[decide_eq_true_eq] at h
   simp;omega
 ·rw[if_neg h1] at h
  rw[if_neg (Ne.symm h1)]
  simp only[decide_eq_true_eq] at h
  simp;omega
def p41(k:Int × Int):List (Int × Int)→List (Int × Int)
 |[]=>[k]
 |y::r=>if MySort.e00 (ky y) (ky k) then y::p41 k r else k::y::r
def m41:List (Int × Int)→List (Int × Int)
 |[]=>[]
 |k::r=>p41 k (m41 r)
theorem I50(k:Int × Int):∀ l,(p41 k l).Perm (k::l)
 |[]=>.refl _
 |y::r=>by
  unfold p41
  split
  ·exact((I50 k r).cons y).trans (.swap _ _ _)
  ·exact .refl _
theorem y90:∀ l,(m41 l).Perm l
 |[]=>.refl _
 |k::r=>(I50 k _).trans ((y90 r).cons k)
theorem m51(k:Int × Int):∀ l,Ch l→Ch (p41 k l)
 |[],_=>trivial
 |[y],_=>by
  unfold p41
  split
  ·rename_i h;exact⟨T80 h,trivial⟩
  ·rename_i h
   refine⟨?_,trivial⟩
   unfold HT.leB
   simpa using h
 |y::x::r,h=>by
  obtain⟨h1,h2⟩:=h
  have ih:=m51 k (x::r) h2
  unfold p41
  split
  ·rename_i hy
   unfold p41 at ih ⊢
   split at ih
   ·rename_i hx
    rw[if_pos hx]
    exact⟨h1,ih⟩
   ·rename_i hx
    rw[if_neg hx]
    exact⟨T80 hy,ih⟩
  ·rename_i hy
   refine⟨?_,h1,h2⟩
   unfold HT.leB
   simpa using hy
theorem T90:∀ l,Ch (m41 l)
 |[]=>trivial
 |k::r=>m51 k _ (T90 r)
theorem U00(k:Int × Int):∀ l:List (Int × Int),L50 (pr k) (l.map pr)=(p41 k l).map pr
 |[]=>rfl
 |y::r=>by
  unfold p41
  show(if MySort.e00 (ky y) (ky k) then pr y::L50 (pr k) (r.map pr) else pr k::pr y::r.map pr)=_
  split
  ·rw[U00 k r];rfl
  ·rfl
theorem I60:∀ l:List (Int × Int),m30 (l.map pr)=(m41 l).map pr
 |[]=>rfl
 |k::r=>by
  show L50 (pr k) (m30 (r.map pr))=_
  rw[I60 r,U00];rfl
theorem a42(p q:Int × Int):ltD (pr p) (pr q)=some (MySort.e00 (ky p) (ky q)):=by
 show(if (p.1 == q.1)=true then(if (p.2 == q.2)=true then some false else some (decide (p.2 < q.2))) else some (decide (p.1 < q.1)))=some (if p.1=q.1 then(if p.2=q.2 then false else decide (p.2 < q.2)) else decide (p.1 < q.1))
 simp only[beq_iff_eq]
 split
 ·split <;> rfl
 ·rfl
theorem K11(p q:Int × Int):d60 (pr p) (pr q)=true:=by
 unfold d60
 rw[a42]
 show(true&&((some (MySort.e00 (ky p) (ky q)) == some (MySort.e00 (ky p) (ky q)))&&(((p.1 == q.1)&&((p.2 == q.2)&&true)) || !([p.1,p.2] == [q.1,q.2]))))=true
 rw[beq_self_eq_true,Bool.true_and,Bool.true_and,Bool.and_true]
 by_cases h1:p.1=q.1 <;> by_cases h2:p.2=q.2 <;> simp[h1,h2]
theorem m61(l:List (Int × Int)):j10 (l.map pr)=true:=by
 refine List.all_eq_true.mpr λx hx=>?_
 obtain⟨p,_,rfl⟩:=List.mem_map.mp hx
 show(true&&(true&&(l.map pr).all (d60 (pr p))))=true
 refine List.all_eq_true.mpr λy hy=>?_
 obtain⟨q,_,rfl⟩:=List.mem_map.mp hy
 exact K11 p q
theorem m71(h:l.length < 64):bfD .sorted [.lst (l.map pr)]=some (.fr ((m41 l).map pr)):=by
 show(if (l.map pr).length < 64∧j10 (l.map pr)=true then some (S.fr (m30 (l.map pr))) else(c32 (l.map pr)).map S.fr)=_
 rw[if_pos ⟨by rw[length_map];exact h,m61 l⟩,I60]
theorem U10:∀ {l:List (Int × Int)},Ch l→T70 (l.map pr)=true
 |[],_=>rfl
 |[_],_=>rfl
 |a::b::r,h=>by
  have ih:=U10 h.2
  show((s00 (pr a::pr b::r.map pr) (pr b::r.map pr)).all leD)=true
  have e:s00 (pr a::pr b::r.map pr) (pr b::r.map pr)=.tup [pr a,pr b]::s00 (pr b::r.map pr) (r.map pr):=rfl
  rw[e,all_cons,and_eq_true]
  exact⟨h.1,ih⟩
theorem D50:∀ l:List (Int × Int),n10 (l.map pr)=true
 |[]=>rfl
 |_::r=>by
  show(bare _&&n10 (r.map pr))=true
  rw[D50 r];rfl
theorem a52:∀ l:List (Int × Int),g50 (l.map pr)=true∧i10 (l.map pr)≤1
 |[]=>⟨rfl,by decide⟩
 |p::r=>by
  obtain⟨h1,h2⟩:=a52 r
  refine⟨?_,?_⟩
  ·show(r00 (pr p)&&g50 (r.map pr))=true
   rw[h1];rfl
  ·show Nat.max (deep (pr p)) (i10 (r.map pr))≤1
   have:deep (pr p)=1:=rfl
   rw[this]
   exact Nat.max_le.mpr ⟨Nat.le_refl _,h2⟩
theorem K21(l:List (Int × Int)):okD (.lst (l.map pr))=true:=by
 obtain⟨h1,h2⟩:=a52 l
 unfold okD
 rw[and_eq_true,decide_eq_true_eq]
 refine⟨h1,?_⟩
 show i10 (l.map pr) + 1≤40
 omega
def r80(m:Int)(ps:List (Int × Int)):D:=.tup [.int m,.tup (ps.map pr)]
structure f20(m:Int)(ps:List (Int × Int)):Prop where
 m1:1≤m
 m6:m≤6
 len:ps.length≤8
 tie:∀ p∈ps,0≤p.1∧p.1 < p.2∧p.2 < m
 ch:Ch ps
theorem f20.web(g:f20 m ps):Z30 (r80 m ps)=true:=by
 unfold r80 Z30 q12 N90
 simp only[and_eq_true,decide_eq_true_eq,all_eq_true,length_map]
 refine⟨g.m1,g.m6,g.len,λt ht=>?_,U10 g.ch⟩
 obtain⟨p,hp,rfl⟩:=List.mem_map.mp ht
 obtain⟨h1,h2,h3⟩:=g.tie p hp
 unfold pr p31 d00
 simp only[and_eq_true,decide_eq_true_eq]
 omega
def OkP(m:Int)(p:Int × Int):Prop:=0≤p.1∧p.1 < m∧0≤p.2∧p.2 < m∧p.1≠p.2
theorem a62(h1:0≤i)(hi:i < 100)(h0:-100 < m)(h:m < 100000):itD .rng2 [.int i,.int m]=some ((range (m - i).toNat).map λ(k:Nat)=>D.int (i + k)):=by
 show(if inR i=true∧inR m=true then _ else none)=_
 rw[if_pos ⟨u60.mpr (by omega),u60.mpr (by omega)⟩]
theorem O20{L:List D}{n:Nat}(f:D→Bool)(h:n < L.length)(ha:L.all f=true):∃ x,L[n]?=some x∧f x=true :=
 ⟨L[n],List.getElem?_eq_getElem h,List.all_eq_true.mp ha _ (getElem_mem h)⟩
def btw(a b:Int):D→Bool
 |.int i=>decide (a≤i)&&decide (i≤b)
 |_=>false
theorem B11(h:btw a b x=true):∃ i,x=.int i∧a≤i∧i≤b:=by
 cases x with
 |int i =>
  unfold btw at h
  rw[and_eq_true,decide_eq_true_eq,decide_eq_true_eq] at h
  exact⟨i,rfl,h⟩
 |_=>cases h
theorem Y20(h1:a≤i)(h2:i≤b):btw a b (.int i)=true:=by
 show(decide (a≤i)&&decide (i≤b))=true
 rw[decide_eq_true h1,decide_eq_true h2];rfl
theorem B21{l:List Int}(nd:l.Nodup){i j:Nat}(hi:i < l.length)(hj:j < l.length)(h:i≠j):l[i]≠l[j]:=λe=>h ((List.getElem_inj nd).mp e)
theorem m81(l:List D)(h:0≤n):cutD l none (some n)=l.take n.toNat:=by
 obtain⟨k,rfl⟩:=Int.eq_ofNat_of_zero_le h
 have h1:HT.sIx l.length l.length (some (k:Int))=min k l.length:=HT.b01 _ _ k
 unfold cutD
 rw[h1]
 show(l.drop 0).take (min k l.length - 0)=_
 rw[List.drop_zero,Nat.sub_zero,toNat_natCast]
 rcases Nat.le_total k l.length with h | h
 ·rw[Nat.min_eq_left h]
 ·rw[Nat.min_eq_right h,List.take_length,List.take_of_length_le h]
theorem D60(h:∀ p∈ps,OkP m p)(hp:OkP m p):∀ q∈ps++[p],OkP m q:=λq hq=>by
 rcases List.mem_append.mp hq with hq | hq
 ·exact h q hq
 ·rw[List.mem_singleton.mp hq];exact hp
theorem d02{α:Type}{l:List α}{a:α}:(l++[a]).length=l.length + 1:=by rw[length_append];rfl
theorem B31(a b:Int):(if b < a then b else a)=min a b∧(if b > a then b else a)=max a b:=by
 constructor <;> (split <;> omega)
abbrev K31(mo m:Int)(l:List Int)(wn:Nat)(ps:List (Int × Int))(o6 o7 o8 o9:Option S):Env:=[some .z,some (.d (.int mo)),some (.d (.int m)),some (.d (.tup (l.map D.int))),some (.d (.int wn)),some (.fr (ps.map pr)),o6,o7,o8,o9]
theorem U20:K31 mo m l wn (ps++[p]) o6 o7 o8 o9=[some .z,some (.d (.int mo)),some (.d (.int m)),some (.d (.tup (l.map D.int))),some (.d (.int wn)),some (.fr (ps.map pr++[pr p])),o6,o7,o8,o9]:=by rw[K31,map_append];rfl
theorem m91(k:Nat){mo:Int}{z:Z}(hz:ZI z)(h0:0≤mo)(h8:mo≤8):W (c20 T (k + 5) y60 [.z,.d (.int mo)]) z (λs z1=>ZI z1∧∃ m ps,s=.d (r80 m ps)∧f20 m ps∧(ps.length:Int)≤mo) NE:=by
 refine a32 hz (ps:=2) (ns:=10) (b:=q80) rfl rfl (by decide) ?_
 refine(m80 (k + 1) 8 hz (by decide) (by decide)).imp λs z1 ⟨hz1,n,e,hn⟩=>?_
 subst e
 obtain⟨x,ex,hx⟩:=O20 (L:=[D.int 5,.int 4,.int 6,.int 3,.int 4,.int 2,.int 6,.int 1]) (n:=n) (btw 1 6) (by simp only[length_cons,length_nil];omega) (by decide)
 obtain⟨m,rfl,m1,m6⟩:=B11 hx
 refine(a40 (w81 ex) ?_ :)
 refine(K01 k hz1 m1 (by omega)).imp λs z2 ⟨hz2,l,e,ll,lm,nd⟩=>?_
 subst e
 refine(m80 (k + 1) 6 hz2 (by decide) (by decide)).imp λs z3 ⟨hz3,wn,e,hw⟩=>?_
 subst e
 refine(a40 (a62 (i:=1) (m:=m) (by decide) (by decide) (by omega) (by omega)) ?_ :)
 have hll:1≤l.length:=by omega
 refine N80 (λxs ρ z=>ZI z∧(∀ x∈xs,∃ a:Nat,x=.int a∧1≤a∧(a:Int) < m)∧∃ (ps:List (Int × Int)) (o6:Option S),ρ=K31 mo m l wn ps o6 none none none∧(∀ p∈ps,OkP m p)∧ps.length + xs.length≤6) _ ⟨hz3,λx hx=>?_,[],none,rfl,(λp hp=>nomatch hp),by simp;omega⟩ ?_ ?_
 ·obtain⟨i,hi,rfl⟩:=List.mem_map.mp hx
  have:=List.mem_range.mp hi
  exact⟨1 + i,by rw[Int.natCast_add];rfl,by omega,by omega⟩
 ·rintro x r ρ z4 ⟨hz4,hx,ps,o6,rfl,hp,hl⟩
  obtain⟨an,rfl,a1,a2⟩:=hx x mem_cons_self
  obtain⟨y,ey,hy⟩:=O20 (L:=[D.int (an - 1),.int (an - 1),.int 0,.int ((an:Int) / 2),.int (an - 1),.int 0]) (n:=wn) (btw 0 (an - 1)) (by simp only[length_cons,length_nil];omega) (by
   simp only[all_cons,all_nil,Bool.and_true,and_eq_true]
   refine⟨Y20 ?_ ?_,Y20 ?_ ?_,Y20 ?_ ?_,Y20 ?_ ?_,Y20 ?_ ?_,Y20 ?_ ?_⟩ <;> omega)
  obtain⟨v,rfl,v0,v1⟩:=B11 hy
  obtain⟨v,rfl⟩:=Int.eq_ofNat_of_zero_le v0
  have ha:an < l.length:=by omega
  have hvl:v < l.length:=by omega
  refine(a40 (Y10 (w60 ha)) ?_ :)
  refine(a40 (w81 ey) ?_ :)
  refine(a40 (Y10 (w60 hvl)) ?_ :)
  refine ip ⟨rfl,by rw[length_map];simp only[most,length_cons] at hl ⊢;omega⟩ ?_
  have h1:=lm _ (getElem_mem ha)
  have h2:=lm _ (getElem_mem hvl)
  exact⟨hz4,λx hx'=>hx x (mem_cons_of_mem _ hx'),ps++[(l[an],l[v])],_,(U20 (p:=(l[an],l[v]))).symm,D60 hp ⟨h1.1,h1.2,h2.1,h2.2,B21 nd ha hvl (by omega)⟩,by rw[d02];simp only[length_cons] at hl;omega⟩
 ·rintro ρ z4 ⟨hz4,_,ps,o6,rfl,hp,hl⟩
  have hl':ps.length≤6:=hl
  refine J71 (λρ z5=>z5=z4∧∃ ps:List (Int × Int),ρ=K31 mo m l wn ps o6 none none none∧(∀ p∈ps,OkP m p)∧ps.length≤7) ?_ ?_
  ·refine ib (b:=(wn:Int) == 0) (λh1=>ib (b:=decide (2 < m)) (λh2=>?_) λh2=>⟨rfl,ps,rfl,hp,by omega⟩) λh1=>⟨rfl,ps,rfl,hp,by omega⟩
   rw[decide_eq_true_eq] at h2
   have i2:m.toNat - 1 < l.length:=by omega
   have e2:m - 1=((m.toNat - 1:Nat):Int):=by omega
   refine(a40 (Y10 (j:=0) (w60 hll)) ?_ :)
   refine(a40 (o:=Z10 (.tup (l.map D.int)) (.int (m - 1))) (a:=.int l[m.toNat - 1]) (by rw[e2];exact Y10 (w60 i2)) ?_ :)
   refine ip ⟨rfl,by rw[length_map];simp only[most];omega⟩ ?_
   have h3:=lm _ (getElem_mem hll)
   have h4:=lm _ (getElem_mem i2)
   exact⟨rfl,ps++[(l[0],l[m.toNat - 1])],(U20 (p:=(l[0],l[m.toNat - 1]))).symm,D60 hp ⟨h3.1,h3.2,h4.1,h4.2,B21 nd hll i2 (by omega)⟩,by rw[d02];omega⟩
  ·rintro ρ z5 ⟨rfl,ps,rfl,hp,hl⟩
   refine J71 (λρ z6=>z6=z5∧∃ (ps:List (Int × Int)) (o6:Option S),ρ=K31 mo m l wn ps o6 none none none∧(∀ p∈ps,OkP m p)∧ps.length≤7) ?_ ?_
   ·refine ib (b:=(wn:Int) == 4) (λh1=>⟨rfl,ps.drop 1,s30 (s20 (.fr (cutD (ps.map pr) (some 1) none))) o6,?_,λp hp'=>hp p (List.mem_of_mem_drop hp'),by rw[length_drop];omega⟩) λh1=>⟨rfl,ps,o6,rfl,hp,hl⟩
    have e:(ps.drop 1).map pr=cutD (ps.map pr) (some 1) none:=by rw[List.map_drop];exact(s90 _ 1).symm
    exact Eq.symm (congrArg (λx=>[some S.z,some (.d (.int mo)),some (.d (.int m)),some (.d (.tup (l.map D.int))),some (.d (.int wn)),some (.fr x),s30 (s20 (.fr (cutD (ps.map pr) (some 1) none))) o6,none,none,none]) e)
   ·rintro ρ z6 ⟨rfl,ps,o6,rfl,hp,hl⟩
    refine(m80 (k + 1) 5 hz4 (by decide) (by decide)).imp λs z5 ⟨hz5,t,e,ht⟩=>?_
    subst e
    refine(a40 (O10 (m:=t) (by omega) (by omega)) ?_ :)
    refine N80 (λxs ρ z=>ZI z∧∃ (ps:List (Int × Int)) (o6 o7 o8 o9:Option S),ρ=K31 mo m l wn ps o6 o7 o8 o9∧(∀ p∈ps,OkP m p)∧ps.length + xs.length≤11) _ ⟨hz5,ps,_,_,_,_,rfl,hp,by simp;omega⟩ ?_ ?_
    ·rintro x r ρ z2 ⟨hz2,ps,o6,o7,o8,o9,rfl,hp,hl⟩
     refine(m80 (k + 1) m hz2 (by omega) (by omega)).imp λs z3 ⟨hz3,a,e,a1⟩=>?_
     subst e
     refine(m80 (k + 1) m hz3 (by omega) (by omega)).imp λs z4 ⟨hz4,b,e,b1⟩=>?_
     subst e
     refine ib (b:=!((a:Int) == (b:Int))) (λhab=>?_) λhab=>⟨hz4,ps,_,_,_,_,rfl,hp,by simp only[length_cons] at hl;omega⟩
     refine ip ⟨rfl,by rw[length_map];simp only[most,length_cons] at hl ⊢;omega⟩ ?_
     exact⟨hz4,ps++[((a:Int),(b:Int))],_,_,_,_,(U20 (p:=((a:Int),(b:Int)))).symm,D60 hp ⟨by omega,a1,by omega,b1,by simpa using hab⟩,by rw[d02];simp only[length_cons] at hl;omega⟩
    ·rintro ρ z2 ⟨hz2,ps,o6,o7,o8,o9,rfl,hp,hl⟩
     refine J71 (λρ z3=>ZI z3∧∃ ps:List (Int × Int),ρ=K31 mo m l wn ps o6 o7 o8 o9∧(∀ p∈ps,OkP m p)∧ps.length≤12) ?_ ?_
     ·have hl:ps.length≤11:=hl
      refine(a40 (ne_nil (K21 ps)) ?_ :)
      cases ps with
      |nil=>exact⟨hz2,[],rfl,hp,by simp⟩
      |cons p r =>
       refine(m80 (k + 1) 3 hz2 (by decide) (by decide)).imp λs z3 ⟨hz3,a,e,a1⟩=>?_
       subst e
       refine ib (b:=(a:Int) == 0) (λha=>?_) λha=>⟨hz3,p::r,rfl,hp,by omega⟩
       have hll:(((p::r).map pr).length:Int)=((p::r).length:Nat):=by rw[length_map]
       refine(m80 (k + 1) (((p::r).map pr).length:Int) hz3 (by rw[hll];simp only[length_cons];omega) (by rw[hll];omega)).imp λs z4 ⟨hz4,j,e,b1⟩=>?_
       subst e
       have hj:j < (p::r).length:=by rw[hll] at b1;omega
       refine(a40 (w81 (l:=(p::r).map pr) (x:=pr (p::r)[j]) (by rw[List.getElem?_map,List.getElem?_eq_getElem hj];rfl)) ?_ :)
       refine ip ⟨rfl,by rw[length_map];simp only[most];omega⟩ ?_
       exact⟨hz4,(p::r)++[(p::r)[j]],(U20 (p:=(p::r)[j])).symm,D60 hp (hp _ (getElem_mem hj)),by rw[d02];omega⟩
     ·rintro ρ z3 ⟨hz3,ps,rfl,hp,hl⟩
      have e1:cutD (ps.map pr) none (some mo)=(ps.take mo.toNat).map pr:=by rw[m81 _ h0,List.map_take]
      have mm:(cutD (ps.map pr) none (some mo)).map (λx=>match x with | .tup [.int a,.int b]=>pr (min a b,max a b) | x=>x)=((ps.take mo.toNat).map λp=>(min p.1 p.2,max p.1 p.2)).map pr:=by
       rw[e1,List.map_map,List.map_map];rfl
      refine ip (c:=(cutD (ps.map pr) none (some mo)).length≤most) (by rw[e1,length_map,length_take];simp only[most];omega) (l51 (λx=>match x with | .tup [.int a,.int b]=>pr (min a b,max a b) | x=>x) (λd hd=>?_) ?_)
      ·rw[e1] at hd
       obtain⟨p,hp',rfl⟩:=List.mem_map.mp hd
       exact⟨by show D.tup [.int _,.int _]=pr (min p.1 p.2,max p.1 p.2);rw[(B31 p.1 p.2).1,(B31 p.1 p.2).2];rfl,rfl⟩
      ·rw[mm]
       refine(a40 (m71 (l:=(ps.take mo.toNat).map λp=>(min p.1 p.2,max p.1 p.2)) (by rw[length_map,length_take];omega)) ?_ :)
       have hperm:=y90 ((ps.take mo.toNat).map λp=>(min p.1 p.2,max p.1 p.2))
       have hlen:=hperm.length_eq
       rw[length_map,length_take] at hlen
       refine⟨hz3,m,_,rfl,⟨m1,m6,by omega,λq hq=>?_,T90 _⟩,by omega⟩
       obtain⟨p,hp',rfl⟩:=List.mem_map.mp (hperm.mem_iff.mp hq)
       obtain⟨a0,a1,b0,b1,hab⟩:=hp p (List.mem_of_mem_take hp')
       dsimp only
       omega
theorem O30(h:0 < b):0 < ((gcd t b:Nat):Int):=by
 have:=Int.gcd_pos_of_ne_zero_right (a:=t) (b:=b) (by omega)
 omega
def p20(t b:Int):Int × Int:=(t / gcd t b,b / gcd t b)
structure Bd(n:Nat)(c:Int × Int):Prop where
 t0:0≤c.1
 tb:c.1≤c.2
 b0:0 < c.2
 bb:c.2≤2 ^ n
theorem O40(h0:0 < b):t=gcd t b * (p20 t b).1∧b=gcd t b * (p20 t b).2:=by
 constructor
 ·exact(Int.mul_ediv_cancel' (Int.gcd_dvd_left t b)).symm
 ·exact(Int.mul_ediv_cancel' (Int.gcd_dvd_right t b)).symm
theorem n01(h0:0 < b):gcd (p20 t b).1 (p20 t b).2=1:=Int.gcd_ediv_gcd_ediv_gcd_of_ne_zero_right (by omega)
theorem O50(h0:0 < b):0 < (p20 t b).2:=by
 have g0:=O30 (t:=t) h0
 obtain⟨_,e⟩:=O40 (t:=t) h0
 refine Int.pos_of_mul_pos_right (a:=gcd t b) ?_ g0
 omega
theorem n11(h:gcd a b=1)(hd:b∣a * d):b∣d:=by
 have h1:Nat.Coprime b.natAbs a.natAbs:=by rw[Nat.coprime_comm];exact h
 exact Int.natAbs_dvd_natAbs.mp (h1.dvd_of_dvd_mul_left (by rw[← natAbs_mul];exact Int.natAbs_dvd_natAbs.mpr hd))
theorem Y30(hb:0 < b)(hd:0 < d)(h1:gcd a b=1)(h2:gcd c d=1)(h:a * d=c * b):a=c∧b=d:=by
 have k1:b∣d:=n11 h1 ⟨c,by rw[h,Int.mul_comm]⟩
 have k2:d∣b:=n11 h2 ⟨a,by rw[← h,Int.mul_comm]⟩
 have e:b=d:=Int.le_antisymm (Int.le_of_dvd hd k1) (Int.le_of_dvd hb k2)
 subst e
 exact⟨Int.eq_of_mul_eq_mul_right (by omega) h,rfl⟩
def IsC(c:Int × Int):Prop:=1≤c.2∧c.2≤1000∧0≤c.1∧c.1≤c.2∧gcd c.1 c.2=1
theorem IsC.ch(h:IsC c):chD (pr c)=true:=by
 obtain⟨h1,h2,h3,h4,h5⟩:=h
 show chI c.1 c.2=true
 unfold chI
 rw[h5,decide_eq_true h1,decide_eq_true h2,decide_eq_true h3,decide_eq_true h4];rfl
theorem a72{n:Nat}(f:D→Bool)(h:n < L.length)(ha:L.all f=true)(hp:∀ x,f x=true→P x):Get (Z10 (.lst L) (.int n)) P:=by
 obtain⟨x,e,hx⟩:=O20 f h ha
 exact a40 (w81 e) (hp x hx)
theorem n21(k:Nat)(hz:ZI z):W (c20 T (k + 4) m70 [.z]) z (λs z1=>ZI z1∧∃ x,s=.d x∧Z30 x=false) NE:=by
 refine a32 hz (ps:=1) (ns:=2) (b:=h80) rfl rfl (by decide) ?_
 refine(m80 k 22 hz (by decide) (by decide)).imp λs z1 ⟨hz1,v,e,v1⟩=>?_
 subst e
 refine(a72 (n:=v) (λx=>!Z30 x) ?_ ?_ ?_ :)
 ·show v < 22
  omega
 ·decide +kernel
 ·exact λx hx=>⟨hz1,x,rfl,by simpa using hx⟩
def c70(n:Nat):D:=.int n
structure I70(m:Int)(l:List Nat):Prop where
 ne:l≠[]
 up:l.Pairwise (· < ·)
 lt:∀ p∈l,(p:Int) < m
theorem I70.len(g:I70 m l)(h6:m≤6):l.length≤6:=by
 have:l.Sublist (range 6):=by
  have e:l=(range 6).filter λx=>l.contains x:=by
   refine List.Perm.eq_of_pairwise (le:=(· < ·)) ?_ g.up (List.Pairwise.filter _ List.pairwise_lt_range) ?_
   ·intro a b _ _ h1 h2;omega
   ·refine(List.perm_ext_iff_of_nodup (g.up.imp λh e=>by omega) (List.Pairwise.filter _ List.nodup_range)).mpr λa=>?_
    rw[mem_filter,mem_range,List.contains_iff_mem]
    exact⟨λh=>⟨by have:=g.lt a h;omega,h⟩,λh=>h.2⟩
  rw[e];exact List.filter_sublist
 simpa using this.length_le
section
variable (ps:List (Int × Int))
abbrev tA(n:Nat):Nat:=(ps.getD n (0,0)).1.toNat
abbrev tB(n:Nat):Nat:=(ps.getD n (0,0)).2.toNat
variable {ps}
end
structure Row(x:D)(lot:List Nat):Prop where
 sq:Z00 x=some (lot.map c70)
 br:R91 x=true
theorem I80{ps:List (Int × Int)}{n:Nat}(h:n < ps.length):Z10 (.tup (ps.map pr)) (.int n)=some (pr (ps.getD n (0,0))):=by
 rw[List.getD_eq_getElem?_getD,List.getElem?_eq_getElem h]
 exact Y10 (by rw[List.getElem?_map,List.getElem?_eq_getElem h];rfl)
theorem getD_mem{ps:List (Int × Int)}{n:Nat}(h:n < ps.length):ps.getD n (0,0)∈ps:=by
 rw[List.getD_eq_getElem?_getD,List.getElem?_eq_getElem h];exact getElem_mem h
theorem f20.rng{m:Int}{ps:List (Int × Int)}(g:f20 m ps):∀ n < ps.length,tA ps n < m.toNat∧tB ps n < m.toNat:=λn hn=>by
 have:=g.tie _ (getD_mem hn)
 unfold tA tB
 omega
section
variable {m:Int}{ps:List (Int × Int)}{pl lot:List Nat}
theorem I70.p0(hp:I70 m pl):pl.getD 0 0 < m.toNat:=by
 have h:=hp.ne
 have h2:=hp.lt
 cases pl with
 |nil=>exact absurd rfl h
 |cons p r=>have:=h2 p mem_cons_self;show p < _;omega
end
theorem n62(h:a.length + b.length≤1000):Q50 .add (.tup a) (.tup b)=some (.d (.tup (a++b))):=by
 show(if a.length + b.length≤most then some (S.d (.tup (a++b))) else none)=_
 rw[if_pos (s40 h)]
theorem O60{n:Nat}(h:n < 100000):itD .rng1 [.int n]=some ((range' 0 n).map c70):=by
 rw[O10 (by omega) (by omega),toNat_natCast,range_eq_range'];rfl
structure Fr(v:Int × Int)(t b:Int):Prop where
 t0:0≤v.1
 b0:0 < v.2
 one:gcd v.1 v.2=1
 eq:v.1 * b=v.2 * t
theorem Fr.bd(h:Fr v t b)(hb:0 < b)(ht:t≤b)(hn:b≤2 ^ n):Bd n v:=by
 refine⟨h.t0,?_,h.b0,?_⟩
 ·refine Int.le_of_mul_le_mul_right (a:=b) ?_ hb
  rw[h.eq]
  exact Int.mul_le_mul_of_nonneg_left ht (Int.le_of_lt h.b0)
 ·exact Int.le_trans (Int.le_of_dvd hb (n11 h.one ⟨t,h.eq⟩)) hn
theorem I90(h0:0 < b):(p20 t b).1 * b=(p20 t b).2 * t:=by
 obtain⟨e1,e2⟩:=O40 (t:=t) h0
 generalize (p20 t b).1=x at *
 generalize (p20 t b).2=y at *
 generalize ((gcd t b:Nat):Int)=k at *
 rw[e1,e2]
 grind
theorem Fr.low(hb:0 < b)(ht:0≤t):Fr (p20 t b) t b:=⟨Int.ediv_nonneg ht (Int.le_of_lt (O30 hb)),O50 hb,n01 hb,I90 hb⟩
def tl:Sm→Sm
 |.seq _ r=>r
 |s=>s
structure Bs(n:Nat)(c:Int × Int):Prop where
 t:c.1.natAbs≤2 ^ n
 b0:0 < c.2
 b:c.2.natAbs≤2 ^ n
theorem n31{n m:Nat}{i j:Int}(hi:i.natAbs≤2 ^ n)(hj:j.natAbs≤2 ^ m):(i * j).natAbs≤2 ^ (n + m):=by
 rw[natAbs_mul,Nat.pow_add];exact Nat.mul_le_mul hi hj
theorem n41(h0:0 < b):(p20 t b).1.natAbs≤t.natAbs∧(p20 t b).2.natAbs≤b.natAbs:=by
 obtain⟨e1,e2⟩:=O40 (t:=t) h0
 have g0:=O30 (t:=t) h0
 generalize p20 t b=v at *
 generalize hg:gcd t b=g at *
 have g1:1≤g:=by omega
 constructor
 ·rw[e1,natAbs_mul,Int.natAbs_natCast];exact Nat.le_mul_of_pos_left _ g1
 ·rw[e2,natAbs_mul,Int.natAbs_natCast];exact Nat.le_mul_of_pos_left _ g1
abbrev lf(l:List (Int × Int))(i:Nat):Int × Int:=l.getD i (0,1)
def fg(l:List (Int × Int)):Nat→Option Nat
 |0=>none
 |j + 1=>match fg l j with
  |none=>some j
  |some i=>if (lf l i).1 * (lf l j).2 < (lf l j).1 * (lf l i).2 then some j else some i
structure Rt(v:Int × Int)(t b:Int):Prop where
 b0:0 < v.2
 one:gcd v.1 v.2=1
 eq:v.1 * b=t * v.2
theorem Rt.low{t b:Int}(hb:0 < b):Rt (p20 t b) t b:=⟨O50 hb,n01 hb,by rw[I90 hb,Int.mul_comm]⟩
theorem Rt.conv{v:Int × Int}{t b t' b':Int}(h:Rt v t b)(hb:0 < b)(e:t * b'=t' * b):Rt v t' b':=by
 refine⟨h.b0,h.one,Int.eq_of_mul_eq_mul_right (a:=b) (by omega) ?_⟩
 have:=h.eq
 calc v.1 * b' * b=(v.1 * b) * b':=by grind
  _=(t * b') * v.2:=by rw[this];grind
  _=t' * v.2 * b:=by rw[e];grind
theorem Rt.eqv{v w:Int × Int}{t b:Int}(hv:Rt v t b)(hw:Rt w t b)(hb:0 < b):v=w:=by
 have e:v.1 * w.2=w.1 * v.2:=by
  have h1:=hv.eq
  have h2:=hw.eq
  refine Int.eq_of_mul_eq_mul_right (a:=b) (by omega) ?_
  calc v.1 * w.2 * b=(v.1 * b) * w.2:=by grind
   _=(t * w.2) * v.2:=by rw[h1];grind
   _=w.1 * v.2 * b:=by rw[← h2];grind
 obtain⟨a,b'⟩:=Y30 hv.b0 hw.b0 hv.one hw.one e
 exact Prod.ext a b'
theorem Rt.add{v w:Int × Int}{t b t' b':Int}(hv:Rt v t b)(hw:Rt w t' b'):Rt (p20 (v.1 * w.2 + w.1 * v.2) (v.2 * w.2)) (t * b' + t' * b) (b * b'):=by
 have y:=mul_pos hv.b0 hw.b0
 refine(Rt.low y).conv y ?_
 have h1:=hv.eq
 have h2:=hw.eq
 calc (v.1 * w.2 + w.1 * v.2) * (b * b')=(v.1 * b) * (w.2 * b') + (w.1 * b') * (v.2 * b):=by grind
  _=(t * b' + t' * b) * (v.2 * w.2):=by rw[h1,h2];grind
theorem Rt.mul{v w:Int × Int}{t b t' b':Int}(hv:Rt v t b)(hw:Rt w t' b'):Rt (p20 (v.1 * w.1) (v.2 * w.2)) (t * t') (b * b'):=by
 have y:=mul_pos hv.b0 hw.b0
 refine(Rt.low y).conv y ?_
 have h1:=hv.eq
 have h2:=hw.eq
 calc v.1 * w.1 * (b * b')=(v.1 * b) * (w.1 * b'):=by grind
  _=t * t' * (v.2 * w.2):=by rw[h1,h2];grind
theorem IsC.rt{c:Int × Int}(h:IsC c):Rt c c.1 c.2:=⟨by have:=h.1;omega,h.2.2.2.2,rfl⟩
abbrev Tr:=(Int × Int) × Nat
def trD(t:Tr):D:=.tup [pr t.1,c70 t.2]
def tk(t:Tr):List Int:=[t.1.1,t.1.2,(t.2:Int)]
def Z40(k:Tr):List Tr→List Tr
 |[]=>[k]
 |y::r=>if MySort.e00 (tk y) (tk k) then y::Z40 k r else k::y::r
def J00:List Tr→List Tr
 |[]=>[]
 |k::r=>Z40 k (J00 r)
theorem J10(k:Tr):∀ l,(Z40 k l).Perm (k::l)
 |[]=>.refl _
 |y::r=>by
  unfold Z40
  split
  ·exact((J10 k r).cons y).trans (.swap _ _ _)
  ·exact .refl _
theorem z00:∀ l,(J00 l).Perm l
 |[]=>.refl _
 |k::r=>(J10 k _).trans ((z00 r).cons k)
theorem a82{p q:Int × Int}:HT.leB (ky p) (ky q)=true↔p.1 < q.1∨(p.1=q.1∧p.2≤q.2):=by
 unfold HT.leB ky
 rw[n52]
 by_cases h1:q.1=p.1
 ·rw[if_pos h1]
  by_cases h2:q.2=p.2
  ·rw[if_pos h2];simp;omega
  ·rw[if_neg h2];simp;omega
 ·rw[if_neg h1];simp;omega
theorem a92{p q:Tr}:MySort.e00 (tk p) (tk q)=true↔p.1.1 < q.1.1∨(p.1.1=q.1.1∧(p.1.2 < q.1.2∨(p.1.2=q.1.2∧p.2 < q.2))):=by
 show(if p.1.1=q.1.1 then(if p.1.2=q.1.2 then(if (p.2:Int)=q.2 then false else decide ((p.2:Int) < q.2)) else decide (p.1.2 < q.1.2)) else decide (p.1.1 < q.1.1))=true↔_
 by_cases h1:p.1.1=q.1.1
 ·rw[if_pos h1]
  by_cases h2:p.1.2=q.1.2
  ·rw[if_pos h2]
   by_cases h3:(p.2:Int)=q.2
   ·rw[if_pos h3];simp;omega
   ·rw[if_neg h3,decide_eq_true_eq];omega
  ·rw[if_neg h2,decide_eq_true_eq];omega
 ·rw[if_neg h1,decide_eq_true_eq];omega
theorem b02{p q:Tr}(h:MySort.e00 (tk p) (tk q)=true):HT.leB (ky p.1) (ky q.1)=true:=by rw[a82];rw[a92] at h;omega
theorem b12{p q:Tr}(h:¬ MySort.e00 (tk p) (tk q)=true):HT.leB (ky q.1) (ky p.1)=true:=by rw[a82];rw[a92] at h;omega
theorem n51(k:Tr):∀ l:List Tr,Ch (l.map (·.1))→Ch ((Z40 k l).map (·.1))
 |[],_=>trivial
 |[y],_=>by
  unfold Z40
  split
  ·rename_i h;exact⟨b02 h,trivial⟩
  ·rename_i h;exact⟨b12 h,trivial⟩
 |y::x::r,h=>by
  obtain⟨h1,h2⟩:=h
  have ih:=n51 k (x::r) h2
  unfold Z40
  split
  ·rename_i hy
   unfold Z40 at ih ⊢
   split at ih
   ·rename_i hx;rw[if_pos hx];exact⟨h1,ih⟩
   ·rename_i hx;rw[if_neg hx];exact⟨b02 hy,ih⟩
  ·rename_i hy;exact⟨b12 hy,h1,h2⟩
theorem U30:∀ l:List Tr,Ch ((J00 l).map (·.1))
 |[]=>trivial
 |k::r=>n51 k _ (U30 r)
theorem n61(k:Tr):∀ l:List Tr,L50 (trD k) (l.map trD)=(Z40 k l).map trD
 |[]=>rfl
 |y::r=>by
  unfold Z40
  show(if MySort.e00 (tk y) (tk k) then trD y::L50 (trD k) (r.map trD) else trD k::trD y::r.map trD)=_
  split
  ·rw[n61 k r];rfl
  ·rfl
theorem U40:∀ l:List Tr,m30 (l.map trD)=(J00 l).map trD
 |[]=>rfl
 |k::r=>by
  show L50 (trD k) (m30 (r.map trD))=_
  rw[U40 r,n61];rfl
theorem K41(p q:Tr):d60 (trD p) (trD q)=true:=by
 have e:ltD (trD p) (trD q)=some (MySort.e00 (tk p) (tk q)):=by
  show(if ((p.1.1 == q.1.1)&&((p.1.2 == q.1.2)&&true))=true then(if ((p.2:Int) == q.2)=true then some false else some (decide ((p.2:Int) < q.2))) else ltD (pr p.1) (pr q.1))=some (if p.1.1=q.1.1 then(if p.1.2=q.1.2 then(if (p.2:Int)=q.2 then false else decide ((p.2:Int) < q.2)) else decide (p.1.2 < q.1.2)) else decide (p.1.1 < q.1.1))
  rw[a42]
  unfold ky
  rw[n52]
  by_cases h1:p.1.1=q.1.1 <;> by_cases h2:p.1.2=q.1.2 <;> by_cases h3:(p.2:Int)=q.2 <;> simp[h1,h2,h3]
 unfold d60
 rw[e]
 show(true&&((some (MySort.e00 (tk p) (tk q)) == some (MySort.e00 (tk p) (tk q)))&&((((p.1.1 == q.1.1)&&((p.1.2 == q.1.2)&&true))&&(((p.2:Int) == q.2)&&true)) || !([p.1.1,p.1.2,(p.2:Int)] == [q.1.1,q.1.2,(q.2:Int)]))))=true
 rw[beq_self_eq_true,Bool.true_and,Bool.true_and,Bool.and_true,Bool.and_true]
 by_cases h1:p.1.1=q.1.1 <;> by_cases h2:p.1.2=q.1.2 <;> by_cases h3:(p.2:Int)=q.2 <;> simp[h1,h2,h3]
theorem n71{l:List Tr}(h:l.length < 64):bfD .sorted [.lst (l.map trD)]=some (.fr ((J00 l).map trD)):=by
 have ok:j10 (l.map trD)=true:=by
  refine List.all_eq_true.mpr λx hx=>?_
  obtain⟨p,_,rfl⟩:=List.mem_map.mp hx
  show(true&&(true&&(l.map trD).all (d60 (trD p))))=true
  refine List.all_eq_true.mpr λy hy=>?_
  obtain⟨q,_,rfl⟩:=List.mem_map.mp hy
  exact K41 p q
 show(if (l.map trD).length < 64∧j10 (l.map trD)=true then some (S.fr (m30 (l.map trD))) else(c32 (l.map trD)).map S.fr)=_
 rw[if_pos ⟨by rw[length_map];exact h,ok⟩,U40]
def nm(A B p:Nat):Nat:=if p=B then A else if B < p then p - 1 else p
def rn(A B:Nat)(p:Int × Int):Int × Int:=(((min (nm A B p.1.toNat) (nm A B p.2.toNat):Nat):Int),((max (nm A B p.1.toNat) (nm A B p.2.toNat):Nat):Int))
theorem w91{A B p m:Nat}(h1:A < B)(h2:B < m)(h:p < m):nm A B p < m - 1:=by
 unfold nm
 split
 ·omega
 ·split <;> omega
theorem b22{A B x y:Nat}(h1:A < B)(h:x < y)(hn:¬ (x=A∧y=B)):nm A B x≠nm A B y:=by
 unfold nm
 split <;> split <;> (try split) <;> (try split) <;> omega
abbrev pf(ps:List (Int × Int))(i:Nat):Int × Int:=ps.getD i (0,0)
section
variable {m:Int}{ps cs:List (Int × Int)}{pl:List Nat}
theorem n81{i:Nat}(h:i < ps.length):pf ps i∈ps:=by
 rw[pf,List.getD_eq_getElem?_getD,List.getElem?_eq_getElem h];exact getElem_mem h
def kept(ps:List (Int × Int))(n:Nat):List Nat:=(range ps.length).filter λi=>!(pf ps i == pf ps n)
def j40(ps:List (Int × Int))(n:Nat):List Tr:=J00 ((kept ps n).map λi=>(rn (tA ps n) (tB ps n) (pf ps i),i))
def i40(ps:List (Int × Int))(n:Nat):List (Int × Int):=(j40 ps n).map (·.1)
def x01(ps:List (Int × Int))(n:Nat):List Nat:=(j40 ps n).map (·.2)
theorem J20(n:Nat):(j40 ps n).Perm ((kept ps n).map λi=>(rn (tA ps n) (tB ps n) (pf ps i),i)):=z00 _
theorem x11(n:Nat):(x01 ps n).Perm (kept ps n):=by
 have:=(J20 (ps:=ps) n).map (·.2)
 rw[List.map_map] at this
 exact this.trans (by rw[show((λt:Tr=>t.2) ∘ λi=>(rn (tA ps n) (tB ps n) (pf ps i),i))=id from rfl,map_id])
theorem x21{n i:Nat}:i∈kept ps n↔i < ps.length∧pf ps i≠pf ps n:=by
 unfold kept
 rw[mem_filter,mem_range]
 simp
theorem n91{n:Nat}:(x01 ps n).length=(i40 ps n).length:=by unfold x01 i40;rw[length_map,length_map]
theorem p00{n:Nat}:(i40 ps n).length≤ps.length:=by
 rw[← n91,(x11 n).length_eq]
 exact Nat.le_trans (length_filter_le _ _) (by rw[length_range];exact Nat.le_refl _)
def o01(ps:List (Int × Int))(n:Nat)(pl:List Nat):List Nat:=(range 8).filter λq=>(pl.map (nm (tA ps n) (tB ps n))).contains q
theorem f20.ab(g:f20 m ps){n:Nat}(hn:n < ps.length):tA ps n < tB ps n∧tB ps n < m.toNat∧pf ps n=((tA ps n:Int),(tB ps n:Int)):=by
 have:=g.tie _ (n81 hn)
 refine⟨by show(pf ps n).1.toNat < (pf ps n).2.toNat;omega,by show(pf ps n).2.toNat < _;omega,Prod.ext ?_ ?_⟩
 ·show(pf ps n).1=((pf ps n).1.toNat:Int);omega
 ·show(pf ps n).2=((pf ps n).2.toNat:Int);omega
theorem J30(g:f20 m ps)(hp:I70 m pl){n:Nat}(hn:n < ps.length){q:Nat}:q∈o01 ps n pl↔∃ p∈pl,nm (tA ps n) (tB ps n) p=q:=by
 obtain⟨h1,h2,_⟩:=g.ab hn
 have h6:=g.m6
 unfold o01
 rw[mem_filter,mem_range,List.contains_iff_mem,List.mem_map]
 refine⟨λh=>h.2,λh=>⟨?_,h⟩⟩
 obtain⟨p,h3,rfl⟩:=h
 have:=w91 h1 h2 (p:=p) (by have:=hp.lt p h3;omega)
 omega
theorem f20.drawn(g:f20 m ps){n:Nat}(hn:n < ps.length):f20 (m - 1) (i40 ps n):=by
 obtain⟨h1,h2,_⟩:=g.ab hn
 have h6:=g.m6
 refine⟨by omega,by omega,Nat.le_trans p00 g.len,λp hp=>?_,U30 _⟩
 obtain⟨t,ht,rfl⟩:=List.mem_map.mp hp
 obtain⟨i,hi,rfl⟩:=List.mem_map.mp ((J20 n).mem_iff.mp ht)
 obtain⟨i1,i2⟩:=x21.mp hi
 obtain⟨j1,j2,j3⟩:=g.ab i1
 have k1:=w91 h1 h2 (p:=tA ps i) (by omega)
 have k2:=w91 h1 h2 (p:=tB ps i) j2
 have k3:=b22 h1 j1 (λq=>i2 (by rw[j3,q.1,q.2,(g.ab hn).2.2]))
 show 0≤(((min (nm (tA ps n) (tB ps n) (tA ps i)) (nm (tA ps n) (tB ps n) (tB ps i)):Nat)):Int)∧(((min (nm (tA ps n) (tB ps n) (tA ps i)) (nm (tA ps n) (tB ps n) (tB ps i)):Nat)):Int) < (((max (nm (tA ps n) (tB ps n) (tA ps i)) (nm (tA ps n) (tB ps n) (tB ps i)):Nat)):Int)∧(((max (nm (tA ps n) (tB ps n) (tA ps i)) (nm (tA ps n) (tB ps n) (tB ps i)):Nat)):Int) < m - 1
 omega
theorem I70.drawn(g:f20 m ps)(hp:I70 m pl){n:Nat}(hn:n < ps.length):I70 (m - 1) (o01 ps n pl):=by
 obtain⟨h1,h2,_⟩:=g.ab hn
 refine⟨λe=>?_,List.Pairwise.filter _ List.pairwise_lt_range,λq hq=>?_⟩
 ·obtain⟨p,hp'⟩:=List.exists_mem_of_ne_nil _ hp.ne
  have:=(J30 g hp hn).mpr ⟨p,hp',rfl⟩
  rw[e] at this
  cases this
 ·obtain⟨p,h3,rfl⟩:=(J30 g hp hn).mp hq
  have:=w91 h1 h2 (p:=p) (by have:=hp.lt p h3;omega)
  omega
end
theorem l00(k:Nat)(z:Z)(h:d00 x ts.length=true):c20 T (k + 5) e60 [.d (.tup [a,.tup ts]),.d x] z=some (.ok (.d .non) z) :=
 W.ok (p30 (ps:=2) (ns:=2) (b:=e70) rfl rfl (by decide) (Wo (i90 k x ts.length z) (ie (b:=!d00 x ts.length) (by rw[h];rfl) (sd rfl))))
theorem l10(k:Nat)(z:Z)(h:d00 x ts.length=false):c20 T (k + 5) e60 [.d (.tup [a,.tup ts]),.d x] z=some (.er 4 z) :=
 W.er (p30 (ps:=2) (ns:=2) (b:=e70) rfl rfl (by decide) (Wo (i90 k x ts.length z) (it (b:=!d00 x ts.length) (by rw[h];rfl) ⟨rfl,g30 z⟩)))
theorem o11(k:Nat)(hl:ts.length≤8)(hz:ZI z):W (c20 T (k + 4) m60 [.z,.d (.tup [a,.tup ts])]) z (λs z1=>ZI z1∧∃ x,s=.d x∧d00 x ts.length=false) NE:=by
 refine a32 hz (ps:=2) (ns:=2) (b:=h70) rfl rfl (by decide) ?_
 refine(m80 k 9 hz (by decide) (by decide)).imp λs z1 ⟨hz1,v,e,v1⟩=>?_
 subst e
 refine(a72 (n:=v) (λx=>!d00 x ts.length) ?_ ?_ ?_ :)
 ·show v < 9
  omega
 ·have h9:¬ (((10:Int) ^ (29:Int).toNat) < (ts.length:Int)):=by
   have:(10:Int) ^ (29:Int).toNat=100000000000000000000000000000:=by decide
   omega
  show List.all [.int (ts.length:Int),.int (-1),.bl true,.non,.str "0",.tup [.int 0],.int ((10:Int) ^ (29:Int).toNat),.int ((ts.length:Int) + 1),.bl false] (λx=>!d00 x ts.length)=true
  simp[d00,h9]
  omega
 ·exact λx hx=>⟨hz1,x,rfl,by simpa using hx⟩
theorem J40{n K:Nat}(h:n < K):d00 (.int n) K=true:=by
 show(decide (0≤(n:Int))&&decide ((n:Int) < (K:Int)))=true
 rw[decide_eq_true (by omega),decide_eq_true (by omega)];rfl
theorem Bs.up{n m:Nat}{c:Int × Int}(h:Bs n c)(hm:n≤m):Bs m c :=
 have e:=Nat.pow_le_pow_right (n:=2) (by decide) hm
 ⟨Nat.le_trans h.t e,h.b0,Nat.le_trans h.b e⟩
theorem Bs.low{n:Nat}{t b:Int}(h0:0 < b)(ht:t.natAbs≤2 ^ n)(hb:b.natAbs≤2 ^ n):Bs n (p20 t b) :=
 ⟨Nat.le_trans (n41 h0).1 ht,O50 h0,Nat.le_trans (n41 h0).2 hb⟩
theorem Bs.mul{n:Nat}{c d:Int × Int}(hc:Bs n c)(hd:Bs n d):Bs (n + n) (p20 (c.1 * d.1) (c.2 * d.2)):=.low (mul_pos hc.b0 hd.b0) (n31 hc.t hd.t) (n31 hc.b hd.b)
theorem J50(k p b:Nat)(z:Z):c20 T (k + 3) w30 [.d (c70 p),.d (.int b)] z=some (.ok (.d (c70 (if b < p then p - 1 else p))) z):=by
 refine W.ok (p30 (ps:=2) (ns:=2) (b:=n20) rfl rfl (by decide) ?_)
 refine ib (b:=decide ((b:Int) < p)) (λh=>?_) λh=>?_
 ·have h:=of_decide_eq_true h
  refine sd ?_
  show S.d (.int ((p:Int) - 1))=S.d (.int ((if b < p then p - 1 else p:Nat):Int))
  rw[if_pos (by omega),show(((p - 1:Nat)):Int)=(p:Int) - 1 by omega]
 ·have h:=of_decide_eq_false h
  refine sd ?_
  rw[if_neg (by omega)];rfl
theorem o21(k x y:Nat)(z:Z):c20 T (k + 3) T60 [.d (c70 x),.d (c70 y)] z=some (.ok (.d (pr (((min x y:Nat):Int),((max x y:Nat):Int)))) z):=by
 refine W.ok (p30 (ps:=2) (ns:=2) (b:=D30) rfl rfl (by decide) ?_)
 refine sd ?_
 show S.d (.tup [.int (if (y:Int) < x then(y:Int) else x),.int (if (y:Int) > x then(y:Int) else x)])=S.d (.tup [.int ((min x y:Nat):Int),.int ((max x y:Nat):Int)])
 rw[show(if (y:Int) < x then(y:Int) else x)=((min x y:Nat):Int) by split <;> omega,show(if (y:Int) > x then(y:Int) else x)=((max x y:Nat):Int) by split <;> omega]
abbrev Y40(M A B:Nat):List D:=(range M).map λp=>c70 (nm A B p)
theorem U50{M A B:Nat}{p:Int}(h0:0≤p)(h:p.toNat < M):Z10 (.tup (Y40 M A B)) (.int p)=some (c70 (nm A B p.toNat)):=by
 obtain⟨n,rfl⟩:=Int.eq_ofNat_of_zero_le h0
 rw[toNat_natCast] at h ⊢
 exact Y10 (by rw[List.getElem?_map,List.getElem?_range h];rfl)
theorem Y50(k:Nat){M A B:Nat}{p:Int × Int}(h1:0≤p.1)(h2:p.1.toNat < M)(h3:0≤p.2)(h4:p.2.toNat < M)(z:Z):c20 T (k + 4) I20 [.d (pr p),.d (.tup (Y40 M A B))] z=some (.ok (.d (pr (rn A B p))) z):=by
 refine W.ok (p30 (ps:=2) (ns:=4) (b:=w40) rfl rfl (by decide) ?_)
 refine(a40 (U50 h1 h2) ?_ :)
 refine(a40 (U50 h3 h4) ?_ :)
 exact Wo (o21 k _ _ z) (sd rfl)
theorem D70(k p a b:Nat)(z:Z):c20 T (k + 4) r10 [.d (c70 p),.d (pr ((a:Int),(b:Int)))] z=some (.ok (.d (c70 (nm a b p))) z):=by
 refine W.ok (p30 (ps:=2) (ns:=4) (b:=k70) rfl rfl (by decide) ?_)
 refine ib (b:=(p:Int) == b) (λh=>?_) λh=>?_
 ·have h:=eq_of_beq h
  refine sd ?_
  unfold nm
  rw[if_pos (by omega)];rfl
 ·have h:=ne_of_beq_false h
  refine Wo (J50 k p b z) (sd ?_)
  unfold nm
  rw[if_neg (c:=p=b) (by omega)]
theorem O70{ps:List (Int × Int)}:o20 (ps.map pr) 0=(range ps.length).map λi=>.tup [c70 i,pr (pf ps i)]:=by
 have:∀ (l:List (Int × Int)) (j:Nat),o20 (l.map pr) j=(range l.length).map λi=>.tup [c70 (j + i),pr (pf l i)]
 :=by
  intro l
  induction l with
  |nil=>intro _;rfl
  |cons p r ih =>
   intro j
   rw[length_cons,List.range_succ_eq_map]
   show .tup [.int j,pr p]::o20 (r.map pr) (j + 1)=D.tup [c70 (j + 0),pr p]::((range r.length).map Nat.succ).map _
   rw[ih (j + 1),List.map_map]
   refine congr (congrArg _ rfl) (map_congr_left λi _=>?_)
   show D.tup [c70 (j + 1 + i),_]=D.tup [c70 (j + (i + 1)),_]
   rw[show j + 1 + i=j + (i + 1) by omega];rfl
 rw[this ps 0]
 exact map_congr_left λi _=>by rw[zero_add]
theorem b32(a b:Int × Int):((a.1 == b.1)&&((a.2 == b.2)&&true))=(a == b):=by rw[Bool.and_true];rfl
section
variable {m:Int}{ps cs:List (Int × Int)}{pl:List Nat}
def O80:D→Nat
 |.tup [.int i,_]=>i.toNat
 |_=>0
theorem D80(k:Nat)(g:f20 m ps){n:Nat}(hn:n < ps.length)(z:Z):c20 T (k + 5) r20 [.d (.tup (ps.map pr)),.d (.tup (Y40 m.toNat (tA ps n) (tB ps n))),.d (pr (pf ps n))] z=some (.ok (.fr ((j40 ps n).map trD)) z):=by
 have h8:=g.len
 refine W.ok (p30 (ps:=3) (ns:=3) (b:=k80) rfl rfl (by decide) ?_)
 refine ip (by show(o20 (ps.map pr) 0).length≤most;rw[O70,length_map,length_range];exact s40 (by omega)) ?_
 refine q02 (λx=>!(pf ps (O80 x) == pf ps n)) (λx=>trD (rn (tA ps n) (tB ps n) (pf ps (O80 x)),O80 x)) (λx hx=>?_) ?_
 ·rw[O70] at hx
  obtain⟨i,hi,rfl⟩:=List.mem_map.mp hx
  have hi:=List.mem_range.mp hi
  obtain⟨j1,j2,j3⟩:=g.ab hi
  have tie:=g.tie _ (n81 hi)
  have eo:O80 (.tup [c70 i,pr (pf ps i)])=i:=toNat_natCast i
  refine⟨?_,rfl,λhk=>?_⟩
  ·rw[eo]
   exact congrArg (λb=>S.d (.bl (!b))) (b32 _ _)
  ·refine Wo (Y50 (k + 0) (p:=pf ps i) tie.1 (by show tA ps i < _;omega) (by omega) j2 z) ⟨?_,rfl⟩
   rw[eo];rfl
 ·rw[O70,filter_map,List.map_map]
  refine(a40 (o:=bfD .sorted [.lst _]) (a:=.fr ((j40 ps n).map trD)) ?_ ?_ :)
  ·have e:(((range ps.length).filter ((λx=>!(pf ps (O80 x) == pf ps n)) ∘ λi=>D.tup [c70 i,pr (pf ps i)])).map ((λx=>trD (rn (tA ps n) (tB ps n) (pf ps (O80 x)),O80 x)) ∘ λi=>D.tup [c70 i,pr (pf ps i)]))=((kept ps n).map λi=>(rn (tA ps n) (tB ps n) (pf ps i),i)).map trD:=by
    rw[List.map_map]
    exact rfl
   rw[e,n71 (by rw[length_map];exact Nat.lt_of_le_of_lt (length_filter_le _ _) (by rw[length_range];omega))];rfl
  ·exact sd rfl
def M31:D→D
 |.tup [a,_]=>a
 |x=>x
def q22:D→D
 |.tup [_,b]=>b
 |x=>x
def natOf:D→Nat
 |.int i=>i.toNat
 |_=>0
theorem D90(g:f20 m ps){n:Nat}:(j40 ps n).length≤8:=by
 have:=p00 (ps:=ps) (n:=n)
 unfold i40 at this
 rw[length_map] at this
 have:=g.len
 omega
theorem Y60{F:FT}(g:f20 m ps){n:Nat}{ns:List D}{z:Z}{tp:Bool}{o6:Option S}:WS F tp (tl (tl (tl (tl (tl q70))))) [some (.d (r80 m ps)),some (.d (.int n)),some (.d (.int m)),some (.d (.tup (ps.map pr))),some (.d (.tup ns)),some (.fr ((j40 ps n).map trD)),o6] z (λo z1=>match o with
  |.rt s=>s=S.d (.tup [r80 (m - 1) (i40 ps n),.tup ns,.tup ((x01 ps n).map c70)])∧w90 z z1=z
  |.nx _=>S.d .non=S.d (.tup [r80 (m - 1) (i40 ps n),.tup ns,.tup ((x01 ps n).map c70)])∧w90 z z1=z) NE:=by
 have sl:=D90 g (n:=n)
 refine ip (by rw[length_map];exact s40 (by omega)) (l51 M31 (λx hx=>?_) ?_)
 ·obtain⟨t,_,rfl⟩:=List.mem_map.mp hx
  exact⟨rfl,rfl⟩
 ·have hb:s20 (S.d (.tup [.int (m - 1),.tup (((j40 ps n).map trD).map M31)]))=true:=by
   show(true&&(n10 (((j40 ps n).map trD).map M31)&&true))=true
   have e:((j40 ps n).map trD).map M31=(i40 ps n).map pr:=by unfold i40;rw[List.map_map,List.map_map];rfl
   rw[e,D50];rfl
  refine(a40 (o:=Option.bind (plA [plS (if s20 (S.d (.tup [.int (m - 1),.tup (((j40 ps n).map trD).map M31)]))=true then S.fr ((j40 ps n).map trD) else S.d (.lst ((j40 ps n).map trD)))]) (itD .seq)) (a:=(j40 ps n).map trD) (by rw[hb];rfl) ?_ :)
  refine ip (by rw[length_map];exact s40 (by omega)) (l51 q22 (λx hx=>?_) ?_)
  ·obtain⟨t,_,rfl⟩:=List.mem_map.mp hx
   exact⟨rfl,rfl⟩
  ·refine sd ?_
   show S.d (.tup [.tup [.int (m - 1),.tup (((j40 ps n).map trD).map M31)],.tup _,.tup (((j40 ps n).map trD).map q22)])=_
   rw[List.map_map,List.map_map]
   unfold r80 i40 x01
   rw[List.map_map,List.map_map]
   rfl
theorem x31(k:Nat)(g:f20 m ps){n:Nat}(hn:n < ps.length)(z:Z):c20 T (k + 9) q40 [.d (r80 m ps),.d (.int n)] z=some (.ok (.d (.tup [r80 (m - 1) (i40 ps n),.tup (Y40 m.toNat (tA ps n) (tB ps n)),.tup ((x01 ps n).map c70)])) z):=by
 have h8:=g.len
 have h6:=g.m6
 have h1:=g.m1
 have ab:=(g.ab hn).2.2
 have sl:=D90 g (n:=n)
 refine W.ok (p30 (ps:=2) (ns:=7) (b:=q70) rfl rfl (by decide) (Wo (h30 k z g.web) (Wo (l00 (k + 3) z (by rw[length_map];exact J40 hn)) ?_)))
 refine(a40 (O10 (m:=m) (by omega) (by omega)) ?_ :)
 refine ip (by rw[length_map,length_range];exact s40 (by omega)) (l51 (λx=>c70 (nm (tA ps n) (tB ps n) (natOf x))) (λx hx=>?_) ?_)
 ·obtain⟨p,_,rfl⟩:=List.mem_map.mp hx
  refine(a40 (I80 hn) ?_ :)
  have c:=D70 (k + 4) p (tA ps n) (tB ps n) z
  rw[← ab] at c
  exact Wo c ⟨rfl,rfl⟩
 ·rw[List.map_map]
  refine(a40 (I80 hn) ?_ :)
  refine Wo (D80 (k + 3) g hn z) ?_
  exact Y60 g
theorem K51{n:Nat}(l:List (Int × Int)):cutD (l.map pr) none (some (n:Int))++cutD (l.map pr) (some ((n:Int) + 1)) none=(l.eraseIdx n).map pr:=by
 rw[m81 _ (by omega),toNat_natCast,show((n:Int) + 1)=((n + 1:Nat):Int) by omega,s90,List.eraseIdx_eq_take_drop_succ,map_append,List.map_take,List.map_drop]
theorem n72{l:List (Int × Int)}{n:Nat}(hl:l.length≤8):Q50 .add (.tup (cutD (l.map pr) none (some (n:Int)))) (.tup (cutD (l.map pr) (some ((n:Int) + 1)) none))=some (.d (.tup ((l.eraseIdx n).map pr))):=by
 have e1:(cutD (l.map pr) none (some (n:Int))).length≤8:=by rw[m81 _ (by omega),length_take,length_map];omega
 have e2:(cutD (l.map pr) (some ((n:Int) + 1)) none).length≤8:=by rw[show((n:Int) + 1)=((n + 1:Nat):Int) by omega,s90,length_drop,length_map];omega
 rw[n62 (by omega),K51]
theorem Y70(k:Nat)(g:f20 m ps){n:Nat}(hn:n < ps.length)(z:Z):c20 T (k + 9) i30 [.d (r80 m ps),.d (.int n)] z=some (.ok (.d (r80 m (ps.eraseIdx n))) z):=by
 refine W.ok (p30 (ps:=2) (ns:=4) (b:=k60) rfl rfl (by decide) (Wo (h30 k z g.web) (Wo (l00 (k + 3) z (by rw[length_map];exact J40 hn)) ?_)))
 refine(a40 (n72 (l:=ps) (n:=n) g.len) ?_ :)
 exact sd rfl
end
theorem eq_self(h:okD x=true)(hs:L71 .seq x=false):p90 .eq x x=some true:=by
 show(if okD x&&okD x then some (eqD x x) else eqE x x)=some true
 rw[h]
 cases x with
 |non=>rfl
 |bl b=>show some (b == b)=_;rw[beq_self_eq_true]
 |int i=>show some (i == i)=_;rw[beq_self_eq_true]
 |str s=>show some (s == s)=_;rw[beq_self_eq_true]
 |tup l=>cases hs
 |lst l=>cases hs
 |dct=>rfl
theorem U60:∀ {l:List D}{d:D},d∈s00 l l→∃ x∈l,d=.tup [x,x]
 |x::r,d,h=>by
  rcases List.mem_cons.mp h with h | h
  ·exact⟨x,mem_cons_self,h⟩
  ·obtain⟨u,hu,e⟩:=U60 h
   exact⟨u,mem_cons_of_mem _ hu,e⟩
mutual
noncomputable def flat:Nat→D→Bool
 |_,.non=>true
 |_,.bl _=>true
 |_,.int _=>true
 |_,.str _=>false
 |0,.tup _=>false
 |d + 1,.tup l=>decide (l.length≤1000)&&O90 d l
 |_,.lst _=>false
 |_,.dct=>false
noncomputable def O90:Nat→List D→Bool
 |_,[]=>true
 |d,x::r=>flat d x&&O90 d r
end
theorem J60:∀ {d:Nat}{l:List D}{x:D},O90 d l=true→x∈l→flat d x=true
 |d,y::r,x,h,hx=>by
  unfold O90 at h
  rw[and_eq_true] at h
  rcases List.mem_cons.mp hx with rfl | hx
  ·exact h.1
  ·exact J60 h.2 hx
theorem o31:∀ (d k:Nat) (x:D) (z:Z),flat d x=true→c20 T (k + d + 3) g40 [.d x,.d x] z=some (.ok (.d (.bl true)) z):=by
 have one:∀ (k:Nat) (x:D) (z:Z),okD x=true→L71 .seq x=false→c20 T (k + 3) g40 [.d x,.d x] z=some (.ok (.d (.bl true)) z):=λk x z h hs=>by
  refine W.ok (p30 (ps:=2) (ns:=2) (b:=i80) rfl rfl (by decide) (ie hs ?_))
  refine(a40 (eq_self h hs) ?_ :)
  cases x with
  |tup l=>cases hs
  |lst l=>cases hs
  |_=>exact sb rfl
 intro d
 induction d with
 |zero =>
  intro k x z h
  cases x with
  |non=>exact one k _ z rfl rfl
  |bl b=>exact one k _ z rfl rfl
  |int i=>exact one k _ z rfl rfl
  |_=>unfold flat at h;cases h
 |succ d ih =>
  intro k x z h
  cases x with
  |non=>exact one _ _ z rfl rfl
  |bl b=>exact one _ _ z rfl rfl
  |int i=>exact one _ _ z rfl rfl
  |tup l =>
   unfold flat at h
   rw[and_eq_true,decide_eq_true_eq] at h
   refine W.ok (p30 (ps:=2) (ns:=2) (b:=i80) rfl rfl (by decide) ?_)
   refine ie (b:=!((l.length:Int) == (l.length:Int))) (by rw[beq_self_eq_true];rfl) ?_
   refine ip (c:=(s00 l l).length≤most) (Nat.le_trans (D40 _ _) (s40 h.1)) (l51 (λ_=>.bl true) (λq hq=>?_) (a40 (l71 (s00 l l) λ_=>true) ?_ :))
   ·obtain⟨x,hx,rfl⟩:=U60 hq
    exact Wo (ih k x z (J60 h.2 hx)) ⟨rfl,rfl⟩
   ·exact sb (b:=(s00 l l).all λ_=>true) (List.all_eq_true.mpr λ_ _=>rfl)
  |_=>unfold flat at h;cases h
def flD(t:Tr):D:=.tup [.int t.1.1,.int t.1.2,c70 t.2]
theorem o41(k:Tr):∀ l:List Tr,L50 (flD k) (l.map flD)=(Z40 k l).map flD
 |[]=>rfl
 |y::r=>by
  unfold Z40
  show(if MySort.e00 (tk y) (tk k) then flD y::L50 (flD k) (r.map flD) else flD k::flD y::r.map flD)=_
  split
  ·rw[o41 k r];rfl
  ·rfl
theorem U70:∀ l:List Tr,m30 (l.map flD)=(J00 l).map flD
 |[]=>rfl
 |k::r=>by
  show L50 (flD k) (m30 (r.map flD))=_
  rw[U70 r,o41];rfl
theorem K61(p q:Tr):d60 (flD p) (flD q)=true:=by
 have e:ltD (flD p) (flD q)=some (MySort.e00 (tk p) (tk q)):=by
  show(if (p.1.1 == q.1.1)=true then(if (p.1.2 == q.1.2)=true then(if ((p.2:Int) == q.2)=true then some false else some (decide ((p.2:Int) < q.2))) else some (decide (p.1.2 < q.1.2))) else some (decide (p.1.1 < q.1.1)))=some (if p.1.1=q.1.1 then(if p.1.2=q.1.2 then(if (p.2:Int)=q.2 then false else decide ((p.2:Int) < q.2)) else decide (p.1.2 < q.1.2)) else decide (p.1.1 < q.1.1))
  by_cases h1:p.1.1=q.1.1 <;> by_cases h2:p.1.2=q.1.2 <;> by_cases h3:(p.2:Int)=q.2 <;> simp[h1,h2,h3]
 unfold d60
 rw[e]
 show(true&&((some (MySort.e00 (tk p) (tk q)) == some (MySort.e00 (tk p) (tk q)))&&(((p.1.1 == q.1.1)&&((p.1.2 == q.1.2)&&(((p.2:Int) == q.2)&&true))) || !([p.1.1,p.1.2,(p.2:Int)] == [q.1.1,q.1.2,(q.2:Int)]))))=true
 rw[beq_self_eq_true,Bool.true_and,Bool.true_and,Bool.and_true]
 by_cases h1:p.1.1=q.1.1 <;> by_cases h2:p.1.2=q.1.2 <;> by_cases h3:(p.2:Int)=q.2 <;> simp[h1,h2,h3]
theorem o51{l:List Tr}(h:l.length < 64):bfD .sorted [.lst (l.map flD)]=some (.fr ((J00 l).map flD)):=by
 have ok:j10 (l.map flD)=true:=by
  refine List.all_eq_true.mpr λx hx=>?_
  obtain⟨p,_,rfl⟩:=List.mem_map.mp hx
  show(true&&(true&&(l.map flD).all (d60 (flD p))))=true
  refine List.all_eq_true.mpr λy hy=>?_
  obtain⟨q,_,rfl⟩:=List.mem_map.mp hy
  exact K61 p q
 show(if (l.map flD).length < 64∧j10 (l.map flD)=true then some (S.fr (m30 (l.map flD))) else(c32 (l.map flD)).map S.fr)=_
 rw[if_pos ⟨by rw[length_map];exact h,ok⟩,U70]
theorem q32(a b:Int):MySort.e00 [a] [b]=decide (a < b):=by
 show(if a=b then false else decide (a < b))=_
 by_cases h:a=b
 ·rw[if_pos h,h];simp
 ·rw[if_neg h]
theorem U80(a b:Nat):d60 (c70 a) (c70 b)=true:=by
 show(true&&((some (decide ((a:Int) < b)) == some (MySort.e00 [(a:Int)] [(b:Int)]))&&(((a:Int) == b) || !([(a:Int)] == [(b:Int)]))))=true
 rw[q32,beq_self_eq_true,Bool.true_and,Bool.true_and]
 by_cases h:(a:Int)=b <;> simp[h]
theorem Y80(x y:Nat):bfD .sorted [.lst [c70 x,c70 y]]=some (.fr [c70 (min x y),c70 (max x y)]):=by
 have ok:j10 [c70 x,c70 y]=true:=by
  refine List.all_eq_true.mpr λu hu=>?_
  have one:∀ a:Nat,(true&&(true&&[c70 x,c70 y].all (d60 (c70 a))))=true:=λa=>by
   show(d60 (c70 a) (c70 x)&&(d60 (c70 a) (c70 y)&&true))=true
   rw[U80,U80];rfl
  simp only[mem_cons,not_mem_nil,or_false] at hu
  rcases hu with rfl | rfl
  ·exact one x
  ·exact one y
 have e:m30 [c70 x,c70 y]=[c70 (min x y),c70 (max x y)]:=by
  show(if MySort.e00 [(y:Int)] [(x:Int)] then [c70 y,c70 x] else [c70 x,c70 y])=_
  rw[q32]
  by_cases h:(y:Int) < x
  ·rw[decide_eq_true h,if_pos rfl,Nat.min_eq_right (by omega),Nat.max_eq_left (by omega)]
  ·rw[decide_eq_false h,if_neg (by decide),Nat.min_eq_left (by omega),Nat.max_eq_right (by omega)]
 show(if [c70 x,c70 y].length < 64∧j10 [c70 x,c70 y]=true then some (S.fr (m30 [c70 x,c70 y])) else _)=_
 rw[if_pos ⟨by show 2 < 64;decide,ok⟩,e]
section
variable {m:Int}{ps:List (Int × Int)}
abbrev nmJ(M A B j:Nat):List D:=(range M).map λp=>c70 (if p < j then nm A B p else p)
theorem K71(M A B:Nat):nmJ M A B M=Y40 M A B:=map_congr_left λp hp=>by rw[if_pos (List.mem_range.mp hp)]
theorem K81{M A B j:Nat}(h:j < M):(nmJ M A B j).set j (c70 (nm A B j))=nmJ M A B (j + 1):=by
 refine ext_getElem (by rw[length_set,length_map,length_map]) λi h1 h2=>?_
 rw[List.getElem_set]
 have hi:i < M:=by rw[length_map,length_range] at h2;exact h2
 split
 ·rename_i e
  subst e
  rw[getElem_map,getElem_range,if_pos (lt_succ_self _)]
 ·rename_i e
  simp only[getElem_map,getElem_range]
  by_cases hl:i < j
  ·rw[if_pos hl,if_pos (by omega)]
  ·rw[if_neg hl,if_neg (by omega)]
theorem x41{M A B j:Nat}(h:nm A B j=j):nmJ M A B (j + 1)=nmJ M A B j:=map_congr_left λp _=>by
 by_cases e:p=j
 ·subst e
  rw[if_pos (lt_succ_self _),if_neg (Nat.lt_irrefl _),h]
 ·by_cases hl:p < j
  ·rw[if_pos hl,if_pos (by omega)]
  ·rw[if_neg hl,if_neg (by omega)]
theorem B41{M A B j:Nat}{v:Nat}(h:j < M)(e:v=nm A B j):x50 (nmJ M A B j) (j:Int) (c70 v)=some (nmJ M A B (j + 1)):=by
 have hl:(nmJ M A B j).length=M:=by rw[length_map,length_range]
 have hx:L2.ixN (nmJ M A B j).length (j:Int)=some j:=by
  rw[hl]
  unfold L2.ixN
  simp
  omega
 unfold x50
 rw[hx,e,← K81 h];rfl
theorem x51(M A B:Nat):nmJ M A B 0=(range M).map c70:=map_congr_left λp _=>by rw[if_neg (not_lt_zero _)]
theorem o61{n:Nat}:(range' 0 n).map c70=(range n).map c70:=by rw[range_eq_range']
abbrev B51(m:Int)(ps:List (Int × Int))(n A B:Nat)(o4 o5 o6 o7 o8 o9:Option S):Env:=[some (.d (r80 m ps)),some (.d (.int n)),some (.d (.int A)),some (.d (.int B)),o4,o5,o6,o7,o8,o9]
theorem x61(k:Nat)(g:f20 m ps){n:Nat}(hn:n < ps.length){z:Z}{tp:Bool}{Q:O→Z→Prop}{E:Nat→Z→Prop}
  (q:∀ o5:Option S,WS (E10 T k) tp (tl (tl (tl d30))) (B51 m ps n (tA ps n) (tB ps n) (some (.fr (Y40 m.toNat (tA ps n) (tB ps n)))) o5 none none none none) z Q E) :
  WS (E10 T k) tp (tl (tl d30)) (B51 m ps n (tA ps n) (tB ps n) (some (.fr (nmJ m.toNat (tA ps n) (tB ps n) 0))) none none none none none) z Q E:=by
 have h1:=g.m1
 have h6:=g.m6
 obtain⟨a1,a2,a3⟩:=g.ab hn
 refine(a40 (O10 (m:=m) (by omega) (by omega)) ?_ :)
 refine N80 (λxs ρ z1=>z1=z∧∃ (j r:Nat) (o5:Option S),j + r=m.toNat∧xs=(range' j r).map c70∧ρ=B51 m ps n (tA ps n) (tB ps n) (some (.fr (nmJ m.toNat (tA ps n) (tB ps n) j))) o5 none none none none) _ ⟨rfl,0,m.toNat,none,zero_add _,o61.symm,rfl⟩ ?_ ?_
 ·rintro x r ρ z1 ⟨rfl,j,r',o5,hj,e,rfl⟩
  cases r' with
  |zero=>cases e
  |succ r' =>
   rw[List.range'_succ] at e
   cases e
   have hjm:j < m.toNat:=by omega
   refine ib (b:=(j:Int) == (tB ps n:Int)) (λhb=>?_) λhb=>?_
   ·have hb:=eq_of_beq hb
    refine(a40 (B41 (A:=tA ps n) (B:=tB ps n) (j:=j) (v:=tA ps n) hjm (by unfold nm;rw[if_pos (by omega)])) ?_ :)
    exact⟨rfl,j + 1,r',_,by omega,rfl,rfl⟩
   ·have hb:=ne_of_beq_false hb
    refine ib (b:=decide ((tB ps n:Int) < j)) (λhc=>?_) λhc=>?_
    ·have hc:=of_decide_eq_true hc
     refine(a40 (show x50 (nmJ m.toNat (tA ps n) (tB ps n) j) (j:Int) (.int ((j:Int) - 1))=some (nmJ m.toNat (tA ps n) (tB ps n) (j + 1)) from by rw[show((j:Int) - 1)=((j - 1:Nat):Int) by omega];exact B41 (A:=tA ps n) (B:=tB ps n) (j:=j) (v:=j - 1) hjm (by unfold nm;rw[if_neg (by omega),if_pos (by omega)])) ?_ :)
     exact⟨rfl,j + 1,r',_,by omega,rfl,rfl⟩
    ·have hc:=of_decide_eq_false hc
     refine⟨rfl,j + 1,r',some (.d (c70 j)),by omega,rfl,?_⟩
     rw[x41 (by unfold nm;rw[if_neg (by omega),if_neg (by omega)])];rfl
 ·rintro ρ z1 ⟨rfl,j,r',o5,hj,e,rfl⟩
  cases r' with
  |zero =>
   have hj:j=m.toNat:=hj
   subst hj
   rw[K71]
   exact q _
  |succ r'=>rw[List.range'_succ] at e;cases e
abbrev P00(ps:List (Int × Int))(n j:Nat):List D:=(((range j).filter λi=>!(pf ps i == pf ps n)).map λi=>(rn (tA ps n) (tB ps n) (pf ps i),i)).map flD
theorem J70{n j:Nat}:P00 ps n (j + 1)=P00 ps n j++(if pf ps j == pf ps n then [] else [flD (rn (tA ps n) (tB ps n) (pf ps j),j)]):=by
 unfold P00
 rw[List.range_succ,List.filter_append,map_append,map_append]
 refine congrArg _ ?_
 rw[filter_cons]
 cases h:pf ps j == pf ps n with
 |true=>rfl
 |false=>rfl
theorem b42(g:f20 m ps){n j:Nat}(hn:n < ps.length)(hj:j < ps.length):(nm (tA ps n) (tB ps n) (tA ps j)=nm (tA ps n) (tB ps n) (tB ps j))↔pf ps j=pf ps n:=by
 obtain⟨a1,a2,a3⟩:=g.ab hn
 obtain⟨b1,b2,b3⟩:=g.ab hj
 constructor
 ·intro h
  refine Classical.byContradiction λe=>b22 a1 b1 (λ⟨e1,e2⟩=>e ?_) h
  rw[b3,e1,e2,← a3]
 ·intro h
  have e1:tA ps j=tA ps n:=by show(pf ps j).1.toNat=(pf ps n).1.toNat;rw[h]
  have e2:tB ps j=tB ps n:=by show(pf ps j).2.toNat=(pf ps n).2.toNat;rw[h]
  rw[e1,e2]
  unfold nm
  rw[if_neg (by omega),if_neg (by omega),if_pos rfl]
theorem K91(k:Nat)(g:f20 m ps){n:Nat}(hn:n < ps.length){z:Z}{tp:Bool}{o5:Option S}{Q:O→Z→Prop}{E:Nat→Z→Prop}
  (q:∀ o5 o7 o8:Option S,WS (E10 T k) tp (tl (tl (tl (tl (tl d30))))) (B51 m ps n (tA ps n) (tB ps n) (some (.fr (Y40 m.toNat (tA ps n) (tB ps n)))) o5 (some (.fr (P00 ps n ps.length))) o7 o8 none) z Q E) :
  WS (E10 T k) tp (tl (tl (tl (tl d30)))) (B51 m ps n (tA ps n) (tB ps n) (some (.fr (Y40 m.toNat (tA ps n) (tB ps n)))) o5 (some (.fr [])) none none none) z Q E:=by
 have h8:=g.len
 refine(a40 (O60 (n:=(ps.map pr).length) (by rw[length_map];omega)) ?_ :)
 refine N80 (λxs ρ z1=>z1=z∧∃ (j r:Nat) (o5 o7 o8:Option S),j + r=ps.length∧xs=(range' j r).map c70∧ρ=B51 m ps n (tA ps n) (tB ps n) (some (.fr (Y40 m.toNat (tA ps n) (tB ps n)))) o5 (some (.fr (P00 ps n j))) o7 o8 none) _ ⟨rfl,0,ps.length,_,_,_,zero_add _,by rw[length_map],rfl⟩ ?_ ?_
 ·rintro x r ρ z1 ⟨rfl,j,r',o5,o7,o8,hj,e,rfl⟩
  cases r' with
  |zero=>cases e
  |succ r' =>
   rw[List.range'_succ] at e
   cases e
   have hjm:j < ps.length:=by omega
   have tie:=g.tie _ (n81 hjm)
   obtain⟨b1,b2,b3⟩:=g.ab hjm
   refine(a40 (I80 hjm) ?_ :)
   refine l51 (λx=>c70 (nm (tA ps n) (tB ps n) (natOf x))) (λx hx=>?_) ?_
   ·have hx:x∈[D.int (pf ps j).1,D.int (pf ps j).2]:=hx
    simp only[mem_cons,not_mem_nil,or_false] at hx
    rcases hx with rfl | rfl
    ·refine(a40 (U50 (M:=m.toNat) (A:=tA ps n) (B:=tB ps n) tie.1 (by show tA ps j < _;omega)) ?_ :)
     exact⟨rfl,rfl⟩
    ·refine(a40 (U50 (M:=m.toNat) (A:=tA ps n) (B:=tB ps n) (p:=(pf ps j).2) (by omega) b2) ?_ :)
     exact⟨rfl,rfl⟩
   ·refine(a40 (Y80 (nm (tA ps n) (tB ps n) (tA ps j)) (nm (tA ps n) (tB ps n) (tB ps j))) ?_ :)
    refine ib (b:=!(((min (nm (tA ps n) (tB ps n) (tA ps j)) (nm (tA ps n) (tB ps n) (tB ps j)):Nat):Int) == ((max (nm (tA ps n) (tB ps n) (tA ps j)) (nm (tA ps n) (tB ps n) (tB ps j)):Nat):Int))) (λhb=>?_) λhb=>?_
    ·have ne:(pf ps j == pf ps n)=false:=beq_eq_false_iff_ne.mpr λh=>by
      have:=(b42 g hn hjm).mpr h
      rw[this,Nat.min_self,Nat.max_self,beq_self_eq_true] at hb
      cases hb
     have hlen:(P00 ps n j).length≤8:=by
      rw[length_map,length_map]
      exact Nat.le_trans (length_filter_le _ _) (by rw[length_range];omega)
     refine ip ⟨rfl,Nat.lt_of_le_of_lt hlen (by decide)⟩ ?_
     refine⟨rfl,j + 1,r',s30 true o5,some (.d (c70 j)),(some (.fr [c70 (min (nm (tA ps n) (tB ps n) (tA ps j)) (nm (tA ps n) (tB ps n) (tB ps j))),c70 (max (nm (tA ps n) (tB ps n) (tA ps j)) (nm (tA ps n) (tB ps n) (tB ps j)))])),by omega,rfl,?_⟩
     rw[J70,ne];rfl
    ·have eq:(pf ps j == pf ps n)=true:=beq_iff_eq.mpr ((b42 g hn hjm).mp (by
      have h:=(Bool.not_eq_eq_eq_not.mp hb:_=true)
      have h:=eq_of_beq h
      omega))
     refine⟨rfl,j + 1,r',s30 true o5,some (.d (c70 j)),(some (.fr [c70 (min (nm (tA ps n) (tB ps n) (tA ps j)) (nm (tA ps n) (tB ps n) (tB ps j))),c70 (max (nm (tA ps n) (tB ps n) (tA ps j)) (nm (tA ps n) (tB ps n) (tB ps j)))])),by omega,rfl,?_⟩
     rw[J70,eq,if_pos rfl,append_nil];rfl
 ·rintro ρ z1 ⟨rfl,j,r',o5,o7,o8,hj,e,rfl⟩
  cases r' with
  |zero =>
   have hj:j=ps.length:=hj
   subst hj
   exact q _ _ _
  |succ r'=>rw[List.range'_succ] at e;cases e
end
theorem t00{F:FT}{ρ:Env}{capt:List Nat}{a:Ex}{r:List (List Nat × Ex)}{z:Z}{c:Nat}{cs:List Nat}{ss:List S}(h:Z20 ρ capt=some ss)(he:WE (Q.p20 F) a (ss.map some) z (λ_ _=>False) (λd z2=>d=c∧z2=z))(hc:c < 12)(hr:k00 F ρ r z=some (cs,z)):k00 F ρ ((capt,a)::r) z=some (c::cs,z):=by
 have e:=W.er (c90.mp he)
 unfold k00
 rw[h]
 show(match ev (Q.p20 F) a (ss.map some) z with | some (.er c z1)=>if c < 12 then(k00 F ρ r z1).map λ(p:List Nat × Z)=>(c::p.1,p.2) else none | _=>none)=_
 rw[e]
 show(if c < 12 then(k00 F ρ r z).map λ(p:List Nat × Z)=>(c::p.1,p.2) else none)=_
 rw[if_pos hc,hr];rfl
theorem B61{F:FT}{tp:Bool}{i:Nat}{ls:List (List Nat × Ex)}{e:Ex}{t r:Sm}{ρ:Env}{z:Z}{Q:O→Z→Prop}{E:Nat→Z→Prop}{cs:List Nat}(il:i < ρ.length)(h:k00 F (ρ.set i none) ls z=some (cs,z))(he:WE F e (ρ.set i none) z (λl z1=>Get (pl l) λd=>z1=z∧p90 .ne (.lst (cs.map p11)) d=some false) NE)(hr:WS F tp r (ρ.set i none) z Q E):WS F tp (.lams i ls e t r) ρ z Q E:=by
 show W (if i < ρ.length then(λz=>match k00 F (ρ.set i none) ls z with | none=>none | some (cs,z1)=>M.bind (ev F e (ρ.set i none)) (λl=>M.bind (M.of (pl l)) λd=>M.bind (M.of (p90 .ne (.lst (cs.map p11)) d)) λb=>M.bind (if b then ex F tp t (ρ.set i none) else M.ret (.nx (ρ.set i none))) λo=>match o with | .nx ρ=>ex F tp r ρ | .rt s=>M.ret (.rt s)) z1) else M.no) z Q E
 rw[if_pos il]
 obtain⟨l,e1,e2⟩:=c90.mp he
 cases l with
 |er c z1=>exact e2.elim
 |ok l z1 =>
  obtain⟨d,e3,rfl,e4⟩:=m40 (show Get (pl l) _ from e2)
  obtain⟨o,e5,e6⟩:=y40.mp hr
  refine⟨o,?_,e6⟩
  show(match k00 F (ρ.set i none) ls z1 with | none=>none | some (cs,z1)=>M.bind (ev F e (ρ.set i none)) (λl=>M.bind (M.of (pl l)) λd=>M.bind (M.of (p90 .ne (.lst (cs.map p11)) d)) λb=>M.bind (if b then ex F tp t (ρ.set i none) else M.ret (.nx (ρ.set i none))) λo=>match o with | .nx ρ=>ex F tp r ρ | .rt s=>M.ret (.rt s)) z1)=some o
  rw[h]
  show M.bind (ev F e (ρ.set i none)) _ z1=some o
  simp only[M.bind,e1,M.of,e3,M.ret,e4]
  exact e5
theorem o71{s:S}{ρ:Env}(h:s20 s=true):i20 s ρ=ρ:=by
 unfold i20
 rw[Q60,h];rfl
theorem L01{F:FT}{tp:Bool}{p:Pat}{e:Ex}{r:Sm}{ρ:Env}{z:Z}{Q:O→Z→Prop}{E:Nat→Z→Prop}(s:S)(ρ':Env)(he:WE F e ρ z (λl z1=>Get (one l) λt=>t=s∧z1=z) NE)(hb:G80 p s (i20 s ρ)=some ρ')(q:WS F tp r ρ' z Q E):WS F tp (.seq (.set p e) r) ρ z Q E:=by
 show WE F e ρ z (λl z1=>Get (one l) λs=>Get (G80 p s (i20 s ρ)) λρ'=>WX F tp r ρ' z1 Q E) E
 refine c90.mpr ((c90.mp he).imp λl z1 h=>?_)
 obtain⟨t,e,rfl,rfl⟩:=m40 h
 exact a40 e (a40 hb q)
theorem U90:∀ l:List Tr,n10 (l.map flD)=true
 |[]=>rfl
 |_::r=>U90 r
theorem V00{d:Nat}:∀ {l:List D},(∀ x∈l,flat d x=true)→O90 d l=true
 |[],_=>by unfold O90;rfl
 |x::r,h=>by
  unfold O90
  rw[h x mem_cons_self,V00 λy hy=>h y (mem_cons_of_mem _ hy)];rfl
theorem p10{d:Nat}{l:List D}(h:l.length≤1000)(ha:∀ x∈l,flat d x=true):flat (d + 1) (.tup l)=true:=by
 unfold flat
 rw[decide_eq_true h,V00 ha];rfl
theorem E00{d:Nat}{i:Int}:flat d (.int i)=true:=by unfold flat;rfl
theorem J80{d:Nat}{l:List Nat}(h:l.length≤1000):flat (d + 1) (.tup (l.map c70))=true :=
 p10 (by rw[length_map];exact h) λx hx=>by
  obtain⟨i,_,rfl⟩:=List.mem_map.mp hx
  exact E00
theorem L11{d:Nat}{p:Int × Int}:flat (d + 1) (pr p)=true:=p10 (by decide:2≤1000) λx hx=>by
 simp only[mem_cons,not_mem_nil,or_false] at hx
 rcases hx with rfl | rfl <;> exact E00
theorem V10{d:Nat}{m:Int}{ps:List (Int × Int)}(h:ps.length≤1000):flat (d + 3) (r80 m ps)=true:=p10 (by decide:2≤1000) λx hx=>by
 simp only[mem_cons,not_mem_nil,or_false] at hx
 rcases hx with rfl | rfl
 ·exact E00
 ·refine p10 (by rw[length_map];exact h) λx hx=>?_
  obtain⟨i,_,rfl⟩:=List.mem_map.mp hx
  exact L11
def w52:D→D
 |.tup [a,b,_]=>.tup [a,b]
 |x=>x
def w62:D→D
 |.tup [_,_,c]=>c
 |x=>x
theorem V20:∀ l:List Tr,n10 (l.map λt=>pr t.1)=true
 |[]=>rfl
 |_::r=>V20 r
section
variable {m:Int}{ps:List (Int × Int)}
theorem J90(k:Nat)(g:f20 m ps){n:Nat}(hn:n < ps.length)(z:Z):c20 T (k + 3) r50 [.d (r80 m ps),.d (.int n)] z=some (.ok (.d (.tup [r80 (m - 1) (i40 ps n),.tup (Y40 m.toNat (tA ps n) (tB ps n)),.tup ((x01 ps n).map c70)])) z):=by
 have h8:=g.len
 have h6:=g.m6
 have h1:=g.m1
 have ab:=(g.ab hn).2.2
 have sl:=D90 g (n:=n)
 refine W.ok (p30 (ps:=2) (ns:=10) (b:=d30) rfl rfl (by decide) ?_)
 refine(a40 (show Z10 (.tup (ps.map pr)) (.int n)=some (pr ((tA ps n:Int),(tB ps n:Int))) from by rw[I80 hn];exact congrArg (λx=>some (pr x)) ab) ?_ :)
 refine(a40 (O10 (m:=m) (by omega) (by omega)) ?_ :)
 refine ip (by rw[length_map,length_range];exact s40 (by omega)) (l51 (λx=>x) (λx hx=>⟨rfl,rfl⟩) ?_)
 rw[show((range m.toNat).map λ(i:Nat)=>D.int i).map (λx=>x)=nmJ m.toNat (tA ps n) (tB ps n) 0 from by rw[x51,List.map_id'];rfl]
 refine(x61 (k + 2) g hn λo5=>?_ :)
 refine(K91 (k + 2) g hn λo5 o7 o8=>?_ :)
 refine(L01 (.fr ((j40 ps n).map flD)) (B51 m ps n (tA ps n) (tB ps n) (some (.fr (Y40 m.toNat (tA ps n) (tB ps n)))) o5 (some (.fr ((j40 ps n).map flD))) o7 o8 none) ?_ ?_ ?_ :)
 ·refine(a40 (o:=bfD .sorted [.lst (P00 ps n ps.length)]) (o51 (by rw[length_map];exact Nat.lt_of_le_of_lt (length_filter_le _ _) (by rw[length_range];omega))) ?_ :)
  exact⟨rfl,rfl⟩
 ·rw[o71 (show s20 (.fr ((j40 ps n).map flD))=true from U90 _)];rfl
 refine(L01 (.d (.tup ((j40 ps n).map λt=>pr t.1))) (B51 m ps n (tA ps n) (tB ps n) (some (.fr (Y40 m.toNat (tA ps n) (tB ps n)))) o5 (some (.fr ((j40 ps n).map flD))) o7 o8 (some (.d (.tup ((j40 ps n).map λt=>pr t.1))))) ?_ ?_ ?_ :)
 ·refine ip (by rw[length_map];exact s40 (by omega)) (l51 w52 (λx hx=>?_) ?_)
  ·obtain⟨t,_,rfl⟩:=List.mem_map.mp hx
   exact⟨rfl,rfl⟩
  ·rw[List.map_map]
   exact⟨rfl,rfl⟩
 ·rw[o71 (show s20 (.d (.tup ((j40 ps n).map λt=>pr t.1)))=true from V20 _)];rfl
 ·refine ip (by rw[length_map];exact s40 (by omega)) (l51 w62 (λx hx=>?_) ?_)
  ·obtain⟨t,_,rfl⟩:=List.mem_map.mp hx
   exact⟨rfl,rfl⟩
  ·rw[List.map_map]
   refine sd ?_
   unfold r80 i40 x01
   rw[List.map_map,List.map_map]
   rfl
theorem V30{α:Type}{d:α}:∀ (l:List α) (n:Nat),((range l.length).filter λ(i:Nat)=>!((i:Int) == (n:Int))).map (λi=>l.getD i d)=l.eraseIdx n
 |[],n=>by cases n <;> rfl
 |a::r,n=>by
  rw[length_cons,List.range_succ_eq_map,filter_cons,filter_map]
  cases n with
  |zero =>
   have e:(range r.length).filter ((λ(i:Nat)=>!((i:Int) == ((0:Nat):Int))) ∘ Nat.succ)=range r.length:=List.filter_eq_self.mpr λi _=>by
    show(!(((i + 1:Nat):Int) == ((0:Nat):Int)))=true
    rw[beq_eq_false_iff_ne.mpr (by omega)];rfl
   rw[e,if_neg (by decide),List.map_map]
   show _=r
   refine ext_getElem (by rw[length_map,length_range]) λi h1 h2=>?_
   rw[getElem_map,getElem_range]
   show(a::r).getD (i + 1) d=_
   rw[List.getD_cons_succ,List.getD_eq_getElem?_getD,List.getElem?_eq_getElem h2];rfl
  |succ n =>
   have e:((λ(i:Nat)=>!((i:Int) == ((n + 1:Nat):Int))) ∘ Nat.succ)=λi:Nat=>!((i:Int) == (n:Int)):=funext λi=>by
    show(!(((i + 1:Nat):Int) == ((n + 1:Nat):Int)))=_
    refine congrArg _ ?_
    by_cases h:i=n
    ·rw[h,beq_self_eq_true,beq_self_eq_true]
    ·rw[beq_eq_false_iff_ne.mpr (by omega),beq_eq_false_iff_ne.mpr (by omega)]
   rw[e,if_pos (by
    show(!(((0:Nat):Int) == ((n + 1:Nat):Int)))=true
    rw[beq_eq_false_iff_ne.mpr (by omega)];rfl),map_cons,List.map_map,List.eraseIdx_cons_succ,← V30 r n]
   rfl
theorem o81(k:Nat)(g:f20 m ps){x:D}(h:d00 x ps.length=false)(z:Z):c20 T (k + 9) i30 [.d (r80 m ps),.d x] z=some (.er 4 z) :=
 W.er (p30 (ps:=2) (ns:=4) (b:=k60) rfl rfl (by decide) (Wo (h30 k z g.web) (We (l10 (k + 3) z (by rw[length_map];exact h)) ⟨rfl,g30 z⟩)))
theorem o91(k:Nat){w x:D}(hw:Z30 w=false)(z:Z):c20 T (k + 9) i30 [.d w,.d x] z=some (.er 0 z) :=
 W.er (p30 (ps:=2) (ns:=4) (b:=k60) rfl rfl (by decide) (We (r60 k z hw) ⟨rfl,g30 z⟩))
theorem L21(k:Nat)(g:f20 m ps){x:D}(h:d00 x ps.length=false)(z:Z):c20 T (k + 9) q40 [.d (r80 m ps),.d x] z=some (.er 4 z) :=
 W.er (p30 (ps:=2) (ns:=7) (b:=q70) rfl rfl (by decide) (Wo (h30 k z g.web) (We (l10 (k + 3) z (by rw[length_map];exact h)) ⟨rfl,g30 z⟩)))
theorem L31(k:Nat){w x:D}(hw:Z30 w=false)(z:Z):c20 T (k + 9) q40 [.d w,.d x] z=some (.er 0 z) :=
 W.er (p30 (ps:=2) (ns:=7) (b:=q70) rfl rfl (by decide) (We (r60 k z hw) ⟨rfl,g30 z⟩))
abbrev L41(ns:List Int)(j:Nat)(m:Int)(ps:List (Int × Int))(o4 o5 o6 o7 o8 o9:Option S):Env:=[some (.d (.lst (ns.map D.int))),some (.d (.int j)),some .z,some (.d (r80 m ps)),o4,o5,o6,o7,o8,o9]
abbrev bIn(n:Nat):Sm:=match w51 with
 |.seq (.fr _ _ _ b) _=>Nat.rec b (λ_ r=>tl r) n
 |_=>.nil
theorem L51(k:Nat){ns:List Int}{j:Nat}{z:Z}(g:f20 m ps){bt bw:D}(b1:d00 bt ps.length=false)(hw:Z30 bw=false){o4 o5 o6 o9:Option S}{Q:O→Z→Prop}{E:Nat→Z→Prop}
  (q:∀ (z:Z) (o4 o5 o6 o7 o8 o9:Option S),Q (.nx (L41 ns j m ps o4 o5 o6 o7 o8 o9)) z) :
  WS (E10 T (k + 37 + 2)) true (bIn 4) (L41 ns j m ps o4 o5 o6 (some (.d bt)) (some (.d bw)) o9) z Q E:=by
 refine B61 (cs:=[4,4]) (by show 9 < 10;decide) (t00 (ss:=[.d (r80 m ps),.d bt]) rfl (We (o81 (k + 28) g b1 z) ⟨rfl,rfl⟩) (by decide) (t00 (ss:=[.d (r80 m ps),.d bt]) rfl (We (L21 (k + 28) g b1 z) ⟨rfl,rfl⟩) (by decide) rfl)) ⟨rfl,rfl⟩ ?_
 refine B61 (cs:=[0,0]) (by show 9 < 10;decide) (t00 (ss:=[.d bt,.d bw]) rfl (We (o91 (k + 28) hw z) ⟨rfl,rfl⟩) (by decide) (t00 (ss:=[.d bt,.d bw]) rfl (We (L31 (k + 28) hw z) ⟨rfl,rfl⟩) (by decide) rfl)) ⟨rfl,rfl⟩ ?_
 exact q _ _ _ _ _ _ _
def intOf:D→Int
 |.int i=>i
 |_=>0
theorem x71(k:Nat){ns:List Int}{j:Nat}{z:Z}(g:f20 m ps){o4 o5 o6 o7 o8 o9:Option S}{Q:O→Z→Prop}{E:Nat→Z→Prop}
  (q:∀ (o4 o5 o6 o7 o8 o9:Option S),WS (E10 T (k + 37 + 2)) true (bIn 3) (L41 ns j m ps o4 o5 o6 o7 o8 o9) z Q E) :
  WS (E10 T (k + 37 + 2)) true (bIn 2) (L41 ns j m ps o4 o5 o6 o7 o8 o9) z Q E:=by
 have h8:=g.len
 refine(a40 (O60 (n:=(ps.map pr).length) (by rw[length_map];omega)) ?_ :)
 refine N80 (λxs ρ z1=>z1=z∧(∀ x∈xs,∃ i:Nat,x=c70 i∧i < ps.length)∧∃ (o4 o5 o6 o7 o8 o9:Option S),ρ=L41 ns j m ps o4 o5 o6 o7 o8 o9) _ ⟨rfl,λx hx=>?_,_,_,_,_,_,_,rfl⟩ ?_ ?_
 ·obtain⟨i,hi,rfl⟩:=List.mem_map.mp hx
  rw[length_map,← range_eq_range',mem_range] at hi
  exact⟨i,rfl,hi⟩
 ·rintro x r ρ z1 ⟨rfl,hx,o4,o5,o6,o7,o8,o9,rfl⟩
  obtain⟨n,rfl,hn⟩:=hx x mem_cons_self
  refine(L01 (.d (r80 m (ps.eraseIdx n))) (L41 ns j m ps (some (.d (c70 n))) (some (.d (r80 m (ps.eraseIdx n)))) o6 o7 o8 o9) ?_ ?_ ?_ :)
  ·refine(a40 (O60 (n:=(ps.map pr).length) (by rw[length_map];omega)) ?_ :)
   refine ip (by rw[length_map,List.length_range',length_map];exact s40 (by omega)) (q02 (λx=>!(intOf x == (n:Int))) (λx=>pr (pf ps (natOf x))) (λx hx=>?_) ?_)
   ·obtain⟨i,hi,rfl⟩:=List.mem_map.mp hx
    rw[length_map,← range_eq_range',mem_range] at hi
    refine⟨rfl,rfl,λ_=>?_⟩
    refine(a40 (I80 hi) ?_ :)
    exact⟨rfl,rfl⟩
   ·rw[length_map,← range_eq_range',filter_map,List.map_map,show(((range ps.length).filter ((λx=>!(intOf x == (n:Int))) ∘ c70)).map ((λx=>pr (pf ps (natOf x))) ∘ c70))=(ps.eraseIdx n).map pr from by
     rw[← V30 (d:=(0,0)) ps n,List.map_map];rfl]
    exact⟨rfl,rfl⟩
  ·rw[o71 (show s20 (.d (r80 m (ps.eraseIdx n)))=true from by show(true&&(n10 ((ps.eraseIdx n).map pr)&&true))=true;rw[D50];rfl)];rfl
  ·skip
   refine N80 (λxs ρ z2=>z2=z1∧∃ (o6 o7 o8 o9:Option S),ρ=L41 ns j m ps (some (.d (c70 n))) (some (.d (r80 m (ps.eraseIdx n)))) o6 o7 o8 o9) _ ⟨rfl,_,_,_,_,rfl⟩ ?_ ?_
   ·rintro x r' ρ z2 ⟨rfl,o6,o7,o8,o9,rfl⟩
    refine Wo (Y70 (k + 30) g hn z2) (Wo (o31 3 (k + 33) (r80 m (ps.eraseIdx n)) z2 (V10 (d:=0) (Nat.le_trans (List.length_eraseIdx_le _ _) (by omega)))) ?_)
    refine Wo (x31 (k + 30) g hn z2) (Wo (J90 (k + 36) g hn z2) (Wo (o31 4 (k + 32) _ z2 ?_) ?_))
    ·refine p10 (by show 3≤1000;decide) λx hx=>?_
     simp only[mem_cons,not_mem_nil,or_false] at hx
     rcases hx with rfl | rfl | rfl
     ·exact V10 (d:=0) (Nat.le_trans p00 (by omega))
     ·unfold Y40
      rw[show((range m.toNat).map λp=>c70 (nm (tA ps n) (tB ps n) p))=((range m.toNat).map (nm (tA ps n) (tB ps n))).map c70 from by rw[List.map_map];rfl]
      have:=g.m6
      exact J80 (d:=2) (by rw[length_map,length_range];omega)
     ·exact J80 (d:=2) (by rw[n91];exact Nat.le_trans p00 (by omega))
    ·exact⟨rfl,_,_,_,_,rfl⟩
   ·rintro ρ z2 ⟨rfl,o6,o7,o8,o9,rfl⟩
    exact⟨rfl,λx hx'=>hx x (mem_cons_of_mem _ hx'),_,_,_,_,_,_,rfl⟩
 ·rintro ρ z1 ⟨rfl,_,o4,o5,o6,o7,o8,o9,rfl⟩
  exact q _ _ _ _ _ _
end
abbrev d12(L:Int):Int:=if (if (8:Int) < L then 8 else L) > 1 then(if (8:Int) < L then 8 else L) else 1
theorem b52(k:Nat)(ns:List Int):c20 T (k + 40) a02 [.d (.lst (ns.map D.int))] none=some (.ok (.d (.bl true)) none):=by
 refine W.ok (p30 (k:=k + 37) (ps:=1) (ns:=10) (b:=w51) rfl rfl (by decide) ?_)
 have hN:0≤d12 ((ns.map D.int).length:Int)∧d12 ((ns.map D.int).length:Int) < 100000:=by
  unfold d12
  split <;> (try split) <;> omega
 refine(a40 (O10 (m:=d12 ((ns.map D.int).length:Int)) hN.1 hN.2) ?_ :)
 refine N80 (λxs ρ z=>(∀ x∈xs,∃ j:Nat,x=.int j)∧∃ o1 o2 o3 o4 o5 o6 o7 o8 o9:Option S,ρ=[some (.d (.lst (ns.map D.int))),o1,o2,o3,o4,o5,o6,o7,o8,o9]) _ ⟨λx hx=>?_,_,_,_,_,_,_,_,_,_,rfl⟩ ?_ ?_
 ·obtain⟨i,_,rfl⟩:=List.mem_map.mp hx
  exact⟨i,rfl⟩
 ·rintro x r ρ z1 ⟨hx,o1,o2,o3,o4,o5,o6,o7,o8,o9,rfl⟩
  obtain⟨j,rfl⟩:=hx x mem_cons_self
  obtain⟨sn,sb,hz1,hst⟩:=w61 (k + 35) ns j z1
  refine Wo hst ?_
  refine(m91 (k + 34) hz1 (by decide) (Int.le_refl 8)).imp λs z2 ⟨hz2,m,ps,e,g,_⟩=>?_
  subst e
  refine(x71 k g λo4 o5 o6 o7 o8 o9=>?_ :)
  refine(o11 (k + 35) (a:=.int m) (ts:=ps.map pr) (by rw[length_map];exact g.len) hz2).imp λs z8 ⟨hz8,bt,e,b1⟩=>?_
  subst e
  refine(n21 (k + 35) hz8).imp λs z9 ⟨hz9,bw,e,hbw⟩=>?_
  subst e
  rw[length_map] at b1
  exact L51 k g b1 hbw λ_ _ _ _ _ _ _=>⟨λx hx'=>hx x (mem_cons_of_mem _ hx'),_,_,_,_,_,_,_,_,_,rfl⟩
 ·rintro ρ z1 ⟨_,o1,o2,o3,o4,o5,o6,o7,o8,o9,rfl⟩
  exact⟨rfl,rfl⟩
theorem pure:∀ ns:List Int,ns.length≤63→c20 (tabOf rows) 40 a02 [.d (.lst (ns.map D.int))] none=some (.ok (.d (.bl true)) none):=λns _=>by
 rw[w42]
 exact b52 0 ns
end K3
namespace K3
open PySem L2 Q
theorem ok:rows.all (M21 (x00 rows) nums)=true:=by decide +kernel
theorem bd:k50 rows:=⟨λ_ _ _ _ _ _ us hl=>by obtain⟨_,rfl⟩:=us1 hl;rfl,
 λ_ _ _ _ _ _ us hl=>by obtain⟨_,_,rfl⟩:=us2 hl;rfl,
 λ_ _ _ _ _ _ us hl=>by obtain⟨_,_,rfl⟩:=us2 hl;rfl,
 λ_ _ _ _ _ _ us hl=>by obtain⟨_,_,rfl⟩:=us2 hl;rfl,
 λ_ _ _ _ _ _ us hl=>by obtain⟨_,rfl⟩:=us1 hl;rfl,
 λ_ _ _ _ _ _ us hl=>by obtain⟨_,rfl⟩:=us1 hl;rfl,
 λ_ _ _ _ _ _ us hl=>by obtain⟨_,_,rfl⟩:=us2 hl;rfl,
 λ_ _ _ _ _ _ us hl=>by obtain⟨_,_,rfl⟩:=us2 hl;rfl,
 λ_ _ _ _ _ _ us hl=>by obtain⟨_,_,rfl⟩:=us2 hl;rfl,
 λ_ _ _ _ _ _ us hl=>by obtain⟨_,_,rfl⟩:=us2 hl;rfl,
 λ_ _ _ _ _ _ us hl=>by obtain⟨_,_,rfl⟩:=us2 hl;rfl,
 λ_ _ _ _ _ _ us hl=>by obtain⟨_,_,rfl⟩:=us2 hl;rfl,
 λ_ _ _ _ _ _ us hl=>by obtain⟨_,_,_,rfl⟩:=us3 hl;rfl,
 λ_ _ _ _ _ _ us hl=>by obtain⟨_,_,rfl⟩:=us2 hl;rfl,
 λ_ _ _ _ _ _ us hl=>by obtain⟨_,_,rfl⟩:=us2 hl;rfl,
 λ_ _ _ _ _ _ us hl=>by obtain⟨_,_,rfl⟩:=us2 hl;rfl,
 λ_ _ _ _ _ _ us hl=>by obtain⟨_,_,rfl⟩:=us2 hl;rfl,
 λ_ _ _ _ _ _ us hl=>by obtain⟨_,_,rfl⟩:=us2 hl;rfl,
 λ_ _ _ _ _ _ us hl=>by obtain⟨_,_,rfl⟩:=us2 hl;rfl,
 λ_ _ _ _ _ _ us hl=>by obtain⟨_,_,rfl⟩:=us2 hl;rfl,
 λ_ _ _ _ _ _ us hl=>by obtain⟨_,_,rfl⟩:=us2 hl;rfl,
 λ_ _ _ _ _ _ us hl=>by obtain⟨_,rfl⟩:=us1 hl;rfl,
 λ_ _ _ _ _ _ us hl=>by obtain⟨_,_,rfl⟩:=us2 hl;rfl,
 λ_ _ _ _ _ _ us hl=>by obtain⟨_,rfl⟩:=us1 hl;rfl,trivial⟩
theorem hR:Z01 rows ["law"] [("_law_refused",top 41)]:=λr hr hlm=>by
 have h:=List.all_eq_true.mp (show rows.all (λr=>!r.lm || (["law"]:List Str).contains r.nm)=true from by decide +kernel) r hr
 rw[hlm] at h
 exact⟨List.contains_iff_mem.mp h,top 41,143,.head _,rfl,rfl,λ_ _ _ _ _ _ us hl=>by obtain⟨_,rfl⟩:=us1 hl;rfl⟩
def asks:j50:=y20 rows nums ["law"] [("_law_refused",top 41)]
def prg:Program:=PySem.Challenge.pw_tiechances_k40_webs_cut_and_drawn
def vq:Program:=view prg [43]
def loose:List Str:=prg.boundNames.filter λx=>!(x == ("law":Str))
def runL(w:World)(os:OsState):=(w20 PySem.W.through (PySem.W.stepOk 11 (some (.ref 6))) (PySem.W.stepT (denote treeTable) prg w) 20000 (J01 w os) (PySem.W.topStub prg)).map (λs =>
   (PySem.W.staticsOk (importedModules prg.main.body) (PySem.W.boot_heap w.params) s.abs.heap&&PySem.W.namesBound prg s.abs.heap&&PySem.W.gensDone s.abs&&PySem.W.laidKept (PySem.W.boot_heap w.params) s.abs.heap,
    PySem.W.openSeen vq loose (importedModules prg.main.body) (λ_=>true) true s.abs,asks.obs s.abs))
def runR(w:World):=some (true,PySem.W.openGood vq loose,asks.due w)
def _root_.PySem.W.Fast.tw12032042748040585041:PySem.Program:=PySem.Challenge.pw_tiechances_k40_webs_cut_and_drawn
theorem _root_.PySem.W.Fast.te12032042748040585041:PySem.Challenge.pw_tiechances_k40_webs_cut_and_drawn=PySem.W.Fast.tw12032042748040585041:=rfl
theorem twins:(λ(_:runL=runL∧runR=runR)=>true) ⟨rfl,rfl⟩=true:=by k_qdec
theorem run_eq:∀ (w:World) (os:OsState),PySem.W.Fast.tw14075725262101462980 w os=PySem.W.Fast.tw18139657281711212703 w:=λw os=>by kernel_rfl
theorem left:PySem.W.LeftO PySem.Challenge.pw_tiechances_k40_webs_cut_and_drawn vq loose (λ_=>true) asks.hook.obs asks.hook.val 20000:=J11 (by kernel_rfl) rfl (λ_=>by kernel_rfl) λw os =>
 (congrFun (congrFun PySem.W.Fast.te14075725262101462980 w) os).trans ((run_eq w os).trans (congrFun PySem.W.Fast.te18139657281711212703 w).symm)
end K3
open PySem PySem.W PyProof.Rows
set_option maxRecDepth 100000 in
set_option maxHeartbeats 0 in
theorem PySem.Challenge.cw_tiechances_k40_webs_cut_and_drawn_holds : PySem.Challenge.rw_tiechances_k40_webs_cut_and_drawn.Holds := by
 w_on;o_law
 refine holds_open (q:=K3.vq) (loose:=K3.loose) (Xt:=λ_=>true) (XP:=λ_ _=>True) (Yf:=K3.asks.hook.obs) (Ya:=K3.asks.hook.val) (YP:=K3.asks.hook.says) K3.left K3.asks.hook.of K3.asks.hook.keeps (λ_ _=>trivial) (λ_ _ _ _ _=>trivial) (by rfl) (by rfl) (by rfl) (λs _=>recFacts_of rfl) rfl (by first | assumption | decide +kernel) (by decide +kernel) ⟨rfl,rfl,rfl,rfl,rfl,by decide +kernel⟩ ?hw ?hc
 case hw=>w_witness2
 case hc=>exact Q.w41 (l:=PySem.Challenge.rw_tiechances_k40_webs_cut_and_drawn) (n:=63) (k:=40) (x:="_law_script") rfl (by decide) rfl ⟨rfl,by decide,by decide⟩ (Q.J51 (k:=37) (iL:=23) K3.ok K3.bd rfl rfl rfl (by decide) K3.hR K3.pure)
