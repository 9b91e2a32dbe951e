import PyProof.Rows.All
import Wide.All
import OpenK.AllK
import Wide.FinOn
import PyProof.EqAt
import PyProof.EqKinds
import PyProof.TupleCall
import Lean
import PyProof.Rows.SetFrom
import PyProof.Rows.SortWalk
import KE.KDictList
import KE.KSortedM
import PyProof.WalkInts
import KE.KSortTup
import KE.KRevIter
import KE.KUnpack
import PySem.Challenge.RW_quickchange_k24_a_way_between
set_option Elab.async false
set_option linter.all false
set_option maxRecDepth 100000
set_option compiler.extract_closed false
set_option genSizeOf false
set_option bootstrap.genMatcherCode false
def HF:=@Bool.and_eq_true
def HG:=@List.length_map
def HI:=@List.getElem?_eq_getElem
def HJ:=@List.size_toArray
def HK:=@List.mem_filter
def HL:=@List.mem_of_getElem?
def HM:=@List.getD_eq_getElem?_getD
def HN:=@List.mem_singleton
def HP:=@List.length_append
def HQ:=@List.map_cons
def HR:=@List.getElem?_map
def HS:=@decide_eq_true
def HU:=@beq_iff_eq
def HV:=@List.nodup_append
def HW:=@List.length_filter_le
def HX:=@List.getElem?_set_ne
def HY:=@of_decide_eq_true
def HZ:=@List.nodup_cons
def H0:=@List.mem_cons
def Ia:=@Bool.false_eq_true
def Ib:=@List.not_mem_nil
def Ie:=@List.getElem?_set_self
def Ig:=@decide_eq_true_eq
def Ih:=@PyProof.Rows.callWith_type1
def Ii:=@List.getElem_mem
def Ij:=@List.map_append
def Ik:=@List.getElem?_eq_none
def Il:=@decide_eq_false
def Im:=@Bool.false_ne_true
def Io:=@List.length_set
def Iq:=@PySem.Heap.size_push
def Ir:=@List.length_take
def Iu:=@List.eq_append_cons_of_mem
def Iv:=@Int.toNat_of_nonneg
def Iw:=@List.mem_flatten
def Ix:=@PySem.wpAny_newObj_type
def Iy:=@PyProof.Rows.slot_tuple_getitem
def Iz:=@List.mem_map_of_mem
def IA:=@List.mem_append
def IB:=@List.mem_range
def IC:=@PySem.wpAny_truthy_bool
def ID:=@Nat.zero_le
def IE:=@List.drop_eq_getElem_cons
def IF:=@List.mem_cons_self
def IG:=@PySem.wpAny_Call_Name_kw
def II:=@List.filter_filter
def IJ:=@PySem.W.kia_one
def IK:=@List.cons.injEq
def IL:=@List.findIdx?_eq_some_iff_getElem
def IM:=@PySem.mem_of_lookup
def IN:=@List.map_inj_left
def IP:=@List.mem_cons_of_mem
def IQ:=@List.getElem?_mapIdx
def IR:=@List.filter_append
def IS:=@List.append_nil
def IT:=@Bool.or_eq_true
def IU:=@PySem.wpAny_call_entry
def IV:=@PySem.AutoSeq1.wpAny_loadPart'
def IW:=@List.map_map
def IX:=@Bool.eq_iff_iff
def IY:=@PySem.wpAny_mono
def IZ:=@Prod.mk.injEq
def I0:=@Array.getElem?_eq_some_iff
def Ja:=@Nat.lt_succ_of_lt
def Jb:=@beq_eq_false_iff_ne
def Jc:=@List.filter_eq_self
def Jd:=@List.take_append_drop
def Je:=@PySem.wpAny_holding
def Jf:=@List.range_eq_range'
def Jh:=@List.length_eq_zero_iff
def Ji:=@List.ext_getElem?
def Jj:=@List.filter_congr
def Jk:=@PySem.Heap.SameBut.update
def Jl:=@List.map_congr_left
def Jm:=@List.take_of_length_le
def Jn:=@List.filter_eq_nil_iff
def Jo:=@Nat.lt_irrefl
def Jp:=@Nat.le_succ
def Jq:=@Nat.lt_succ_self
def Jr:=@List.length_range'
def Js:=@PySem.Heap.get?_update_self
def Jt:=@PySem.wpAny_passesOwn
def Ju:=@Nat.ne_of_gt
def Jv:=@PySem.sizeLine_eq
def Jw:=@PySem.wpAny_field
def Jx:=@List.append_assoc
def Jz:=@bne_self_eq_false
def JA:=@PySem.Around.under_plainId
def JB:=@Option.some.injEq
def JC:=@decide_eq_decide
def JD:=@List.take_length
def JE:=@List.filter_cons
def JF:=@List.mem_map
def JG:=@Ne.symm
def JH:=@PySem.Calls.spliced_cons
def JI:=@PySem.F.called_set
def JJ:=@PySem.F.slot_tuple_mul
def JK:=@List.findIdx?_cons
def JL:=@Int.emod_lt_of_pos
def JM:=@List.append_of_mem
def JN:=@PySem.wpAny_ite_split
def JO:=@PySem.codeAny_builtin
def JP:=@List.dropLast_concat_getLast
def JQ:=@Nat.le_of_ble_eq_true
def JR:=@List.contains_iff_mem
def JS:=@Array.getElem?_toList
def JT:=@PySem.Calls.spliced_nil
def JU:=@List.pairwise_map
def JV:=@List.idxOf_lt_length_of_mem
def JW:=@Bool.eq_false_iff
def JX:=@List.getElem?_append_right
def JY:=@PySem.call_meets
def JZ:=@Nat.ne_of_lt
def J0:=@Nat.le_of_lt
def J3:=@List.range'_succ
def J4:=@List.perm_middle
def J5:=@List.mem_reverse
def J6:=@List.getElem?_append_left
def J7:=@Array.getElem?_eq_getElem
def J8:=@PySem.Heap.get?_update_ne
def J9:=@List.length_reverse
def Ka:=@List.flatten_append
def Kb:=@PySem.F.args_tuple_add_2
def Kc:=@Int.emod_nonneg
def Kd:=@List.mem_filterMap
def Ke:=@Int.natCast_nonneg
def Kf:=@List.pairwise_cons
def Kg:=@PySem.F.entry_tuple_add
def Kh:=@PyProof.Rows.F.plain_set_update_loop
def Ki:=@PySem.F.plainAttrs_list
def Kj:=@List.set_eq_take_append_cons_drop
def Kk:=@PySem.wpAny_pyIter_list
def Kl:=@PySem.codeAny_mono
def Km:=@PySem.F.slot_tuple_add
def Kn:=@PySem.Heap.get?_update_other
def Ko:=@List.reverse_cons
def Kp:=@Nat.le_of_lt_succ
def Kq:=@PySem.wpAny_pyIter_enum
def Kr:=@Bool.not_eq_true'
def Ks:=@PySem.wpAny_setState_of
def Kt:=@Array.getElem?_eq_none
def Ku:=@PySem.F.slot_tuple_iterator_next
def Kv:=@List.length_eq_one_iff
def Kw:=@Nat.zero_add
def Kx:=@Int.ofNat_lt
def Ky:=@List.reverse_perm
def Kz:=@List.length_replicate
def KA:=@PySem.Obj.isFreed_of_fields
def KB:=@PySem.builtinLookup_eq_fast
def KC:=@True.intro
def KF:=@List.length_drop
def KG:=@Array.toList_inj
def KH:=@List.isEmpty_iff
def KI:=@List.any_eq_true
def KJ:=@Bool.not_true
def KL:=@Bool.and_comm
def KM:=@Nat.le_refl
def KP:=@List.mem_of_mem_take
def KQ:=@List.pairwise_append
def KR:=@PySem.W.plainGet_of
def KS:=@PySem.W.callWith_K0
def KT:=@PySem.wpAny_setEntries_of
def KU:=@List.filter_sublist
def KW:=@Nat.le_of_eq
def KY:=@PySem.wpAny_pyIter_tuple
def KZ:=@PySem.W.callWith_K
def K0:=@PySem.wpAny_setField
def K1:=@PySem.Obj.data_mapFields
def K2:=@List.length_mapIdx
def K3:=@List.drop_left
def K4:=@List.map_replicate
def K5:=@List.countP_append
def K6:=@Array.toList_push
def K7:=@Prod.mk.inj
def K8:=@List.getElem?_set
def K9:=@List.idxOf_append
def bM:=@IP
def bN:=@IF
def cH:=@List.mem_append_right
def eY:=@List.mem_append_left
def bR:=@PySem.Heap.get?_push_of_some
def c9:=@PySem.Heap.get?_push_size
def bL:=@PySem.Heap.lt_size
def bC:=@KM
def bv:=@Nat.le_trans
def fc:=@Nat.lt_of_lt_of_le
def dh:=@JZ
def cQ:=@Option.some.inj
def aU:=@PySem.wpAny_bind
def be:=@PySem.wpAny_pure
theorem bQ{α:Type}{a b:α}{l:List α}:a∈b::l->a=b\/a∈l:=H0.mp
theorem cO{α:Type}{a:α}{s t:List α}:a∈s++t->a∈s\/a∈t:=IA.mp
theorem dR{α β:Type}{b:β}{x:Option α}{f:α->Option β}:x.bind f=some b->∃a,x=some a/\f a=some b:=Option.bind_eq_some_iff.mp
theorem cA{α β:Type}{b:β}{x:Option α}{f:α->β}:x.map f=some b->∃a,x=some a/\f a=b:=Option.map_eq_some_iff.mp
theorem dg{α:Type}{i:Nat}{a:α}{l:List α}:l[i]?=some a->∃h:i<l.length,l[i]=a:=List.getElem?_eq_some_iff.mp
theorem dQ{α:Type}{p:α->Bool}{l:List α}:l.all p=true->∀x∈l,p x=true:=List.all_eq_true.mp
theorem bV{α β:Type}{b:β}{l:List α}{f:α->β}:b∈l.map f->∃a,a∈l/\f a=b:=JF.mp
abbrev bn:=PySem.W.Frag
section
abbrev _root_.aH:=List (Int×Int)
abbrev _root_.aG:=List PySem.Stmt
abbrev _root_.aE:=Option PySem.Addr
abbrev _root_.aC:=Option Nat
abbrev _root_.aB:=Array PySem.Value
abbrev _root_.aA:=Option PySem.Value
abbrev _root_.au:=List PySem.Expr
abbrev _root_.ar:=List PySem.Str
abbrev _root_.aq:=List PySem.Value
abbrev _root_.ao:=List PySem.Addr
abbrev _root_.am:=List Int
abbrev _root_.ak:=List Nat
abbrev _root_.aj:=List (Nat×Nat)
abbrev _root_.ai:=List (PySem.Str×PySem.Addr)
abbrev _root_.ah:=List (PySem.Addr×PySem.Obj)
abbrev _root_.af:=List ak
abbrev _root_.ab:=List am
namespace L2
open PySem PySem.Spec PyProof.Rows
abbrev eZ:=Sum Int Str
noncomputable def iQ:eZ->Value->Bool
 | .inl k,v=>Value.isInt k v
 | .inr x,v=>Value.isStrOf x v
noncomputable def rF (w:World):eZ->Int
 | .inl k=>hashInt k
 | .inr x=>hashStr w x
theorem ip:∀{k:eZ} {v:Value},iQ k v=true->(∃i t,k=Sum.inl i/\v=Value.int i t)\/(∃x t,k=Sum.inr x/\v=Value.str x t)
 | .inl i,v,h=>by
  obtain⟨t,e⟩:=Value.isInt_shape (k:=i) (v:=v) h;exact .inl ⟨i,t,rfl,e⟩
 | .inr x,v,h=>by
  obtain⟨t,e⟩:=Value.isStrOf_shape (x:=x) (v:=v) h;exact .inr ⟨x,t,rfl,e⟩
def CB (a b:Int):decide ((Sum.inl a:eZ)=Sum.inl b)=(a == b):=by
 by_cases e:a=b
 .subst e; simp
 .have h:¬(Sum.inl a:eZ)=Sum.inl b:=λq=>e (Sum.inl.inj q);rw[Il h];exact (Jb.mpr e).symm
def Fe (a b:Str):decide ((Sum.inr a:eZ)=Sum.inr b)=decide (a=b):=by
 by_cases e:a=b
 .subst e; simp
 .have h:¬(Sum.inr a:eZ)=Sum.inr b:=λq=>e (Sum.inr.inj q);rw[Il h,Il e]
def AT (a:Int)(b:Str):decide ((Sum.inl a:eZ)=Sum.inr b)=false:=Il (λq=>nomatch q)
def Af (a:Str)(b:Int):decide ((Sum.inr a:eZ)=Sum.inl b)=false:=Il (λq=>nomatch q)
noncomputable def gh (prog:Program)(w:World):PySem.KeyKind prog w eZ where
 is:=iQ
 hash:=rF w
 inj:=λv a b ha hb=>by
  rcases ip ha with ⟨i,t,rfl,rfl⟩ | ⟨x,t,rfl,rfl⟩
  .rcases ip hb with ⟨j,u,rfl,e⟩ | ⟨y,u,rfl,e⟩
   .injection e with e1 _; rw[e1]
   .exact nomatch e
  .rcases ip hb with ⟨j,u,rfl,e⟩ | ⟨y,u,rfl,e⟩
   .exact nomatch e
   .injection e with e1 _; rw[e1]
 byValue:=λk v h=>by
  rcases ip h with ⟨i,t,rfl,rfl⟩ | ⟨x,t,rfl,rfl⟩ <;> rfl
 pyHash:=λhv h=>by
  rcases ip hv with ⟨i,t,rfl,rfl⟩ | ⟨x,t,rfl,rfl⟩
  .exact wpAny_pyHash_int h
  .exact wpAny_pyHash_str h
 eqBool:=λhu hv h=>by
  rcases ip hu with ⟨i,t,rfl,rfl⟩ | ⟨x,t,rfl,rfl⟩
  .rcases ip hv with ⟨j,u,rfl,rfl⟩ | ⟨y,u,rfl,rfl⟩
   .rw[CB] at h; exact wpAny_eqBool_int h
   .rw[AT] at h; exact SeqAt.EqAt.int_str i t y u _ _ _ _ h
  .rcases ip hv with ⟨j,u,rfl,rfl⟩ | ⟨y,u,rfl,rfl⟩
   .rw[Af] at h; exact SeqAt.EqAt.str_int x t j u _ _ _ _ h
   .rw[Fe] at h; exact wpAny_eqBool_str h
 «strs»:=λk x t v h=>by
  rcases ip h with ⟨i,u,rfl,e⟩ | ⟨y,u,rfl,e⟩
  .exact nomatch e
  .injection e with e1 _;subst e1;cases v <;> rfl
end L2
namespace L2
open PySem PySem.Spec PyProof.Rows
inductive V where
 | non | bl (b:Bool) | int (i:Int) | str (x:Str) | byt (b:Array UInt8) | flt (b:UInt64) | ref (a:Addr) | ty (n:String)
 deriving DecidableEq
abbrev _root_.av:=List V
def RelV:V->Value->Prop
 | .non,u=>u=Value.none
 | .bl b,u=>u=Value.bool b
 | .int i,u=>∃t,u=Value.int i t
 | .str x,u=>∃t,u=Value.str x t
 | .byt b,u=>∃t,u=Value.bytes b t
 | .flt b,u=>∃t,u=Value.float b t
 | .ref a,u=>u=Value.ref a
 | .ty n,u=>u=Value.type n
abbrev Vals:av->aq->Prop:=Paired RelV
theorem Vals.length (r:Vals xs us):xs.length=us.length:=Paired.length r
theorem Vals.get:∀{xs:av} {us:aq} {i:Nat} {x:V},Vals xs us->xs[i]? = some x->∃u,us[i]? = some u/\RelV x u
 | _,_,_,_,.nil,e=>by simp at e
 | _,_,0,_,.cons r _,e=>by simp at e; subst e; exact⟨_,rfl,r⟩
 | _,_,i+1,x,.cons _ t,e=>by
  obtain⟨u,h1,h2⟩:=Vals.get (i:=i) (x:=x) t (by simpa using e);exact⟨u,by simpa using h1,h2⟩
theorem Vals.set (r:RelV x u):∀{xs:av} {us:aq} (i:Nat),Vals xs us->Vals (xs.set i x) (us.set i u)
 | _,_,_,.nil=>.nil
 | _,_,0,.cons _ t=>.cons r t
 | _,_,i+1,.cons q t=>.cons q (Vals.set r i t)
theorem Vals.append:∀{xs ys:av} {us ws:aq},Vals xs us->Vals ys ws->Vals (xs++ys) (us++ws)
 | _,_,_,_,.nil,s=>s
 | _,_,_,_,.cons r t,s=>.cons r (Vals.append t s)
theorem Vals.take:∀{xs:av} {us:aq} (n:Nat),Vals xs us->Vals (xs.take n) (us.take n)
 | _,_,0,_=>.nil
 | _,_,_+1,.nil=>.nil
 | _,_,n+1,.cons r t=>.cons r (Vals.take n t)
theorem Vals.drop:∀{xs:av} {us:aq} (n:Nat),Vals xs us->Vals (xs.drop n) (us.drop n)
 | _,_,0,r=>r
 | _,_,_+1,.nil=>.nil
 | _,_,n+1,.cons _ t=>Vals.drop n t
def RelO:Option V->aA->Prop
 | some v,some u=>RelV v u
 | none,none=>True
 | _,_=>False
def KV {κ:Type}:List (κ×V)->List (κ×Value)->Prop:=Paired λ(p:κ×V) (q:κ×Value)=>p.1=q.1/\RelV p.2 q.2
noncomputable def kV:eZ->V
 | .inl i=>.int i
 | .inr x=>.str x
inductive HO where
 | lst (xs:av)
 | tup (xs:av)
 | dK (kvs:List (eZ×V)) | dT (kvs:List (List eZ×V))
 | set (S:Int->Bool) (n:Nat)
 | ins (C dx:Addr) (fs:List (Str×V))
 | own (x:Addr)
 | exc (C:Addr) (nw:Bool) (fs:List (Str×V))
 | xd (fs:List (Str×V))
 | met (f x:Addr)
 | rng (lo hi:Int)
 | frz (o:Obj) (u:HO)
 | tbl (ps:aB)
 | ext (φ:Heap->Prop)
abbrev Hp:=Addr->Option HO
noncomputable def upd (H:Hp)(a:Addr)(o:HO):Hp:=λb=>if b=a then some o else H b
def dc:upd H a o a=some o:=by unfold upd; rw[if_pos rfl]
def ca (h:b≠a):upd H a o b=H b:=by unfold upd; rw[if_neg h]
def nI {H:Hp}{a b:Addr}{o:HO}(h:H a=some o)(h':H b=none):a≠b:=by
 intro e; subst e; rw[h] at h'; cases h'
section
variable (P:Program)(w:World)
def TupN (h:Heap)(a:Addr)(items:aB):Prop:=∃o,h.get? a=some o/\o.cls=.type "tuple" /\ (∃n,o.data=.seq items n)/\o.dict=none
def TupN.tup (x:TupN h a items):IsTup h a items:=let ⟨o,e,c,d,_⟩:=x; ⟨o,e,c,d⟩
def TupN.new (h:Heap)(items:aB):TupN (h.push { cls:=.type "tuple",data:=.seq items }) h.objs.size items:=⟨_,c9 _ rfl,rfl,⟨_,rfl⟩,rfl⟩
def ObjOk (H:Hp)(h:Heap)(a:Addr):HO->Prop
 | .lst xs=>xs.length<=sizeLine/\∃(its:aq) (n:Nat),Vals xs its/\h.get? a=some { cls:=.type "list",data:=.seq its.toArray n }
 | .tup xs=>xs.length<=sizeLine/\∃its:aq,Vals xs its/\TupN h a its.toArray
 | .dK kvs=>kvs.length<=sizeLine/\(a == sysModules)=false/\∃vs,KV kvs vs/\h.DictOf (gh P w) a vs
 | .dT kvs=>kvs.length<=sizeLine/\(a == sysModules)=false/\∃xs:List (List eZ×Addr×Value),
   Paired (λ(p:List eZ×V) (q:List eZ×Addr×Value)=>p.1=q.1/\H q.2.1=some (.tup (p.1.map kV))/\RelV p.2 q.2.2) kvs xs /\
   ∃o es ep,h.get? a=some o/\o.ExactDict/\o.data=.dict es ep/\es.toList=xs.map (entryOfKey (tupleKind (gh P w)))/\(xs.map (·.1)).Nodup
 | .set S n=>h.SetOf (intKind P w) a S n
 | .ins C dx fs=>H dx=some (.own a)/\fs.length<=1000/\dx≠a/\h.get? a=some (PySem.W.instObj C dx) /\
   ∃mA,h.Ns1 dx mA/\(∀f,RelO (fs.lookup f) (mA f))/\PySem.Within mA (fs.map (·.1))
 | .own _=>∃o,h.get? a=some o
 | .exc C nw fs=>fs.length<=1000/\∃(o:Obj) (vs:aB),h.get? a=some o/\o.cls=.ref C/\o.data=.fields vs/\vs.size=6/\(nw=true->vs[1]? = some Value.none) /\
   ((o.dict=none/\fs=[])\/∃dx,o.dict=some dx/\H dx=some (.own a)/\dx≠a/\∃mA,h.Ns1 dx mA/\(∀f,RelO (fs.lookup f) (mA f))/\PySem.Within mA (fs.map (·.1)))
 | .xd fs=>∃mA,h.Ns1 a mA/\∀f,RelO (fs.lookup f) (mA f)
 | .rng lo hi=>∃t u v,h.get? a=some { cls:=.type "range",data:=.fields #[.int lo t,.int hi u,.int 1 v] }
 | .frz o u=>h.get? a=some o/\ObjOk H h a u
 | .tbl ps=>h.get? a=some { cls:=.none,data:=.fields ps }
 | .met f x=>h.get? a=some (PySem.W.methodObj (.ref f) (.ref x))
 | .ext φ=>φ h/\(∃o,h.get? a=some o)/\∀h1 h2:Heap,φ h1->(∀o,h1.get? a=some o->h2.get? a=some o)->φ h2
def HOk (H:Hp)(h:Heap):Prop:=∀a o,H a=some o->ObjOk P w H h a o
end
section
variable {P:Program}{w:World}{H H':Hp}{h h':Heap}{a:Addr}{o:HO}
theorem ObjOk.lt (x:ObjOk P w H h a o):a<h.objs.size:=by
 cases o with
 | lst xs=>obtain⟨_,_,_,_,e⟩:=x; exact bL e
 | tup xs=>obtain⟨_,_,_,p⟩:=x; exact p.tup.lt
 | dK kvs=>obtain⟨_,_,_,_,o,_,_,e,_⟩:=x; exact bL e
 | dT kvs=>obtain⟨_,_,_,_,o,_,_,e,_⟩:=x; exact bL e
 | set S n=>obtain⟨o,_,_,_,e,_⟩:=x; exact bL e
 | ins C dx fs=>obtain⟨_,_,_,e,_⟩:=x; exact bL e
 | own y=>obtain⟨_,e⟩:=x; exact bL e
 | exc C nw fs=>obtain⟨_,_,_,e,_⟩:=x; exact bL e
 | xd fs=>obtain⟨_,⟨_,_,_,e,_⟩,_⟩:=x; exact bL e
 | rng lo hi=>obtain⟨_,_,_,e⟩:=x; exact bL e
 | frz ob u=>obtain⟨e,_⟩:=x; exact bL e
 | tbl ps=>exact bL (show h.get? a=some _ from x)
 | met f y=>exact bL (show h.get? a=some _ from x)
 | ext φ=>obtain⟨_,⟨_,e⟩,_⟩:=x; exact bL e
theorem Paired.mapP:∀{l₁:List α} {l₂:List β},Paired F l₁ l₂->(∀a b,F a b->G a b)->Paired G l₁ l₂
 | _,_,.nil,_=>.nil
 | _,_,.cons r t,f=>.cons (f _ _ r) (Paired.mapP t f)
def ObjOk.stay (x:ObjOk P w H h a o)(k:∀b u,(b=a\/H b=some (.own a))->h.get? b=some u->h'.get? b=some u)
  (ho:∀b,H b=some (.own a)->H' b=some (.own a))(ht:∀b xs,H b=some (.tup xs)->H' b=some (.tup xs)):ObjOk P w H' h' a o:=by
 induction o with
 | lst xs=>obtain⟨z,its,n,r,e⟩:=x; exact⟨z,its,n,r,k _ _ (.inl rfl) e⟩
 | tup xs=>obtain⟨z,its,r,ob,e,c⟩:=x; exact⟨z,its,r,ob,k _ _ (.inl rfl) e,c⟩
 | dK kvs=>obtain⟨z,y,vs,r,ob,es,ep,e,c⟩:=x; exact⟨z,y,vs,r,ob,es,ep,k _ _ (.inl rfl) e,c⟩
 | dT kvs=>
  obtain⟨z,y,xs,r,ob,es,ep,e,c⟩:=x;exact⟨z,y,xs,Paired.mapP r λp q z=>⟨z.1,ht _ _ z.2.1,z.2.2⟩,ob,es,ep,k _ _ (.inl rfl) e,c⟩
 | set S n=>obtain⟨ob,es,ep,t,e,c⟩:=x; exact⟨ob,es,ep,t,k _ _ (.inl rfl) e,c⟩
 | ins C dx fs=>
  obtain⟨d,z,ne,e,mA,⟨od,es,ep,e2,c⟩,r⟩:=x;exact⟨ho _ d,z,ne,k _ _ (.inl rfl) e,mA,⟨od,es,ep,k _ _ (.inr d) e2,c⟩,r⟩
 | own y=>obtain⟨ob,e⟩:=x; exact⟨ob,k _ _ (.inl rfl) e⟩
 | exc C nw fs=>
  obtain⟨z,o,vs,e,c1,c2,c3,c4,q⟩:=x;refine⟨z,o,vs,k _ _ (.inl rfl) e,c1,c2,c3,c4,?_⟩;rcases q with q | ⟨dx,d1,d2,d3,mA,⟨od,es,ep,e2,c⟩,r⟩
  .exact .inl q
  .exact .inr ⟨dx,d1,ho _ d2,d3,mA,⟨od,es,ep,k _ _ (.inr d2) e2,c⟩,r⟩
 | xd fs=>obtain⟨mA,⟨od,es,ep,e,c⟩,r⟩:=x; exact⟨mA,⟨od,es,ep,k _ _ (.inl rfl) e,c⟩,r⟩
 | rng lo hi=>obtain⟨t,u,v,e⟩:=x; exact⟨t,u,v,k _ _ (.inl rfl) e⟩
 | frz ob u ih=>obtain⟨e,q⟩:=x; exact⟨k _ _ (.inl rfl) e,ih q⟩
 | tbl ps=>
  have e:h.get? a=some { cls:=.none,data:=.fields ps }:=x;show h'.get? a=some { cls:=.none,data:=.fields ps };exact k a _ (.inl rfl) e
 | met f y=>
  have e:h.get? a=some (PySem.W.methodObj (.ref f) (.ref y)):=x;show h'.get? a=some (PySem.W.methodObj (.ref f) (.ref y));exact k a _ (.inl rfl) e
 | ext φ=>obtain⟨p,⟨o,e⟩,st⟩:=x; exact⟨st _ _ p λo q=>k _ _ (.inl rfl) q,⟨o,k _ _ (.inl rfl) e⟩,st⟩
theorem HOk.lt (x:HOk P w H h)(e:H a=some o):a<h.objs.size:=(x a o e).lt
def HOk.fresh (x:HOk P w H h)(e:h.objs.size<=a):H a=none:=by
 cases q:H a with
 | none=>rfl
 | some u=>exact absurd (fc (x.lt q) e) (Jo _)
def HOk.kept (x:HOk P w H h)(k:∀b u,h.get? b=some u->h'.get? b=some u):HOk P w H h':=λa o e=>
 (x a o e).stay (λb u _ q=>k b u q) (λ_ q=>q) λ_ _ q=>q
def HOk.laid (x:HOk P w H h)(k:∀b u,h.get? b=some u->h'.get? b=some u)(hp:h.objs.size<=a)(new:ObjOk P w (upd H a o) h' a o):HOk P w (upd H a o) h':=λb u e=>by
 have hn:=x.fresh hp;by_cases hb:b=a
 .subst hb; rw[dc] at e; cases e; exact new
 .rw[ca hb] at e;exact (x b u e).stay (λc v _ q=>k c v q) (λc q=>by rw[ca (nI q hn)]; exact q) λc xs q=>by rw[ca (nI q hn)]; exact q
end
def Rd (H:Hp)(a:Addr)(u:HO):Prop:=H a=some u\/∃o,H a=some (.frz o u)
def Rd.ok (r:Rd H a u)(x:HOk P w H h):ObjOk P w H h a u:=by
 rcases r with r | ⟨o,r⟩
 .exact x a u r
 .obtain⟨_,q⟩:=x a _ r;exact q
def oH:Option HO->Prop
 | some (.lst _)=>True
 | some (.dK _)=>True
 | some (.dT _)=>True
 | some (.set _ _)=>True
 | some (.ins _ _ _)=>True
 | some (.exc _ _ _)=>True
 | some (.ext _)=>True
 | _=>False
section
variable {P:Program}{w:World}{H:Hp}{h h':Heap}{x e:Addr}{o':HO}
def HOk.write (ok:HOk P w H h)(mu:oH (H x))(he:e=x\/H e=some (.own x))(k:∀b u,b≠e->h.get? b=some u->h'.get? b=some u)(heo:∃u,h'.get? e=some u)
  (new:ObjOk P w (upd H x o') h' x o'):HOk P w (upd H x o') h':=λb u q=>by
 have nown:∀c y,H c=some (.own y)->c≠x:=λc y r z=>by subst z; rw[r] at mu; exact mu
 have ntup:∀c xs,H c=some (.tup xs)->c≠x:=λc xs r z=>by subst z; rw[r] at mu; exact mu
 by_cases hb:b=x
 .subst hb; rw[dc] at q; cases q; exact new
 .rw[ca hb] at q;by_cases hbe:b=e
  .have q':H b=some (.own x):=by
    rcases he with z | z
    .exact absurd (hbe.trans z) hb
    .rw[hbe]; exact z
   rw[q] at q'; cases q';obtain⟨v,hv⟩:=heo;exact⟨v,by rw[hbe]; exact hv⟩
  .refine (ok b u q).stay (λc v hc r=>k c v ?_ r) (λc r=>by rw[ca (nown c b r)]; exact r) λc xs r=>by rw[ca (ntup c xs r)]; exact r
   rcases hc with rfl | hc
   .exact hbe
   .rintro rfl;rcases he with z | z
    .exact nown c b hc z
    .rw[hc] at z; cases z; exact hb rfl
end
structure Un (fs ex:ao)(H H':Hp)(h h':Heap):Prop where
 keep:∀b o,h.get? b=some o->H b=none->b∉fs->b∉ex->h'.get? b=some o
 slot:∀b o,h.get? b=some o->H b=none->b∈fs->b∉ex->∃sl,h'.get? b=some { o with slots:=sl }
 free:∀b o,h.get? b=some o->H b=none->b∉ex->H' b=none
 there:∀b o,h.get? b=some o->b∉ex->∃o',h'.get? b=some o'
 tups:∀b xs,H b=some (.tup xs)->H' b=some (.tup xs)
 frzs:∀b o u,H b=some (.frz o u)->H' b=some (.frz o u)
 tbls:∀b ps,H b=some (.tbl ps)->∃more,H' b=some (.tbl (ps++more))
section
variable {fs fs' ex ex':ao}{H H1 H2:Hp}{h h1 h2 h':Heap}{a x e:Addr}{o:HO}
def Un.any (u:Un fs ex H H1 h h1)(q:h.get? b=some ob)(n:H b=none)(hx:b∉ex):∃sl,h1.get? b=some { ob with slots:=sl }:=by
 by_cases hb:b∈fs
 .exact u.slot b ob q n hb hx
 .exact⟨ob.slots,u.keep b ob q n hb hx⟩
def Un.trans (a:Un fs ex H H1 h h1)(b:Un fs ex H1 H2 h1 h2):Un fs ex H H2 h h2 where
 keep:=λc ob q n hc hx=>b.keep c ob (a.keep c ob q n hc hx) (a.free c ob q n hx) hc hx
 slot:=λc ob q n hc hx=>by
  obtain⟨sl,e1⟩:=a.slot c ob q n hc hx;obtain⟨sl',e2⟩:=b.slot c _ e1 (a.free c ob q n hx) hc hx;exact⟨sl',e2⟩
 free:=λc ob q n hx=>by
  obtain⟨o',e1⟩:=a.there c ob q hx;exact b.free c o' e1 (a.free c ob q n hx) hx
 there:=λc ob q hx=>by
  obtain⟨o',e1⟩:=a.there c ob q hx;exact b.there c o' e1 hx
 tups:=λc xs q=>b.tups c xs (a.tups c xs q)
 frzs:=λc ob xs q=>b.frzs c ob xs (a.frzs c ob xs q)
 tbls:=λc ps q=>by
  obtain⟨m1,e1⟩:=a.tbls c ps q;obtain⟨m2,e2⟩:=b.tbls c _ e1;exact⟨m1++m2,by rw[e2,Array.append_assoc]⟩
def Un.kept (k:∀b u,h.get? b=some u->h'.get? b=some u):Un fs ex H H h h':=
 ⟨λb ob q _ _ _=>k b ob q,λb ob q _ _ _=>⟨ob.slots,k b ob q⟩,λ_ _ _ n _=>n,λb ob q _=>⟨ob,k b ob q⟩,λ_ _ q=>q,λ_ _ _ q=>q,λ_ ps q=>⟨#[],by rw[q]; simp⟩⟩
def Un.refl:Un fs ex H H h h:=Un.kept λ_ _ q=>q
def Un.laid (k:∀b u,h.get? b=some u->h'.get? b=some u)(hp:h.objs.size<=a)(hn:H a=none):Un fs ex H (upd H a o) h h' where
 keep:=λb u q _ _ _=>k b u q
 slot:=λb u q _ _ _=>⟨u.slots,k b u q⟩
 free:=λb u q n _=>by rw[ca (JZ (Nat.lt_of_lt_of_le (Heap.lt_size q) hp))]; exact n
 there:=λb u q _=>⟨u,k b u q⟩
 tups:=λb xs q=>by rw[ca (nI q hn)]; exact q
 frzs:=λb u xs q=>by rw[ca (nI q hn)]; exact q
 tbls:=λb ps q=>⟨#[],by rw[ca (nI q hn),q]; simp⟩
def Un.write (mu:oH (H x))(he:e=x\/H e=some (.own x))(k:∀b u,b≠e->h.get? b=some u->h'.get? b=some u)(heo:∃u,h'.get? e=some u):Un fs ex H (upd H x o) h h':=by
 have hx:∀b,H b=none->b≠x:=λb n z=>by subst z; rw[n] at mu; exact mu
 have hb:∀b,H b=none->b≠e:=λb n z=>by
  subst z;rcases he with r | r
  .exact hx b n r
  .rw[n] at r; cases r
 have hm:∀b u,H b=some u->¬oH (some u)->b≠x:=λb u q nm z=>by subst z; rw[q] at mu; exact nm mu
 refine⟨λb u q n _ _=>k b u (hb b n) q,λb u q n _ _=>⟨u.slots,k b u (hb b n) q⟩,λb u q n _=>by rw[ca (hx b n)]; exact n,λb u q _=>?_,
  λb xs q=>by rw[ca (hm b _ q λz=>z)]; exact q,λb u xs q=>by rw[ca (hm b _ q λz=>z)]; exact q,λb ps q=>⟨#[],by rw[ca (hm b _ q λz=>z),q]; simp⟩⟩
 by_cases hbe:b=e
 .subst hbe; exact heo
 .exact⟨u,k b u hbe q⟩
end
noncomputable def pJ (h:Heap)(H:Hp):ao:=(List.range h.objs.size).filter λa=>(H a).isSome
noncomputable def eH (h:Heap)(H:Hp):Heap:=PySem.W.hideAll h (pJ h H)
def AG (h:Heap)(H:Hp):(eH h H).objs.size=h.objs.size:=PySem.W.hideAll_size _ _
def Bg (e:h.get? b=some o)(n:H b=none):(eH h H).get? b=some o:=
 PySem.W.hideAll_get _ e λhm=>by
  have q:(H b).isSome=true:=(HK.mp hm).2;rw[n] at q; simp at q
def CV (e:(eH h H).get? b=some o):h.get? b=some o/\H b=none:=by
 have e':h.get? b=some o:=PySem.W.of_hideAll (pJ h H) e;refine⟨e',?_⟩;cases q:H b with
 | none=>rfl
 | some x=>
  have hm:b∈pJ h H:=HK.mpr ⟨IB.mpr (bL e'),by simp[q]⟩;have z:(eH h H).get? b=none:=PySem.W.hideAll_none (pJ h H) hm;rw[z] at e; cases e
noncomputable def iu (g h:Heap)(L:Addr):ah:=(List.range h.objs.size).filterMap λa=>if a=L\/(g.get? a).isSome=true then none else (h.get? a).map λo=>(a,o)
noncomputable def rest (g h:Heap)(L d:Addr):ah:=(iu g h L).filter λp=>decide (p.1≠d)
end L2
namespace L2
open PySem PySem.Spec PyProof.Rows
structure Mod (K:bn)(mg:Str->aA)(base:Heap):Prop where
 kin:K.In base
 glob:base.Ns mainGlobals mg
 blt:∃mb,base.Ns builtinsNs mb/\∀x:Str,x ≠ "__name__" -> mb x=bootBuiltins x
 nolimit:base.NoLimit
structure Cx where
 prog:Program
 w:World
 K:bn
 mg:Str->aA
 base:Heap
 A:Around
 N:ar
 s₀:Shared
 H₀:Hp
 env:Env
 outer:List Env
 stack:List Env
 ex:ao
 fn:Str->Bool
 calm:Bool
 pn:ah
 xe:Value->Shared->Prop
noncomputable def gk (l:List Env):ao:=l.filterMap (·.frame)
noncomputable abbrev Cx.fs (X:Cx):ao:=gk X.outer
def sQ (sc:Scope)(x:Str):Prop:=sc.names.lookup x=some .local\/sc.names.lookup x=some .cell\/sc.names.lookup x=some .free
def Loc (sc:Scope)(x:Str):Prop:=sc.names.lookup x=some .local\/sc.names.lookup x=some .cell
def Look (env:Env)(h:Heap)(m:Str->aA)(x:Str)(u:Value):Prop:=
 (env.kindOf x=some .local/\m x=some u)\/((env.kindOf x=some .cell\/env.kindOf x=some .free)/\∃c,env.cells.lookup x=some c/\h.IsCell c (some u))
structure Cx.Ok (X:Cx):Prop where
 mod:Mod X.K X.mg X.base
 kind:X.env.scope.kind=.function
 glob:X.env.globals=mainGlobals
 blt:X.env.builtins=builtinsNs
 above:X.s₀.heap.objs.size<=X.env.locals
 inj:∀x y c,X.env.cells.lookup x=some c->X.env.cells.lookup y=some c->x=y
 has:∀x,(X.env.kindOf x=some .cell\/X.env.kindOf x=some .free)->∃c,X.env.cells.lookup x=some c
 cab:∀x c,X.fn x=true->X.env.cells.lookup x=some c->X.s₀.heap.objs.size<=c
 hd:X.calm=true->X.A.handled=none
 frames:X.A.frames=some X.stack
 stk:X.stack=X.outer\/(X.stack=X.env::X.outer/\X.env.frame=some X.env.locals)
 exf:∀b∈X.ex,b≠X.env.locals/\∀x c,X.env.cells.lookup x=some c->c≠b
 bs:∀b o,X.base.get? b=some o->X.s₀.heap.get? b=some o/\X.H₀ b=none
 bsz:X.base.objs.size<=X.s₀.heap.objs.size
 noex:∀b o,X.base.get? b=some o->b∉X.ex
 exfs:∀b∈X.ex,b∉X.fs
 funs:X.s₀.heap.FunFrames X.base X.outer
 frf:∀b∈X.fs,X.H₀ b=none
structure Inv (X:Cx)(pins:ah)(σ:List (Option V))(H:Hp)(s:Shared):Prop where
 ok:X.Ok
 os:s.os=X.s₀.os
 bare:AllBare s.gens
 base:Un X.fs X.ex X.H₀ H X.s₀.heap s.heap
 loc:∃m,s.heap.Ns X.env.locals m/\∀(i:Nat) (x:Str) (v:V),X.N[i]? = some x->σ[i]? = some (some v)->sQ X.env.scope x->∃u,RelV v u/\Look X.env s.heap m x u
 cell:∀x c,X.env.cells.lookup x=some c->∃v,s.heap.IsCell c v
 free:H X.env.locals=none
 freeC:∀x c,X.env.cells.lookup x=some c->H c=none
 pin:∀p∈X.pn++pins,s.heap.get? p.1=some p.2/\H p.1=none/\p.1≠X.env.locals/\p.1∉X.fs/\∀v,p.2.data≠.cell v
 hok:HOk X.prog X.w H s.heap
 len:σ.length=X.N.length
section
variable {X:Cx}{pins:ah}{σ:List (Option V)}{H H':Hp}{s:Shared}{h':Heap}
def Cx.Ok.nofr (ok:X.Ok)(e:X.base.get? b=some o):b∉X.fs:=λhb=>by
 have:=(ok.funs.mem hb).1;rw[e] at this; cases this
theorem Inv.bs (I:Inv X pins σ H s):∀b o,X.base.get? b=some o->s.heap.get? b=some o/\H b=none:=λb o e=>
 ⟨I.base.keep b o (I.ok.bs b o e).1 (I.ok.bs b o e).2 (I.ok.nofr e) (I.ok.noex b o e),I.base.free b o (I.ok.bs b o e).1 (I.ok.bs b o e).2 (I.ok.noex b o e)⟩
def Inv.bk (I:Inv X pins σ H s):∀b o,X.base.get? b=some o->s.heap.get? b=some o:=λb o e=>(I.bs b o e).1
theorem Inv.mod (I:Inv X pins σ H s):Mod X.K X.mg X.base:=I.ok.mod
def Inv.kIn (I:Inv X pins σ H s):X.K.In s.heap:=I.ok.mod.kin.keeps I.bk
theorem Inv.lt (I:Inv X pins σ H s):X.env.locals<s.heap.objs.size:=let ⟨_,hn,_⟩:=I.loc; hn.lt
def Inv.sz (I:Inv X pins σ H s):X.s₀.heap.objs.size<=s.heap.objs.size:=bv I.ok.above (J0 I.lt)
def Inv.nofs (I:Inv X pins σ H s)(h:s.heap.objs.size<=a):a∉X.fs:=λhb=>by
 obtain⟨_,o,ho,_⟩:=I.ok.funs.mem hb;exact absurd (fc (bL ho) (bv I.sz h)) (Jo _)
def Inv.cne (I:Inv X pins σ H s):∀x c,X.env.cells.lookup x=some c->c≠X.env.locals:=λx c e z=>by
 obtain⟨v,o,ho,hd⟩:=I.cell x c e;obtain⟨m,⟨o',es,ep,ho',hd',_⟩,_⟩:=I.loc;rw[z,ho'] at ho; cases ho; rw[hd'] at hd; cases hd
theorem Inv.funs (I:Inv X pins σ H s):s.heap.FunFrames X.base X.outer:=by
 have all:∀(l:List Env),(∀b∈gk l,b∈X.fs)->X.s₀.heap.FunFrames X.base l->s.heap.FunFrames X.base l:=by
  intro l;induction l with
  | nil=>intro _ _; trivial
  | cons env r ih=>
   intro hs hl;obtain⟨hk,⟨L,o,hf,hn,ho,hd⟩,hr⟩:=hl;have hL:L∈X.fs:=hs L (by unfold gk; rw[List.filterMap_cons,hf]; exact bN);obtain⟨sl,e⟩:=I.base.slot L o ho (I.ok.frf L hL) hL λz=>I.ok.exfs L z hL;exact⟨hk,⟨L,_,hf,hn,e,hd⟩,ih (λb hb=>hs b (by unfold gk; rw[List.filterMap_cons,hf]; exact bM _ hb)) hr⟩
 exact all X.outer (λ_ hb=>hb) I.ok.funs
theorem Inv.stack (I:Inv X pins σ H s):s.heap.FunFrames X.base X.stack:=by
 rcases I.ok.stk with e | ⟨e,hf⟩
 .rw[e]; exact I.funs
 .rw[e];obtain⟨m,hn,_⟩:=I.loc;refine .cons (by rw[I.ok.kind]; decide) hf hn ?_ I.funs;exact Heap.get?_none_of_le (bv I.ok.bsz I.ok.above)
def Inv.stkSub (I:Inv X pins σ H s):∀b∈gk X.stack,b∈X.env.locals::X.fs:=λb hb=>by
 rcases I.ok.stk with e | ⟨e,hf⟩
 .rw[e] at hb; exact bM _ hb
 .rw[e] at hb;unfold gk at hb;rw[List.filterMap_cons,hf] at hb;exact hb
def Inv.stkFree (I:Inv X pins σ H s):∀b∈gk X.stack,H b=none:=λb hb=>by
 rcases bQ (I.stkSub b hb) with e | hb
 .rw[e]; exact I.free
 .obtain⟨_,o,ho,_⟩:=I.ok.funs.mem hb;exact I.base.free b o ho (I.ok.frf b hb) λz=>I.ok.exfs b z hb
def Inv.step {g':Array GenState}{t':Nat}{d':Drawn}{ch:ao}(I:Inv X pins σ H s)
  (hch:∀b∈ch,(b∈X.ex\/X.s₀.heap.objs.size<=b)/\b≠X.env.locals/\(∀x c,X.env.cells.lookup x=some c->c≠b)/\∀p∈X.pn++pins,p.1≠b)
  (keep:∀b o,b≠X.env.locals->b∉X.fs->b∉ch->s.heap.get? b=some o->H b=none->h'.get? b=some o)
  (slot:∀b o,b≠X.env.locals->b∈X.fs->b∉ch->s.heap.get? b=some o->H b=none->∃sl,h'.get? b=some { o with slots:=sl })(free:∀b o,b∉ch->s.heap.get? b=some o->H b=none->H' b=none)
  (there:∀b o,b∉ch->s.heap.get? b=some o->∃o',h'.get? b=some o')
  (tups:∀b xs,H b=some (.tup xs)->H' b=some (.tup xs))(frzs:∀b o u,H b=some (.frz o u)->H' b=some (.frz o u))(tbls:∀b ps,H b=some (.tbl ps)->∃more,H' b=some (.tbl (ps++more)))
  (ns:∀m,s.heap.Ns X.env.locals m->h'.Ns X.env.locals m)(hok:HOk X.prog X.w H' h')(hg:AllBare g') :
  Inv X pins σ H' { s with heap:=h',gens:=g',drawn:=d',toks:=t' }:=by
 have neL:∀b o,X.s₀.heap.get? b=some o->b≠X.env.locals:=λb o e=>dh (fc (bL e) I.ok.above);have neC:∀b o,X.s₀.heap.get? b=some o->b∉X.ex->b∉ch:=λb o e hx hb=>by
  rcases (hch b hb).1 with z | z
  .exact hx z
  .exact absurd (fc (bL e) z) (Jo _)
 have cellK:∀x c,X.env.cells.lookup x=some c->∀v,s.heap.IsCell c v->h'.IsCell c v:=λx c e v ⟨o,ho,hd⟩=>by
  have nch:c∉ch:=λz=>(hch c z).2.2.1 x c e rfl;by_cases hc:c∈X.fs
  .obtain⟨sl,q⟩:=slot c o (I.cne x c e) hc nch ho (I.freeC x c e);exact⟨_,q,hd⟩
  .exact⟨o,keep c o (I.cne x c e) hc nch ho (I.freeC x c e),hd⟩
 refine⟨I.ok,I.os,hg,⟨λb o e n hb hx=>?_,λb o e n hb hx=>?_,λb o e n hx=>?_,λb o e hx=>?_,λb xs e=>tups b xs (I.base.tups b xs e),λb o xs e=>frzs b o xs (I.base.frzs b o xs e),λb ps e=>?_⟩,?_,λx c e=>?_,?_,λx c e=>?_,λp hp=>?_,hok,I.len⟩
 .exact keep b o (neL b o e) hb (neC b o e hx) (I.base.keep b o e n hb hx) (I.base.free b o e n hx)
 .obtain⟨sl,e1⟩:=I.base.slot b o e n hb hx;obtain⟨sl',e2⟩:=slot b _ (neL b o e) hb (neC b o e hx) e1 (I.base.free b o e n hx);exact⟨sl',e2⟩
 .obtain⟨o',e1⟩:=I.base.there b o e hx;exact free b o' (neC b o e hx) e1 (I.base.free b o e n hx)
 .obtain⟨o',e1⟩:=I.base.there b o e hx;exact there b o' (neC b o e hx) e1
 .obtain⟨m1,e1⟩:=I.base.tbls b ps e;obtain⟨m2,e2⟩:=tbls b _ e1;exact⟨m1++m2,by rw[e2,Array.append_assoc]⟩
 .obtain⟨m,hn,hl⟩:=I.loc;refine⟨m,ns m hn,λi x v e1 e2 e3=>?_⟩;obtain⟨u,r,l⟩:=hl i x v e1 e2 e3;refine⟨u,r,?_⟩;rcases l with l | ⟨k,c,e,z⟩
  .exact .inl l
  .exact .inr ⟨k,c,e,cellK x c e _ z⟩
 .obtain⟨v,z⟩:=I.cell x c e;exact⟨v,cellK x c e v z⟩
 .obtain⟨m,⟨o,_,_,ho,_⟩,_⟩:=I.loc;exact free _ o (λz=>(hch _ z).2.1 rfl) ho I.free
 .obtain⟨v,o,ho,hd⟩:=I.cell x c e;exact free c o (λz=>(hch c z).2.2.1 x c e rfl) ho (I.freeC x c e)
 .obtain⟨e,n,ne,nf,d⟩:=I.pin p hp;have nch:p.1∉ch:=λz=>(hch p.1 z).2.2.2 p hp rfl;exact⟨keep p.1 p.2 ne nf nch e n,free p.1 p.2 nch e n,ne,nf,d⟩
def Inv.un {t':Nat}(I:Inv X pins σ H s)(u:Un X.fs [] H H' s.heap h')(hok:HOk X.prog X.w H' h'):Inv X pins σ H' { s with heap:=h',toks:=t' }:=by
 obtain⟨m,⟨o,es,ep,ho,r⟩,_⟩:=id I.loc;obtain⟨sl,hL⟩:=u.any ho I.free (by simp);exact I.step (g':=s.gens) (d':=s.drawn) (ch:=[]) (λ_ z=>nomatch z) (λb o _ hb _ e n=>u.keep b o e n hb (by simp)) (λb o _ hb _ e n=>u.slot b o e n hb (by simp)) (λb o _ e n=>u.free b o e n (by simp)) (λb o _ e=>u.there b o e (by simp)) u.tups u.frzs u.tbls (λm' hm=>by
  obtain⟨o',es',ep',ho',r'⟩:=hm;rw[ho] at ho'; cases ho';exact⟨_,es',ep',hL,r'⟩) hok I.bare
def Inv.call {g':Array GenState}{t':Nat}{d':Drawn}{ch:ao}(I:Inv X pins σ H s)(u:Un (gk X.stack) ch H H' s.heap h')(hok:HOk X.prog X.w H' h')(hg:AllBare g')
  (hch:∀b∈ch,(b∈X.ex\/X.s₀.heap.objs.size<=b)/\b≠X.env.locals/\(∀x c,X.env.cells.lookup x=some c->c≠b)/\∀p∈X.pn++pins,p.1≠b) :
  Inv X pins σ H' { s with heap:=h',gens:=g',drawn:=d',toks:=t' }:=by
 obtain⟨m,⟨o,es,ep,ho,r⟩,_⟩:=id I.loc;obtain⟨sl,hL⟩:=u.any ho I.free λz=>(hch _ z).2.1 rfl;exact I.step (ch:=ch) hch (λb o hL hb hc e n=>u.keep b o e n (λz=>(bQ (I.stkSub b z)).elim hL hb) hc) (λb o _ _ hc e n=>u.any e n hc) (λb o hc e n=>u.free b o e n hc) (λb o hc e=>u.there b o e hc) u.tups u.frzs u.tbls (λm' hm=>by
  obtain⟨o',es',ep',ho',r'⟩:=hm;rw[ho] at ho'; cases ho';exact⟨_,es',ep',hL,r'⟩) hok hg
def Inv.turned {t':Nat}{it:Addr}(I:Inv X pins σ H s)(k:∀b o,b≠it->s.heap.get? b=some o->h'.get? b=some o)(hn:H it=none)(hL:it≠X.env.locals)
  (h1:it∈X.ex\/X.s₀.heap.objs.size<=it)(h2:∀x c,X.env.cells.lookup x=some c->c≠it)(h3:∀p∈X.pn++pins,p.1≠it):Inv X pins σ H { s with heap:=h',toks:=t' }:=by
 have nit:∀b u,H b=some u->b≠it:=λb u e z=>by rw[z,hn] at e; cases e
 refine I.step (g':=s.gens) (d':=s.drawn) (ch:=[it]) (λb hb=>?_) (λb o _ _ hc e _=>k b o (λz=>hc (by simp[z])) e) (λb o _ _ hc e _=>⟨o.slots,k b o (λz=>hc (by simp[z])) e⟩) (λ_ _ _ _ n=>n)
  (λb o hc e=>⟨o,k b o (λz=>hc (by simp[z])) e⟩) (λ_ _ e=>e) (λ_ _ _ e=>e) (λb ps e=>⟨#[],by rw[e]; simp⟩) (λm hm=>?_) (λb u e=>?_) I.bare
 .have e:b=it:=by simpa using hb
  subst e;exact⟨h1,hL,h2,h3⟩
 .obtain⟨o,es,ep,ho,r⟩:=hm;exact⟨o,es,ep,k _ o (JG hL) ho,r⟩
 .refine (I.hok b u e).stay (λc v hc q=>k c v ?_ q) (λ_ q=>q) λ_ _ q=>q;rcases hc with z | z
  .rw[z]; exact nit b u e
  .exact nit c _ z
def Inv.tok (I:Inv X pins σ H s)(t:Nat):Inv X pins σ H { s with toks:=t }:=I.un (h':=s.heap) (t':=t) Un.refl I.hok
theorem Inv.kept (I:Inv X pins σ H s)(k:∀b u,s.heap.get? b=some u->h'.get? b=some u):Inv X pins σ H { s with heap:=h',toks:=t' }:=I.un (Un.kept k) (I.hok.kept k)
theorem Inv.laid (I:Inv X pins σ H s)(k:∀b u,s.heap.get? b=some u->h'.get? b=some u)(hp:s.heap.objs.size<=a)(new:ObjOk X.prog X.w (upd H a o) h' a o) :
  Inv X pins σ (upd H a o) { s with heap:=h',toks:=t' }:=I.un (Un.laid k hp (I.hok.fresh hp)) (I.hok.laid k hp new)
theorem Inv.write (I:Inv X pins σ H s)(mu:oH (H x))(he:e=x\/H e=some (.own x))(k:∀b u,b≠e->s.heap.get? b=some u->h'.get? b=some u)(heo:∃u,h'.get? e=some u)
  (new:ObjOk X.prog X.w (upd H x o) h' x o):Inv X pins σ (upd H x o) { s with heap:=h',toks:=t' }:=I.un (Un.write mu he k heo) (I.hok.write mu he k heo new)
def Inv.pins_of (I:Inv X pins σ H s)(h:∀p∈pins',s.heap.get? p.1=some p.2/\H p.1=none/\p.1≠X.env.locals/\p.1∉X.fs/\∀v,p.2.data≠.cell v):Inv X pins' σ H s:=
 ⟨I.ok,I.os,I.bare,I.base,I.loc,I.cell,I.free,I.freeC,λp hp=>(cO hp).elim (λz=>I.pin p (eY _ z)) (h p),I.hok,I.len⟩
def uw {N:ar}(hN:N.Nodup){i j:Nat}{x:Str}(a:N[i]? = some x)(b:N[j]? = some x):i=j:=by
 obtain⟨h1,e1⟩:=dg a;obtain⟨h2,e2⟩:=dg b;exact (List.getElem_inj hN).mp (e1.trans e2.symm)
def EU {M:Model}{A:Around}{E:Value->Shared->Prop}{i:Nat}{x:Str}{v:V}{u:Value}{Q:Unit->Shared->Prop}(I:Inv X pins σ H s)(hN:X.N.Nodup)(hi:X.N[i]? = some x)(hx:Loc X.env.scope x)(r:RelV v u)
  (h:∀s',Inv X pins (σ.set i (some v)) H s'->(∃a,Heap.SameBut a s.heap s'.heap/\(a=X.env.locals\/X.env.cells.lookup x=some a))->Q () s')(hf:X.fn x=true\/X.env.scope.names.lookup x=some .local:=by first | exact .inl rfl | exact .inr rfl | assumption):wpAny M A (storeName X.env x u) Q E s:=by
 obtain⟨m,hn,hl⟩:=id I.loc;have hcls:(X.env.scope.kind == .class||(X.env.scope.kind == .module&&X.env.locals != X.env.globals))=false:=by rw[I.ok.kind]; rfl
 have hiσ:i < σ.length:=by rw[I.len]; exact (dg hi).1
 have cne:=I.cne;have tracked:∀{a:Addr} {h':Heap},(∃o,s.heap.get? a=some o/\H a=none)->Heap.SameBut a s.heap h'->HOk X.prog X.w H h':=λ{a h'} ha hs b ob e=>by
  obtain⟨_,_,hfree⟩:=ha;refine (I.hok b ob e).stay (λc w' hc q=>(hs.2 c ?_).trans q) (λ_ q=>q) λ_ _ q=>q;rintro rfl;rcases hc with rfl | hc
  .rw[hfree] at e; cases e
  .rw[hfree] at hc; cases hc
 rcases hx with hk | hk
 .refine wpAny_storeName_local hk hn (λh' hn' hs=>?_) hcls;obtain⟨oL,_,_,hoL,_⟩:=id hn;refine h _ ⟨I.ok,I.os,I.bare,⟨λb o e n hb hx=>?_,λb o e n hb hx=>?_,I.base.free,λb o e hx=>?_,I.base.tups,I.base.frzs,I.base.tbls⟩,⟨_,hn',λj y v' e1 e2 e3=>?_⟩,λy c e=>?_,I.free,I.freeC,λp hp=>?_,tracked ⟨oL,hoL,I.free⟩ hs,by simpa using I.len⟩ ⟨_,hs,.inl rfl⟩
  .exact (hs.2 b (dh (fc (bL e) I.ok.above))).trans (I.base.keep b o e n hb hx)
  .obtain⟨sl,e1⟩:=I.base.slot b o e n hb hx;exact⟨sl,(hs.2 b (dh (fc (bL e) I.ok.above))).trans e1⟩
  .obtain⟨o',e1⟩:=I.base.there b o e hx;exact⟨o',(hs.2 b (dh (fc (bL e) I.ok.above))).trans e1⟩
  .by_cases hj:j=i
   .subst hj;rw[hi] at e1; cases e1;rw[Ie hiσ] at e2;cases e2;exact⟨u,r,.inl ⟨hk,by simp⟩⟩
   .rw[HX (JG hj)] at e2;obtain⟨u',r',q⟩:=hl j y v' e1 e2 e3;refine⟨u',r',?_⟩;rcases q with ⟨k,e⟩ | ⟨k,c,e,z⟩
    .refine .inl ⟨k,?_⟩;have:y≠x:=λe=>hj (uw hN e1 (e ▸ hi));simp[this,e]
    .exact .inr ⟨k,c,e,z.sameBut hs (cne y c e)⟩
  .obtain⟨w',z⟩:=I.cell y c e;exact⟨w',z.sameBut hs (cne y c e)⟩
  .obtain⟨e,n,ne,nf,d⟩:=I.pin p hp;exact⟨(hs.2 p.1 ne).trans e,n,ne,nf,d⟩
 .have hfn:X.fn x=true:=by
   rcases hf with z | z
   .exact z
   .rw[z] at hk; cases hk
  obtain⟨c,hc⟩:=I.ok.has x (.inl hk);obtain⟨w',z⟩:=I.cell x c hc;refine wpAny_storeName_cell I.ok.kind hk hc z (λh' hc' hs=>?_);obtain⟨oc,hoc,hocd⟩:=id z;refine h { s with heap:=h' } ⟨I.ok,I.os,I.bare,⟨λb o e n hb hx=>?_,λb o e n hb hx=>?_,I.base.free,λb o e hx=>?_,I.base.tups,I.base.frzs,I.base.tbls⟩,⟨m,hn.sameBut hs (JG (cne x c hc)),λj y v' e1 e2 e3=>?_⟩,λy c' e=>?_,I.free,I.freeC,λp hp=>?_,tracked ⟨oc,hoc,I.freeC x c hc⟩ hs,by simpa using I.len⟩ ⟨c,hs,.inr hc⟩
  .exact (hs.2 b (dh (fc (bL e) (I.ok.cab x c hfn hc)))).trans (I.base.keep b o e n hb hx)
  .obtain⟨sl,e1⟩:=I.base.slot b o e n hb hx;exact⟨sl,(hs.2 b (dh (fc (bL e) (I.ok.cab x c hfn hc)))).trans e1⟩
  .obtain⟨o',e1⟩:=I.base.there b o e hx;exact⟨o',(hs.2 b (dh (fc (bL e) (I.ok.cab x c hfn hc)))).trans e1⟩
  .by_cases hj:j=i
   .subst hj;rw[hi] at e1; cases e1;rw[Ie hiσ] at e2;cases e2;exact⟨u,r,.inr ⟨.inl hk,c,hc,hc'⟩⟩
   .rw[HX (JG hj)] at e2;obtain⟨u',r',q⟩:=hl j y v' e1 e2 e3;refine⟨u',r',?_⟩;rcases q with q | ⟨k,c',e,z'⟩
    .exact .inl q
    .refine .inr ⟨k,c',e,z'.sameBut hs ?_⟩;rintro rfl;exact hj (uw hN e1 (I.ok.inj _ _ _ e hc ▸ hi))
  .by_cases hcc:c'=c
   .subst hcc; exact⟨_,hc'⟩
   .obtain⟨w2,z2⟩:=I.cell y c' e;exact⟨w2,z2.sameBut hs hcc⟩
  .obtain⟨e,n,ne,nf,d⟩:=I.pin p hp;refine⟨(hs.2 p.1 ?_).trans e,n,ne,nf,d⟩;intro q;rw[q,hoc] at e;have q':oc=p.2:=cQ e;exact d w' (by rw[<-q']; exact hocd)
def vN (I:Inv X pins σ H s)(hN:X.N.Nodup)(hi:X.N[i]? = some x)(hx:Loc X.env.scope x)(r:RelV v u)
  (h:∀s',Inv X pins (σ.set i (some v)) H s'->Q () s')(hf:X.fn x=true\/X.env.scope.names.lookup x=some .local:=by first | exact .inl rfl | exact .inr rfl | assumption):wpAny M A (storeName X.env x u) Q E s:=
 EU I hN hi hx r (λs' I' _=>h s' I') hf
def Inv.call' (I:Inv X pins σ H s)(ho:s'.os=s.os)(u:Un (gk X.stack) ch H H' s.heap s'.heap)(hok:HOk X.prog X.w H' s'.heap)(hg:AllBare s'.gens)
  (hch:∀b∈ch,(b∈X.ex\/X.s₀.heap.objs.size<=b)/\b≠X.env.locals/\(∀x c,X.env.cells.lookup x=some c->c≠b)/\∀p∈X.pn++pins,p.1≠b):Inv X pins σ H' s':=by
 obtain⟨h',g',d',t',o'⟩:=s';have e:o'=s.os:=ho;subst e;exact I.call (g':=g') (t':=t') (d':=d') u hok hg hch
end
abbrev XK:=Value->aE->Hp->Prop
abbrev St:=List (Option V)
abbrev VK:=V->Hp->Prop
abbrev TE:=St->Hp->VK->Prop
abbrev TT:=St->Hp->(Bool->Hp->Prop)->Prop
abbrev TA:=St->Hp->(av->Hp->Prop)->Prop
structure Ends where
 nx:St->Hp->Prop
 rt:VK
 bk:St->Hp->Prop:=λ_ _=>False
 ct:St->Hp->Prop:=λ_ _=>False
abbrev TS:=Ends->St->Hp->Prop
def EP (X:Cx)(pins:ah)(σ:St)(Q:VK)(u:Value)(s':Shared):Prop:=∃v H',Inv X pins σ H' s'/\RelV v u/\Q v H'
def TP (X:Cx)(pins:ah)(σ:St)(Q:Bool->Hp->Prop)(b:Bool)(s':Shared):Prop:=∃H',Inv X pins σ H' s'/\Q b H'
def AP (X:Cx)(pins:ah)(σ:St)(Q:av->Hp->Prop)(us:aq)(s':Shared):Prop:=∃vs H',Inv X pins σ H' s'/\Vals vs us/\Q vs H'
def SP (X:Cx)(pins:ah)(D:Ends)(f:Flow)(s':Shared):Prop:=
 match f with
 | .next=>∃σ' H',Inv X pins σ' H' s'/\D.nx σ' H'
 | .brk=>∃σ' H',Inv X pins σ' H' s'/\D.bk σ' H'
 | .cont=>∃σ' H',Inv X pins σ' H' s'/\D.ct σ' H'
 | .ret u=>∃v σ' H',Inv X pins σ' H' s'/\RelV v u/\D.rt v H'
def PE (X:Cx)(e:Expr)(t:TE):Prop:=
 ∀(pins:ah) (s:Shared) (σ:St) (H:Hp) (Q:VK),Inv X pins σ H s->t σ H Q->wpAny (model X.prog X.w) X.A (eval e X.env) (EP X pins σ Q) X.xe s
def PT (X:Cx)(e:Expr)(t:TT):Prop:=
 ∀(pins:ah) (s:Shared) (σ:St) (H:Hp) (Q:Bool->Hp->Prop),Inv X pins σ H s->t σ H Q->wpAny (model X.prog X.w) X.A (isTrue e X.env (eval e X.env)) (TP X pins σ Q) X.xe s
def PW (X:Cx)(e:Expr)(t:TT):Prop:=
 ∀(whole:Sem Value) (pins:ah) (s:Shared) (σ:St) (H:Hp) (Q:Bool->Hp->Prop),Inv X pins σ H s->t σ H Q->wpAny (model X.prog X.w) X.A (isTrue e X.env whole) (TP X pins σ Q) X.xe s
def PW.pt (h:PW X e t):PT X e t:=h _
def PA (X:Cx)(es:au)(t:TA):Prop:=
 ∀(pos:Pos) (pins:ah) (s:Shared) (σ:St) (H:Hp) (Q:av->Hp->Prop),Inv X pins σ H s->t σ H Q->wpAny (model X.prog X.w) X.A (spliced (backTo pos (starEach es X.env))) (AP X pins σ Q) X.xe s
def PS (X:Cx)(st:Stmt)(t:TS):Prop:=
 ∀(pins:ah) (s:Shared) (σ:St) (H:Hp) (D:Ends),Inv X pins σ H s->t D σ H->wpAny (model X.prog X.w) X.A (exec st X.env) (SP X pins D) X.xe s
def PSs (X:Cx)(st:aG)(t:TS):Prop:=
 ∀(pins:ah) (s:Shared) (σ:St) (H:Hp) (D:Ends),Inv X pins σ H s->t D σ H->wpAny (model X.prog X.w) X.A (execs st X.env) (SP X pins D) X.xe s
def bg (h:wpAny M A t Q E s)(hQ:∀a s,Q a s->Q' a s):wpAny M A t Q' E s:=IY h hQ λ_ _ x=>x
end L2
namespace L2
open PySem PySem.Spec PyProof.Rows
section
variable {X:Cx}
def dY (i:Nat):TE:=λσ H Q=>∃v,σ[i]? = some (some v)/\Q v H
def tC (v:V):TE:=λ_ H Q=>Q v H
def ut (hN:X.N[i]? = some x)(hv:sQ X.env.scope x)(hd:(x == ("__debug__" : Str))=false:=by decide)(hcd:(x == ("__classdict__" : Str))=false:=by decide):PE X (.Name x pos) (dY i):=by
 intro pins s σ H Q I h;obtain⟨v,e,h⟩:=h;obtain⟨m,hn,hl⟩:=I.loc;obtain⟨u,r,l⟩:=hl i x v hN e hv;have fin:EP X pins σ Q u s:=⟨v,H,I,r,h⟩
 rcases l with ⟨hk,hm⟩ | ⟨hk,c,hc,hcell⟩
 .exact wpAny_Name (wpAny_loadName_local I.ok.kind hk hn hm fin) hd
 .rcases hk with hk | hk
  .exact wpAny_Name (wpAny_loadName_cell I.ok.kind hk hc hcell fin) hd
  .exact wpAny_Name (wpAny_loadName_free I.ok.kind hk hc hcell fin hcd) hd
def xw {i j pos}:PE X (.Constant (.int i) j pos) (tC (.int i)):=λ_ _ _ H _ I h=>wpAny_Constant_int ⟨.int i,H,I.tok _,⟨_,rfl⟩,h⟩
def Eb {b j pos}:PE X (.Constant (.bool b) j pos) (tC (.bl b)):=λ_ _ _ H _ I h=>Constant_bool ⟨.bl b,H,I,rfl,h⟩
def Gp {j pos}:PE X (.Constant .none j pos) (tC .non):=λ_ _ _ H _ I h=>Constant_none ⟨.non,H,I,rfl,h⟩
def uJ {x j pos}:PE X (.Constant (.str x) j pos) (tC (.str x)):=λ_ _ _ H _ I h=>Calls.Constant_str ⟨.str x,H,I.tok _,⟨_,rfl⟩,h⟩
def Gl (X:Cx)(x:Str):Prop:=X.env.kindOf x=some .globalImplicit
def mn (I:Inv X pins σ H s)(hg:Gl X x)(hm:X.mg x=some u)(h:Q u s)
  (hd:(x == ("__debug__" : Str))=false:=by decide):wpAny (model X.prog X.w) X.A (eval (.Name x pos) X.env) Q E s:=
 Calls.Name_function_global I.ok.kind hg (Calls.loadGlobal_global (by rw[I.ok.glob]; exact I.mod.glob.keeps I.bk) hm h) hd
def gB (I:Inv X pins σ H s)(hg:Gl X x)(hm:X.mg x=none)(hv:bootBuiltins x=some u)(h:Q u s)
  (hn:x ≠ "__name__":=by decide)(hd:(x == ("__debug__" : Str))=false:=by decide):wpAny (model X.prog X.w) X.A (eval (.Name x pos) X.env) Q E s:=by
 obtain⟨mb,h1,h2⟩:=I.mod.blt;exact Calls.Name_function_global I.ok.kind hg (Calls.loadGlobal_builtin (by rw[I.ok.glob]; exact I.mod.glob.keeps I.bk) hm (by rw[I.ok.blt]; exact h1.keeps I.bk) ((h2 x hn).trans hv) h) hd
def vF (hg:Gl X x)(hm:X.mg x=some u)(r:RelV v u)(hd:(x == ("__debug__" : Str))=false:=by decide):PE X (.Name x pos) (tC v):=
 λ_ _ _ H _ I h=>mn I hg hm ⟨v,H,I,r,h⟩ hd
def EA (hg:Gl X x)(hm:X.mg x=none)(hv:bootBuiltins x=some u)(r:RelV v u)(hn:x ≠ "__name__":=by decide)(hd:(x == ("__debug__" : Str))=false:=by decide):PE X (.Name x pos) (tC v):=
 λ_ _ _ H _ I h=>gB I hg hm hv ⟨v,H,I,r,h⟩ hn hd
variable {a b:Expr}{ta tb:TE}{pos:Pos}
def PC (X:Cx)(op:CmpOp)(a b:Expr)(t:TE):Prop:=
 ∀(pins:ah) (s:Shared) (σ:St) (H:Hp) (Q:VK),Inv X pins σ H s->t σ H Q ->
  wpAny (model X.prog X.w) X.A (eval a X.env) (λv s₁=>wpAny (model X.prog X.w) X.A (eval b X.env) (λu s₂=>wpAny (model X.prog X.w) X.A (compareOp op v u) (EP X pins σ Q) X.xe s₂) X.xe s₁) X.xe s
def wR (b:Expr)(h:op≠.In)(h2:op≠.NotIn):behindInMarks op b=false:=by
 have e1:(op == CmpOp.In)=false:=by cases op <;> first | rfl | exact absurd rfl h
 have e2:(op == CmpOp.NotIn)=false:=by cases op <;> first | rfl | exact absurd rfl h2
 cases b <;> simp[behindInMarks,e1,e2]
def rT (ta:TE):TE:=λσ H Q=>ta σ H λx H1=>Q (.bl (decide (x=.non))) H1
def nS (ta:TE):TE:=λσ H Q=>ta σ H λx H1=>Q (.bl (!decide (x=.non))) H1
def RelV.none_iff (r:RelV x v):(v == Value.none)=decide (x=.non):=by
 cases x with
 | non=>cases r; rfl
 | bl _=>cases r; rfl
 | int _=>obtain⟨t,rfl⟩:=r; rfl
 | str _=>obtain⟨t,rfl⟩:=r; rfl
 | byt _=>obtain⟨t,rfl⟩:=r; rfl
 | flt _=>obtain⟨t,rfl⟩:=r; rfl
 | ref _=>cases r; rfl
 | ty _=>cases r; rfl
def xm {j pos'}(ha:PE X a ta):PC X .Is a (.Constant .none j pos') (rT ta):=by
 intro pins s σ H Q I h;refine bg (ha pins s σ H _ I h) λv s1 hZz=>?_;obtain⟨x,H1,I1,r1,q1⟩:=hZz;exact Constant_none (is_none_gen ⟨.bl _,H1,I1,by rw[r1.none_iff]; rfl,q1⟩)
def xZ {j pos'}(ha:PE X a ta):PC X .IsNot a (.Constant .none j pos') (nS ta):=by
 intro pins s σ H Q I h;refine bg (ha pins s σ H _ I h) λv s1 hZz=>?_;obtain⟨x,H1,I1,r1,q1⟩:=hZz;exact Constant_none (isnot_none_gen ⟨.bl _,H1,I1,by rw[r1.none_iff]; rfl,q1⟩)
def tB (t:TE):TT:=λσ H Q=>t σ H λx H1=>∃c,x=.bl c/\Q c H1
def uR (h:PC X op a b t)(h1:behindInMarks op b=false:=by first | exact wR _ (by decide) (by decide) | rfl):PE X (.Compare a [op] [b] pos) t:=λpins s σ H Q I hw=>wpAny_Compare1 (h pins s σ H Q I hw) h1
def wN (h:PC X op a b t)(h1:behindInMarks op b=false:=by first | exact wR _ (by decide) (by decide) | rfl):PT X (.Compare a [op] [b] pos) (tB t):=by
 intro pins s σ H Q I hw;refine wpAny_isTrue_Compare1 (bg (h pins s σ H _ I hw) λv s1 h1=>bg h1 λu s2 h2=>bg h2 λc s3 hZz=>?_) h1;obtain⟨x,H1,I1,r1,q1⟩:=hZz;obtain⟨d,rfl,q⟩:=q1;cases r1;exact IC ⟨H1,I1,q⟩
def EC (h:PE X e t)(he:∀whole,isTrue e X.env whole=(do let v <-whole; standAt e.pos; holding [v] (truthy v)):=by intro _; rfl):PT X e (tB t):=by
 intro pins s σ H Q I hw;refine isTrue_plain (bg (h pins s σ H _ I hw) λv s1 hZz=>?_) (he _);obtain⟨x,H1,I1,r1,q1⟩:=hZz;obtain⟨d,rfl,q⟩:=q1;cases r1;exact IC ⟨H1,I1,q⟩
variable {tA tB':TT}{rest:au}
def kf (t u:TT):TT:=λσ H Q=>t σ H λc H1=>if c=true then u σ H1 Q else Q false H1
def rO (t u:TT):TT:=λσ H Q=>t σ H λc H1=>if c=true then Q true H1 else u σ H1 Q
def j9 (t:TT):TT:=λσ H Q=>t σ H λc H1=>Q (!c) H1
def D6 (ha:PT X a tA):PW X (.BoolOp .And [a] pos) tA:=by
 intro wh pins s σ H Q I h;refine isTrue_and (bg (ha pins s σ H Q I h) λc s1 e=>?_);cases c with
 | true=>exact isTrue_and_nil e
 | false=>exact e
def Du (ha:PT X a tA):PW X (.BoolOp .Or [a] pos) tA:=by
 intro wh pins s σ H Q I h;refine isTrue_or (bg (ha pins s σ H Q I h) λc s1 e=>?_);cases c with
 | false=>exact isTrue_or_nil e
 | true=>exact e
def yJ (ha:PT X a tA)(hb:PW X (.BoolOp .And (b::rest) pos) tB'):PW X (.BoolOp .And (a::b::rest) pos) (kf tA tB'):=by
 intro wh pins s σ H Q I h;refine isTrue_and (bg (ha pins s σ H _ I h) λc s1 hZz=>?_);obtain⟨H1,I1,q1⟩:=hZz;cases c with
 | true=>exact hb wh pins s1 σ H1 Q I1 q1
 | false=>exact⟨H1,I1,q1⟩
def zV (ha:PT X a tA)(hb:PW X (.BoolOp .Or (b::rest) pos) tB'):PW X (.BoolOp .Or (a::b::rest) pos) (rO tA tB'):=by
 intro wh pins s σ H Q I h;refine isTrue_or (bg (ha pins s σ H _ I h) λc s1 hZz=>?_);obtain⟨H1,I1,q1⟩:=hZz;cases c with
 | true=>exact⟨H1,I1,q1⟩
 | false=>exact hb wh pins s1 σ H1 Q I1 q1
def yD (ha:PT X a tA):PT X (.UnaryOp .Not a pos) (j9 tA):=by
 intro pins s σ H Q I h;exact isTrue_not (ha pins s σ H (λc H1=>Q (!c) H1) I h)
def gE (ta tb:TE):TE:=λσ H Q=>ta σ H λx H1=>∃c,x=.bl c/\if c=true then tb σ H1 Q else Q (.bl false) H1
def kd (ta tb:TE):TE:=λσ H Q=>ta σ H λx H1=>∃c,x=.bl c/\if c=true then Q (.bl true) H1 else tb σ H1 Q
def mU (ta:TE):TE:=λσ H Q=>ta σ H λx H1=>∃c,x=.bl c/\Q (.bl (!c)) H1
def Gh {op}(h:PE X a t):PE X (.BoolOp op [a] pos) t:=λpins s σ H Q I hw=>BoolOp_one (h pins s σ H Q I hw)
def Dp (ha:PE X a ta)(hb:PE X (.BoolOp .And (b::rest) pos) tb):PE X (.BoolOp .And (a::b::rest) pos) (gE ta tb):=by
 intro pins s σ H Q I h;refine BoolOp_and (bg (ha pins s σ H _ I h) λv s1 hZz=>?_);obtain⟨x,H1,I1,r1,q1⟩:=hZz;obtain⟨c,rfl,q1⟩:=q1;cases r1;refine IC ?_;cases c with
 | true=>exact hb pins s1 σ H1 Q I1 q1
 | false=>exact⟨.bl false,H1,I1,rfl,q1⟩
def DQ (ha:PE X a ta)(hb:PE X (.BoolOp .Or (b::rest) pos) tb):PE X (.BoolOp .Or (a::b::rest) pos) (kd ta tb):=by
 intro pins s σ H Q I h;refine BoolOp_or (bg (ha pins s σ H _ I h) λv s1 hZz=>?_);obtain⟨x,H1,I1,r1,q1⟩:=hZz;obtain⟨c,rfl,q1⟩:=q1;cases r1;refine IC ?_;cases c with
 | false=>exact hb pins s1 σ H1 Q I1 q1
 | true=>exact⟨.bl true,H1,I1,rfl,q1⟩
def GL (ha:PE X a ta):PE X (.UnaryOp .Not a pos) (mU ta):=by
 intro pins s σ H Q I h;refine UnaryOp_ (bg (ha pins s σ H _ I h) λv s1 hZz=>?_);obtain⟨x,H1,I1,r1,q1⟩:=hZz;obtain⟨c,rfl,q1⟩:=q1;cases r1;exact not_of (IC ⟨.bl (!c),H1,I1,rfl,q1⟩)
def pX (t:TT)(ta tb:TE):TE:=λσ H Q=>t σ H λc H1=>if c=true then ta σ H1 Q else tb σ H1 Q
def An (hc:PT X c tA)(ha:PE X a ta)(hb:PE X b tb):PE X (.IfExp c a b pos) (pX tA ta tb):=by
 intro pins s σ H Q I h;refine wpAny_IfExp (bg (hc pins s σ H _ I h) λd s1 hZz=>?_);obtain⟨H1,I1,q1⟩:=hZz;cases d with
 | true=>exact ha pins s1 σ H1 Q I1 q1
 | false=>exact hb pins s1 σ H1 Q I1 q1
end
end L2
namespace L2
open PySem PySem.Spec PyProof.Rows
def SqL (K:bn)(H:Hp)(a:Addr)(xs:av):Prop:=
 Rd H a (.lst xs) \/
  ∃(o:Obj) (its:aB) (n:Nat),K.lookup a=some o/\o.cls=.type "list" /\ o.dict=none/\o.data=.seq its n/\its.size<=sizeLine/\Vals xs its.toList
def SqT (K:bn)(H:Hp)(a:Addr)(xs:av):Prop:=
 Rd H a (.tup xs) \/
  ∃(o:Obj) (its:aB) (n:Nat),K.lookup a=some o/\o.cls=.type "tuple" /\ o.dict=none/\o.data=.seq its n/\its.size<=sizeLine/\Vals xs its.toList
noncomputable def pY:Value->Option V
 | .none=>some .non
 | .bool b=>some (.bl b)
 | .int i _=>some (.int i)
 | .str x _=>some (.str x)
 | .bytes b _=>some (.byt b)
 | .float b _=>some (.flt b)
 | .ref a=>some (.ref a)
 | .type n=>some (.ty n)
 | _=>none
def RelV.abs (r:RelV x u):pY u=some x:=by
 cases x with
 | non=>cases r; rfl
 | bl _=>cases r; rfl
 | int _=>obtain⟨t,rfl⟩:=r; rfl
 | str _=>obtain⟨t,rfl⟩:=r; rfl
 | byt _=>obtain⟨t,rfl⟩:=r; rfl
 | flt _=>obtain⟨t,rfl⟩:=r; rfl
 | ref _=>cases r; rfl
 | ty _=>cases r; rfl
theorem RelV.inj (r:RelV x u)(q:RelV y u):x=y:=cQ (r.abs.symm.trans q.abs)
theorem Vals.inj:∀{xs ys:av} {us:aq},Vals xs us->Vals ys us->xs=ys
 | _,_,_,.nil,.nil=>rfl
 | _,_,_,.cons r t,.cons r' t'=>by rw[r.inj r',Vals.inj t t']
section
variable {X:Cx}{pins:ah}{σ:St}{H:Hp}{s:Shared}{a:Addr}{xs ys:av}
def SqT.of {K:bn}(h:H a=some (.tup xs)):SqT K H a xs:=.inl (.inl h)
def Inv.list (I:Inv X pins σ H s)(h:SqL X.K H a xs):∃its:aq,Vals xs its/\PlainL s.heap a its.toArray/\xs.length<=sizeLine:=by
 rcases h with h | ⟨o,its,n,hk,hc,hd,hs,hz,r⟩
 .obtain⟨z,its,n,r,e⟩:=h.ok I.hok;exact⟨its,r,⟨_,n,e,rfl,rfl,rfl⟩,z⟩
 .refine⟨its.toList,r,⟨o,n,I.kIn a o hk,hc,hd,by simpa using hs⟩,?_⟩;have e:=r.length;simp only[Array.length_toList] at e;omega
def Inv.tupN (I:Inv X pins σ H s)(h:SqT X.K H a xs):∃its:aq,Vals xs its/\TupN s.heap a its.toArray/\xs.length<=sizeLine:=by
 rcases h with h | ⟨o,its,n,hk,hc,hn,hs,hz,r⟩
 .obtain⟨z,its,r,p⟩:=h.ok I.hok;exact⟨its,r,p,z⟩
 .refine⟨its.toList,r,⟨o,I.kIn a o hk,hc,⟨n,by simpa using hs⟩,hn⟩,?_⟩;have e:=r.length;simp only[Array.length_toList] at e;omega
def Inv.tuple (I:Inv X pins σ H s)(h:SqT X.K H a xs):∃its:aq,Vals xs its/\IsTup s.heap a its.toArray/\xs.length<=sizeLine:=
 let ⟨its,r,p,z⟩:=I.tupN h
 ⟨its,r,p.tup,z⟩
def Inv.list_inj (I:Inv X pins σ H s)(h:SqL X.K H a xs)(h':SqL X.K H a ys):xs=ys:=by
 obtain⟨its,r,⟨o,n,e,_,_,d⟩,_⟩:=I.list h;obtain⟨its',r',⟨o',n',e',_,_,d'⟩,_⟩:=I.list h';rw[e] at e'; cases e';rw[d] at d';injection d' with d1 _;have:its=its':=by simpa using congrArg Array.toList d1
 subst this;exact r.inj r'
def Inv.tuple_inj (I:Inv X pins σ H s)(h:SqT X.K H a xs)(h':SqT X.K H a ys):xs=ys:=by
 obtain⟨its,r,⟨o,e,_,n,d⟩,_⟩:=I.tuple h;obtain⟨its',r',⟨o',e',_,n',d'⟩,_⟩:=I.tuple h';rw[e] at e'; cases e';rw[d] at d';injection d' with d1 _;have:its=its':=by simpa using congrArg Array.toList d1
 subst this;exact r.inj r'
end
noncomputable abbrev Cx.wish (X:Cx)(E:Value->Shared->Prop):Cx:={ X with xe:=E }
noncomputable abbrev Cx.nox (X:Cx):Cx:=X.wish λ_ _=>False
theorem Cx.Ok.wish {X:Cx}(ok:X.Ok)(E:Value->Shared->Prop):(X.wish E).Ok:=
 ⟨ok.mod,ok.kind,ok.glob,ok.blt,ok.above,ok.inj,ok.has,ok.cab,ok.hd,ok.frames,ok.stk,ok.exf,ok.bs,ok.bsz,ok.noex,ok.exfs,ok.funs,ok.frf⟩
def Cx.Ok.unwish {X:Cx}{E:Value->Shared->Prop}(ok:(X.wish E).Ok):X.Ok:=
 ⟨ok.mod,ok.kind,ok.glob,ok.blt,ok.above,ok.inj,ok.has,ok.cab,ok.hd,ok.frames,ok.stk,ok.exf,ok.bs,ok.bsz,ok.noex,ok.exfs,ok.funs,ok.frf⟩
section
variable {X:Cx}{pins:ah}{σ:St}{H:Hp}{s:Shared}{E:Value->Shared->Prop}
theorem Inv.wish (I:Inv X pins σ H s)(E:Value->Shared->Prop):Inv (X.wish E) pins σ H s:=⟨I.ok.wish E,I.os,I.bare,I.base,I.loc,I.cell,I.free,I.freeC,I.pin,I.hok,I.len⟩
theorem Inv.unwish (I:Inv (X.wish E) pins σ H s):Inv X pins σ H s:=⟨I.ok.unwish,I.os,I.bare,I.base,I.loc,I.cell,I.free,I.freeC,I.pin,I.hok,I.len⟩
theorem PE.nox (h:PE X.nox e t):PE X e t:=λpins s σ H Q I hw=>
 IY (h pins s σ H Q (I.wish _) hw) (λ_ _ ⟨v,H',I',r,q⟩=>⟨v,H',I'.unwish,r,q⟩) λ_ _ z=>False.elim z
end
section
variable {X:Cx}{st:Stmt}{rest:aG}{t u:TS}{e:Expr}{te:TE}{pos:Pos}
def mi:TS:=λD σ H=>D.nx σ H
def qa (t u:TS):TS:=λD σ H=>t { D with nx:=u D } σ H
def GZ:PSs X [] mi:=λ_ _ σ H _ I h=>wpAny_execs_nil ⟨σ,H,I,h⟩
def D0 (h1:PS X st t)(h2:PSs X rest u):PSs X (st::rest) (qa t u):=by
 intro pins s σ H D I h;refine wpAny_execs_cons (bg (h1 pins s σ H { D with nx:=u D } I h) λf s1 q=>?_);cases f with
 | next=>
  obtain⟨σ',H',I',q⟩:=q;exact h2 pins s1 σ' H' D I' q
 | ret v=>exact q
 | brk=>exact q
 | cont=>exact q
def Inv.quiet (I:Inv X pins σ H s):interactive X.env=false:=by simp[interactive,I.ok.kind]
def dG (te:TE):TS:=λD σ H=>te σ H λ_ H1=>D.nx σ H1
def ox (he:PE X e te)(hs:swapsWith e none pos.line X.env=pure false:=by rfl):PS X (.Expr e pos) (dG te):=by
 intro pins s σ H D I h;exact wpAny_Expr_any (bg (he pins s σ H _ I h) λv s1 ⟨x,H1,I1,r1,q1⟩=>⟨σ,H1,I1,q1⟩) I.quiet hs
def nq (te:TE):TS:=λD σ H=>te σ H D.rt
def rl (he:PE X e te):PS X (.Return (some e) pos) (nq te):=by
 intro pins s σ H D I h;exact wpAny_Return_some (bg (he pins s σ H _ I h) λv s1 ⟨x,H1,I1,r1,q1⟩=>⟨x,σ,H1,I1,r1,q1⟩)
def nU:TS:=λD _ H=>D.rt .non H
def Gc:PS X (.Return none pos) nU:=λ_ _ σ H _ I h=>wpAny_Return_none ⟨.non,σ,H,I,rfl,h⟩
def jO (c:TT)(t u:TS):TS:=λD σ H=>c σ H λb H1=>if b=true then t D σ H1 else u D σ H1
def Fs (hc:PT X c tc)(ha:PSs X a t)(hb:PSs X b u):PS X (.If c a b pos) (jO tc t u):=by
 intro pins s σ H D I h;refine wpAny_If (bg (hc pins s σ H _ I h) λd s1 hZz=>?_);obtain⟨H1,I1,q1⟩:=hZz;cases d with
 | true=>exact ha pins s1 σ H1 D I1 q1
 | false=>exact hb pins s1 σ H1 D I1 q1
end
abbrev TG:=V->St->Hp->(St->Hp->Prop)->Prop
abbrev kB:=av->St->Hp->(St->Hp->Prop)->Prop
def PG (X:Cx)(target:Expr)(t:TG):Prop:=
 ∀(pins:ah) (s:Shared) (σ:St) (H:Hp) (v:V) (u:Value) (Q:St->Hp->Prop),Inv X pins σ H s->RelV v u->t v σ H Q ->
  wpAny (model X.prog X.w) X.A (assign target X.env u) (λ_ s'=>∃σ' H',Inv X pins σ' H' s'/\Q σ' H') X.xe s
def lv (X:Cx)(ts:au)(t:kB):Prop:=
 ∀(pins:ah) (s:Shared) (σ:St) (H:Hp) (vs:av) (us:aq) (Q:St->Hp->Prop),Inv X pins σ H s->Vals vs us->t vs σ H Q ->
  wpAny (model X.prog X.w) X.A (assignInOrder ((assignEach ts X.env).map (·.2)) us) (λ_ s'=>∃σ' H',Inv X pins σ' H' s'/\Q σ' H') X.xe s
abbrev rh:=V->V->V->Hp->(Hp->Prop)->Prop
def sG (X:Cx)(t:rh):Prop:=
 ∀(pins:ah) (s:Shared) (σ:St) (H:Hp) (o i v:V) (ov iv u:Value) (Q:Hp->Prop),Inv X pins σ H s->RelV o ov->RelV i iv->RelV v u->t o i v H Q ->
  wpAny (model X.prog X.w) X.A (setItem ov iv u) (λ_ s'=>∃H',Inv X pins σ H' s'/\Q H') X.xe s
section
variable {X:Cx}{pos:Pos}
def fw (i:Nat):TG:=λv σ H Q=>Q (σ.set i (some v)) H
def tV (hN:X.N.Nodup)(hi:X.N[i]? = some x)(hx:Loc X.env.scope x)(hf:X.fn x=true\/X.env.scope.names.lookup x=some .local:=by first | exact .inl rfl | exact .inr rfl | assumption):PG X (.Name x pos) (fw i):=by
 intro pins s σ H v u Q I r h;exact wpAny_assign_Name (vN I hN hi hx r (λs' I'=>⟨_,H,I',h⟩) hf)
def mH:kB:=λvs σ H Q=>vs=[]/\Q σ H
def iO (t:TG)(u:kB):kB:=λvs σ H Q=>∃v r,vs=v::r/\t v σ H λσ' H'=>u r σ' H' Q
def Ar:lv X [] mH:=by
 intro pins s σ H vs us Q I r h;obtain⟨e,h⟩:=h;subst e;cases r;exact assignInOrder_nil ⟨σ,H,I,h⟩
def C1 (h1:PG X e t)(h2:lv X es u)
  (hs:(assignEach (e::es) X.env).map (·.2)=assign e X.env::(assignEach es X.env).map (·.2):=by rfl):lv X (e::es) (iO t u):=by
 intro pins s σ H vs us Q I r h;obtain⟨v,vr,e1,h⟩:=h;subst e1;cases r with
 | cons r rr=>
  rw[hs];refine assignInOrder_cons (bg (h1 pins s σ H _ _ _ I r h) λ_ s1 hZz=>?_);obtain⟨σ1,H1,I1,q1⟩:=hZz;exact h2 pins s1 σ1 H1 _ _ Q I1 rr q1
def mC (K:bn)(n:Nat)(t:kB):TG:=λv σ H Q=>∃a xs,v=.ref a/\SqT K H a xs/\xs.length=n/\t xs σ H Q
def Ad (hc:X.calm=true)(h:lv X es t)
  (hn:(assignEach es X.env).length=n:=by rfl)(hst:(assignEach es X.env).findIdx? (·.1)=none:=by rfl):PG X (.Tuple es k pos) (mC X.K n t):=by
 intro pins s σ H v u Q I r hw;obtain⟨a,xs,e1,hq,hl,hw⟩:=hw;subst e1;cases r;obtain⟨its,rv,ht,hz⟩:=I.tuple hq;refine assign_Tuple_tuple (I.ok.hd hc) ht (by simp[hn,<-hl,rv.length]) hst λh' hx=>?_;have I1:Inv X pins σ H { s with heap:=h' }:=I.kept (t':=s.toks) λb o e=>hx b o (dh (bL e)) e;exact h pins _ σ H xs _ Q I1 (by simpa using rv) hw
def kA (te:TE)(g:TG):TS:=λD σ H=>te σ H λx H1=>g x σ H1 D.nx
def vX (he:PE X e te)(hg:PG X tg g)(hs:swapsWithSole [tg] e pos.line X.env=pure false:=by rfl)(hw:swappedStores [tg] e X.env=pure none:=by rfl)
  (h1:(assignEach [tg] X.env).map (·.2)=[assign tg X.env]:=by rfl):PS X (.Assign [tg] e pos) (kA te g):=by
 intro pins s σ H D I h;refine wpAny_Assign_stores (bg (he pins s σ H _ I h) λv s1 hZz=>?_) hs hw;obtain⟨x,H1,I1,r1,q1⟩:=hZz;rw[h1];exact bg (hg pins s1 σ H1 x v _ I1 r1 q1) λ_ s2 q=>q
def xQ (hN:X.N.Nodup)(hi:X.N[i]? = some x)(hx:Loc X.env.scope x)(he:PE X e te)(hs:swapsWith e (some (.Name x pos')) pos.line X.env=pure false:=by rfl)(hf:X.fn x=true\/X.env.scope.names.lookup x=some .local:=by first | exact .inl rfl | exact .inr rfl | assumption) :
  PS X (.Assign [.Name x pos'] e pos) (kA te (fw i)):=by
 intro pins s σ H D I h;refine wpAny_Assign_Name (bg (he pins s σ H _ I h) λv s1 hZz=>?_) hs;obtain⟨y,H1,I1,r1,q1⟩:=hZz;exact vN I1 hN hi hx r1 (λs2 I2=>⟨_,H1,I2,q1⟩) hf
end
section
variable {X:Cx}{pos:Pos}
def fT (c:TT)(tb:TS):TS:=λD σ H=>∃W:Nat->St->Hp->Prop,(∃m,W m σ H)/\∀m σ H,W m σ H ->
 c σ H λb H1=>if b=true then ∃N:St->Hp->Prop,(∀σ' H',N σ' H'->∃m',m'<m/\W m' σ' H')/\tb { D with nx:=N,ct:=N,bk:=D.nx } σ H1 else D.nx σ H1
def yX (hp:PassesOwn (model X.prog X.w) X.A X.env X.xe)(hc:PT X c tc)(hb:PSs X body tb):PS X (.While c body [] pos) (fT tc tb):=by
 intro pins s σ H D I h;obtain⟨W,⟨m0,w0⟩,turn⟩:=h;refine wpAny_While (codeAny_whileLoop (λn s'=>∃σ' H',Inv X pins σ' H' s'/\W n σ' H') ?_ m0 ⟨σ,H,I,w0⟩);rintro n s1 ⟨σ1,H1,I1,w1⟩;refine Jt hp (bg (hc pins s1 σ1 H1 _ I1 (turn n σ1 H1 w1)) λb s2 hZz=>?_);obtain⟨H2,I2,q2⟩:=hZz;cases b with
 | true=>
  obtain⟨N,hN,q2⟩:=q2;rw[if_pos rfl];refine Jt hp (bg (hb pins s2 σ1 H2 _ I2 q2) λf s3 q3=>?_);cases f with
  | next=>
   obtain⟨σ3,H3,I3,n3⟩:=q3;obtain⟨m',hm,w3⟩:=hN σ3 H3 n3;exact⟨m',hm,σ3,H3,I3,w3⟩
  | cont=>
   obtain⟨σ3,H3,I3,n3⟩:=q3;obtain⟨m',hm,w3⟩:=hN σ3 H3 n3;exact⟨m',hm,σ3,H3,I3,w3⟩
  | brk=>exact q3
  | ret v=>exact q3
 | false=>
  rw[if_neg Im];exact wpAny_execs_nil ⟨σ1,H2,I2,q2⟩
end
structure It where
 go:Nat->Hp->Prop
 yld:Nat->Hp->V->Hp->Prop
 stop:Nat->Hp->Prop
def cR (X:Cx)(pins:ah)(H:Hp)(b:Addr):Prop:=
 H b=none/\b≠X.env.locals/\b∉X.fs/\(b∈X.ex\/X.s₀.heap.objs.size<=b)/\(∀x c,X.env.cells.lookup x=some c->c≠b)/\∀p∈X.pn++pins,p.1≠b
def Inv.fpOk (I:Inv X pins σ H s)(hb:s.heap.objs.size<=b)(hn:H' b=none):cR X pins H' b:=by
 refine⟨hn,Ju (fc I.lt hb),I.nofs hb,.inr (bv I.sz hb),λx c e z=>?_,λp hp z=>?_⟩
 .obtain⟨v,q⟩:=I.cell x c e;exact absurd (fc q.lt (by rw[z]; exact hb)) (Jo _)
 .exact absurd (fc (bL (I.pin p hp).1) (by rw[z]; exact hb)) (Jo _)
structure Turn (P:Program)(w:World)(K:bn)(tg:Expr)(J:It)(fp:ao)(it:Addr)(tn:Nat->Heap->Prop):Prop where
 mem:it∈fp
 obj:∀i h,tn i h->∀b∈fp,∃o,h.get? b=some o/\∀v,o.data≠.cell v
 keep:∀i h h',tn i h->(∀b∈fp,∀o,h.get? b=some o->h'.get? b=some o)->tn i h'
 item:∀(X:Cx),X.prog=P->X.w=w->X.K=K->X.calm=true->∀(i:Nat) (pins:ah) (s:Shared) (σ:St) (H:Hp) (E:Value->Shared->Prop),Inv X pins σ H s->(∀b∈fp,cR X pins H b)->tn i s.heap->J.go i H ->
  wpAny (model P w) X.A (pyNext (.ref it)) (λr s1=>∃u,r=some u /\
   wpAny (model P w) X.A (letOwnedTupleGo tg (.ref it) u) (λ_ s2=>∃x H',Inv X pins σ H' s2/\RelV x u/\J.yld i H x H'/\tn (i+1) s2.heap/\∀b∈fp,H' b=none) E s1) E s
 done:∀(X:Cx),X.prog=P->X.w=w->X.K=K->X.calm=true->∀(i:Nat) (pins:ah) (s:Shared) (σ:St) (H:Hp) (E:Value->Shared->Prop),Inv X pins σ H s->(∀b∈fp,cR X pins H b)->tn i s.heap->J.stop i H ->
  wpAny (model P w) X.A (pyNext (.ref it)) (λr s1=>r=none/\Inv X pins σ H s1) E s
 self:∀(A:Around) (i:Nat) (s:Shared) (Q:Value->Shared->Prop) (E:Value->Shared->Prop),tn i s.heap->Q (.ref it) s->wpAny (model P w) A (pyIter (.ref it)) Q E s
abbrev TI:=St->Hp->(It->Hp->Prop)->Prop
def vQ (X:Cx)(pins:ah)(σ:St)(tg:Expr)(R:It->Hp->Prop)(itv:Value)(s2:Shared):Prop:=
 ∃(it:Addr) (fp:ao) (tn:Nat->Heap->Prop) (J:It) (H':Hp),itv=.ref it/\Inv X pins σ H' s2/\Turn X.prog X.w X.K tg J fp it tn/\tn 0 s2.heap/\(∀b∈fp,cR X pins H' b)/\R J H'
def PI (X:Cx)(tg iter:Expr)(wi:TI):Prop:=
 ∀(pins:ah) (s:Shared) (σ:St) (H:Hp) (R:It->Hp->Prop),Inv X pins σ H s->wi σ H R ->
  wpAny (model X.prog X.w) X.A (eval iter X.env) (λv s1=>wpAny (model X.prog X.w) X.A (pyIter v) (vQ X pins σ tg R) X.xe s1) X.xe s
def o9 (ho:s.heap.get? it=some o)(hc:o.cls=.type n)(hd:o.data=.fields vs)
    (hn:["enumerate", "zip", "dict_itemiterator", "dict_reverseitemiterator", "odict_iterator", "itertools.zip_longest", "itertools.pairwise"].contains n=false)(hQ:Q () s):wpAny M A (letOwnedTupleGo tg (.ref it) u) Q E s:=by
  unfold letOwnedTupleGo;cases tg <;> first
    | exact be hQ
    | (cases u <;> first
        | exact be hQ
        | (refine aU (wpAny_load ho ?_)
           rw[hc,hd];show wpAny M A (if (["enumerate", "zip", "dict_itemiterator", "dict_reverseitemiterator", "odict_iterator", "itertools.zip_longest", "itertools.pairwise"].contains n&&vs[0]? == some (rawInt _))=true then _ else _) Q E s;rw[if_neg (by intro h; rw[hn,Bool.false_and] at h; cases h)];exact be hQ))
noncomputable def sW (K:bn)(a:Addr):It:=
 ⟨λi H=>∃xs x,SqL K H a xs/\xs[i]? = some x,λi H x H'=>H'=H/\∀xs,SqL K H a xs->xs[i]? = some x,λi H=>∃xs,SqL K H a xs/\xs.length<=i⟩
noncomputable def sX (K:bn)(a:Addr):It:=
 ⟨λi H=>∃xs x,SqT K H a xs/\xs[i]? = some x,λi H x H'=>H'=H/\∀xs,SqT K H a xs->xs[i]? = some x,λi H=>∃xs,SqT K H a xs/\xs.length<=i⟩
noncomputable def kT (lo:Int)(n:Nat):It:=⟨λi _=>i<n,λi H x H'=>H'=H/\x=.int (lo+i),λi _=>n<=i⟩
def Hm {P:Program}{w:World}{K:bn}{tg:Expr}(a it:Addr):Turn P w K tg (sW K a) [it] it (λi h=>h.IsListIter it a i) where
 mem:=by simp
 obj:=λi h st b hb=>by
  have e:b=it:=by simpa using hb
  subst e;obtain⟨o,e,c,d⟩:=st;exact⟨o,e,λv z=>by rw[d] at z; cases z⟩
 keep:=λi h h' st k=>st.at λo e=>k it (by simp) o e
 item:=by
  intro X hP hw hK hc i pins s σ H E I hf st hg;subst hP hw hK;obtain⟨xs,x,hq,hx⟩:=hg;obtain⟨its,rv,p,hz⟩:=I.list hq;obtain⟨u,hu,ru⟩:=rv.get hx;obtain⟨f0,f1,f2,f3,f4,f5⟩:=hf it (by simp);refine wpAny_pyNext_list_item st p.isList (x:=u) (by simpa using hu) λh' st' sb=>?_;have I1:Inv X pins σ H { s with heap:=h' }:=I.turned (t':=s.toks) (λb o hb e=>(sb.2 b hb).trans e) f0 f1 f3 f4 f5;obtain⟨o,e,c,d⟩:=id st';exact⟨u,rfl,o9 (s:={ s with heap:=h' }) e c d (by decide) ⟨x,H,I1,ru,⟨rfl,λys hy=>by rw[I.list_inj hy hq]; exact hx⟩,st',λb hb=>(hf b hb).1⟩⟩
 done:=by
  intro X hP hw hK hc i pins s σ H E I hf st hg;subst hP hw hK;obtain⟨xs,hq,hx⟩:=hg;obtain⟨its,rv,p,hz⟩:=I.list hq;obtain⟨f0,f1,f2,f3,f4,f5⟩:=hf it (by simp);have hl:=rv.length;exact wpAny_pyNext_list_end (I.ok.hd hc) st p.isList (by simp; omega) λh' eb=>⟨rfl,I.turned (t':=s.toks) (λb o hb e=>eb b o hb e) f0 f1 f3 f4 f5⟩
 self:=λ_ _ _ _ _ st h=>wpAny_pyIter_listiter st h
def zr {P:Program}{w:World}{K:bn}{tg:Expr}(a it:Addr):Turn P w K tg (sX K a) [it] it (λi h=>h.IsTupleIter it a i) where
 mem:=by simp
 obj:=λi h st b hb=>by
  have e:b=it:=by simpa using hb
  subst e;obtain⟨o,e,c,d⟩:=st;exact⟨o,e,λv z=>by rw[d] at z; cases z⟩
 keep:=λi h h' st k=>st.at λo e=>k it (by simp) o e
 item:=by
  intro X hP hw hK hc i pins s σ H E I hf st hg;subst hP hw hK;obtain⟨xs,x,hq,hx⟩:=hg;obtain⟨its,rv,p,hz⟩:=I.tuple hq;obtain⟨u,hu,ru⟩:=rv.get hx;obtain⟨f0,f1,f2,f3,f4,f5⟩:=hf it (by simp);refine wpAny_pyNext_tuple_item st (show s.heap.IsTuple a its.toArray from p) (x:=u) (by simpa using hu) λh' st' sb=>?_;have I1:Inv X pins σ H { s with heap:=h' }:=I.turned (t':=s.toks) (λb o hb e=>(sb.2 b hb).trans e) f0 f1 f3 f4 f5;obtain⟨o,e,c,d⟩:=id st';exact⟨u,rfl,o9 (s:={ s with heap:=h' }) e c d (by decide) ⟨x,H,I1,ru,⟨rfl,λys hy=>by rw[I.tuple_inj hy hq]; exact hx⟩,st',λb hb=>(hf b hb).1⟩⟩
 done:=by
  intro X hP hw hK hc i pins s σ H E I hf st hg;subst hP hw hK;obtain⟨xs,hq,hx⟩:=hg;obtain⟨its,rv,p,hz⟩:=I.tuple hq;obtain⟨f0,f1,f2,f3,f4,f5⟩:=hf it (by simp);have hl:=rv.length;exact wpAny_pyNext_tuple_end (I.ok.hd hc) st (show s.heap.IsTuple a its.toArray from p) (by simp; omega) λh' eb=>⟨rfl,I.turned (t':=s.toks) (λb o hb e=>eb b o hb e) f0 f1 f3 f4 f5⟩
 self:=λ_ _ _ _ _ st h=>wpAny_pyIter_tupleiter st h
def z8 {P:Program}{w:World}{K:bn}{tg:Expr}(it:Addr)(lo:Int)(n:Nat):Turn P w K tg (kT lo n) [it] it (λi h=>IsRangeIter h it (lo+(i:Nat) * 1) ((n:Int) - (i:Nat)) 1) where
 mem:=by simp
 obj:=λi h st b hb=>by
  have e:b=it:=by simpa using hb
  subst e;exact⟨_,st,λv z=>by
   have z':Data.fields _=Data.cell v:=z;cases z'⟩
 keep:=λi h h' st k=>k it (by simp) _ st
 item:=by
  intro X hP hw hK hc i pins s σ H E I hf st hg;subst hP hw hK;obtain⟨f0,f1,f2,f3,f4,f5⟩:=hf it (by simp);have W:=Walks.range (prog:=X.prog) (w:=X.w) (I.ok.hd hc) it lo 1 n;refine W.item i s _ _ hg st λv h' tk hv st' kk=>?_;obtain⟨t,rfl⟩:=hv;have I1:Inv X pins σ H { s with heap:=h',toks:=tk }:=I.turned (λb o hb e=>kk b o (by simpa using hb) e) f0 f1 f3 f4 f5;refine⟨_,rfl,o9 (s:={ s with heap:=h',toks:=tk }) (n := "range_iterator") st' rfl rfl (by decide) ⟨.int (lo+i),H,I1,⟨t,?_⟩,⟨rfl,rfl⟩,st',λb hb=>(hf b hb).1⟩⟩;rw[Int.mul_one]
 done:=by
  intro X hP hw hK hc i pins s σ H E I hf st hg;subst hP hw hK;obtain⟨f0,f1,f2,f3,f4,f5⟩:=hf it (by simp);exact wpAny_pyNext_range_end (I.ok.hd hc) st (by have:n<=i:=hg; omega) λh' eb=>⟨rfl,I.turned (t':=s.toks) (λb o hb e=>eb b o hb e) f0 f1 f3 f4 f5⟩
 self:=λ_ _ _ _ _ st h=>wpAny_pyIter_rangeiter st h
end L2
namespace L2
open PySem PySem.Spec PyProof.Rows
section
variable {X:Cx}{tg:Expr}
def mZ (K:bn)(tl:TE):TI:=λσ H R=>tl σ H λx H1=>∃a,x=.ref a/\(∃xs,SqL K H1 a xs)/\R (sW K a) H1
def qK (K:bn)(tl:TE):TI:=λσ H R=>tl σ H λx H1=>∃a,x=.ref a/\(∃xs,SqT K H1 a xs)/\R (sX K a) H1
def Ed {l:Expr}{tl:TE}(hl:PE X l tl):PI X tg l (mZ X.K tl):=by
 intro pins s σ H R I h;refine bg (hl pins s σ H _ I h) λv s1 hZz=>?_;obtain⟨x,H1,I1,r1,q1⟩:=hZz;obtain⟨a,e,⟨xs,hq⟩,q⟩:=q1;subst e;cases r1;obtain⟨its,rv,p,hz⟩:=I1.list hq;refine Kk p.isList ?_;refine⟨s1.heap.objs.size,[s1.heap.objs.size],_,_,H1,rfl,I1.kept (t':=s1.toks) λb o e=>bR _ e,Hm a _,⟨_,c9 _ rfl,rfl,rfl⟩,λb hb=>?_,q⟩;have e:b=s1.heap.objs.size:=by simpa using hb
 subst e;exact I1.fpOk (bC _) (I1.hok.fresh (bC _))
def Cs {l:Expr}{tl:TE}(hl:PE X l tl):PI X tg l (qK X.K tl):=by
 intro pins s σ H R I h;refine bg (hl pins s σ H _ I h) λv s1 hZz=>?_;obtain⟨x,H1,I1,r1,q1⟩:=hZz;obtain⟨a,e,⟨xs,hq⟩,q⟩:=q1;subst e;cases r1;obtain⟨its,rv,p,hz⟩:=I1.tuple hq;refine KY (show s1.heap.IsTuple a its.toArray from p) ?_;refine⟨s1.heap.objs.size,[s1.heap.objs.size],_,_,H1,rfl,I1.kept (t':=s1.toks) λb o e=>bR _ e,zr a _,⟨_,c9 _ rfl,rfl,rfl⟩,λb hb=>?_,q⟩;have e:b=s1.heap.objs.size:=by simpa using hb
 subst e;exact I1.fpOk (bC _) (I1.hok.fresh (bC _))
def xM {pins:ah}{σ:St}{H:Hp}{s:Shared}{R:It->Hp->Prop}{E:Value->Shared->Prop}{lo hi:Int}{t u v:Tok}{tk:Nat}(I:Inv X pins σ H s)(h1 : -(2 ^ 62)<=lo)(h2:lo<2 ^ 62)(h3 : -(2 ^ 62)<=hi)(h4:hi<2 ^ 62)
  (q:R (kT lo (hi - lo).toNat) H):wpAny (model X.prog X.w) X.A (pyIter (.ref s.heap.objs.size)) (vQ X pins σ tg R) E { s with heap:=s.heap.push { cls:=.type "range",data:=.fields #[.int lo t,.int hi u,.int 1 v] },toks:=tk }:=by
 refine wpAny_pyIter_range (IsRange.new ..) (small_one h1 h2 h3 h4) ?_;have I1:Inv X pins σ H { s with heap:=s.heap.push { cls:=.type "range",data:=.fields #[.int lo t,.int hi u,.int 1 v] },toks:=tk }:=I.kept λb o e=>bR _ e;refine⟨(s.heap.push { cls:=.type "range",data:=.fields #[.int lo t,.int hi u,.int 1 v] }).objs.size,[(s.heap.push { cls:=.type "range",data:=.fields #[.int lo t,.int hi u,.int 1 v] }).objs.size],_,_,H,rfl,
  I1.kept (t':=tk) λb o e=>bR _ e,z8 _ lo (hi - lo).toNat,?_,λb hb=>?_,q⟩
 .have e1:lo+((0:Nat):Int) * 1=lo:=by simp
  have e2:(((hi - lo).toNat:Nat):Int) - ((0:Nat):Int)=Builtin.Range.rangeSize lo hi 1:=by rw[rangeSize_one]; split <;> omega
  show IsRangeIter _ _ (lo+((0:Nat):Int) * 1) ((((hi - lo).toNat:Nat):Int) - ((0:Nat):Int)) 1;rw[e1,e2];exact c9 _ rfl
 .have e:b=(s.heap.push { cls:=.type "range",data:=.fields #[.int lo t,.int hi u,.int 1 v] }).objs.size:=by simpa using hb
  subst e;exact I1.fpOk (bC _) (I1.hok.fresh (bC _))
def l6 (ta:TA):TI:=λσ H R=>ta σ H λvs H1=>∃j:Int,vs=[.int j] /\ -(2 ^ 62)<=j/\j<2 ^ 62/\R (kT 0 j.toNat) H1
def mV (ta:TA):TI:=λσ H R=>ta σ H λvs H1=>∃i j:Int,vs=[.int i,.int j]/\(-(2 ^ 62)<=i/\i<2 ^ 62 /\ -(2 ^ 62)<=j/\j<2 ^ 62)/\R (kT i (j - i).toNat) H1
def Hx {a:Expr}{ta:TA}{p pos:Pos}(hg:Gl X "range")(hm:X.mg "range" = none)(ha:PA X [a] ta)(hs:starEach [a] X.env=[(false,eval a X.env)]:=by rfl):PI X tg (.Call (.Name "range" p) [a] [] pos) (l6 ta):=by
 intro pins s σ H R I h;refine Call_ (gB I hg hm boot_range (Ih (bg (ha pos pins s σ H _ I h) λus s1 hZz=>?_) hs rfl));obtain⟨vs,H1,I1,r1,q1⟩:=hZz;obtain⟨j,e,q1,q2,q⟩:=q1;subst e;cases r1 with
 | cons r rr=>
  cases rr;obtain⟨t,rfl⟩:=r;exact call_range_1 (xM I1 (by omega) (by omega) q1 q2 (by simpa using q))
def G7 (hg:Gl X "range")(hm:X.mg "range" = none)(ha:PA X [a,b] ta)(hs:starEach [a,b] X.env=[(false,eval a X.env),(false,eval b X.env)]:=by rfl)(hs2:starEach [b] X.env=[(false,eval b X.env)]:=by rfl) :
  PI X tg (.Call (.Name "range" p) [a,b] [] pos) (mV ta):=by
 intro pins s σ H R I h;refine Call_ (gB I hg hm boot_range (Ih (bg (ha pos pins s σ H _ I h) λus s1 hZz=>?_) (by rw[hs,hs2]) (by rw[hs2]; rfl)));obtain⟨vs,H1,I1,r1,q1⟩:=hZz;obtain⟨i,j,e,⟨q1,q2,q3,q4⟩,q⟩:=q1;subst e;cases r1 with
 | cons r rr=>
  cases rr with
  | cons r' rr=>
   cases rr;obtain⟨t,rfl⟩:=r;obtain⟨t',rfl⟩:=r';exact call_range_2 (xM I1 q1 q2 q3 q4 q)
def jE (wi:TI)(g:TG)(tb:TS):TS:=λD σ H=>wi σ H λJ H1=>∃W:Nat->Nat->St->Hp->Prop,(∃m,W 0 m σ H1)/\∀i m σ H,W i m σ H ->
 (J.stop i H/\D.nx σ H)\/(J.go i H/\∃N:St->Hp->Prop,(∀σ' H',N σ' H'->∃m',m'<m/\W (i+1) m' σ' H')/\∀x H',J.yld i H x H'->g x σ H' λσ2 H2=>tb { D with nx:=N,ct:=N,bk:=D.nx } σ2 H2)
noncomputable def da (fp:ao)(h:Heap):ah:=fp.filterMap λb=>(h.get? b).map λo=>(b,o)
def kL (hb:b∈fp)(e:h.get? b=some o):(b,o)∈da fp h:=Kd.mpr ⟨b,hb,by rw[e]; rfl⟩
def C8 (hp:p∈da fp h):p.1∈fp/\h.get? p.1=some p.2:=by
 obtain⟨b,hb,e⟩:=Kd.mp hp;cases q:h.get? b with
 | none=>rw[q] at e; cases e
 | some o=>
  rw[q] at e;have e':(b,o)=p:=cQ e;subst e';exact⟨hb,q⟩
def Inv.pinned (I:Inv X pins σ H s)(hf:∀b∈fp,cR X pins H b)(ho:∀b∈fp,∃o,s.heap.get? b=some o/\∀v,o.data≠.cell v):Inv X (pins++da fp s.heap) σ H s:=
 I.pins_of λp hp=>(cO hp).elim (λz=>I.pin p (cH _ z)) λz=>by
  obtain⟨hb,e⟩:=C8 z;obtain⟨f0,f1,f2,_⟩:=hf p.1 hb;obtain⟨o,e',d⟩:=ho p.1 hb;rw[e] at e'; cases e';exact⟨e,f0,f1,f2,d⟩
def Inv.unpinned (I:Inv X (pins++pl) σ H s):Inv X pins σ H s:=I.pins_of λp hp=>I.pin p (cH _ (eY _ hp))
def BG (hp:PassesOwn (model X.prog X.w) X.A X.env X.xe)(hc:X.calm=true)(hi:PI X tg iter wi)(hg:PG X tg g)(hb:PSs X body tb)
  (hs:∀x,foldedSetIterable iter X.env x=pure x:=by intro _; rfl):PS X (.For tg iter body [] pos) (jE wi g tb):=by
 intro pins s σ H D I h;refine wpAny_For (bg (hi pins s σ H _ I h) λv s1 h1=>bg h1 λitv s2 h2=>?_) hs;obtain⟨it,fp,tn,J,H2,e,I2,T,st2,f2,W,⟨m0,w0⟩,turn⟩:=h2;subst e;have stat:∀{H':Hp},(∀b∈fp,H' b=none)->∀b∈fp,cR X pins H' b:=λhn b hb=>⟨hn b hb,(f2 b hb).2⟩
 refine codeAny_forLoop_any (λn s'=>∃i σ' H',Inv X pins σ' H' s'/\tn i s'.heap/\(∀b∈fp,H' b=none)/\W i n σ' H') ?_ m0 ⟨0,σ,H2,I2,st2,λb hb=>(f2 b hb).1,w0⟩;rintro n s3 ⟨i,σ3,H3,I3,st3,fr3,w3⟩;rcases turn i n σ3 H3 w3 with ⟨stop,qn⟩ | ⟨go,N,hN,step⟩
 .refine Jt hp (bg (T.done X rfl rfl rfl hc i pins s3 σ3 H3 X.xe I3 (stat fr3) st3 stop) λr s4 hZz=>?_);obtain⟨hr,I4⟩:=hZz;subst hr;exact wpAny_execs_nil ⟨σ3,H3,I4,qn⟩
 .refine Jt hp (bg (T.item X rfl rfl rfl hc i pins s3 σ3 H3 X.xe I3 (stat fr3) st3 go) λr s4 hZz=>?_);obtain⟨u,hr,h4⟩:=hZz;subst hr;refine Jt hp (bg h4 λ_ s5 hZz=>?_);obtain⟨x,H5,I5,r5,y5,st5,fr5⟩:=hZz;have I5':=I5.pinned (stat fr5) (T.obj _ _ st5);refine Jt hp (bg (hg _ s5 σ3 H5 x u _ I5' r5 (step x H5 y5)) λ_ s6 hZz=>?_);obtain⟨σ6,H6,I6,q6⟩:=hZz;refine Jt hp (bg (hb _ s6 σ6 H6 _ I6 q6) λf s7 q7=>?_);have again:∀{σ7:St} {H7:Hp},Inv X (pins++da fp s5.heap) σ7 H7 s7->N σ7 H7->∃m,m<n/\∃i σ' H',Inv X pins σ' H' s7/\tn i s7.heap/\(∀b∈fp,H' b=none)/\W i m σ' H':=λ{σ7 H7} I7 n7=>by
   obtain⟨m',hm,w7⟩:=hN σ7 H7 n7;refine⟨m',hm,i+1,σ7,H7,I7.unpinned,T.keep _ _ _ st5 λb hb o e=>(I7.pin (b,o) (cH _ (cH _ (kL hb e)))).1,λb hb=>?_,w7⟩;obtain⟨o,e,d⟩:=T.obj _ _ st5 b hb;exact (I7.pin (b,o) (cH _ (cH _ (kL hb e)))).2.1
  cases f with
  | next=>obtain⟨σ7,H7,I7,n7⟩:=q7; exact again I7 n7
  | cont=>obtain⟨σ7,H7,I7,n7⟩:=q7; exact again I7 n7
  | brk=>obtain⟨σ7,H7,I7,q7⟩:=q7; exact⟨σ7,H7,I7.unpinned,q7⟩
  | ret v=>obtain⟨x7,σ7,H7,I7,r7,q7⟩:=q7; exact⟨x7,σ7,H7,I7.unpinned,r7,q7⟩
end
end L2
namespace L2
open PySem PySem.Spec PyProof.Rows
abbrev R2:=V->V->Hp->VK->Prop
def OpR (X:Cx)(f:Value->Value->Sem Value)(r:R2):Prop:=
 ∀(pins:ah) (s:Shared) (σ:St) (H:Hp) (x y:V) (v u:Value) (Q:VK),Inv X pins σ H s->RelV x v->RelV y u->r x y H Q ->
  wpAny (model X.prog X.w) X.A (f v u) (EP X pins σ Q) X.xe s
def qB (X:Cx)(f:Value->Sem Value)(r:V->Hp->VK->Prop):Prop:=
 ∀(pins:ah) (s:Shared) (σ:St) (H:Hp) (x:V) (v:Value) (Q:VK),Inv X pins σ H s->RelV x v->r x H Q ->
  wpAny (model X.prog X.w) X.A (f v) (EP X pins σ Q) X.xe s
def CallR (X:Cx)(f:Value)(r:av->Hp->VK->Prop):Prop:=
 ∀(pins:ah) (s:Shared) (σ:St) (H:Hp) (xs:av) (us:aq) (Q:VK),Inv X pins σ H s->Vals xs us->r xs H Q ->
  wpAny (model X.prog X.w) X.A (call f us) (EP X pins σ Q) X.xe s
def lL (r:R2)(ta tb:TE):TE:=λσ H Q=>ta σ H λx H1=>tb σ H1 λy H2=>r x y H2 Q
def tE (r:V->Hp->VK->Prop)(ta:TE):TE:=λσ H Q=>ta σ H λx H1=>r x H1 Q
def rI (C:Int->Int->Prop)(g:Int->Int->V):R2:=λx y H Q=>∃i j,x=.int i/\y=.int j/\C i j/\Q (g i j) H
def i5 (g:Int->Int->V):R2:=λx y H Q=>∃i j,x=.int i/\y=.int j/\Q (g i j) H
def rU (g:Int->V):V->Hp->VK->Prop:=λx H Q=>∃i,x=.int i/\Q (g i) H
section
variable {X:Cx}{a b c:Expr}{ta tb tc:TE}{pos:Pos}
def jI (ha:PE X a ta)(hb:PE X b tb){pins:ah}{s:Shared}{σ:St}{H:Hp}{R:V->V->Hp->Prop}(I:Inv X pins σ H s)
  (h:ta σ H λx H1=>tb σ H1 λy H2=>R x y H2){Q:Value->Shared->Prop}{f:Value->Value->Sem Value}
  (hf:∀v u s2 x y H2,Inv X pins σ H2 s2->RelV x v->RelV y u->R x y H2->wpAny (model X.prog X.w) X.A (f v u) Q X.xe s2) :
  wpAny (model X.prog X.w) X.A (eval a X.env) (λv s₁=>wpAny (model X.prog X.w) X.A (eval b X.env) (λu s₂=>wpAny (model X.prog X.w) X.A (f v u) Q X.xe s₂) X.xe s₁) X.xe s:=by
 refine bg (ha pins s σ H _ I h) λv s1 hZz=>?_;obtain⟨x,H1,I1,r1,q1⟩:=hZz;refine bg (hb pins s1 σ H1 _ I1 q1) λu s2 hZz=>?_;obtain⟨y,H2,I2,r2,q2⟩:=hZz;exact hf v u s2 x y H2 I2 r1 r2 q2
def kP {op:Operator}{r:R2}(ho:OpR X (binaryOp op) r)(ha:PE X a ta)(hb:PE X b tb):PE X (.BinOp a op b pos) (lL r ta tb):=by
 intro pins s σ H Q I h;exact wpAny_BinOp (jI ha hb I h λv u s2 x y H2 I2 rx ry q=>ho pins s2 σ H2 x y v u Q I2 rx ry q)
def wf (ho:qB X (unaryOp op) r)(ha:PE X a ta):PE X (.UnaryOp op a pos) (tE r ta):=by
 intro pins s σ H Q I h;exact UnaryOp_ (bg (ha pins s σ H _ I h) λv s1 ⟨x,H1,I1,r1,q1⟩=>ho pins s1 σ H1 x v Q I1 r1 q1)
def pj {f:Value->Value->Sem Value}{C:Int->Int->Prop}{g:Int->Int->Int}
  (rule:∀(i j:Int) (t u:Tok) (s:Shared) (Q:Value->Shared->Prop) (E:Value->Shared->Prop),C i j->Q (.int (g i j) s.toks) { s with toks:=s.toks+1 }->wpAny (model X.prog X.w) X.A (f (.int i t) (.int j u)) Q E s) :
  OpR X f (rI C λi j=>.int (g i j)):=by
 intro pins s σ H x y v u Q I rx ry h;obtain⟨i,j,rfl,rfl,hc,q⟩:=h;obtain⟨t,rfl⟩:=rx;obtain⟨t',rfl⟩:=ry;exact rule i j t t' s _ _ hc ⟨.int (g i j),H,I.tok _,⟨_,rfl⟩,q⟩
def nL {f:Value->Value->Sem Value}{g:Int->Int->Int}
  (rule:∀(i j:Int) (t u:Tok) (s:Shared) (Q:Value->Shared->Prop) (E:Value->Shared->Prop),Q (.int (g i j) s.toks) { s with toks:=s.toks+1 }->wpAny (model X.prog X.w) X.A (f (.int i t) (.int j u)) Q E s) :
  OpR X f (i5 λi j=>.int (g i j)):=by
 intro pins s σ H x y v u Q I rx ry h;obtain⟨i,j,rfl,rfl,q⟩:=h;obtain⟨t,rfl⟩:=rx;obtain⟨t',rfl⟩:=ry;exact rule i j t t' s _ _ ⟨.int (g i j),H,I.tok _,⟨_,rfl⟩,q⟩
def gY {f:Value->Value->Sem Value}{g:Int->Int->Bool}
  (rule:∀(i j:Int) (t u:Tok) (s:Shared) (Q:Value->Shared->Prop) (E:Value->Shared->Prop),Q (.bool (g i j)) s->wpAny (model X.prog X.w) X.A (f (.int i t) (.int j u)) Q E s) :
  OpR X f (i5 λi j=>.bl (g i j)):=by
 intro pins s σ H x y v u Q I rx ry h;obtain⟨i,j,rfl,rfl,q⟩:=h;obtain⟨t,rfl⟩:=rx;obtain⟨t',rfl⟩:=ry;exact rule i j t t' s _ _ ⟨.bl (g i j),H,I,rfl,q⟩
def uo (i j:Int):Prop:=0<=j/\j<=1000000/\i.natAbs<2 ^ 64
def CMul (i j:Int):Prop:=(-(2 ^ 64)<i/\i<2 ^ 64)\/(-(2 ^ 64)<j/\j<2 ^ 64)
def CMul.ok (h:CMul i j):IntMulOk i j:=by
 rcases h with ⟨h1,h2⟩ | ⟨h1,h2⟩
 .exact .of_left (intBits_le_64 h1 h2)
 .exact .of_right (intBits_le_64 h1 h2)
def Dm:OpR X (binaryOp .Add) (i5 λi j=>.int (i+j)):=nL λ_ _ _ _ _ _ _ q=>add_int q
def zO:OpR X (binaryOp .Sub) (i5 λi j=>.int (i - j)):=nL λ_ _ _ _ _ _ _ q=>sub_int q
def Gn:OpR X (binaryOp .Mult) (rI CMul λi j=>.int (i * j)):=pj λ_ _ _ _ _ _ _ hc q=>mul_int q hc.ok
def AU:OpR X (binaryOp .Mod) (rI (λ_ j=>0<j) λi j=>.int (i % j)):=pj λi j _ _ _ _ _ hc q=>by
 have h1:(0:Int)<j:=hc;exact mod_int' (by omega) (by rw[Int.fmod_eq_emod_of_nonneg i (by omega)]; exact q)
def Fk:OpR X (binaryOp .Pow) (rI uo λi j=>.int (i ^ j.toNat)):=pj λ_ _ _ _ _ _ _ hc q=>pow_int_small hc.1 hc.2.1 hc.2.2 q
def EN {f:Value->Sem Value}{g:Int->Int}
  (rule:∀(i:Int) (t:Tok) (s:Shared) (Q:Value->Shared->Prop) (E:Value->Shared->Prop),Q (.int (g i) s.toks) { s with toks:=s.toks+1 }->wpAny (model X.prog X.w) X.A (f (.int i t)) Q E s) :
  qB X f (rU λi=>.int (g i)):=by
 intro pins s σ H x v Q I rx h;obtain⟨i,rfl,q⟩:=h;obtain⟨t,rfl⟩:=rx;exact rule i t s _ _ ⟨.int (g i),H,I.tok _,⟨_,rfl⟩,q⟩
def yg:qB X (unaryOp .USub) (rU λi=>.int (-i)):=EN λ_ _ _ _ _ q=>neg_int q
end
noncomputable def scal:V->V->Bool
 | .non,.non=>true | .non,.int _=>true | .int _,.non=>true | .non,.bl _=>true | .bl _,.non=>true | .non,.str _=>true | .str _,.non=>true
 | .int _,.int _=>true | .bl _,.bl _=>true | .str _,.str _=>true | .byt _,.byt _=>true
 | .int _,.str _=>true | .str _,.int _=>true | .bl _,.str _=>true | .str _,.bl _=>true
 | _,_=>false
section
variable {X:Cx}{a b c:Expr}{ta tb tc:TE}{pos:Pos}
def DS:OpR X (compareOp .Lt) (i5 λi j=>.bl (decide (i<j))):=gY λ_ _ _ _ _ _ _ q=>lt_int q
def CS:OpR X (compareOp .LtE) (i5 λi j=>.bl (decide (i<=j))):=gY λ_ _ _ _ _ _ _ q=>le_int q
def CH:OpR X (compareOp .Gt) (i5 λi j=>.bl (decide (j<i))):=gY λ_ _ _ _ _ _ _ q=>gt_int q
def C5:OpR X (compareOp .GtE) (i5 λi j=>.bl (decide (j<=i))):=gY λ_ _ _ _ _ _ _ q=>ge_int q
def OpR.or (h:OpR X f r)(h':OpR X f r'):OpR X f (λx y H Q=>r x y H Q\/r' x y H Q):=by
 intro pins s σ H x y v u Q I rx ry q;rcases q with q | q
 .exact h pins s σ H x y v u Q I rx ry q
 .exact h' pins s σ H x y v u Q I rx ry q
def jW (b:Expr)(h:op≠.In:=by decide)(h2:op≠.NotIn:=by decide):behindInMarks op b=false:=by
 have e1:(op == CmpOp.In)=false:=by cases op <;> first | rfl | exact absurd rfl h
 have e2:(op == CmpOp.NotIn)=false:=by cases op <;> first | rfl | exact absurd rfl h2
 cases b <;> simp[behindInMarks,e1,e2]
def zX {op:CmpOp}{r:R2}(ho:OpR X (compareOp op) r)(ha:PE X a ta)(hb:PE X b tb)(hm:behindInMarks op b=false):PE X (.Compare a [op] [b] pos) (lL r ta tb):=by
 intro pins s σ H Q I h;exact wpAny_Compare1 (jI ha hb I h λv u s2 x y H2 I2 rx ry q=>ho pins s2 σ H2 x y v u Q I2 rx ry q) hm
def iS (t:TE):TT:=λσ H Q=>t σ H λx H'=>∃k,x=.bl k/\Q k H'
def zz (ho:OpR X (compareOp op) r)(ha:PE X a ta)(hb:PE X b tb)(hm:behindInMarks op b=false):PT X (.Compare a [op] [b] pos) (iS (lL r ta tb)):=by
 intro pins s σ H Q I h;refine wpAny_isTrue_Compare1 (bg (ha pins s σ H _ I h) λv s1 ⟨x,H1,I1,r1,q1⟩=>bg (hb pins s1 σ H1 _ I1 q1) λu s2 ⟨y,H2,I2,r2,q2⟩=>
  bg (ho pins s2 σ H2 x y v u _ I2 r1 r2 q2) λc s3 ⟨z,H3,I3,r3,k,e,q3⟩=>?_) hm
 subst e;cases r3;exact IC ⟨H3,I3,q3⟩
def en (r r':R2)(ta tb tc:TE):TE:=λσ H Q=>ta σ H λx H1=>tb σ H1 λy H2=>r x y H2 λz H3=>∃k,z=.bl k /\
 (if k=true then tc σ H3 λw' H4=>r' y w' H4 Q else Q (.bl false) H3)
def GN (ho:OpR X (compareOp op) r)(ho':OpR X (compareOp op') r')(ha:PE X a ta)(hb:PE X b tb)(hc:PE X c tc)
  (hm:lastMarks [op,op'] [b,c]=false:=by with_unfolding_all rfl):PE X (.Compare a [op,op'] [b,c] pos) (en r r' ta tb tc):=by
 intro pins s σ H Q I h;refine Compare_chain (bg (ha pins s σ H _ I h) λv s1 ⟨x,H1,I1,r1,q1⟩=>chain_link (bg (hb pins s1 σ H1 _ I1 q1) λu s2 ⟨y,H2,I2,r2,q2⟩=>
  bg (ho pins s2 σ H2 x y v u _ I2 r1 r2 q2) λd s3 ⟨z,H3,I3,r3,k,e,q3⟩=>?_)) hm
 subst e;cases r3;refine IC ?_;cases k with
 | false=>exact ite_ff ⟨.bl false,H3,I3,rfl,q3⟩
 | true=>exact ite_tt (chain_last (bg (hc pins s3 σ H3 _ I3 q3) λw' s4 ⟨z',H4,I4,r4,q4⟩=>ho' pins s4 σ H4 y z' u w' Q I4 r2 r4 q4))
def Fg (ho:OpR X (compareOp op) r)(ho':OpR X (compareOp op') r')(ha:PE X a ta)(hb:PE X b tb)(hc:PE X c tc)
  (hm:lastMarks [op,op'] [b,c]=false:=by with_unfolding_all rfl):PT X (.Compare a [op,op'] [b,c] pos) (iS (en r r' ta tb tc)):=by
 intro pins s σ H Q I h;refine isTrue_chain (bg (ha pins s σ H _ I h) λv s1 ⟨x,H1,I1,r1,q1⟩=>test_link (bg (hb pins s1 σ H1 _ I1 q1) λu s2 ⟨y,H2,I2,r2,q2⟩=>
  bg (ho pins s2 σ H2 x y v u _ I2 r1 r2 q2) λd s3 ⟨z,H3,I3,r3,k,e,q3⟩=>?_)) hm
 subst e;cases r3;refine IC ?_;cases k with
 | false=>
  obtain⟨k',e',q'⟩:=q3;cases e';exact ite_ff ⟨H3,I3,q'⟩
 | true=>
  refine ite_tt (test_last (bg (hc pins s3 σ H3 _ I3 q3) λw' s4 ⟨z',H4,I4,r4,q4⟩=>bg (ho' pins s4 σ H4 y z' u w' _ I4 r2 r4 q4) λd' s5 hZz=>?_));obtain⟨z2,H5,I5,r5,k2,e2,q5⟩:=hZz;subst e2;cases r5;exact IC ⟨H5,I5,q5⟩
def d9:(sizeLine:Nat)<2 ^ 63:=by rw[Jv]; decide
def vals1 (r:Vals [x] us):∃u,us=[u]/\RelV x u:=by
 cases r with
 | cons r1 r2=>cases r2; exact⟨_,rfl,r1⟩
def vals2 (r:Vals [x,y] us):∃u w',us=[u,w']/\RelV x u/\RelV y w':=by
 cases r with
 | cons r1 r2=>
  cases r2 with
  | cons r3 r4=>cases r4; exact⟨_,_,rfl,r1,r3⟩
def zQ (hc:X.calm=true):CallR X (.builtin "max") (λxs H Q=>∃i j,xs=[.int i,.int j]/\Q (.int (if j > i then j else i)) H):=by
 intro pins s σ H xs us Q I r h;obtain⟨i,j,rfl,q⟩:=h;obtain⟨u,w',rfl,⟨t,rfl⟩,⟨t',rfl⟩⟩:=vals2 r;refine max_two_ints (I.ok.hd hc) λh' tk k=>⟨_,H,I.kept k,?_,q⟩
 by_cases hj:j > i
 .rw[if_pos hj,if_pos hj]; exact⟨_,rfl⟩
 .rw[if_neg hj,if_neg hj]; exact⟨_,rfl⟩
def Ft:CallR X (.type "int") (λxs H Q=>(∃i,xs=[.int i]/\Q (.int i) H)\/∃k,xs=[.bl k]/\Q (.int (if k then 1 else 0)) H):=by
 intro pins s σ H xs us Q I r h;rcases h with ⟨i,rfl,q⟩ | ⟨k,rfl,q⟩
 .obtain⟨u,rfl,t,rfl⟩:=vals1 r;exact call_int_int ⟨.int i,H,I,⟨_,rfl⟩,q⟩
 .obtain⟨u,rfl,r1⟩:=vals1 r;cases r1;exact call_int_bool ⟨.int (if k then 1 else 0),H,I.tok _,⟨_,rfl⟩,q⟩
end
end L2
namespace L2
open PySem PySem.Spec PyProof.Rows
structure ObjM (h:Heap)(x dx C:Addr)(mA:Str->aA):Prop where
 obj:h.get? x=some (PySem.W.instObj C dx)
 ns:h.Ns1 dx mA
 ne:dx≠x
def Bk {h:Heap}{dx:Addr}{mA:Str->aA}(n:h.Ns1 dx mA):∃od,h.get? dx=some od/\∀name,PySem.W.lookIn name od=some (mA name):=by
 obtain⟨o,es,ep,ho,hd,hk,_,hm⟩:=n;refine⟨o,ho,λname=>?_⟩;have e:=hm name;unfold nsFind findBy at e;rw[<-Array.find?_toList] at e;unfold PySem.W.lookIn;rw[hd];dsimp only;split
 .rename_i y q;rw[q] at e;exact congrArg some e
 .rename_i q;rw[q] at e;have a:es.toList.any (·.refKey)=false:=by
   rw[List.any_eq_false];intro y hy;obtain⟨z,t,hkey⟩:=hk y (Array.mem_toList_iff.mp hy);simp[DictEntry.refKey,hkey]
  have a':¬es.toList.any (·.refKey)=true:=by rw[a]; exact Im
  rw[if_neg a'];exact congrArg some e
def ObjM.look (I:ObjM h x dx C mA):∃od,PySem.W.InstAt h x (PySem.W.instObj C dx) C (some od)/\∀name,PySem.W.lookIn name od=some (mA name):=
 let ⟨od,ho,hl⟩:=Bk I.ns
 ⟨od,⟨I.obj,rfl,rfl,ho⟩,hl⟩
section
variable {prog:Program}{w:World}{A:Around}{E:Value->Shared->Prop}{s:Shared}{K:bn}{x dx C f:Addr}{mA:Str->aA}{name:Str}{v:Value}
def EQ (X:K.In s.heap)(I:ObjM s.heap x dx C mA)(hg:PySem.W.plainGet K C name=true)(hh:PySem.W.hasDictIn K C=true)
  (ha:PySem.W.findIn K (.ref C) name=some none)(hv:mA name=some v)(hv':PySem.W.handedIn v=true)(h:Q v { s with toks:=s.toks+1 }) :
  wpAny (model prog w) A (getAttr (.ref x) name expr) Q E s:=by
 obtain⟨od,J,hl⟩:=I.look;exact PySem.W.get_value X J (KR hg).1 (PySem.W.findObj_own hh ha rfl (by rw[hl,hv])) hv' h
def Dw (X:K.In s.heap)(I:ObjM s.heap x dx C mA)(hg:PySem.W.plainGet K C name=true)
  (hf:PySem.W.findIn K (.ref C) name=some (some (.ref f)))(ht:PySem.W.isFn K (.ref f)=true)(hv:mA name=none)(h:Q (.ref f,[.ref x]) s) :
  wpAny (model prog w) A (getMethod (.ref x) name pl) Q E s:=by
 obtain⟨od,J,hl⟩:=I.look;exact PySem.W.method_fn X J (KR hg).1 (KR hg).2 hf (HU.mp ht) (by show (PySem.W.lookIn name od).map (·.isSome)=some false; rw[hl,hv]; rfl) h
def Bo (X:K.In s.heap)(I:ObjM s.heap x dx C mA)
  (hs:PySem.W.findIn K (.ref C) "__setattr__" = some (some (.builtin "object.__setattr__")))(hp:PySem.W.plainOver K C=true)(ht:PySem.W.takerIn K C name=some none)(hh:PySem.W.hasDictIn K C=true)
  (hw:PySem.Within mA ns)(hsz:ns.length<=sizeLine)
  (h:∀h',ObjM h' x dx C (λy=>if y=name then some v else mA y)->Heap.SameBut dx s.heap h'->Q () { s with heap:=h',toks:=s.toks+2 }) :
  wpAny (model prog w) A (setAttr (.ref x) name v) Q E s:=by
 obtain⟨od,J,hl⟩:=I.look;refine PySem.W.set_plain X J hs (PySem.W.osa_open (s:={ s with toks:=s.toks+1 }) (r:=none) X J hp ht λb=>?_);obtain⟨cd,hc,hd'⟩:=PySem.W.any_some hh;have hx:s.heap.get? x=some ⟨.ref C,some dx,.plain,#[]⟩:=I.obj;refine aU (be (aU (aU (wpAny_loadPart hx (aU (PySem.W.Looks.here (s:={ s with toks:=s.toks+1 }) (PySem.W.looks_clsIn X hc) ?_))))));rw[hd'];refine be (a:=some dx) (aU (be (aU ?_)));refine wpAny_nsSet1 (s:={ s with toks:=s.toks+1 }) I.ns λh' hn2 hs2=>?_;obtain⟨oD,esD,epD,hoD,hdD,hcD⟩:=hn2.count (PySem.Within.cons name v hw);refine aU (wpAny_lookBehind hoD (by rw[hdD]; exact pastItsLine_dict (bv hcD (by rw[List.length_cons]; omega))) ?_);exact be (h _ ⟨(hs2.2 _ (JG I.ne)).trans I.obj,hn2,I.ne⟩ hs2)
def Gu (X:K.In s.heap)(hm:PySem.W.makesIn K C=true)
  (hi:PySem.W.findIn K (.ref C) "__init__" = some (some (.ref f)))(hf:PySem.W.typeIn K (.ref f)=some (.type "function"))
  (h:codeAny (model prog w) (A.under (.builtin "type.__call__" ⟨.ref C::vs,kw⟩)) (.call (.ref f) ⟨.ref (s.heap.objs.size+1)::vs,kw⟩) (PySem.W.InitBack (s.heap.objs.size+1) R)
   { s with heap:=(s.heap.push PySem.W.emptyDict).push (PySem.W.instObj C s.heap.objs.size) }) :
  codeAny (model prog w) A (.call (.ref C) ⟨vs,kw⟩) R s:=by
 obtain⟨hh,g,d,t,os⟩:=s;exact PySem.W.make_core (PySem.W.makes_of X hm) (PySem.W.looks_findIn X hi) (λself=>PySem.W.bind_fn X self hf) (.inl rfl) h
end
noncomputable def putF (f:Str)(v:V):List (Str×V)->List (Str×V)
 | []=>[(f,v)]
 | (g,x)::r=>if g=f then (g,v)::r else (g,x)::putF f v r
theorem vy (f g:Str)(v:V):∀fs:List (Str×V),(putF f v fs).lookup g=if g=f then some v else fs.lookup g
 | []=>by
  show List.lookup g [(f,v)]=_;by_cases h:g=f
  .have hb:(g == f)=true:=HU.mpr h;simp only[List.lookup,hb,if_pos h]
  .have hb:(g == f)=false:=Jb.mpr h;simp only[List.lookup,hb,if_neg h]
 | (k,x)::r=>by
  have ih:=vy f g v r;rw[show putF f v ((k,x)::r)=(if k=f then (k,v)::r else (k,x)::putF f v r) from rfl];by_cases hk:k=f
  .rw[if_pos hk];by_cases h:g=k
   .have hb:(g == k)=true:=HU.mpr h;simp only[List.lookup,hb,if_pos (h.trans hk)]
   .have hb:(g == k)=false:=Jb.mpr h;simp only[List.lookup,hb,if_neg (λe:g=f=>h (e.trans hk.symm))]
  .rw[if_neg hk];by_cases h:g=k
   .have hb:(g == k)=true:=HU.mpr h;simp only[List.lookup,hb,if_neg (λe:g=f=>hk (h.symm.trans e))]
   .have hb:(g == k)=false:=Jb.mpr h;simp only[List.lookup,hb];exact ih
theorem p0 (f:Str)(v:V):∀fs:List (Str×V),f∈(putF f v fs).map (·.1)/\∀g,g∈fs.map (·.1)->g∈(putF f v fs).map (·.1)
 | []=>⟨by simp[putF],λg h=>by simp at h⟩
 | (k,x)::r=>by
  obtain⟨i1,i2⟩:=p0 f v r;rw[show putF f v ((k,x)::r)=(if k=f then (k,v)::r else (k,x)::putF f v r) from rfl];by_cases hk:k=f
  .rw[if_pos hk];subst hk;exact⟨by simp,λg h=>by simpa using h⟩
  .rw[if_neg hk];refine⟨?_,λg h=>?_⟩
   .rw[HQ];exact bM _ i1
   .rw[HQ] at h ⊢;rcases bQ h with e | e
    .exact H0.mpr (.inl e)
    .exact bM _ (i2 g e)
theorem xv (f:Str)(v:V):∀fs:List (Str×V),(putF f v fs).length<=fs.length+1
 | []=>by simp[putF]
 | (k,x)::r=>by
  have ih:=xv f v r;rw[show putF f v ((k,x)::r)=(if k=f then (k,v)::r else (k,x)::putF f v r) from rfl];by_cases hk:k=f
  .rw[if_pos hk,List.length_cons,List.length_cons]; omega
  .rw[if_neg hk,List.length_cons,List.length_cons]; omega
def RelO.some_of (r:RelO (some v) o):∃u,o=some u/\RelV v u:=by
 cases o with
 | none=>exact (show False from r).elim
 | some u=>exact⟨u,rfl,r⟩
def RelO.none_of (r:RelO none o):o=none:=by
 cases o with
 | none=>rfl
 | some u=>exact (show False from r).elim
def B4 (r:RelV v u):PySem.W.handedIn u=true:=by
 cases v with
 | non=>cases (show u=Value.none from r); rfl
 | bl b=>cases (show u=Value.bool b from r); rfl
 | int i=>obtain⟨t,e⟩:=(show ∃t,u=Value.int i t from r); cases e; rfl
 | str x=>obtain⟨t,e⟩:=(show ∃t,u=Value.str x t from r); cases e; rfl
 | byt b=>obtain⟨t,e⟩:=(show ∃t,u=Value.bytes b t from r); cases e; rfl
 | flt b=>obtain⟨t,e⟩:=(show ∃t,u=Value.float b t from r); cases e; rfl
 | ref a=>cases (show u=Value.ref a from r); rfl
 | ty n=>cases (show u=Value.type n from r); rfl
section
variable {P:Program}{w:World}{H H':Hp}{h h':Heap}{a C dx:Addr}{fs fs':List (Str×V)}
def n4 (hok:HOk P w H h)(e:H a=some (.ins C dx fs)):∃mA,ObjM h a dx C mA/\(∀f,RelO (fs.lookup f) (mA f))/\PySem.Within mA (fs.map (·.1))/\fs.length<=1000/\H dx=some (.own a):=by
 obtain⟨d,z,ne,ob,mA,n,r,q⟩:=(show ObjOk P w H h a (.ins C dx fs) from hok a _ e)
 exact⟨mA,⟨ob,n,ne⟩,r,q,z,d⟩
end
structure Cls (K:bn)(C:Addr):Prop where
 pg:PySem.W.plainGet K C Str.empty=true
 hd:PySem.W.hasDictIn K C=true
 po:PySem.W.plainOver K C=true
 sa:PySem.W.findIn K (.ref C) "__setattr__" = some (some (.builtin "object.__setattr__"))
def Cls.get {K:bn}{C:Addr}(c:Cls K C)(f:Str):PySem.W.plainGet K C f=true:=c.pg
def NoAttr (K:bn)(C:Addr)(f:Str):Prop:=PySem.W.findIn K (.ref C) f=some none
def NoAttr.taker {K:bn}{C:Addr}{f:Str}(n:NoAttr K C f):PySem.W.takerIn K C f=some none:=by
 unfold PySem.W.takerIn;rw[show PySem.W.findIn K (.ref C) f=some none from n];rfl
structure Meth (K:bn)(C:Addr)(m:Str)(f:Addr):Prop where
 at_:PySem.W.findIn K (.ref C) m=some (some (.ref f))
 fn:PySem.W.isFn K (.ref f)=true
 kp:PySem.W.keepIn K (.ref f)=true
section
variable {X:Cx}{pins:ah}{σ:St}{H:Hp}{s:Shared}{a C dx:Addr}{fs:List (Str×V)}{f:Str}{v:V}{A:Around}{E:Value->Shared->Prop}
def FW (I:Inv X pins σ H s)(e:H a=some (.ins C dx fs))(c:Cls X.K C)(n:NoAttr X.K C f)(l:fs.lookup f=some v)
  (h:∀u s',Inv X pins σ H s'->RelV v u->Q u s'):wpAny (model X.prog X.w) A (getAttr (.ref a) f b) Q E s:=by
 obtain⟨mA,O,r,_,_,_⟩:=n4 I.hok e;obtain⟨u,hu,ru⟩:=RelO.some_of (v:=v) (o:=mA f) (by rw[<-l]; exact r f);exact EQ I.kIn O (c.get f) c.hd n hu (B4 ru) (h u _ (I.tok _) ru)
def uL (I:Inv X pins σ H s)(e:H a=some (.ins C dx fs))(c:Cls X.K C)(k:Meth X.K C m g)(l:fs.lookup m=none)
  (h:Q (.ref g,[.ref a]) s):wpAny (model X.prog X.w) A (getMethod (.ref a) m pl) Q E s:=by
 obtain⟨mA,O,r,_,_,_⟩:=n4 I.hok e;have hn:mA m=none:=RelO.none_of (by rw[<-l]; exact r m);exact Dw I.kIn O (c.get m) k.at_ k.fn hn h
def FK (I:Inv X pins σ H s)(e:H a=some (.ins C dx fs))(c:Cls X.K C)(n:NoAttr X.K C f)(hl:fs.length<1000)(ry:RelV y u)
  (h:∀s',Inv X pins σ (upd H a (.ins C dx (putF f y fs))) s'->Q () s'):wpAny (model X.prog X.w) A (setAttr (.ref a) f u) Q E s:=by
 obtain⟨mA,O,r,wi,_,ho⟩:=n4 I.hok e;have hz:(fs.map (·.1)).length<=sizeLine:=by rw[HG,Jv]; omega
 refine Bo I.kIn O c.sa c.po n.taker c.hd wi hz λh' O' sb=>h _ ?_;have hd:∃o,h'.get? dx=some o:=let ⟨o,_,_,e',_⟩:=O'.ns; ⟨o,e'⟩
 refine I.write (x:=a) (e:=dx) (by rw[e]; exact KC) (.inr ho) (λb q hb z=>(sb.2 b hb).trans z) hd ?_;refine⟨by rw[ca O.ne]; exact ho,?_,O.ne,O'.obj,_,O'.ns,λg=>?_,λg hg=>?_⟩
 .have:=xv f y fs; omega
 .show RelO ((putF f y fs).lookup g) (if g=f then some u else mA g);rw[vy];by_cases q:g=f
  .rw[if_pos q,if_pos q]; exact ry
  .rw[if_neg q,if_neg q]; exact r g
 .by_cases q:g=f
  .rw[q]; exact (p0 f y fs).1
  .refine (p0 f y fs).2 g (wi g λz=>hg ?_);show (if g=f then some u else mA g)=none;rw[if_neg q]; exact z
def Inv.made (I:Inv X pins σ H s):Inv X pins σ (upd (upd H s.heap.objs.size (.own (s.heap.objs.size+1))) (s.heap.objs.size+1) (.ins C s.heap.objs.size []))
  { s with heap:=(s.heap.push PySem.W.emptyDict).push (PySem.W.instObj C s.heap.objs.size) }:=by
 have e1:(s.heap.push PySem.W.emptyDict).get? s.heap.objs.size=some PySem.W.emptyDict:=c9 s.heap rfl;have e2:((s.heap.push PySem.W.emptyDict).push (PySem.W.instObj C s.heap.objs.size)).get? (s.heap.objs.size+1)=some (PySem.W.instObj C s.heap.objs.size):=by
  have:=c9 (s.heap.push PySem.W.emptyDict) (o:=PySem.W.instObj C s.heap.objs.size) rfl
  rwa [Iq] at this
 have e3:(s.heap.push PySem.W.emptyDict).Ns s.heap.objs.size (λ_=>none):=⟨PySem.W.emptyDict,#[],_,e1,rfl,(λe he=>absurd he (by simp)),λ_=>rfl⟩
 have I1:=I.laid (a:=s.heap.objs.size) (o:=.own (s.heap.objs.size+1)) (h':=s.heap.push PySem.W.emptyDict) (t':=s.toks) (λb u q=>bR _ q) (bC _) ⟨_,e1⟩;refine I1.laid (a:=s.heap.objs.size+1) (o:=.ins C s.heap.objs.size []) (t':=s.toks) (λb u q=>bR _ q) (KW (Iq _ _)) ?_;have ne:s.heap.objs.size≠s.heap.objs.size+1:=dh (Jq _);refine⟨by rw[ca ne,dc],ID _,ne,e2,λ_=>none,(Heap.Ns1.of_empty e3).at λo q=>bR _ q,λ_=>KC,λy hy=>absurd rfl hy⟩
def AO (hb:attributeBase e f env (eval e env)=eval e env)
  (h:wpAny (model prog w) A (eval e env) (λo s₁=>wpAny (model prog w) A (getAttr o f true) Q E s₁) E s):wpAny (model prog w) A (eval (.Attribute e f pos) env) Q E s:=
 Attribute_any_ h (by rw[arm_eval_Attribute,hb])
end
def sL (K:bn)(ta:TE)(f:Str):TE:=λσ H Q=>ta σ H λx H1=>∃a C dx fs v,x=.ref a/\H1 a=some (.ins C dx fs)/\Cls K C/\NoAttr K C f/\fs.lookup f=some v/\Q v H1
def kc (K:bn)(ta tv:TE)(f:Str):TS:=λD σ H=>tv σ H λy H1=>ta σ H1 λx H2=>∃a C dx fs,x=.ref a/\H2 a=some (.ins C dx fs)/\Cls K C/\NoAttr K C f/\fs.length<1000 /\
 D.nx σ (upd H2 a (.ins C dx (putF f y fs)))
section
variable {X:Cx}{o e value:Expr}{f:Str}{pos pos' tpos:Pos}{ta tv:TE}
def z9 (he:PE X e ta)(hb:attributeBase e f X.env (eval e X.env)=eval e X.env):PE X (.Attribute e f pos) (sL X.K ta f):=by
 intro pins s σ H Q I h;refine AO hb (bg (he pins s σ H _ I h) λu s1 hZz=>?_);obtain⟨x,H1,I1,rx,a,C,dx,fs,v,ex,ea,c,n,l,q⟩:=hZz;subst ex;obtain rfl:u=Value.ref a:=rx;exact FW I1 ea c n l λu' s2 I2 ru=>⟨v,H1,I2,ru,q⟩
def CY (ha:PE X o ta)(hv:PE X value tv)(hs:swapsWith value (some (.Attribute o f pos')) pos.line X.env=pure false):PS X (.Assign [.Attribute o f pos'] value pos) (kc X.K ta tv f):=by
 intro pins s σ H D I h;refine plainObj_wpAny_Assign_Attribute (bg (hv pins s σ H _ I h) λu s1 ⟨y,H1,I1,ry,q⟩=>bg (ha pins s1 σ H1 _ I1 q) λov s2 hZz=>?_) hs;obtain⟨x,H2,I2,rx,a,C,dx,fs,ex,ea,c,n,l,q2⟩:=hZz;subst ex;obtain rfl:ov=Value.ref a:=rx;exact FK I2 ea c n l ry λs3 I3=>⟨σ,_,I3,q2⟩
end
section
variable {X:Cx}{pins:ah}{σ:St}{H:Hp}{s:Shared}{A:Around}{E:Value->Shared->Prop}{Q:Value->Shared->Prop}{c:Value}{b:Bool}
inductive TyOf (K:bn) (H:Hp):V->Value->Prop where
 | non:TyOf K H .non (.type "NoneType")
 | bl (x:Bool):TyOf K H (.bl x) (.type "bool")
 | int (i:Int):TyOf K H (.int i) (.type "int")
 | str (x:Str):TyOf K H (.str x) (.type "str")
 | flt (x:UInt64):TyOf K H (.flt x) (.type "float")
 | lst {a:Addr} {xs:av} (e:H a=some (.lst xs)):TyOf K H (.ref a) (.type "list")
 | frz {a:Addr} {o:Obj} {xs:av} (e:H a=some (.frz o (.lst xs))):TyOf K H (.ref a) (.type "list")
 | tup {a:Addr} {xs:av} (e:H a=some (.tup xs)):TyOf K H (.ref a) (.type "tuple")
 | dK {a:Addr} {kvs:List (eZ×V)} (e:H a=some (.dK kvs)):TyOf K H (.ref a) (.type "dict")
 | dT {a:Addr} {kvs:List (List eZ×V)} (e:H a=some (.dT kvs)):TyOf K H (.ref a) (.type "dict")
 | ins {a C dx:Addr} {fs:List (Str×V)} (e:H a=some (.ins C dx fs)) (cl:Cls K C) (ha:PySem.W.findIn K (.ref C) "__class__" = some (some (.builtin "object.__class__")))
   (hn:PySem.W.specialIn K (.builtin "object.__class__") "__get__" = some (some (.builtin "getset_descriptor.__get__"))) (htk:PySem.W.takesIn K (.builtin "object.__class__")=some true)
   (hm:PySem.W.mroIn K C (.type "object")=some true):TyOf K H (.ref a) (.ref C)
def jZ (I:Inv X pins σ H s)(rx:RelV x u)(ty:TyOf X.K H x t)(e:PySem.W.kitOne X.K t c=some b)(h:∀tk,Q (.bool b) { s with toks:=tk }) :
  wpAny (model X.prog X.w) A (call (.builtin "isinstance") [u,c]) Q E s:=by
 cases ty with
 | non=>cases (show u=Value.none from rx); exact IJ PySem.W.kitx_none I.kIn KC e (λz=>nomatch z) h
 | bl y=>cases (show u=Value.bool y from rx); exact IJ PySem.W.kitx_bool I.kIn KC e (λz=>nomatch z) h
 | int i=>obtain⟨t,q⟩:=(show ∃t,u=Value.int i t from rx); cases q; exact IJ PySem.W.kitx_int I.kIn KC e (λz=>nomatch z) h
 | str y=>obtain⟨t,q⟩:=(show ∃t,u=Value.str y t from rx); cases q; exact IJ PySem.W.kitx_str I.kIn KC e (λz=>nomatch z) h
 | flt y=>obtain⟨t,q⟩:=(show ∃t,u=Value.float y t from rx); cases q; exact IJ PySem.W.kitx_float I.kIn KC e (λz=>nomatch z) h
 | @lst a xs ea=>
  cases (show u=Value.ref a from rx);obtain⟨_,_,n,_,h1⟩:=(show ObjOk X.prog X.w H s.heap a (.lst xs) from I.hok a _ ea)
  exact IJ PySem.W.kitx_list I.kIn ⟨_,h1,rfl⟩ e (λz=>nomatch z) h
 | @frz a ob xs ea=>
  cases (show u=Value.ref a from rx);obtain⟨_,_,_,n,_,h1⟩:=(show ObjOk X.prog X.w H s.heap a (.frz ob (.lst xs)) from I.hok a _ ea)
  exact IJ PySem.W.kitx_list I.kIn ⟨_,h1,rfl⟩ e (λz=>nomatch z) h
 | @tup a xs ea=>
  cases (show u=Value.ref a from rx);obtain⟨_,_,_,p⟩:=(show ObjOk X.prog X.w H s.heap a (.tup xs) from I.hok a _ ea)
  obtain⟨o,h1,h2,_⟩:=p;exact IJ PySem.W.kitx_tuple I.kIn ⟨o,h1,h2⟩ e (λz=>nomatch z) h
 | @dK a kvs ea=>
  cases (show u=Value.ref a from rx);obtain⟨_,_,vs,_,p⟩:=(show ObjOk X.prog X.w H s.heap a (.dK kvs) from I.hok a _ ea)
  obtain⟨o,es,ep,h1,h2,_⟩:=p;exact IJ PySem.W.kitx_dict I.kIn ⟨o,h1,h2.1⟩ e (λz=>nomatch z) h
 | @dT a kvs ea=>
  cases (show u=Value.ref a from rx);obtain⟨_,_,xs,_,o,es,ep,h1,h2,_⟩:=(show ObjOk X.prog X.w H s.heap a (.dT kvs) from I.hok a _ ea)
  exact IJ PySem.W.kitx_dict I.kIn ⟨o,h1,h2.1⟩ e (λz=>nomatch z) h
 | @ins a C dx fs ea cl ha hn htk hm=>
  cases (show u=Value.ref a from rx);obtain⟨mA,O,_⟩:=n4 I.hok ea;obtain⟨od,J,_⟩:=O.look;exact IJ (PySem.W.kitx_own (cl.get _) cl.hd ha hn htk hm) I.kIn J e (λz=>nomatch z) h
end
end L2
namespace L2
open PySem PySem.Spec PyProof.Rows
structure Room (k:Nat)(A:Around):Prop where
 hd:A.handled=none
 dp:A.depth+3 * k+5<recursionLimit
 un:A.units+16 * k+200<cLine
def Room.mono (r:Room k A)(h:j<=k):Room j A:=⟨r.hd,by have:=r.dp; omega,by have:=r.un; omega⟩
theorem Room.deeper (r:Room (k+1) A)(env:Env):Room k (A.deeper env):=
 ⟨r.hd,by have:=r.dp; show A.depth+1+3 * k+5<_; omega,by have:=r.un; show A.units+3+16 * k+200<_; omega⟩
def EK {A:Around}{C:Addr}{us:aq}{kw:List (Str×Value)}:(A.under (.builtin "type.__call__" ⟨.ref C::us,kw⟩)).depth=A.depth+1:=by
 first | rfl | simp[Around.under,Code.weight,Code.isCreation,Code.isGuard,Code.isCaller,Code.frames,Code.isFrame,guardIds]
def yC {A:Around}{C:Addr}{us:aq}{kw:List (Str×Value)}:(A.under (.builtin "type.__call__" ⟨.ref C::us,kw⟩)).units=A.units+1:=by
 first | rfl | simp[Around.under,Code.cUnits,Code.frames,Code.isFrame]
def Room.make (r:Room (k+1) A)(C:Addr)(us:aq)(kw:List (Str×Value)):Room k (A.under (.builtin "type.__call__" ⟨.ref C::us,kw⟩)):=
 ⟨r.hd,by have:=r.dp; rw[EK]; omega,by have:=r.un; rw[yC]; omega⟩
theorem Room.depth (r:Room k A):A.depth<recursionLimit:=by have:=r.dp; omega
theorem Room.units (r:Room k A):A.units+64<cLine:=by have:=r.un; omega
def eG:TA:=λ_ H Q=>Q [] H
def cm (ta:TE)(tr:TA):TA:=λσ H Q=>ta σ H λx H1=>tr σ H1 λxs H2=>Q (x::xs) H2
section
variable {X:Cx}{e:Expr}{es:au}{te:TE}{t:TA}{pos:Pos}
def kW:PA X [] eG:=λ_ _ _ _ H Q I h=>JT ⟨[],H,I,.nil,h⟩
def jn (ha:PE X e te)(hr:PA X es t)(hs:starEach (e::es) X.env=(false,eval e X.env)::starEach es X.env:=by rfl):PA X (e::es) (cm te t):=by
 intro pos pins s σ H Q I h;rw[hs];show wpAny _ _ (spliced ((false,eval e X.env)::backTo pos (starEach es X.env))) _ _ s;refine JH (bg (ha pins s σ H _ I h) λu s1 hZz=>?_);obtain⟨x,H1,I1,r1,q1⟩:=hZz;exact bg (hr pos pins s1 σ H1 _ I1 q1) λus s2 ⟨xs,H2,I2,r2,q2⟩=>⟨x::xs,H2,I2,.cons r1 r2,q2⟩
def mY (t:TA):TE:=λσ H Q=>t σ H λxs H1=>xs.length<=sizeLine/\∀p,H1 p=none->Q (.ref p) (upd H1 p (.tup xs))
def qG (t:TA):TE:=λσ H Q=>t σ H λxs H1=>xs.length<=sizeLine/\∀p,H1 p=none->Q (.ref p) (upd H1 p (.lst xs))
def vV {x1}(h:PA X es t):PE X (.Tuple es x1 pos) (mY t):=by
 intro pins s σ H Q I hq;refine wpAny_Tuple_spliced (bg (h pos pins s σ H _ I hq) λus s1 ⟨xs,H1,I1,r,z,q⟩=>⟨by rw[<-r.length]; exact z,?_⟩);have hf:H1 s1.heap.objs.size=none:=I1.hok.fresh (bC _);refine⟨.ref s1.heap.objs.size,upd H1 s1.heap.objs.size (.tup xs),I1.laid (t':=s1.toks) (λb u e=>bR _ e) (bC _) ?_,rfl,q _ hf⟩;exact⟨z,us,r,⟨_,c9 _ rfl,rfl,⟨_,rfl⟩,rfl⟩⟩
def FN (h:PA X es t):PE X (.List es pos) (qG t):=by
 intro pins s σ H Q I hq;refine wpAny_List_spliced (bg (h pos pins s σ H _ I hq) λus s1 ⟨xs,H1,I1,r,z,q⟩=>⟨by rw[<-r.length]; exact z,?_⟩);have hf:H1 s1.heap.objs.size=none:=I1.hok.fresh (bC _);refine⟨.ref s1.heap.objs.size,upd H1 s1.heap.objs.size (.lst xs),I1.laid (t':=s1.toks) (λb u e=>bR _ e) (bC _) ?_,rfl,q _ hf⟩;exact⟨z,us,0,r,c9 _ rfl⟩
end
abbrev Sp:=av->Hp->VK->XK->Prop
abbrev gy:=List Env->Hp->Shared->XK->Value->Shared->Prop
structure Env0 (P:Program)(w:World)(K:bn)(mg:Str->aA)(base:Heap)(A:Around)(outer:List Env)(s:Shared)(H:Hp):Prop where
 frames:A.frames=some outer
 mod:Mod K mg base
 bs:∀b o,base.get? b=some o->s.heap.get? b=some o/\H b=none
 bsz:base.objs.size<=s.heap.objs.size
 funs:s.heap.FunFrames base outer
 frf:∀b∈gk outer,H b=none
 hok:HOk P w H s.heap
 bare:AllBare s.gens
def CE (outer:List Env)(P:Program)(w:World)(H:Hp)(s:Shared)(Q:VK)(u:Value)(s':Shared):Prop:=
 ∃v H',s'.os=s.os/\AllBare s'.gens/\Un (gk outer) [] H H' s.heap s'.heap/\HOk P w H' s'.heap/\RelV v u/\Q v H'
def CR (CX:gy)(outer:List Env)(P:Program)(w:World)(H:Hp)(s:Shared)(Q:VK)(E:XK)(r:Result)(s':Shared):Prop:=
 match r with
 | .ok (.ret u)=>CE outer P w H s Q u s'
 | .ok _=>False
 | .error e=>CX outer H s E e s'
structure FnOk (P:Program)(w:World)(K:bn)(mg:Str->aA)(base:Heap)(CX:gy)(k:Nat)(f:Addr)(fd:FuncData)(ps:ar)(sp:Sp):Prop where
 len:∀vs H Q E,sp vs H Q E->vs.length=ps.length
 run:∀(A:Around) (outer:List Env) (s:Shared) (H:Hp) (args:Args) (us:aq) (vs:av) (Q:VK) (E:XK),Room k A->Env0 P w K mg base A outer s H->BindsTo s fd args (ps.zip us)->Vals vs us->sp vs H Q E ->
  codeAny (model P w) A (.call (.ref f) args) (CR CX outer P w H s Q E) s
def FnOk.imp {P:Program}{w:World}{K:bn}{mg:Str->aA}{base:Heap}{CX:gy}{k:Nat}{f:Addr}{fd:FuncData}{ps:ar}{sp sp':Sp}(F:FnOk P w K mg base CX k f fd ps sp)
  (h:∀vs H Q E,sp' vs H Q E->sp vs H Q E):FnOk P w K mg base CX k f fd ps sp':=
 ⟨λvs H Q E q=>F.len vs H Q E (h _ _ _ _ q),λA outer s H args us vs Q E hr he hb hv hs=>F.run A outer s H args us vs Q E hr he hb hv (h _ _ _ _ hs)⟩
def Env0.make {P:Program}{w:World}{K:bn}{mg:Str->aA}{base:Heap}{A:Around}{outer:List Env}{s:Shared}{H:Hp}(e:Env0 P w K mg base A outer s H)(C:Addr)(us:aq)(kw:List (Str×Value)) :
  Env0 P w K mg base (A.under (.builtin "type.__call__" ⟨.ref C::us,kw⟩)) outer s H:=⟨by first | exact e.frames | (simpa[Around.under,Code.envs,Code.isFrame,pushEnvs] using e.frames),e.mod,e.bs,e.bsz,e.funs,e.frf,e.hok,e.bare⟩
section
variable {X:Cx}{pins:ah}{σ:St}{H:Hp}{s s':Shared}
def Inv.env0 (I:Inv X pins σ H s):Env0 X.prog X.w X.K X.mg X.base X.A X.stack s H:=
 ⟨I.ok.frames,I.ok.mod,I.bs,bv I.ok.bsz I.sz,I.stack,I.stkFree,I.hok,I.bare⟩
def Inv.after (I:Inv X pins σ H s)(h:CE X.stack X.prog X.w H s Q u s'):EP X pins σ Q u s':=by
 obtain⟨v,H',os,bare,un,hok,r,q⟩:=h;obtain⟨hh,g,d,t,os'⟩:=s';obtain rfl:os'=s.os:=os;exact⟨v,H',I.call (h':=hh) (g':=g) (d':=d) (t':=t) (ch:=[]) un hok bare (λb z=>absurd z (by simp)),r,q⟩
end
def fZ (sp:Sp)(dvs:av)(E:St->XK)(t:TA):TE:=λσ H Q=>t σ H λvs H1=>sp (vs++dvs) H1 Q (E σ)
def fF (C:Addr)(m:Str)(sp:Sp)(dvs:av)(E:St->XK)(ta:TE)(t:TA):TE:=λσ H Q=>ta σ H λx H1=>∃a dx fs,x=.ref a/\H1 a=some (.ins C dx fs)/\fs.lookup m=none /\
 t σ H1 λvs H2=>sp (x::(vs++dvs)) H2 Q (E σ)
def f7 (C:Addr)(sp:Sp)(dvs:av)(E:St->XK)(t:TA):TE:=λσ H Q=>t σ H λvs H1=>∀x dx,H1 x=none->H1 dx=none->dx≠x ->
 sp (.ref x::(vs++dvs)) (upd (upd H1 dx (.own x)) x (.ins C dx [])) (λv H2=>v=.non/\Q (.ref x) H2) (E σ)
def Binds (K:bn)(fd:FuncData)(ps:ar)(ds:aq):Prop:=
 ∀(s:Shared) (us:aq),K.In s.heap->(us++ds).length=ps.length->BindsTo s fd ⟨us,[]⟩ (ps.zip (us++ds))
def Binds.all {K:bn}{fd:FuncData}{ps:ar}(h:∀us:aq,us.length=ps.length->bindArgs fd ⟨us,[]⟩=pure (ps.zip us)):Binds K fd ps []:=λs us _ hl=>by
 rw[IS] at hl ⊢;exact .of_eq (h us hl)
def bO (CX:gy)(X:Cx)(E:St->XK):Prop:=∀(pins:ah) (σ:St) (H:Hp) (s:Shared) (e:Value) (s':Shared),Inv X pins σ H s->CX X.stack H s (E σ) e s'->X.xe e s'
section
variable {X:Cx}{CX:gy}{k:Nat}{f C:Addr}{fd:FuncData}{ps:ar}{sp:Sp}{dvs:av}{ds:aq}{E:St->XK}{x m:Str}{p pos apos:Pos}{e o:Expr}{es:au}{ta:TE}{t:TA}
def pb (F:FnOk X.prog X.w X.K X.mg X.base CX k f fd ps sp)(hr:Room k X.A)(hb:Binds X.K fd ps ds)(hd:Vals dvs ds)(hx:bO CX X E)
  (I:Inv X pins σ H s)(r:Vals vs us)(h:sp (vs++dvs) H Q (E σ)):wpAny (model X.prog X.w) X.A (call (.ref f) us) (EP X pins σ Q) X.xe s:=by
 have r2:Vals (vs++dvs) (us++ds):=r.append hd;have hl:(us++ds).length=ps.length:=by rw[<-r2.length]; exact F.len _ _ _ _ h
 refine wpAny_call (Kl (F.run X.A X.stack s H ⟨us,[]⟩ (us++ds) (vs++dvs) Q (E σ) hr I.env0 (hb s us I.kIn hl) r2 h) λr s' hq=>?_);cases r with
 | error e=>exact hx pins σ H s e s' I hq
 | ok fl=>
  cases fl with
  | ret u=>exact I.after hq
  | next=>exact False.elim hq
  | brk=>exact False.elim hq
  | cont=>exact False.elim hq
def zu (F:FnOk X.prog X.w X.K X.mg X.base CX k f fd ps sp)(hr:Room k X.A)(hg:Gl X x)(hm:X.mg x=some (.ref f))(hk:PySem.W.keepIn X.K (.ref f)=true)(hb:Binds X.K fd ps ds)(hd:Vals dvs ds)(hx:bO CX X E)
  (ha:PA X (e::es) t)(hdb:(x == ("__debug__" : Str))=false:=by decide)(he:starEach (e::es) X.env=(false,eval e X.env)::starEach es X.env:=by rfl)(hpl:(backTo pos (starEach es X.env)).any (·.1)=false:=by rfl) :
  PE X (.Call (.Name x p) (e::es) [] pos) (fZ sp dvs E t):=by
 intro pins s σ H Q I h;refine IG (mn I hg hm ?_ hdb);refine KZ (h₀:=X.base) I.ok.mod.kin hk (bg (ha pos pins s σ H _ I h) λus s1 ⟨vs,H1,I1,r,q⟩=>⟨I1.kIn,?_⟩) he hpl;exact pb F hr hb hd hx I1 r q
def zb (F:FnOk X.prog X.w X.K X.mg X.base CX k f fd ps sp)(hr:Room k X.A)(hg:Gl X x)(hm:X.mg x=some (.ref f))(hk:PySem.W.keepIn X.K (.ref f)=true)(hb:Binds X.K fd ps ds)(hd:Vals dvs ds)(hx:bO CX X E)
  (hdb:(x == ("__debug__" : Str))=false:=by decide):PE X (.Call (.Name x p) [] [] pos) (fZ sp dvs E eG):=by
 intro pins s σ H Q I h;refine IG (mn I hg hm ?_ hdb);exact KS I.kIn hk (pb (us:=[]) F hr hb hd hx I .nil h)
def EY (he:PE X o ta)(c:Cls X.K C)(hm:Meth X.K C m f)(F:FnOk X.prog X.w X.K X.mg X.base CX k f fd ps sp)(hr:Room k X.A)(hb:Binds X.K fd ps ds)(hd:Vals dvs ds)(hx:bO CX X E)(ha:PA X (e::es) t)
  (hst:starEach (e::es) X.env=(false,eval e X.env)::starEach es X.env:=by rfl)(hpl:(backTo pos (starEach es X.env)).any (·.1)=false:=by rfl)
  (ht:eval (.Call (.Attribute o m apos) (e::es) [] pos) X.env=(do
   let ov <-eval o X.env
   standAt apos.atName
   let (f,first) <-holding [ov] (getMethod ov m pl)
   callWith pos f first (backTo pos (starEach (e::es) X.env)) (backToKw pos (keywordEach [] X.env))):=by rfl) :
  PE X (.Call (.Attribute o m apos) (e::es) [] pos) (fF C m sp dvs E ta t):=by
 intro pins s σ H Q I h;refine PySem.W.methodCall_KW (pl:=pl) (bg (he pins s σ H _ I h) λu s1 hZz=>?_) ht;obtain⟨x,H1,I1,rx,a,dx,fs,ex,ea,l,q⟩:=hZz;subst ex;obtain rfl:u=Value.ref a:=rx;refine uL I1 ea c hm l ?_;refine KZ (first:=[.ref a]) (h₀:=X.base) I.ok.mod.kin hm.kp (bg (ha pos pins s1 σ H1 _ I1 q) λus s2 ⟨vs,H2,I2,r,q2⟩=>⟨I2.kIn,?_⟩) hst hpl;exact pb (us:=.ref a::us) (vs:=.ref a::vs) F hr hb hd hx I2 (.cons rfl r) q2
def AL (he:PE X o ta)(c:Cls X.K C)(hm:Meth X.K C m f)(F:FnOk X.prog X.w X.K X.mg X.base CX k f fd ps sp)(hr:Room k X.A)(hb:Binds X.K fd ps ds)(hd:Vals dvs ds)(hx:bO CX X E)
  (ht:eval (.Call (.Attribute o m apos) [] [] pos) X.env=(do
   let ov <-eval o X.env
   standAt apos.atName
   let (f,first) <-holding [ov] (getMethod ov m pl)
   callWith pos f first (backTo pos (starEach [] X.env)) (backToKw pos (keywordEach [] X.env))):=by rfl) :
  PE X (.Call (.Attribute o m apos) [] [] pos) (fF C m sp dvs E ta eG):=by
 intro pins s σ H Q I h;refine PySem.W.methodCall_KW (pl:=pl) (bg (he pins s σ H _ I h) λu s1 hZz=>?_) ht;obtain⟨x,H1,I1,rx,a,dx,fs,ex,ea,l,q⟩:=hZz;subst ex;obtain rfl:u=Value.ref a:=rx;refine uL I1 ea c hm l ?_;exact KS (first:=[.ref a]) I1.kIn hm.kp (pb (us:=[.ref a]) (vs:=[.ref a]) F hr hb hd hx I1 (.cons rfl .nil) q)
structure Mk (K:bn)(C f:Addr):Prop where
 makes:PySem.W.makesIn K C=true
 init:PySem.W.findIn K (.ref C) "__init__" = some (some (.ref f))
 fn:PySem.W.isFn K (.ref f)=true
 kp:PySem.W.keepIn K (.ref C)=true
def vJ (M:Mk X.K C f)(F:FnOk X.prog X.w X.K X.mg X.base CX k f fd ps sp)(hr:Room (k+1) X.A)(hb:Binds X.K fd ps ds)(hd:Vals dvs ds)
  (hx:bO CX X E)(I:Inv X pins σ H s)(r:Vals vs us)
  (h:∀x dx,H x=none->H dx=none->dx≠x->sp (.ref x::(vs++dvs)) (upd (upd H dx (.own x)) x (.ins C dx [])) (λv H2=>v=.non/\Q (.ref x) H2) (E σ)) :
  wpAny (model X.prog X.w) X.A (call (.ref C) us) (EP X pins σ Q) X.xe s:=by
 have hq:=h (s.heap.objs.size+1) s.heap.objs.size (I.hok.fresh (Jp _)) (I.hok.fresh (bC _)) (dh (Jq _));have I2:=Inv.made (C:=C) I;have r2:Vals (V.ref (s.heap.objs.size+1)::(vs++dvs)) (Value.ref (s.heap.objs.size+1)::(us++ds)):=.cons rfl (r.append hd);have hl:(Value.ref (s.heap.objs.size+1)::us++ds).length=ps.length:=by
  have e:=r2.length;rw[F.len _ _ _ _ hq] at e;exact e.symm
 refine wpAny_call (Gu (f:=f) I.kIn M.makes M.init (HU.mp M.fn) (Kl (F.run _ X.stack _ _ ⟨Value.ref (s.heap.objs.size+1)::us,[]⟩ (Value.ref (s.heap.objs.size+1)::(us++ds)) _ _ (E σ) (hr.make C us [])
  (I2.env0.make C us []) (hb _ (Value.ref (s.heap.objs.size+1)::us) I2.kIn hl) r2 hq) λr s' hq'=>?_))
 cases r with
 | error e=>exact hx pins σ _ _ e s' I2 hq'
 | ok fl=>
  cases fl with
  | ret u=>
   obtain⟨v,H',I3,rv,ev,q3⟩:=I2.after hq';subst ev;exact⟨rv,⟨V.ref (s.heap.objs.size+1),H',I3,rfl,q3⟩⟩
  | next=>exact False.elim hq'
  | brk=>exact False.elim hq'
  | cont=>exact False.elim hq'
def Cp (M:Mk X.K C f)(F:FnOk X.prog X.w X.K X.mg X.base CX k f fd ps sp)(hr:Room (k+1) X.A)(hg:Gl X x)(hm:X.mg x=some (.ref C))(hb:Binds X.K fd ps ds)(hd:Vals dvs ds)(hx:bO CX X E)
  (ha:PA X (e::es) t)(hdb:(x == ("__debug__" : Str))=false:=by decide)(he:starEach (e::es) X.env=(false,eval e X.env)::starEach es X.env:=by rfl)(hpl:(backTo pos (starEach es X.env)).any (·.1)=false:=by rfl) :
  PE X (.Call (.Name x p) (e::es) [] pos) (f7 C sp dvs E t):=by
 intro pins s σ H Q I h;refine IG (mn I hg hm ?_ hdb);refine KZ (h₀:=X.base) I.ok.mod.kin M.kp (bg (ha pos pins s σ H _ I h) λus s1 ⟨vs,H1,I1,r,q⟩=>⟨I1.kIn,?_⟩) he hpl;exact vJ M F hr hb hd hx I1 r q
def za (M:Mk X.K C f)(F:FnOk X.prog X.w X.K X.mg X.base CX k f fd ps sp)(hr:Room (k+1) X.A)(hg:Gl X x)(hm:X.mg x=some (.ref C))(hb:Binds X.K fd ps ds)(hd:Vals dvs ds)(hx:bO CX X E)
  (hdb:(x == ("__debug__" : Str))=false:=by decide):PE X (.Call (.Name x p) [] [] pos) (f7 C sp dvs E eG):=by
 intro pins s σ H Q I h;refine IG (mn I hg hm ?_ hdb);exact KS I.kIn M.kp (vJ (us:=[]) M F hr hb hd hx I .nil h)
end
section
variable {X:Cx}{CX:gy}{k:Nat}{f C:Addr}{fd:FuncData}{ps ks:ar}{sp:Sp}{E:St->XK}{x m:Str}{p pos apos kpos:Pos}{e o:Expr}{es:au}{kws:List Keyword}{te ta:TE}{t tk:TA}{nm:Option Str}
variable {g:aq->aq->aq}{gV:av->av->av}
end
structure FnScope (N P:ar)(sc:Scope):Prop where
 kind:sc.kind=.function
 co:sc.isCoroutine=false
 gen:sc.isGenerator=false
 nd:N.Nodup
 pre:N.take P.length=P
 par:∀x∈P,sc.names.lookup x=some .local\/sc.names.lookup x=some .cell
 nofree:∀y∈sc.names,y.2≠.free
theorem vm {kindOf:Str->Option NameKind}{x:Str}:∀{binds:List (Str×Value)} {m:Str->aA},(∀v,(x,v)∉binds)->bindL kindOf binds m x=m x
 | [],_,_=>rfl
 | (n,v)::r,m,h=>by
  unfold bindL;rw[vm λw hw=>h w (IP _ hw)];split
  .have:x≠n:=by rintro rfl; exact h v bN
   simp[this]
  .rfl
theorem wg {kindOf:Str->Option NameKind}{x:Str}:∀{binds:List (Str×Value)} {m:Str->aA},(∀v,(x,v)∉binds)->bindC kindOf binds m x=m x
 | [],_,_=>rfl
 | (n,v)::r,m,h=>by
  unfold bindC;rw[wg λw hw=>h w (IP _ hw)];split
  .rfl
  .have:x≠n:=by rintro rfl; exact h v bN
   simp[this]
theorem vL {kindOf:Str->Option NameKind}{x:Str}{v:Value}:∀{P:ar} {vs:aq} {i:Nat} {m:Str->aA},P.Nodup->P[i]? = some x->vs[i]? = some v->kindOf x=some .local ->
  bindL kindOf (P.zip vs) m x=some v
 | [],_,_,_,_,h,_,_=>by simp at h
 | _::_,[],_,_,_,_,h,_=>by simp at h
 | p::P,w::vs,0,m,nd,h1,h2,hk=>by
  simp at h1 h2; subst h1; subst h2;show bindL kindOf ((p,w)::P.zip vs) m p=_;unfold bindL;rw[vm λv hv=>(HZ.mp nd).1 (List.of_mem_zip hv).1,if_pos hk];simp
 | p::P,w::vs,i+1,m,nd,h1,h2,hk=>by
  show bindL kindOf ((p,w)::P.zip vs) m x=_;unfold bindL;exact vL (i:=i) (HZ.mp nd).2 (by simpa using h1) (by simpa using h2) hk
theorem u9 {kindOf:Str->Option NameKind}{x:Str}{v:Value}:∀{P:ar} {vs:aq} {i:Nat} {m:Str->aA},P.Nodup->P[i]? = some x->vs[i]? = some v->kindOf x≠some .local ->
  bindC kindOf (P.zip vs) m x=some v
 | [],_,_,_,_,h,_,_=>by simp at h
 | _::_,[],_,_,_,_,h,_=>by simp at h
 | p::P,w::vs,0,m,nd,h1,h2,hk=>by
  simp at h1 h2; subst h1; subst h2;show bindC kindOf ((p,w)::P.zip vs) m p=_;unfold bindC;rw[wg λv hv=>(HZ.mp nd).1 (List.of_mem_zip hv).1,if_neg hk];simp
 | p::P,w::vs,i+1,m,nd,h1,h2,hk=>by
  show bindC kindOf ((p,w)::P.zip vs) m x=_;unfold bindC;exact u9 (i:=i) (HZ.mp nd).2 (by simpa using h1) (by simpa using h2) hk
noncomputable def start (N:ar)(vs:av):St:=vs.map some++List.replicate (N.length - vs.length) none
noncomputable def fR (CX:gy)(P:Program)(w:World)(K:bn)(mg:Str->aA)(base:Heap)(N:ar)(qual:Str)(scope:Scope)(f:Addr)(cd:Value)(A:Around)(outer:List Env)(s:Shared)(H:Hp)(E:XK):Cx where
 prog:=P
 w:=w
 K:=K
 mg:=mg
 base:=base
 A:=A.deeper (envOfC qual scope s.heap.objs.size f cd)
 N:=N
 s₀:=s
 H₀:=H
 env:=envOfC qual scope s.heap.objs.size f cd
 outer:=outer
 stack:=envOfC qual scope s.heap.objs.size f cd::outer
 ex:=[]
 calm:=true
 fn:=λ_=>true
 pn:=[]
 xe:=λe s'=>wpAny (model P w) (A.deeper (envOfC qual scope s.heap.objs.size f cd)) (leaving (envOfC qual scope s.heap.objs.size f cd) e) (λ_ s''=>CX outer H s E e s'') (λe' s''=>CX outer H s E e' s'') s'
def yq {sc:Scope}{n:Nat}{x:Str}(h:sc.names.lookup x=some .cell):∃c,(cellsFrom n sc.names []).lookup x=some c:=by
 have q:=PySem.W.cellsFrom_some sc.names n [] (.inl h);exact Option.isSome_iff_exists.mp q
def DD {CX:gy}{P:Program}{w:World}{K:bn}{mg:Str->aA}{base:Heap}{N ps:ar}{qual:Str}{scope:Scope}{f:Addr}{cd:Value}{A:Around}{outer:List Env}{s s1:Shared}{H:Hp}{E:XK}{us:aq}{vs:av}
  (S:FnScope N ps scope)(hd:A.handled=none)(e0:Env0 P w K mg base A outer s H)(hl:vs.length=ps.length)(r:Vals vs us)
  (x:InCallC s s.heap.objs.size (bindL (envOfC qual scope s.heap.objs.size f cd).kindOf (ps.zip us) λ_=>none) (cellsFrom (s.heap.objs.size+1) scope.names []) (bindC (envOfC qual scope s.heap.objs.size f cd).kindOf (ps.zip us) λ_=>none) s1) :
  Inv (fR CX P w K mg base N qual scope f cd A outer s H E) [] (start N vs) H s1:=by
 have hpl:ps.length<=N.length:=by have:=congrArg List.length S.pre; rw[Ir] at this; omega
 obtain⟨h1,tk,rfl,hk⟩:=x.done;have noA:∀b:Addr,b∉(fR CX P w K mg base N qual scope f cd A outer s H E).ex:=λb z=>absurd (show b∈([]:ao) from z) (by simp);refine⟨⟨e0.mod,S.kind,rfl,rfl,bC _,λy z c h1 h2=>?_,λy hy=>?_,λy c _ h=>?_,λ_=>hd,Around.frames_deeper e0.frames,.inr ⟨rfl,rfl⟩,λb z=>absurd z (noA b),e0.bs,e0.bsz,λb _ _=>noA b,λb z=>absurd z (noA b),e0.funs,e0.frf⟩,
  rfl,e0.bare,Un.kept hk,⟨_,x.toInCall.ns,λi y v h1 h2 h3=>?_⟩,λy c h=>⟨_,x.cell y c h⟩,e0.hok.fresh (bC _),λy c h=>?_,λp hp=>absurd (show p∈([]:ah) from hp) (by simp),e0.hok.kept hk,?_⟩
 .exact name_of_addr x.apart (IM h1) (IM h2)
 .have hy:scope.names.lookup y=some .cell\/scope.names.lookup y=some .free:=hy;rcases hy with hy | hy
  .exact yq hy
  .exact absurd rfl (S.nofree _ (IM hy))
 .exact J0 (x.above y c (IM h))
 .have hi:i<vs.length:=by
   unfold start at h2;by_cases hi:i<vs.length
   .exact hi
   .rw[JX (by simpa using hi)] at h2;rw[List.getElem?_replicate] at h2;split at h2 <;> cases h2
  have ha:vs[i]? = some v:=by
   unfold start at h2;rw[J6 (by simpa using hi),HR] at h2;cases e:vs[i]? with
   | none=>rw[e] at h2; cases h2
   | some a=>rw[e] at h2; cases h2; rfl
  obtain⟨u,hu,rv⟩:=r.get ha;have hp:ps[i]? = some y:=by
   rw[<-S.pre,List.getElem?_take_of_lt (by omega)]; exact h1
  have ndP:ps.Nodup:=by rw[<-S.pre]; exact S.nd.sublist (List.take_sublist _ _)
  refine⟨u,rv,?_⟩;rcases S.par y (HL hp) with k | k
  .exact .inl ⟨k,vL ndP hp hu k⟩
  .obtain⟨c,e⟩:=yq (n:=s.heap.objs.size+1) k;refine .inr ⟨.inl k,c,e,?_⟩;have q:=x.cell y c e;rw[u9 ndP hp hu (by show scope.names.lookup y≠_; rw[k]; decide)] at q;exact q
 .exact e0.hok.fresh (J0 (x.above y c (IM h)))
 .unfold start;show _=N.length;rw[HP,HG,Kz];omega
def zP {CX:gy}{P:Program}{w:World}{K:bn}{mg:Str->aA}{base:Heap}{k:Nat}{f:Addr}{name qual:Str}{params:Arguments}{body:aG}{scope:Scope}{dV kV doc pm cdv ct oc:Value}{an od:aE}
  {osl:Array aA}{N ps:ar}{sp:Sp}(lk:K.lookup f=some ⟨oc,od,.func (PySem.W.fnOf name qual params body scope dV kV doc pm an cdv ct),osl⟩)(hcd:PySem.W.codeIn K cdv qual=true)(S:FnScope N ps scope)
  (len:∀vs H Q E,sp vs H Q E->vs.length=ps.length)
  (hbody:∀(A:Around) (outer:List Env) (s:Shared) (H:Hp) (vs:av) (Q:VK) (E:XK),Room k (A.deeper (envOfC qual scope s.heap.objs.size f cdv))->sp vs H Q E ->
   ∃t,PSs (fR CX P w K mg base N qual scope f cdv A outer s H E) body t/\t { nx:=λ_ H'=>Q .non H',rt:=Q } (start N vs) H) :
  FnOk P w K mg base CX (k+1) f (PySem.W.fnOf name qual params body scope dV kV doc pm an cdv ct) ps sp:=by
 refine⟨len,λA outer s H args us vs Q E hr e0 hb r hsp=>?_⟩;have hl:=len _ _ _ _ hsp;have KX:K.In s.heap:=e0.mod.kin.keeps λb o e=>(e0.bs b o e).1;have lim:s.heap.NoLimit:=e0.mod.nolimit.keeps λb o e=>(e0.bs b o e).1;have hkind:∀y∈ps.zip us,scope.names.lookup y.1=some .local\/(scope.names.lookup y.1=some .cell/\((cellsFrom (s.heap.objs.size+1) scope.names []).lookup y.1).isSome=true):=λ⟨n,v⟩ hy=>by
  rcases S.par n (List.of_mem_zip hy).1 with q | q
  .exact .inl q
  .exact .inr ⟨q,PySem.W.cellsFrom_some _ _ _ (.inl q)⟩
 refine codeAny_call_function hr.depth (KX _ _ lk) rfl S.co S.gen rfl (PySem.W.codeRec_of KX hcd) (hb _ _ _ _ ?_);refine wpAny_newFunctionEnv_cells S.kind hkind λenv he s1 x=>?_;subst he;refine⟨lim.keeps x.toInCall.keep,codeAny_func ?_⟩;obtain⟨t,ht,hq⟩:=hbody A outer s H vs Q E (hr.deeper _) hsp;have I:Inv (fR CX P w K mg base N qual scope f cdv A outer s H E) [] (start N vs) H s1:=DD S hr.hd e0 hl r x;refine IY (ht [] s1 (start N vs) H _ I hq) (λfl s' hs=>?_) λe s' hs=>hs;have fin:∀{σ':St} {H':Hp} {v:V} {u:Value},Inv (fR CX P w K mg base N qual scope f cdv A outer s H E) [] σ' H' s'->RelV v u->Q v H'->CE outer P w H s Q u s':=
  λ{σ' H' v u} J rv q=>⟨v,H',J.os,J.bare,J.base,J.hok,rv,q⟩
 cases fl with
 | ret u=>
  obtain⟨v,σ',H',J,rv,q⟩:=hs;exact fin J rv q
 | next=>
  obtain⟨σ',H',J,q⟩:=hs;exact fin (v:=V.non) (u:=Value.none) J rfl q
 | brk=>
  obtain⟨_,_,_,q⟩:=hs;exact False.elim q
 | cont=>
  obtain⟨_,_,_,q⟩:=hs;exact False.elim q
end L2
namespace L2
open PySem PySem.Spec PyProof.Rows
section
variable {X:Cx}{x:Str}{p pos:Pos}{e:Expr}{es:au}{t:TA}{id T:String}{r:av->Hp->VK->Prop}
def kM (r:av->Hp->VK->Prop)(t:TA):TE:=λσ H Q=>t σ H λvs H1=>r vs H1 Q
def jP (hc:CallR X (.builtin id) r)(hg:Gl X x)(hm:X.mg x=none)(hv:bootBuiltins x=some (.builtin id))(ha:PA X (e::es) t)(hn:x ≠ "__name__":=by decide)(hdb:(x == ("__debug__" : Str))=false:=by decide)
  (he:starEach (e::es) X.env=(false,eval e X.env)::starEach es X.env:=by rfl)(hpl:(backTo pos (starEach es X.env)).any (·.1)=false:=by rfl):PE X (.Call (.Name x p) (e::es) [] pos) (kM r t):=by
 intro pins s σ H Q I h;refine IG (gB I hg hm hv ?_ hn hdb);exact PyProof.Rows.callWith_builtin1 (bg (ha pos pins s σ H _ I h) λus s1 ⟨vs,H1,I1,r1,q1⟩=>hc pins s1 σ H1 vs us Q I1 r1 q1) he hpl
def tT (hc:CallR X (.type T) r)(hg:Gl X x)(hm:X.mg x=none)(hv:bootBuiltins x=some (.type T))(ha:PA X (e::es) t)(hn:x ≠ "__name__":=by decide)(hdb:(x == ("__debug__" : Str))=false:=by decide)
  (he:starEach (e::es) X.env=(false,eval e X.env)::starEach es X.env:=by rfl)(hpl:(backTo pos (starEach es X.env)).any (·.1)=false:=by rfl):PE X (.Call (.Name x p) (e::es) [] pos) (kM r t):=by
 intro pins s σ H Q I h;refine IG (gB I hg hm hv ?_ hn hdb);exact Ih (bg (ha pos pins s σ H _ I h) λus s1 ⟨vs,H1,I1,r1,q1⟩=>hc pins s1 σ H1 vs us Q I1 r1 q1) he hpl
end
end L2
namespace HT
open PySem PyProof.Rows
section
open PySem.SeqAt
open PySem.AutoSeq1 (wpAny_loadPart')
open PySem.MeetsSeq PySem.MeetsSeq2 PySem.MeetsSeq3
end
section
variable {prog:Program}{w:World}{A:Around}{E:Value->Shared->Prop}{s:Shared}
def cat_tup (ht:IsTup s.heap t vs.toArray)(hb:IsTup s.heap b ws.toArray)(hv:vs≠[])
  (h1:ws=[]->Q (.ref t) s)(h2:ws≠[]->Q (.ref s.heap.objs.size) { s with heap:=s.heap.push { cls:=.type "tuple",data:=.seq (vs++ws).toArray } })
  (hsz:vs.length+ws.length<=sizeLine):wpAny (model prog w) A (binaryOp .Add (.ref t) (.ref b)) Q E s:=by
 obtain⟨⟨cls,dd,data,sl⟩,ho,hc,n,hd⟩:=id ht;obtain⟨⟨cls2,dd2,data2,sl2⟩,ho2,hc2,n2,hd2⟩:=id hb;simp only at hc hd hc2 hd2;subst hc hd hc2 hd2;have e:vs.toArray++ws.toArray=(vs++ws).toArray:=by simp
 by_cases hw:ws=[]
 .exact concat_meets ⟨_,ho,rfl⟩ ⟨_,ho2,rfl⟩ noFill_tuple_add seq_tuple_add Km Kg (Kb _ _)
   (tuple_addW1 t b vs.toArray ws.toArray n n2 dd dd2 sl sl2 (by simpa using hv) (by simp[hw])) ⟨ho,ho2,h1 hw⟩
 .refine concat_meets ⟨_,ho,rfl⟩ ⟨_,ho2,rfl⟩ noFill_tuple_add seq_tuple_add Km Kg (Kb _ _)
   (tuple_addW2 t b vs.toArray ws.toArray n n2 dd dd2 sl sl2 (by simpa using hv) (by simpa using hw) (by rw[HJ,HJ]; exact hsz)) ⟨ho,ho2,?_⟩
  rw[e];exact h2 hw
noncomputable def sIx (n d:Nat):Option Int->Nat
 | none=>d
 | some v=>if v<0 then (v+(n:Int)).toNat else min v.toNat n
def DC (n d:Nat)(hd:d<=n)(o:Option Int):sIx n d o<=n:=by
 cases o with
 | none=>exact hd
 | some v=>
  show (if v<0 then (v+(n:Int)).toNat else min v.toNat n)<=n;by_cases hv:v<0
  .rw[if_pos hv]; omega
  .rw[if_neg hv]; exact Nat.min_le_right _ _
def wF (v:Int)(n d:Nat):(if v<0 then max (v+(n:Int)) 0 else min v (n:Int))=((sIx n d (some v):Nat):Int):=by
 show (if v<0 then max (v+(n:Int)) 0 else min v (n:Int))=(((if v<0 then (v+(n:Int)).toNat else min v.toNat n):Nat):Int);by_cases hv:v<0
 .simp only[if_pos hv]; omega
 .simp only[if_neg hv]; omega
def DT (lo hi:Option Int)(n:Nat):Builtin.Slice.sliceAdjust lo hi 1 (n:Int)=(((sIx n 0 lo:Nat):Int),((sIx n n hi:Nat):Int)):=by
 have h1:¬((1:Int)<0):=by omega
 unfold Builtin.Slice.sliceAdjust;simp only[h1,if_false];refine Prod.ext ?_ ?_
 .cases lo with
  | none=>rfl
  | some v=>exact wF v n 0
 .cases hi with
  | none=>rfl
  | some v=>exact wF v n n
def DE (i j:Nat):Builtin.Slice.slicePlaces (i:Int) (j:Int) 1=j - i:=by
 unfold Builtin.Slice.slicePlaces;have h1:(1:Int) > 0:=by omega
 simp only[h1,if_true,Int.ediv_one];split <;> omega
def uX (p:IsPart v o)(h:Q o s):wpAny (model prog w) A (Builtin.Slice.slicePartIndex v) Q E s:=by
 cases p with
 | none=>exact slicePart_none h
 | int i t=>exact slicePart_int h
def sliceApplied_gen {sl:Addr}{vl vu:Value}{lo hi:Option Int}{n:Nat}{Q:Int×Int×Nat->Shared->Prop}(hs:s.heap.IsSliceOf sl vl vu .none)(pl:IsPart vl lo)(pu:IsPart vu hi)
  (h:Q (((sIx n 0 lo:Nat):Int),1,sIx n n hi - sIx n 0 lo) s):wpAny (model prog w) A (Builtin.Slice.sliceApplied (.ref sl) (pure (n:Int))) Q E s:=by
 obtain⟨os,hos,hcs,hds⟩:=id hs;unfold Builtin.Slice.sliceApplied Builtin.Slice.sliceFields;refine aU (aU (Jw hos hds (x:=vl) rfl (aU (Jw hos hds (x:=vu) rfl (aU (Jw hos hds (x:=.none) rfl (be ?_)))))));refine aU (slicePart_none ?_);show wpAny _ _ (if ((1:Int) == 0)=true then _ else _) _ _ s;rw[if_neg (by decide)];refine aU (uX pl (aU (uX pu (aU (be ?_)))));show wpAny _ _ (match Builtin.Slice.sliceAdjust lo hi 1 (n:Int) with | (lo,hi)=>pure (lo,(1:Int),Builtin.Slice.slicePlaces lo hi 1)) _ _ s;rw[DT lo hi n];show wpAny _ _ (pure (((sIx n 0 lo:Nat):Int),(1:Int),Builtin.Slice.slicePlaces ((sIx n 0 lo:Nat):Int) ((sIx n n hi:Nat):Int) 1)) _ _ s;rw[DE];exact be h
def DI (xs:aB)(i k:Nat):((List.range k).filterMap λ(m:Nat)=>xs[((i:Int)+(m:Int) * 1).toNat]?).toArray=((xs.toList.drop i).take k).toArray:=by
 have e:(λ(m:Nat)=>xs[((i:Int)+(m:Int) * 1).toNat]?)=λm=>xs[i+m]?:=by
  funext m
  have:((i:Int)+(m:Int) * 1).toNat=i+m:=by omega
  rw[this]
 rw[e];have:=pick_run xs i k;rw[List.filterMap_map] at this;have e2:((λx=>xs[x]?) ∘ λx=>i+x)=λm=>xs[i+m]?:=rfl;rw[e2] at this;rw[this]
def getItem_tuple_cut {t sl:Addr}{items:aB}{vl vu:Value}{lo hi:Option Int}{Q:Value->Shared->Prop}(ht:IsTup s.heap t items)(hs:s.heap.IsSliceOf sl vl vu .none)(pl:IsPart vl lo)(pu:IsPart vu hi)
  (hw:¬(sIx items.size 0 lo=0/\sIx items.size items.size hi=items.size))
  (h:Q (.ref s.heap.objs.size) { s with heap:=s.heap.push { cls:=.type "tuple",data:=.seq ((items.toList.drop (sIx items.size 0 lo)).take (sIx items.size items.size hi - sIx items.size 0 lo)).toArray } })
  (hsz:items.size<=sizeLine):wpAny (model prog w) A (getItem (.ref t) (.ref sl)) Q E s:=by
 have htake:sizeOk (.seq ((items.toList.drop (sIx items.size 0 lo)).take (sIx items.size items.size hi - sIx items.size 0 lo)).toArray):=by
  show ((items.toList.drop (sIx items.size 0 lo)).take (sIx items.size items.size hi - sIx items.size 0 lo)).toArray.size<=sizeLine;rw[HJ,Ir,KF,Array.length_toList];omega
 have hj:sIx items.size items.size hi<=items.size:=DC _ _ (bC _) hi;obtain⟨os,hos,hcs,hds⟩:=id hs;have hTs:s.TypeIs (.ref sl) "slice":=⟨os,hos,hcs⟩
 unfold getItem;try with_reducible refine Je ?_
 first | refine aU (be ?_) | skip
 refine aU (wpAny_sequenceKey ht.typeIs (by decide) ?_);refine aU (wpAny_callSpecial?_slot (name:=Str.ofString "__getitem__") ht.typeIs Iy
  (IU Iy ht.typeIs entry_tuple_getitem ?_ (args_tuple_getitem _ _)))
 show wpAny _ _ (Builtin.Tuple.tupleItemsOf (.ref t) >>= _) _ _ s;refine aU (tupleItemsOf_ ht ?_);refine aU (wpAny_typeOf hTs ?_);rw[if_pos (by decide)];refine aU (sliceApplied_gen hs pl pu ?_);have hno:¬((((sIx items.size 0 lo:Nat):Int) == 0&&(1:Int) == 1&&(sIx items.size items.size hi - sIx items.size 0 lo) == items.size)=true):=by
  intro q;rw[HF,HF] at q;have q1:((sIx items.size 0 lo:Nat):Int)=0:=eq_of_beq q.1.1;have q2:sIx items.size items.size hi - sIx items.size 0 lo=items.size:=eq_of_beq q.2;exact hw ⟨by omega,by omega⟩
 show wpAny _ _ (if (((sIx items.size 0 lo:Nat):Int) == 0&&(1:Int) == 1&&(sIx items.size items.size hi - sIx items.size 0 lo) == items.size)=true then _ else _) _ _ s;rw[if_neg hno,DI];first
  | exact aU (m:=Builtin.Tuple.tupleExact _) (Ix (be ⟨_,rfl,be h⟩) htake)
  | exact aU (m:=Builtin.Tuple.tupleExact _) (Ix (aU (be (be ⟨_,rfl,be h⟩))) htake)
  | exact aU (aU (m:=Builtin.Tuple.tupleExact _) (Ix (be (be ⟨_,rfl,be h⟩)) htake))
  | exact aU (aU (m:=Builtin.Tuple.tupleExact _) (Ix (be ⟨_,rfl,be h⟩) htake))
end
end HT
namespace L2
open PySem PySem.Spec PyProof.Rows
abbrev TO:=St->Hp->(Option Int->Hp->Prop)->Prop
def PO (X:Cx)(e:Option Expr)(t:TO):Prop:=
 ∀(pins:ah) (s:Shared) (σ:St) (H:Hp) (Q:Option Int->Hp->Prop),Inv X pins σ H s->t σ H Q ->
  wpAny (model X.prog X.w) X.A (evalPart e X.env) (λu s'=>∃o H',Inv X pins σ H' s'/\IsPart u o/\Q o H') X.xe s
def iD:TO:=λ_ H Q=>Q none H
def mT (t:TE):TO:=λσ H Q=>t σ H λx H1=>∃i,x=.int i/\Q (some i) H1
section
variable {X:Cx}{e:Expr}{te:TE}{lo hi:Option Expr}{tl th:TO}{pos p2:Pos}
def v9:PO X none iD:=by
 intro pins s σ H Q I h;rw[evalPart_none];exact be ⟨none,H,I,.none,h⟩
def ot (h:PE X e te):PO X (some e) (mT te):=by
 intro pins s σ H Q I hw;rw[evalPart_some];refine bg (h pins s σ H _ I hw) λu s1 hZz=>?_;obtain⟨x,H1,I1,r1,q1⟩:=hZz;obtain⟨i,rfl,q⟩:=q1;obtain⟨t,rfl⟩:=r1;exact⟨some i,H1,I1,.int i t,q⟩
def my (X:Cx)(r:V->Option Int->Option Int->Hp->VK->Prop):Prop:=
 ∀(pins:ah) (s:Shared) (σ:St) (H:Hp) (x:V) (v vl vu:Value) (lo hi:Option Int) (sl:Addr) (Q:VK),Inv X pins σ H s->RelV x v->s.heap.IsSliceOf sl vl vu .none->IsPart vl lo->IsPart vu hi->r x lo hi H Q ->
  ∃T id,typeLookup (.type T) "__getitem__" = pure (some (.builtin id))/\s.TypeIs v T/\wpAny (model X.prog X.w) X.A (getItem v (.ref sl)) (EP X pins σ Q) X.xe s
def F4 (r:V->Option Int->Option Int->Hp->VK->Prop)(te:TE)(tl th:TO):TE:=λσ H Q=>te σ H λx H1=>tl σ H1 λl H2=>th σ H2 λu H3=>r x l u H3 Q
def ua (hr:my X r)(he:PE X e te)(hl:PO X lo tl)(hu:PO X hi th):PE X (.Subscript e (.Slice lo hi none p2) pos) (F4 r te tl th):=by
 intro pins s σ H Q I h;refine Subscript_ (bg (he pins s σ H _ I h) λv s1 hZz=>?_);obtain⟨x,H1,I1,r1,q1⟩:=hZz;refine wpAny_Slice (bg (hl pins s1 σ H1 _ I1 q1) λvl s2 ⟨l,H2,I2,pl,q2⟩=>bg (hu pins s2 σ H2 _ I2 q2) λvu s3 hZz=>?_);obtain⟨u,H3,I3,pu,q3⟩:=hZz;rw[evalPart_none];refine be ?_;have I4:Inv X pins σ H3 { s3 with heap:=s3.heap.push { cls:=.type "slice",data:=.fields #[vl,vu,.none] } }:=I3.kept (t':=s3.toks) λb ob q=>bR _ q;obtain⟨T,id,hT,ht,hg⟩:=hr pins { s3 with heap:=s3.heap.push { cls:=.type "slice",data:=.fields #[vl,vu,.none] } } σ H3 x v vl vu l u s3.heap.objs.size Q I4 r1 (Heap.IsSliceOf.new ..) pl pu q3;show wpAny (model X.prog X.w) X.A (subscriptTail e (.Slice lo hi none p2) v (.ref s3.heap.objs.size)) (EP X pins σ Q) X.xe { s3 with heap:=s3.heap.push { cls:=.type "slice",data:=.fields #[vl,vu,.none] } };exact tail_any (ops:=[.ref s3.heap.objs.size,v]) ht hT hg (by with_unfolding_all rfl)
noncomputable def dF (xs:av)(lo hi:Option Int):av:=(xs.drop (HT.sIx xs.length 0 lo)).take (HT.sIx xs.length xs.length hi - HT.sIx xs.length 0 lo)
def xN (xs:av)(lo hi:Option Int):(dF xs lo hi).length<=xs.length:=by
 unfold dF;rw[Ir,KF];omega
def sd (K:bn):V->Option Int->Option Int->Hp->VK->Prop:=λx lo hi H Q=>∃a xs,x=.ref a/\SqT K H a xs /\
 ¬(HT.sIx xs.length 0 lo=0/\HT.sIx xs.length xs.length hi=xs.length)/\∀p,H p=none->Q (.ref p) (upd H p (.tup (dF xs lo hi)))
def CQ:my X (sd X.K):=by
 intro pins s σ H x v vl vu lo hi sl Q I rx hs pl pu h;obtain⟨a,xs,rfl,hx,hw,q⟩:=h;cases rx;obtain⟨its,r,ht,hz⟩:=I.tuple hx;have hlen:its.toArray.size=xs.length:=by rw[HJ]; exact r.length.symm
 refine⟨"tuple",_,Iy.lookup,ht.typeIs,?_⟩;refine HT.getItem_tuple_cut ht hs pl pu (by rw[hlen]; exact hw) ?_ (by rw[hlen]; exact hz);rw[hlen];refine⟨.ref s.heap.objs.size,_,I.laid (t':=s.toks) (o:=.tup (dF xs lo hi)) (λb ob q=>bR _ q) (bC _) ?_,rfl,q _ (I.hok.fresh (bC _))⟩;exact⟨bv (xN xs lo hi) hz,_,(r.drop (HT.sIx xs.length 0 lo)).take (HT.sIx xs.length xs.length hi - HT.sIx xs.length 0 lo),TupN.new _ _⟩
def mh (K:bn):R2:=λx y H Q=>∃a b xs ys,x=.ref a/\y=.ref b/\SqT K H a xs/\SqT K H b ys/\xs≠[]/\xs.length+ys.length<=sizeLine /\
 (ys=[]->Q (.ref a) H)/\(ys≠[]->∀p,H p=none->Q (.ref p) (upd H p (.tup (xs++ys))))
def Vals.nil_iff (r:Vals xs us):us=[]↔xs=[]:=by
 cases r with
 | nil=>simp
 | cons _ _=>simp
def Ey:OpR X (binaryOp .Add) (mh X.K):=by
 intro pins s σ H x y v u Q I rx ry h;obtain⟨a,b,xs,ys,rfl,rfl,ha,hb,hx,hz,q1,q2⟩:=h;cases rx;cases ry;obtain⟨its,r1,p1,_⟩:=I.tuple ha;obtain⟨its2,r2,p2,_⟩:=I.tuple hb;refine HT.cat_tup p1 p2 (λz=>hx (r1.nil_iff.mp z)) (λz=>⟨.ref a,H,I,rfl,q1 (r2.nil_iff.mp z)⟩) (λz=>?_) (by rw[<-r1.length,<-r2.length]; exact hz);refine⟨.ref s.heap.objs.size,_,I.laid (t':=s.toks) (o:=.tup (xs++ys)) (λb ob q=>bR _ q) (bC _) ?_,rfl,q2 (λw=>z (r2.nil_iff.mpr w)) _ (I.hok.fresh (bC _))⟩;exact⟨by rw[HP]; exact hz,_,r1.append r2,TupN.new _ _⟩
end
end L2
namespace L2
open PySem PySem.Spec PyProof.Rows
noncomputable def lx (n:Nat)(i:Int):aC:=if 0<=i then (if i<n then some i.toNat else none) else if -(n:Int)<=i then some (i+n).toNat else none
noncomputable def lY {α:Type}(xs:List α)(i:Int):Option α:=(lx xs.length i).bind λj=>xs[j]?
def wp (h:lx n i=some j):seqIndex? i n=some j/\j<n /\ -(n:Int)<=i/\i<n:=by
 unfold lx at h;by_cases h0:0<=i
 .rw[if_pos h0] at h;by_cases h1:i<n
  .rw[if_pos h1] at h;have e:i.toNat=j:=cQ h;exact⟨by rw[seqIndex_of h0 h1,e],by omega,by omega,h1⟩
  .rw[if_neg h1] at h; cases h
 .rw[if_neg h0] at h;by_cases h1 : -(n:Int)<=i
  .rw[if_pos h1] at h;have e:(i+n).toNat=j:=cQ h;exact⟨by rw[seqIndex_neg (by omega) h1,e],by omega,h1,by omega⟩
  .rw[if_neg h1] at h; cases h
def vK (h:lY xs i=some v):∃j,seqIndex? i xs.length=some j/\xs[j]? = some v/\j<xs.length /\ -(xs.length:Int)<=i/\i<xs.length:=by
 unfold lY at h;cases e:lx xs.length i with
 | none=>rw[e] at h; cases h
 | some j=>
  rw[e] at h;obtain⟨h1,h2,h3,h4⟩:=wp e;exact⟨j,h1,h,h2,h3,h4⟩
def gg (b:Expr):Prop:=∀o i,subscripted b false o i=operate [o,i] (getItem o i)
def nZ (X:Cx)(r:R2):Prop:=
 ∀(value slice:Expr) (pins:ah) (s:Shared) (σ:St) (H:Hp) (x y:V) (v u:Value) (Q:VK),Inv X pins σ H s->RelV x v->RelV y u->r x y H Q ->
  subscripted slice false v u=operate [v,u] (getItem v u)->wpAny (model X.prog X.w) X.A (subscriptTail value slice v u) (EP X pins σ Q) X.xe s
def wD (X:Cx)(id:String)(r:V->av->Hp->VK->Prop):Prop:=
 ∀(pins:ah) (s:Shared) (σ:St) (H:Hp) (x:V) (xs:av) (v:Value) (us:aq) (Q:VK),Inv X pins σ H s->RelV x v->Vals xs us->r x xs H Q ->
  wpAny (model X.prog X.w) X.A (call (.builtin id) (v::us)) (EP X pins σ Q) X.xe s
section
variable {X:Cx}{a b:Expr}{ta tb:TE}{pos:Pos}
def AH (hr:nZ X r)(ha:PE X a ta)(hb:PE X b tb)(hs:gg b):PE X (.Subscript a b pos) (lL r ta tb):=by
 intro pins s σ H Q I h;exact Subscript_ (jI ha hb I h λv u s2 x y H2 I2 rx ry q=>hr a b pins s2 σ H2 x y v u Q I2 rx ry q (hs _ _))
def rP (K:bn):R2:=λx y H Q=>∃p xs i v,x=.ref p/\y=.int i/\SqL K H p xs/\lY xs i=some v/\Q v H
def sH (K:bn):R2:=λx y H Q=>∃p xs i v,x=.ref p/\y=.int i/\SqT K H p xs/\lY xs i=some v/\Q v H
def B5:nZ X (rP X.K):=by
 intro value slice pins s σ H x y v u Q I rx ry h hs;obtain⟨p,xs,i,z,rfl,rfl,hq,he,q⟩:=h;cases rx;obtain⟨t,rfl⟩:=ry;obtain⟨its,r,pl,hz⟩:=I.list hq;obtain⟨j,h1,h2,h3,h4,h5⟩:=vK he;obtain⟨w,ew,rw'⟩:=r.get h2;have hl:=r.length;have hn:=d9;have fin:EP X pins σ Q w s:=⟨z,H,I,rw',q⟩
 by_cases h0:0<=i
 .have hj:i.toNat=j:=by
   rw[seqIndex_of h0 h5] at h1;exact cQ h1
  exact item_listR pl.isList h0 (by omega) (by rw[hj]; simpa using ew) fin hs
 .have hj:(i+(its.toArray.size:Int)).toNat=j:=by
   rw[seqIndex_neg (by omega) h4] at h1;rw[HJ,<-hl];exact cQ h1
  exact subscriptTail_builtinR (x:=w) pl.isList.typeIs slot_list_getitem.lookup
   (wpAny_getItem_list_neg (Q:=λr s'=>r=w/\EP X pins σ Q r s') pl.isList (by omega) (by rw[HJ] <;> omega) (by omega) (by rw[hj]; simpa using ew) ⟨rfl,fin⟩) hs
def D4:nZ X (sH X.K):=by
 intro value slice pins s σ H x y v u Q I rx ry h hs;obtain⟨p,xs,i,z,rfl,rfl,hq,he,q⟩:=h;cases rx;obtain⟨t,rfl⟩:=ry;obtain⟨its,r,pl,hz⟩:=I.tuple hq;obtain⟨j,h1,h2,h3,h4,h5⟩:=vK he;obtain⟨w,ew,rw'⟩:=r.get h2;have hl:=r.length;have hn:=d9;have fin:EP X pins σ Q w s:=⟨z,H,I,rw',q⟩
 exact subscriptTail_builtinR (x:=w) pl.typeIs slot_tuple_getitem.lookup
  (getItem_tuple (j:=j) (Q:=λr s'=>r=w/\EP X pins σ Q r s') pl (by omega) (by omega) (by rw[HJ,<-hl]; exact h1) (by simpa using ew) ⟨rfl,fin⟩) hs
def Ci (its:aq)(n j:Nat)(u:Value):Obj.mapSeq (·.setIfInBounds j u) { cls:=.type "list",data:=.seq its.toArray n }={ cls:=.type "list",data:=.seq (its.set j u).toArray n }:=by
 simp[Obj.mapSeq]
theorem Inv.lst (I:Inv X pins σ H s)(h:H p=some (.lst xs)) :
  ∃(its:aq) (n:Nat),Vals xs its/\s.heap.get? p=some { cls:=.type "list",data:=.seq its.toArray n }/\xs.length<=sizeLine:=by
 obtain⟨z,its,n,r,e⟩:=I.hok p _ h;exact⟨its,n,r,e,z⟩
def Inv.lstUpd {pins:ah}{σ:St}{H:Hp}{s:Shared}{p:Addr}{xs ys:av}{its its':aq}{n n':Nat}{f:Obj->Obj}(I:Inv X pins σ H s)(h:H p=some (.lst xs))
  (ho:s.heap.get? p=some { cls:=.type "list",data:=.seq its.toArray n })(hf:f { cls:=.type "list",data:=.seq its.toArray n }={ cls:=.type "list",data:=.seq its'.toArray n' })(r:Vals ys its')(hz:ys.length<=sizeLine)(t:Nat) :
  Inv X pins σ (upd H p (.lst ys)) { s with heap:=s.heap.update p f,toks:=t }:=by
 have e:(s.heap.update p f).get? p=some { cls:=.type "list",data:=.seq its'.toArray n' }:=by
  rw[Js f ho (by rw[hf] <;> rfl),hf]
 refine I.write (x:=p) (e:=p) (by rw[h]; trivial) (.inl rfl) (λb u hb q=>(Kn _ _ (JG hb)).trans q) ⟨_,e⟩ ?_;exact⟨hz,its',n',r,e⟩
def nr:V->V->V->Hp->(Hp->Prop)->Prop:=λo i v H Q=>∃p xs k j,o=.ref p/\i=.int k/\H p=some (.lst xs)/\lx xs.length k=some j/\Q (upd H p (.lst (xs.set j v)))
def set_list:sG X nr:=by
 intro pins s σ H o i v ov iv u Q I ro ri rv h;obtain⟨p,xs,k,j,rfl,rfl,hp,hj,q⟩:=h;cases ro;obtain⟨t,rfl⟩:=ri;obtain⟨its,n,r,ho,hz⟩:=I.lst hp;obtain⟨h1,h2,h3,h4⟩:=wp hj;have hl:=r.length;have hn:=d9;have I':Inv X pins σ (upd H p (.lst (xs.set j v))) { s with heap:=s.heap.update p (Obj.mapSeq (·.setIfInBounds j u)) }:=
  I.lstUpd hp ho (Ci its n j u) (r.set rv j) (by rw[Io]; exact hz) s.toks
 by_cases h0:0<=k
 .have hk:k.toNat=j:=by
   rw[seqIndex_of h0 h4] at h1;exact cQ h1
  exact PySem.W.ki_setAt ho h0 (by omega) (by rw[HJ,<-hl]; exact h4) (by rw[hk]; exact⟨_,I',q⟩)
 .have hk:(k+(its.toArray.size:Int)).toNat=j:=by
   rw[seqIndex_neg (by omega) h3] at h1;rw[HJ,<-hl];exact cQ h1
  exact PySem.W.ki_setBack ho (by omega) (by rw[HJ,<-hl]; exact h3) (by omega) (by rw[hk]; exact⟨_,I',q⟩)
def B7 (lo hi:Option Int)(n:Nat):(sliceBounds lo hi none n).1=((HT.sIx n 0 lo:Nat):Int)/\(sliceBounds lo hi none n).2.1=((HT.sIx n n hi:Nat):Int)/\(sliceBounds lo hi none n).2.2=1:=by
 refine⟨?_,?_,rfl⟩
 .cases lo with
  | none=>simp[sliceBounds,HT.sIx]
  | some i=>
   simp only[sliceBounds,HT.sIx,Option.getD_none,show (1:Int) > 0 by decide,if_true];by_cases h:i<0
   .simp only[h,if_true] <;> omega
   .simp only[h,if_false] <;> omega
 .cases hi with
  | none=>simp[sliceBounds,HT.sIx]
  | some i=>
   simp only[sliceBounds,HT.sIx,Option.getD_none,show (1:Int) > 0 by decide,if_true];by_cases h:i<0
   .simp only[h,if_true] <;> omega
   .simp only[h,if_false] <;> omega
def E4 (its:aq)(lo hi:Option Int):slicePick its.toArray lo hi none=((its.drop (HT.sIx its.length 0 lo)).take (HT.sIx its.length its.length hi - HT.sIx its.length 0 lo)).toArray:=by
 obtain⟨h1,h2,h3⟩:=B7 lo hi its.toArray.size;unfold slicePick;rw[h1,h2,h3];simp only[sliceRange_one,pick_run,HJ] <;> rfl
def sk (K:bn):V->Option Int->Option Int->Hp->VK->Prop:=λx lo hi H Q=>∃a xs,x=.ref a/\SqL K H a xs/\∀p,H p=none->Q (.ref p) (upd H p (.lst (dF xs lo hi)))
def Ag:my X (sk X.K):=by
 intro pins s σ H x v vl vu lo hi sl Q I rx hs pl pu h;obtain⟨a,xs,rfl,hx,q⟩:=h;cases rx;obtain⟨its,r,ht,hz⟩:=I.list hx;have hlen:=r.length;refine⟨"list",_,slot_list_getitem.lookup,ht.isList.typeIs,?_⟩;refine wpAny_getItem_list_slice ht.isList hs pl pu .none (by simp) ?_ (by rw[HJ] <;> omega);rw[E4,<-hlen];refine⟨.ref s.heap.objs.size,_,I.laid (t':=s.toks) (o:=.lst (dF xs lo hi)) (λb ob q=>bR _ q) (bC _) ?_,rfl,q _ (I.hok.fresh (bC _))⟩;exact⟨bv (xN xs lo hi) hz,_,0,(r.drop (HT.sIx xs.length 0 lo)).take (HT.sIx xs.length xs.length hi - HT.sIx xs.length 0 lo),c9 _ rfl⟩
noncomputable def flatV:V->Bool
 | .non=>true
 | .bl _=>true
 | .int _=>true
 | .str _=>true
 | _=>false
noncomputable def eqV:V->V->Bool
 | .non,.non=>true
 | .bl a,.bl b=>a == b
 | .bl a,.int b=>(if a then 1 else 0) == b
 | .int a,.bl b=>a == (if b then 1 else 0)
 | .int a,.int b=>a == b
 | .str a,.str b=>a == b
 | _,_=>false
def Dy (ry:RelV y u)(rx:RelV x v)(fy:flatV y=true)(fx:flatV x=true):SeqAt.EqAt A s u v (eqV y x):=by
 cases y with
 | non=>
  cases ry;cases x with
  | non=>cases rx; exact SeqAt.EqAt.same _
  | bl b=>cases rx; exact SeqAt.EqAt.none_bool b
  | int b=>obtain⟨t,rfl⟩:=rx; exact SeqAt.EqAt.none_int b t
  | str b=>obtain⟨t,rfl⟩:=rx; exact SeqAt.EqAt.none_str b t
  | _=>exact absurd (show false=true from fx) Im
 | bl a=>
  cases ry;cases x with
  | non=>cases rx; exact SeqAt.EqAt.bool_none a
  | bl b=>cases rx; exact SeqAt.EqAt.bool_bool a b
  | int b=>obtain⟨t,rfl⟩:=rx; exact SeqAt.EqAt.bool_int a b t
  | str b=>obtain⟨t,rfl⟩:=rx; exact SeqAt.EqAt.bool_str a b t
  | _=>exact absurd (show false=true from fx) Im
 | int a=>
  obtain⟨t',rfl⟩:=ry;cases x with
  | non=>cases rx; exact SeqAt.EqAt.int_none a t'
  | bl b=>cases rx; exact SeqAt.EqAt.int_bool a t' b
  | int b=>obtain⟨t,rfl⟩:=rx; exact SeqAt.EqAt.int_int a t' b t
  | str b=>obtain⟨t,rfl⟩:=rx; exact SeqAt.EqAt.int_str a t' b t
  | _=>exact absurd (show false=true from fx) Im
 | str a=>
  obtain⟨t',rfl⟩:=ry;cases x with
  | non=>cases rx; exact SeqAt.EqAt.str_none a t'
  | bl b=>cases rx; exact SeqAt.EqAt.str_bool a t' b
  | int b=>obtain⟨t,rfl⟩:=rx; exact SeqAt.EqAt.str_int a t' b t
  | str b=>obtain⟨t,rfl⟩:=rx; exact SeqAt.EqAt.str_str a t' b t
  | _=>exact absurd (show false=true from fx) Im
 | _=>exact absurd (show false=true from fy) Im
noncomputable def pB (x:V)(u:Value):Bool:=match u with
 | .none=>eqV .non x
 | .bool b=>eqV (.bl b) x
 | .int i _=>eqV (.int i) x
 | .str z _=>eqV (.str z) x
 | _=>false
def vG (r:RelV y u)(f:flatV y=true):pB x u=eqV y x:=by
 cases y with
 | non=>cases r; rfl
 | bl b=>cases r; rfl
 | int i=>obtain⟨t,rfl⟩:=r; rfl
 | str z=>obtain⟨t,rfl⟩:=r; rfl
 | _=>exact absurd (show false=true from f) Im
theorem vq (rx:RelV x v)(fx:flatV x=true):∀{xs:av} {us:aq},Vals xs us->xs.all flatV=true->∀u∈us,SeqAt.EqAt A s u v (pB x u)
 | _,_,.nil,_=>λu hu=>by cases hu
 | y::xs,u::us,.cons r t,f=>λu' hu=>by
  rw[List.all_cons,HF] at f;rcases bQ hu with rfl | hu
  .rw[vG r f.1]; exact Dy r rx f.1 fx
  .exact vq rx fx t f.2 u' hu
def zC:CallR X (.builtin "len") (λxs H Q=>∃p ys,xs=[.ref p]/\(SqL X.K H p ys\/SqT X.K H p ys)/\Q (.int ys.length) H):=by
 intro pins s σ H xs us Q I r h;obtain⟨p,ys,rfl,hq,q⟩:=h;obtain⟨u,rfl,rx⟩:=vals1 r;cases rx;have hn:=d9;rcases hq with hq | hq
 .obtain⟨its,r',pl,hz⟩:=I.list hq;have hlen:=r'.length;exact Calls.call_len_list pl.isList (by simp only[HJ] <;> omega) ⟨.int ys.length,H,I.tok _,⟨s.toks+1,by rw[HJ,hlen]⟩,q⟩
 .obtain⟨its,r',pl,hz⟩:=I.tuple hq;have hlen:=r'.length;exact len_tuple pl (by simp only[HJ] <;> omega) ⟨.int ys.length,H,I.tok _,⟨s.toks+1,by rw[HJ,hlen]⟩,q⟩
def HC:CallR X (.type "list") (λxs H Q=>∃p ys,xs=[.ref p]/\(SqL X.K H p ys\/SqT X.K H p ys)/\∀l,H l=none->Q (.ref l) (upd H l (.lst ys))):=by
 intro pins s σ H xs us Q I r h;obtain⟨p,ys,rfl,hq,q⟩:=h;obtain⟨u,rfl,rx⟩:=vals1 r;cases rx;have fin:∀(its:aq),Vals ys its->ys.length<=sizeLine->∀(h':Heap) (c':Nat),(∀b o',s.heap.get? b=some o'->h'.get? b=some o') ->
   h'.get? s.heap.objs.size=some { cls:=.type "list",dict:=none,data:=.seq its.toArray c',slots:=#[] }->EP X pins σ Q (.ref s.heap.objs.size) { s with heap:=h' }:=λits r' hz h' c' kp e=>
  ⟨.ref s.heap.objs.size,_,I.laid (t':=s.toks) kp (bC _) (show ObjOk X.prog X.w _ h' _ (.lst ys) from ⟨hz,its,c',r',e⟩),rfl,q _ (I.hok.fresh (bC _))⟩
 rcases hq with hq | hq
 .obtain⟨its,r',pl,hz⟩:=I.list hq;have hlen:=r'.length;obtain⟨o,ho,hc,n,hd⟩:=pl.isList;exact call_list_seq p (.inl rfl) ho hc hd (λh' c' kp e=>fin its r' hz h' c' kp e) (by simp only[HJ] <;> omega)
 .obtain⟨its,r',pl,hz⟩:=I.tuple hq;have hlen:=r'.length;obtain⟨o,ho,hc,n,hd⟩:=pl;exact call_list_seq p (.inr rfl) ho hc hd (λh' c' kp e=>fin its r' hz h' c' kp e) (by simp only[HJ] <;> omega)
def AN:CallR X (.type "tuple") (λxs H Q=>∃p ys,xs=[.ref p]/\((SqL X.K H p ys/\∀l,H l=none->Q (.ref l) (upd H l (.tup ys)))\/(SqT X.K H p ys/\Q (.ref p) H))):=by
 intro pins s σ H xs us Q I r h;obtain⟨p,ys,rfl,h⟩:=h;obtain⟨u,rfl,rx⟩:=vals1 r;cases rx;rcases h with ⟨hq,q⟩ | ⟨hq,q⟩
 .obtain⟨its,r',pl,hz⟩:=I.list hq;have hlen:=r'.length;refine call_tuple_list pl.isList (λh' kp=>?_) (by simp only[HJ] <;> omega);have I1:Inv X pins σ H { s with heap:=h' }:=I.kept (t':=s.toks) kp;have I2:Inv X pins σ (upd H h'.objs.size (.tup ys)) { s with heap:=h'.push { cls:=.type "tuple",data:=.seq its.toArray } }:=
   I1.laid (t':=s.toks) (λb o e=>bR _ e) (bC _) (show ObjOk X.prog X.w _ _ _ (.tup ys) from ⟨hz,its,r',TupN.new _ _⟩)
  exact⟨.ref h'.objs.size,_,I2,rfl,q _ (I1.hok.fresh (bC _))⟩
 .obtain⟨its,r',pl,hz⟩:=I.tuple hq;exact call_tuple_same pl ⟨.ref p,H,I,rfl,q⟩
def tyV (K:bn)(T:String)(x:V)(H:Hp):Prop:=match x with
 | .str _=>T = "str"
 | .int _=>T = "int"
 | .ref p=>(T = "list" /\ ∃xs,SqL K H p xs)\/(T = "tuple" /\ ∃xs,SqT K H p xs) \/
   (T = "dict" /\ ((∃kvs,H p=some (.dK kvs))\/∃kvs,H p=some (.dT kvs)))\/(T = "set" /\ ∃S n,H p=some (.set S n))
 | _=>False
def D3 (I:Inv X pins σ H s)(r:RelV x v)(ty:tyV X.K T x H) :
  s.TypeIs v T/\∀a,v=.ref a->∃ob,s.heap.get? a=some ob/\ob.dict=none:=by
 cases x with
 | str z=>
  obtain⟨t,rfl⟩:=r;cases (show T = "str" from ty);exact⟨typeIs_str s z t,λ_ e=>nomatch e⟩
 | int i=>
  obtain⟨t,rfl⟩:=r;cases (show T = "int" from ty);exact⟨typeIs_int s i t,λ_ e=>nomatch e⟩
 | ref p=>
  cases r;rcases ty with ⟨rfl,xs,hq⟩ | ⟨rfl,xs,hq⟩ | ⟨rfl,hk⟩ | ⟨rfl,S,n,hk⟩
  .obtain⟨its,_,pl,_⟩:=I.list hq;refine⟨pl.isList.typeIs,λa e=>?_⟩;cases e;obtain⟨o,n,e,c,hd,_⟩:=pl;exact⟨o,e,hd⟩
  .obtain⟨its,_,⟨o,e,c,_,d⟩,_⟩:=I.tupN hq;refine⟨⟨o,e,c⟩,λa e2=>?_⟩;cases e2;exact⟨o,e,d⟩
  .have z:∃o,s.heap.get? p=some o/\o.ExactDict:=by
    rcases hk with ⟨kvs,hk⟩ | ⟨kvs,hk⟩
    .obtain⟨_,_,_,_,o,_,_,e,ex,_⟩:=I.hok p _ hk;exact⟨o,e,ex⟩
    .obtain⟨_,_,_,_,o,_,_,e,ex,_⟩:=I.hok p _ hk;exact⟨o,e,ex⟩
   obtain⟨o,e,ex⟩:=z;refine⟨⟨o,e,ex.1⟩,λa e2=>?_⟩;cases e2;exact⟨o,e,ex.2.1⟩
  .obtain⟨o,_,_,_,e,ex,_⟩:=I.hok p _ hk;refine⟨⟨o,e,ex.1⟩,λa e2=>?_⟩;cases e2;exact⟨o,e,ex.2.1⟩
 | _=>exact False.elim ty
def iF (K:bn)(T:String)(r:V->av->Hp->VK->Prop)(to:TE)(t:TA):TE:=λσ H Q=>to σ H λx H1=>tyV K T x H1/\t σ H1 λxs H2=>r x xs H2 Q
variable {o e:Expr}{es:au}{to:TE}{t:TA}{name:Str}{apos cpos:Pos}{T id:String}{r:V->av->Hp->VK->Prop}
def oq (pa:PlainAttrs T)(slot:Slot T name id)(hty:typeOf (.builtin id)=pure (.type "method_descriptor"))(hm:wD X id r)(ho:PE X o to)(ha:PA X (e::es) t)
  (hbase:attributeBase o name X.env (eval o X.env)=eval o X.env:=by rfl)
  (hfew:((backTo cpos (starEach (e::es) X.env)).all (λx=>!x.1)&&(backToKw cpos (keywordEach [] X.env)).all (λx=>x.1.isSome)
   && decide ((e::es).length+([]:List Keyword).length+(if ([]:List Keyword).isEmpty then 0 else 1)<30))=true:=by rfl)
  (hline:(apos.endLine == cpos.line)=true:=by rfl)(hs:starEach (e::es) X.env=(false,eval e X.env)::starEach es X.env:=by rfl)(hplain:(backTo cpos (starEach es X.env)).any (·.1)=false:=by rfl) :
  PE X (.Call (.Attribute o name apos) (e::es) [] cpos) (iF X.K T r to t):=by
 intro pins s σ H Q I h;refine wpAny_Call_method_late hbase hfew hline rfl (bg (ho pins s σ H _ I h) λv s1 hZz=>?_);obtain⟨x,H1,I1,r1,ty,q1⟩:=hZz;obtain⟨h1,h2⟩:=D3 I1 r1 ty;refine⟨T,id,pa,slot,hty,h1,h2,?_⟩;have hA:=ha cpos pins s1 σ H1 _ I1 q1;rw[hs] at hA ⊢;refine Calls.callWith_builtin (by show (false||(backTo cpos (starEach es X.env)).any (·.1))=false; rw[hplain] <;> rfl) (Calls.evalArgs_plain ?_);exact bg hA λus s2 ⟨vs,H2,I2,r2,q2⟩=>hm pins s2 σ H2 x vs v us Q I2 r1 r2 q2
end
end L2
namespace L2
open PySem PySem.Spec PyProof.Rows
def tj (X:Cx)(id:String)(r:V->av->Hp->VK->Prop):Prop:=
 ∀(pins:ah) (s:Shared) (σ:St) (H:Hp) (x:V) (xs:av) (v:Value) (us:aq) (Q:VK),Inv X pins σ H s->RelV x v->Vals xs us->r x xs H Q ->
  wpAny (model X.prog X.w) X.A (call (.builtin id) (v::us)) (EP X pins σ Q) X.xe s
theorem Vals.one:∀{x:V} {us:aq},Vals [x] us->∃u,us=[u]/\RelV x u
 | _,_,.cons r .nil=>⟨_,rfl,r⟩
theorem Vals.eraseIdx:∀{xs:av} {us:aq} (i:Nat),Vals xs us->Vals (xs.eraseIdx i) (us.eraseIdx i)
 | _,_,_,.nil=>.nil
 | _,_,0,.cons _ t=>t
 | _,_,i+1,.cons r t=>.cons r (Vals.eraseIdx i t)
theorem Vals.reverse (h:Vals xs us):Vals xs.reverse us.reverse:=by
 induction h with
 | nil=>exact .nil
 | cons r t ih=>rw[Ko,Ko]; exact Vals.append ih (.cons r .nil)
theorem Vals.rep (h:Vals xs us):∀k:Nat,Vals (List.replicate k xs).flatten (List.replicate k us).flatten
 | 0=>.nil
 | k+1=>by
  rw[List.replicate_succ,List.replicate_succ,List.flatten_cons,List.flatten_cons];exact Vals.append h (Vals.rep h k)
theorem vf:∀(l:List α) (i:Nat),(l.eraseIdx i).length<=l.length
 | [],_=>bC _
 | _::_,0=>Jp _
 | _::r,i+1=>Nat.succ_le_succ (vf r i)
theorem sP (its:aq):∀(k:Nat) (acc:aq),
  List.foldl (λx1 x2=>x1++x2) acc.toArray (List.replicate k its.toArray)=(acc++(List.replicate k its).flatten).toArray
 | 0,acc=>by simp
 | k+1,acc=>by
  have e:acc.toArray++its.toArray=(acc++its).toArray:=by simp
  have e2:(acc++its)++(List.replicate k its).flatten=acc++(List.replicate (k+1) its).flatten:=by
   rw[List.replicate_succ,List.flatten_cons,Jx]
  rw[<-e2,<-sP its k (acc++its),<-e,List.replicate_succ,List.foldl_cons]
section
variable {X:Cx}{pins:ah}{σ:St}{H:Hp}{s:Shared}{l b:Addr}{xs ys zs:av}
def Inv.lset {its its':aq}{n:Nat}{f:aB->aB}{t':Nat}(I:Inv X pins σ H s)(hH:H l=some (.lst xs))
  (e:s.heap.get? l=some { cls:=.type "list",data:=.seq its.toArray n })(hf:f its.toArray=its'.toArray)(hv:Vals ys its')(hz:ys.length<=sizeLine) :
  Inv X pins σ (upd H l (.lst ys)) { s with heap:=s.heap.update l (Obj.mapSeq f),toks:=t' }:=by
 have q:=PySem.IsL.update e f;rw[hf] at q;refine I.write (x:=l) (e:=l) (by rw[hH]; exact trivial) (.inl rfl) (λb' u hb hu=>(Kn s.heap (Obj.mapSeq f) (JG hb)).trans hu) ⟨_,q⟩ ?_;exact⟨hz,its',_,hv,q⟩
def Inv.lnew (I:Inv X pins σ H s)(hv:Vals ys its)(hz:ys.length<=sizeLine) :
  Inv X pins σ (upd H s.heap.objs.size (.lst ys)) { s with heap:=s.heap.push { cls:=.type "list",data:=.seq its.toArray },toks:=t' }:=
 I.laid (λ_ _ q=>bR _ q) (bC _) ⟨hz,its,0,hv,c9 _ rfl⟩
theorem Inv.fresh (I:Inv X pins σ H s):H s.heap.objs.size=none:=I.hok.fresh (bC _)
def Inv.lstM (I:Inv X pins σ H s)(hH:H l=some (.lst xs)):xs.length<=sizeLine/\∃(its:aq) (n:Nat),Vals xs its/\xs.length=its.length/\s.heap.get? l=some { cls:=.type "list",data:=.seq its.toArray n }:=by
 obtain⟨z,its,n,r,e⟩:=I.hok l _ hH;exact⟨z,its,n,r,r.length,e⟩
def wT (h:n<=sizeLine):Builtin.List.listTooLong n=false:=by
 unfold Builtin.List.listTooLong;exact Il (by omega)
end
section
variable {X:Cx}
def f8:V->av->Hp->VK->Prop:=λx vs H Q=>∃l xs y,x=.ref l/\vs=[y]/\H l=some (.lst xs)/\xs.length<sizeLine/\Q .non (upd H l (.lst (xs++[y])))
def wo:tj X "list.append" f8:=by
 intro pins s σ H x vs v us Q I rx rv h;obtain⟨l,xs,y,rfl,rfl,hH,hz,q⟩:=h;cases rx;obtain⟨u,rfl,ru⟩:=rv.one;obtain⟨z,its,n,r,hl,e⟩:=I.lstM hH;refine JY F.slot_list_append ⟨_,e,rfl⟩ F.entry_list_append (F.args_list_append_2 _ _) (PySem.list_append l its.toArray n u (by rw[HJ]; omega)) ⟨e,?_⟩;refine⟨.non,_,I.lset (its':=its++[u]) hH e (by simp) (r.append (.cons ru .nil)) ?_,rfl,q⟩;rw[HP,List.length_singleton];omega
def s0:R2:=λx y H Q=>∃l k xs,x=.ref l/\y=.int k/\Rd H l (.lst xs) /\ -(2 ^ 63)<=k/\k<2 ^ 63/\xs.length * k.toNat<=sizeLine /\
 ∀p,H p=none->Q (.ref p) (upd H p (.lst (List.replicate k.toNat xs).flatten))
def uj (xs:List α)(k:Nat):(List.replicate k xs).flatten.length=k * xs.length:=by
 induction k with
 | zero=>simp
 | succ k ih=>rw[List.replicate_succ,List.flatten_cons,HP,ih,Nat.succ_mul,Nat.add_comm]
def Gk:OpR X (binaryOp .Mult) s0:=by
 intro pins s σ H x y v u Q I rx ry h;obtain⟨l,k,xs,rfl,rfl,hH,h1,h2,hz,q⟩:=h;cases rx;obtain⟨t,rfl⟩:=ry;obtain⟨z,its,n,r,e⟩:=hH.ok I.hok;have hl:=r.length;have hlen:its.toArray.size * k.toNat<=sizeLine:=by rw[HJ,<-hl]; exact hz
 have hcap:¬its.toArray.size * k.toNat > (2 ^ 63 - 1) / 8:=by
  have:(sizeLine:Nat)<=(2 ^ 63 - 1) / 8:=by decide
  omega
 have hfit:¬(!Builtin.List.listFitsIndex k)=true:=by
  rw[fitsIndex_both h1 h2];exact Im
 have hlong:¬Builtin.List.listTooLong (its.toArray.size * k.toNat)=true:=by
  rw[wT hlen];exact Im
 have hnew:List.foldl (λx1 x2=>x1++x2) #[] (List.replicate (if its.toArray.isEmpty=true then 0 else k.toNat) its.toArray)=(List.replicate k.toNat its).flatten.toArray:=by
  have f0:∀m:Nat,List.foldl (λx1 x2=>x1++x2) #[] (List.replicate m its.toArray)=(List.replicate m its).flatten.toArray:=λm=>by
   have:=sP its m [];rw[List.nil_append] at this;exact this
  rw[f0];cases its with
  | nil=>simp
  | cons a r'=>rw[if_neg (by simp)]
 refine wpAny_binaryOp_repeat_ref (T := "list") (U := "int") (by decide) ⟨_,e,rfl⟩ (λs'=>typeIs_int s' k t) noFill_list_mul F.fills_int_mul F.slot_int_rmul repeat_list F.slot_int_index.lookup
  (JY F.slot_int_rmul (typeIs_int s k t) F.entry_int_rmul (F.args_int_rmul_2 _ _) (int___rmul___int_list k t l its.toArray n)
   ⟨e,rfl,⟨_,e,rfl⟩,JY F.slot_list_mul ⟨_,e,rfl⟩ F.entry_list_mul (F.args_list_mul_2 _ _) (AutoListH.list___mul___list_int_3 l its.toArray n k t hfit hcap hlong) ⟨e,?_⟩⟩)
 rw[hnew];exact⟨.ref _,_,I.lnew (t':=s.toks) (r.rep k.toNat) (by rw[uj,Nat.mul_comm]; exact hz),rfl,q _ I.fresh⟩
end
section
variable {prog:Program}{w:World}{A:Around}{E:Value->Shared->Prop}{s:Shared}
end
section
variable {X:Cx}
end
end L2
namespace Att
open PySem PySem.W PySem.Calls PyProof.Rows
def G3:∀(ns:am) (vs:aq),WellAll P h vs (ns.map WData.int)->IntsAre vs ns:=by
 intro ns;induction ns with
 | nil=>
  intro vs w;rw[List.map_nil] at w;cases w;exact .nil
 | cons n ns ih=>
  intro vs w;rw[HQ] at w;cases w with
  | cons a b=>
   cases a;exact .cons _ _ (ih _ b)
def EO {l:OpenLaw}{n:Nat}(hn:l.most=some n){P:Params}{h:Heap}{args:List WData}{vals:aq}
  (hpre:l.row.toRowW.claim.pre args=true)(hwl:WellAll P h vals args) :
  ∃a vs ns,vals=[Value.ref a]/\args=[WData.list (ns.map WData.int)]/\h.get? a=some { cls:=.type "list",data:=.seq vs.toArray }/\IntsAre vs ns/\ns.length<=n:=by
 have hsh:WShape.hasAll [] args [.list .int]=true:=(pre_splitW hpre).1;have hc:l.pre.holds [] { args:=args }=true:=(pre_splitW hpre).2;obtain⟨d,r,rfl,h1,h2⟩:=hasAllW_cons hsh;obtain rfl:=hasAllW_nil h2;obtain⟨xs,rfl,h3⟩:=hasW_list h1;obtain⟨ns,rfl⟩:=items_int h3;have hlen:ns.length<=n:=by
  unfold OpenLaw.pre at hc;have h4:(WTm.not (.lt (.lit (.int (n:Int))) (.len (.arg 0)))).holds [] { args:=[.list (ns.map .int)] }=true:=by
   have h4:=(holds_andW hc).1;rw[hn] at h4;exact h4
  have h5:=condW_of h4 (w_not (w_lt w_lit (w_len_list (w_arg rfl))));rw[HG] at h5;refine Nat.le_of_not_lt λq=>?_;have q':(n:Int)<((ns.length:Nat):Int):=by omega
  first
   | (rw[HS q'] at h5; exact absurd h5 (by decide))
   | (simp at h5; omega)
 cases hwl with
 | cons w1 w2=>
  cases w2;cases w1 with
  | list ho hall=>exact⟨_,_,ns,rfl,rfl,ho,G3 ns _ hall,hlen⟩
def Fo (l:OpenLaw)(args:List WData):l.row.toRowW.claim.post args (.bool true) args=true:=
 postW_of (r:=l.row.toRowW) (X:=(true == true))
  (show WShape.has [] (.bool true) .bool=true by first | rfl | decide | simp[WShape.has,WShape.arms,WShape.armsAll])
  (show (WTm.eq .res (.lit (.bool true))).value [] { args:=args,res:=some (.bool true),after:=args }=some (.bool (true == true)) from w_eq_bool (w_res rfl) w_lit) rfl
def attach_call {l:OpenLaw}{n:Nat}{q:Program}{loose:ar}{XP:(Str->aA)->Heap->Prop}{YP:World->Heap->Prop}{d:DefRec}
  (hn:l.most=some n)(hdf:d.params.defaults=[])
  (call:∀(w:World) (s₀ s₁:Shared) (mg mb:Str->aA) (fa:Addr) (o:Obj) (pm cd doc:Value) (a:Addr) (vs:aq) (ns:am),
   Ground q loose [] XP w s₀ mg mb s₁.heap->YP w s₁.heap ->
   s₁.heap.get? fa=some o->o.data=.func (docDef d.name d.params d.body d.scope pm cd doc)->s₁.heap.CodeRec cd d.name->mg d.name=some (.ref fa) ->
   s₁.heap.get? a=some { cls:=.type "list",data:=.seq vs.toArray }->IntsAre vs ns->ns.length<=n->s₁.gens = #[] ->
   codeAny (model l.prog w) callerA (.call (.ref fa) ⟨[.ref a],[]⟩) (λr s'=>r=.ok (.ret (.bool true))/\OldK s₁.heap s'.heap/\s'.os=s₁.os/\AllBare s'.gens) s₁) :
  WalkO q loose XP YP l.row.toRowW d [] (λf vs=>PySem.call f vs):=by
 intro w s₀ s₁ mg mb G Y fa o pm cd doc dV kV ho hd hcd hD hmg hg args vals as hpre hlay hrd hwl hlo;obtain rfl:dV=.none:=Dflts.none hD hdf;obtain rfl:kV=.none:=Dflts.noKw hD;obtain⟨a,vs,ns,rfl,rfl,hobj,hints,hlen⟩:=EO hn hpre hwl;refine enter_call (Kl (call w s₀ s₁ mg mb fa o pm cd doc a vs ns G Y ho (fd_plain hd) hcd hmg hobj hints hlen hg) λr s' hq=>?_);obtain⟨rfl,h2,h3,h4⟩:=hq;exact⟨.inl ⟨.bool true,.bool true,[],rfl,λ_=>rfl,.bool true,Fo l _,λ_=>⟨List.Pairwise.nil,λ_ hm=>(nomatch hm)⟩⟩,h2,h3,h4⟩
section
variable {prog:Program}{w:World}{A:Around}{E:Value->Shared->Prop}{s:Shared}{K:Frag}
end
end Att
namespace L2
open PySem PySem.Spec PyProof.Rows
theorem uY:∀{vs:aq} {ns:am},IntsAre vs ns->Vals (ns.map V.int) vs
 | _,_,.nil=>.nil
 | _,_,.cons n t h=>.cons ⟨t,rfl⟩ (uY h)
def jT (H:Hp):Prop:=∀b,H b=none\/∃o xs,H b=some (.frz o (.lst xs))
def Fq {P:Program}{w:World}{K:bn}{mg mb:Str->aA}{CX:gy}{k:Nat}{fa a:Addr}{fd:FuncData}{x:Str}{sp:Sp}{s₁:Shared}{vs:aq}{ns:am}
  (KX:K.In s₁.heap)(hns:s₁.heap.Ns mainGlobals mg)(hb:s₁.heap.Ns builtinsNs mb)(hbb:∀x:Str,x ≠ "__name__" -> mb x=bootBuiltins x)(hlim:s₁.heap.NoLimit)(hg:s₁.gens = #[])
  (ha:s₁.heap.get? a=some { cls:=.type "list",data:=.seq vs.toArray })(hi:IntsAre vs ns)(hl:ns.length<=sizeLine)(hr:Room k callerA)
  (F:∀base:Heap,K.In base->base.Ns mainGlobals mg->FnOk P w K mg base CX k fa fd [x] sp)(hbind:∀(s:Shared) (u:Value),BindsTo s fd ⟨[u],[]⟩ [(x,u)])
  (hsp:∀H:Hp,jT H->SqL K H a (ns.map V.int)->sp [.ref a] H (λv _=>v=.bl true) λ_ _ _=>False)
  (hCX:∀H e s',CX [] H s₁ (λ_ _ _=>False) e s'->False) :
  codeAny (model P w) callerA (.call (.ref fa) ⟨[.ref a],[]⟩) (λr s'=>r=.ok (.ret (.bool true))/\OldK s₁.heap s'.heap/\s'.os=s₁.os/\AllBare s'.gens) s₁:=by
 have rv:=uY hi;have lenV:=hi.length;have core:∀H:Hp,jT H->SqL K H a (ns.map V.int)->HOk P w H s₁.heap->(∀b,H b≠none->b=a)->(H a≠none->K.lookup a=none) ->
   codeAny (model P w) callerA (.call (.ref fa) ⟨[.ref a],[]⟩) (λr s'=>r=.ok (.ret (.bool true))/\OldK s₁.heap s'.heap/\s'.os=s₁.os/\AllBare s'.gens) s₁:=by
  intro H hO hS hok hA hK;have base_of:∀{b:Addr} {o:Obj},s₁.heap.get? b=some o->H b=none->(eH s₁.heap H).get? b=some o:=λe n=>Bg e n;have noA:∀{b:Addr} {o:Obj} {es:Array DictEntry} {ep:Nat},s₁.heap.get? b=some o->o.data=.dict es ep->H b=none:=λ{b o es ep} e d=>by
   cases q:H b with
   | none=>rfl
   | some u=>
    have e':b=a:=hA b (by rw[q]; simp);subst e';rw[ha] at e; cases e;have d':Data.seq vs.toArray _=Data.dict es ep:=d;cases d'
  have nsK:∀{b:Addr} {m:Str->aA},s₁.heap.Ns b m->(eH s₁.heap H).Ns b m:=λ{b m} ⟨o,es,ep,e,d,r⟩=>⟨o,es,ep,base_of e (noA e d),d,r⟩
  have hKb:K.In (eH s₁.heap H):=λb o e=>base_of (KX b o e) (by
   cases q:H b with
   | none=>rfl
   | some u=>
    have e':b=a:=hA b (by rw[q]; simp);subst e';rw[hK (by rw[q]; simp)] at e; cases e)
  have hM:Mod K mg (eH s₁.heap H):=⟨hKb,nsK hns,⟨mb,nsK hb,hbb⟩,let ⟨mc,h1,h2⟩:=hlim; ⟨mc,nsK h1,h2⟩⟩
  have e0:Env0 P w K mg (eH s₁.heap H) callerA [] s₁ H:=⟨rfl,hM,λb o e=>CV e,KW (AG _ _),trivial,λb hb=>absurd (show b∈([]:ao) from hb) (by simp),hok,.of_eq hg⟩
  refine Kl ((F _ hKb (nsK hns)).run callerA [] s₁ H ⟨[.ref a],[]⟩ [.ref a] [.ref a] _ _ hr e0 (hbind s₁ (.ref a)) (.cons rfl .nil) (hsp H hO hS)) λr s' h=>?_;cases r with
  | error e=>exact (hCX H e s' h).elim
  | ok fl=>
   cases fl with
   | next=>exact False.elim h
   | brk=>exact False.elim h
   | cont=>exact False.elim h
   | ret u=>
    obtain⟨v,H',os,bare,un,hok',r',q⟩:=h;have q':v=.bl true:=q;subst q';obtain rfl:u=Value.bool true:=r';refine⟨rfl,OldK.of_keep λb o e=>?_,os,bare⟩;cases q:H b with
    | none=>exact un.keep b o e q (by intro z; exact absurd (show b∈([]:ao) from z) (by simp)) (by simp)
    | some u=>
     rcases hO b with z | ⟨ob,xs,z⟩
     .rw[q] at z; cases z
     .have z2:=un.frzs b ob _ z;obtain⟨e1,_⟩:=hok b _ z;obtain⟨e2,_⟩:=hok' b _ z2;rw[e] at e1; cases e1;exact e2
 cases hk:K.lookup a with
 | some o=>
  have e:=KX a o hk;rw[ha] at e;cases e;refine core (λ_=>none) (λ_=>.inl rfl) (.inr ⟨_,vs.toArray,_,hk,rfl,rfl,rfl,by rw[HJ,lenV]; exact hl,by simpa using rv⟩) (λb u z=>by have z':(none:Option HO)=some u:=z; cases z') (λb z=>absurd rfl z) λz=>absurd rfl z
 | none=>
  refine core (λb=>if b=a then some (.frz { cls:=.type "list",data:=.seq vs.toArray } (.lst (ns.map V.int))) else none) (λb=>?_) (.inl (.inr ⟨{ cls:=.type "list",data:=.seq vs.toArray },if_pos rfl⟩)) (λb u z=>?_) (λb z=>?_) λ_=>hk
  .by_cases hb:b=a
   .exact .inr ⟨_,_,if_pos hb⟩
   .exact .inl (if_neg hb)
  .by_cases hb:b=a
   .have z':=(if_pos hb).symm.trans z;cases z';subst hb;exact⟨ha,by rw[HG]; exact hl,vs,_,rv,ha⟩
   .have z':=(if_neg hb).symm.trans z;cases z'
  .by_cases hb:b=a
   .exact hb
   .exact absurd (if_neg hb) z
end L2
namespace L2
open PySem PySem.Spec PyProof.Rows
end L2
namespace L2
open PySem PySem.Spec PyProof.Rows
noncomputable def eT (s:Stmt)(j:Nat):Stmt:=match s with
 | .ClassDef _ _ _ body _ _ _ _ _ _ _=>body.getD j (.Pass ⟨0,0,0,0⟩)
 | _=>.Pass ⟨0,0,0,0⟩
noncomputable def aY (s:Stmt):Arguments:=match s with
 | .FunctionDef _ a _ _ _ _ _ _ _ _=>a
 | _=>{ posonlyargs:=[],args:=[],vararg:=none,kwonlyargs:=[],kw_defaults:=[],kwarg:=none,defaults:=[] }
noncomputable def bj (s:Stmt):aG:=match s with
 | .FunctionDef _ _ b _ _ _ _ _ _ _=>b
 | _=>[]
noncomputable def cC (s:Stmt):Scope:=match s with
 | .FunctionDef _ _ _ _ _ _ sc _ _ _=>sc
 | _=>{ kind:=.function,names:=[],isGenerator:=false,isCoroutine:=false }
abbrev E0:St->XK:=λ_ _ _ _=>False
section
variable {P:Program}{w:World}{K:bn}{mg:Str->aA}{base:Heap}
end
section
variable {X:Cx}
end
def Same (H H':Hp):Prop:=∀b o,H b=some o->H' b=some o
def Same.trans (a:Same H H1)(b:Same H1 H2):Same H H2:=λc o h=>b c o (a c o h)
def Same.free (e:Same H H')(h:H' l=Option.none):H l=Option.none:=by
 cases q:H l with
 | none=>rfl
 | some o=>
  rw[e l o q] at h;cases h
def Same.seq {K:bn}{H H':Hp}{a:Addr}{xs:av}(e:Same H H')(h:SqL K H a xs):SqL K H' a xs:=by
 rcases h with (h | ⟨o,h⟩) | h
 .exact .inl (.inl (e _ _ h))
 .exact .inl (.inr ⟨o,e _ _ h⟩)
 .exact .inr h
end L2
end
section
namespace L2
open PySem PySem.W Builtin Builtin.ObjectAttr
structure Fly (h:Heap)(e T:Addr)(fl:Value):Prop where
 ex:∃oe vs oT ts,h.get? e=some oe/\oe.data=.fields vs/\vs[1]? = some (.ref T)/\h.get? T=some oT/\oT.data=.fields ts/\ts[3]? = some fl
 ne:T≠e
structure XStep (fr:ao)(e:Addr)(ch:ao)(h h':Heap):Prop where
 size:h.objs.size<=h'.objs.size
 keep:∀b o,h.get? b=some o->b≠e->b∉fr->b∉ch->h'.get? b=some o
 slot:∀b o,h.get? b=some o->b≠e->b∈fr->b∉ch->∃sl,h'.get? b=some { o with slots:=sl }
 exc:∀oe vs,h.get? e=some oe->oe.data=.fields vs->∃vs':aB,h'.get? e=some { oe with data:=.fields vs' }/\vs'.size=vs.size/\vs'[0]? = vs[0]?
 there:∀b o,h.get? b=some o->b≠e->∃o',h'.get? b=some o'
def BJ {o:Obj}{vs:aB}(hd:o.data=.fields vs)(f:aB->aB):o.mapFields f={ o with data:=.fields (f vs) }:=by
 obtain⟨c,d,dt,sl⟩:=o; subst hd; rfl
theorem XStep.trans (a:XStep fr e ch h1 h2)(b:XStep fr e ch h2 h3):XStep fr e ch h1 h3 where
 size:=bv a.size b.size
 keep:=λc o z n1 n2 n3=>b.keep c o (a.keep c o z n1 n2 n3) n1 n2 n3
 slot:=λc o z n1 n2 n3=>by
  obtain⟨sl,z1⟩:=a.slot c o z n1 n2 n3;obtain⟨sl',z2⟩:=b.slot c _ z1 n1 n2 n3;exact⟨sl',z2⟩
 exc:=λoe vs z hd=>by
  obtain⟨v1,z1,e1,e2⟩:=a.exc oe vs z hd;obtain⟨v2,z2,e3,e4⟩:=b.exc _ v1 z1 rfl;exact⟨v2,z2,e3.trans e1,e4.trans e2⟩
 there:=λc o z n1=>by
  obtain⟨o1,z1⟩:=a.there c o z n1;exact b.there c o1 z1 n1
def XStep.mono (a:XStep fr e ch h1 h2)(hf:∀b∈fr,b∈fr')(hc:∀b∈ch,b∈ch'):XStep fr' e ch' h1 h2 where
 size:=a.size
 keep:=λc o z n1 n2 n3=>a.keep c o z n1 (λq=>n2 (hf c q)) λq=>n3 (hc c q)
 slot:=λc o z n1 n2 n3=>by
  by_cases q:c∈fr
  .exact a.slot c o z n1 q λq=>n3 (hc c q)
  .exact⟨o.slots,a.keep c o z n1 q λq=>n3 (hc c q)⟩
 exc:=a.exc
 there:=a.there
section
variable {M:Model}{A:Around}{E:Value->Shared->Prop}{s:Shared}{base:Heap}{env:Env}{outer:List Env}{L e T:Addr}{Q:Unit->Shared->Prop}
def tH {oe:Obj}{vs:aB}{i:Nat}{x:Value}(he:s.heap.get? e=some oe)(hd:oe.data=.fields vs)(hi:i<vs.size)
  (hQ:∀h',h'.objs.size=s.heap.objs.size->h'.get? e=some { oe with data:=.fields (vs.setIfInBounds i x) }->(∀b,b≠e->h'.get? b=s.heap.get? b)->Q () { s with heap:=h' }):wpAny M A (setField (.ref e) i x) Q E s:=by
 refine K0 he hd hi (hQ _ (Heap.size_after_update ..) ?_ λb hb=>Kn _ _ (JG hb));rw[<-BJ hd (λws=>ws.setIfInBounds i x)];exact Js _ he (KA (K1 hd _))
def zW (hfr:A.frames=some (env::outer))(hl:s.heap.FunFrames base (env::outer))(hf:env.frame=some L)
  (he:s.heap.get? e=some oe)(hd:oe.data=.fields vs)(hz:1<vs.size)
  (hQ:∀h',Fly h' e s.heap.objs.size (rawInt L)->XStep ((env::outer).filterMap (·.frame)) e [] s.heap h'->Q () { s with heap:=h' }) :
  wpAny M A (do let a <-frameOf env; let pl <-entryPlaceOf L hadNext; let b <-EntryCells.newEntry head a .none (rawInt L) .none pl; setField (.ref e) 1 b) Q E s:=by
 have nfr:e∉(env::outer).filterMap (·.frame):=λhm=>by
  obtain⟨_,o,ho,hnf⟩:=hl.mem hm;rw[he] at ho;cases ho;exact hnf vs hd
 refine aU (wpAny_frameOf_fun hfr hl hf λh1 so=>aU (wpAny_entryPlaceOf λpl hpl=>?_));have z1:h1.get? e=some oe:=(so.2.1 e nfr).trans he;unfold EntryCells.newEntry newFields;refine aU (Ix ?_ (hpl.sizeOk5 _ _ _ _ _));generalize hto:({ cls:=.type "traceback",dict:=none,data:=.fields ([head,.ref L,.none,rawInt L,.none]++(if pl.isEmpty then List.replicate 6 Value.none else pl)).toArray }:Obj)=to;have dto:to.data=.fields ([head,.ref L,.none,rawInt L,.none]++(if pl.isEmpty then List.replicate 6 Value.none else pl)).toArray:=by rw[<-hto]
 have nft:to.isFreed=false:=KA dto;refine tH (bR _ z1) hd hz λh2 sz2 g2 k2=>?_;have lte:e<h1.objs.size:=bL z1;have gT:h2.get? h1.objs.size=some to:=(k2 _ (Ju lte)).trans (c9 _ nft);have sz1:h1.objs.size=s.heap.objs.size:=so.1;rw[<-sz1] at hQ;refine hQ h2 ⟨⟨_,_,to,_,g2,rfl,by simp[hz],gT,dto,by simp⟩,Ju lte⟩ ⟨?_,λb o z n1 n2 _=>?_,λb o z n1 _ _=>?_,λo ws z hw=>?_,λb o z n1=>?_⟩
 .rw[sz2];show s.heap.objs.size<=(h1.push to).objs.size;rw[Iq,sz1];omega
 .rw[k2 b n1];exact bR _ ((so.2.1 b n2).trans z)
 .obtain⟨sl,q⟩:=so.2.2 b o z;exact⟨sl,by rw[k2 b n1]; exact bR _ q⟩
 .rw[he] at z;cases z;rw[hd] at hw;cases hw;exact⟨_,g2,by simp,by rw[Array.getElem?_setIfInBounds_ne (by decide)]⟩
 .obtain⟨sl,q⟩:=so.2.2 b o z;exact⟨_,by rw[k2 b n1]; exact bR _ q⟩
def Da (hfr:A.frames=some (env::outer))(hl:s.heap.FunFrames base (env::outer))(hf:env.frame=some L)(F:Fly s.heap e T .none)
  (hQ:∀h',Fly h' e s.heap.objs.size (rawInt L)->XStep ((env::outer).filterMap (·.frame)) e [T] s.heap h'->Q () { s with heap:=h' }):wpAny M A (noteFrame (.ref e) env) Q E s:=by
 obtain⟨⟨oe,vs,oT,ts,he,hd,h1,hT,hdT,h3⟩,hne⟩:=F;unfold noteFrame;simp only[hf];refine aU (Jw he hd h1 ?_);rw[if_pos (show (Value.ref T != Value.none)=true from by simp)];refine aU (Jw hT hdT h3 ?_);rw[if_neg (show ¬((Value.none == rawInt L)=true) from by simp[rawInt])];refine aU (tH hT hdT (I0.mp h3).1 λh1' sz1 g1 k1=>?_);have nT:∀b o,s.heap.get? b=some o->(∀vs,o.data≠.fields vs)->b≠T:=λb o hb hnf z=>by
  rw[z,hT] at hb;cases hb;exact hnf ts hdT
 have st:XStep ((env::outer).filterMap (·.frame)) e [T] s.heap h1':=⟨KW sz1.symm,λb o z _ _ n=>by rw[k1 b (by simpa using n)]; exact z,λb o z _ _ n=>⟨o.slots,by rw[k1 b (by simpa using n)]; exact z⟩,
  λo ws z hw=>⟨ws,by rw[k1 e (JG hne),z,<-hw],rfl,rfl⟩,λb o z _=>by
   by_cases q:b=T
   .rw[q]; exact⟨_,g1⟩
   .exact⟨o,by rw[k1 b q]; exact z⟩⟩
 refine zW (base:=base) (s:={ s with heap:=h1' }) hfr (hl.of_keeps λb o hb hnf=>⟨o,by rw[k1 b (nT b o hb hnf)]; exact hb,rfl⟩) hf (by rw[k1 e (JG hne)]; exact he) hd (I0.mp h1).1 λh2 F2 st2=>?_;rw[show ({ s with heap:=h1' }:Shared).heap.objs.size=s.heap.objs.size from sz1] at F2;exact hQ h2 F2 (st.trans (st2.mono (λ_ z=>z) λ_ z=>nomatch z))
def zM (F:Fly s.heap e T fl)(hQ:∀h',Fly h' e T .none->XStep [] e [T] s.heap h'->Q () { s with heap:=h' }):wpAny M A (setFlight (.ref e) none) Q E s:=by
 obtain⟨⟨oe,vs,oT,ts,he,hd,h1,hT,hdT,h3⟩,hne⟩:=F;unfold setFlight;refine aU (Jw he hd h1 ?_);rw[if_pos (show (Value.ref T != Value.none)=true from by simp)];refine tH hT hdT (I0.mp h3).1 λh' sz g k=>?_;refine hQ h' ⟨⟨oe,vs,_,_,by rw[k e (JG hne)]; exact he,hd,h1,g,rfl,by simp[(I0.mp h3).1]⟩,hne⟩ ⟨KW sz.symm,λb o z _ _ n=>by rw[k b (by simpa using n)]; exact z,(λb o z _ n _=>nomatch n),
  λo ws z hw=>⟨ws,by rw[k e (JG hne),z,<-hw],rfl,rfl⟩,λb o z _=>?_⟩
 by_cases q:b=T
 .rw[q]; exact⟨_,g⟩
 .exact⟨o,by rw[k b q]; exact z⟩
def Bi (hfr:A.frames=some (env::outer))(hl:s.heap.FunFrames base (env::outer))(hf:env.frame=some L)(F:Fly s.heap e T .none)
  (hQ:∀h',Fly h' e s.heap.objs.size .none->XStep ((env::outer).filterMap (·.frame)) e [T,s.heap.objs.size] s.heap h'->Q () { s with heap:=h' }):wpAny M A (leaving env (.ref e)) Q E s:=by
 unfold leaving;refine aU (Da hfr hl hf F λh2 F2 s2=>zM (s:={ s with heap:=h2 }) F2 λh3 F3 s3=>?_);exact hQ h3 F3 ((s2.mono (λ_ z=>z) λ_ z=>by simp at z; simp[z]).trans (s3.mono (λ_ z=>nomatch z) λ_ z=>by simp at z; simp[z]))
end
section
variable {prog:Program}{w:World}{A:Around}{E:Value->Shared->Prop}{s:Shared}{K:Frag}{C x:Addr}{fI:Value}{tl:ao}{mA:Str->aA}{name:Str}{v:Value}
end
section
variable {prog:Program}{w:World}{A:Around}{E:Value->Shared->Prop}{s:Shared}{K:Frag}{C x:Addr}{fI:Value}{tl:ao}{mA:Str->aA}{name:Str}{v:Value}
end
section
variable {prog:Program}{w:World}{A:Around}{E:Value->Shared->Prop}{s:Shared}{K:Frag}{C x:Addr}{fI:Value}{tl:ao}{mA:Str->aA}{name:Str}{v:Value}
end
section
variable {prog:Program}{w:World}{A:Around}{E:Value->Shared->Prop}{s:Shared}{K:Frag}{C:Addr}{fI:Value}{tl:ao}
end
section
variable {M:Model}{A:Around}{E:Value->Shared->Prop}{s:Shared}{env:Env}{K:Frag}{C:Addr}{tl:ao}
end
end L2
end
section
namespace L2
open PySem PySem.Spec PyProof.Rows
noncomputable def cx (env:Env)(names:List (Str×NameKind))(acc:ai):ai:=
 names.foldl (λcs x=>if x.2 == NameKind.free then (x.1,(env.cells.lookup x.1).getD 0)::cs else cs) acc
theorem vE {α β:Type}{f:α->β->Sem (ForInStep β)}(g:β->α->β):∀(l:List α) (c:β),(∀x∈l,∀c,f x c=pure (.yield (g c x)))->forIn l c f=pure (l.foldl g c)
 | [],_,_=>rfl
 | x::r,c,h=>by
  rw[List.forIn_cons,h x IF c,pure_bind];exact vE g r (g c x) λy hy=>h y (bM _ hy)
theorem uv:∀(names:List (Str×NameKind)) (acc:ai),(∀y∈names,y.2=NameKind.free->∃c,env.cells.lookup y.1=some c)->(∀x c,acc.lookup x=some c->env.cells.lookup x=some c) ->
  (∀x c,(cx env names acc).lookup x=some c->env.cells.lookup x=some c)/\(∀y∈names,y.2=NameKind.free->∃c,(cx env names acc).lookup y.1=some c)/\∀x c,acc.lookup x=some c->∃c',(cx env names acc).lookup x=some c'
 | [],acc,_,ha=>⟨ha,(λ_ h=>nomatch h),λx c h=>⟨c,h⟩⟩
 | (n,k)::r,acc,hf,ha=>by
  by_cases hk:k=NameKind.free
  .subst hk;obtain⟨c,hc⟩:=hf (n,.free) bN rfl;have e:cx env ((n,NameKind.free)::r) acc=cx env r ((n,c)::acc):=by
    have hc':env.cells.lookup n=some c:=hc;show cx env r (if (NameKind.free == NameKind.free)=true then (n,(env.cells.lookup n).getD 0)::acc else acc)=_;rw[if_pos (by decide),hc'];rfl
   rw[e];obtain⟨h1,h2,h3⟩:=uv r ((n,c)::acc) (λy hy=>hf y (bM _ hy)) λx d h=>by
    rw[List.lookup_cons] at h;split at h
    .rename_i hx;have hx':x=n:=by simpa using hx
     cases h;rw[hx'];exact hc
    .exact ha x d h
   refine⟨h1,λy hy hyf=>?_,λx d h=>?_⟩
   .rcases bQ hy with rfl | hy
    .exact h3 n c (by rw[List.lookup_cons]; simp)
    .exact h2 y hy hyf
   .by_cases hx:x=n
    .subst hx;exact h3 x c (by rw[List.lookup_cons]; simp)
    .refine h3 x d ?_;rw[List.lookup_cons,show (x == n)=false from by simpa using hx];exact h
  .have e:cx env ((n,k)::r) acc=cx env r acc:=by
    show cx env r (if (k == NameKind.free)=true then (n,(env.cells.lookup n).getD 0)::acc else acc)=_;rw[if_neg (by simpa using hk)]
   rw[e];obtain⟨h1,h2,h3⟩:=uv r acc (λy hy=>hf y (bM _ hy)) ha;refine⟨h1,λy hy hyf=>?_,h3⟩;rcases bQ hy with rfl | hy
   .exact absurd hyf hk
   .exact h2 y hy hyf
def xW {scope:Scope}{env:Env}(hf:∀y∈scope.names,y.2=NameKind.free->∃c,env.cells.lookup y.1=some c) :
  ∃cl,closureFor scope env=pure cl/\(∀x c,cl.lookup x=some c->env.cells.lookup x=some c)/\∀y∈scope.names,y.2=NameKind.free->∃c,cl.lookup y.1=some c:=by
 obtain⟨h1,h2,_⟩:=uv (env:=env) scope.names [] hf (λ_ _ h=>nomatch h);refine⟨cx env scope.names [],?_,h1,h2⟩;simp only[closureFor];rw[vE (λcs x=>if x.2 == NameKind.free then (x.1,(env.cells.lookup x.1).getD 0)::cs else cs) scope.names [] λx hx c=>?_]
 .rfl
 .obtain⟨n,kind⟩:=x;by_cases hk:kind=NameKind.free
  .subst hk;obtain⟨a,ha⟩:=hf (n,.free) hx rfl;have ha':env.cells.lookup n=some a:=ha;simp only[show (NameKind.free == NameKind.free)=true from by decide,if_true,cellOf,ha'];rfl
  .have hb:(kind == NameKind.free)=false:=by simpa using hk
   simp only[hb,Ia,if_false]
noncomputable def bt (X:Cx)(N':ar)(scope:Scope)(cl:ai)(C:Addr)(s:Shared)(H:Hp)(fp:ao)(E:Value->Shared->Prop):Cx:=
 { X with N:=N',s₀:=s,H₀:=H,env:=compEnvC scope cl C X.env,outer:=X.stack,stack:=X.stack,ex:=fp,fn:=λx=>scope.names.lookup x == some .cell,pn:=[],xe:=E }
noncomputable def compOk (sc:Scope)(N N':ar)(caps:List aC)(scope:Scope):Bool:=
 scope.kind == .function&&scope.names.all (λy=>(y.2 != .cell||scope.names.lookup y.1 == some .cell)&&(y.2 != .local||scope.names.lookup y.1 == some .local)&&(y.2 != .free||(sc.names.lookup y.1 == some .cell||sc.names.lookup y.1 == some .free))) &&
 caps.length == N'.length&&decide N'.Nodup&&(caps.zip N').all λp=>match p.1 with
  | none=>true
  | some j=>N[j]? == some p.2&&scope.names.lookup p.2 == some .free
structure CompS (sc:Scope)(N N':ar)(caps:List aC)(scope:Scope):Prop where
 kind:scope.kind=.function
 cells:∀y∈scope.names,y.2=.cell->scope.names.lookup y.1=some .cell
 locs:∀y∈scope.names,y.2=.local->scope.names.lookup y.1=some .local
 free:∀y∈scope.names,y.2=.free->sc.names.lookup y.1=some .cell\/sc.names.lookup y.1=some .free
 len:caps.length=N'.length
 nd:N'.Nodup
 cap:∀(i j:Nat) (x:Str),caps[i]? = some (some j)->N'[i]? = some x->N[j]? = some x/\scope.names.lookup x=some .free
def CompS.of (h:compOk sc N N' caps scope=true):CompS sc N N' caps scope:=by
 unfold compOk at h;simp only[HF,List.all_eq_true,HU,Ig] at h;obtain⟨⟨⟨⟨hk,hn⟩,hl⟩,hnd⟩,hc⟩:=h;refine⟨?_,λy hy e=>?_,λy hy e=>?_,λy hy e=>?_,hl,hnd,λi j x h1 h2=>?_⟩
 .cases hh:scope.kind <;> rw[hh] at hk <;> first | rfl | (exact absurd hk (by decide))
 .have:=(hn y hy).1.1;rw[e] at this;simpa using this
 .have:=(hn y hy).1.2;rw[e] at this;simpa using this
 .have:=(hn y hy).2;rw[e] at this;simpa using this
 .have hz:(caps.zip N')[i]? = some (some j,x):=by rw[List.getElem?_zip_eq_some]; exact⟨h1,h2⟩
  have:=hc _ (HL hz);simpa using this
noncomputable def iH (σ:St):aC->Option V
 | none=>none
 | some j=>(σ[j]?).join
section
variable {prog:Program}{w:World}{A:Around}{R:Result->Shared->Prop}{s:Shared}
theorem Cf (I:Nat->Shared->Prop)
  (turn:∀n s,I n s->wpAny (model prog w) A (pyNext it) (λr s₁=>match r with
   | none=>R (.ok .next) s₁
   | some v=>wpAny (model prog w) A (letOwnedTupleGo target it v) (λ_ s₀=>wpAny (model prog w) A (assign target env v) (λ_ s₂=>
     wpAny (model prog w) A (forIn ifs true λc r=>if r=true then do let ok <-isTrue c env (eval c env); pure (ForInStep.yield ok) else pure (ForInStep.yield r)) (λok s₃=>
      if ok=true then wpAny (model prog w) A (eval elt env) (λx s₄=>
       wpAny (model prog w) A (call (.builtin "list.append") [acc,x]) (λ_ s₅=>∃m,m<n/\I m s₅) (notedBy (model prog w) A env λe s'=>R (.error e) s') s₄) (notedBy (model prog w) A env λe s'=>R (.error e) s') s₃
      else ∃m,m<n/\I m s₃) (notedBy (model prog w) A env λe s'=>R (.error e) s') s₂) (notedBy (model prog w) A env λe s'=>R (.error e) s') s₀) (notedBy (model prog w) A env λe s'=>R (.error e) s') s₁) (notedBy (model prog w) A env λe s'=>R (.error e) s') s)
  (n:Nat)(h:I n s) :
  codeAny (model prog w) A (.compLoop (.ListComp elt [⟨target,iter,ifs,0⟩] scope pos) 0 it acc env) R s:=by
 refine codeAny_loop rfl I (λn s hI=>?_) n h;show wpAny _ A ((compTurn (.ListComp elt [⟨target,iter,ifs,0⟩] scope pos) 0 it acc env).onRaise (λx=>do noteFrame x env; theTreesLotGoes x)) _ _ s;refine wpAny_noted ?_;rw[compTurn_list];refine aU (wpAny_standAt (aU (IY (turn n s hI) (λr s₁ h₁=>?_) λ_ _ h'=>h')));cases r with
 | none=>exact be h₁
 | some v=>
  refine aU (IY h₁ (λ_ s₀ h₀=>?_) λ_ _ h'=>h');refine aU (IY h₀ (λ_ s₂ h₂=>aU (IY h₂ (λok s₃ h₃=>?_) λ_ _ h'=>h')) λ_ _ h'=>h');cases ok with
  | false=>exact be ⟨rfl,h₃⟩
  | true=>
   exact aU (aU (IY h₃ (λx s₄ h₄=>aU (IY h₄ (λ_ s₅ h₅=>be (be ⟨rfl,h₅⟩)) λ_ _ h'=>h')) λ_ _ h'=>h'))
end
def PTs (X:Cx)(ifs:au)(t:TT):Prop:=
 ∀(pins:ah) (s:Shared) (σ:St) (H:Hp) (Q:Bool->Hp->Prop),Inv X pins σ H s->t σ H Q ->
  wpAny (model X.prog X.w) X.A (forIn ifs true λc r=>if r=true then do let ok <-isTrue c X.env (eval c X.env); pure (ForInStep.yield ok) else pure (ForInStep.yield r)) (TP X pins σ Q) X.xe s
def gQ:TT:=λ_ H Q=>Q true H
def yS:PTs X [] gQ:=λ_ _ _ H _ I h=>wpAny_tests_nil ⟨H,I,h⟩
def E7 (h:PT X c t):PTs X [c] t:=λpins s σ H Q I hq=>wpAny_tests_one (h pins s σ H Q I hq)
theorem PTs.nox (h:PTs X.nox ifs t):PTs X ifs t:=λpins s σ H Q I hw=>
 IY (h pins s σ H Q (I.wish _) hw) (λ_ _ ⟨H',I',q⟩=>⟨H',I'.unwish,q⟩) λ_ _ f=>f.elim
theorem PG.nox (h:PG X.nox tg t):PG X tg t:=λpins s σ H v u Q I r hw=>
 IY (h pins s σ H v u Q (I.wish _) r hw) (λ_ _ ⟨σ',H',I',q⟩=>⟨σ',H',I'.unwish,q⟩) λ_ _ f=>f.elim
def iP (J:It)(l:Addr)(g:TG)(tt:TT)(te:TE)(Q:VK)(σ0:St)(H:Hp):Prop:=
 ∃W:Nat->Nat->av->St->Hp->Prop,(∃m,W 0 m [] σ0 (upd H l (.lst [])))/\∀i m ys σ H,W i m ys σ H ->
  (J.stop i H/\Q (.ref l) H)\/(J.go i H/\∃N:av->St->Hp->Prop,(∀ys σ' H',N ys σ' H'->∃m',m'<m/\W (i+1) m' ys σ' H') /\
   ∀x H',J.yld i H x H'->g x σ H' λσ2 H3=>tt σ2 H3 λc H4=>if c=true then te σ2 H4 λv H5=>∃ys',H5 l=some (.lst ys')/\ys'.length<sizeLine/\N (ys'++[v]) σ2 (upd H5 l (.lst (ys'++[v]))) else N ys σ2 H4)
def f9 (wi:TI)(caps:List aC)(g:TG)(tt:TT)(te:TE):TE:=λσ H Q=>wi σ H λJ H1=>∀l,H1 l=none->iP J l g tt te Q (caps.map (iH σ)) H1
section
variable {X:Cx}{elt iter tg:Expr}{ifs:au}{scope:Scope}{pos:Pos}{wi:TI}{g:TG}{tt:TT}{te:TE}{N':ar}{caps:List aC}
def sh :
  ∀k,(relabel scope env).names.lookup x=some k->scope.names.lookup x=some k\/(k=.cell/\scope.names.lookup x=some .free):=by
 have go:∀(g:Str×NameKind->Str×NameKind),(∀p,g p=p\/(p.2=.free/\g p=(p.1,.cell)))->∀(names:List (Str×NameKind)) k,(names.map g).lookup x=some k->names.lookup x=some k\/(k=.cell/\names.lookup x=some .free):=by
  intro g hg names;induction names with
  | nil=>intro k h; exact nomatch h
  | cons p r ih=>
   intro k h;rw[HQ] at h;obtain⟨n,kn⟩:=p;rcases hg (n,kn) with e | ⟨e1,e2⟩
   .rw[e,List.lookup_cons] at h;rw[List.lookup_cons];cases hx:x == n with
    | true=>rw[hx] at h; exact .inl h
    | false=>rw[hx] at h; exact ih k h
   .rw[e2,List.lookup_cons] at h;rw[List.lookup_cons];cases hx:x == n with
    | true=>
     rw[hx] at h;have e1':kn=.free:=e1;rw[e1'];exact .inr ⟨(cQ h).symm,rfl⟩
    | false=>rw[hx] at h; exact ih k h
 refine go _ (λp=>?_) scope.names;obtain⟨n,k⟩:=p;by_cases hb:(k == NameKind.free&&env.scope.kind == .function&&env.kindOf n == some .cell)=true
 .refine .inr ⟨?_,if_pos hb⟩;simp only[HF,HU] at hb;exact hb.1.1
 .exact .inl (if_neg hb)
theorem oZ:∀(names:List (Str×NameKind)) (n:Nat) (acc:ai),(∀y∈names,y.2=.cell->y.1≠x)->(cellsFrom n names acc).lookup x=acc.lookup x
 | [],_,_,_=>rfl
 | (m,k)::r,n,acc,h=>by
  have hr:=λy hy=>h y (bM _ hy);unfold cellsFrom;split
  .rename_i hk;rw[oZ r _ _ hr,List.lookup_cons,show (x == m)=false from by simpa using λe=>h (m,k) IF (by simpa using hk) (Eq.symm e)]
  .exact oZ r n acc hr
theorem sR {x:Str}{lo:Nat}:∀(names:List (Str×NameKind)) (n:Nat) (acc:ai),lo<=n->(∃c,acc.lookup x=some c/\lo<=c)->∃c,(cellsFrom n names acc).lookup x=some c/\lo<=c
 | [],_,_,_,h=>h
 | (m,k)::r,n,acc,hn,h=>by
  unfold cellsFrom;split
  .refine sR r (n+1) _ (by omega) ?_;rw[List.lookup_cons];cases x == m with
   | true=>exact⟨n,rfl,hn⟩
   | false=>exact h
  .exact sR r n acc hn h
theorem oh {x:Str}{lo:Nat}:∀(names:List (Str×NameKind)) (n:Nat) (acc:ai),lo<=n->(x,NameKind.cell)∈names->∃c,(cellsFrom n names acc).lookup x=some c/\lo<=c
 | (m,k)::r,n,acc,hn,h=>by
  unfold cellsFrom;rcases bQ h with e | h
  .cases e;rw[if_pos (by decide)];refine sR r (n+1) _ (by omega) ⟨n,?_,hn⟩;rw[List.lookup_cons]; simp
  .split
   .exact oh r _ _ (by omega) h
   .exact oh r _ _ hn h
structure CfOk (P:Str->Addr->Prop)(lo:Nat)(h:Heap)(cs:ai):Prop where
 src:∀x c,cs.lookup x=some c->P x c\/(lo<=c/\h.IsCell c none)
 inj:∀x y c,cs.lookup x=some c->cs.lookup y=some c->x=y
 lt:∀x c,cs.lookup x=some c->c<h.objs.size
theorem qV {P:Str->Addr->Prop}{lo:Nat}:∀(names:List (Str×NameKind)) (h:Heap) (acc:ai),lo<=h.objs.size->CfOk P lo h acc->CfOk P lo (pushCells h names) (cellsFrom h.objs.size names acc)
 | [],_,_,_,x=>x
 | (m,k)::r,h,acc,hlo,x=>by
  unfold pushCells cellsFrom;split
  .have:=qV (P:=P) (lo:=lo) r (h.push { cls:=.type "cell",data:=.cell none }) ((m,h.objs.size)::acc) (by rw[Iq]; omega) ⟨λy c e=>?_,λy z c e e'=>?_,λy c e=>?_⟩
   .rwa [Iq] at this
   .rw[List.lookup_cons] at e;cases hy:y == m with
    | true=>rw[hy] at e; cases e; exact .inr ⟨hlo,_,c9 _ rfl,rfl⟩
    | false=>rw[hy] at e; exact (x.src y c e).imp id λq=>⟨q.1,q.2.keeps λb o e=>bR _ e⟩
   .rw[List.lookup_cons] at e e';cases hy:y == m with
    | true=>
     rw[hy] at e; cases e;cases hz:z == m with
     | true=>rw[HU] at hy hz; rw[hy,hz]
     | false=>rw[hz] at e'; exact absurd (x.lt z _ e') (Jo _)
    | false=>
     rw[hy] at e;cases hz:z == m with
     | true=>rw[hz] at e'; cases e'; exact absurd (x.lt y _ e) (Jo _)
     | false=>rw[hz] at e'; exact x.inj y z c e e'
   .rw[Iq];rw[List.lookup_cons] at e;cases hy:y == m with
    | true=>rw[hy] at e; cases e; exact Jq _
    | false=>rw[hy] at e; exact Ja (x.lt y c e)
  .exact qV r h acc hlo x
structure CsOk (X:Cx)(scope:Scope)(n:Nat)(h:Heap)(cs:ai):Prop where
 src:∀x c,cs.lookup x=some c->X.env.cells.lookup x=some c\/(n<=c/\h.IsCell c none)
 inj:∀x y c,cs.lookup x=some c->cs.lookup y=some c->x=y
 has:∀x,(scope.names.lookup x=some .cell\/scope.names.lookup x=some .free)->∃c,cs.lookup x=some c
 fr:∀x c,scope.names.lookup x=some .free->cs.lookup x=some c->X.env.cells.lookup x=some c
 own:∀x c,scope.names.lookup x=some .cell->cs.lookup x=some c->n<=c
def CsOk.mk' {X:Cx}{sc:Scope}{N N':ar}{caps:List aC}{scope:Scope}{pins:ah}{σ:St}{H:Hp}{s:Shared}{cl:ai}{c0:Value}(S:CompS sc N N' caps scope)(I:Inv X pins σ H s)
  (h1:∀x c,cl.lookup x=some c->X.env.cells.lookup x=some c)(h2:∀y∈scope.names,y.2=NameKind.free->∃c,cl.lookup y.1=some c) :
  CsOk X scope s.heap.objs.size (pushCells (s.heap.push { cls:=c0,data:=.dict #[] }) scope.names) (cellsFrom (s.heap.objs.size+1) scope.names cl):=by
 have ok:=qV (P:=λx c=>X.env.cells.lookup x=some c) (lo:=s.heap.objs.size) scope.names (s.heap.push { cls:=c0,data:=.dict #[] }) cl (by rw[Iq]; omega)
  ⟨λx c e=>.inl (h1 x c e),λx y c e e'=>I.ok.inj x y c (h1 x c e) (h1 y c e'),λx c e=>by
   obtain⟨v,o,ho,_⟩:=I.cell x c (h1 x c e);rw[Iq];exact Ja (bL ho)⟩
 rw[Iq] at ok;have nf:∀x,scope.names.lookup x=some .free->∀y∈scope.names,y.2=.cell->y.1≠x:=λx e y hy hk z=>by
  have:=S.cells y hy hk;rw[z,e] at this; cases this
 refine⟨ok.src,ok.inj,λx h=>?_,λx c e h=>?_,λx c e h=>?_⟩
 .rcases h with e | e
  .obtain⟨c,q,_⟩:=oh (lo:=0) scope.names (s.heap.objs.size+1) cl (ID _) (IM e);exact⟨c,q⟩
  .obtain⟨c,q⟩:=h2 _ (IM e) rfl;exact⟨c,(oZ _ _ _ (nf x e)).trans q⟩
 .rw[oZ _ _ _ (nf x e)] at h;exact h1 x c h
 .obtain⟨c',q,l⟩:=oh (lo:=s.heap.objs.size) scope.names (s.heap.objs.size+1) cl (Jp _) (IM e);rw[h] at q; cases q;exact l
def Gm
  (h:Q (newEnv scope s.heap.objs.size globals (cellsFrom (s.heap.objs.size+1) scope.names closure) qual none .none (some around) builtinsNs) { s with heap:=pushCells (s.heap.push { cls:=.type "dict",data:=.dict #[] }) scope.names }) :
  wpAny M A (newFunctionEnv scope globals closure [] qual none .none (some around)) Q E s:=by
 simp only[newFunctionEnv,Option.isSome_some,if_true];refine aU (wpAny_alloc ?_);refine aU (wpAny_layCells _ (λname kind cells=>by cases hkc:kind == NameKind.cell <;> simp[hkc]) _ _ _ _ ?_);rw[show ({ s with heap:=s.heap.push { cls:=.type "dict",data:=.dict #[] } }:Shared).heap.objs.size=s.heap.objs.size+1 from Iq ..];exact aU (be (be h))
def G2 (E:Value->Shared->Prop)(S:CompS X.env.scope X.N N' caps scope)(I:Inv X pins σ H s)(hC:s.heap.objs.size<=C)
 (O:CsOk X scope s.heap.objs.size h1 cl)(hf:∀b∈fp,cR X pins H b/\b<s.heap.objs.size) :
    (bt X N' scope cl C s H fp E).Ok where
  mod:=I.ok.mod
  kind:=S.kind
  glob:=I.ok.glob
  blt:=I.ok.blt
  above:=hC
  inj:=O.inj
  has:=λx hx=>by
    have hx':(relabel scope X.env).names.lookup x=some .cell\/(relabel scope X.env).names.lookup x=some .free:=hx;refine O.has x ?_;rcases hx' with q | q
    . exact (sh _ q).imp id λz=>z.2
    . rcases sh _ q with z | z
      . exact .inr z
      . exact absurd z.1 (by decide)
  cab:=λx c z e=>O.own x c (by
    have z':(scope.names.lookup x == some NameKind.cell)=true:=z;simpa using z') e
  hd:=I.ok.hd
  frames:=I.ok.frames
  stk:=.inl rfl
  exf:=λb hb=>⟨dh (fc (hf b hb).2 hC),λx c e=>(O.src x c e).elim (λq=>(hf b hb).1.2.2.2.2.1 x c q) λq z=>absurd (z ▸ (hf b hb).2) (Nat.not_lt.mpr q.1)⟩
  bs:=I.bs
  bsz:=bv I.ok.bsz I.sz
  noex:=λb o e hb=>by
    rcases (hf b hb).1.2.2.2.1 with z | z
    . exact I.ok.noex b o e z
    . exact absurd (fc (bL e) (bv I.ok.bsz z)) (Jo _)
  exfs:=λb hb z=>by
    rcases bQ (I.stkSub b z) with e | e
    . exact (hf b hb).1.2.1 e
    . exact (hf b hb).1.2.2.1 e
  funs:=I.stack
  frf:=I.stkFree
def Co (E:Value->Shared->Prop)(S:CompS X.env.scope X.N N' caps scope)(I:Inv X pins σ H s)
  (O:CsOk X scope s.heap.objs.size h1 cl)(hf:∀b∈fp,cR X pins H b/\b<s.heap.objs.size)
  (hns:h1.Ns s.heap.objs.size m)(hk:∀b o,s.heap.get? b=some o->h1.get? b=some o) :
  Inv (bt X N' scope cl s.heap.objs.size s H fp E) [] (caps.map (iH σ)) H { s with heap:=h1,toks:=tk } where
 ok:=G2 E S I (bC _) O hf
 os:=rfl
 bare:=I.bare
 base:=Un.kept hk
 loc:=by
  refine⟨m,hns,λi x v e1 e2 e3=>?_⟩;rw[HR] at e2;cases ec:caps[i]? with
  | none=>rw[ec] at e2; cases e2
  | some oc=>
   rw[ec] at e2;cases oc with
   | none=>cases e2
   | some j=>
    have e2':(σ[j]?).join=some v:=cQ e2;have e4:σ[j]? = some (some v):=by
     cases q:σ[j]? with
     | none=>rw[q] at e2'; cases e2'
     | some o=>rw[q] at e2'; cases o with
      | none=>cases e2'
      | some v'=>cases e2'; rfl
    obtain⟨hN,hfr⟩:=S.cap i j x ec e1;have hkd:X.env.kindOf x=some .cell\/X.env.kindOf x=some .free:=S.free _ (IM hfr) rfl;obtain⟨m0,_,hl⟩:=I.loc;obtain⟨u,r,l⟩:=hl j x v hN e4 (hkd.elim (λz=>.inr (.inl z)) λz=>.inr (.inr z));refine⟨u,r,?_⟩;rcases l with ⟨z,_⟩ | ⟨_,c,hc,hcell⟩
    .rcases hkd with q | q <;> rw[q] at z <;> cases z
    .obtain⟨c',hc'⟩:=O.has x (.inr hfr);have:c'=c:=by
      have:=O.fr x c' hfr hc';rw[hc] at this; exact (cQ this).symm
     subst this;have e3':(relabel scope X.env).names.lookup x=some .local\/(relabel scope X.env).names.lookup x=some .cell\/(relabel scope X.env).names.lookup x=some .free:=e3;refine .inr ⟨?_,c',hc',?_⟩
     .rcases e3' with q | q | q
      .rcases sh _ q with z | z
       .rw[hfr] at z; cases z
       .exact absurd z.1 (by decide)
      .exact .inl q
      .exact .inr q
     .obtain⟨o,ho,hd⟩:=hcell;exact⟨o,hk _ o ho,hd⟩
 cell:=λx c e=>by
  rcases O.src x c e with q | q
  .obtain⟨v,o,ho,hd⟩:=I.cell x c q;exact⟨v,o,hk _ o ho,hd⟩
  .exact⟨none,q.2⟩
 free:=I.hok.fresh (bC _)
 freeC:=λx c e=>(O.src x c e).elim (I.freeC x c) λq=>I.hok.fresh q.1
 pin:=λp hp=>absurd (show p∈([]:ah) from hp) (by simp)
 hok:=I.hok.kept hk
 len:=by rw[HG]; exact S.len
def wM {pins:ah}{σ:St}{H:Hp}{s:Shared}{cl:ai}{it:Addr}{fp:ao}{tn:Nat->Heap->Prop}{J:It}{Q:VK}{RR:Value->Addr->Result->Shared->Prop}
  (hc:X.calm=true)(S:CompS X.env.scope X.N N' caps scope)(I:Inv X pins σ H s)
  (c1:∀x c,cl.lookup x=some c->X.env.cells.lookup x=some c)(c2:∀y∈scope.names,y.2=NameKind.free->∃c,cl.lookup y.1=some c)
  (T:Turn X.prog X.w X.K tg J fp it tn)(t0:tn 0 s.heap)(hf:∀b∈fp,cR X pins H b)
  (hg:∀cl C s H fp,PG (bt X N' scope cl C s H fp λ_ _=>False) tg g)(ht:∀cl C s H fp,PTs (bt X N' scope cl C s H fp λ_ _=>False) ifs tt)(he:∀cl C s H fp,PE (bt X N' scope cl C s H fp λ_ _=>False) elt te)
  (hw:∀l,H l=none->iP J l g tt te Q (caps.map (iH σ)) H)
  (hR:∀l C s' H' m,Inv X pins σ H' s'->cR X pins H' C->s'.heap.Ns C m->Q (.ref l) H'->RR (.ref l) C (.ok .next) s') :
  wpAny (model X.prog X.w) X.A (newList []) (λacc s₃=>wpAny (model X.prog X.w) X.A (newFunctionEnv scope X.env.globals cl [] X.env.qual none .none (some X.env)) (λcenv s₄=>
   codeAny (model X.prog X.w) X.A (.compStart (.ListComp elt [⟨tg,iter,ifs,0⟩] scope pos) 0 (.ref it) acc { cenv with scope:=relabel scope X.env }) (RR acc cenv.locals) s₄) X.xe s₃) X.xe s:=by
 refine Ix (Gm ?_);dsimp only;have I3:Inv X pins σ (upd H s.heap.objs.size (.lst [])) { s with heap:=s.heap.push { cls:=.type "list",dict:=none,data:=.seq ([]:List Value).toArray } }:=
  I.laid (t':=s.toks) (λb u e=>bR _ e) (bC _) ⟨ID _,[],0,.nil,c9 _ rfl⟩
 have hl0:H s.heap.objs.size=none:=I.hok.fresh (bC _);have lt0:∀b∈fp,b<s.heap.objs.size:=λb hb=>by
  obtain⟨o,e,_⟩:=T.obj 0 _ t0 b hb;exact bL e
 obtain⟨W,⟨m0,w0⟩,turn⟩:=hw s.heap.objs.size hl0;generalize hH2:s.heap.push { cls:=.type "list",dict:=none,data:=.seq ([]:List Value).toArray }=H2 at I3 ⊢;have hC:H2.objs.size=s.heap.objs.size+1:=by rw[<-hH2,Iq]
 have O:=CsOk.mk' (c0:=.type "dict") S I3 c1 c2;have hns₁:(pushCells (H2.push { cls:=.type "dict",data:=.dict #[] }) scope.names).Ns H2.objs.size λ_=>none:=(Heap.Ns.new H2 (.type "dict")).keeps (pushCells_keeps _ _);have old:∀b o,H2.get? b=some o->(pushCells (H2.push { cls:=.type "dict",data:=.dict #[] }) scope.names).get? b=some o:=λb o e=>pushCells_keeps _ _ b o (bR _ e);dsimp only at O;generalize pushCells (H2.push { cls:=.type "dict",data:=.dict #[] }) scope.names=h₁ at O hns₁ old ⊢;generalize hcs:cellsFrom (H2.objs.size+1) scope.names cl=cs at O ⊢;have old0:∀b o,s.heap.get? b=some o->h₁.get? b=some o:=λb o e=>old b o (hH2 ▸ bR _ e);have hf3:∀b∈fp,cR X pins (upd H s.heap.objs.size (.lst [])) b/\b<H2.objs.size:=λb hb=>
  ⟨⟨by rw[ca (JZ (lt0 b hb))]; exact (hf b hb).1,(hf b hb).2⟩,by rw[hC]; exact Ja (lt0 b hb)⟩
 have Er:Value->Shared->Prop:=notedBy (model X.prog X.w) X.A (compEnvC scope cs H2.objs.size X.env) λe s'=>RR (.ref s.heap.objs.size) H2.objs.size (.error e) s';have loop:∀s₃:Shared,s₃={ s with heap:=h₁,toks:=s.toks } ->
   codeAny (model X.prog X.w) X.A (.compLoop (.ListComp elt [⟨tg,iter,ifs,0⟩] scope pos) 0 (.ref it) (.ref s.heap.objs.size) (compEnvC scope cs H2.objs.size X.env))
    (RR (.ref s.heap.objs.size) H2.objs.size) s₃:=by
  rintro s₃ rfl;have I4:=Co (N':=N') (caps:=caps) (tk:=s.toks) (notedBy (model X.prog X.w) X.A (compEnvC scope cs H2.objs.size X.env) λe s'=>RR (.ref s.heap.objs.size) H2.objs.size (.error e) s') S I3 O hf3 hns₁ old;generalize hX':bt X N' scope cs H2.objs.size { s with heap:=H2 } (upd H s.heap.objs.size (.lst [])) fp (notedBy (model X.prog X.w) X.A (compEnvC scope cs H2.objs.size X.env) λe s'=>RR (.ref s.heap.objs.size) H2.objs.size (.error e) s')=X' at I4;have hg':PG X' tg g:=by rw[<-hX']; exact PG.nox (hg cs H2.objs.size { s with heap:=H2 } (upd H s.heap.objs.size (.lst [])) fp)
  have ht':PTs X' ifs tt:=by rw[<-hX']; exact PTs.nox (ht cs H2.objs.size { s with heap:=H2 } (upd H s.heap.objs.size (.lst [])) fp)
  have he':PE X' elt te:=by rw[<-hX']; exact PE.nox (he cs H2.objs.size { s with heap:=H2 } (upd H s.heap.objs.size (.lst [])) fp)
  have eP:X'.prog=X.prog:=by rw[<-hX']; rfl
  have eW:X'.w=X.w:=by rw[<-hX']; rfl
  have eK:X'.K=X.K:=by rw[<-hX']; rfl
  have eA:X'.A=X.A:=by rw[<-hX']; rfl
  have eC:X'.calm=true:=by rw[<-hX']; exact hc
  have eE:X'.env=compEnvC scope cs H2.objs.size X.env:=by rw[<-hX']; rfl
  have eX:X'.xe=notedBy (model X.prog X.w) X.A (compEnvC scope cs H2.objs.size X.env) λe s'=>RR (.ref s.heap.objs.size) H2.objs.size (.error e) s':=by rw[<-hX']; rfl
  have stat:∀{H':Hp},(∀b∈fp,H' b=none)->∀b∈fp,cR X' [] H' b:=λ{H'} hn b hb=>by
   obtain⟨f0,f1,f2,f3,f4,f5⟩:=hf b hb;refine⟨hn b hb,?_,?_,.inl ?_,λx c e=>?_,λp hp=>?_⟩
   .rw[eE]; exact dh (by show b<H2.objs.size; rw[hC]; exact Ja (lt0 b hb))
   .intro z;have z':b∈gk X.stack:=by rw[<-hX'] at z; exact z
    rcases bQ (I.stkSub b z') with e | e
    .exact f1 e
    .exact f2 e
   .rw[<-hX']; exact hb
   .rw[eE] at e; exact (O.src x c e).elim (f4 x c) λq z=>absurd (z ▸ lt0 b hb) (Nat.not_lt.mpr (bv (by rw[hC]; exact Jp _) q.1))
   .have:p∈([]:ah):=by rw[<-hX'] at hp; exact hp
    exact absurd this (by simp)
  refine Cf (λn s'=>∃i ys σ' H',Inv X' [] σ' H' s'/\tn i s'.heap/\(∀b∈fp,H' b=none)/\W i n ys σ' H') ?_ m0
   ⟨0,[],_,_,I4,T.keep 0 _ _ t0 λb _ o e=>old0 b o e,λb hb=>(hf3 b hb).1.1,w0⟩
  rintro n s5 ⟨i,ys,σ5,H5,I5,tn5,fr5,w5⟩;rw[<-eX];rcases turn i n ys σ5 H5 w5 with ⟨stop,q⟩ | ⟨go,N,hN,step⟩
  .have d:=T.done X' eP eW eK eC i [] s5 σ5 H5 X'.xe I5 (stat fr5) tn5 stop;rw[eA] at d;refine bg d λr s6 hZz=>?_;obtain⟨hr,I6⟩:=hZz;subst hr;have u:Un (gk X.stack) fp (upd H s.heap.objs.size (.lst [])) H5 H2 s6.heap:=by
    have:=I6.base;rw[<-hX'] at this; exact this
   have hok6:HOk X.prog X.w H5 s6.heap:=by have:=I6.hok; rw[eP,eW] at this; exact this
   have os6:s6.os=s.os:=by have:=I6.os; rw[<-hX'] at this; exact this
   have I7:Inv X pins σ H5 s6:=I3.call' (ch:=fp) os6 u hok6 I6.bare λb hb=>by
    obtain⟨f0,f1,f2,f3,f4,f5⟩:=hf b hb;exact⟨f3,f1,f4,f5⟩
   obtain⟨m6,n6,_⟩:=I6.loc;have fC:H5 H2.objs.size=none:=by have:=I6.free; rw[eE] at this; exact this
   rw[eE] at n6;exact hR _ _ s6 H5 m6 I7 (I3.fpOk (bC _) fC) n6 q
  .have d:=T.item X' eP eW eK eC i [] s5 σ5 H5 X'.xe I5 (stat fr5) tn5 go;rw[eA] at d;refine bg d λr s6 hZz=>?_;obtain⟨u,hr,h6⟩:=hZz;subst hr;refine bg h6 λ_ s7 hZz=>?_;obtain⟨x,H7,I7,r7,y7,tn7,fr7⟩:=hZz;have I7':=I7.pinned (stat fr7) (T.obj _ _ tn7);have ag:=hg' _ s7 σ5 H7 x u _ I7' r7 (step x H7 y7);rw[eP,eW,eA,eE] at ag;refine bg ag λ_ s8 hZz=>?_;obtain⟨σ8,H8,I8,q8⟩:=hZz;have at':=ht' _ s8 σ8 H8 _ I8 q8;rw[eP,eW,eA,eE] at at';have again:∀{s9:Shared} {σ9:St} {H9:Hp} {ys9:av},Inv X' ([]++da fp s7.heap) σ9 H9 s9->N ys9 σ9 H9->∃m,m<n/\∃i ys σ' H',Inv X' [] σ' H' s9/\tn i s9.heap/\(∀b∈fp,H' b=none)/\W i m ys σ' H':=λ{s9 σ9 H9 ys9} I9 n9=>by
    obtain⟨m',hm,w9⟩:=hN ys9 σ9 H9 n9;refine⟨m',hm,i+1,ys9,σ9,H9,I9.unpinned,T.keep _ _ _ tn7 λb hb o e=>(I9.pin (b,o) (cH _ (cH _ (kL hb e)))).1,λb hb=>?_,w9⟩;obtain⟨o,e,dd⟩:=T.obj _ _ tn7 b hb;exact (I9.pin (b,o) (cH _ (cH _ (kL hb e)))).2.1
   refine bg at' λok s9 hZz=>?_;obtain⟨H9,I9,q9⟩:=hZz;cases ok with
   | false=>
    rw[if_neg (by decide)] at q9 ⊢;exact again I9 q9
   | true=>
    rw[if_pos rfl] at q9 ⊢;have ae:=he' _ s9 σ8 H9 _ I9 q9;rw[eP,eW,eA,eE] at ae;refine bg ae λy s10 hZz=>?_;obtain⟨v,H10,I10,r10,q10⟩:=hZz;obtain⟨ys',hy,hz,hn⟩:=q10;have aa:=wo (X:=X') _ s10 σ8 H10 (.ref s.heap.objs.size) [v] (.ref s.heap.objs.size) [y] (λ_ H'=>N (ys'++[v]) σ8 H') I10 rfl (.cons r10 .nil) ⟨_,ys',v,rfl,rfl,hy,hz,hn⟩;rw[eP,eW,eA] at aa;exact bg aa λ_ s11 ⟨_,H11,I11,_,q11⟩=>again I11 q11
 exact codeAny_compStart_list (loop _ rfl) (T.self _ 0 _ _ _ (T.keep 0 _ _ t0 λb _ o e=>old0 b o e) (loop _ rfl))
def GD (hc:X.calm=true)(hS:compOk X.env.scope X.N N' caps scope=true)(hi:PI X tg iter wi)
  (hg:∀cl C s H fp,PG (bt X N' scope cl C s H fp λ_ _=>False) tg g)(ht:∀cl C s H fp,PTs (bt X N' scope cl C s H fp λ_ _=>False) ifs tt)(he:∀cl C s H fp,PE (bt X N' scope cl C s H fp λ_ _=>False) elt te)
  (hs:∀x,foldedSetIterable iter X.env x=pure x:=by intro _; rfl) :
  PE X (.ListComp elt [⟨tg,iter,ifs,0⟩] scope pos) (f9 wi caps g tt te):=by
 intro pins s σ H Q I h;have S:=CompS.of hS;obtain⟨cl,hcl,c1,c2⟩:=xW (scope:=scope) (env:=X.env) λy hy hyf=>I.ok.has y.1 (S.free y hy hyf);rw[eval_ListComp];refine wpAny_comprehension_free (use:=none) rfl hs hcl S.kind S.locs (bg (hi pins s σ H _ I h) λv s1 h1=>bg h1 λitv s2 h2=>?_);obtain⟨it,fp,tn,J,H2,rfl,I2,T,t0,f2,hw⟩:=h2;refine wM (RR:=λacc C=>compPost (model X.prog X.w) X.A X.xe none (EP X pins σ Q) acc C) hc S I2 c1 c2 T t0 f2 hg ht he hw ?_;intro l C s' H' m I' fC hn q;refine⟨m,hn,λh' hs'=>?_⟩;obtain⟨f0,f1,f3,f4,f5,f6⟩:=fC;have I'':Inv X pins σ H' { s' with heap:=h' }:=I'.turned (t':=s'.toks) (it:=C) (λb o hb e=>hs'.extBut b o hb e) f0 f1 f4 f5 f6;exact⟨.ref l,H',I'',rfl,q⟩
def Ck (hc:X.calm=true)(hS:compOk X.env.scope X.N N' caps scope=true)(hN:X.N.Nodup)(hx:X.N[i]? = some x)(hl:Loc X.env.scope x)(hi:PI X tg iter wi)
  (hg:∀cl C s H fp,PG (bt X N' scope cl C s H fp λ_ _=>False) tg g)(ht:∀cl C s H fp,PTs (bt X N' scope cl C s H fp λ_ _=>False) ifs tt)(he:∀cl C s H fp,PE (bt X N' scope cl C s H fp λ_ _=>False) elt te)
  (hsw:swapsWith (.ListComp elt [⟨tg,iter,ifs,0⟩] scope pos) (some (.Name x pos')) spos.line X.env=pure true)(hf:X.fn x=true\/X.env.scope.names.lookup x=some .local:=by first | exact .inl rfl | exact .inr rfl | assumption)
  (hs:∀x,foldedSetIterable iter X.env x=pure x:=by intro _; rfl) :
  PS X (.Assign [.Name x pos'] (.ListComp elt [⟨tg,iter,ifs,0⟩] scope pos) spos) (kA (f9 wi caps g tt te) (fw i)):=by
 intro pins s σ H D I h;have S:=CompS.of hS;obtain⟨cl,hcl,c1,c2⟩:=xW (scope:=scope) (env:=X.env) λy hy hyf=>I.ok.has y.1 (S.free y hy hyf);rw[exec_Assign_Name_used _ _ _ _ hsw];refine aU (wpAny_standAt (aU ?_));show wpAny _ X.A (do let _ <-comprehension (.ListComp elt [⟨tg,iter,ifs,0⟩] scope pos) scope X.env _ (newList []) false (eval iter X.env) (some (assign (.Name x pos') X.env))) _ _ s;refine aU (IY (wpAny_comprehension_free (use:=some (assign (.Name x pos') X.env)) (Q:=λ_ s'=>SP X pins D .next s') rfl hs hcl S.kind S.locs
  (bg (hi pins s σ H _ I h) λv s1 h1=>bg h1 λitv s2 h2=>?_)) (λ_ s' hq=>be (be hq)) λ_ _ e=>e)
 obtain⟨it,fp,tn,J,H2,rfl,I2,T,t0,f2,hw⟩:=h2;refine wM (RR:=λacc C=>compPost (model X.prog X.w) X.A X.xe (some (assign (.Name x pos') X.env)) (λ_ s'=>SP X pins D .next s') acc C) hc S I2 c1 c2 T t0 f2 hg ht he hw ?_;intro l C s' H' m I' fC hn q;show wpAny _ X.A (assign (.Name x pos') X.env (.ref l)) _ _ s';have oC:=hn;obtain⟨o,es,ep,ho,hd,_⟩:=oC;have I1:Inv X (pins++da [C] s'.heap) σ H' s':=I'.pinned (fp:=[C]) (λb hb=>by rw[HN.mp hb]; exact fC) λb hb=>by
  rw[HN.mp hb];exact⟨o,ho,λv z=>by rw[hd] at z; cases z⟩
 refine bg (tV (i:=i) hN hx hl hf _ s' σ H' (.ref l) (.ref l) D.nx I1 rfl q) λ_ s2 hZz=>?_;obtain⟨σ2,H2',I2',q2⟩:=hZz;have hC2:s2.heap.get? C=some o:=(I2'.pin (C,o) (cH _ (cH _ (kL (HN.mpr rfl) ho)))).1;have nC2:H2' C=none:=(I2'.pin (C,o) (cH _ (cH _ (kL (HN.mpr rfl) ho)))).2.1;have hn2:s2.heap.Ns C m:=by
  obtain⟨o',es',ep',ho',r'⟩:=hn;rw[ho] at ho'; cases ho';exact⟨o,es',ep',hC2,r'⟩
 refine⟨m,hn2,λh' hs'=>?_⟩;obtain⟨f0,f1,f3,f4,f5,f6⟩:=fC;have I'':Inv X pins σ2 H2' { s2 with heap:=h' }:=(I2'.unpinned).turned (t':=s2.toks) (it:=C) (λb o hb e=>hs'.extBut b o hb e) nC2 f1 f4 f5 f6;exact⟨σ2,H2',I'',q2⟩
end
def fY (P:Program)(w:World):gy:=λouter H s E e s'=>∃(a T C:Addr) (fs:List (Str×V)) (H':Hp),e=.ref a/\s'.os=s.os/\AllBare s'.gens/\Un (gk outer) [] H H' s.heap s'.heap/\HOk P w H' s'.heap /\
 H' a=some (.exc C false fs)/\Fly s'.heap a T .none/\H' T=none/\s.heap.objs.size<=T/\E (.ref a) none H'
section
variable {X:Cx}{pins:ah}{σ:St}{H:Hp}{s:Shared}
def Inv.fsFree (I:Inv X pins σ H s):∀b∈X.fs,H b=none:=λb hb=>by
 obtain⟨_,o,ho,_⟩:=I.ok.funs.mem hb;exact I.base.free b o ho (I.ok.frf b hb) λz=>I.ok.exfs b z hb
def Inv.xstep {a C:Addr}{nw:Bool}{fs:List (Str×V)}{fr ch:ao}{h':Heap}(I:Inv X pins σ H s)(ha:H a=some (.exc C nw fs))(st:XStep fr a ch s.heap h')(hfr:∀b∈fr,b=X.env.locals\/b∈X.fs)
  (hch:∀b∈ch,H b=none/\X.s₀.heap.objs.size<=b/\b≠X.env.locals/\(∀x c,X.env.cells.lookup x=some c->c≠b)/\∀p∈X.pn++pins,p.1≠b) :
  Inv X pins σ (upd H a (.exc C false fs)) { s with heap:=h' }:=by
 have aN:∀b,H b=none->b≠a:=λb n z=>by rw[z,ha] at n; cases n
 have frN:∀b∈fr,H b=none:=λb hb=>by
  rcases hfr b hb with z | z
  .rw[z]; exact I.free
  .exact I.fsFree b z
 have tr:∀b o,H b=some o->b∉fr/\b∉ch:=λb o e=>⟨(λz=>by rw[frN b z] at e; cases e),(λz=>by rw[(hch b z).1] at e; cases e)⟩
 have up:∀b o,H b=some o->b≠a->(upd H a (.exc C false fs)) b=some o:=λb o e n=>by rw[ca n]; exact e
 refine I.step (g':=s.gens) (d':=s.drawn) (t':=s.toks) (ch:=ch) (λb hb=>⟨.inr (hch b hb).2.1,(hch b hb).2.2⟩) (λb o n1 n2 n3 e n=>?_) (λb o n1 n2 n3 e n=>?_) (λb o _ _ n=>by rw[ca (aN b n)]; exact n)
  (λb o n3 e=>?_) (λb xs e=>up b _ e λz=>by rw[z,ha] at e; cases e) (λb o u e=>up b _ e λz=>by rw[z,ha] at e; cases e) (λb ps e=>⟨#[],?_⟩) (λm hm=>?_) (λb o e=>?_) I.bare
 .exact st.keep b o e (aN b n) (λz=>(hfr b z).elim n1 n2) n3
 .by_cases z:b∈fr
  .exact st.slot b o e (aN b n) z n3
  .exact⟨o.slots,st.keep b o e (aN b n) z n3⟩
 .by_cases z:b=a
  .subst z;obtain⟨_,o',vs,e',_,hd,_⟩:=I.hok b _ ha;obtain⟨vs',e2,_⟩:=st.exc o' vs e' hd;exact⟨_,e2⟩
  .exact st.there b o e z
 .rw[up b _ e λz=>by rw[z,ha] at e; cases e]; simp
 .obtain⟨o,es,ep,ho,r⟩:=hm;have n:=aN _ I.free;have nc:X.env.locals∉ch:=λz=>(hch _ z).2.2.1 rfl;by_cases z:X.env.locals∈fr
  .obtain⟨sl,e⟩:=st.slot _ o ho n z nc;exact⟨_,es,ep,e,r⟩
  .exact⟨o,es,ep,st.keep _ o ho n z nc,r⟩
 .by_cases hb:b=a
  .subst hb;rw[dc] at e;cases e;obtain⟨z,o',vs,e',c1,c2,c3,c4,q⟩:=I.hok b _ ha;obtain⟨vs',e2,sz,_⟩:=st.exc o' vs e' c2;refine⟨z,_,vs',e2,c1,rfl,sz.trans c3,(λw=>nomatch w),?_⟩;rcases q with q | ⟨dx,d1,d2,d3,mA,⟨od,es,ep,e3,c⟩,r⟩
   .exact .inl q
   .exact .inr ⟨dx,d1,up dx _ d2 d3,d3,mA,⟨od,es,ep,st.keep dx od e3 d3 (tr dx _ d2).1 (tr dx _ d2).2,c⟩,r⟩
  .rw[ca hb] at e;refine (I.hok b o e).stay (λc u hc q=>?_) (λc q=>up c _ q λz=>by rw[z,ha] at q; cases q) λc xs q=>up c _ q λz=>by rw[z,ha] at q; cases q
   rcases hc with z | z
   .subst z;exact st.keep c u q hb (tr c _ e).1 (tr c _ e).2
   .exact st.keep c u q (λy=>by rw[y,ha] at z; cases z) (tr c _ z).1 (tr c _ z).2
def Inv.newAt (I:Inv X pins σ H s)(hb:s.heap.objs.size<=b):H b=none/\X.s₀.heap.objs.size<=b/\b≠X.env.locals/\(∀x c,X.env.cells.lookup x=some c->c≠b)/\∀p∈X.pn++pins,p.1≠b:=by
 obtain⟨f0,f1,f2,f3,f4,f5⟩:=I.fpOk hb (I.hok.fresh hb);exact⟨f0,bv I.sz hb,f1,f4,f5⟩
def Inv.sinceAt (I:Inv X pins σ H s)(I':Inv X pins σ' H' s')(hb:s.heap.objs.size<=b)(hn:H' b=none):H' b=none/\X.s₀.heap.objs.size<=b/\b≠X.env.locals/\(∀x c,X.env.cells.lookup x=some c->c≠b)/\∀p∈X.pn++pins,p.1≠b:=by
 obtain⟨f0,f1,f2,f3,f4⟩:=I.newAt hb;exact⟨hn,f1,f2,f3,f4⟩
end
def passN:bO (fY P w) X (λ_ _ _ _=>False):=λ_ _ _ _ _ _ _ h=>by
 obtain⟨_,_,_,_,_,_,_,_,_,_,_,_,_,_,z⟩:=h;exact z.elim
section
variable {P:Program}{w:World}{K:bn}{mg:Str->aA}{base:Heap}{N:ar}{qual:Str}{scope:Scope}{f:Addr}{cd:Value}{A:Around}{outer:List Env}{s:Shared}{H:Hp}{E:XK}
def passF:bO (fY P w) (fR (fY P w) P w K mg base N qual scope f cd A outer s H E) (λ_=>E):=by
 intro pins σ H1 s1 e s' I1 hcx;obtain⟨a,T,C,fs,H2,rfl,os,bare,un,hok,ha,fly,nT,lT,q⟩:=hcx;have I2:=I1.call' (ch:=[]) os un hok bare λb z=>absurd z (by simp);show wpAny _ _ (leaving _ (.ref a)) _ _ s';refine Bi (base:=base) I2.ok.frames I2.stack rfl fly λh' F' st=>?_;have I3:=I2.xstep ha st (λb hb=>bQ (I2.stkSub b hb)) λb hb=>by
  rcases bQ hb with z | z
  .rw[z]; exact I1.sinceAt I2 lT nT
  .rw[HN.mp z]; exact I2.newAt (bC _)
 have e:upd H2 a (.exc C false fs)=H2:=by
  funext b
  by_cases z:b=a
  .subst z; rw[dc,ha]
  .rw[ca z]
 rw[e] at I3;exact⟨a,_,C,fs,H2,rfl,I3.os,I3.bare,I3.base,I3.hok,ha,F',(I2.newAt (bC _)).1,bv I1.sz (bv (Kp (Nat.lt_succ_of_le (by
  have:=I2.sz;have h1:s1.heap.objs.size<=s'.heap.objs.size:=by
   obtain⟨m,hn,_⟩:=I1.loc;exact bv lT (J0 (by obtain⟨⟨_,_,_,_,_,_,_,z,_⟩,_⟩:=fly; exact bL z))
  exact h1))) (bC _)),q⟩
end
section
variable {X:Cx}{e:Expr}{te:TE}{pos:Pos}{E:St->XK}
end
section
variable {X:Cx}{k:Nat}{f C W:Addr}{tl:ao}{fd:FuncData}{ps:ar}{sp:Sp}{dvs:av}{ds:aq}{E:St->XK}{x m:Str}{p pos apos:Pos}{e o:Expr}{es:au}{ta tv:TE}{t:TA}
end
section
variable {X:Cx}{pins:ah}{σ:St}{H:Hp}{s:Shared}
end
section
variable {X:Cx}{W:Addr}{tlW:ao}{i:Nat}{n cls:Str}{np hpos pos:Pos}{body suite:aG}{b₀:Stmt}{tb:(St->XK)->TS}{ts:TS}
end
end L2
end
section
namespace L2
open PySem PySem.W Builtin Builtin.ObjectAttr
section
variable {prog:Program}{w:World}{A:Around}{E:Value->Shared->Prop}{s:Shared}{K:Frag}{C x:Addr}{fI:Value}{tl:ao}{mA:Str->aA}
end
section
variable {K:Frag}{C x:Addr}{fI:Value}{tl:ao}
end
end L2
namespace L2
open PySem PySem.Spec PyProof.Rows
section
variable {X:Cx}
noncomputable def valOf:V->aA
 | .ref a=>some (.ref a)
 | .ty n=>some (.type n)
 | _=>none
end
end L2
end
section
namespace L2
open PySem PySem.Spec PyProof.Rows
section
variable {X:Cx}{pins:ah}{σ:St}{H:Hp}{s:Shared}{h':Heap}
def Inv.turnedL {t':Nat}{fp:ao}(I:Inv X pins σ H s)(hf:∀b∈fp,cR X pins H b)(k:∀b o,b∉fp->s.heap.get? b=some o->h'.get? b=some o):Inv X pins σ H { s with heap:=h',toks:=t' }:=by
 have nf:∀b u,H b=some u->b∉fp:=λb u e z=>by rw[(hf b z).1] at e; cases e
 refine I.step (g':=s.gens) (d':=s.drawn) (ch:=fp) (λb hb=>⟨(hf b hb).2.2.2.1,(hf b hb).2.1,(hf b hb).2.2.2.2⟩) (λb o _ _ hc e _=>k b o hc e) (λb o _ _ hc e _=>⟨o.slots,k b o hc e⟩) (λ_ _ _ _ n=>n)
  (λb o hc e=>⟨o,k b o hc e⟩) (λ_ _ e=>e) (λ_ _ _ e=>e) (λb ps e=>⟨#[],by rw[e]; simp⟩) (λm hm=>?_) (λb u e=>?_) I.bare
 .obtain⟨o,es,ep,ho,r⟩:=hm;exact⟨o,es,ep,k _ o (λz=>(hf _ z).2.1 rfl) ho,r⟩
 .refine (I.hok b u e).stay (λc v hc q=>k c v ?_ q) (λ_ q=>q) λ_ _ q=>q;rcases hc with z | z
  .rw[z]; exact nf b u e
  .exact nf c _ z
def Inv.turnedN {t':Nat}{fp:ao}{a:Addr}{o:HO}(I:Inv X pins σ H s)(hf:∀b∈fp,cR X pins H b)(k:∀b o,b∉fp->s.heap.get? b=some o->h'.get? b=some o)(hp:s.heap.objs.size<=a)(new:ObjOk X.prog X.w (upd H a o) h' a o) :
  Inv X pins σ (upd H a o) { s with heap:=h',toks:=t' }:=by
 have ha:H a=none:=I.hok.fresh hp;have na:∀b o,s.heap.get? b=some o->b≠a:=λb o e=>dh (fc (bL e) hp);have nt:∀b u,H b=some u->b≠a:=λb u e z=>by rw[z,ha] at e; cases e
 have nf:∀b u,H b=some u->b∉fp:=λb u e z=>by rw[(hf b z).1] at e; cases e
 refine I.step (g':=s.gens) (d':=s.drawn) (ch:=fp) (λb hb=>⟨(hf b hb).2.2.2.1,(hf b hb).2.1,(hf b hb).2.2.2.2⟩) (λb o _ _ hc e _=>k b o hc e) (λb o _ _ hc e _=>⟨o.slots,k b o hc e⟩) (λb o _ e n=>by rw[ca (na b o e)]; exact n)
  (λb o hc e=>⟨o,k b o hc e⟩) (λb _ e=>by rw[ca (nt b _ e)]; exact e) (λb _ _ e=>by rw[ca (nt b _ e)]; exact e) (λb ps e=>⟨#[],by rw[ca (nt b _ e),e]; simp⟩) (λm hm=>?_) (λb u e=>?_) I.bare
 .obtain⟨o,es,ep,ho,r⟩:=hm;exact⟨o,es,ep,k _ o (λz=>(hf _ z).2.1 rfl) ho,r⟩
 .by_cases z:b=a
  .subst z; rw[dc] at e; cases e; exact new
  .rw[ca z] at e;refine (I.hok b u e).stay (λc v hc q=>k c v ?_ q) (λc q=>by rw[ca (nt c _ q)]; exact q) λc _ q=>by rw[ca (nt c _ q)]; exact q
   rcases hc with z | z
   .rw[z]; exact nf b u e
   .exact nf c _ z
end
noncomputable def uc (K:bn)(a b:Addr):It:=
 ⟨λi H=>∃xs ys x y,SqL K H a xs/\SqL K H b ys/\xs[i]? = some x/\ys[i]? = some y,λi H v H'=>∃x y p,v=.ref p/\H p=none/\H'=upd H p (.tup [x,y])/\(∀xs,SqL K H a xs->xs[i]? = some x)/\∀ys,SqL K H b ys->ys[i]? = some y,
  λi H=>∃xs ys,SqL K H a xs/\SqL K H b ys/\(xs.length<=i\/ys.length<=i)⟩
def ll {h:Heap}{a b:Addr}{o u:Obj}(A B:String)(ha:h.get? a=some o)(hb:h.get? b=some u)(hA:o.cls=.type A)(hB:u.cls=.type B)(n:A≠B):a≠b:=λz=>by
 subst z; rw[ha] at hb; cases hb; rw[hA] at hB; cases hB; exact n rfl
def jq (z TI TO i1 i2 l1 l2:Addr)(i:Nat)(h:Heap):Prop:=IsZip h z TI TO .none/\IsPair h TI (.ref i1) (.ref i2)/\(∃a b,IsPair h TO a b)/\h.IsListIter i1 l1 i/\h.IsListIter i2 l2 i
def uF {h:Heap}{z TI TO i1 i2 l1 l2:Addr}{i:Nat}{xs ys:aB}(t:jq z TI TO i1 i2 l1 l2 i h)(h1:h.IsList l1 xs)(h2:h.IsList l2 ys)(n1:TI≠TO)(n2:i1≠i2):ZipApart z TI TO i1 i2 l1 l2:=by
 obtain⟨tz,tI,⟨a,b,tO⟩,⟨o1,e1,c1,_⟩,⟨o2,e2,c2,_⟩⟩:=t;obtain⟨u1,f1,d1,_⟩:=h1;obtain⟨u2,f2,d2,_⟩:=h2;have d:∀{a b:Addr} {o u:Obj} (A B:String),h.get? a=some o->h.get? b=some u->o.cls=.type A->u.cls=.type B->(A == B)=false->a≠b:=λA B x y hA hB n=>ll A B x y hA hB (by simpa using n);exact⟨d "tuple" "zip" tI tz rfl rfl rfl,d "tuple" "zip" tO tz rfl rfl rfl,d "list_iterator" "zip" e1 tz c1 rfl rfl,d "list_iterator" "zip" e2 tz c2 rfl rfl,n1,d "tuple" "list_iterator" tI e1 rfl c1 rfl,d "tuple" "list_iterator" tI e2 rfl c2 rfl,
  d "tuple" "list_iterator" tO e1 rfl c1 rfl,d "tuple" "list_iterator" tO e2 rfl c2 rfl,n2,d "list" "zip" f1 tz d1 rfl rfl,d "list" "tuple" f1 tO d1 rfl rfl,d "list" "list_iterator" f1 e1 d1 c1 rfl,d "list" "list_iterator" f1 e2 d1 c2 rfl,
  d "list" "zip" f2 tz d2 rfl rfl,d "list" "tuple" f2 tO d2 rfl rfl,d "list" "list_iterator" f2 e1 d2 c1 rfl,d "list" "list_iterator" f2 e2 d2 c2 rfl⟩
def DM {P:Program}{w:World}{K:bn}{es:au}{k1:Nat}{ps:Pos}(l1 l2 z TI TO i1 i2:Addr)(n1:TI≠TO)(n2:i1≠i2):Turn P w K (.Tuple es k1 ps) (uc K l1 l2) [z,TI,TO,i1,i2] z (jq z TI TO i1 i2 l1 l2) where
 mem:=by simp
 obj:=λi h t b hb=>by
  obtain⟨tz,tI,⟨a,c,tO⟩,⟨o1,e1,_,d1⟩,⟨o2,e2,_,d2⟩⟩:=t;simp only[H0,Ib,or_false] at hb;rcases hb with rfl | rfl | rfl | rfl | rfl
  .exact⟨_,tz,(λv q=>nomatch q)⟩
  .exact⟨_,tI,(λv q=>nomatch q)⟩
  .exact⟨_,tO,(λv q=>nomatch q)⟩
  .exact⟨o1,e1,λv q=>by rw[d1] at q; cases q⟩
  .exact⟨o2,e2,λv q=>by rw[d2] at q; cases q⟩
 keep:=λi h h' t k=>by
  obtain⟨tz,tI,⟨a,c,tO⟩,t1,t2⟩:=t;exact⟨k z (by simp) _ tz,k TI (by simp) _ tI,⟨a,c,k TO (by simp) _ tO⟩,t1.at λo e=>k i1 (by simp) o e,t2.at λo e=>k i2 (by simp) o e⟩
 item:=by
  intro X hP hw hK hc i pins s σ H E I hf st hg;subst hP hw hK;obtain⟨xs,ys,x,y,hx,hy,ex,ey⟩:=hg;obtain⟨its,rv,p,hz⟩:=I.list hx;obtain⟨its2,rv2,p2,hz2⟩:=I.list hy;obtain⟨u,hu,ru⟩:=rv.get ex;obtain⟨u2,hu2,ru2⟩:=rv2.get ey;have D:=uF st p.isList p2.isList n1 n2;obtain⟨tz,tI,⟨a,c,tO⟩,t1,t2⟩:=st;refine wpAny_pyNext_zip_item D tz tI tO t1 t2 p.isList p2.isList (x:=u) (y:=u2) (by simpa using hu) (by simpa using hu2) λh' z1 z2 z3 z4 z5 z6 z7=>⟨_,rfl,?_⟩
  refine wpAny_letOwnedTupleGo_zip (s:={ s with heap:=h' }) z1 λh2 z1' sb=>?_;have kk:∀b o,b∉[z,TI,TO,i1,i2]->s.heap.get? b=some o->h2.get? b=some o:=λb o nb e=>by
   simp only[H0,Ib,or_false,not_or] at nb;obtain⟨m1,m2,m3,m4,m5⟩:=nb;exact (sb.2 b m1).trans (z7 b o m1 m3 m4 m5 e)
  have lz:z<s.heap.objs.size:=bL tz;have gT:h2.get? s.heap.objs.size=some { cls:=.type "tuple",data:=.seq #[u,u2] }:=(sb.2 _ (Ju lz)).trans z5;have up:∀b o,b≠z->h'.get? b=some o->h2.get? b=some o:=λb o nb e=>(sb.2 b nb).trans e;refine⟨.ref s.heap.objs.size,upd H s.heap.objs.size (.tup [x,y]),I.turnedN (t':=s.toks) hf kk (bC _) ⟨by show 2<=sizeLine; decide,[u,u2],.cons ru (.cons ru2 .nil),_,gT,rfl,⟨_,rfl⟩,rfl⟩,rfl,
   ⟨x,y,_,rfl,I.hok.fresh (bC _),rfl,λzs hq=>by rw[I.list_inj hq hx]; exact ex,λzs hq=>by rw[I.list_inj hq hy]; exact ey⟩,
   ⟨z1',up _ _ D.TIz (z7 TI _ D.TIz D.TITO D.TIi1 D.TIi2 tI),⟨u,u2,up _ _ D.TOz z2⟩,z3.at λo e=>up _ _ D.i1z e,z4.at λo e=>up _ _ D.i2z e⟩,λb hb=>?_⟩
  obtain⟨o,e,_⟩:∃o,s.heap.get? b=some o/\True:=by
   simp only[H0,Ib,or_false] at hb;obtain⟨o1,e1,_,d1⟩:=t1;obtain⟨o2,e2,_,d2⟩:=t2;rcases hb with rfl | rfl | rfl | rfl | rfl
   .exact⟨_,tz,trivial⟩
   .exact⟨_,tI,trivial⟩
   .exact⟨_,tO,trivial⟩
   .exact⟨o1,e1,trivial⟩
   .exact⟨o2,e2,trivial⟩
  rw[ca (JZ (Heap.lt_size e))];exact (hf b hb).1
 done:=by
  intro X hP hw hK hc i pins s σ H E I hf st hg;subst hP hw hK;obtain⟨xs,ys,hx,hy,hend⟩:=hg;obtain⟨its,rv,p,hz⟩:=I.list hx;obtain⟨its2,rv2,p2,hz2⟩:=I.list hy;have D:=uF st p.isList p2.isList n1 n2;obtain⟨tz,tI,⟨a,c,tO⟩,t1,t2⟩:=st;have l1:=rv.length;have l2:=rv2.length;refine wpAny_pyNext_zip_end (I.ok.hd hc) D tz tI tO t1 t2 p.isList p2.isList (hend.elim (λq=>.inl (by simp; omega)) λq=>.inr (by simp; omega)) λh' kp=>⟨rfl,I.turnedL (t':=s.toks) hf λb o nb e=>?_⟩
  simp only[H0,Ib,or_false,not_or] at nb;obtain⟨m1,m2,m3,m4,m5⟩:=nb;exact kp b o m1 m3 m4 m5 e
 self:=λ_ _ _ _ _ st h=>wpAny_pyIter_zip st.1 h
noncomputable def sY (K:bn)(a:Addr):It:=
 ⟨λi H=>∃xs x,SqL K H a xs/\xs[i]? = some x,λi H v H'=>∃x p,v=.ref p/\H p=none/\H'=upd H p (.tup [.int i,x])/\∀xs,SqL K H a xs->xs[i]? = some x,λi H=>∃xs,SqL K H a xs/\xs.length<=i⟩
def jV (e it l:Addr)(i:Nat)(h:Heap):Prop:=(∃old,IsEnum h e it i old)/\h.IsListIter it l i
def FC {P:Program}{w:World}{K:bn}{es:au}{k1:Nat}{ps:Pos}(l e it:Addr):Turn P w K (.Tuple es k1 ps) (sY K l) [e,it] e (jV e it l) where
 mem:=by simp
 obj:=λi h t b hb=>by
  obtain⟨⟨old,te⟩,⟨o1,e1,_,d1⟩⟩:=t;simp only[H0,Ib,or_false] at hb;rcases hb with rfl | rfl
  .exact⟨_,te,(λv q=>nomatch q)⟩
  .exact⟨o1,e1,λv q=>by rw[d1] at q; cases q⟩
 keep:=λi h h' t k=>by
  obtain⟨⟨old,te⟩,t1⟩:=t;exact⟨⟨old,k e (by simp) _ te⟩,t1.at λo q=>k it (by simp) o q⟩
 item:=by
  intro X hP hw hK hc i pins s σ H E I hf st hg;subst hP hw hK;obtain⟨xs,x,hx,ex⟩:=hg;obtain⟨its,rv,p,hz⟩:=I.list hx;obtain⟨u,hu,ru⟩:=rv.get ex;obtain⟨⟨old,te⟩,t1⟩:=st;have ne:e≠it:=by
   obtain⟨o1,e1,c1,_⟩:=t1;exact ll "enumerate" "list_iterator" te e1 rfl c1 (by decide)
  refine wpAny_pyNext_enum_item te t1 p.isList (x:=u) (by simpa using hu) ne λh' z1 z2 z3 z4 z5=>⟨_,rfl,?_⟩
  refine wpAny_letOwnedTupleGo_enum (s:={ s with heap:=h',toks:=s.toks+1 }) z1 λh2 z1' sb=>?_;have kk:∀b o,b∉[e,it]->s.heap.get? b=some o->h2.get? b=some o:=λb o nb q=>by
   simp only[H0,Ib,or_false,not_or] at nb;exact (sb.2 b nb.1).trans (z5 b o nb.1 nb.2 q)
  have le:e<s.heap.objs.size:=bL te;have gT:h2.get? s.heap.objs.size=some { cls:=.type "tuple",data:=.seq #[.int i s.toks,u] }:=(sb.2 _ (Ju le)).trans z3;refine⟨.ref s.heap.objs.size,upd H s.heap.objs.size (.tup [.int i,x]),I.turnedN (t':=s.toks+1) hf kk (bC _) ⟨by show 2<=sizeLine; decide,[.int i s.toks,u],.cons ⟨_,rfl⟩ (.cons ru .nil),_,gT,rfl,⟨_,rfl⟩,rfl⟩,rfl,
   ⟨x,_,rfl,I.hok.fresh (bC _),rfl,λzs hq=>by rw[I.list_inj hq hx]; exact ex⟩,⟨⟨u,by simpa using z1'⟩,z2.at λo q=>(sb.2 it (JG ne)).trans q⟩,λb hb=>?_⟩
  obtain⟨o,q,_⟩:∃o,s.heap.get? b=some o/\True:=by
   simp only[H0,Ib,or_false] at hb;obtain⟨o1,e1,_,d1⟩:=t1;rcases hb with rfl | rfl
   .exact⟨_,te,trivial⟩
   .exact⟨o1,e1,trivial⟩
  rw[ca (JZ (Heap.lt_size q))];exact (hf b hb).1
 done:=by
  intro X hP hw hK hc i pins s σ H E I hf st hg;subst hP hw hK;obtain⟨xs,hx,hend⟩:=hg;obtain⟨its,rv,p,hz⟩:=I.list hx;obtain⟨⟨old,te⟩,t1⟩:=st;have l1:=rv.length;refine wpAny_pyNext_enum_end (I.ok.hd hc) te t1 p.isList (by simp; omega) λh' kp=>⟨rfl,I.turnedL (t':=s.toks) hf λb o nb q=>?_⟩
  simp only[H0,Ib,or_false,not_or] at nb;exact kp b o nb.2 q
 self:=λ_ _ _ _ _ st h=>by
  obtain⟨⟨old,te⟩,_⟩:=st;exact Kq te h
section
variable {X:Cx}{es:au}{k1:Nat}{tp:Pos}
def ud (K:bn)(ta:TA):TI:=λσ H R=>ta σ H λvs H1=>∃a b xs ys,vs=[.ref a,.ref b]/\SqL K H1 a xs/\SqL K H1 b ys/\R (uc K a b) H1
def B0 {a b:Expr}{ta:TA}{p pos:Pos}(hg:Gl X "zip")(hm:X.mg "zip" = none)(hv:bootBuiltins "zip" = some (.type "zip"))(ha:PA X [a,b] ta)(hs:starEach [a,b] X.env=[(false,eval a X.env),(false,eval b X.env)]:=by rfl)(hs2:starEach [b] X.env=[(false,eval b X.env)]:=by rfl) :
  PI X (.Tuple es k1 tp) (.Call (.Name "zip" p) [a,b] [] pos) (ud X.K ta):=by
 intro pins s σ H R I h;refine Call_ (gB I hg hm hv (Ih (bg (ha pos pins s σ H _ I h) λus s1 hZz=>?_) (by rw[hs,hs2]) (by rw[hs2]; rfl)));obtain⟨vs,H1,I1,r1,q1⟩:=hZz;obtain⟨l1,l2,xs,ys,rfl,hx,hy,q⟩:=q1;obtain⟨u,v,rfl,ru,rv⟩:=vals2 r1;cases ru;cases rv;obtain⟨its,rx,px,hzx⟩:=I1.list hx;obtain⟨its2,ry,py,hzy⟩:=I1.list hy;refine call_zip_2 px.isList py.isList λh' z1 z2 z3 z4 z5 z6 z7=>?_;refine wpAny_pyIter_zip (s:={ s1 with heap:=h' }) z1 ⟨_,_,_,_,H1,rfl,I1.kept (t':=s1.toks) z7,DM l1 l2 (s1.heap.objs.size+4) (s1.heap.objs.size+2) (s1.heap.objs.size+3) s1.heap.objs.size (s1.heap.objs.size+1) (dh (Jq _)) (dh (Jq _)),⟨z1,z2,⟨_,_,z3⟩,z4,z5⟩,λb hb=>?_,q⟩;have lb:s1.heap.objs.size<=b:=by
  simp only[H0,Ib,or_false] at hb;rcases hb with rfl | rfl | rfl | rfl | rfl <;> omega
 exact I1.fpOk lb (I1.hok.fresh lb)
end
end L2
end
section
namespace St
open PySem PyProof.Rows
noncomputable def subs:Nat->af
 | 0=>[[]]
 | n+1=>subs n++(subs n).map (·++[n])
noncomputable def ins (l:ak)(k:Nat):ak:=l.filter (λx=>Nat.blt x k)++k::l.filter (λx=>Nat.blt k x)
noncomputable def b1 (l:ak)(k:Nat):Bool:=l.contains k||((!SetTable.has l.toArray k)&&(SetTable.below l.toArray k == (l.filter (λx=>Nat.blt x k)).length)&&(l.take (l.filter (λx=>Nat.blt x k)).length++k::l.drop (l.filter (λx=>Nat.blt x k)).length == ins l k)&&(subs 6).contains (ins l k))
def D7:((subs 6).all λl=>(List.range 6).all λk=>b1 l k)=true:=by decide +kernel
noncomputable def hs (l:ak):Array Int:=(l.map Int.ofNat).toArray
noncomputable def b2 (m:Nat)(l:ak):Bool:=((SetTable.layClean m (hs l)).map λowner=>(List.range (m+1)).filterMap λj=>(owner.getD j none).map (j,·)) == some (l.zip (List.range l.length))
noncomputable def gm (l:ak):Nat:=SetTable.sizeAbove (SetTable.grown l.length) - 1
noncomputable def vn (l:ak):Bool:=b2 (gm l) l&&(Nat.blt 4 l.length||b2 7 l)&&b2 15 l&&(gm l == 7&&Nat.ble l.length 4||gm l == 15||gm l == 31)
def Ac:((subs 6).all vn)=true:=by decide +kernel
noncomputable def b3 (l:ak):Bool:=(List.range (l.length+1)).all λi=>SetTable.below l.toArray (if i=0 then 0 else l.getD (i - 1) 0+1) == i
def uW:((subs 6).all b3)=true:=by decide +kernel
noncomputable def b4 (l:ak):Bool:=decide (l.length<=6)&&l.all (λx=>Nat.blt x 6)&&decide (l.Pairwise (· < ·))
def Fv:((subs 6).all b4)=true:=by decide +kernel
noncomputable def b5 (l:ak):Bool:=((List.range 6).filter l.contains == l)&&(List.range 6).all λk=>(subs 6).contains (l.filter (· != k))
def A4 (hm:m=7\/m=15\/m=31)(hk:k<6):SetTable.bits (Int.ofNat k) % (m+1)=k:=by
 have:∀m∈[7,15,31],∀k∈List.range 6,SetTable.bits (Int.ofNat k) % (m+1)=k:=by decide +kernel
 exact this m (by simpa using hm) k (IB.mpr hk)
def E9 {t:SetTable}{k:Nat}(hm:t.mask=7\/t.mask=15\/t.mask=31)(hk:k<6)(h1:SetTable.has t.place k=false)(h2:SetTable.has t.dummies k=false):t.freeSlot (Int.ofNat k)=some (k,false):=by
 have hs:t.slot k=.empty:=by
  show (if SetTable.has t.place k=true then _ else if SetTable.has t.dummies k=true then _ else _)=_;rw[h1,h2];rfl
 obtain⟨n,hn⟩:∃n,10 * SetTable.turns t.mask=n+1:=⟨10 * t.mask+149,by unfold SetTable.turns; omega⟩
 have e:(t.probeStart (Int.ofNat k)).j=k:=A4 hm hk;unfold SetTable.freeSlot SetTable.probe;rw[hn];unfold SetTable.probe.go;rw[e,hs];rfl
structure TG (b:Bool)(l D:ak)(t:SetTable):Prop where
 mem:l∈subs 6
 place:t.place=l.toArray
 dum:∃ds,ds∈subs 6/\t.dummies=ds.toArray/\∀x∈ds,x∈D
 mask:t.mask=7/\t.fill<=4\/t.mask=15\/t.mask=31
 led:t.led=b
 plain:t.plain=true
def SG (b:Bool)(h:Heap)(a:Addr)(l D:ak):Prop:=∃es ep t,h.get? a=some { cls:=.type "set",dict:=none,data:=.set es ep t }/\es.toList.map (·.1)=l.map Int.ofNat/\(∀e∈es.toList,∃tk,e.2=.int e.1 tk)/\TG b l D t
def mem_b4 (h:l∈subs 6):l.length<=6/\(∀x∈l,x<6)/\l.Pairwise (· < ·):=by
 have:=dQ Fv l h;simp only[b4,HF,Ig,List.all_eq_true] at this;exact⟨this.1.1,λx hx=>JQ (this.1.2 x hx),this.2⟩
def vw (h:k<6):hashInt (Int.ofNat k)=Int.ofNat k:=by
 have:∀j∈List.range 6,hashInt (Int.ofNat j)=Int.ofNat j:=by decide +kernel
 exact this k (IB.mpr h)
theorem TG.size (h:TG b l D t):t.place.size=l.length:=by rw[h.place]; simp
theorem TG.fill (h:TG b l D t):t.fill<=l.length+6:=by
 obtain⟨ds,d1,d2,_⟩:=h.dum;have:=(mem_b4 d1).1;rw[SetTable.fill,h.size,d2,HJ];omega
theorem TG.fits (h:TG b l D t)(hn:n=l.length):t.fits n=true:=by
 have h6:=(mem_b4 h.mem).1;have hf:=h.fill;simp only[SetTable.fits,h.size,HF,HU,Ig];refine⟨hn.symm,?_⟩;rcases h.mask with ⟨e,q⟩ | e | e <;> omega
def TG.mask3 (h:TG b l D t):t.mask=7\/t.mask=15\/t.mask=31:=h.mask.imp And.left id
def mr {prog:Program}{w:World}{es:Array (Int×Value)}{l:ak}(hm:l∈subs 6)(h1:es.toList.map (·.1)=l.map Int.ofNat)(h2:∀e∈es.toList,∃tk,e.2=.int e.1 tk):ElemsOf (intKind prog w) es.toList:=by
 intro e he;obtain⟨tk,et⟩:=h2 e he;have:e.1∈l.map Int.ofNat:=by rw[<-h1]; exact Iz he
 obtain⟨k,hk,ek⟩:=bV this;refine⟨⟨e.1,by rw[et]; exact intKind_is _ _ _ _,?_⟩,by rw[et]; rfl⟩;show e.1=hashInt e.1;rw[<-ek,vw ((mem_b4 hm).2.1 k hk)]
def gW {es:Array (Int×Value)}{l:ak}(h1:es.toList.map (·.1)=l.map Int.ofNat):es.size=l.length:=by
 have:=congrArg List.length h1;simpa using this
def ins_of (hm:l∈subs 6)(hk:k<6)(hn:k∉l):SetTable.has l.toArray k=false/\SetTable.insertAt l.toArray (SetTable.below l.toArray k) k=(ins l k).toArray/\SetTable.below l.toArray k=(l.filter (λx=>Nat.blt x k)).length/\l.take (l.filter (λx=>Nat.blt x k)).length++k::l.drop (l.filter (λx=>Nat.blt x k)).length=ins l k/\ins l k∈subs 6/\(ins l k).length=l.length+1:=by
 have q:b1 l k=true:=dQ (dQ D7 l hm) k (IB.mpr hk);have hc:l.contains k=false:=by simpa using hn
 simp only[b1,hc,Bool.false_or,HF,HU,JR,Kr] at q;obtain⟨⟨⟨q1,q2⟩,q3⟩,q4⟩:=q;refine⟨q1,?_,q2,q3,q4,?_⟩
 .rw[q2];apply KG.mp;rw[SetTable.toList_insertAt];simpa using q3
 .rw[<-q3,HP,List.length_cons,Ir,KF];have:(l.filter (λx=>Nat.blt x k)).length<=l.length:=HW _ _;omega
def CT {b:Bool}{l D:ak}{t:SetTable}{es:Array (Int×Value)}{k:Nat}{x:Value}(h:TG b l D t)(h1:es.toList.map (·.1)=l.map Int.ofNat)(hk:k<6)(hn:k∉l)(hD:k∉D) :
  ∃es' t',layNew t es (Int.ofNat k) x=(es',t',false,false)/\es'.toList.map (·.1)=(ins l k).map Int.ofNat/\(∀e∈es'.toList,e∈es.toList\/e=(Int.ofNat k,x))/\t'.mask=t.mask/\t'.place=(ins l k).toArray/\t'.dummies=t.dummies/\t'.led=b/\t'.plain=true/\t'.fill=t.fill+1/\ins l k∈subs 6:=by
 obtain⟨q1,hp,q2,q3,q4,hlen⟩:=ins_of h.mem hk hn;obtain⟨ds,d1,d2,d3⟩:=h.dum;have hnod:SetTable.has t.dummies k=false:=by rw[d2]; exact (ins_of d1 hk λe=>hD (d3 k e)).1
 have hnop:SetTable.has t.place k=false:=by rw[h.place]; exact q1
 have f1:t.freeSlot (Int.ofNat k)=some (k,false):=E9 h.mask3 hk hnop hnod;rw[<-h.place] at hp q2;have hf:=h.fill;have h6:=(mem_b4 h.mem).1;have hfl:({ t with place:=(ins l k).toArray,dummies:=t.dummies }:SetTable).fill=t.fill+1:=by
  simp only[SetTable.fill,h.size,HJ,hlen];omega
 have hfit:({ t with place:=(ins l k).toArray,dummies:=t.dummies }:SetTable).fits (l.length+1)=true:=by
  simp only[SetTable.fits,hfl,HF,HU,Ig,HJ,hlen];refine⟨trivial,?_⟩;rcases h.mask with ⟨e,q⟩ | e | e <;> omega
 have hes:(SetTable.insertAt es (SetTable.below t.place k) (Int.ofNat k,x)).size=l.length+1:=by
  rw[<-Array.length_toList,(SetTable.insertAt_perm _ _ _).length_eq,K6,HP,Array.length_toList,gW h1];rfl
 refine⟨SetTable.insertAt es (SetTable.below t.place k) (Int.ofNat k,x),{ t with place:=(ins l k).toArray },?_,?_,λe he=>?_,rfl,rfl,rfl,h.led,h.plain,hfl,q4⟩
 .unfold layNew;rw[f1];dsimp only[SetTable.put];rw[hnod,hp];simp only[Ia,if_false];rw[hes];simp only[SetTable.orStandIn,hfit,if_true,KJ]
 .rw[SetTable.toList_insertAt,q2,Ij,HQ,List.map_take,List.map_drop,h1,<-List.map_take,<-List.map_drop,<-q3];simp
 .have:=(SetTable.insertAt_perm es (SetTable.below t.place k) (Int.ofNat k,x)).mem_iff.mp he;rw[K6,IA,HN] at this;exact this
def Gr {m f mv:Nat}{ld pl:Bool}{l:ak}{es:Array (Int×Value)}(q:b2 m l=true)(h1:es.toList.map (·.1)=l.map Int.ofNat):SetTable.laid m f mv ld pl (es.map (·.1))=some (⟨m,l.toArray,#[],f,ld,mv,pl⟩,(List.range l.length).toArray):=by
 simp only[b2,HU] at q;obtain⟨owner,o1,o2⟩:=cA q;have hh:es.map (·.1)=hs l:=by
  apply KG.mp;rw[Array.toList_map,h1];rfl
 have hzip:(l.zip (List.range l.length)).map (·.1)=l:=by rw[List.map_fst_zip]; simp
 have hzip2:(l.zip (List.range l.length)).map (·.2)=List.range l.length:=by rw[List.map_snd_zip]; simp
 unfold SetTable.laid;rw[hh];show (SetTable.layClean m (hs l)).bind _=_;rw[o1];show some _=some _;rw[show (List.range (m+1)).filterMap (λj=>(owner.getD j none).map (j,·))=l.zip (List.range l.length) from o2,hzip,hzip2]
def zh {l:ak}{es:Array (Int×Value)}(hz:es.size=l.length):(List.range l.length).toArray.filterMap (es[·]?)=es:=by
 apply KG.mp;rw[Array.toList_filterMap];show (List.range l.length).filterMap (λi=>es[i]?)=es.toList;rw[<-hz];exact filterMap_getElem?_range es
def zS {b:Bool}{l D:ak}{t:SetTable}{es:Array (Int×Value)}(hm:l∈subs 6)(h1:es.toList.map (·.1)=l.map Int.ofNat)(hl:t.led=b)(hp:t.plain=true) :
  ∃t',relayAll t es (SetTable.grown es.size)=(es,t',false)/\TG b l D t':=by
 have q:=dQ Ac l hm;simp only[vn,HF,IT,HU] at q;obtain⟨⟨⟨q1,_⟩,_⟩,q4⟩:=q;have hz:es.size=l.length:=gW h1;have h6:=(mem_b4 hm).1;have TT:TG b l D ⟨gm l,l.toArray,#[],t.finger,t.led,t.movedTo (gm l),t.plain⟩:=by
  refine⟨hm,rfl,⟨[],by decide +kernel,rfl,λx hx=>by cases hx⟩,?_,hl,hp⟩;rcases q4 with (⟨q4,q5⟩ | q4) | q4
  .exact .inl ⟨q4,by simpa[SetTable.fill] using JQ q5⟩
  .exact .inr (.inl q4)
  .exact .inr (.inr q4)
 refine⟨_,?_,TT⟩;have hr:t.relaid (es.map (·.1)) (SetTable.grown es.size)=some (⟨gm l,l.toArray,#[],t.finger,t.led,t.movedTo (gm l),t.plain⟩,(List.range l.length).toArray):=by
  unfold SetTable.relaid;rw[hz];exact Gr q1 h1
 have hcov:coversAll (List.range l.length).toArray es.size=true:=by
  unfold coversAll;rw[hz];exact List.isPerm_iff.mpr (List.Perm.refl _)
 unfold relayAll;rw[hr];dsimp only;rw[zh hz,hcov,TT.fits hz];rfl
section
variable {prog:Program}{w:World}{A:Around}{E:Value->Shared->Prop}{s:Shared}
def SG.store {b:Bool}{h:Heap}{a:Addr}{es es':Array (Int×Value)}{ep:Nat}{t t':SetTable}{l D:ak}(ho:h.get? a=some { cls:=.type "set",dict:=none,data:=.set es ep t })(h1:es'.toList.map (·.1)=l.map Int.ofNat)(h2:∀e∈es'.toList,∃tk,e.2=.int e.1 tk)(ht:TG b l D t') :
  (h.update a (Obj.putSet es' t')).get? a=some { cls:=.type "set",dict:=none,data:=.set es' (ep+1) t' }/\SG b (h.update a (Obj.putSet es' t')) a l D:=by
 have e:=Js (Obj.putSet es' t') ho rfl;exact⟨e,es',ep+1,t',e,h1,h2,ht⟩
def small_line (h:n<=6):n<=sizeLine:=bv h (by decide)
def BK {a:Addr}{l D:ak}{b:Bool}{k:Nat}{tk:Tok}{Q:Bool->Shared->Prop}(hS:SG b s.heap a l D)(hk:k<6)(hD:k∉D)
  (h:∀h' r,Heap.SameBut a s.heap h'->SG b h' a (if k∈l then l else ins l k) D->Q r { s with heap:=h' }) :
  wpAny (model prog w) A (setAddHashed a (.int (Int.ofNat k) tk) ((intKind prog w).hash (Int.ofNat k))) Q E s:=by
 obtain⟨es,ep,t,ho,h1,h2,ht⟩:=hS;have hel:ElemsOf (intKind prog w) es.toList:=mr ht.mem h1 h2;have hz:=gW h1;have h6:=(mem_b4 ht.mem).1;have hf:t.fits es.size=true:=ht.fits hz;have hb:es.size<scanBound:=by unfold scanBound; omega
 have hkey:(intKind prog w).is (Int.ofNat k) (.int (Int.ofNat k) tk)=true:=intKind_is _ _ _ _;unfold setAddHashed setAddHashedIn;refine Je (aU (Ks ho rfl hf ?_));dsimp only;rw[byScan_of (knd:=intKind prog w) rfl hb hel];simp only[↓reduceIte];unfold setAddByScan;refine aU ?_;refine aU (wpAny_rule ?_);refine aU (wpAny_setScan_of (knd:=intKind prog w) hkey ho rfl hf hel ?_);have hin:∀e∈es.toList,(intKind prog w).is (Int.ofNat k) e.2=true->k∈l:=by
  intro e he hi;obtain⟨tk',et⟩:=h2 e he;obtain⟨t2,e2⟩:=Value.isInt_shape (show Value.isInt (Int.ofNat k) e.2=true from hi);rw[et] at e2;injection e2 with e3 _;have:e.1∈l.map Int.ofNat:=by rw[<-h1]; exact Iz he
  obtain⟨k',hk',ek⟩:=bV this;rw[e3] at ek;have:k'=k:=Int.ofNat.inj ek;exact this ▸ hk'
 cases hr:List.findIdx? (λe=>(intKind prog w).is (Int.ofNat k) e.2) es.toList with
 | some j=>
  dsimp only;obtain⟨hj,hpj,_⟩:=IL.mp hr;have hkl:k∈l:=hin _ (Ii hj) hpj;refine be (be ?_);have e:s={ s with heap:=s.heap }:=by cases s; rfl
  have:=h s.heap false (Heap.SameBut.refl a s.heap) ⟨es,ep,t,ho,by rw[if_pos hkl]; exact h1,h2,by rw[if_pos hkl]; exact ht⟩;rw[e]; exact this
 | none=>
  dsimp only;have hkl:k∉l:=by
   intro hm;have:Int.ofNat k∈es.toList.map (·.1):=by rw[h1]; exact Iz hm
   obtain⟨e,he,ee⟩:=bV this;have:=List.findIdx?_eq_none_iff.mp hr e he;obtain⟨tk',et⟩:=h2 e he;rw[et,ee] at this;have z:(intKind prog w).is (Int.ofNat k) (.int (Int.ofNat k) tk')=true:=intKind_is _ _ _ _;rw[z] at this;cases this
  rw[if_neg hkl] at h;have hh:(intKind prog w).hash (Int.ofNat k)=Int.ofNat k:=vw hk;rw[hh];obtain⟨es',t',hL,e1,e2,m1,m2,m3,m4,m5,m6,m7⟩:=CT (x:=.int (Int.ofNat k) tk) ht h1 hk hkl hD;rw[hL];dsimp only;have e2':∀e∈es'.toList,∃tk,e.2=.int e.1 tk:=λe he=>by
   rcases e2 e he with q | q
   .exact h2 e q
   .rw[q]; exact⟨tk,rfl⟩
  have hz':=gW e1;have h6':=(mem_b4 m7).1;refine aU ?_;refine be ?_;rw[m5];simp only[if_true];refine aU ?_;rw[hashByValue_scannable 8 (x:=.int (Int.ofNat k) tk) rfl];refine be ?_;simp only[plainKind,if_true,Bool.not_false,Bool.true_and];refine aU (wpAny_storeSet_of ho rfl ?_ (small_line (by rw[hz']; exact h6')));by_cases hfull:t'.tooFull=true
  .rw[if_pos hfull];obtain⟨t2,r1,r2⟩:=zS (b:=b) (D:=D) m7 e1 m4 m5;rw[r1];dsimp only;have hx:=Js (Obj.putSet es' t') ho rfl;refine aU ?_;refine be ?_;refine aU (wpAny_storeSet_of (o:={ cls:=.type "set",dict:=none,data:=.set es' (ep+1) t' }) hx rfl ?_ (small_line (by rw[hz']; exact h6')));refine be (be (h _ true ((Jk s.heap a _).trans (Jk _ a _)) (SG.store hx e1 e2' r2).2))
  .rw[if_neg hfull];have hm':t'.mask=7/\t'.fill<=4\/t'.mask=15\/t'.mask=31:=by
    rcases ht.mask with ⟨q,q2⟩ | q
    .refine .inl ⟨m1.trans q,?_⟩;simp only[SetTable.tooFull,m1,q,Ig,ge_iff_le] at hfull;omega
    .exact .inr (by rw[m1]; exact q)
   refine be (be (h _ true (Jk s.heap a _) (SG.store ho e1 e2' ⟨m7,m2,by rw[m3]; exact ht.dum,hm',m4,m5⟩).2))
end
end St
end
section
namespace St
open PySem PyProof.Rows PySem.W
def Hu:entryFor table "set.__iter__" = some Builtin.«frozenset.__iter__»:=
 entryFor_alias (id' := "frozenset.__iter__") (by kernel_rfl) rfl (by decide +kernel) (by kernel_rfl)
def kH:Slot "set_iterator" "__next__" "set_iterator.__next__" :=
 .of (owner := "set_iterator") (n := "__next__") (by rw[typeLookup_type,KB]; kernel_rfl) (by decide +kernel) (by decide +kernel) (by decide +kernel)
  (by first | exact .inl (by decide +kernel) | exact .inr (by decide +kernel)) (by rw[isSubtype_type]; kernel_rfl)
def vd:entryFor table "set_iterator.__next__" = some Builtin.«set_iterator.__next__»:=entryFor_of_tree (by kernel_rfl)
theorem vA:Manifest.owners.lookup (String.ofList ['r','o','t','a','r','e','t','i','_','t','e','s'].reverse)=some Manifest.sig_set_iterator:=by kernel_rfl
def uN (a:Value):argsOk "set_iterator.__next__" ⟨[a],[]⟩:=by
 unfold argsOk; rw[signature?_of (id := "set_iterator.__next__") (n:=['_','_','t','x','e','n','_','_']) (o:=['r','o','t','a','r','e','t','i','_','t','e','s']) (by kernel_rfl) vA]; kernel_rfl
def wu:Slot "set_iterator" "__iter__" "set_iterator.__iter__" :=
 .of (owner := "set_iterator") (n := "__iter__") (by rw[typeLookup_type,KB]; kernel_rfl) (by decide +kernel) (by decide +kernel) (by decide +kernel)
  (by first | exact .inl (by decide +kernel) | exact .inr (by decide +kernel)) (by rw[isSubtype_type]; kernel_rfl)
def yO:typeLookup (.type "set") "__len__" = pure (some (.builtin "set.__len__")):=by rw[typeLookup_type,KB]; kernel_rfl
section
variable {prog:Program}{w:World}{A:Around}{E:Value->Shared->Prop}{s:Shared}{r:Addr}
def Ab (hT:s.TypeIs (.ref r) "set")(h:Q false s):wpAny (model prog w) A (Builtin.List.listLengthHint (.ref r)) Q E s:=by
 unfold Builtin.List.listLengthHint;refine aU (wpAny_specialOf hT yO ?_);generalize hid:("set.__len__" : String)=id0;wp_delta
 rw[show splitId id0=some ("set", "__len__") from by subst hid; decide +kernel];subst hid;refine aU (wpAny_isInstance (T := "set") (b:=true) hT (by rw[isSubtype_type]; kernel_rfl) ?_);refine JN (λhab=>absurd hab (by decide)) (λ_=>?_);refine JN (λ_=>?_) (λhab=>absurd (by decide +kernel) hab);refine aU (wpAny_typeOf hT ?_);exact be h
def qx (h:Q (w.params.followText "set-order") s):wpAny (model prog w) A setsByText Q E s:=by
 unfold setsByText;refine aU (wpAny_askSetting ?_);exact be h
def F9 (ho:s.heap.get? a=some { cls:=.type "set",dict:=none,data:=.set es ep t })(hf:t.fits es.size=true)(hp:t.plain=true)(h:Q false s) :
  wpAny (model prog w) A (setDrawn a) Q E s:=by
 unfold setDrawn;refine aU (Ks ho rfl hf ?_);dsimp only;refine aU (qx ?_);refine be ?_;show Q (!w.params.followText "set-order" && (!t.plain&&decide (es.size > 1))) s;rw[hp,KJ,Bool.false_and,Bool.and_false];exact h
end
noncomputable abbrev lI (slot i:Nat)(a:Addr)(n ep:Nat):Obj:={ cls:=.type "set_iterator",data:=.fields #[.int slot 0,.int i 0,.ref a,.int n 0,.int ep 0] }
section
variable {prog:Program}{w:World}{A:Around}{E:Value->Shared->Prop}{s:Shared}{a:Addr}{es:Array (Int×Value)}{ep:Nat}{t:SetTable}
def A9 (ho:s.heap.get? a=some { cls:=.type "set",dict:=none,data:=.set es ep t })(hf:t.fits es.size=true)(hp:t.plain=true)
  (hQ:Q (.ref s.heap.objs.size) { s with heap:=s.heap.push (lI 0 0 a es.size ep) }):wpAny (model prog w) A (pyIter (.ref a)) Q E s:=by
 have hT:s.TypeIs (.ref a) "set":=⟨_,ho,rfl⟩
 refine wpAny_pyIter_slot hT F.slot_set_iter (IU F.slot_set_iter hT Hu ?_ (F.args_set_iter_1 _));unfold Builtin.«frozenset.__iter__» Builtin.Frozenset.slot0 slotArgs;simp only[List.isEmpty_nil,KJ,Ia,↓reduceIte,bind_assoc,List.length_nil,Jz];unfold Builtin.Frozenset.addrOf Builtin.Frozenset.sizeOf;refine aU (be ?_);try dsimp only
 refine aU (be ?_);refine aU (aU (KT ho rfl hf (be ?_)));refine aU (F9 ho hf hp ?_);simp only[Ia,if_false];refine aU (be ?_);refine aU (wpAny_setEpoch_of ho rfl hf ?_);unfold newFields;refine aU (Ix (be ⟨_,rfl, "set_iterator",_,⟨_,c9 _ rfl,rfl⟩,kH.lookup,?_⟩));exact hQ
noncomputable def ord (w:World)(a:Addr)(ep:Nat)(es:Array (Int×Value)):Array (Int×Value):=if w.params.followText "set-order" then pickOrder (w.params.setOrder a ep) es else es
noncomputable def nextOf (w:World)(a:Addr)(ep:Nat)(es:Array (Int×Value))(t:SetTable)(slot i:Nat):Option (Value×Nat):=
 if w.params.followText "set-order" then ((ord w a ep es)[i]?).map λe=>(e.2,slot) else match es[SetTable.below t.place slot]?,t.place[SetTable.below t.place slot]? with
  | some (_,x),some j=>some (x,j+1)
  | _,_=>none
def uy (ho:s.heap.get? a=some { cls:=.type "set",dict:=none,data:=.set es ep t })(hf:t.fits es.size=true)(hp:t.plain=true)(hl:t.led = !w.params.followText "set-order")(h:Q (nextOf w a ep es t slot i) s) :
  wpAny (model prog w) A (setNext a slot i ep) Q E s:=by
 unfold setNext;refine aU (Ks ho rfl hf ?_);dsimp only;refine aU (qx ?_);unfold nextOf ord at h;cases hb:w.params.followText "set-order" with
 | true=>
  rw[hb] at h;simp only[if_true,Jz,Ia,if_false] at h ⊢;refine aU ?_;unfold setWalk;refine aU (Ks ho rfl hf ?_);dsimp only;refine aU (qx ?_);rw[hb];simp only[if_true];refine aU (wpAny_askSetting ?_);exact be (be h)
 | false=>
  rw[hb] at h hl;simp only[Ia,if_false] at h ⊢;refine JN (λhab=>absurd (show (!t.plain&&decide (es.size > 1))=true from hab) (by rw[hp]; simp)) (λ_=>?_);refine aU ?_;refine JN (λhab=>absurd (show (!t.led&&!es.isEmpty)=true from hab) (by rw[hl]; simp)) (λ_=>?_);exact be (be h)
end
theorem uU:∀{l:List α} {i:Nat} (h:i<l.length),List.Perm (l[i]::l.eraseIdx i) l
 | x::l,0,_=>List.Perm.refl _
 | x::l,i+1,h=>by
  have:=uU (l:=l) (i:=i) (Nat.lt_of_succ_lt_succ h);rw[List.eraseIdx_cons_succ,List.getElem_cons_succ];exact (List.Perm.swap x _ _).trans (this.cons x)
theorem vY (next:Nat->Nat):∀(fuel k:Nat) (left:List α) (out:Array α),fuel=left.length->List.Perm (pickOrder.go next fuel k left out).toList (out.toList++left)
 | 0,k,left,out,h=>by
  have:left=[]:=Jh.mp h.symm;subst this;simp[pickOrder.go]
 | fuel+1,k,left,out,h=>by
  unfold pickOrder.go;have hl:next k % left.length<left.length:=Nat.mod_lt _ (by omega);rw[HI hl];dsimp only;refine (vY next fuel (k+1) _ _ ?_).trans ?_
  .rw[List.length_eraseIdx,if_pos hl]; omega
  .rw[K6,Jx];refine List.Perm.append_left _ ?_;exact uU hl
def Hz (next:Nat->Nat)(xs:Array α):List.Perm (pickOrder next xs).toList xs.toList:=by
 have:=vY next xs.size 0 xs.toList #[] (by simp);simpa[pickOrder] using this
def sK (w:World)(a:Addr)(ep:Nat)(es:Array (Int×Value)):List.Perm (ord w a ep es).toList es.toList:=by
 unfold ord;split
 .exact Hz _ _
 .exact List.Perm.refl _
def qY (w:World)(a:Addr)(ep:Nat)(es:Array (Int×Value)):(ord w a ep es).size=es.size:=by
 rw[<-Array.length_toList,(sK w a ep es).length_eq,Array.length_toList]
noncomputable def slotAt (w:World)(l:ak)(i:Nat):Nat:=if w.params.followText "set-order" then 0 else if i=0 then 0 else l.getD (i - 1) 0+1
section
variable {prog:Program}{w:World}{A:Around}{E:Value->Shared->Prop}{s:Shared}{a I:Addr}{es:Array (Int×Value)}{ep:Nat}{t:SetTable}{b:Bool}{l D:ak}
def DL (ht:TG b l D t)(h1:es.toList.map (·.1)=l.map Int.ofNat)(hi:i<es.size):∃e,(ord w a ep es)[i]? = some e/\nextOf w a ep es t (slotAt w l i) i=some (e.2,slotAt w l (i+1)):=by
 have hz:=gW h1;have ho:i<(ord w a ep es).size:=by rw[qY]; exact hi
 refine⟨(ord w a ep es)[i],by simp[ho],?_⟩;unfold nextOf slotAt;by_cases hb:w.params.followText "set-order" = true
 .simp only[hb,if_true];rw[J7 ho];rfl
 .have q:=dQ uW l ht.mem;simp only[b3,List.all_eq_true,HU,IB] at q;have q1:=q i (by omega);have hbel:SetTable.below t.place (if i=0 then 0 else l.getD (i - 1) 0+1)=i:=by rw[ht.place]; exact q1
  have hil:i<l.length:=by omega
  have hb':w.params.followText "set-order" = false:=by simpa using hb
  simp only[hb',Ia,if_false,hbel];have e1:es[i]? = some es[i]:=by simp[hi]
  have e2:t.place[i]? = some (l[i]'hil):=by rw[ht.place]; simp[hil]
  have e3:(ord w a ep es)=es:=by unfold ord; rw[if_neg hb]
  rw[e1,e2];simp only[e3,Nat.add_eq_zero_iff,Nat.succ_ne_self,and_false,if_false,Nat.add_sub_cancel,Nat.reduceAdd,Nat.one_ne_zero];simp[hil]
def CA (ht:TG b l D t)(h1:es.toList.map (·.1)=l.map Int.ofNat):nextOf w a ep es t (slotAt w l es.size) es.size=none:=by
 have hz:=gW h1;unfold nextOf slotAt;by_cases hb:w.params.followText "set-order" = true
 .simp only[hb,if_true];rw[Kt (by rw[qY]; exact bC _)];rfl
 .have q:=dQ uW l ht.mem;simp only[b3,List.all_eq_true,HU,IB] at q;have q1:=q es.size (by omega);have hbel:SetTable.below t.place (if es.size=0 then 0 else l.getD (es.size - 1) 0+1)=es.size:=by rw[ht.place]; exact q1
  have hb':w.params.followText "set-order" = false:=by simpa using hb
  simp only[hb',Ia,if_false,hbel];have e1:es[es.size]? = none:=by simp
  rw[e1]
def F8 (hI:s.heap.get? I=some (lI slot i a es.size ep))(ho:s.heap.get? a=some { cls:=.type "set",dict:=none,data:=.set es ep t })(hf:t.fits es.size=true)(hp:t.plain=true)(hl:t.led = !w.params.followText "set-order")(hn:nextOf w a ep es t slot i=some (x,nx))
  (hQ:∀h',h'.get? I=some (lI nx (i+1) a es.size ep)->Heap.SameBut I s.heap h'->Q (some x) { s with heap:=h' }):wpAny (model prog w) A (pyNext (.ref I)) Q E s:=by
 have hT:s.TypeIs (.ref I) "set_iterator":=⟨_,hI,rfl⟩
 unfold pyNext;refine aU (wpAny_attempt (wpAny_callSpecial?_slot (name:=Str.ofString "__next__") hT kH (IU kH hT vd ?_ (uN _))));unfold Builtin.«set_iterator.__next__» slotArgs;simp only[List.isEmpty_nil,KJ,Ia,↓reduceIte,bind_assoc,List.length_nil,Jz];refine aU (be ?_);refine aU (wpAny_fieldsOf hI rfl ?_);dsimp only;refine aU (KT ho rfl hf ?_);refine JN (λhab=>absurd hab (by simp)) (λ_=>?_);simp only[Int.toNat_natCast];refine aU (uy ho hf hp hl ?_);rw[hn];dsimp only;refine aU (wpAny_setField_rec hI (by simp) λh1 g1 s1=>?_);refine aU (wpAny_setField_rec (s:={ s with heap:=h1 }) g1 (by simp) λh2 g2 s2=>?_);exact be ⟨_,rfl,be (hQ h2 g2 (s1.trans s2))⟩
def Ht (hh:A.handled=none)(hI:s.heap.get? I=some (lI slot i a es.size ep))(ho:s.heap.get? a=some { cls:=.type "set",dict:=none,data:=.set es ep t })(hf:t.fits es.size=true)(hp:t.plain=true)(hl:t.led = !w.params.followText "set-order")(hn:nextOf w a ep es t slot i=none)
  (hQ:∀h',Heap.ExtBut I s.heap h'->Q none { s with heap:=h' }):wpAny (model prog w) A (pyNext (.ref I)) Q E s:=by
 have hT:s.TypeIs (.ref I) "set_iterator":=⟨_,hI,rfl⟩
 unfold pyNext;refine aU (wpAny_attempt (wpAny_callSpecial?_slot (name:=Str.ofString "__next__") hT kH (IU kH hT vd ?_ (uN _))));unfold Builtin.«set_iterator.__next__» slotArgs;simp only[List.isEmpty_nil,KJ,Ia,↓reduceIte,bind_assoc,List.length_nil,Jz];refine aU (be ?_);refine aU (wpAny_fieldsOf hI rfl ?_);dsimp only;refine aU (KT ho rfl hf ?_);refine JN (λhab=>absurd hab (by simp)) (λ_=>?_);simp only[Int.toNat_natCast];refine aU (uy ho hf hp hl ?_);rw[hn];dsimp only;refine aU (K0 hI rfl (by simp) ?_);show wpAny _ _ (newExc (.type "StopIteration") [] >>= _) _ _ _;refine aU ?_;simp only[newExc,newTuple];refine aU (Ix ?_ (by size_fits));refine aU (m:=firstArgMember _ _) (wpAny_of_eq (a:=Value.none) (by first | rfl | (simp only[firstArgMember]; rfl)) ?_);refine Ix ?_ (by size_fits);simp only[raiseNew];refine aU (wpAny_handled ?_);rw[show A.in1.handled=none from hh];refine aU (be (wpAny_throw ?_));refine aU (wpAny_isInstance (T := "StopIteration") (b:=true) ⟨_,c9 _ rfl,rfl⟩ isSubtype_stop ?_);exact be (hQ _ (((Jk ..).extBut.push _).push _))
end
def BZ:entryFor table "set_iterator.__iter__" = some Builtin.«dict_keyiterator.__iter__»:=
 entryFor_alias (id' := "dict_keyiterator.__iter__") (by kernel_rfl) rfl (by decide +kernel) (by kernel_rfl)
def Am (a:Value):argsOk "set_iterator.__iter__" ⟨[a],[]⟩:=by
 unfold argsOk; rw[signature?_of (id := "set_iterator.__iter__") (n:=['_','_','r','e','t','i','_','_']) (o:=['r','o','t','a','r','e','t','i','_','t','e','s']) (by kernel_rfl) vA]; kernel_rfl
noncomputable abbrev mz (es:Array (Int×Value))(ep:Nat)(t:SetTable):Obj:={ cls:=.type "set",dict:=none,data:=.set es ep t }
section
variable {prog:Program}{w:World}{A:Around}{E:Value->Shared->Prop}{s:Shared}{a I:Addr}{es:Array (Int×Value)}{ep:Nat}{t:SetTable}{l D:ak}
def Fj (w:World)(l:ak):slotAt w l 0=0:=by unfold slotAt; split <;> rfl
def FU (hh:A.handled=none)(hne:a≠I)(ht:TG (!w.params.followText "set-order") l D t)(h1:es.toList.map (·.1)=l.map Int.ofNat) :
  Walks prog w A I [I,a] [I] es.size (λi v=>∃e,(ord w a ep es)[i]? = some e/\v=e.2) (λi h=>h.get? I=some (lI (slotAt w l i) i a es.size ep)/\h.get? a=some (mz es ep t)) where
 sub:=λb hb=>by simp at hb; simp[hb]
 frame:=λ_ _ _ st hk=>⟨hk I (by simp) _ st.1,hk a (by simp) _ st.2⟩
 item:=λi s Q E hi st hQ=>by
  obtain⟨e,e1,e2⟩:=DL (w:=w) (a:=a) (ep:=ep) ht h1 hi;refine F8 st.1 st.2 (ht.fits (gW h1)) ht.plain ht.led e2 λh' g sb=>?_;exact hQ _ h' s.toks ⟨e,e1,rfl⟩ ⟨g,sb.extBut _ _ hne st.2⟩ λb o hb q=>sb.extBut b o (λz=>hb (by simp[z])) q
 done:=λs Q E st hQ=>Ht hh st.1 st.2 (ht.fits (gW h1)) ht.plain ht.led (CA ht h1) λh' he=>hQ h' s.toks λb o hb q=>he b o (λz=>hb (by simp[z])) q
 self:=λi s Q E st hQ=>by
  have hT:s.TypeIs (.ref I) "set_iterator":=⟨_,st.1,rfl⟩
  refine wpAny_pyIter_slot hT wu (IU wu hT BZ ?_ (Am _));show wpAny _ _ (ret (.ref I)) _ _ s;exact be ⟨_,rfl, "set_iterator",_,hT,kH.lookup,hQ⟩
def Ga (ht:TG (!w.params.followText "set-order") l D t)(h1:es.toList.map (·.1)=l.map Int.ofNat):KdlSrc prog w "set" a a es.size (λi v=>∃e,(ord w a ep es)[i]? = some e/\v=e.2) (λh=>h.get? a=some (mz es ep t)) where
 type:=λ_ hm=>⟨_,hm,rfl⟩
 there:=λ_ hm=>⟨bL hm,bL hm⟩
 keep:=λ_ _ hm hk=>hk a (.inl rfl) _ hm
 notList:=by decide
 notTuple:=by decide
 hint:=λ_ _ _ _ hm hq=>Ab ⟨_,hm,rfl⟩ hq
 iter:=λA s hh hm=>⟨lI 0 0 a es.size ep,_,(λ_ _ hq=>A9 hm (ht.fits (gW h1)) ht.plain hq),FU hh (dh (bL hm)) ht h1,⟨by rw[Fj]; exact c9 _ rfl,bR _ hm⟩⟩
def Aq (K:KdlSrc prog w T r d n P OK)(hh:A.handled=none)(hok:OK s.heap)(hn:n<=sizeLine)
  (hQ:∀h' tk acc,(∀b o,s.heap.get? b=some o->h'.get? b=some o)->ItemsOf P acc n->Q acc.toList { s with heap:=h',toks:=tk }):wpAny (model prog w) A (collect (.ref r)) Q E s:=by
 unfold collect;refine aU (wpAny_runValue (JO F.entry_proto_collect ?_));rw[JA F.plain_proto_collect _];show wpAny _ A.in1 (newList [] >>= λl=>again (.builtin "list.__iadd__" ⟨[l,.ref r],[]⟩)) _ _ s;refine aU (Ix ?_);refine be ⟨plainId_quiet F.plain_list_iadd _,JO F.entry_list_iadd ?_⟩;rw[JA F.plain_list_iadd _];show wpAny _ A.in1 (Builtin.List.listExtendWith (.ref s.heap.objs.size) (.ref r) (.ref s.heap.objs.size)) _ _ _;have hlt:=K.there _ hok;refine kdl_extend (R:=λr s'=>match r with
   | .ok (.ret v)=>wpAny (model prog w) A (match v with
    | .ref a=>do
     match (<-load a).data with
     | .seq xs _=>pure xs.toList
     | _=>unsupported "internal:collect"
    | _=>unsupported "internal:collect") Q E s'
   | .ok _=>False
   | .error e=>E e s') (s:={ s with heap:=s.heap.push { cls:=.type "list",data:=.seq ([]:List Value).toArray } }) K hh (K.keep _ _ hok λb _ o e=>bR _ e) s.heap.objs.size (Ju hlt.1) (Ju hlt.2) (.ref s.heap.objs.size) 0 (c9 _ rfl) (λh' tk acc' c' hk hS' hacc=>?_) hn
 show wpAny _ A (load s.heap.objs.size >>= _) _ _ _;refine aU (wpAny_load hS' ?_);exact be (hQ h' tk acc' (λb o e=>hk b o (dh (bL e)) (bR _ e)) hacc)
def sorted_set (hh:A.handled=none)(hS:SG (!w.params.followText "set-order") s.heap a l D)
  (h:∀h' tk L (vs:aq) n,(∀b o,s.heap.get? b=some o->h'.get? b=some o)->a<L->h'.get? L=some { cls:=.type "list",data:=.seq vs.toArray n }->IntsAre vs (l.map Int.ofNat)->Q (.ref L) { s with heap:=h',toks:=tk }) :
  wpAny (model prog w) A (call (.builtin "sorted") [.ref a]) Q E s:=by
 obtain⟨es,ep,t,ho,h1,h2,ht⟩:=hS;have hz:=gW h1;have h6:=(mem_b4 ht.mem).1;refine Calls.call_function_entry kind_sorted plain_sorted entry_sorted (args_sorted1 _) ?_;unfold Builtin.«sorted»;refine aU (m:=checkCount "sorted" 1 1 _) (be ?_);refine aU (Aq (Ga (prog:=prog) (a:=a) (ep:=ep) ht h1) hh ho (small_line (by omega)) λh' tk acc hk hacc=>?_);refine aU (wpAny_newList ?_ (hsz:=by rw[Array.length_toList,hacc.1]; exact small_line (by omega)));have hvs:acc.toList=(ord w a ep es).toList.map (·.2):=by
  apply Ji;intro j;rw[HR,JS,JS];by_cases hj:j<acc.size
  .obtain⟨e,e1,e2⟩:=hacc.2 j acc[j] (by simp[hj]);rw[e1,J7 hj,e2];rfl
  .have hsz:(ord w a ep es).size<=j:=by rw[qY,<-hacc.1]; omega
   rw[Kt (by omega),Kt hsz];rfl
 have hints:IntsAre acc.toList ((ord w a ep es).toList.map (·.1)):=by
  rw[hvs];have:∀(m:List (Int×Value)),(∀e∈m,∃tk,e.2=.int e.1 tk)->IntsAre (m.map (·.2)) (m.map (·.1)):=by
   intro m;induction m with
   | nil=>intro _; exact IntsAre.nil
   | cons e m ih=>
    intro hm;obtain⟨tk,et⟩:=hm e bN;rw[HQ,HQ,et];exact IntsAre.cons _ _ (ih λx hx=>hm x (bM _ hx))
  exact this _ λe he=>h2 e ((sK w a ep es).mem_iff.mp he)
 have hoL:(h'.push (seqObj "list" acc.toList.toArray 0)).get? h'.objs.size=some (seqObj "list" acc.toList.toArray 0):=c9 _ rfl;have hlen:acc.toList.length<64:=by rw[Array.length_toList,hacc.1]; omega
 refine aU (Je (IU slot_list_sort ⟨_,hoL,rfl⟩ entry_list_sort (list_sort_tree hoL hints hlen λout ns' a1 a2 a3=>⟨_,rfl,?_⟩) (args_list_sort _)));have hns:ns'=l.map Int.ofNat:=by
  have p:ns'.Perm (l.map Int.ofNat):=by
   rw[<-h1];exact a2.trans ((sK w a ep es).map _)
  refine ksm_same p a3 ?_;rw[JU];exact (mem_b4 ht.mem).2.2.imp λh=>Int.ofNat_le.mpr (J0 h)
 subst hns;obtain⟨e,ge⟩:=sortedHeap_at (out:=out) hoL;refine be ⟨_,rfl,h _ _ h'.objs.size out.toList e (λb o q=>?_) ?_ ?_ a1⟩
 .have hb:b<h'.objs.size:=bL (hk b o q);rw[sortedHeap_old (JZ hb) (by rw[Iq]; exact Ja hb)];exact bR _ (hk b o q)
 .exact bL (hk a _ ho)
 .simpa using ge
end
noncomputable def stp (l:ak)(k:Nat):ak:=if k∈l then l else ins l k
noncomputable def acc (val:Nat->Nat)(i:Nat):ak:=((List.range i).map val).foldl stp []
def BO (val:Nat->Nat)(i:Nat):acc val (i+1)=stp (acc val i) (val i):=by
 unfold acc;rw[List.range_succ,Ij,List.foldl_append];rfl
section
variable {prog:Program}{w:World}{A:Around}{R:Result->Shared->Prop}{I:Addr}{fp wr:ao}{G:Array GenState->Array GenState->Prop}{n:Nat}{P:Nat->Value->Prop}{St:Nat->Shared->Prop}
def SG.at (x:SG b h a l D)(e:∀o,h.get? a=some o->h'.get? a=some o):SG b h' a l D:=by
 obtain⟨es,ep,t,ho,r⟩:=x;exact⟨es,ep,t,e _ ho,r⟩
def Bj (b:Bool)(W:WalksS prog w A.in1 I fp wr G n P St)(S:Addr)(hSf:S∉fp)(val:Nat->Nat)(hval:∀i v,P i v->val i<6/\∃t,v=.int (Int.ofNat (val i)) t) :
  ∀(k i:Nat) (s:Shared),n - i=k->i<=n->St i s->SG b s.heap S (acc val i) [] ->
   (∀s',Moved (S::wr) G s s'->SG b s'.heap S (acc val n) []->R (.ok (.ret .none)) s') ->
   codeAny (model prog w) A (.builtin "set.update.loop" ⟨[.ref S,.ref I],[]⟩) R s:=by
 have hSw:S∉wr:=λh=>hSf (W.sub _ h);have hsub:∀b∈wr,b∈S::wr:=λb hb=>bM _ hb;intro k;induction k with
 | zero=>
  intro i s hk hi hst hS hR;have hin:i=n:=by omega
  subst hin;refine JO F.entry_set_update_loop ?_;rw[JA Kh _];show wpAny _ A.in1 (pyNext (.ref I) >>= _) _ _ s;refine aU (W.done s _ _ hst λs' hm=>?_);show wpAny _ A.in1 (ret Value.none) _ _ s';exact be (hR s' (hm.mono hsub) (hS.at λo e=>hm.heap S _ hSw e))
 | succ k ih=>
  intro i s hk hi hst hS hR;have hlt:i<n:=by omega
  refine JO F.entry_set_update_loop ?_;rw[JA Kh _];show wpAny _ A.in1 (pyNext (.ref I) >>= _) _ _ s;refine aU (W.item i s _ _ hlt hst λv s' hP hst' hm=>?_);obtain⟨hv6,t,rfl⟩:=hval i v hP;have hS':SG b s'.heap S (acc val i) []:=hS.at λo e=>hm.heap S _ hSw e;show wpAny _ A.in1 (holding [Value.int (Int.ofNat (val i)) t] (setAdd S (.int (Int.ofNat (val i)) t)) >>= _) _ _ s';refine aU (Je ?_);unfold setAdd;refine Je ?_;refine aU ((intKind prog w).pyHash (k:=Int.ofNat (val i)) (intKind_is _ _ _ _) ?_);refine BK (s:={ s' with toks:=s'.toks+1 }) hS' hv6 (λz=>by cases z) λh' r hsb hS2=>?_;have hSi:SG b h' S (acc val (i+1)) []:=by rw[BO]; exact hS2
  refine be ⟨plainId_quiet Kh _,ih (i+1) _ (by omega) hlt (W.frame _ s' _ _ hst' (Jp _) λb hb o e=>?_) hSi λs'' hm'' hS''=>?_⟩
  .rw[hsb.2 b (λh:b=S=>hSf (by rw[<-h]; exact hb))]; exact e
  .refine hR s'' (Moved.trans W.gtrans ((hm.mono hsub).then_heap (Jp _) λb o hb e=>?_) hm'') hS'';rw[hsb.2 b (λh:b=S=>hb (by rw[h]; exact bN))]; exact e
end
section
variable {prog:Program}{w:World}{A:Around}{E:Value->Shared->Prop}{s:Shared}
def HE (a:Value)
  (h:Q₁ (.ref s.heap.objs.size) { s with heap:=s.heap.push { cls:=.type "set",dict:=none,data:=.set #[] 0 (.fresh 0 0 (!w.params.followText "set-order")) } }) :
  codeAny (model prog w) A (.call (.builtin "set.__new__") ⟨[.type "set",a],[]⟩) (wants Q₁ E) s:=by
 refine codeAny_of_tree ?_;show wpAny _ A.in1 (do checkBuiltinCall "set.__new__" ⟨[.type "set",a],[]⟩; again (.builtin "set.__new__" ⟨[.type "set",a],[]⟩)) _ _ s;refine aU (wpAny_of_eq (F.newCall_set_1 a) (be ⟨plainId_quiet F.plain_set_new _,JO F.entry_set_new ?_⟩));rw[JA F.plain_set_new _];unfold Builtin.«set.__new__» Builtin.Frozenset.newClass;have hsub:=sub_set_self;obtain⟨hp,g,d,tk,os⟩:=s;dsimp only;wp_walk
 refine wpAny_askSetting (be ?_);dsimp only;simp only[newObj];refine aU (wpAny_alloc (be ?_));exact be h
def Ah (b:Bool)(e:h.get? a=some { cls:=.type "set",dict:=none,data:=.set #[] 0 (.fresh 0 0 b) }):SG b h a [] []:=
 ⟨#[],0,_,e,rfl,λe he=>by simp at he,⟨by decide +kernel,rfl,⟨[],by decide +kernel,rfl,λx hx=>by cases hx⟩,.inl ⟨rfl,by simp[SetTable.fill,SetTable.fresh]⟩,rfl,rfl⟩⟩
set_option maxHeartbeats 3200000 in
def set_list {l:Addr}{items:aB}{ns:ak}{Q:Value->Shared->Prop}
  (hh:A.handled=none)(hl:s.heap.IsList l items)(hi:IntsAre items.toList (ns.map Int.ofNat))(h6:∀x∈ns,x<6)
  (h:∀(h':Heap) (tk:Nat),SG (!w.params.followText "set-order") h' s.heap.objs.size (ns.foldl stp []) [] ->
   (∀b o,b<s.heap.objs.size->s.heap.get? b=some o->h'.get? b=some o)->Q (.ref s.heap.objs.size) { s with heap:=h',toks:=tk }) :
  wpAny (model prog w) A (call (.type "set") [.ref l]) Q E s:=by
 have hlen:items.size=ns.length:=by have:=IntsAre.length hi; simpa using this
 have hacc:acc (λi=>ns.getD i 0) items.size=ns.foldl stp []:=by
  unfold acc;have:(List.range items.size).map (λi=>ns.getD i 0)=ns:=by
   rw[hlen];apply Ji;intro j;by_cases hj:j<ns.length
   .simp[hj]
   .simp[Nat.le_of_not_lt hj]
  rw[this]
 obtain⟨c,tl,hmro⟩:=JI.mro;have hmade:=JI.made;have hsub:=JI.sub;refine wpAny_call (codeAny_of_tree ?_);show wpAny _ _ (callAny (.type "set") _) _ _ _;refine be ⟨Code.quiet_builtin _ (by decide +kernel),JO F.entry_type_call ?_⟩;rw[Around.under_plain (weight_type_call_type "set" [.ref l] []) rfl];have h1:=JI.notType;have h2:=JI.canCreate;have hct:=F.typeCall_set_1 (.ref l);repeat (any_goals (first | assumption | wp_step))
 refine Kl (HE (.ref l) (E:=E) (Q₁:=λobj s₁=>obj=.ref s.heap.objs.size/\s₁={ s with heap:=s.heap.push { cls:=.type "set",dict:=none,data:=.set #[] 0 (.fresh 0 0 (!w.params.followText "set-order")) } }) ⟨rfl,rfl⟩) λr s₁ hr=>?_;cases r with
 | error e=>exact hr
 | ok fl=>
  cases fl with
  | ret obj=>
   obtain⟨rfl,rfl⟩:=hr;generalize hled:(!w.params.followText "set-order")=led at *;have hS:(s.heap.push { cls:=.type "set",dict:=none,data:=.set #[] 0 (.fresh 0 0 led) }).get? s.heap.objs.size=some { cls:=.type "set",dict:=none,data:=.set #[] 0 (.fresh 0 0 led) }:=c9 _ rfl;have hT:Shared.TypeIs { s with heap:=s.heap.push { cls:=.type "set",dict:=none,data:=.set #[] 0 (.fresh 0 0 led) } } (.ref s.heap.objs.size) "set":=⟨_,hS,rfl⟩
   have hli:=JI.init.lookup;have hbi:=JI.init.bind (.ref s.heap.objs.size);repeat (any_goals (first | assumption | wp_step))
   refine Kl (codeAny_call_builtin (R:=wants (λr s₂=>r=.none/\∃h' tk,s₂={ s with heap:=h',toks:=tk }/\SG led h' s.heap.objs.size (ns.foldl stp []) [] /\
     (∀b o,b<s.heap.objs.size->s.heap.get? b=some o->h'.get? b=some o)) E) JI.init.plain F.entry_set_init (check_set_init_1 hT ?_)) λr₂ s₂ hr₂=>?_
   .obtain⟨ol,hol,hcl,nl,hdl⟩:=hl;obtain⟨ocls,odict,odata,oslots⟩:=ol;simp only at hcl hdl;subst hcl; subst hdl;have hol':(s.heap.push { cls:=.type "set",dict:=none,data:=.set #[] 0 (.fresh 0 0 led) }).get? l=some { cls:=.type "list",dict:=odict,data:=.seq items nl,slots:=oslots }:=bR _ hol;have hsls:=F.sub_list_set;have hslf:=F.sub_list_frozenset;have hne:(Value.type "list" == Value.type "dict")=false:=by decide
    have hl1:(s.heap.push { cls:=.type "set",dict:=none,data:=.set #[] 0 (.fresh 0 0 led) }).IsList l items:=⟨_,hol',rfl,nl,rfl⟩
    unfold Builtin.«set.__init__» noKeywords Builtin.Frozenset.updateFrom;generalize hPI:pyIter=PI;wp_walk
    subst hPI;refine Kk hl1 ?_;refine aU (wpAny_runValue ?_);have hlS:l<s.heap.objs.size:=bL hol;have hh3:A.in1.in1.in1.handled=none:=by simp[hh]
    have hneI:l≠(s.heap.push { cls:=.type "set",dict:=none,data:=.set #[] 0 (.fresh 0 0 led) }).objs.size:=by
     rw[Iq]; exact dh (Ja hlS)
    have hSf:s.heap.objs.size∉[(s.heap.push { cls:=.type "set",dict:=none,data:=.set #[] 0 (.fresh 0 0 led) }).objs.size,l]:=by
     rw[Iq]; simp only[H0,HN,Ib,or_false,not_or];exact⟨dh (Jq _),Ju hlS⟩
    have hval:∀(i:Nat) (v:Value),items[i]? = some v->(λi=>ns.getD i 0) i<6/\∃t,v=.int (Int.ofNat ((λi=>ns.getD i 0) i)) t:=λi v hv=>by
     have hil:i<ns.length:=by
      have:=(I0.mp hv).1;omega
     obtain⟨t,et⟩:=IntsAre.int_at hi i v (by rw[JS]; exact hv);refine⟨?_,t,?_⟩
     .simp only[HM,HI hil,Option.getD_some];exact h6 _ (Ii hil)
     .rw[et];simp[hil]
    refine Bj led ((Walks.list hh3 _ l hneI items).toS) s.heap.objs.size
     hSf (λi=>ns.getD i 0) hval (items.size - 0) 0 _ (by omega) (ID _)
     ⟨⟨_,c9 _ rfl,rfl,rfl⟩,(hl1.push _)⟩ ?hS0 ?hR
    case hS0=>exact Ah led (bR _ hS)
    case hR=>
     intro s' hm hS';rw[hacc] at hS';obtain⟨h',g',d',tk',os'⟩:=s';have eg:g'=s.gens:=hm.gens;have ed:d'=s.drawn:=hm.drawn;have eo:os'=s.os:=hm.os;subst eg; subst ed; subst eo;show wpAny _ _ _ _ _ _;refine be ?_;show wpAny _ _ (ret Value.none) _ _ _;refine be ⟨rfl,h',tk',rfl,hS',λb o hb e=>?_⟩;have hb1:b≠s.heap.objs.size:=dh hb;have hb2:b≠(s.heap.push { cls:=.type "set",dict:=none,data:=.set #[] 0 (.fresh 0 0 led) }).objs.size:=by
      rw[Iq]; exact dh (Ja hb)
     exact hm.heap b o (by simp only[H0,HN,Ib,or_false,not_or]; exact⟨hb1,hb2⟩) (bR _ (bR _ e))
   .cases r₂ with
    | error e=>exact hr₂
    | ok fl₂=>
     cases fl₂ with
     | ret r=>
      obtain⟨rfl,h',tk,rfl,hS',hk'⟩:=hr₂;repeat (any_goals (first | assumption | wp_step))
      exact h _ _ hS' hk'
     | _=>exact hr₂.elim
  | _=>exact hr.elim
end
end St
end
section
namespace L2
open PySem PySem.Spec PyProof.Rows
section
variable {X:Cx}
noncomputable def cq (ns:ak):av:=ns.map λn=>.int (Int.ofNat n)
def Gg (K:bn)(te:TE):TE:=λσ H Q=>te σ H λx H1=>∃a ns,x=.ref a/\SqL K H1 a (cq ns)/\(∀n∈ns,n<6)/\∀p,H1 p=none->Q (.ref p) (upd H1 p (.lst (cq (ns.foldl St.stp []))))
theorem yd:∀{ns:ak} {its:aq},Vals (cq ns) its->IntsAre its (ns.map Int.ofNat)
 | [],_,h=>by cases h; exact .nil
 | n::ns,_,h=>by
  cases h with
  | cons h1 h2=>
   obtain⟨t,rfl⟩:=(show ∃t,_=Value.int (Int.ofNat n) t from h1)
   exact .cons _ _ (yd h2)
theorem yt:∀{ns:ak} {its:aq},IntsAre its (ns.map Int.ofNat)->Vals (cq ns) its
 | [],_,h=>by cases h; exact .nil
 | n::ns,_,h=>by
  cases h with
  | cons _ t h=>exact .cons ⟨t,rfl⟩ (yt h)
def CU (hc:X.calm=true)(he:PE X e te)(g1:Gl X "sorted")(m1:X.mg "sorted" = none)(b1:bootBuiltins "sorted" = some (.builtin "sorted"))(g2:Gl X "set")(m2:X.mg "set" = none)(b2:bootBuiltins "set" = some (.type "set"))
  (hs1:starEach [.Call (.Name "set" p2) [e] [] p3] X.env=[(false,eval (.Call (.Name "set" p2) [e] [] p3) X.env)])(hs2:starEach [e] X.env=[(false,eval e X.env)]) :
  PE X (.Call (.Name "sorted" p1) [.Call (.Name "set" p2) [e] [] p3] [] p4) (Gg X.K te):=by
 intro pins s σ H Q I h;have hh:=I.ok.hd hc;refine IG (gB I g1 m1 b1 ?_);refine PyProof.Rows.callWith_builtin1 ?_ hs1 rfl;rw[hs1];show wpAny _ _ (spliced ((false,eval (.Call (.Name "set" p2) [e] [] p3) X.env)::[])) _ _ s;refine JH ?_;refine IG (gB I g2 m2 b2 ?_);refine Ih ?_ hs2 rfl;rw[hs2];show wpAny _ _ (spliced ((false,eval e X.env)::[])) _ _ s;refine JH (bg (he pins s σ H _ I h) λu s1 hZz=>?_);obtain⟨x,H1,I1,r1,a,ns,ex,hx,h6,q⟩:=hZz;subst ex;cases r1;refine JT ?_;obtain⟨its,rv,pl,hz⟩:=I1.list hx;refine St.set_list hh pl.isList (by simpa using yd rv) h6 λh' tk hS hk=>?_;refine JT ?_;refine St.sorted_set hh hS λh'' tk' L vs n hk' hlt hget hints=>?_;refine⟨.ref L,upd H1 L (.lst (cq (ns.foldl St.stp []))),I1.laid (t':=tk') (λb o qb=>hk' b o (hk b o (bL qb) qb)) (J0 hlt) ⟨?_,vs,n,yt hints,hget⟩,rfl,q L (I1.hok.fresh (J0 hlt))⟩;have:=hS;obtain⟨es,ep,t,_,h1,_,ht⟩:=this;rw[cq,HG];exact St.small_line (St.mem_b4 ht.mem).1
end
section
variable {X:Cx}
def GJ:OpR X (binaryOp .Add) (λx y H Q=>∃a b ys,x=.ref a/\y=.ref b/\SqT X.K H a []/\SqT X.K H b ys/\Q (.ref b) H):=by
 intro pins s σ H x y v u Q I rx ry h;obtain⟨a,b,ys,rfl,rfl,ha,hb,q⟩:=h;cases rx;cases ry;obtain⟨its,r1,⟨⟨cls,dd,data,sl⟩,ho,hc,n,hd⟩,_⟩:=I.tuple ha;obtain⟨its2,r2,⟨⟨cls2,dd2,data2,sl2⟩,ho2,hc2,n2,hd2⟩,_⟩:=I.tuple hb;simp only at hc hd hc2 hd2;subst hc hd hc2 hd2;cases r1;exact concat_meets ⟨_,ho,rfl⟩ ⟨_,ho2,rfl⟩ noFill_tuple_add seq_tuple_add Km Kg (Kb _ _)
  (tuple_addW0 a b #[] its2.toArray n n2 dd dd2 sl sl2 rfl) ⟨ho,ho2,⟨.ref b,H,I,rfl,q⟩⟩
def zA (l:Addr)(items:aB)(n:Nat)(b:Addr)(items2:aB)(n2:Nat)(dd2:aE)(sl2:Array aA)(hs0:¬(!items.isEmpty&&Builtin.List.listTooLong (items.size+items2.size))=true)(hs1:items.size<=sizeLine)(hs2:items.size+items2.size<=sizeLine+1) :
  Meets (Builtin.«list.extend» ⟨[.ref l,.ref b],[]⟩) (λ_ R s=>s.heap.get? l=some { cls:=.type "list",dict:=none,data:=.seq items n,slots:=#[] }/\s.heap.get? b=some { cls:=.type "tuple",dict:=dd2,data:=.seq items2 n2,slots:=sl2 }/\R (.ok (.ret Value.none)) { s with heap:=s.heap.update l (Obj.mapSeq λx=>x++items2),toks:=s.toks }):=
 .of_wp λprog w A R s h=>by
  obtain⟨hp,g,d,tk,os⟩:=s; obtain⟨hl,hb,h⟩:=h; have f1:=AutoSeq1.idx_int; have f2:=AutoSeq1.sub_tuple_tuple; have f3:=AutoSeq1.sub_list_list; have f4:=AutoSeq1.sub_tuple_list; have f5:=AutoSeq1.sub_list_tuple;have hz':(items++items2).size<=sizeLine+1:=by rw[Array.size_append]; exact hs2
  wp_walk using (wpAny_updateSeq hl rfl (hz:=hs1) (_hz':=hz')),wpAny_loadPart' hl,wpAny_loadPart' hb; exact⟨_,rfl,h⟩
def iM (K:bn):V->av->Hp->VK->Prop:=λx vs H Q=>∃l b xs zs,x=.ref l/\vs=[.ref b]/\H l=some (.lst xs)/\SqT K H b zs/\xs.length+zs.length<=sizeLine/\Q .non (upd H l (.lst (xs++zs)))
def BQ:tj X "list.extend" (iM X.K):=by
 intro pins s σ H x vs v us Q I rx rv h;obtain⟨l,b,xs,zs,rfl,rfl,hH,hB,hz,q⟩:=h;cases rx;obtain⟨u,rfl,ru⟩:=rv.one;cases ru;obtain⟨z,its,n,r,hl,e⟩:=I.lstM hH;obtain⟨its2,r2,⟨⟨cls2,dd2,data2,sl2⟩,ho2,hc2,n2,hd2⟩,_⟩:=I.tuple hB;simp only at hc2 hd2;subst hc2 hd2;have hl2:=r2.length;have hsz:its.toArray.size+its2.toArray.size<=sizeLine:=by rw[HJ,HJ]; omega
 have hlong:¬(!its.toArray.isEmpty&&Builtin.List.listTooLong (its.toArray.size+its2.toArray.size))=true:=by
  rw[wT hsz,Bool.and_false];exact Im
 refine JY F.slot_list_extend ⟨_,e,rfl⟩ F.entry_list_extend (F.args_list_extend_2 _ _)
  (zA l its.toArray n b its2.toArray n2 dd2 sl2 hlong (by rw[HJ]; omega) (by omega)) ⟨e,ho2,?_⟩
 refine⟨.non,_,I.lset (its':=its++its2) hH e (by simp) (r.append r2) ?_,rfl,q⟩;rw[HP];omega
def Gq (te:TE):TE:=λσ H Q=>te σ H λx H1=>∃j:Int,x=.int j/\0<=j/\j<=16777216/\∀p,H1 p=none->Q (.ref p) (upd H1 p (.lst (cq (List.range j.toNat))))
def EJ (hc:X.calm=true)(he:PE X e te)(g1:Gl X "list")(m1:X.mg "list" = none)(b1:bootBuiltins "list" = some (.type "list"))(g2:Gl X "range")(m2:X.mg "range" = none)(b2:bootBuiltins "range" = some (.type "range"))
  (hs1:starEach [.Call (.Name "range" p2) [e] [] p3] X.env=[(false,eval (.Call (.Name "range" p2) [e] [] p3) X.env)])(hs2:starEach [e] X.env=[(false,eval e X.env)]) :
  PE X (.Call (.Name "list" p1) [.Call (.Name "range" p2) [e] [] p3] [] p4) (Gq te):=by
 intro pins s σ H Q I h;have hh:=I.ok.hd hc;refine IG (gB I g1 m1 b1 ?_);refine Ih ?_ hs1 rfl;rw[hs1];show wpAny _ _ (spliced ((false,eval (.Call (.Name "range" p2) [e] [] p3) X.env)::[])) _ _ s;refine JH ?_;refine IG (gB I g2 m2 b2 ?_);refine Ih ?_ hs2 rfl;rw[hs2];show wpAny _ _ (spliced ((false,eval e X.env)::[])) _ _ s;refine JH (bg (he pins s σ H _ I h) λu s1 hZz=>?_);obtain⟨x,H1,I1,r1,j,ex,j0,j1,q⟩:=hZz;subst ex;obtain⟨t,rfl⟩:=(show ∃t,u=Value.int j t from r1)
 refine JT ?_;refine call_range_1 ?_;refine JT ?_;refine call_list_range (n:=j.toNat) hh (IsRange.new ..) (small_one (by omega) (by omega) (by omega) (by omega)) ?_ (by omega) λh' tk acc c kp ge it=>?_
 .simp[Builtin.Range.rangeSize];omega
 rw[Iq] at ge ⊢;refine⟨.ref (s1.heap.objs.size+1),upd H1 (s1.heap.objs.size+1) (.lst (cq (List.range j.toNat))),I1.laid (t':=tk) (λb o qb=>kp b o (bR _ qb)) (Jp _) ⟨?_,acc.toList,c,?_,by simpa using ge⟩,rfl,q _ (I1.hok.fresh (Jp _))⟩
 .rw[cq,HG,List.length_range,Jv]; omega
 .have:∀(m:Nat) (l:aq),l.length=m->(∀(i:Nat) (v:Value),l[i]? = some v->∃t,v=Value.int (i:Int) t)->Vals (cq (List.range m)) l:=by
   intro m;induction m with
   | zero=>intro l hl _; rw[Jh.mp hl]; exact .nil
   | succ m ih=>
    intro l hl hv;have hne:l≠[]:=λz=>by rw[z] at hl; cases hl
    rw[<-JP hne,List.range_succ];unfold cq;rw[Ij];refine (ih l.dropLast (by rw[List.length_dropLast]; omega) λi v hi=>hv i v ?_).append (.cons ?_ .nil)
    .rw[List.getElem?_dropLast] at hi;split at hi
     .exact hi
     .cases hi
    .have:=hv m (l.getLast hne) (by rw[List.getLast_eq_getElem,HI (by omega)]; simp[hl]);exact this
  refine this j.toNat acc.toList (by rw[Array.length_toList]; exact it.1) λi v hi=>?_;obtain⟨t,et⟩:=it.2 i v (by rw[<-JS]; exact hi);exact⟨t,by rw[et]; simp⟩
def Ew (ho:s.heap.get? l=some { cls:=.type "list",data:=.seq items n })
  (h0:0<=k)(hfit:k<2 ^ 63)(hn:k<items.size)(hQ:Q () { s with heap:=s.heap.update l (Obj.mapSeq (·.setIfInBounds k.toNat v)) }):wpAny (model prog w) A (setItem (.ref l) (.int k t) v) Q E s:=by
 have hl:s.heap.IsList l items:=PySem.IsL.isList ho;unfold setItem;try with_reducible refine Je ?_
 first | refine aU (be ?_) | skip
 refine aU (wpAny_sequenceKey hl.typeIs (by decide) ?_);refine aU (wpAny_callSpecial?_slot (name:=Str.ofString "__setitem__") hl.typeIs slot_list_setitem
  (IU slot_list_setitem hl.typeIs entry_list_setitem ?_ (args_list_setitem _ _ _)))
 show wpAny _ _ (Builtin.List.listSubscript? (.int k t) >>= _) _ _ s;refine aU (wpAny_listSubscript_int (fitsIndex_of h0 hfit) ?_);clear hfit;obtain⟨j,rfl⟩:=Int.eq_ofNat_of_zero_le h0;have hj:j<items.size:=by omega
 have hx':items[j]? = some items[j]:=J7 hj;show wpAny _ _ ((seqItemAt l j >>= λr=>pure (r.map (j,·))) >>= _) _ _ s;refine aU (aU (wpAny_seqItemAt ho rfl (be ?_)));rw[hx'];show wpAny _ _ (setSeqItemAt l j v >>= _) _ _ s;refine aU (wpAny_setSeqItemAt ho rfl ?_);first
  | exact aU (be (be ⟨.none,rfl,be hQ⟩))
  | exact be ⟨.none,rfl,be hQ⟩
def jU (to ti tv:TE):TS:=λD σ H=>tv σ H λy H1=>to σ H1 λx H2=>ti σ H2 λk H3=>∃l xs i,x=.ref l/\k=.int i/\H3 l=some (.lst xs)/\0<=i/\i<xs.length/\D.nx σ (upd H3 l (.lst (xs.set i.toNat y)))
def zn (ho:PE X o to)(hi:PE X i ti)(hv:PE X value tv)(hs:swapsWith value (some (.Subscript o i pos')) pos.line X.env=pure false):PS X (.Assign [.Subscript o i pos'] value pos) (jU to ti tv):=by
 intro pins s σ H D I h;refine wpAny_Assign_Subscript (bg (hv pins s σ H _ I h) λu s1 ⟨y,H1,I1,ry,q⟩=>bg (ho pins s1 σ H1 _ I1 q) λov s2 ⟨x,H2,I2,rx,q2⟩=>bg (hi pins s2 σ H2 _ I2 q2) λiv s3 hZz=>?_) hs;obtain⟨k,H3,I3,rk,l,xs,j,ex,ek,hH,j0,j1,qn⟩:=hZz;subst ex ek;cases rx;obtain⟨t,rfl⟩:=(show ∃t,iv=Value.int j t from rk)
 obtain⟨z,its,n,r,hl,e⟩:=I3.lstM hH;have hz:(xs.length:Int)<=16777216:=by
  have:=z;rw[Jv] at this;omega
 refine Ew e j0 (by omega) (by rw[HJ]; omega) ?_;exact⟨σ,_,I3.lset (its':=its.set j.toNat u) (t':=s3.toks) hH e (by simp) (Vals.set ry j.toNat r) (by rw[Io]; exact z),qn⟩
end
section
variable {X:Cx}
def Aa {prog:Program}{w:World}{A:Around}{E:Value->Shared->Prop}{s:Shared}{t sl:Addr}{items:aB}{vl vu:Value}{lo hi:Option Int}{Q:Value->Shared->Prop}(ht:IsTup s.heap t items)(hs:s.heap.IsSliceOf sl vl vu .none)(pl:IsPart vl lo)(pu:IsPart vu hi)
  (hw:HT.sIx items.size 0 lo=0/\HT.sIx items.size items.size hi=items.size)(h:Q (.ref t) s):wpAny (model prog w) A (getItem (.ref t) (.ref sl)) Q E s:=by
 obtain⟨os,hos,hcs,hds⟩:=id hs;have hTs:s.TypeIs (.ref sl) "slice":=⟨os,hos,hcs⟩
 unfold getItem;try with_reducible refine Je ?_
 first | refine aU (be ?_) | skip
 refine aU (wpAny_sequenceKey ht.typeIs (by decide) ?_);refine aU (wpAny_callSpecial?_slot (name:=Str.ofString "__getitem__") ht.typeIs Iy
  (IU Iy ht.typeIs entry_tuple_getitem ?_ (args_tuple_getitem _ _)))
 show wpAny _ _ (Builtin.Tuple.tupleItemsOf (.ref t) >>= _) _ _ s;refine aU (tupleItemsOf_ ht ?_);refine aU (wpAny_typeOf hTs ?_);rw[if_pos (by decide)];refine aU (HT.sliceApplied_gen hs pl pu ?_);have hyes:(((HT.sIx items.size 0 lo:Nat):Int) == 0&&(1:Int) == 1&&(HT.sIx items.size items.size hi - HT.sIx items.size 0 lo) == items.size)=true:=by
  rw[hw.1,hw.2]; simp
 show wpAny _ _ (if (((HT.sIx items.size 0 lo:Nat):Int) == 0&&(1:Int) == 1&&(HT.sIx items.size items.size hi - HT.sIx items.size 0 lo) == items.size)=true then _ else _) _ _ s;rw[if_pos hyes];unfold Builtin.Tuple.tupleIsExact;refine aU (aU (wpAny_typeOf ht.typeIs (be ?_)));rw[if_pos (by decide)];refine aU (wpAny_rule (aU (be (be ⟨_,rfl,be h⟩))))
def nK (K:bn):V->Option Int->Option Int->Hp->VK->Prop:=λx lo hi H Q=>∃a xs,x=.ref a/\SqT K H a xs /\
 (HT.sIx xs.length 0 lo=0/\HT.sIx xs.length xs.length hi=xs.length->Q (.ref a) H) /\
 (¬(HT.sIx xs.length 0 lo=0/\HT.sIx xs.length xs.length hi=xs.length)->∀p,H p=none->Q (.ref p) (upd H p (.tup (dF xs lo hi))))
def FS:my X (nK X.K):=by
 intro pins s σ H x v vl vu lo hi sl Q I rx hs pl pu h;obtain⟨a,xs,rfl,hx,q1,q2⟩:=h;by_cases hw:HT.sIx xs.length 0 lo=0/\HT.sIx xs.length xs.length hi=xs.length
 .cases rx;obtain⟨its,r,ht,hz⟩:=I.tuple hx;have hlen:its.toArray.size=xs.length:=by rw[HJ]; exact r.length.symm
  refine⟨"tuple",_,Iy.lookup,ht.typeIs,?_⟩;exact Aa ht hs pl pu (by rw[hlen]; exact hw) ⟨.ref a,H,I,rfl,q1 hw⟩
 .exact CQ pins s σ H _ v vl vu lo hi sl Q I rx hs pl pu ⟨a,xs,rfl,hx,hw,q2 hw⟩
def zf (f:Nat->β->Sem (ForInStep β))(I:Nat->β->Shared->Prop)(Q:β->Shared->Prop)
  (turn:∀i b s,i<n->I i b s->wpAny M A (f i b) (λr s'=>match r with | .yield b'=>I (i+1) b' s' | .done b'=>Q b' s') E s)
  (fin:∀b s,I n b s->Q b s)(b:β)(h:I 0 b s):wpAny M A (forIn [0:n] b f) Q E s:=by
 rw[Std.Legacy.Range.forIn_eq_forIn_range'];refine wpAny_forIn_list f (λrest b s=>∃i,rest=List.range' i (n - i)/\i<=n/\I i b s) Q ?_ ?_ _ b ⟨0,by simp[Std.Legacy.Range.size],ID _,h⟩
 .rintro x rest b s ⟨i,e,hi,hI⟩;have hlt:i<n:=by
   have:=congrArg List.length e;simp at this;omega
  have e2:n - i=(n - (i+1))+1:=by omega
  rw[e2,J3] at e;obtain⟨rfl,rfl⟩:=List.cons.inj e;refine IY (turn x b s hlt hI) (λr s' hr=>?_) λ_ _ h'=>h';cases r with
  | done b'=>exact hr
  | yield b'=>exact⟨x+1,rfl,hlt,hr⟩
 .rintro b s ⟨i,e,hi,hI⟩;have:i=n:=by
   have:=congrArg List.length e;simp at this;omega
  subst this;exact fin b s hI
def zc (l:Addr)(items:aB)(n:Nat)(dd:aE)(sl:Array aA)(x:Value)(e:Value->Bool)(j:Nat)(hj:j<items.size)
  (hit:e items[j]=true)(hno:∀m (hm:m<items.size),m<j->e items[m]=false) :
  Meets (Builtin.«tuple.index» ⟨[.ref l,x],[]⟩)
   (λA R s=>s.heap.get? l=some { cls:=.type "tuple",dict:=dd,data:=.seq items n,slots:=sl }/\(∀y,y∈items->SeqAt.EqAt A.in1 s y x (e y))/\R (.ok (.ret (.int j s.toks))) { s with toks:=s.toks+1 }):=
 .of_wp λprog w A R s h=>by
  obtain⟨hp,g,d,tk,os⟩:=s; obtain⟨hl,he,h⟩:=h;wp_walk using IV hl,zf _ (λi b s'=>b.1=none/\s'=⟨hp,g,d,tk,os⟩/\i<=j) _
  case turn=>
   rintro i b s' hi ⟨hb,rfl,hij⟩;have hi':i<items.size:=by omega
   have e1:items[i]? = some items[i]:=by simp[hi']
   rw[e1];refine aU (he _ (Array.getElem_mem hi') prog w _ _ ?_);by_cases hx:i=j
   .subst hx;rw[hit];wp_walk
    exact⟨_,rfl,h⟩
   .rw[hno i hi' (by omega)];wp_walk
    exact⟨rfl,rfl,by omega⟩
  case fin=>
   rintro b s' ⟨hb,rfl,hij⟩;omega
  case h=>exact⟨rfl,rfl,ID _⟩
def jg (K:bn):V->av->Hp->VK->Prop:=λx vs H Q=>∃a xs y j,x=.ref a/\vs=[y]/\SqT K H a xs/\flatV y=true/\xs.all flatV=true/\(xs.findIdx? λz=>eqV z y)=some j/\Q (.int (j:Nat)) H
def CN:wD X "tuple.index" (jg X.K):=by
 intro pins s σ H x vs v us Q I rx rv h;obtain⟨a,xs,y,j,rfl,rfl,hx,fy,fs,hf,q⟩:=h;cases rx;cases rv with
 | @cons _ u _ us ry rn=>
 cases rn;obtain⟨its,r,⟨⟨cls,dd,data,sl⟩,ho,hc,n,hd⟩,_⟩:=I.tuple hx;simp only at hc hd;subst hc hd;obtain⟨hj,hp,hq⟩:=IL.mp hf;have len:=r.length;have at':∀i (h1:i<xs.length) (h2:i<its.toArray.size),pB y its.toArray[i]=eqV xs[i] y:=λi h1 h2=>by
  obtain⟨w,e,rw'⟩:=r.get (i:=i) (x:=xs[i]) (by simp[h1]);have e2:its.toArray[i]=w:=by
   have h2':i<its.length:=by simpa using h2
   rw[HI h2'] at e;simpa using cQ e
  rw[e2];exact vG rw' (dQ fs _ (Ii h1))
 have hj2:j<its.toArray.size:=by rw[HJ]; omega
 refine JY PySem.F.slot_tuple_index ⟨_,ho,rfl⟩ PySem.F.entry_tuple_index (PySem.F.args_tuple_index_2 _ _)
  (zc a its.toArray n dd sl u (pB y) j hj2 (by rw[at' j hj hj2]; exact hp) λm hm hl=>?_)
  ⟨ho,λz hz=>vq ry fy r fs z (by simpa using hz),⟨.int (j:Nat),H,I.tok _,⟨_,rfl⟩,q⟩⟩
 have hm':m<xs.length:=by omega
 rw[at' m hm' hm];simpa using hq m hl
def Hq:fillsNumberSlot (.type "tuple") "mul" = pure false:=
 PySem.fillsNumberSlot_seq (id := "tuple.__mul__") (r:=some (.builtin "tuple.__rmul__")) JJ.lookup (by decide +kernel) PySem.F.slot_tuple_rmul.lookup (by decide +kernel)
def AY:seqRepeat? (.type "tuple")=pure (some (.builtin "tuple.__mul__")):=by
 unfold seqRepeat?;rw[PySem.seqSlot_of (T := "tuple") (name := "__mul__") (id := "tuple.__mul__") JJ.lookup (by decide +kernel),PySem.seqSlot_of (T := "tuple") (name := "__rmul__") (id := "tuple.__rmul__") PySem.F.slot_tuple_rmul.lookup (by decide +kernel)];rfl
def D2 (a:Int)(t:Tok)(l:Addr)(items:aB)(n:Nat)(dd:aE)(sl:Array aA) :
  Meets (Builtin.«int.__rmul__» ⟨[.int a t,.ref l],[]⟩) (λ_ R s=>s.heap.get? l=some { cls:=.type "tuple",dict:=dd,data:=.seq items n,slots:=sl }/\R (.ok (.ret Value.notImplemented)) s):=
 .of_wp λprog w A R s h=>by obtain⟨hp,g,d,tk,os⟩:=s; obtain⟨hl,h⟩:=h; wp_walk; exact⟨_,rfl,h⟩
def Cb (l:Addr)(items:aB)(n:Nat)(dd:aE)(sl:Array aA)(u:Tok) :
  Meets (Builtin.«tuple.__mul__» ⟨[.ref l,.int 1 u],[]⟩) (λ_ R s=>s.heap.get? l=some { cls:=.type "tuple",dict:=dd,data:=.seq items n,slots:=sl }/\R (.ok (.ret (.ref l))) s):=
 .of_wp λprog w A R s h=>by
  obtain⟨hp,g,d,tk,os⟩:=s; obtain⟨hl,h⟩:=h;wp_walk using IV hl
  exact⟨_,rfl,h⟩
def CO (l:Addr)(items:aB)(n:Nat)(dd:aE)(sl:Array aA)(x:Int)(u:Tok)(h0:¬(x < -(2 ^ 63)||x ≥ 2 ^ 63)=true)(h1:¬(items.isEmpty||x == 1)=true)(h2:¬(x<=0||items.isEmpty)=true)
  (h3:¬items.size * x > (2 ^ 63 - 1) / 8)(h4:¬Builtin.Tuple.tupleTooMany (items.size * x)=true)(h5:(List.foldl (·++·) #[] (List.replicate x.toNat items)).size<=sizeLine) :
  Meets (Builtin.«tuple.__mul__» ⟨[.ref l,.int x u],[]⟩) (λ_ R s=>s.heap.get? l=some { cls:=.type "tuple",dict:=dd,data:=.seq items n,slots:=sl }/\R (.ok (.ret (.ref s.heap.objs.size))) { s with heap:=s.heap.push { cls:=.type "tuple",data:=.seq (List.foldl (·++·) #[] (List.replicate x.toNat items)) } }):=
 .of_wp λprog w A R s h=>by
  obtain⟨hp,g,d,tk,os⟩:=s; obtain⟨hl,h⟩:=h;wp_walk using IV hl
  rw[if_neg h0];refine aU (tupleItemsOf_ (t:=l) (items:=items) ⟨_,hl,rfl,n,rfl⟩ ?_);dsimp only;rw[if_neg h1,if_neg h2,if_neg h3,if_neg h4];wp_walk
  exact⟨_,rfl,h⟩
def nz (K:bn):R2:=λx y H Q=>∃a k xs,x=.ref a/\y=.int k/\SqT K H a xs/\xs≠[]/\1<=k/\k<=1000/\xs.length * k.toNat<=sizeLine /\
 (k=1->Q (.ref a) H)/\(k≠1->∀p,H p=none->Q (.ref p) (upd H p (.tup (List.replicate k.toNat xs).flatten)))
def CM:OpR X (binaryOp .Mult) (nz X.K):=by
 intro pins s σ H x y v u Q I rx ry h;obtain⟨a,k,xs,rfl,rfl,hx,hne,k1,k2,hz,q1,q2⟩:=h;cases rx;obtain⟨t,rfl⟩:=ry;obtain⟨its,r,⟨⟨cls,dd,data,sl⟩,ho,hc,n,hd⟩,hz0⟩:=I.tuple hx;simp only at hc hd;subst hc hd;have hl:=r.length;have hne':its≠[]:=by
  intro e;subst e;exact hne (Jh.mp hl)
 have em:its.toArray.isEmpty=false:=by cases its with | nil=>exact absurd rfl hne' | cons=>rfl
 refine wpAny_binaryOp_repeat_ref (T := "tuple") (U := "int") (by decide) ⟨_,ho,rfl⟩ (λs'=>typeIs_int s' k t) Hq PySem.F.fills_int_mul PySem.F.slot_int_rmul AY PySem.F.slot_int_index.lookup
  (JY PySem.F.slot_int_rmul (typeIs_int s k t) PySem.F.entry_int_rmul (PySem.F.args_int_rmul_2 _ _) (D2 k t a its.toArray n dd sl) ⟨ho,rfl,⟨_,ho,rfl⟩,?_⟩)
 by_cases hk:k=1
 .subst hk;exact JY JJ ⟨_,ho,rfl⟩ PySem.F.entry_tuple_mul (PySem.F.args_tuple_mul_2 _ _) (Cb a its.toArray n dd sl t) ⟨ho,⟨.ref a,H,I,rfl,q1 rfl⟩⟩
 .have f0:List.foldl (λx1 x2=>x1++x2) #[] (List.replicate k.toNat its.toArray)=(List.replicate k.toNat its).flatten.toArray:=by
   have:=sP its k.toNat [];rw[List.nil_append] at this;exact this
  have sz:(its.length:Int) * k<=sizeLine:=by
   have:((its.length * k.toNat:Nat):Int)<=(sizeLine:Nat):=by rw[<-hl]; exact_mod_cast hz
   rw[Int.natCast_mul,Iv (by omega)] at this;exact this
  refine JY JJ ⟨_,ho,rfl⟩ PySem.F.entry_tuple_mul (PySem.F.args_tuple_mul_2 _ _)
   (CO a its.toArray n dd sl k t (by simp; omega) (by rw[em]; simpa using hk) (by rw[em]; simp; omega) ?_ ?_ ?_) ⟨ho,?_⟩
  .have:((sizeLine:Nat):Int)<=(2 ^ 63 - 1) / 8:=by decide
   rw[HJ];omega
  .rw[HJ];unfold Builtin.Tuple.tupleTooMany;simp only[Ig];omega
  .rw[f0,HJ,uj,Nat.mul_comm,<-hl]; exact hz
  .rw[f0];refine⟨.ref _,_,I.laid (t':=s.toks) (o:=.tup (List.replicate k.toNat xs).flatten) (λb ob q=>bR _ q) (bC _) ?_,rfl,q2 hk _ (I.hok.fresh (bC _))⟩;exact⟨by rw[uj,Nat.mul_comm]; exact hz,_,r.rep k.toNat,TupN.new _ _⟩
end
section
variable {prog:Program}{w:World}{A:Around}{E:Value->Shared->Prop}{s:Shared}{it t:Addr}{i:Nat}{items:aB}
def wt (hit:s.heap.IsTupleIter it t i)
  (h:wpAny (model prog w) A.in1 (Builtin.«tuple_iterator.__next__» ⟨[.ref it],[]⟩) (λfin s'=>∃v,fin=.done (.ret v)/\Q v s') E s):wpAny (model prog w) A (Builtin.SmallTypes.nextOf (.ref it)) Q E s:=by
 unfold Builtin.SmallTypes.nextOf;refine aU (wpAny_callSpecial?_slot (name:=Str.ofString "__next__") hit.typeIs Ku (IU Ku hit.typeIs PySem.F.entry_tuple_iterator_next ?_ (PySem.F.args_tuple_iterator_next_1 _)));refine IY h (λfin s' ⟨v,e,q⟩=>⟨v,e,be q⟩) λ_ _ e=>e
def ze (hit:s.heap.IsTupleIter it t i)(ht:s.heap.IsTuple t items)(hx:items[i]? = some x)(hQ:∀h',h'.IsTupleIter it t (i+1)->Heap.SameBut it s.heap h'->Q x { s with heap:=h' }):wpAny (model prog w) A (Builtin.SmallTypes.nextOf (.ref it)) Q E s:=by
 refine wt hit ?_;obtain⟨o,ho,hc,hd⟩:=id hit;obtain⟨ol,hol,_,nl,hdl⟩:=ht;show wpAny _ _ (field (.ref it) 0 >>= _) _ _ s;refine aU (Jw ho hd (x:=.ref t) rfl ?_);show wpAny _ _ (if (Value.ref t == Value.none)=true then _ else _) _ _ s;rw[if_neg (show ¬((Value.ref t == Value.none)=true) from Im)];show wpAny _ _ (field (.ref it) 1 >>= _) _ _ s;refine aU (Jw ho hd (x:=.int i 0) rfl ?_);show wpAny _ _ (seqItems? (.ref t) >>= _) _ _ s;refine aU (wpAny_seqItems hol hdl ?_);simp only[Int.toNat_natCast,hx];refine aU (K0 ho hd (by simp) (be ⟨x,rfl,hQ _ ?_ (Jk ..)⟩));exact⟨_,Js _ ho (KA (K1 hd _)),(Obj.cls_mapFields ..).trans hc,by rw[K1 hd]; simp[rawInt]⟩
def we (hh:A.handled=none)(hit:s.heap.IsTupleIter it t i)(ht:s.heap.IsTuple t items)(hx:items[i]? = none)
  (hE:∀h' e,Heap.ExtBut it s.heap h'->(∃o,h'.get? e=some o/\o.cls=.type "StopIteration")->E (.ref e) { s with heap:=h' }):wpAny (model prog w) A (Builtin.SmallTypes.nextOf (.ref it)) Q E s:=by
 refine wt hit ?_;obtain⟨o,ho,hc,hd⟩:=id hit;obtain⟨ol,hol,_,nl,hdl⟩:=ht;show wpAny _ _ (field (.ref it) 0 >>= _) _ _ s;refine aU (Jw ho hd (x:=.ref t) rfl ?_);show wpAny _ _ (if (Value.ref t == Value.none)=true then _ else _) _ _ s;rw[if_neg (show ¬((Value.ref t == Value.none)=true) from Im)];show wpAny _ _ (field (.ref it) 1 >>= _) _ _ s;refine aU (Jw ho hd (x:=.int i 0) rfl ?_);show wpAny _ _ (seqItems? (.ref t) >>= _) _ _ s;refine aU (wpAny_seqItems hol hdl ?_);simp only[Int.toNat_natCast,hx];refine aU (wpAny_rule (aU (K0 ho hd (by simp) ?_)));show wpAny _ _ (newExc (.type "StopIteration") [] >>= _) _ _ _;refine aU ?_;simp only[newExc,newTuple];refine aU (Ix ?_ (by size_fits));refine aU (m:=firstArgMember _ _) (wpAny_of_eq (a:=Value.none) (by first | rfl | (simp only[firstArgMember]; rfl)) ?_);refine Ix ?_ (by size_fits);simp only[raiseNew];refine aU (wpAny_handled ?_);rw[show A.in1.handled=none from hh];exact aU (be (wpAny_throw (hE _ _ (((Jk ..).extBut.push _).push _) ⟨_,c9 _ rfl,rfl⟩)))
def jQ (hh:A.handled=none)(it t:Addr)(hne:t≠it)(items:aB) :
  Draws prog w A it [it,t] items.size (λi v=>items[i]? = some v) (λi h=>h.IsTupleIter it t i/\h.IsTuple t items) where
 live:=λ_ _ st=>let ⟨o,ho,_⟩:=st.1; ⟨o,ho⟩
 frame:=λ_ _ _ st hk=>⟨st.1.at λo e=>hk it (by simp) o e,let ⟨o,ho,r⟩:=st.2; ⟨o,hk t (by simp) o ho,r⟩⟩
 item:=λi s Q E hi st hQ=>ze st.1 st.2 (x:=items[i]) (by simp[hi]) λh' a b=>hQ _ h' s.toks (by simp[hi]) ⟨a,let ⟨o,ho,r⟩:=st.2; ⟨o,(b.2 t hne).trans ho,r⟩⟩ b
 done:=λs Q E st hE=>we hh st.1 st.2 (by simp) hE
def y8 (hh:A.handled=none)(it t:Addr)(items:aB)(n:Nat)(hx:items[n]? = none) :
  Draws prog w A it [it,t] n (λ_ _=>False) (λk h=>k=n/\h.IsTupleIter it t n/\h.IsTuple t items) where
 live:=λ_ _ st=>let ⟨o,ho,_⟩:=st.2.1; ⟨o,ho⟩
 frame:=λ_ _ _ st hk=>⟨st.1,st.2.1.at λo e=>hk it (by simp) o e,let ⟨o,ho,r⟩:=st.2.2; ⟨o,hk t (by simp) o ho,r⟩⟩
 item:=λi s Q E hi st hQ=>absurd hi (by rw[st.1]; exact Jo _)
 done:=λs Q E st hE=>we hh st.2.1 st.2.2 hx hE
def DP (l:Addr)(items:aB)(n:Nat)(dct:aE)(sl:Array aA) :
  Meets (Builtin.«enumerate.__new__» ⟨[.type "enumerate",.ref l],[]⟩) (λ_ R s=>s.heap.get? l=some { cls:=.type "tuple",dict:=dct,data:=.seq items n,slots:=sl } /\
   R (.ok (.ret (.ref (s.heap.push { cls:=.type "tuple_iterator",data:=.fields #[.ref l,.int 0 0] }).objs.size)))
    { s with heap:=(s.heap.push { cls:=.type "tuple_iterator",data:=.fields #[.ref l,.int 0 0] }).push { cls:=.type "enumerate",data:=.fields #[.none,.bool false,.ref s.heap.objs.size,rawInt 0,.none,.none] } }):=
 .of_wp λprog w A R s h=>by
  obtain⟨hp,g,d,tk,os⟩:=s; obtain⟨hl,h⟩:=h;have hsub:=sub_enumerate;have hT:Heap.IsTuple (Shared.heap ⟨hp,g,d,tk,os⟩) l items:=⟨_,hl,rfl,n,rfl⟩
  wp_walk using IV hl
  refine wpAny_stack_any λst=>be ?_;split
  .rename_i c _ _ _ _ _;cases (c == Value.type "enumerate") <;> (wp_walk using IV hl,KY hT; exact⟨_,rfl,h⟩)
  .wp_walk using IV hl,KY hT
   exact⟨_,rfl,h⟩
def yT (hL:s.heap.IsTuple l items)
  (h:∀h',IsEnum h' (s.heap.objs.size+1) s.heap.objs.size 0 .none->h'.IsTupleIter s.heap.objs.size l 0->(∀b o,s.heap.get? b=some o->h'.get? b=some o)->Q (.ref (s.heap.objs.size+1)) { s with heap:=h' }) :
  wpAny (model prog w) A (call (.type "enumerate") [.ref l]) Q E s:=by
 obtain⟨⟨c,dct,dt,sl⟩,hl,hc,n,hd⟩:=hL;have hc':c=.type "tuple":=hc;have hd':dt=.seq items n:=hd;subst hc' hd';refine callType_new PySem.F.called_enumerate (by decide) (PySem.F.typeCall_enumerate_1 _) (PySem.F.newCall_enumerate_1 _) (λobj=>PySem.F.args_object_init_2 obj _) PySem.F.entry_enumerate_new (DP l items n dct sl) ⟨hl,?_⟩;have hz:(s.heap.push { cls:=.type "tuple_iterator",data:=.fields #[.ref l,.int 0 0] }).objs.size=s.heap.objs.size+1:=Iq ..;show _/\_;rw[hz];have he:=c9 (s.heap.push { cls:=.type "tuple_iterator",data:=.fields #[.ref l,.int 0 0] }) (o:={ cls:=.type "enumerate",data:=.fields #[.none,.bool false,.ref s.heap.objs.size,rawInt 0,.none,.none] }) rfl;rw[hz] at he;exact⟨⟨_,he,rfl⟩,h _ he ⟨_,bR _ (c9 _ rfl),rfl,rfl⟩ λb o x=>bR _ (bR _ x)⟩
end
noncomputable def jx (K:bn)(a:Addr):It:=
 ⟨λi H=>∃xs x,SqT K H a xs/\xs[i]? = some x,λi H v H'=>∃x p,v=.ref p/\H p=none/\H'=upd H p (.tup [.int i,x])/\∀xs,SqT K H a xs->xs[i]? = some x,λi H=>∃xs,SqT K H a xs/\xs.length<=i⟩
def iG (e it l:Addr)(i:Nat)(h:Heap):Prop:=(∃old,IsEnum h e it i old)/\h.IsTupleIter it l i
def Bf {P:Program}{w:World}{K:bn}{es:au}{k1:Nat}{ps:Pos}(l e it:Addr):Turn P w K (.Tuple es k1 ps) (jx K l) [e,it] e (iG e it l) where
 mem:=by simp
 obj:=λi h t b hb=>by
  obtain⟨⟨old,te⟩,⟨o1,e1,_,d1⟩⟩:=t;simp only[H0,Ib,or_false] at hb;rcases hb with rfl | rfl
  .exact⟨_,te,(λv q=>nomatch q)⟩
  .exact⟨o1,e1,λv q=>by rw[d1] at q; cases q⟩
 keep:=λi h h' t k=>by
  obtain⟨⟨old,te⟩,t1⟩:=t;exact⟨⟨old,k e (by simp) _ te⟩,t1.at λo q=>k it (by simp) o q⟩
 item:=by
  intro X hP hw hK hc i pins s σ H E I hf st hg;subst hP hw hK;obtain⟨xs,x,hx,ex⟩:=hg;obtain⟨its,rv,p,hz⟩:=I.tuple hx;obtain⟨u,hu,ru⟩:=rv.get ex;obtain⟨⟨old,te⟩,t1⟩:=st;have hl:=rv.length;have hi:i<its.toArray.size:=by
   have:=(dg hu).1;simpa using this
  have ne:e≠it:=by
   obtain⟨o1,e1,c1,_⟩:=t1;exact ll "enumerate" "tuple_iterator" te e1 rfl c1 (by decide)
  have nl:l≠it:=by
   obtain⟨o1,e1,c1,_⟩:=t1;obtain⟨o2,e2,c2,_⟩:=p;exact ll "tuple" "tuple_iterator" e2 e1 c2 c1 (by decide)
  have nel:e≠l:=by
   obtain⟨o2,e2,c2,_⟩:=p;exact ll "enumerate" "tuple" te e2 rfl c2 (by decide)
  refine wpAny_pyNext_enum_itemD (jQ (A:=X.A.in1) (by exact I.ok.hd hc) it l nl its.toArray) te (show s.heap.IsTupleIter it l i/\s.heap.IsTuple l its.toArray from ⟨t1,p⟩) hi ne (by simp; exact⟨ne,nel⟩) λy h' tk hy z1 z2 z3 z4 z5=>?_;have ey:y=u:=by
   have hu':its.toArray[i]? = some u:=by simpa using hu
   rw[hu'] at hy;exact (cQ hy).symm
  subst ey;refine⟨_,rfl,?_⟩;refine wpAny_letOwnedTupleGo_enum (s:={ s with heap:=h',toks:=tk+1 }) z1 λh2 z1' sb=>?_;have kk:∀b o,b∉[e,it]->s.heap.get? b=some o->h2.get? b=some o:=λb o nb q=>by
   simp only[H0,Ib,or_false,not_or] at nb;exact (sb.2 b nb.1).trans (z5 b o nb.1 nb.2 q)
  have le:e<s.heap.objs.size:=bL te;have gT:h2.get? s.heap.objs.size=some { cls:=.type "tuple",data:=.seq #[.int i tk,y] }:=(sb.2 _ (Ju le)).trans z3;refine⟨.ref s.heap.objs.size,upd H s.heap.objs.size (.tup [.int i,x]),I.turnedN (t':=tk+1) hf kk (bC _) ⟨by show 2<=sizeLine; decide,[.int i tk,y],.cons ⟨_,rfl⟩ (.cons ru .nil),_,gT,rfl,⟨_,rfl⟩,rfl⟩,rfl,
   ⟨x,_,rfl,I.hok.fresh (bC _),rfl,λzs hq=>by rw[I.tuple_inj hq hx]; exact ex⟩,⟨⟨y,by simpa using z1'⟩,z2.1.at λo q=>(sb.2 it (JG ne)).trans q⟩,λb hb=>?_⟩
  obtain⟨o,q,_⟩:∃o,s.heap.get? b=some o/\True:=by
   simp only[H0,Ib,or_false] at hb;obtain⟨o1,e1,_,d1⟩:=t1;rcases hb with rfl | rfl
   .exact⟨_,te,trivial⟩
   .exact⟨o1,e1,trivial⟩
  rw[ca (JZ (Heap.lt_size q))];exact (hf b hb).1
 done:=by
  intro X hP hw hK hc i pins s σ H E I hf st hg;subst hP hw hK;obtain⟨xs,hx,hend⟩:=hg;obtain⟨its,rv,p,hz⟩:=I.tuple hx;obtain⟨⟨old,te⟩,t1⟩:=st;have hl:=rv.length;have nl:l≠it:=by
   obtain⟨o1,e1,c1,_⟩:=t1;obtain⟨o2,e2,c2,_⟩:=p;exact ll "tuple" "tuple_iterator" e2 e1 c2 c1 (by decide)
  refine wpAny_pyNext_enum_endD (y8 (A:=X.A.in1) (by exact I.ok.hd hc) it l its.toArray i (by simp; omega)) te ⟨rfl,t1,p⟩ λh' kp=>⟨rfl,I.turnedL (t':=s.toks) hf λb o nb q=>?_⟩
  simp only[H0,Ib,or_false,not_or] at nb;exact kp b o nb.2 q
 self:=λ_ _ _ _ _ st h=>by
  obtain⟨⟨old,te⟩,_⟩:=st;exact Kq te h
section
variable {X:Cx}{es:au}{k1:Nat}{tp:Pos}
def Az {a:Expr}{ta:TA}{p pos:Pos}(hg:Gl X "enumerate")(hm:X.mg "enumerate" = none)(hv:bootBuiltins "enumerate" = some (.type "enumerate"))(ha:PA X [a] ta)(hs:starEach [a] X.env=[(false,eval a X.env)]:=by rfl) :
  PI X (.Tuple es k1 tp) (.Call (.Name "enumerate" p) [a] [] pos) (λσ H R=>ta σ H λvs H1=>(∃a xs,vs=[.ref a]/\SqL X.K H1 a xs/\R (sY X.K a) H1)\/∃a xs,vs=[.ref a]/\SqT X.K H1 a xs/\R (jx X.K a) H1):=by
 intro pins s σ H R I h;refine Call_ (gB I hg hm hv (Ih (bg (ha pos pins s σ H _ I h) λus s1 hZz=>?_) hs rfl));obtain⟨vs,H1,I1,r1,q1⟩:=hZz;rcases q1 with ⟨l1,xs,rfl,hx,q⟩ | ⟨l1,xs,rfl,hx,q⟩
 .obtain⟨u,rfl,ru⟩:=vals1 r1;cases ru;obtain⟨its,rx,px,hzx⟩:=I1.list hx;refine call_enumerate_list px.isList λh' z1 z2 z3 z4=>?_;refine Kq (s:={ s1 with heap:=h' }) z1 ⟨_,_,_,_,H1,rfl,I1.kept (t':=s1.toks) z4,FC l1 _ _,⟨⟨_,z1⟩,z2⟩,λb hb=>?_,q⟩;have lb:s1.heap.objs.size<=b:=by
   simp only[H0,Ib,or_false] at hb;rcases hb with rfl | rfl <;> omega
  exact I1.fpOk lb (I1.hok.fresh lb)
 .obtain⟨u,rfl,ru⟩:=vals1 r1;cases ru;obtain⟨its,rx,px,hzx⟩:=I1.tuple hx;refine yT px λh' z1 z2 z4=>?_;refine Kq (s:={ s1 with heap:=h' }) z1 ⟨_,_,_,_,H1,rfl,I1.kept (t':=s1.toks) z4,Bf l1 _ _,⟨⟨_,z1⟩,z2⟩,λb hb=>?_,q⟩;have lb:s1.heap.objs.size<=b:=by
   simp only[H0,Ib,or_false] at hb;rcases hb with rfl | rfl <;> omega
  exact I1.fpOk lb (I1.hok.fresh lb)
end
section
variable {X:Cx}
noncomputable def fP:V->Bool
 | .int _=>true
 | _=>false
noncomputable def jH (i:Int):Value->Bool
 | .int j _=>j == i
 | _=>false
theorem xP:∀{xs:av} {us:aq},Vals xs us->xs.all fP=true->∀u∈us,MeetsSeq.EqGives u (.int i t) (jH i u)
 | _,_,.nil,_=>λu hu=>by cases hu
 | y::xs,u::us,.cons r q,f=>λu' hu=>by
  rw[List.all_cons,HF] at f;rcases bQ hu with rfl | hu
  .cases y with
   | int j=>obtain⟨t',rfl⟩:=r; exact MeetsSeq.EqGives.int j i t' t
   | _=>cases f.1
  .exact xP q f.2 u' hu
def gb:V->av->Hp->VK->Prop:=λx vs H Q=>∃l xs i j,x=.ref l/\vs=[.int i]/\H l=some (.lst xs)/\xs.all fP=true/\(xs.findIdx? λz=>eqV z (.int i))=some j/\Q .non (upd H l (.lst (xs.eraseIdx j)))
def B8:tj X "list.remove" gb:=by
 intro pins s σ H x vs v us Q I rx rv h;obtain⟨l,xs,i,j,rfl,rfl,hH,hi,hf,q⟩:=h;cases rx;obtain⟨u,rfl,ru⟩:=Vals.one rv;obtain⟨t,rfl⟩:=ru;obtain⟨z,its,n,r,hl,e⟩:=I.lstM hH;obtain⟨hj,hp,hq⟩:=IL.mp hf;have at':∀m (h1:m<xs.length) (h2:m<its.toArray.size),jH i its.toArray[m]=eqV xs[m] (.int i):=λm h1 h2=>by
  obtain⟨w,e,rw'⟩:=r.get (i:=m) (x:=xs[m]) (by simp[h1]);have e2:its.toArray[m]=w:=by
   have h2':m<its.length:=by simpa using h2
   rw[HI h2'] at e;simpa using cQ e
  rw[e2];have fi:=dQ hi _ (Ii h1);cases hx:xs[m] with
  | int y=>rw[hx] at rw'; obtain⟨t',rfl⟩:=rw'; rfl
  | _=>rw[hx] at fi; cases fi
 have hj2:j<its.toArray.size:=by rw[HJ]; omega
 refine JY PySem.F.slot_list_remove ⟨_,e,rfl⟩ PySem.F.entry_list_remove (PySem.F.args_list_remove_2 _ _)
  (MeetsSeq.list_remove l its.toArray n (.int i t) (jH i) (λy hy=>xP r hi y (by simpa using hy)) j hj2 (by rw[at' j hj hj2]; exact hp) (λm hm hl'=>?_) (by rw[HJ]; omega)) ⟨e,?_⟩
 .have hm':m<xs.length:=by rw[HJ] at hm; omega
  rw[at' m hm' hm];simpa using hq m hl'
 .refine⟨.non,_,I.lset (its':=its.eraseIdx j) hH e ?_ (r.eraseIdx j) ?_,rfl,q⟩
  .show its.toArray.eraseIdxIfInBounds j=(its.eraseIdx j).toArray;rw[List.eraseIdxIfInBounds_toArray]
  .have:=vf xs j;omega
end
section
variable {X:Cx}{tg:Expr}
end
section
variable {X:Cx}
end
end L2
end
section
namespace L2
open PySem PySem.Spec PySem.W PyProof.Rows
noncomputable def fh {α:Type}(c:Nat->Nat->Bool):KasT α->α
 | .ret a=>a
 | .ask i j k=>fh c (k (c i j))
def KOk {α:Type}(N:Nat)(P:α->Prop):KasT α->Prop
 | .ret a=>P a
 | .ask i j k=>i<N/\j<N/\∀b,KOk N P (k b)
theorem KOk.bind {α β:Type}{N:Nat}{P:α->Prop}{R:β->Prop}{f:α->KasT β}(hf:∀a,P a->KOk N R (f a)):∀{t:KasT α},KOk N P t->KOk N R (t.bind f)
 | .ret a,h=>hf a h
 | .ask i j k,h=>⟨h.1,h.2.1,λb=>KOk.bind hf (h.2.2 b)⟩
theorem KOk.post:∀{t:KasT α},KOk N P t->P (fh c t)
 | .ret _,h=>h
 | .ask i j k,h=>show P (L2.fh c (k (c i j))) from KOk.post (h.2.2 (c i j))
theorem vx {α:Type}{N:Nat}{P:α->Prop}{c:Nat->Nat->Bool}{ask:Nat->Nat->(Bool->Shared->Prop)->Shared->Prop}{J:α->Shared->Prop}{s:Shared}(ha:∀i j,i<N->j<N->∀C:Bool->Shared->Prop,C (c i j) s->ask i j C s):∀t:KasT α,KOk N P t->J (fh c t) s->t.kasWp ask J s
 | .ret _,_,h=>h
 | .ask i j k,o,h=>ha i j o.1 o.2.1 _ (vx ha (k (c i j)) (o.2.2 _) h)
def Pm (N:Nat)(p:Array Nat):Prop:=p.Perm (List.toArray (List.range N))
def Pm.lt (hN:0<N)(h:Pm N p)(i:Nat):p.getD i 0<N:=by
 by_cases hi:i<p.size
 .have:p[i]∈List.toArray (List.range N):=(Array.Perm.mem_iff h).mp (Array.getElem_mem hi);have e:p.getD i 0=p[i]:=by simp[Array.getD,hi]
  rw[e];simpa using this
 .have e:p.getD i 0=0:=by simp[Array.getD,hi]
  rw[e]; exact hN
def Pm.rev (h:Pm N p)(i j:Nat):Pm N (kas_rev p i j):=(mirror_perm p i j _).trans h
section
variable {N:Nat}(hN:0<N)
include hN
theorem tq (h:Pm N p):∀f n,KOk N (λ_=>True) (kas_asc p f n)
 | 0,_=>trivial
 | f+1,n=>⟨h.lt hN _,h.lt hN _,λb=>by
  cases b with
  | true=>exact trivial
  | false=>exact tq h f (n+1)⟩
theorem pC:∀f p n q,Pm N p->KOk N (λr:Array Nat×Nat×Nat=>Pm N r.1) (kas_desc f p n q)
 | 0,_,_,_,h=>h
 | f+1,p,n,q,h=>⟨h.lt hN _,h.lt hN _,λb=>by
  cases b with
  | true=>
   show KOk N _ (if q > 0 then _ else _);split
   .exact pC f _ _ _ (h.rev _ _)
   .exact pC f _ _ _ h
  | false=>exact⟨h.lt hN _,h.lt hN _,λd=>by
    cases d with
    | true=>exact h
    | false=>exact pC f _ _ _ h⟩⟩
def xn {p:Array Nat}(n m:Nat)(h:Pm N p):KOk N (λr:Nat×Array Nat=>Pm N r.2) (kas_tail3 n m p):=by
 unfold kas_tail3;refine KOk.bind (P:=λ_=>True) (λ_ _=>?_) (tq hN (h.rev 0 n) _ _);exact h.rev 0 n
def u0 {p:Array Nat}(n m:Nat)(h:Pm N p):KOk N (λr:Nat×Array Nat=>Pm N r.2) (kas_descPart n m p):=(pC hN _ _ _ _ h).bind λr hr=>by
 show KOk N _ (if r.2.2 > 0 then _ else _);split
 .exact xn hN _ _ (hr.rev _ _)
 .exact xn hN _ _ hr
def DN {p:Array Nat}(m:Nat)(h:Pm N p):KOk N (λr:Nat×Array Nat=>Pm N r.2) (kas_count m p):=(tq hN h _ _).bind λn _=>by
 show KOk N _ (if (n == m)=true then _ else if n > 1 then _ else _);split
 .exact h
 .split
  .exact⟨h.lt hN _,h.lt hN _,λb=>by
    cases b with
    | true=>exact h
    | false=>exact u0 hN _ _ (h.rev _ _)⟩
  .exact u0 hN _ _ h
theorem tR (k:Nat)(h:Pm N p):∀f l r,KOk N (λ_=>True) (kas_place p k f l r)
 | 0,_,_=>trivial
 | f+1,l,r=>by
  unfold kas_place;split
  .exact trivial
  .exact⟨h.lt hN _,h.lt hN _,λb=>by
    cases b with
    | true=>exact tR k h f _ _
    | false=>exact tR k h f _ _⟩
theorem v3:∀f p k,Pm N p->KOk N (Pm N) (kas_bin f p k)
 | 0,_,_,h=>h
 | f+1,p,k,h=>(tR hN k h k 0 k).bind λl _=>v3 f _ _ ((bubble_perm p k (k - l)).trans h)
def md:KOk N (Pm N) (kas_sort N):=(DN hN N (Array.Perm.refl _)).bind λr hr=>by
 show KOk N _ (if r.1<N then _ else _);split
 .exact v3 hN _ _ _ hr
 .exact hr
end
noncomputable def cN {α:Type}(d:α)(c:Nat->Nat->Bool)(vs:List α):List α:=if vs.length<2 then vs else (fh c (kas_sort vs.length)).toList.map λi=>vs.getD i d
section
variable {prog:Program}{w:World}{A:Around}{E:Value->Shared->Prop}{s:Shared}{a:Addr}{vs:aq}{n:Nat}{κ:SortKind}{c:Nat->Nat->Bool}
def kQ (a:Addr)(h h':Heap):Prop:=∀b o,b≠a->h.get? b=some o->h'.get? b=some o
def Ch {P:PySem.Fin->Shared->Prop}(ho:s.heap.get? a=some (seqObj "list" vs.toArray n))(h64:vs.length<64)
  (hk:2<=vs.length->∀h',kQ a s.heap h'->∀Q:SortKind->Shared->Prop,Q κ { s with heap:=h' }->wpAny (model prog w) A (keyKind' vs.toArray) Q (λ_ _=>False) { s with heap:=h' })
  (hc:2<=vs.length->∀h',kQ a s.heap h'->∀i j,i<vs.length->j<vs.length->∀C:Bool->Shared->Prop,C (c i j) { s with heap:=h' }->kas_ask prog w A κ vs i j C { s with heap:=h' })
  (h:∀h' e,kQ a s.heap h'->h'.get? a=some (seqObj "list" (cN Value.none c vs).toArray e)->P (.done (.ret .none)) { s with heap:=h' }) :
  wpAny (model prog w) A (Builtin.«list.sort» ⟨[.ref a],[]⟩) P E s:=by
 have lt:a<s.heap.objs.size:=bL ho;obtain⟨e1,o1⟩:∃e1,(s.heap.update a (Obj.mapSeq λ_=>(#[]:aB))).get? a=some (seqObj "list" #[] e1):=⟨_,get?_update_seq ho λ_=>#[]⟩
 have k3:kQ a s.heap (((s.heap.update a (Obj.mapSeq λ_=>(#[]:aB))).push (seqObj "tuple" vs.toArray 0)).push (seqObj "list" #[] 0)):=λb o nb e=>
  bR _ (bR _ ((J8 _ _ _ _ nb).trans e))
 have o3:(((s.heap.update a (Obj.mapSeq λ_=>(#[]:Array Value))).push (seqObj "tuple" vs.toArray 0)).push (seqObj "list" #[] 0)).get? a=some (seqObj "list" #[] e1):=bR _ (bR _ o1);have kk:=λz=>hk z _ k3;have cc:=λz=>hc z _ k3;rw[list_sort_plain];refine aU (listItems_at ho rfl ?_);refine aU (listUpdate_at ho rfl ?_ (by rw[HJ,Jv]; omega) (ID _));refine aU (seqEpoch_at o1 rfl ?_);refine aU (wpAny_newTuple ?_ (by show vs.length<=_; rw[Jv]; omega));refine aU (wpAny_newList ?_ (ID _));refine Je ?_;generalize ((s.heap.update a (Obj.mapSeq λ_=>(#[]:Array Value))).push (seqObj "tuple" vs.toArray 0)).push (seqObj "list" #[] 0)=h3 at k3 o3 kk cc;show wpAny (model prog w) A _ P E { s with heap:=h3 };dsimp only;by_cases n2:vs.toArray.size<2
 .have so:cN Value.none c vs=vs:=by unfold cN; rw[if_pos (by simpa using n2)]
  rw[so] at h;rw[if_pos n2,if_pos n2];refine aU (be ?_);rw[StateT.run_pure];refine aU (be ?_);dsimp only;have e0:(arrOf (SortSt.mk' general' (vs.toArray.zip vs.toArray) #[] 7 none)).map (·.2)=vs.toArray:=by
   show (vs.toArray.zip vs.toArray).map (·.2)=vs.toArray;apply KG.mp;simp[List.map_snd_zip]
  rw[e0];obtain⟨c2,hc2⟩:∃c2,(h3.update a (Obj.mapSeq λ_=>vs.toArray)).get? a=some (seqObj "list" vs.toArray c2):=⟨_,get?_update_seq o3 λ_=>vs.toArray⟩
  refine aU (seqEpoch_at o3 rfl ?_);refine aU (listUpdate_at o3 rfl ?_ (ID _) (by rw[Jv]; omega));simp only[Jz,Ia,if_false];exact be (h _ c2 (λb o nb e=>(J8 _ _ _ _ nb).trans (k3 b o nb e)) hc2)
 have h2:2<=vs.length:=by rw[HJ] at n2; omega
 rw[if_neg n2,if_neg n2];refine aU (IY (kk h2 (λk t=>k=κ/\t={ s with heap:=h3 }) ⟨rfl,rfl⟩) (λk t hkt=>?_) λ_ _ x=>x.elim);obtain⟨rfl,rfl⟩:=hkt;refine aU (IY (kat_run (Q:=λst t=>∃p:Array Nat,p.size=vs.length/\arrOf st=p.map (kas_item (vs.toArray.zip vs.toArray))/\failedOf st=none/\p=fh c (kas_sort vs.length)/\t={ s with heap:=h3 })
  rfl h2 h64 (λp st t a1 a2 a3 a4=>⟨p,a1,a2,a3,a4⟩) (vx (cc h2) _ (md (by omega)) ⟨rfl,rfl⟩)) ?_ λ_ _ e=>e)
 rintro⟨⟨⟩,st⟩ t ⟨p,hp,har,hf,hpe,rfl⟩;dsimp only;have hout:(arrOf st).map (·.2)=(cN Value.none c vs).toArray:=by rw[kat_snds rfl har,hpe]; unfold cN; rw[if_neg (by omega)]
 have hsz:(cN Value.none c vs).toArray.size=vs.length:=by rw[HJ]; unfold cN; rw[if_neg (by omega),HG,Array.length_toList,<-hpe,hp]
 rw[hout];obtain⟨c2,hc2⟩:∃c2,(h3.update a (Obj.mapSeq λ_=>(cN Value.none c vs).toArray)).get? a=some (seqObj "list" (cN Value.none c vs).toArray c2):=⟨_,get?_update_seq o3 λ_=>(cN Value.none c vs).toArray⟩
 refine aU (seqEpoch_at o3 rfl ?_);refine aU (listUpdate_at o3 rfl ?_ (ID _) (bv (KW hsz) (by rw[Jv]; omega)));rw[hf];simp only[Jz,Ia,if_false];exact be (h _ c2 (λb o nb e=>(J8 _ _ _ _ nb).trans (k3 b o nb e)) hc2)
def PrA (w:Option Str)(h:Heap)(v:Value)(p:Int×Int):Prop:=∃b o t u tw n,v=.ref b/\h.get? b=some o/\o.cls=.type "tuple" /\ o.data=.seq (.int p.1 t::(w.toList.map (Value.str · tw)++[.int p.2 u])).toArray n
noncomputable def kv (p q:Int×Int):Bool:=decide (p.1<q.1\/p.1=q.1/\p.2<q.2)
def Ez (h1:PrA m s.heap v p)(h2:PrA m s.heap v' q)(h:C (kv p q) s):wpAny (model prog w) A (keyLt' (tuples' true) v v') C E s:=by
 obtain⟨x,o,t,u,tw,n,rfl,e1,_,d1⟩:=h1;obtain⟨y,o',t',u',tw',n',rfl,e2,_,d2⟩:=h2;have key:∀{fin:Bool} (i:Nat),fin=false->C (kv p q) s->p.1=q.1->KatLex prog w A true fin C [(Value.int p.2 u,Value.int q.2 u')] (i+1) s:=by
  intro fin i hf h c1;unfold kv at h;refine kat_cons (wpAny_eqBool_int ?_);by_cases c2:p.2=q.2
  .rw[show (p.2 == q.2)=true by simpa using c2];refine kat_yes (kat_nil ?_);have:¬(p.1<q.1\/p.1=q.1/\p.2<q.2):=by omega
   rw[Il this] at h;rw[hf];exact h
  .rw[show (p.2 == q.2)=false by simpa using c2];refine kat_no (kat_one _ _ (lt_int ?_));have:decide (p.1<q.1\/p.1=q.1/\p.2<q.2)=decide (p.2<q.2):=by rw[JC]; omega
   rw[this] at h;exact h
 have sz:∀(a b c d:Value) (f f':Str->Value),((a::(m.toList.map f++[b])).toArray.size<(c::(m.toList.map f'++[d])).toArray.size)=False:=by intros; simp
 refine kat_lt e1 d1 e2 d2 (kat_cons (wpAny_eqBool_int ?_));rw[Il (by rw[sz]; exact id)];by_cases c1:p.1=q.1
 .rw[show (p.1 == q.1)=true by simpa using c1];cases m with
  | none=>exact kat_yes (key 0 rfl h c1)
  | some m=>
   refine kat_yes (kat_cons (wpAny_eqBool_str ?_));rw[HS rfl];exact kat_yes (key 1 rfl h c1)
 .rw[show (p.1 == q.1)=false by simpa using c1];refine kat_no (oneLt_int ?_);unfold kv at h;have:decide (p.1<q.1\/p.1=q.1/\p.2<q.2)=decide (p.1<q.1):=by rw[JC]; omega
  rw[this] at h;exact h
def PrA.kept (x:PrA m h v p)(hlt:∀b o,h.get? b=some o->h'.get? b=some o):PrA m h' v p:=by
 obtain⟨b,o,t,u,tw,n,e,e1,r⟩:=x;exact⟨b,o,t,u,tw,n,e,hlt b o e1,r⟩
noncomputable def dW (ps:aH)(i j:Nat):Bool:=kv (ps.getD i (0,0)) (ps.getD j (0,0))
def Ct (hp:Paired (PrA m s.heap) vs ps)(h2:2<=vs.length)(h:Q (tuples' true) s):wpAny (model prog w) A (keyKind' vs.toArray) Q E s:=by
 obtain⟨fs,k,hf⟩:∃fs,KatTups s.heap vs fs/\∀f∈fs,∃i t,f=Value.int i t:=by
  clear h2 h;induction hp with
  | nil=>exact⟨[],trivial,λ_ h=>nomatch h⟩
  | cons hx _ ih=>
   obtain⟨b,o,t,u,tw,n,rfl,e1,c1,d1⟩:=hx;obtain⟨fs,k,hf⟩:=ih;exact⟨_::fs,.cons e1 c1 d1 rfl k,λf hm=>(bQ hm).elim (λe=>⟨_,_,e⟩) (hf f)⟩
 have hl:∀{vs fs:aq},KatTups s.heap vs fs->vs.length=fs.length:=by
  intro vs;induction vs with
  | nil=>intro fs k; cases fs with | nil=>rfl | cons _ _=>exact k.elim
  | cons v vs ih=>intro fs k; cases fs with | nil=>exact k.elim | cons f fs=>rw[List.length_cons,List.length_cons,ih k.2]
 refine kat_kind (T:=.type "int") k (by rw[<-hl k]; omega) (λf hm=>?_) (by decide) h;obtain⟨i,t,rfl⟩:=hf f hm;exact .now
theorem qS:∀{vs:aq} {ps:aH},Paired (PrA m h) vs ps->∀i,i<vs.length->PrA m h (vs.getD i Value.none) (ps.getD i (0,0))
 | _,_,.nil,_,hi=>absurd hi (by simp)
 | _,_,.cons hx _,0,_=>hx
 | _,_,.cons _ t,i+1,hi=>by simpa using qS t i (by simpa using hi)
def G6 (hl:s.heap.IsList l vs.toArray)(hp:Paired (PrA m s.heap) vs ps)(h64:vs.length<64)
  (h:∀h' L e,(∀b o,s.heap.get? b=some o->h'.get? b=some o)->s.heap.objs.size<=L->h'.get? L=some (seqObj "list" (cN Value.none (dW ps) vs).toArray e)->Q (.ref L) { s with heap:=h' }) :
  wpAny (model prog w) A (call (.builtin "sorted") [.ref l]) Q E s:=by
 refine Calls.call_function_entry kind_sorted plain_sorted entry_sorted (args_sorted1 _) ?_;unfold Builtin.«sorted»;refine aU (m:=checkCount "sorted" 1 1 _) (be ?_);refine aU (collect_list hl ?_ (by rw[Jv]; omega));refine aU (wpAny_newList ?_ (by rw[Jv]; omega));have sz:((s.heap.push (seqObj "list" #[] 0)).update s.heap.objs.size (Obj.mapSeq (·++vs.toArray))).objs.size=s.heap.objs.size+1:=by rw[Heap.size_update,size_push']
 have oL:(((s.heap.push (seqObj "list" #[] 0)).update s.heap.objs.size (Obj.mapSeq (·++vs.toArray))).push (seqObj "list" vs.toArray 0)).get? (s.heap.objs.size+1)=some (seqObj "list" vs.toArray 0):=by
  rw[<-sz]; exact c9 _ rfl
 have kp:∀b o,s.heap.get? b=some o->(((s.heap.push (seqObj "list" #[] 0)).update s.heap.objs.size (Obj.mapSeq (·++vs.toArray))).push (seqObj "list" vs.toArray 0)).get? b=some o:=λb o q=>
  bR _ ((J8 _ _ _ _ (dh (bL q))).trans (bR _ q))
 show wpAny _ _ _ _ _ { s with heap:=((s.heap.push (seqObj "list" #[] 0)).update s.heap.objs.size (Obj.mapSeq (·++vs.toArray))).push (seqObj "list" vs.toArray 0) };rw[sz];generalize ((s.heap.push (seqObj "list" #[] 0)).update s.heap.objs.size (Obj.mapSeq (·++vs.toArray))).push (seqObj "list" vs.toArray 0)=h1 at oL kp;have kk:∀h',kQ (s.heap.objs.size+1) h1 h'->∀b o,s.heap.get? b=some o->h'.get? b=some o:=λh' k b o q=>k b o (dh (Ja (bL q))) (kp b o q);have pp:∀h',kQ (s.heap.objs.size+1) h1 h'->Paired (PrA m h') vs ps:=λh' k=>Paired.mapP hp λ_ _ x=>x.kept (kk h' k);refine aU (Je (IU slot_list_sort ⟨_,oL,rfl⟩ entry_list_sort ?body (args_list_sort _)))
 case body=>
  exact Ch (s:={ s with heap:=h1 }) (κ:=tuples' true) (c:=dW ps) oL h64 (λz h' k Q q=>Ct (s:={ s with heap:=h' }) (pp h' k) z q) (λ_ h' k i j hi hj C q=>Ez (s:={ s with heap:=h' }) (qS (pp h' k) i hi) (qS (pp h' k) j hj) q) λh' e k o=>⟨_,rfl,be ⟨_,rfl,h h' _ e (kk h' k) (Jp _) o⟩⟩
end
theorem xX:∀{xs:av} {us:aq},Vals xs us->∀i,i<xs.length->RelV (xs.getD i .non) (us.getD i Value.none)
 | _,_,.nil,_,hi=>absurd hi (by simp)
 | _,_,.cons hx _,0,_=>hx
 | _,_,.cons _ t,i+1,hi=>by simpa using xX t i (by simpa using hi)
theorem wc (r:Vals xs us):∀{l:ak},(∀i∈l,i<xs.length)->Vals (l.map λi=>xs.getD i .non) (l.map λi=>us.getD i Value.none)
 | [],_=>.nil
 | i::l,h=>.cons (xX r i (h i bN)) (wc r λj hj=>h j (bM _ hj))
def og (hN:0<N):∀i∈(fh c (kas_sort N)).toList,i<N:=λi hi=>by
 have p:Pm N (fh c (kas_sort N)):=(md hN).post;have:i∈List.toArray (List.range N):=(Array.Perm.mem_iff p).mp (by simpa using hi);simpa using this
def AA (r:Vals xs us):Vals (cN .non c xs) (cN Value.none c us):=by
 have e:=r.length;unfold cN;rw[<-e];split
 .exact r
 .exact wc r (og (by omega))
def Hj (xs:List α):(cN d c xs).length=xs.length:=by
 unfold cN;split
 .rfl
 .have p:Pm xs.length (fh c (kas_sort xs.length)):=(md (by omega)).post;rw[HG,Array.length_toList,p.size_eq];simp
section
variable {X:Cx}
def pF (K:bn)(m:Option Str)(H:Hp)(v:V)(p:Int×Int):Prop:=∃b,v=.ref b/\SqT K H b (.int p.1::(m.toList.map V.str++[.int p.2]))
def zK:CallR X (.builtin "sorted") (λxs H Q=>∃(a:Addr) (vs:List V) (m:Option Str) (ps:List (Int×Int)),xs=[.ref a]/\SqL X.K H a vs/\Paired (pF X.K m H) vs ps/\vs.length<64/\∀p,H p=none->Q (.ref p) (upd H p (.lst (cN .non (dW ps) vs)))):=by
 rintro pins s σ H xs us Q I rs ⟨a,vs,m,ps,e,hS,hp,hz,q⟩;subst e;obtain⟨u,rfl,ru⟩:=rs.one;cases ru;obtain⟨its,rv,pl,hlen⟩:=I.list hS;have pr:∀{vs:av} {its:aq} {ps:aH},Vals vs its->Paired (pF X.K m H) vs ps->Paired (PrA m s.heap) its ps:=by
  intro vs its ps rv hp;induction hp generalizing its with
  | nil=>cases rv; exact .nil
  | cons hx _ ih=>
   cases rv with
   | cons h1 h2=>
    obtain⟨b,rfl,hb⟩:=hx;obtain⟨it2,rv2,⟨o,e1,c1,⟨n,d1⟩,_⟩,_⟩:=I.tupN hb;cases h1;cases m with
    | none=>
     cases rv2 with | cons g1 g2=>?_
     cases g2 with | cons g2 g3=>?_
     cases g3;obtain⟨t,rfl⟩:=g1;obtain⟨u,rfl⟩:=g2;exact .cons ⟨b,o,t,u,default,n,rfl,e1,c1,d1⟩ (ih h2)
    | some m=>
     cases rv2 with | cons g1 g2=>?_
     cases g2 with | cons g2 g3=>?_
     cases g3 with | cons g3 g4=>?_
     cases g4;obtain⟨t,rfl⟩:=g1;obtain⟨tw,rfl⟩:=g2;obtain⟨u,rfl⟩:=g3;exact .cons ⟨b,o,t,u,tw,n,rfl,e1,c1,d1⟩ (ih h2)
 have el:=rv.length;refine G6 pl.isList (pr rv hp) (by omega) λh' L e kp hle ho=>?_;refine⟨.ref L,upd H L (.lst (cN .non (dW ps) vs)),I.laid (t':=s.toks) kp hle ⟨?_,_,e,AA rv,ho⟩,rfl,q L (I.hok.fresh hle)⟩;rw[Hj]; exact hlen
end
end L2
end
section
namespace L2
open PySem PySem.Spec PyProof.Rows
noncomputable def rA (K:bn)(a:Addr)(n:Nat):It:=
 ⟨λi H=>i<n/\∃xs x,SqL K H a xs/\xs[n - 1 - i]? = some x,λi H x H'=>H'=H/\∀xs,SqL K H a xs->xs[n - 1 - i]? = some x,λi _=>n<=i⟩
def He {P:Program}{w:World}{K:bn}{tg:Expr}(a it:Addr)(n:Nat):Turn P w K tg (rA K a n) [it] it (λi h=>h.IsRevIter it a ((n:Int) - 1 - (min i n:Nat))) where
 mem:=by simp
 obj:=λi h st b hb=>by
  have e:b=it:=by simpa using hb
  subst e;obtain⟨o,e,c,d⟩:=st;exact⟨o,e,λv z=>by rw[d] at z; cases z⟩
 keep:=λi h h' st k=>st.at λo e=>k it (by simp) o e
 item:=by
  intro X hP hw hK hc i pins s σ H E I hf st hg;subst hP hw hK;obtain⟨hi,xs,x,hq,hx⟩:=hg;obtain⟨its,rv,p,hz⟩:=I.list hq;obtain⟨u,hu,ru⟩:=rv.get hx;obtain⟨f0,f1,f2,f3,f4,f5⟩:=hf it (by simp);have e0:(n:Int) - 1 - (min i n:Nat)=((n - 1 - i:Nat):Int):=by omega
  rw[e0] at st;refine wpAny_pyNext_rev_item st p.isList (x:=u) (by simpa using hu) λh' st' sb=>?_;have I1:Inv X pins σ H { s with heap:=h' }:=I.turned (t':=s.toks) (λb o hb e=>(sb.2 b hb).trans e) f0 f1 f3 f4 f5;obtain⟨o,e,c,d⟩:=id st';have e2:((n - 1 - i:Nat):Int) - 1=(n:Int) - 1 - (min (i+1) n:Nat):=by omega
  rw[e2] at st';exact⟨u,rfl,o9 (s:={ s with heap:=h' }) e c d (by decide) ⟨x,H,I1,ru,⟨rfl,λys hy=>by rw[I.list_inj hy hq]; exact hx⟩,st',λb hb=>(hf b hb).1⟩⟩
 done:=by
  intro X hP hw hK hc i pins s σ H E I hf st hg;subst hP hw hK;obtain⟨f0,f1,f2,f3,f4,f5⟩:=hf it (by simp);have hg':n<=i:=hg;have e0:(n:Int) - 1 - (min i n:Nat) = -1:=by omega
  rw[e0] at st;exact wpAny_pyNext_rev_end (I.ok.hd hc) st λh' eb=>⟨rfl,I.turned (t':=s.toks) (λb o hb e=>eb b o hb e) f0 f1 f3 f4 f5⟩
 self:=λ_ _ _ _ _ st h=>wpAny_pyIter_revIter st h
section
variable {X:Cx}{tg:Expr}
def rj (K:bn)(ta:TA):TI:=λσ H R=>ta σ H λvs H1=>∃a xs,vs=[.ref a]/\SqL K H1 a xs/\R (rA K a xs.length) H1
def Dx {a:Expr}{ta:TA}{p pos:Pos}(hg:Gl X "reversed")(hm:X.mg "reversed" = none)(hv:bootBuiltins "reversed" = some (.type "reversed"))(ha:PA X [a] ta)(hs:starEach [a] X.env=[(false,eval a X.env)]:=by rfl) :
  PI X tg (.Call (.Name "reversed" p) [a] [] pos) (rj X.K ta):=by
 intro pins s σ H R I h;refine Call_ (gB I hg hm hv (Ih (bg (ha pos pins s σ H _ I h) λus s1 hZz=>?_) hs rfl));obtain⟨vs,H1,I1,r1,q1⟩:=hZz;obtain⟨l,xs,rfl,hx,q⟩:=q1;obtain⟨u,rfl,ru⟩:=vals1 r1;cases ru;obtain⟨its,rx,px,hzx⟩:=I1.list hx;have el:=rx.length;refine call_reversed_list px.isList ?_;have g:(s1.heap.push (revObj l ((its.toArray.size:Int) - 1))).IsRevIter s1.heap.objs.size l ((xs.length:Int) - 1 - (min 0 xs.length:Nat)):=by
  have e0:(xs.length:Int) - 1 - (min 0 xs.length:Nat)=(its.toArray.size:Int) - 1:=by simp; omega
  rw[e0];exact⟨_,c9 _ rfl,rfl,rfl⟩
 refine wpAny_pyIter_revIter (s:={ s1 with heap:=s1.heap.push (revObj l ((its.toArray.size:Int) - 1)) }) g ⟨s1.heap.objs.size,[s1.heap.objs.size],_,_,H1,rfl,I1.kept (t':=s1.toks) λb o e=>bR _ e,He l _ xs.length,g,λb hb=>?_,q⟩;have:b=s1.heap.objs.size:=by simpa using hb
 subst this;exact I1.fpOk (bC _) (I1.hok.fresh (bC _))
end
end L2
end
section
namespace L2
open PySem PySem.Spec PySem.W PyProof.Rows
section
variable {X:Cx}
def nM (K:bn)(n:Nat)(t:kB):TG:=λv σ H Q=>∃a xs,v=.ref a/\SqL K H a xs/\xs.length=n/\t xs σ H Q
def BS (hc:X.calm=true)(h:lv X es t)(hn:(assignEach es X.env).length=n)(hst:(assignEach es X.env).findIdx? (·.1)=none):PG X (.Tuple es k pos) (nM X.K n t):=by
 intro pins s σ H v u Q I r hw;obtain⟨a,xs,e1,hq,hl,hw⟩:=hw;subst e1;cases r;obtain⟨its,rv,ht,hz⟩:=I.list hq;have ln:=rv.length;show wpAny _ _ (do standAt pos; unpack (.ref a) (assignEach es X.env)) _ _ s;refine aU (wpAny_standAt (aU (Je ?_)));rw[hst,hn,<-hl,ln,<-show its.toArray.size=its.length by simp];refine kun_itemsOf (I.ok.hd hc) ht.isList λh' hx=>?_;have I1:Inv X pins σ H { s with heap:=h' }:=I.kept (t':=s.toks) λb o e=>hx b o (dh (bL e)) e;exact h pins _ σ H xs _ Q I1 (by simpa using rv) hw
end
end L2
end
section
namespace Ip
open PySem (Str)
noncomputable section
inductive D where
 | non | bl (b:Bool) | int (i:Int) | str (s:Str)
 | lst (xs:List D) | tup (xs:List D)
 | ins (c:Nat) (fs:List (Nat×D))
 deriving Inhabited
abbrev _root_.aJ:=List (Nat×D)
abbrev _root_.ax:=List D
mutual
@[simp] noncomputable def D.flat:D->Bool
 | .lst _=>false
 | .tup xs=>D.flats xs
 | .ins _ _=>false
 | _=>true
@[simp] noncomputable def D.flats:ax->Bool
 | []=>true
 | d::ds=>d.flat&&D.flats ds
end
theorem xz:∀xs:ax,D.flats xs=xs.all D.flat
 | []=>by rw[D.flats]; rfl
 | d::ds=>by rw[D.flats,xz ds]; rfl
@[simp] noncomputable def D.fb:Nat->D->Bool
 | 0,d=>d.flat
 | k+1,.lst xs=>xs.all (D.fb k)
 | k+1,.tup xs=>xs.all (D.fb k)
 | k+1,.ins _ fs=>fs.all λp=>D.fb k p.2
 | _+1,_=>true
noncomputable def D.pur:Nat->D->Bool
 | 0,.lst _=>false
 | 0,.tup _=>false
 | n+1,.lst xs=>xs.all (D.pur n)
 | n+1,.tup xs=>xs.all (D.pur n)
 | _,.ins _ _=>false
 | _,.str s=>s.cps.all (·<1114112)
 | _,_=>true
@[simp] theorem pur_non (n:Nat):D.pur n .non=true:=by cases n <;> rfl
@[simp] theorem pur_bl (n:Nat)(b:Bool):D.pur n (.bl b)=true:=by cases n <;> rfl
@[simp] theorem pur_int (n:Nat)(i:Int):D.pur n (.int i)=true:=by cases n <;> rfl
@[simp] theorem jf (n:Nat)(s:Str):D.pur n (.str s)=s.cps.all (·<1114112):=by cases n <;> rfl
@[simp] theorem rz (n:Nat)(xs:ax):D.pur (n+1) (.lst xs)=xs.all (D.pur n):=rfl
@[simp] theorem pur_tup (n:Nat)(xs:ax):D.pur (n+1) (.tup xs)=xs.all (D.pur n):=rfl
@[simp] theorem pur_ints (n:Nat)(xs:am):(xs.map D.int).all (D.pur n)=true:=by simp
noncomputable abbrev D.pures (xs:ax):Bool:=xs.all (D.pur 60)
@[simp] noncomputable def D.scal:D->Bool
 | .non=>true | .bl _=>true | .int _=>true | .str _=>true
 | _=>false
mutual
noncomputable def D.eq:D->D->Bool
 | .non,.non=>true
 | .int i,.int j=>decide (i=j)
 | .int i,.bl b=>decide (i=if b then 1 else 0)
 | .bl b,.int i=>decide ((if b then 1 else 0)=i)
 | .bl b,.bl c=>decide (b=c)
 | .str s,.str t=>decide (s=t)
 | .lst xs,.lst ys=>D.eqs xs ys
 | .tup xs,.tup ys=>D.eqs xs ys
 | _,_=>false
noncomputable def D.eqs:ax->ax->Bool
 | [],[]=>true
 | x::xs,y::ys=>x.eq y&&D.eqs xs ys
 | _,_=>false
end
inductive R (α:Type) where
 | ok (a:α)
 | bad
@[simp,reducible] noncomputable def R.bind {α β:Type}(r:R α)(f:α->R β):R β:=match r with
 | .ok a=>f a
 | .bad=>.bad
noncomputable abbrev KD:=Nat×D
abbrev _root_.az:=Option KD
abbrev _root_.aw:=List KD
noncomputable def br (j:Nat)(x:KD):Bool:=x.2.flat||(x.1 == j||(D.fb j x.2&&D.fb x.1 x.2))
noncomputable def aZ (xs:aw):Nat:=match xs.find? λx=>!x.2.flat with
 | none=>98
 | some x=>if xs.all (br x.1) then x.1 else 0
noncomputable def dJ (k:Nat)(xs:ax)(v:KD):Nat:=if br k v then k else if xs.all (λd=>br v.1 (k,d)) then v.1 else 0
noncomputable abbrev SL:Nat:=1000000
inductive Ty where
 | int | bool | str | list | tuple | dict | verr | cls (c:Nat)
inductive Op where
 | add | sub | mul | fdiv | mod | pow | shr | neg | not
 | eq | ne | lt | le | gt | ge | isN | notN | isin | nin
 | lst | tup | ix | slL | slH | slLH | rev
 | fld (f:Nat) | isi (ts:List Ty)
 | len | list | lrng | lrev | tuple | all | any | toInt | sum | srt | srtSet | symd | min1 | min2 | max2
 | index | count
inductive Wk where
 | seq | rng1 | rng2 | enum | zip | rev
inductive Tg where
 | one (i:Nat) | many (is:ak)
inductive Ex where
 | var (i:Nat)
 | cst (d:D)
 | op (o:Op) (es:List Ex)
 | and (a b:Ex) | or (a b:Ex)
 | ite (c a b:Ex)
 | chain (o p:Op) (a b c:Ex)
 | sl2 (a l h:Ex)
 | comp (caps:List aC) (tg:Tg) (wk:Wk) (it:List Ex) (t:List Ex) (e:Ex)
 | call (f:Nat) (es:List Ex)
 | make (c:Nat) (es:List Ex)
 | meth (m:Nat) (o:Ex) (es:List Ex)
 | bad
 deriving Inhabited
abbrev _root_.aF:=List Ex
inductive Mu where
 | append | extend | clear | insert | remove | pop0
inductive S where
 | set (i:Nat) (e:Ex)
 | setT (is:ak) (e:Ex)
 | ret (e:Ex)
 | ex (e:Ex)
 | iff (c:Ex) (t e:List S)
 | whl (c:Ex) (b:List S)
 | fo (tg:Tg) (wk:Wk) (it:aF) (b:List S)
 | mut (x:Nat) (path:aF) (m:Mu) (es:aF)
 | put (x:Nat) (path:aF) (i e:Ex)
 | sfld (i:Nat) (f:Nat) (e:Ex)
 | retP (s:Str) (i:Nat)
 | bad
 deriving Inhabited
abbrev _root_.ay:=List S
structure Fn where
 np:Nat
 io:ak
 ns:Nat
 dfl:ax
 body:ay
structure Cl where
 init:aC
 meths:aj
 ups:ak
 isx:Bool
structure Pg where
 fn:Nat->Option Fn
 cl:Nat->Option Cl
inductive Run where
 | ret (k:Nat) (d:D) (outs:aw)
 | bad
def mR (n:Nat):∃f:Int->Bool,∀i,f i=true ↔ -(2 ^ n)<=i/\i<2 ^ n:=⟨λi=>decide (-(2 ^ n)<=i/\i<2 ^ n),λi=>decide_eq_true_iff⟩
noncomputable def cn:Int->Bool:=Classical.choose (mR 62)
def dA:cn i=true ↔ -(2 ^ 62)<=i/\i<2 ^ 62:=Classical.choose_spec (mR 62) i
noncomputable def dB (n:Nat)(i:Int):aC:=if 0<=i then (if i<n then some i.toNat else none) else if -(n:Int)<=i then some (i+n).toNat else none
noncomputable def dP (n d:Nat):Option Int->Nat
 | none=>d
 | some i=>if 0<=i then min i.toNat n else (i+n).toNat
noncomputable def cutD {α:Type}(xs:List α)(lo hi:Option Int):List α:=(xs.drop (dP xs.length 0 lo)).take (dP xs.length xs.length hi - dP xs.length 0 lo)
@[simp] noncomputable def mj:Ty->Bool
 | .bool=>true | .int=>true | _=>false
@[simp] noncomputable def i8:Ty->Bool
 | .int=>true | _=>false
@[simp] noncomputable def i7:Ty->Bool
 | .str=>true | _=>false
@[simp] noncomputable def iU:Ty->Bool
 | .list=>true | _=>false
@[simp] noncomputable def iW:Ty->Bool
 | .tuple=>true | _=>false
@[simp] noncomputable def nY (G:Pg)(c d:Nat):Bool:=match G.cl c with
 | some K=>decide (d=c)||K.ups.contains d
 | none=>false
@[simp] noncomputable def iK (G:Pg)(c:Nat):Ty->Bool
 | .cls d=>nY G c d | _=>false
noncomputable def bq (G:Pg):D->Ty->Bool
 | .bl _=>mj
 | .int _=>i8
 | .str _=>i7
 | .lst _=>iU
 | .tup _=>iW
 | .ins c _=>iK G c
 | .non=>λ_=>false
@[simp] theorem isTy_bl (G:Pg)(b:Bool)(t:Ty):bq G (.bl b) t=mj t:=rfl
@[simp] theorem isTy_int (G:Pg)(b:Int)(t:Ty):bq G (.int b) t=i8 t:=rfl
@[simp] theorem isTy_str (G:Pg)(b:Str)(t:Ty):bq G (.str b) t=i7 t:=rfl
@[simp] theorem isTy_lst (G:Pg)(b:ax)(t:Ty):bq G (.lst b) t=iU t:=rfl
@[simp] theorem isTy_tup (G:Pg)(b:ax)(t:Ty):bq G (.tup b) t=iW t:=rfl
@[simp] theorem isTy_ins (G:Pg)(c:Nat)(fs:aJ)(t:Ty):bq G (.ins c fs) t=iK G c t:=rfl
@[simp] theorem isTy_non (G:Pg)(t:Ty):bq G .non t=false:=rfl
noncomputable def allB:ax->Option Bool
 | []=>some true
 | .bl b::ds=>(allB ds).map λc=>b&&c
 | _::_=>none
noncomputable def anyB:ax->Option Bool
 | []=>some false
 | .bl b::ds=>(anyB ds).map λc=>b||c
 | _::_=>none
noncomputable def cw:ax->Option am
 | []=>some []
 | .int i::ds=>(cw ds).map λis=>i::is
 | _::_=>none
noncomputable def D.memb (x:D)(xs:ax):Bool:=xs.any λy=>y.eq x
noncomputable def D.find (x:D)(xs:ax):aC:=xs.findIdx? λy=>y.eq x
mutual
noncomputable def D.lt:D->D->Option Bool
 | .int i,.int j=>some (decide (i<j))
 | .tup xs,.tup ys=>D.lts xs ys
 | .lst xs,.lst ys=>D.lts xs ys
 | .str s,.str t=>some (decide (s.cps.toList<t.cps.toList))
 | _,_=>none
noncomputable def D.lts:ax->ax->Option Bool
 | [],[]=>some false
 | [],_::_=>some true
 | _::_,[]=>some false
 | x::xs,y::ys=>if x.eq y then D.lts xs ys else D.lt x y
end
@[simp] noncomputable def fB (b:Bool):az:=some (99,.bl b)
@[simp] noncomputable def fI (i:Int):az:=some (99,.int i)
@[simp] noncomputable def lK (b:Bool):R KD:=.ok (99,.bl b)
@[simp] noncomputable def D.seq:D->Option ax
 | .lst xs=>some xs
 | .tup xs=>some xs
 | _=>none
@[simp] noncomputable def D.lstO:D->Option ax
 | .lst xs=>some xs
 | _=>none
@[simp] noncomputable def b7 (f:D->az):aw->az
 | [x]=>f x.2
 | _=>none
@[simp] noncomputable def bE (f:D->D->az):aw->az
 | [x,y]=>f x.2 y.2
 | _=>none
@[simp] noncomputable def on3 (f:D->D->D->az):aw->az
 | [x,y,z]=>f x.2 y.2 z.2
 | _=>none
@[simp] noncomputable def bG (f:Int->Int->az):D->D->az
 | .int i,.int j=>f i j
 | _,_=>none
@[simp] noncomputable def addD:D->D->az
 | .int i,.int j=>fI (i+j)
 | .lst xs,.lst ys=>if xs.length+ys.length<=SL then some (1,.lst (xs++ys)) else none
 | .tup xs,.tup ys=>if xs.length+ys.length<=SL then some (0,.tup (xs++ys)) else none
 | _,_=>none
noncomputable def cG:ax->Option ak
 | []=>some []
 | .int i::ds=>if 0<=i/\i<6 then (cG ds).map λns=>i.toNat::ns else none
 | _::_=>none
noncomputable def aV (ns:ak):ak:=(List.range 6).filter λk=>ns.contains k
noncomputable def aL (ns:ak):ax:=ns.map λn=>.int (Int.ofNat n)
@[simp] noncomputable def dM:D->D->az
 | .int i,.int j=>if cn i||cn j then fI (i * j) else none
 | .lst xs,.int j=>if 0<=j/\cn j=true/\xs.length * j.toNat<=SL then some (1,.lst (List.replicate j.toNat xs).flatten) else none
 | .tup xs,.int j=>if xs.isEmpty=false/\1<=j/\j<=1000/\xs.length * j.toNat<=SL then some (0,.tup (List.replicate j.toNat xs).flatten) else none
 | _,_=>none
@[simp] noncomputable def jz (neg:Bool)(x y:D):az:=if x.pur 60&&y.pur 60 then fB (if neg then !x.eq y else x.eq y) else none
@[simp] noncomputable def jG (neg:Bool)(x y:D):az:=match y.seq with
 | some ys=>if x.pur 60&&D.pures ys then fB (if neg then !x.memb ys else x.memb ys) else none
 | none=>none
@[simp] noncomputable def aS:D->D->az
 | x,.int i=>match x.seq with
  | some xs=>match (dB xs.length i).bind λj=>xs[j]? with
   | some d=>some (0,d)
   | none=>none
  | none=>none
 | _,_=>none
@[simp] noncomputable def cutOp (lo hi:Option Int):D->az
 | .lst xs=>some (1,.lst (cutD xs lo hi))
 | .tup xs=>some (0,.tup (cutD xs lo hi))
 | _=>none
noncomputable def ii (f:Nat):D->az
 | .ins _ fs=>match fs.lookup f with | some d=>some (0,d) | none=>none
 | _=>none
@[simp] noncomputable def fO (f:ax->az):D->az
 | .lst xs=>f xs
 | _=>none
@[simp] noncomputable def fJ (f:ax->az)(x:D):az:=match x.seq with | some xs=>f xs | none=>none
@[simp] noncomputable def intD:D->az
 | .int i=>fI i
 | .bl b=>fI (if b then 1 else 0)
 | _=>none
@[simp] noncomputable def ke:D->az
 | .bl b=>fB (!b)
 | _=>none
@[simp] noncomputable def kC:D->az
 | .int i=>fI (-i)
 | _=>none
@[simp] noncomputable def cU (neg:Bool):D->az
 | .non=>fB (!neg)
 | _=>fB neg
@[simp] noncomputable def l9:D->az
 | .lst xs=>some (0,.tup xs)
 | .tup xs=>some (0,.tup xs)
 | _=>none
noncomputable def ce (x y:D):az:=match x with
 | .tup xs=>if y.scal&&xs.all D.scal then (match y.find xs with | some j=>fI j | none=>none) else none
 | _=>none
@[simp] theorem kN (xs:ax)(y:D):ce (.tup xs) y=if y.scal&&xs.all D.scal then (match y.find xs with | some j=>fI j | none=>none) else none:=rfl
def A8 (h:ce x y=some z):∃xs,x=.tup xs:=by cases x <;> first | exact⟨_,rfl⟩ | cases h
@[simp] noncomputable def countD (x y:D):az:=match x.seq with
 | some xs=>if y.pur 60&&D.pures xs then fI (xs.countP λz=>z.eq y) else none
 | none=>none
noncomputable def kD (x y:D):az:=match x with
 | .lst xs=>if y.scal&&xs.all D.scal then fI ((xs.countP λz=>z.eq y:Nat):Int) else none
 | _=>none
@[simp] theorem cntD_lst (xs:ax)(y:D):kD (.lst xs) y=if y.scal&&xs.all D.scal then fI ((xs.countP λz=>z.eq y:Nat):Int) else none:=rfl
noncomputable def hY (xs:ax):az:=(cw xs).bind λis=>if is.all (λi=>decide (0<=i/\i<=10000000))=true/\is.length<=1000 then fI is.sum else none
noncomputable def xT:am->Option (Int×Int)
 | [i,j]=>some (i,j)
 | _=>none
noncomputable def dZ:D->ax
 | .tup xs=>xs
 | _=>[]
noncomputable def nV:ax->Option (Int×Str×Int)
 | [.int i,.str s,.int j]=>some (i,s,j)
 | _=>none
def FF (h:nV xs=some t):xs=[.int t.1,.str t.2.1,.int t.2.2]:=by
 unfold nV at h;split at h
 .cases h; rfl
 .cases h
noncomputable def p5 (m:Option Str)(d:D):Option (Int×Int):=match m with
 | none=>(cw (dZ d)).bind xT
 | some s=>(nV (dZ d)).bind λt=>if t.2.1=s then some (t.1,t.2.2) else none
noncomputable def dU (m:Option Str):ax->Option aH
 | []=>some []
 | x::xs=>(p5 m x).bind λp=>(dU m xs).map λps=>p::ps
noncomputable def gI (xs:ax):Option Str:=xs.head?.bind λd=>(nV (dZ d)).map λt=>t.2.1
noncomputable def fE (xs:ax):az:=(dU (gI xs) xs).bind λps=>if xs.length<64 then some (1,.lst (L2.cN .non (L2.dW ps) xs)) else none
@[simp] noncomputable def gS:D->az
 | .int j=>if 0<=j/\j<=SL then some (1,.lst (aL (List.range j.toNat))) else none
 | _=>none
noncomputable def bw (G:Pg):Op->aw->az
 | .lst,vs=>some (aZ vs+1,.lst (vs.map (·.2)))
 | .tup,vs=>some (aZ vs+1,.tup (vs.map (·.2)))
 | .add,vs=>bE addD vs
 | .sub,vs=>bE (bG λi j=>fI (i - j)) vs
 | .mul,vs=>bE dM vs
 | .fdiv,vs=>bE (bG λi j=>if 0<j/\j<1000000000000000000000000000000000000000000000000 then fI (i / j) else none) vs
 | .mod,vs=>bE (bG λi j=>if 0<j then fI (i % j) else none) vs
 | .pow,vs=>bE (bG λi j=>if 0<=j/\j<=1000000/\cn i=true then fI (i ^ j.toNat) else none) vs
 | .shr,vs=>bE (bG λi j=>if 0<=j then fI (i / 2 ^ j.toNat) else none) vs
 | .neg,vs=>b7 kC vs
 | .not,vs=>b7 ke vs
 | .eq,vs=>bE (jz false) vs
 | .ne,vs=>bE (jz true) vs
 | .lt,vs=>bE (bG λi j=>fB (decide (i<j))) vs
 | .le,vs=>bE (bG λi j=>fB (decide (i<=j))) vs
 | .gt,vs=>bE (bG λi j=>fB (decide (j<i))) vs
 | .ge,vs=>bE (bG λi j=>fB (decide (j<=i))) vs
 | .isN,vs=>b7 (cU false) vs
 | .notN,vs=>b7 (cU true) vs
 | .isin,vs=>bE (jG false) vs
 | .nin,vs=>bE (jG true) vs
 | .ix,vs=>bE aS vs
 | .slL,vs=>bE (λx y=>match y with | .int i=>cutOp (some i) none x | _=>none) vs
 | .slH,vs=>bE (λx y=>match y with | .int i=>cutOp none (some i) x | _=>none) vs
 | .slLH,_=>none
 | .rev,vs=>b7 (fO λxs=>some (1,.lst xs.reverse)) vs
 | .fld f,vs=>b7 (ii f) vs
 | .isi ts,vs=>b7 (λx=>fB (ts.any (bq G x))) vs
 | .len,vs=>b7 (fJ λxs=>fI xs.length) vs
 | .list,vs=>b7 (fJ λxs=>some (1,.lst xs)) vs
 | .lrng,vs=>b7 gS vs
 | .lrev,_=>none
 | .tuple,vs=>b7 l9 vs
 | .all,vs=>b7 (fO λxs=>match allB xs with | some b=>fB b | none=>none) vs
 | .any,vs=>b7 (fO λxs=>match anyB xs with | some b=>fB b | none=>none) vs
 | .toInt,vs=>b7 intD vs
 | .sum,vs=>b7 (fO hY) vs
 | .srt,vs=>b7 (fO fE) vs
 | .srtSet,vs=>b7 (fO λxs=>match cG xs with | some ns=>some (1,.lst (aL (aV ns))) | none=>none) vs
 | .symd,_=>none
 | .min1,_=>none
 | .min2,vs=>bE (bG λi j=>fI (if j<i then j else i)) vs
 | .max2,vs=>bE (bG λi j=>fI (if j > i then j else i)) vs
 | .index,vs=>bE ce vs
 | .count,vs=>bE kD vs
@[simp] theorem Ay (G:Pg)(vs:aw):bw G .lst vs=some (aZ vs+1,.lst (vs.map (·.2))):=rfl
@[simp] theorem E6 (G:Pg)(vs:aw):bw G .tup vs=some (aZ vs+1,.tup (vs.map (·.2))):=rfl
@[simp] theorem Ce (G:Pg)(vs:aw):bw G .add vs=bE addD vs:=rfl
@[simp] theorem opD_sub (G:Pg)(vs:aw):bw G .sub vs=bE (bG λi j=>fI (i - j)) vs:=rfl
@[simp] theorem yR (G:Pg)(vs:aw):bw G .mul vs=bE dM vs:=rfl
@[simp] theorem opD_fdiv (G:Pg)(vs:aw):bw G .fdiv vs=bE (bG λi j=>if 0<j/\j<1000000000000000000000000000000000000000000000000 then fI (i / j) else none) vs:=rfl
@[simp] theorem opD_mod (G:Pg)(vs:aw):bw G .mod vs=bE (bG λi j=>if 0<j then fI (i % j) else none) vs:=rfl
@[simp] theorem opD_pow (G:Pg)(vs:aw):bw G .pow vs=bE (bG λi j=>if 0<=j/\j<=1000000/\cn i=true then fI (i ^ j.toNat) else none) vs:=rfl
@[simp] theorem opD_shr (G:Pg)(vs:aw):bw G .shr vs=bE (bG λi j=>if 0<=j then fI (i / 2 ^ j.toNat) else none) vs:=rfl
@[simp] theorem Ff (G:Pg)(vs:aw):bw G .neg vs=b7 kC vs:=rfl
@[simp] theorem zq (G:Pg)(vs:aw):bw G .not vs=b7 ke vs:=rfl
@[simp] theorem EI (G:Pg)(vs:aw):bw G .eq vs=bE (jz false) vs:=rfl
@[simp] theorem FT (G:Pg)(vs:aw):bw G .ne vs=bE (jz true) vs:=rfl
@[simp] theorem opD_lt (G:Pg)(vs:aw):bw G .lt vs=bE (bG λi j=>fB (decide (i<j))) vs:=rfl
@[simp] theorem opD_le (G:Pg)(vs:aw):bw G .le vs=bE (bG λi j=>fB (decide (i<=j))) vs:=rfl
@[simp] theorem opD_gt (G:Pg)(vs:aw):bw G .gt vs=bE (bG λi j=>fB (decide (j<i))) vs:=rfl
@[simp] theorem opD_ge (G:Pg)(vs:aw):bw G .ge vs=bE (bG λi j=>fB (decide (j<=i))) vs:=rfl
@[simp] theorem yI (G:Pg)(vs:aw):bw G .isN vs=b7 (cU false) vs:=rfl
@[simp] theorem FD (G:Pg)(vs:aw):bw G .notN vs=b7 (cU true) vs:=rfl
@[simp] theorem opD_isin (G:Pg)(vs:aw):bw G .isin vs=bE (jG false) vs:=rfl
@[simp] theorem opD_nin (G:Pg)(vs:aw):bw G .nin vs=bE (jG true) vs:=rfl
@[simp] theorem GS (G:Pg)(vs:aw):bw G .ix vs=bE aS vs:=rfl
@[simp] theorem opD_slL (G:Pg)(vs:aw):bw G .slL vs=bE (λx y=>match y with | .int i=>cutOp (some i) none x | _=>none) vs:=rfl
@[simp] theorem opD_slH (G:Pg)(vs:aw):bw G .slH vs=bE (λx y=>match y with | .int i=>cutOp none (some i) x | _=>none) vs:=rfl
@[simp] theorem opD_slLH (G:Pg)(vs:aw):bw G .slLH vs=none:=rfl
@[simp] theorem C2 (G:Pg)(vs:aw):bw G .rev vs=b7 (fO λxs=>some (1,.lst xs.reverse)) vs:=rfl
@[simp] theorem DU (G:Pg)(f:Nat)(vs:aw):bw G (.fld f) vs=b7 (ii f) vs:=rfl
@[simp] theorem opD_isi (G:Pg)(ts:List Ty)(vs:aw):bw G (.isi ts) vs=b7 (λx=>fB (ts.any (bq G x))) vs:=rfl
@[simp] theorem F6 (G:Pg)(vs:aw):bw G .len vs=b7 (fJ λxs=>fI xs.length) vs:=rfl
@[simp] theorem C6 (G:Pg)(vs:aw):bw G .list vs=b7 (fJ λxs=>some (1,.lst xs)) vs:=rfl
@[simp] theorem GI (G:Pg)(vs:aw):bw G .lrng vs=b7 gS vs:=rfl
@[simp] theorem opD_lrev (G:Pg)(vs:aw):bw G .lrev vs=none:=rfl
@[simp] theorem Gw (G:Pg)(vs:aw):bw G .tuple vs=b7 l9 vs:=rfl
@[simp] theorem Au (G:Pg)(vs:aw):bw G .all vs=b7 (fO λxs=>match allB xs with | some b=>fB b | none=>none) vs:=rfl
@[simp] theorem Cw (G:Pg)(vs:aw):bw G .any vs=b7 (fO λxs=>match anyB xs with | some b=>fB b | none=>none) vs:=rfl
@[simp] theorem z0 (G:Pg)(vs:aw):bw G .toInt vs=b7 intD vs:=rfl
@[simp] theorem Hb (G:Pg)(vs:aw):bw G .sum vs=b7 (fO hY) vs:=rfl
@[simp] theorem yE (G:Pg)(vs:aw):bw G .srt vs=b7 (fO fE) vs:=rfl
@[simp] theorem Fa (G:Pg)(vs:aw):bw G .srtSet vs=b7 (fO λxs=>match cG xs with | some ns=>some (1,.lst (aL (aV ns))) | none=>none) vs:=rfl
@[simp] theorem opD_symd (G:Pg)(vs:aw):bw G .symd vs=none:=rfl
@[simp] theorem opD_min1 (G:Pg)(vs:aw):bw G .min1 vs=none:=rfl
@[simp] theorem opD_min2 (G:Pg)(vs:aw):bw G .min2 vs=bE (bG λi j=>fI (if j<i then j else i)) vs:=rfl
@[simp] theorem GT (G:Pg)(vs:aw):bw G .max2 vs=bE (bG λi j=>fI (if j > i then j else i)) vs:=rfl
@[simp] theorem zI (G:Pg)(vs:aw):bw G .index vs=bE ce vs:=rfl
@[simp] theorem opD_count (G:Pg)(vs:aw):bw G .count vs=bE kD vs:=rfl
@[simp,reducible] noncomputable def R.of {α:Type}:Option α->R α
 | some a=>.ok a
 | none=>.bad
def bX (h:(none:Option α)=some x):False:=nomatch h
noncomputable def mK (f:D->Option ax):aw->Option ax
 | []=>none
 | x::r=>match r with
  | []=>f x.2
  | _::_=>none
noncomputable def wk2 (f:D->D->Option ax):aw->Option ax
 | []=>none
 | x::r=>match r with
  | []=>none
  | y::t=>match t with
   | []=>f x.2 y.2
   | _::_=>none
def qZ (h:mK f vs=some ds):∃x,vs=[x]/\f x.2=some ds:=by
 cases vs with
 | nil=>exact (bX h).elim
 | cons x r=>
  cases r with
  | nil=>exact⟨x,rfl,h⟩
  | cons _ _=>exact (bX h).elim
def vb (h:wk2 f vs=some ds):∃x y,vs=[x,y]/\f x.2 y.2=some ds:=by
 cases vs with
 | nil=>exact (bX h).elim
 | cons x r=>
  cases r with
  | nil=>exact (bX h).elim
  | cons y t=>
   cases t with
   | nil=>exact⟨x,y,rfl,h⟩
   | cons _ _=>exact (bX h).elim
noncomputable def fX:D->Option Int
 | .int i=>some i
 | _=>none
def tG (h:fX d=some i):d=.int i:=by
 cases d <;> first | exact (bX h).elim | exact congrArg D.int (cQ h)
noncomputable def i6 (d:D):Option ax:=(fX d).bind λj=>if cn j=true then some ((List.range j.toNat).map λ(n:Nat)=>.int n) else none
noncomputable def i9 (d e:D):Option ax:=(fX d).bind λi=>(fX e).bind λj=>if cn i=true/\cn j=true then some ((List.range (j - i).toNat).map λ(n:Nat)=>.int (i+n)) else none
noncomputable def ja (x:D):Option ax:=x.seq.map λxs=>xs.mapIdx λn d=>.tup [.int n,d]
noncomputable def nv (x y:D):Option ax:=x.lstO.bind λxs=>y.lstO.map λys=>(xs.zip ys).map λp=>.tup [p.1,p.2]
noncomputable def iN (x:D):Option ax:=x.lstO.map List.reverse
noncomputable def cV:Wk->aw->Option ax
 | .seq=>mK D.seq
 | .rng1=>mK i6
 | .rng2=>wk2 i9
 | .enum=>mK ja
 | .zip=>wk2 nv
 | .rev=>mK iN
noncomputable abbrev Sl:=List (Option D)
@[simp] noncomputable def cJ (a:Sl):aC->Option D
 | some i=>(a[i]?).join
 | none=>none
@[simp] noncomputable def bJ {α:Type}(f:D->α):ak->ax->List (Option α)->List (Option α)
 | i::is,d::ds,a=>bJ f is ds (a.set i (some (f d)))
 | _,_,a=>a
@[simp] noncomputable def dL {α:Type}(f:D->α)(a:List (Option α)):Tg->D->Option (List (Option α))
 | .one i,d=>some (a.set i (some (f d)))
 | .many is,d=>match d with
  | .tup ds=>if ds.length=is.length then some (bJ f is ds a) else none
  | _=>none
noncomputable def aW (f:D->R az):ax->R aw
 | []=>.ok []
 | x::xs=>(f x).bind λo=>(aW f xs).bind λys=>.ok (match o with | some y=>y::ys | none=>ys)
@[simp] noncomputable def R.bl (r:R KD):R Bool:=r.bind λx=>match x.2 with
 | .bl b=>.ok b
 | _=>.bad
noncomputable def gD {α:Type}(d:D)(t e b:α):α:=match d with
 | .bl c=>if c then t else e
 | _=>b
@[simp] theorem ji (c:Bool)(t e b:α):gD (.bl c) t e b=if c then t else e:=rfl
section
variable (G:Pg)(cl:Nat->aw->Run)
@[simp] noncomputable def ie:Run->R KD
 | .ret k d []=>.ok (k,d)
 | _=>.bad
@[simp] noncomputable def fill (F:Fn)(vs:aw):aw:=vs++(F.dfl.drop (F.dfl.length - (F.np - vs.length))).map λd=>(99,d)
@[simp] noncomputable def di (f m:Nat):Option Fn:=match G.fn f with
 | some F=>if F.io=[]/\m<=F.np/\F.np - m<=F.dfl.length then some F else none
 | none=>none
noncomputable def cD (c m:Nat):Option (Nat×Fn×D):=match G.cl c with
 | some C=>match C.init with
  | some f=>match G.fn f with
   | some F=>if F.io=[0]/\m+1<=F.np/\F.np - (m+1)<=F.dfl.length/\m<=50 then some (f,F,.ins c []) else none
   | none=>none
  | none=>none
 | none=>none
@[simp] noncomputable def made:Run->R KD
 | .ret _ .non [x]=>.ok x
 | _=>.bad
@[simp] noncomputable def gi (p:Nat×Fn×D)(vs:aw):R KD:=made (cl p.1 ((1,p.2.2)::fill { p.2.1 with np:=p.2.1.np - 1 } vs))
noncomputable def cj (m k:Nat):D->Option (Nat×Fn)
 | .ins c fs=>match G.cl c with
  | some C=>match C.meths.lookup m with
   | some f=>match G.fn f with
    | some F=>if F.io=[]/\fs.lookup m=none/\k+1<=F.np/\F.np - (k+1)<=F.dfl.length then some (f,F) else none
    | none=>none
   | none=>none
  | none=>none
 | _=>none
@[simp] noncomputable def jB (i:Int)(x:D):D->R KD
 | .int j=>R.of (cutOp (some i) (some j) x)
 | _=>.bad
mutual
noncomputable def eval (a:Sl):Ex->R KD
 | .var i=>match a[i]? with
  | some (some d)=>.ok (0,d)
  | _=>.bad
 | .cst d=>.ok (99,d)
 | .op o es=>(evals a es).bind λvs=>R.of (bw G o vs)
 | .and x y=>(eval a x).bind λv=>gD v.2 (eval a y) (lK false) .bad
 | .or x y=>(eval a x).bind λv=>gD v.2 (lK true) (eval a y) .bad
 | .ite c x y=>(eval a c).bind λv=>gD v.2 (eval a x) (eval a y) .bad
 | .chain o p x y z=>(eval a x).bind λu=>(eval a y).bind λv=>(R.of (bw G o [u,v])).bind λb=>gD b.2 ((eval a z).bind λw=>R.of (bw G p [v,w])) (lK false) .bad
 | .sl2 x y z=>(eval a x).bind λu=>(eval a y).bind λv=>match v.2 with
  | .int i=>(eval a z).bind λw=>jB i u.2 w.2
  | _=>.bad
 | .comp caps tg wk it t e=>(evals a it).bind λvs=>match cV wk vs with
  | some xs=>if xs.length<=SL then
    (aW (λx=>match dL id (caps.map (cJ a)) tg x with
     | some b=>((evals b t).bind λts=>match ts with
      | []=>(eval b e).bind λy=>.ok (some y)
      | [t]=>gD t.2 ((eval b e).bind λy=>.ok (some y)) (.ok none) .bad
      | _=>.bad)
     | none=>.bad) xs).bind λys=>.ok (aZ ys+1,.lst (ys.map (·.2)))
   else .bad
  | none=>.bad
 | .call f es=>(R.of (di G f es.length)).bind λF=>(evals a es).bind λvs=>ie (cl f (fill F vs))
 | .make c es=>(R.of (cD G c es.length)).bind λp=>(evals a es).bind (gi cl p)
 | .meth m o es=>(eval a o).bind λx=>(R.of (cj G m es.length x.2)).bind λp=>(evals a es).bind λvs=>ie (cl p.1 (fill p.2 (x::vs)))
 | .bad=>.bad
noncomputable def evals (a:Sl):aF->R aw
 | []=>.ok []
 | e::es=>(eval a e).bind λx=>(evals a es).bind λxs=>.ok (x::xs)
end
@[simp] theorem dI (a:Sl):evals G cl a []=.ok []:=rfl
@[simp] theorem b9 (a:Sl)(e:Ex)(es:aF):evals G cl a (e::es)=(eval G cl a e).bind λx=>(evals G cl a es).bind λxs=>.ok (x::xs):=rfl
noncomputable def compF (b0:Sl)(tg:Tg)(t:aF)(e:Ex)(x:D):R az:=match dL id b0 tg x with
 | some b=>(evals G cl b t).bind λts=>match ts with
  | []=>(eval G cl b e).bind λy=>.ok (some y)
  | [t]=>gD t.2 ((eval G cl b e).bind λy=>.ok (some y)) (.ok none) .bad
  | _=>.bad
 | none=>.bad
@[simp] theorem mF (a:Sl)(i:Nat):eval G cl a (.var i)=match a[i]? with
  | some (some d)=>.ok (0,d)
  | _=>.bad:=rfl
@[simp] theorem oR (a:Sl)(d:D):eval G cl a (.cst d)=.ok (99,d):=rfl
@[simp] theorem dH (a:Sl)(o:Op)(es:aF):eval G cl a (.op o es)=(evals G cl a es).bind λvs=>R.of (bw G o vs):=rfl
@[simp] theorem ma (a:Sl)(x y:Ex):eval G cl a (.and x y)=(eval G cl a x).bind λv=>gD v.2 (eval G cl a y) (lK false) .bad:=rfl
@[simp] theorem nu (a:Sl)(x y:Ex):eval G cl a (.or x y)=(eval G cl a x).bind λv=>gD v.2 (lK true) (eval G cl a y) .bad:=rfl
@[simp] theorem pV (a:Sl)(c x y:Ex):eval G cl a (.ite c x y)=(eval G cl a c).bind λv=>gD v.2 (eval G cl a x) (eval G cl a y) .bad:=rfl
@[simp] theorem qU (a:Sl)(o p:Op)(x y z:Ex):eval G cl a (.chain o p x y z)=(eval G cl a x).bind λu=>(eval G cl a y).bind λv=>(R.of (bw G o [u,v])).bind λb=>
  gD b.2 ((eval G cl a z).bind λw=>R.of (bw G p [v,w])) (lK false) .bad:=rfl
@[simp] theorem sv (a:Sl)(x y z:Ex):eval G cl a (.sl2 x y z)=(eval G cl a x).bind λu=>(eval G cl a y).bind λv=>match v.2 with
  | .int i=>(eval G cl a z).bind λw=>jB i u.2 w.2
  | _=>.bad:=rfl
@[simp] theorem nP (a:Sl)(f:Nat)(es:aF):eval G cl a (.call f es)=(R.of (di G f es.length)).bind λF=>(evals G cl a es).bind λvs=>ie (cl f (fill F vs)):=rfl
@[simp] theorem ng (a:Sl)(f:Nat)(es:aF):eval G cl a (.make f es)=(R.of (cD G f es.length)).bind λp=>(evals G cl a es).bind (gi cl p):=rfl
@[simp] theorem lQ (a:Sl)(m:Nat)(o:Ex)(es:aF):eval G cl a (.meth m o es)=(eval G cl a o).bind λx=>(R.of (cj G m es.length x.2)).bind λp=>(evals G cl a es).bind λvs=>ie (cl p.1 (fill p.2 (x::vs))):=rfl
@[simp] theorem gn (a:Sl):eval G cl a .bad=.bad:=rfl
@[simp] theorem la (a:Sl)(caps:List aC)(tg:Tg)(wk:Wk)(it t:aF)(e:Ex):eval G cl a (.comp caps tg wk it t e)=(evals G cl a it).bind λvs=>match cV wk vs with
  | some xs=>if xs.length<=SL then (aW (compF G cl (caps.map (cJ a)) tg t e) xs).bind λys=>.ok (aZ ys+1,.lst (ys.map (·.2))) else .bad
  | none=>.bad:=by
 rfl
noncomputable abbrev Fr:=List az
@[simp] noncomputable def Fr.sl (A:Fr):Sl:=A.map (Option.map (·.2))
inductive O where
 | nx (A:Fr) | ret (k:Nat) (d:D) (A:Fr) | bad
mutual
@[simp] noncomputable def Ex.names:Ex->ak
 | .var i=>[i]
 | .cst _=>[]
 | .op _ es=>Ex.namess es
 | .and a b=>a.names++b.names
 | .or a b=>a.names++b.names
 | .ite c a b=>c.names++(a.names++b.names)
 | .chain _ _ a b c=>a.names++(b.names++c.names)
 | .sl2 a b c=>a.names++(b.names++c.names)
 | .comp caps _ _ it _ _=>caps.filterMap id++Ex.namess it
 | .call _ es=>Ex.namess es
 | .make _ es=>Ex.namess es
 | .meth _ o es=>o.names++Ex.namess es
 | .bad=>[]
@[simp] noncomputable def Ex.namess:aF->ak
 | []=>[]
 | e::es=>e.names++Ex.namess es
end
@[simp] noncomputable def frz1 (A:Fr)(i:Nat):Fr:=match A[i]? with
 | some (some (_,d))=>A.set i (some (0,d))
 | _=>A
@[simp] noncomputable def frz (ns:ak)(A:Fr):Fr:=ns.foldl frz1 A
@[simp] noncomputable def settle (ns:ak)(A:Fr)(x:KD):Fr:=if x.2.fb x.1 then A else frz ns A
@[simp] noncomputable def putF (f:Nat)(d:D):aJ->aJ
 | []=>[(f,d)]
 | (g,e)::r=>if g=f then (g,d)::r else (g,e)::putF f d r
noncomputable def bI (body:D->Fr->O):ax->Fr->O
 | [],A=>.nx A
 | x::xs,A=>match body x A with
  | .nx A=>bI body xs A
  | o=>o
noncomputable def du (test:Fr->R Bool)(body:Fr->O):Nat->Fr->O
 | 0,_=>.bad
 | n+1,A=>match test A with
  | .ok true=>match body A with
   | .nx A=>du test body n A
   | o=>o
  | .ok false=>.nx A
  | .bad=>.bad
@[simp] noncomputable def R.toO {α:Type}(r:R α)(A:Fr)(f:α->O):O:=match r with
 | .ok a=>f a
 | .bad=>.bad
@[simp] noncomputable def O.seq (o:O)(f:Fr->O):O:=match o with
 | .nx A=>f A
 | o=>o
noncomputable def D.isI:D->Bool
 | .int _=>true
 | _=>false
noncomputable def fM (m:Mu)(k:Nat)(xs:ax)(vs:aw):az:=match m,vs with
 | .append,[v]=>if xs.length<SL then some (dJ k xs v+1,.lst (xs++[v.2])) else none
 | .extend,[v]=>match v.2 with
  | .tup ys=>if ys.all D.scal=true/\xs.length+ys.length<=SL then some (1,.lst (xs++ys)) else none
  | _=>none
 | .clear,[]=>some (99,.lst [])
 | .insert,[v,w]=>match v.2 with
  | .int i=>if 0<=i/\i.toNat<=xs.length/\xs.length<SL/\w.2.scal=true then some (1,.lst (xs.take i.toNat++w.2::xs.drop i.toNat)) else none
  | _=>none
 | .remove,[v]=>match v.2 with
  | .int i=>if xs.all D.isI=true then (match D.find (.int i) xs with | some j=>some (1,.lst (xs.eraseIdx j)) | none=>none) else none
  | _=>none
 | .pop0,[]=>if xs=[] then none else some (k+1,.lst xs.dropLast)
 | _,_=>none
@[simp] theorem xV (k:Nat)(xs:ax)(v:KD):fM .append k xs [v]=if xs.length<SL then some (dJ k xs v+1,.lst (xs++[v.2])) else none:=rfl
@[simp] theorem mutD_clear (k:Nat)(xs:ax):fM .clear k xs []=some (99,.lst []):=rfl
@[simp] theorem mutD_insert (k:Nat)(xs:ax)(v w:KD):fM .insert k xs [v,w]=match v.2 with
  | .int i=>if 0<=i/\i.toNat<=xs.length/\xs.length<SL/\w.2.scal=true then some (1,.lst (xs.take i.toNat++w.2::xs.drop i.toNat)) else none
  | _=>none:=rfl
@[simp] theorem wQ (k:Nat)(xs:ax)(v:KD):fM .remove k xs [v]=match v.2 with
  | .int i=>if xs.all D.isI=true then (match D.find (.int i) xs with | some j=>some (1,.lst (xs.eraseIdx j)) | none=>none) else none
  | _=>none:=rfl
@[simp] theorem xO (k:Nat)(xs:ax)(v:KD):fM .extend k xs [v]=match v.2 with
  | .tup ys=>if ys.all D.scal=true/\xs.length+ys.length<=SL then some (1,.lst (xs++ys)) else none
  | _=>none:=rfl
noncomputable def gj (v:D):ax->Option ax
 | []=>some []
 | .lst xs::ds=>if xs.length<SL then (gj v ds).map λes=>.lst (xs++[v])::es else none
 | _::_=>none
section
variable (io:ak)
@[simp] noncomputable def cY (i:Nat)(x:KD)(A:Fr):O:=if io.contains i=false/\i<A.length then .nx (A.set i (some x)) else .bad
@[simp] noncomputable def setFs:ak->aw->Fr->O
 | [],[],A=>.nx A
 | i::is,x::xs,A=>(cY io i x A).seq (setFs is xs)
 | _,_,_=>.bad
@[simp] noncomputable def bT (tg:Tg)(d:D)(A:Fr):O:=match tg,d with
 | .one i,d=>cY io i (0,d) A
 | .many is,.tup ds=>setFs io is (ds.map λd=>(0,d)) A
 | .many is,.lst ds=>setFs io is (ds.map λd=>(0,d)) A
 | _,_=>.bad
@[simp] noncomputable def ft (io:ak)(is:ak)(e:Ex)(A:Fr)(x:KD):O:=match x.2 with
 | .tup ds=>setFs io is (ds.map λd=>(0,d)) (settle e.names A x)
 | .lst ds=>setFs io is (ds.map λd=>(0,d)) (settle e.names A x)
 | _=>.bad
noncomputable def cr (A:Fr)(e:Ex)(r:R KD):O:=match e with
 | .var i=>match A[i]? with
  | some (some x)=>.ret x.1 x.2 (A.set i none)
  | _=>.bad
 | e=>r.toO A λx=>.ret x.1 x.2 (settle e.names A x)
@[simp] theorem uH (A:Fr)(i:Nat)(r:R KD):cr A (.var i) r=match A[i]? with
  | some (some x)=>.ret x.1 x.2 (A.set i none)
  | _=>.bad:=rfl
@[simp] theorem retO_cst (A:Fr)(d:D)(r:R KD):cr A (.cst d) r=r.toO A λx=>.ret x.1 x.2 (settle (Ex.cst d).names A x):=rfl
@[simp] theorem retO_op (A:Fr)(o:Op)(es:aF)(r:R KD):cr A (.op o es) r=r.toO A λx=>.ret x.1 x.2 (settle (Ex.op o es).names A x):=rfl
@[simp] theorem retO_and (A:Fr)(x y:Ex)(r:R KD):cr A (.and x y) r=r.toO A λz=>.ret z.1 z.2 (settle (Ex.and x y).names A z):=rfl
@[simp] theorem retO_or (A:Fr)(x y:Ex)(r:R KD):cr A (.or x y) r=r.toO A λz=>.ret z.1 z.2 (settle (Ex.or x y).names A z):=rfl
@[simp] theorem retO_ite (A:Fr)(c x y:Ex)(r:R KD):cr A (.ite c x y) r=r.toO A λz=>.ret z.1 z.2 (settle (Ex.ite c x y).names A z):=rfl
@[simp] theorem retO_chain (A:Fr)(o p:Op)(x y w:Ex)(r:R KD):cr A (.chain o p x y w) r=r.toO A λz=>.ret z.1 z.2 (settle (Ex.chain o p x y w).names A z):=rfl
@[simp] theorem retO_sl2 (A:Fr)(x y w:Ex)(r:R KD):cr A (.sl2 x y w) r=r.toO A λz=>.ret z.1 z.2 (settle (Ex.sl2 x y w).names A z):=rfl
@[simp] theorem retO_comp (A:Fr)(caps:List aC)(tg:Tg)(wk:Wk)(it t:aF)(e:Ex)(r:R KD):cr A (.comp caps tg wk it t e) r=r.toO A λz=>.ret z.1 z.2 (settle (Ex.comp caps tg wk it t e).names A z):=rfl
@[simp] theorem retO_call (A:Fr)(f:Nat)(es:aF)(r:R KD):cr A (.call f es) r=r.toO A λz=>.ret z.1 z.2 (settle (Ex.call f es).names A z):=rfl
@[simp] theorem retO_make (A:Fr)(f:Nat)(es:aF)(r:R KD):cr A (.make f es) r=r.toO A λz=>.ret z.1 z.2 (settle (Ex.make f es).names A z):=rfl
@[simp] theorem retO_meth (A:Fr)(f:Nat)(o:Ex)(es:aF)(r:R KD):cr A (.meth f o es) r=r.toO A λz=>.ret z.1 z.2 (settle (Ex.meth f o es).names A z):=rfl
@[simp] theorem retO_bad (A:Fr)(r:R KD):cr A .bad r=r.toO A λz=>.ret z.1 z.2 (settle Ex.bad.names A z):=rfl
@[simp] noncomputable def fj (m:Mu)(vs:aw)(A:Fr)(x:Nat):Option az->O
 | some (some (k+1,.lst xs))=>match fM m k xs vs with
  | some y=>.nx (A.set x (some y))
  | none=>.bad
 | _=>.bad
noncomputable def t5 (m:Mu)(vs:aw)(A:Fr)(x:Nat)(i:Int):Option az->O
 | some (some (k+2,.lst xs))=>match dB xs.length i with
  | some j=>match xs[j]? with
   | some (.lst ys)=>match fM m k ys vs with
    | some y=>.nx (A.set x (some (dJ (k+1) (xs.eraseIdx j) y+1,.lst (xs.set j y.2))))
    | none=>.bad
   | _=>.bad
  | none=>.bad
 | _=>.bad
@[simp] noncomputable def cu:Option az->Bool
 | some (some (_,.lst _))=>true
 | _=>false
@[simp] noncomputable def eV (m:Mu)(A:Fr)(x:Nat)(es:aF)(ps vs:aw):O:=
 let A1:=if vs.all (λv=>v.2.fb v.1) then A else frz (Ex.namess es) A
 match ps with
 | []=>fj m vs A1 x A1[x]?
 | [(_,.int i)]=>t5 m vs A1 x i A1[x]?
 | _=>.bad
@[simp] noncomputable def hG (A:Fr)(x:Nat)(v w:KD):Option az->O
 | some (some (k+1,.lst xs))=>match w.2 with
  | .int i=>if 0<=i/\i<xs.length then .nx (A.set x (some (1,.lst (xs.set i.toNat v.2)))) else .bad
  | _=>.bad
 | _=>.bad
@[simp] noncomputable def gJ (A:Fr)(x f:Nat)(v:KD):Option az->O
 | some (some (k+1,.ins c fs))=>if fs.length<50 then .nx (A.set x (some (dJ k (fs.map (·.2)) v+1,.ins c (putF f v.2 fs)))) else .bad
 | _=>.bad
@[simp] noncomputable def appAll0 (io:ak)(A:Fr)(x y:Nat)(v:KD):Option az->O
 | some (some (k+2,.lst ds))=>if v.2.flat=true/\io.contains x=false/\x≠y/\x<A.length then match gj v.2 ds with
   | some es=>.nx ((A.set y (some (k+2,.lst es))).set x none)
   | none=>.bad
  else .bad
 | _=>.bad
@[simp] noncomputable def iX (A:Fr)(s:Str)(i:Nat):Option az->O
 | some (some x)=>.ret (x.1+1) (.tup [.str s,x.2]) (A.set i none)
 | _=>.bad
@[simp] noncomputable def appAt0 (A:Fr)(x i:Nat)(v:KD):Option az->O
 | some (some (k+2,.tup ds))=>match ds[i]? with
  | some (.lst ys)=>if v.2.scal=true/\ys.length<SL then .nx (A.set x (some (k+2,.tup (ds.set i (.lst (ys++[v.2])))))) else .bad
  | _=>.bad
 | _=>.bad
@[simp] noncomputable def Wk.rng:Wk->Bool
 | .rng1=>true
 | .rng2=>true
 | _=>false
@[simp] noncomputable def Wk.fz (wk:Wk)(it:aF):ak:=if wk.rng=true then [] else Ex.namess it
@[simp] noncomputable def kR (G:Pg)(loop:ax->Fr->O)(wk:Wk)(it:aF)(A:Fr)(vs:aw):O:=match cV wk vs with
 | some xs=>if xs.length<=SL then loop xs (frz (wk.fz it) A) else .bad
 | none=>.bad
mutual
noncomputable def exec (A:Fr):S->O
 | .set i e=>(eval G cl A.sl e).toO A λx=>cY io i x (settle e.names A x)
 | .setT is e=>(eval G cl A.sl e).toO A (ft io is e A)
 | .ret e=>cr A e (eval G cl A.sl e)
 | .ex e=>(eval G cl A.sl e).toO A λx=>.nx (settle e.names A x)
 | .iff c t e=>((eval G cl A.sl c).bl).toO A λb=>if b then execs A t else execs A e
 | .whl c b=>du (λA=>(eval G cl A.sl c).bl) (λA=>execs A b) 10000 A
 | .fo tg wk it b=>(evals G cl A.sl it).toO A (kR G (bI λx A=>(bT io tg x A).seq λA=>execs A b) wk it A)
 | .mut x path m es=>if cu A[x]? then (evals G cl A.sl path).toO A λps=>(evals G cl A.sl es).toO A (eV m A x es ps) else .bad
 | .put x path i e=>if path.isEmpty=true then (eval G cl A.sl e).toO A λv=>(eval G cl A.sl i).toO A λw=>hG (settle e.names A v) x v w (settle e.names A v)[x]? else .bad
 | .sfld x f e=>(eval G cl A.sl e).toO A λv=>gJ (settle e.names A v) x f v (settle e.names A v)[x]?
 | .retP s i=>iX A s i A[i]?
 | .bad=>.bad
noncomputable def execs (A:Fr):ay->O
 | []=>.nx A
 | s::ss=>(exec A s).seq λA=>execs A ss
end
end
end
section
variable (G:Pg)(cl:Nat->aw->Run)(io:ak)
@[simp] theorem vo (A:Fr):execs G cl io A []=.nx A:=rfl
@[simp] theorem j8 (A:Fr)(s:S)(ss:ay):execs G cl io A (s::ss)=(exec G cl io A s).seq λA=>execs G cl io A ss:=rfl
noncomputable def fN (tg:Tg)(b:ay)(x:D)(A:Fr):O:=(bT io tg x A).seq λA=>execs G cl io A b
noncomputable def g8 (c:Ex)(A:Fr):R Bool:=(eval G cl A.sl c).bl
noncomputable def jD (b:ay)(A:Fr):O:=execs G cl io A b
@[simp] theorem ls (A:Fr)(i:Nat)(e:Ex):exec G cl io A (.set i e)=(eval G cl A.sl e).toO A λx=>cY io i x (settle e.names A x):=rfl
@[simp] theorem tf (A:Fr)(is:ak)(e:Ex):exec G cl io A (.setT is e)=(eval G cl A.sl e).toO A (ft io is e A):=rfl
@[simp] theorem nR (A:Fr)(e:Ex):exec G cl io A (.ret e)=cr A e (eval G cl A.sl e):=rfl
@[simp] theorem rd (A:Fr)(e:Ex):exec G cl io A (.ex e)=(eval G cl A.sl e).toO A λx=>.nx (settle e.names A x):=rfl
@[simp] theorem wz (A:Fr)(c:Ex)(t e:ay):exec G cl io A (.iff c t e)=((eval G cl A.sl c).bl).toO A λb=>if b then execs G cl io A t else execs G cl io A e:=rfl
@[simp] theorem lX (A:Fr)(x:Nat)(path:aF)(m:Mu)(es:aF):exec G cl io A (.mut x path m es)=if cu A[x]? then (evals G cl A.sl path).toO A λps=>(evals G cl A.sl es).toO A (eV m A x es ps) else .bad:=rfl
@[simp] theorem yk (A:Fr)(x:Nat)(path:aF)(i e:Ex):exec G cl io A (.put x path i e)=if path.isEmpty=true then (eval G cl A.sl e).toO A λv=>(eval G cl A.sl i).toO A λw=>hG (settle e.names A v) x v w (settle e.names A v)[x]? else .bad:=rfl
@[simp] theorem Cg (A:Fr)(x f:Nat)(e:Ex):exec G cl io A (.sfld x f e)=(eval G cl A.sl e).toO A λv=>gJ (settle e.names A v) x f v (settle e.names A v)[x]?:=rfl
@[simp] theorem xE (A:Fr)(s:Str)(i:Nat):exec G cl io A (.retP s i)=iX A s i A[i]?:=rfl
@[simp] theorem yU (A:Fr):exec G cl io A .bad=.bad:=rfl
@[simp] theorem qM (A:Fr)(tg:Tg)(wk:Wk)(it:aF)(b:ay):exec G cl io A (.fo tg wk it b)=(evals G cl A.sl it).toO A (kR G (bI (fN G cl io tg b)) wk it A):=by
 rfl
@[simp] theorem xB (A:Fr)(c:Ex)(b:ay):exec G cl io A (.whl c b)=du (g8 G cl c) (jD G cl io b) 10000 A:=by
 rfl
end
def yf (h:x.2.flat=true):br j x=true:=by simp[br,h]
@[simp] theorem joinK_nil:aZ []=98:=rfl
@[simp] theorem oi (h:x.2.flat=true):aZ (x::xs)=aZ xs:=by
 have h2:∀j,br j x=true:=λj=>yf h;unfold aZ;rw[List.find?_cons_of_neg (by simp[h])];cases xs.find? λx=>!x.2.flat with
 | none=>rfl
 | some y=>
  show (if (br y.1 x&&xs.all (br y.1))=true then y.1 else 0)=if xs.all (br y.1)=true then y.1 else 0
  rw[h2 y.1,Bool.true_and]
@[simp] noncomputable def outs (A:Fr):ak->Option aw
 | []=>some []
 | i::is=>match A[i]? with
  | some (some x)=>(outs A is).map λxs=>x::xs
  | _=>none
@[simp] noncomputable def fin (io:ak):O->Run
 | .nx A=>match outs A io with
  | some xs=>.ret 99 .non xs
  | none=>.bad
 | .ret k d A=>match outs A io with
  | some xs=>.ret k d xs
  | none=>.bad
 | _=>.bad
@[simp] noncomputable def bB (F:Fn)(vs:aw):Fr:=vs.mapIdx (λi v=>if F.io.contains i then some v else some (0,v.2))++List.replicate (F.ns - F.np) none
noncomputable def run (G:Pg):Nat->Nat->aw->Run
 | 0,_,_=>.bad
 | n+1,f,vs=>match G.fn f with
  | some F=>if vs.length=F.np then fin F.io (execs G (run G n) F.io (bB F vs) F.body) else .bad
  | none=>.bad
end
end Ip
end
section
namespace Ip
open PySem
structure Tb where
 fns:List (Str×Nat)
 cls:List (Str×Nat)
 wb:Str
 att:ar
 fl:ak
 cst:List (Str×D)
noncomputable def pos? (x:Str):ar->aC
 | []=>none
 | y::ys=>if y == x then some 0 else (pos? x ys).map (·+1)
theorem pos?_get:∀{l:ar} {i:Nat},pos? x l=some i->l[i]? = some x
 | [],_,h=>by simp[pos?] at h
 | y::ys,i,h=>by
  unfold pos? at h;by_cases e:(y == x)=true
  .rw[if_pos e] at h;cases h;simpa using e
  .rw[if_neg e] at h;cases q:pos? x ys with
   | none=>rw[q] at h; cases h
   | some j=>rw[q] at h; cases h; simpa using pos?_get q
noncomputable def qL:Operator->Option Op
 | .Add=>some .add | .Sub=>some .sub | .Mult=>some .mul | .FloorDiv=>some .fdiv | .Mod=>some .mod | .Pow=>some .pow
 | _=>none
noncomputable def gv:CmpOp->Option Op
 | .Eq=>some .eq | .NotEq=>some .ne | .Lt=>some .lt | .LtE=>some .le | .Gt=>some .gt | .GtE=>some .ge | .In=>some .isin | .NotIn=>some .nin
 | _=>none
noncomputable def bz (sc:Scope)(x:Str):Bool:=sc.names.lookup x == some .globalImplicit
noncomputable def bf (sc:Scope)(x:Str):Bool:=sc.names.lookup x == some .local||sc.names.lookup x == some .cell||sc.names.lookup x == some .free
noncomputable def bH (sc:Scope)(x:Str):Bool:=sc.names.lookup x == some .local||sc.names.lookup x == some .cell
noncomputable def m9:List (Str×Op):=[("len",.len),("list",.list),("tuple",.tuple),("all",.all),("any",.any),("int",.toInt),("sum",.sum),("sorted",.srt)]
noncomputable def jK:List (Str×Ty):=[("int",.int),("bool",.bool),("str",.str),("list",.list),("tuple",.tuple),("dict",.dict),("ValueError",.verr)]
noncomputable def gG (T:Tb)(sc:Scope):Expr->Option Ty
 | .Name x _=>if bz sc x then (match T.cls.lookup x with
  | some c=>some (.cls c)
  | none=>jK.lookup x) else none
 | _=>none
noncomputable def d7 (T:Tb)(sc:Scope)(e:Expr):Option (List Ty):=(gG T sc e).map λt=>[t]
noncomputable def c6 (sc:Scope)(N N':ar)(caps:List aC)(scope:Scope):Bool:=
 scope.kind == .function&&scope.names.all (λy=>(y.2 != .cell||scope.names.lookup y.1 == some .cell)&&(y.2 != .local||scope.names.lookup y.1 == some .local)&&(y.2 != .free||(sc.names.lookup y.1 == some .cell||sc.names.lookup y.1 == some .free))) &&
 caps.length == N'.length&&decide N'.Nodup&&(caps.zip N').all λp=>match p.1 with
  | none=>true
  | some j=>N[j]? == some p.2&&scope.names.lookup p.2 == some .free
noncomputable def bc (scope:Scope):ar:=(scope.names.filter λy=>y.2 == .local||y.2 == .cell||y.2 == .free).map (·.1)
noncomputable def bm (N:ar)(scope:Scope):List aC:=(scope.names.filter λy=>y.2 == .local||y.2 == .cell||y.2 == .free).map λy=>if y.2 == .free then pos? y.1 N else none
noncomputable def cM (sc:Scope)(N:ar):Expr->Option Tg
 | .Name x _=>if bH sc x then (pos? x N).map .one else none
 | .Tuple es _ _=>(es.mapM λ(e:Expr)=>match e with
  | .Name x _=>if bH sc x then pos? x N else none
  | _=>none).map .many
 | _=>none
theorem xh (sc:Scope)(N:ar)(x:Str)(p:Pos):cM sc N (.Name x p)=if bH sc x then (pos? x N).map .one else none:=rfl
theorem Do (sc:Scope)(N:ar)(es:au)(k:Nat)(p:Pos):cM sc N (.Tuple es k p)=(es.mapM λ(e:Expr)=>match e with
  | .Name x _=>if bH sc x then pos? x N else none
  | _=>none).map .many:=rfl
noncomputable def aX (x:Str):Bool:=!(x == ("__debug__" : Str))&&!(x == ("__classdict__" : Str))
noncomputable def cK:Expr->Bool
 | .Set _ _ _=>false
 | _=>true
noncomputable def iI:CmpOp->Option Op
 | .Eq=>some .eq | .NotEq=>some .ne | .Lt=>some .lt | .LtE=>some .le | .Gt=>some .gt | .GtE=>some .ge
 | _=>none
noncomputable def isNone:Expr->Bool
 | .Constant .none _ _=>true
 | _=>false
noncomputable def aO (es:au):Bool:=es.all λe=>match e with
 | .Starred _ _=>false
 | _=>true
noncomputable def fQ:Expr->Bool
 | .Call (.Name _ _) [] [] _=>false
 | _=>true
noncomputable def dX:Wk->Tg->Bool
 | .enum,.one _=>false
 | .zip,.one _=>false
 | _,_=>true
noncomputable def cZ:Tg->ak
 | .one i=>[i]
 | .many is=>is
noncomputable def cg:Expr->Option Str
 | .Name x _=>some x
 | _=>none
noncomputable def gL:Expr->Option (Expr×List Expr×List Keyword×Pos)
 | .Call f a k p=>some (f,a,k,p)
 | _=>none
noncomputable def gF:Expr->Option (Expr×Str×Pos)
 | .Attribute o m p=>some (o,m,p)
 | _=>none
noncomputable def nh:Const->Option Int
 | .int i=>some i
 | _=>none
noncomputable def mw:Expr->Option Int
 | .Constant c _ _=>nh c
 | _=>none
def iY (h:cg e=some x):∃p,e=.Name x p:=by
 cases e <;> first | exact (bX h).elim | exact⟨_,congrArg (λx=>Expr.Name x _) (cQ h)⟩
def v7 (h:gL e=some x):e=.Call x.1 x.2.1 x.2.2.1 x.2.2.2:=by
 cases e <;> first | exact (bX h).elim | exact congrArg (λx:Expr×List Expr×List Keyword×Pos=>Expr.Call x.1 x.2.1 x.2.2.1 x.2.2.2) (cQ h)
def yp (h:gF e=some x):e=.Attribute x.1 x.2.1 x.2.2:=by
 cases e <;> first | exact (bX h).elim | exact congrArg (λx:Expr×Str×Pos=>Expr.Attribute x.1 x.2.1 x.2.2) (cQ h)
def Bd (h:nh c=some i):c=.int i:=by
 cases c <;> first | exact (bX h).elim | exact congrArg Const.int (cQ h)
def AW (h:mw e=some i):∃k p,e=.Constant (.int i) k p:=by
 cases e <;> first | exact (bX h).elim | exact⟨_,_,congrArg (λc=>Expr.Constant c _ _) (Bd h)⟩
noncomputable def tZ:Expr->Option Expr
 | .UnaryOp o a _=>(match o with | .USub=>some a | _=>none)
 | _=>none
noncomputable def ik (e:Expr):Bool:=(tZ e).bind mw == some 1
def AQ (h:ik b=true):∃k p1 p2,b=.UnaryOp .USub (.Constant (.int 1) k p1) p2:=by
 obtain⟨a,n1,r1⟩:=dR (HU.mp h);obtain⟨k,p1,rfl⟩:=AW r1;cases b <;> first | exact (bX n1).elim | skip
 rename_i o a p;cases o <;> first | exact (bX n1).elim | (cases n1; exact⟨_,_,_,rfl⟩)
noncomputable def nX (sc:Scope)(f:Str)(a:Expr):Option (Op×Expr):=(gL a).bind λc=>(cg c.1).bind λg=>if c.2.1.length=1/\c.2.2.1.isEmpty=true/\(bz sc g&&aO c.2.1)=true then
  (if (f == ("sorted" : Str)&&g == ("set" : Str))=true then c.2.1.head?.map λb=>(.srtSet,b) else if (f == ("list" : Str)&&g == ("range" : Str))=true then c.2.1.head?.map λb=>(.lrng,b) else none)
 else none
def GV (h:nX sc f a=some (o,b)):∃g p1 p2,a=.Call (.Name g p1) [b] [] p2/\bz sc g=true/\aO [b]=true/\((f = "sorted" /\ g = "set" /\ o=.srtSet)\/(f = "list" /\ g = "range" /\ o=.lrng)):=by
 unfold nX at h;obtain⟨c,n1,r1⟩:=dR h;obtain⟨g,n2,r2⟩:=dR r1;have e1:=v7 n1;obtain⟨p,e2⟩:=iY n2;by_cases c1:c.2.1.length=1/\c.2.2.1.isEmpty=true/\(bz sc g&&aO c.2.1)=true
 rotate_left
 .rw[if_neg c1] at r2; exact (bX r2).elim
 rw[if_pos c1] at r2;obtain⟨l1,l2,l3⟩:=c1;obtain⟨x,ex⟩:=Kv.mp l1;rw[HF] at l3;have kw:c.2.2.1=[]:=KH.mp l2;by_cases c2:(f == ("sorted" : Str)&&g == ("set" : Str))=true
 .rw[if_pos c2,ex] at r2;have r3:(Op.srtSet,x)=(o,b):=cQ r2;cases r3;simp only[HF,HU] at c2;exact⟨g,p,c.2.2.2,by rw[e1,e2,ex,kw],l3.1,by rw[<-ex]; exact l3.2,.inl ⟨c2.1,c2.2,rfl⟩⟩
 .rw[if_neg c2] at r2;by_cases c3:(f == ("list" : Str)&&g == ("range" : Str))=true
  .rw[if_pos c3,ex] at r2;have r3:(Op.lrng,x)=(o,b):=cQ r2;cases r3;simp only[HF,HU] at c3;exact⟨g,p,c.2.2.2,by rw[e1,e2,ex,kw],l3.1,by rw[<-ex]; exact l3.2,.inr ⟨c3.1,c3.2,rfl⟩⟩
  .rw[if_neg c3] at r2; exact (bX r2).elim
section
variable (T:Tb)
noncomputable def pv? (x:Str)(N:ar)(f:Nat->Ex):Ex:=match pos? x N with
 | some i=>f i
 | none=>.bad
noncomputable def ug:Expr->Bool
 | .Name _ _=>true
 | _=>false
noncomputable def d6 (m:Str)(args:au):Bool:=m == ("index" : Str)&&args.length == 1&&args.all ug
mutual
noncomputable def cE (sc:Scope)(N:ar):Nat->Expr->Ex
 | 0,_=>.bad
 | n+1,.Name x _=>if bf sc x&&aX x then pv? x N .var else if bz sc x then (match T.cst.lookup x with | some d=>.cst d | none=>.bad) else .bad
 | n+1,.Constant c _ _=>match c with
  | .none=>.cst .non
  | .bool b=>.cst (.bl b)
  | .int i=>.cst (.int i)
  | .str s=>.cst (.str s)
  | _=>.bad
 | n+1,.BinOp a o b _=>match qL o with
  | some o=>.op o [cE sc N n a,cE sc N n b]
  | none=>.bad
 | n+1,.UnaryOp o a _=>match o with
  | .Not=>.op .not [cE sc N n a]
  | .USub=>.op .neg [cE sc N n a]
  | _=>.bad
 | n+1,.BoolOp o es p=>match es with
  | []=>.bad
  | [a]=>cE sc N n a
  | a::b::es=>match o with
   | .And=>.and (cE sc N n a) (cE sc N n (.BoolOp o (b::es) p))
   | .Or=>.or (cE sc N n a) (cE sc N n (.BoolOp o (b::es) p))
 | n+1,.Compare a os bs _=>match os,bs with
  | [o],[b]=>match o with
   | .Is=>if isNone b then .op .isN [cE sc N n a] else .bad
   | .IsNot=>if isNone b then .op .notN [cE sc N n a] else .bad
   | o=>match gv o with
    | some o=>if cK b then .op o [cE sc N n a,cE sc N n b] else .bad
    | none=>.bad
  | [o,p],[b,c]=>match iI o,iI p with
   | some o,some p=>.chain o p (cE sc N n a) (cE sc N n b) (cE sc N n c)
   | _,_=>.bad
  | _,_=>.bad
 | n+1,.IfExp c a b _=>.ite (cT sc N n c) (cE sc N n a) (cE sc N n b)
 | n+1,.List es _=>if es.length<=1000 then .op .lst (es.map (cE sc N n)) else .bad
 | n+1,.Tuple es _ _=>if es.length<=1000 then .op .tup (es.map (cE sc N n)) else .bad
 | n+1,.Subscript a i _=>match i with
  | .Slice lo hi st _=>match lo,hi,st with
   | some l,none,none=>.op .slL [cE sc N n a,cE sc N n l]
   | none,some l,none=>.op .slH [cE sc N n a,cE sc N n l]
   | some l,some h,none=>.sl2 (cE sc N n a) (cE sc N n l) (cE sc N n h)
   | none,none,some s=>if ik s then .op .rev [cE sc N n a] else .bad
   | _,_,_=>.bad
  | i=>.op .ix [cE sc N n a,cE sc N n i]
 | n+1,.Attribute o f _=>match pos? f T.att with
  | some k=>if T.fl.contains k&&fQ o then .op (.fld k) [cE sc N n o] else .bad
  | none=>.bad
 | n+1,.ListComp e gs scope _=>match gs with
  | [⟨tg,iter,ifs,as⟩]=>
   if c6 sc N (bc scope) (bm N scope) scope&&as == 0&&decide (ifs.length<=1) then
    match cM scope (bc scope) tg with
    | some g=>if dX (cI sc N n iter).1 g&&(cZ g).all (λi=>(bm N scope)[i]? == some none) then
      .comp (bm N scope) g (cI sc N n iter).1 (cI sc N n iter).2 (ifs.map (cT scope (bc scope) n)) (cE scope (bc scope) n e)
     else .bad
    | none=>.bad
   else .bad
  | _=>.bad
 | n+1,.Call f args kws cp=>match kws with
  | []=>match f with
   | .Name f _=>if bz sc f then
     match T.fns.lookup f with
     | some k=>if aO args then .call k (args.map (cE sc N n)) else .bad
     | none=>match T.cls.lookup f with
      | some c=>if aO args then .make c (args.map (cE sc N n)) else .bad
      | none=>cB sc N n f args
    else .bad
   | .Attribute o m ap=>match pos? m T.att with
     | some k=>if fQ o&&aO args&&decide (args.length<30)&&ap.endLine == cp.line then .meth k (cE sc N n o) (args.map (cE sc N n)) else .bad
     | none=>if d6 m args&&fQ o&&aO args&&ap.endLine == cp.line then .op .index ((o::args).map (cE sc N n)) else .bad
   | _=>.bad
  | _=>.bad
 | _,_=>.bad
noncomputable def cT (sc:Scope)(N:ar):Nat->Expr->Ex
 | 0,_=>.bad
 | n+1,.BoolOp o es p=>match es with
  | []=>.bad
  | [a]=>cT sc N n a
  | a::b::es=>match o with
   | .And=>.and (cT sc N n a) (cT sc N n (.BoolOp o (b::es) p))
   | .Or=>.or (cT sc N n a) (cT sc N n (.BoolOp o (b::es) p))
 | n+1,.UnaryOp .Not a _=>.op .not [cT sc N n a]
 | n+1,.IfExp _ _ _ _=>.bad
 | n+1,e=>cE sc N n e
noncomputable def cB (sc:Scope)(N:ar):Nat->Str->au->Ex
 | 0,_,_=>.bad
 | n+1,f,args=>match args with
  | [a]=>match nX sc f a with
   | some (o,b)=>.op o [cE sc N n b]
   | none=>match m9.lookup f with
    | some o=>.op o [cE sc N n a]
    | none=>.bad
  | [a,b]=>if f == ("isinstance" : Str) then (match d7 T sc b with
    | some ts=>.op (.isi ts) [cE sc N n a]
    | none=>.bad)
   else if f == ("max" : Str)&&aO [a,b] then .op .max2 [cE sc N n a,cE sc N n b]
   else .bad
  | _=>.bad
noncomputable def cI (sc:Scope)(N:ar):Nat->Expr->Wk×aF
 | 0,_=>(.seq,[.bad])
 | n+1,e=>match e with
  | .Call (.Name f p) args [] q=>
   if bz sc f&&f == ("range" : Str)&&aO args then match args with
    | [a]=>(.rng1,[cE sc N n a])
    | [a,b]=>(.rng2,[cE sc N n a,cE sc N n b])
    | _=>(.seq,[.bad])
   else if bz sc f&&f == ("enumerate" : Str)&&aO args then match args with
    | [a]=>(.enum,[cE sc N n a])
    | _=>(.seq,[.bad])
   else if bz sc f&&f == ("zip" : Str)&&aO args then match args with
    | [a,b]=>(.zip,[cE sc N n a,cE sc N n b])
    | _=>(.seq,[.bad])
   else if bz sc f&&f == ("reversed" : Str)&&aO args then match args with
    | [a]=>(.rev,[cE sc N n a])
    | _=>(.seq,[.bad])
   else (.seq,[cE sc N n (.Call (.Name f p) args [] q)])
  | e=>(.seq,[cE sc N n e])
end
theorem yG (sc:Scope)(N:ar)(n:Nat)(x:Str)(p:Pos):cE T sc N (n+1) (.Name x p)=if bf sc x&&aX x then pv? x N .var else if bz sc x then (match T.cst.lookup x with | some d=>.cst d | none=>.bad) else .bad:=rfl
theorem rV (sc:Scope)(N:ar)(n:Nat)(a:Expr)(os:List CmpOp)(bs:au)(p:Pos):cE T sc N (n+1) (.Compare a os bs p)=match os,bs with
  | [o],[b]=>match o with
   | .Is=>if isNone b then .op .isN [cE T sc N n a] else .bad
   | .IsNot=>if isNone b then .op .notN [cE T sc N n a] else .bad
   | o=>match gv o with
    | some o=>if cK b then .op o [cE T sc N n a,cE T sc N n b] else .bad
    | none=>.bad
  | [o,p],[b,c]=>match iI o,iI p with
   | some o,some p=>.chain o p (cE T sc N n a) (cE T sc N n b) (cE T sc N n c)
   | _,_=>.bad
  | _,_=>.bad:=rfl
theorem Eh (sc:Scope)(N:ar)(n:Nat)(c a b:Expr)(p:Pos):cE T sc N (n+1) (.IfExp c a b p)=.ite (cT T sc N n c) (cE T sc N n a) (cE T sc N n b):=rfl
theorem GE (sc:Scope)(N:ar)(n:Nat)(es:au)(p:Pos):cE T sc N (n+1) (.List es p)=if es.length<=1000 then .op .lst (es.map (cE T sc N n)) else .bad:=rfl
theorem yN (sc:Scope)(N:ar)(n:Nat)(es:au)(k:Nat)(p:Pos):cE T sc N (n+1) (.Tuple es k p)=if es.length<=1000 then .op .tup (es.map (cE T sc N n)) else .bad:=rfl
theorem lg (sc:Scope)(N:ar)(n:Nat)(a i:Expr)(p:Pos):cE T sc N (n+1) (.Subscript a i p)=match i with
  | .Slice lo hi st _=>match lo,hi,st with
   | some l,none,none=>.op .slL [cE T sc N n a,cE T sc N n l]
   | none,some l,none=>.op .slH [cE T sc N n a,cE T sc N n l]
   | some l,some h,none=>.sl2 (cE T sc N n a) (cE T sc N n l) (cE T sc N n h)
   | none,none,some s=>if ik s then .op .rev [cE T sc N n a] else .bad
   | _,_,_=>.bad
  | i=>.op .ix [cE T sc N n a,cE T sc N n i]:=rfl
theorem Dc (sc:Scope)(N:ar)(n:Nat)(o:Expr)(f:Str)(p:Pos):cE T sc N (n+1) (.Attribute o f p)=match pos? f T.att with
  | some k=>if T.fl.contains k&&fQ o then .op (.fld k) [cE T sc N n o] else .bad
  | none=>.bad:=rfl
theorem ve (sc:Scope)(N:ar)(n:Nat)(e:Expr)(gs:List Comprehension)(scope:Scope)(p:Pos):cE T sc N (n+1) (.ListComp e gs scope p)=match gs with
  | [⟨tg,iter,ifs,as⟩]=>
   if c6 sc N (bc scope) (bm N scope) scope&&as == 0&&decide (ifs.length<=1) then
    match cM scope (bc scope) tg with
    | some g=>if dX (cI T sc N n iter).1 g&&(cZ g).all (λi=>(bm N scope)[i]? == some none) then
      .comp (bm N scope) g (cI T sc N n iter).1 (cI T sc N n iter).2 (ifs.map (cT T scope (bc scope) n)) (cE T scope (bc scope) n e)
     else .bad
    | none=>.bad
   else .bad
  | _=>.bad:=rfl
theorem vH (sc:Scope)(N:ar)(n:Nat)(f:Expr)(args:au)(kws:List Keyword)(cp:Pos):cE T sc N (n+1) (.Call f args kws cp)=match kws with
  | []=>match f with
   | .Name f _=>if bz sc f then
     match T.fns.lookup f with
     | some k=>if aO args then .call k (args.map (cE T sc N n)) else .bad
     | none=>match T.cls.lookup f with
      | some c=>if aO args then .make c (args.map (cE T sc N n)) else .bad
      | none=>cB T sc N n f args
    else .bad
   | .Attribute o m ap=>match pos? m T.att with
     | some k=>if fQ o&&aO args&&decide (args.length<30)&&ap.endLine == cp.line then .meth k (cE T sc N n o) (args.map (cE T sc N n)) else .bad
     | none=>if d6 m args&&fQ o&&aO args&&ap.endLine == cp.line then .op .index ((o::args).map (cE T sc N n)) else .bad
   | _=>.bad
  | _=>.bad:=rfl
theorem xb (sc:Scope)(N:ar)(n:Nat)(f:Str)(args:au):cB T sc N (n+1) f args=match args with
  | [a]=>match nX sc f a with
   | some (o,b)=>.op o [cE T sc N n b]
   | none=>match m9.lookup f with
    | some o=>.op o [cE T sc N n a]
    | none=>.bad
  | [a,b]=>if f == ("isinstance" : Str) then (match d7 T sc b with
    | some ts=>.op (.isi ts) [cE T sc N n a]
    | none=>.bad)
   else if f == ("max" : Str)&&aO [a,b] then .op .max2 [cE T sc N n a,cE T sc N n b]
   else .bad
  | _=>.bad:=rfl
theorem yL (sc:Scope)(N:ar)(n:Nat)(e:Expr):cI T sc N (n+1) e=match e with
  | .Call (.Name f p) args [] q=>
   if bz sc f&&f == ("range" : Str)&&aO args then match args with
    | [a]=>(.rng1,[cE T sc N n a])
    | [a,b]=>(.rng2,[cE T sc N n a,cE T sc N n b])
    | _=>(.seq,[.bad])
   else if bz sc f&&f == ("enumerate" : Str)&&aO args then match args with
    | [a]=>(.enum,[cE T sc N n a])
    | _=>(.seq,[.bad])
   else if bz sc f&&f == ("zip" : Str)&&aO args then match args with
    | [a,b]=>(.zip,[cE T sc N n a,cE T sc N n b])
    | _=>(.seq,[.bad])
   else if bz sc f&&f == ("reversed" : Str)&&aO args then match args with
    | [a]=>(.rev,[cE T sc N n a])
    | _=>(.seq,[.bad])
   else (.seq,[cE T sc N n (.Call (.Name f p) args [] q)])
  | e=>(.seq,[cE T sc N n e]):=rfl
noncomputable def ps? (x:Str)(N:ar)(f:Nat->S):S:=match pos? x N with
 | some i=>f i
 | none=>.bad
noncomputable def fS:Expr->Bool
 | .Call _ _ _ _=>true
 | .Name _ _=>true
 | _=>false
noncomputable def nB:Expr->Option (Expr×Expr×Pos)
 | .Subscript a i p=>some (a,i,p)
 | _=>none
def EF (h:nB e=some x):e=.Subscript x.1 x.2.1 x.2.2:=by
 cases e <;> first | exact (bX h).elim | (cases h; rfl)
noncomputable def jF (e:Expr):Option (Str×Str):=(nB e).bind λt=>(cg t.1).bind λx=>(cg t.2.1).map λj=>(x,j)
def FB (h:jF e=some (x,j)):∃p1 p2 p3,e=.Subscript (.Name x p1) (.Name j p2) p3:=by
 obtain⟨t,n1,r1⟩:=dR h;obtain⟨x',n2,r2⟩:=dR r1;obtain⟨j',n3,r3⟩:=cA r2;cases r3;obtain⟨p1,e1⟩:=iY n2;obtain⟨p2,e2⟩:=iY n3;exact⟨p1,p2,t.2.2,by rw[EF n1,e1,e2]⟩
noncomputable def km (e:Expr):Option (Str×Str):=(gF e).bind λt=>(cg t.1).map λx=>(x,t.2.1)
def E8 (h:km e=some (x,f)):∃p1 p2,e=.Attribute (.Name x p1) f p2:=by
 obtain⟨t,n1,r1⟩:=dR h;obtain⟨x',n2,r2⟩:=cA r1;cases r2;obtain⟨p1,e1⟩:=iY n2;exact⟨p1,t.2.2,by rw[yp n1,e1]⟩
noncomputable def mx:Expr->Bool
 | .ListComp _ _ _ _=>true
 | _=>false
noncomputable def jN (e:Expr):Option (Str×Str×Pos×List Expr×Pos):=(gL e).bind λc=>(gF c.1).bind λt=>(cg t.1).bind λx=>if c.2.2.1.isEmpty=true then some (x,t.2.1,t.2.2,c.2.1,c.2.2.2) else none
def AR (h:jN e=some (x,f,mp,a,cp)):∃p1,e=.Call (.Attribute (.Name x p1) f mp) a [] cp:=by
 obtain⟨t,n1,r1⟩:=dR h;obtain⟨u,n2,r2⟩:=dR r1;obtain⟨x',n3,r3⟩:=dR r2;by_cases c:t.2.2.1.isEmpty=true
 rotate_left
 .rw[if_neg c] at r3; exact (bX r3).elim
 rw[if_pos c] at r3;cases r3;obtain⟨p1,e1⟩:=iY n3;exact⟨p1,by rw[v7 n1,yp n2,e1,KH.mp c]⟩
noncomputable def ig:Expr->Option au
 | .Tuple es _ _=>some es
 | _=>none
def va (h:ig e=some es):∃k p,e=.Tuple es k p:=by
 cases e <;> first | exact (bX h).elim | (cases h; exact⟨_,_,rfl⟩)
noncomputable def jJ (sc:Scope)(N:ar)(n:Nat)(ts:au)(e:Expr):S:=match ts with
 | []=>.bad
 | t::r=>if r.isEmpty=true then (match cg t with
  | some x=>if bH sc x then ps? x N λi=>.set i (cE T sc N n e) else .bad
  | none=>match jF t with
   | some (x,j)=>if bf sc x&&aX x&&bf sc j&&aX j then ps? x N λk=>ps? j N λi=>.put k [] (.var i) (cE T sc N n e) else .bad
   | none=>match km t with
    | some (x,f)=>if bf sc x&&aX x then ps? x N λk=>ps? f T.att λj=>if T.fl.contains j then .sfld k j (cE T sc N n e) else .bad else .bad
    | none=>match ig t with
     | some _=>if fS e then (match cM sc N t with
      | some (.many is)=>.setT is (cE T sc N n e)
      | _=>.bad) else .bad
     | none=>.bad) else .bad
noncomputable def nQ (sc:Scope)(N:ar)(n:Nat)(x:Str)(mp cp:Pos)(args:au):S:=match args with
 | [a]=>if aO [a]&&mp.endLine == cp.line then ps? x N λi=>.mut i [] .append [cE T sc N n a] else .bad
 | _=>.bad
noncomputable def mQ (sc:Scope)(N:ar)(n:Nat)(x:Str)(mp cp:Pos)(args:au):S:=match args with
 | [a]=>if aO [a]&&mp.endLine == cp.line then ps? x N λi=>.mut i [] .extend [cE T sc N n a] else .bad
 | _=>.bad
noncomputable def l8 (sc:Scope)(N:ar)(n:Nat)(x:Str)(mp cp:Pos)(args:au):S:=match args with
 | [a]=>if aO [a]&&mp.endLine == cp.line then ps? x N λi=>.mut i [] .remove [cE T sc N n a] else .bad
 | _=>.bad
noncomputable def jC (sc:Scope)(N:ar)(n:Nat)(e:Expr):S:=match jN e with
 | some (x,m,mp,args,cp)=>
  if bf sc x&&aX x&&m == ("append" : Str) then nQ T sc N n x mp cp args
  else if bf sc x&&aX x&&m == ("extend" : Str) then mQ T sc N n x mp cp args
  else if bf sc x&&aX x&&m == ("remove" : Str) then l8 T sc N n x mp cp args
  else .ex (cE T sc N n e)
 | none=>if mx e then .bad else .ex (cE T sc N n e)
noncomputable def kE:Expr->Option Str
 | .Constant c _ _=>(match c with | .str s=>some s | _=>none)
 | _=>none
def Es (h:kE e=some s):∃k p,e=.Constant (.str s) k p:=by
 cases e <;> first | exact (bX h).elim | skip
 rename_i c k p;cases c <;> first | exact (bX h).elim | (cases h; exact⟨_,_,rfl⟩)
noncomputable def oW (sc:Scope)(e:Expr):Option (Str×Str):=(ig e).bind λes=>if es.length=2 then (es.head?.bind kE).bind λs=>(es.getLast?.bind cg).bind λx=>if (bf sc x&&aX x)=true then some (s,x) else none else none
def CZ (h:oW sc e=some (s,x)):∃k1 p1 p2 k3 p3,e=.Tuple [.Constant (.str s) k1 p1,.Name x p2] k3 p3/\bf sc x=true/\aX x=true:=by
 unfold oW at h;obtain⟨es,n1,r1⟩:=dR h;obtain⟨k3,p3,e1⟩:=va n1;by_cases c1:es.length=2
 rotate_left
 .rw[if_neg c1] at r1; exact (bX r1).elim
 rw[if_pos c1] at r1;obtain⟨a,b,rfl⟩:∃a b,es=[a,b]:=by
  match es,c1 with
  | [a,b],_=>exact⟨a,b,rfl⟩
 obtain⟨s',n2,r2⟩:=dR r1;obtain⟨x',n3,r3⟩:=dR r2;by_cases c2:(bf sc x'&&aX x')=true
 rotate_left
 .rw[if_neg c2] at r3; exact (bX r3).elim
 rw[if_pos c2] at r3;cases r3;obtain⟨k1,p1,e2⟩:=Es (show kE a=some s from n2);obtain⟨p2,e3⟩:=iY (show cg b=some x from n3);rw[HF] at c2;exact⟨k1,p1,p2,k3,p3,by rw[e1,e2,e3],c2.1,c2.2⟩
noncomputable def ou:Ex->Bool
 | .var _=>true
 | _=>false
noncomputable def kh (sc:Scope)(N:ar)(n:Nat)(o:Option Expr):S:=match o with
 | none=>.ret (.cst .non)
 | some e=>match cg e with
  | some x=>if bf sc x&&aX x then ps? x N λi=>.ret (.var i) else .bad
  | none=>match oW sc e with
   | some (s,x)=>ps? x N λi=>.retP s i
   | none=>if ou (cE T sc N n e) then .bad else .ret (cE T sc N n e)
noncomputable def ky (sc:Scope)(N:ar)(n:Nat)(tg it:Expr)(b els:aG)(cb:ay):S:=match els with
 | _::_=>.bad
 | []=>match cM sc N tg with
   | some g=>if dX (cI T sc N n it).1 g then .fo g (cI T sc N n it).1 (cI T sc N n it).2 cb else .bad
   | none=>.bad
noncomputable def cS (sc:Scope)(N:ar):Nat->Stmt->S
 | 0,_=>.bad
 | n+1,.Assign ts e _=>jJ T sc N n ts e
 | n+1,.Expr e _=>jC T sc N n e
 | n+1,.Return o _=>kh T sc N n o
 | n+1,.If c a b _=>.iff (cT T sc N n c) (a.map (cS sc N n)) (b.map (cS sc N n))
 | n+1,.For tg it b els _=>ky T sc N n tg it b els (b.map (cS sc N n))
 | n+1,.While c b els _=>if els.isEmpty=true then .whl (cT T sc N n c) (b.map (cS sc N n)) else .bad
 | _,_=>.bad
theorem Dl (sc:Scope)(N:ar)(n:Nat)(ts:au)(e:Expr)(p:Pos):cS T sc N (n+1) (.Assign ts e p)=jJ T sc N n ts e:=rfl
theorem DR (sc:Scope)(N:ar)(n:Nat)(e:Expr)(p:Pos):cS T sc N (n+1) (.Expr e p)=jC T sc N n e:=rfl
theorem Ge (sc:Scope)(N:ar)(n:Nat)(o:Option Expr)(p:Pos):cS T sc N (n+1) (.Return o p)=kh T sc N n o:=rfl
theorem yY (sc:Scope)(N:ar)(n:Nat)(c:Expr)(b els:aG)(p:Pos):cS T sc N (n+1) (.While c b els p)=if els.isEmpty=true then .whl (cT T sc N n c) (b.map (cS T sc N n)) else .bad:=rfl
theorem yV (sc:Scope)(N:ar)(n:Nat)(tg it:Expr)(b els:aG)(p:Pos):cS T sc N (n+1) (.For tg it b els p)=ky T sc N n tg it b els (b.map (cS T sc N n)):=rfl
noncomputable def uh:Expr->Option D
 | .Constant .none _ _=>some .non
 | .Constant (.bool b) _ _=>some (.bl b)
 | .Constant (.int i) _ _=>some (.int i)
 | .Constant (.str s) _ _=>some (.str s)
 | _=>none
noncomputable def gc (a:Arguments)(sc:Scope):ar:=
 let ps:=a.args.map (·.arg)
 ps++((sc.names.filter λy=>(y.2 == .local||y.2 == .cell)&&!ps.contains y.1).map (·.1))
noncomputable def cF (io:ak):Stmt->Option Fn
 | .FunctionDef _ a body [] _ _ sc _ _ _=>(a.defaults.mapM uh).map λds=>⟨a.args.length,io,(gc a sc).length,ds,body.map (cS T sc (gc a sc) 60)⟩
 | _=>none
end
end Ip
end
section
namespace L2
open PySem PySem.Spec PyProof.Rows
open Ip (D KD Ex Op Pg Fn Sl Fr Wk Tg Tb)
structure Wd where
 K:bn
 iA:Nat->aE
 att:ar
def Sub (S H:Hp):Prop:=∀a o,S a=some o->H a=some o
def Sub.refl (H:Hp):Sub H H:=λ_ _ h=>h
def Sub.trans {A B C:Hp}(h:Sub A B)(k:Sub B C):Sub A C:=λa o e=>k a o (h a o e)
theorem Sub.upd {H:Hp}{a:Addr}{o:HO}(h:H a=none):Sub H (upd H a o):=λb u e=>by
 rw[ca (λz=>by rw[z,h] at e; cases e)]; exact e
theorem Sub.none {A B:Hp}(h:Sub A B){a:Addr}(e:B a=none):A a=none:=by
 cases q:A a with
 | none=>rfl
 | some o=>rw[h a o q] at e; cases e
open Classical in
noncomputable def hid (N:Addr->Prop)(H:Hp):Hp:=λa=>if N a then none else H a
def bh {N:Addr->Prop}{H:Hp}{a:Addr}{o:HO}:hid N H a=some o↔¬N a/\H a=some o:=by
 unfold hid;by_cases h:N a
 .simp[h]
 .simp[h]
def bF {N:Addr->Prop}{H:Hp}:Sub (hid N H) H:=λ_ _ e=>(bh.mp e).2
def gp {N N':Addr->Prop}{H H':Hp}(h:Sub H H')(n:∀a,N' a->N a\/H a=none):Sub (hid N H) (hid N' H'):=λa o e=>by
 obtain⟨h1,h2⟩:=bh.mp e;refine bh.mpr ⟨λz=>?_,h a o h2⟩;rcases n a z with q | q
 .exact h1 q
 .rw[h2] at q; cases q
theorem Rd.sub {S H:Hp}{a:Addr}{u:HO}(h:Sub S H):Rd S a u->Rd H a u
 | .inl e=>.inl (h _ _ e)
 | .inr ⟨o,e⟩=>.inr ⟨o,h _ _ e⟩
theorem SqL.sub {K:bn}{S H:Hp}{a:Addr}{xs:av}(h:Sub S H):SqL K S a xs->SqL K H a xs:=by
 intro hZ;cases hZ with
 | inl e=>exact .inl (Rd.sub h e)
 | inr e=>exact .inr e
theorem SqT.sub {K:bn}{S H:Hp}{a:Addr}{xs:av}(h:Sub S H):SqT K S a xs->SqT K H a xs:=by
 intro hZ;cases hZ with
 | inl e=>exact .inl (Rd.sub h e)
 | inr e=>exact .inr e
mutual
inductive Den (W:Wd) (S:Hp):V->D->Prop
 | non:Den W S .non .non
 | bl {b:Bool}:Den W S (.bl b) (.bl b)
 | int {i:Int}:Den W S (.int i) (.int i)
 | str {s:Str}:Den W S (.str s) (.str s)
 | lst {a:Addr} {vs:av} {ds:ax} (h:Rd S a (.lst vs)) (q:Dens W S vs ds):Den W S (.ref a) (.lst ds)
 | tup {a:Addr} {vs:av} {ds:ax} (h:SqT W.K S a vs) (q:Dens W S vs ds):Den W S (.ref a) (.tup ds)
 | ins {a C dx:Addr} {c:Nat} {fs:List (Str×V)} {ds:aJ} (h:S a=some (.ins C dx fs)) (hc:W.iA c=some C) (q:DenF W S fs ds):Den W S (.ref a) (.ins c ds)
inductive Dens (W:Wd) (S:Hp):av->ax->Prop
 | nil:Dens W S [] []
 | cons {v:V} {d:D} {vs:av} {ds:ax} (h:Den W S v d) (q:Dens W S vs ds):Dens W S (v::vs) (d::ds)
inductive DenF (W:Wd) (S:Hp):List (Str×V)->aJ->Prop
 | nil:DenF W S [] []
 | cons {n:Str} {f:Nat} {v:V} {d:D} {vs:List (Str×V)} {ds:aJ} (hf:W.att[f]? = some n) (h:Den W S v d) (q:DenF W S vs ds):DenF W S ((n,v)::vs) ((f,d)::ds)
end
mutual
theorem Den.mono {W:Wd}{S H:Hp}(h:Sub S H):∀{v d},Den W S v d->Den W H v d:=by
 intro _ _ hZ;cases hZ with
 | non=>exact .non
 | bl=>exact .bl
 | int=>exact .int
 | str=>exact .str
 | lst e q=>exact .lst (Rd.sub h e) (q.mono h)
 | tup e q=>exact .tup (SqT.sub h e) (q.mono h)
 | ins e hc q=>exact .ins (h _ _ e) hc (q.mono h)
theorem Dens.mono {W:Wd}{S H:Hp}(h:Sub S H):∀{v d},Dens W S v d->Dens W H v d:=by
 intro _ _ hZ;cases hZ with
 | nil=>exact .nil
 | cons e q=>exact .cons (e.mono h) (q.mono h)
theorem DenF.mono {W:Wd}{S H:Hp}(h:Sub S H):∀{v d},DenF W S v d->DenF W H v d:=by
 intro _ _ hZ;cases hZ with
 | nil=>exact .nil
 | cons f e q=>exact .cons f (e.mono h) (q.mono h)
end
theorem Dens.length {W:Wd}{S:Hp}:∀{vs ds},Dens W S vs ds->vs.length=ds.length:=by
 intro _ _ hZ;cases hZ with
 | nil=>exact rfl
 | cons _ q=>rw[List.length_cons,List.length_cons,q.length]
theorem Dens.get {W:Wd}{S:Hp}:∀{vs ds} {i:Nat} {d:D},Dens W S vs ds->ds[i]? = some d->∃v,vs[i]? = some v/\Den W S v d
 | _,_,_,_,.nil,e=>by simp at e
 | _,_,0,_,.cons h _,e=>by simp at e; subst e; exact⟨_,rfl,h⟩
 | _,_,i+1,_,.cons _ q,e=>by simpa using q.get (i:=i) (by simpa using e)
theorem Dens.append {W:Wd}{S:Hp}:∀{vs ws ds es},Dens W S vs ds->Dens W S ws es->Dens W S (vs++ws) (ds++es):=by
 intro _ _ _ _ hZ;cases hZ with
 | nil=>exact λq=>q
 | cons h t=>exact λq=>.cons h (t.append q)
theorem Dens.take {W:Wd}{S:Hp}:∀{vs ds} (n:Nat),Dens W S vs ds->Dens W S (vs.take n) (ds.take n)
 | _,_,0,_=>.nil
 | _,_,_+1,.nil=>.nil
 | _,_,n+1,.cons h t=>.cons h (t.take n)
theorem Dens.drop {W:Wd}{S:Hp}:∀{vs ds} (n:Nat),Dens W S vs ds->Dens W S (vs.drop n) (ds.drop n)
 | _,_,0,h=>h
 | _,_,_+1,.nil=>.nil
 | _,_,n+1,.cons _ t=>t.drop n
theorem Dens.set {W:Wd}{S:Hp}{v:V}{d:D}(r:Den W S v d):∀{vs ds} (i:Nat),Dens W S vs ds->Dens W S (vs.set i v) (ds.set i d)
 | _,_,_,.nil=>.nil
 | _,_,0,.cons _ t=>.cons r t
 | _,_,i+1,.cons q t=>.cons q (t.set r i)
theorem DenF.length {W:Wd}{S:Hp}:∀{vs ds},DenF W S vs ds->vs.length=ds.length:=by
 intro _ _ hZ;cases hZ with
 | nil=>exact rfl
 | cons _ _ q=>rw[List.length_cons,List.length_cons,q.length]
def se {l:ar}(nd:l.Nodup){i j:Nat}{x:Str}(h:l[i]? = some x)(k:l[j]? = some x):i=j:=uw nd h k
theorem DenF.lookup {W:Wd}{S:Hp}(nd:W.att.Nodup){f:Nat}{n:Str}(hn:W.att[f]? = some n):∀{vs ds},DenF W S vs ds->(∀d,ds.lookup f=some d->∃v,vs.lookup n=some v/\Den W S v d)/\(ds.lookup f=none->vs.lookup n=none)
 | _,_,.nil=>⟨(λ_ e=>nomatch e),λ_=>rfl⟩
 | _,_,.cons (n:=m) (f:=g) hg h q=>by
  obtain⟨i1,i2⟩:=q.lookup nd hn;by_cases e:g=f
  .subst e;have:m=n:=by rw[hn] at hg; exact (cQ hg).symm
   subst this;simp only[List.lookup_cons,beq_self_eq_true];exact⟨λd z=>⟨_,rfl,by cases cQ z; exact h⟩,λz=>nomatch z⟩
  .have nm:n≠m:=λz=>e (se nd hg (by rw[<-z]; exact hn));have b1:(f == g)=false:=by simpa using λz=>e (Eq.symm z)
   have b2:(n == m)=false:=by simpa using nm
   simp only[List.lookup_cons,b1,b2];exact⟨i1,i2⟩
theorem DenF.put {W:Wd}{S:Hp}(nd:W.att.Nodup){f:Nat}{n:Str}{v:V}{d:D}(hn:W.att[f]? = some n)(r:Den W S v d):∀{vs ds},DenF W S vs ds->DenF W S (putF n v vs) (Ip.putF f d ds)
 | _,_,.nil=>.cons hn r .nil
 | _,_,.cons (n:=m) (f:=g) hg h q=>by
  unfold putF Ip.putF;by_cases e:g=f
  .subst e;have:m=n:=by rw[hn] at hg; exact (cQ hg).symm
   subst this;rw[if_pos rfl,if_pos rfl];exact .cons hg r q
  .have nm:m≠n:=λz=>e (se nd hg (by rw[z]; exact hn));rw[if_neg e,if_neg nm];exact .cons hg h (q.put nd hn r)
inductive OwnL (P:V->D->ao->Prop):av->ax->ao->Prop
 | nil:OwnL P [] [] []
 | cons {v:V} {d:D} {f:ao} {vs:av} {ds:ax} {g:ao} (h:P v d f) (q:OwnL P vs ds g):OwnL P (v::vs) (d::ds) (f++g)
inductive OwnF (att:ar) (P:V->D->ao->Prop):List (Str×V)->aJ->ao->Prop
 | nil:OwnF att P [] [] []
 | cons {n:Str} {i:Nat} {v:V} {d:D} {f:ao} {vs:List (Str×V)} {ds:aJ} {g:ao} (hf:att[i]? = some n) (h:P v d f) (q:OwnF att P vs ds g):OwnF att P ((n,v)::vs) ((i,d)::ds) (f++g)
theorem OwnL.imp {P Q:V->D->ao->Prop}:∀{vs ds fp},OwnL P vs ds fp->(∀v d f,(∀a∈f,a∈fp)->P v d f->Q v d f)->OwnL Q vs ds fp:=by
 intro _ _ _ hZ;cases hZ with
 | nil=>exact λ_=>.nil
 | cons h q=>exact λk=>.cons (k _ _ _ (λ_ z=>eY _ z) h) (q.imp λv d f z=>k v d f λa y=>cH _ (z a y))
theorem OwnF.imp {att:ar}{P Q:V->D->ao->Prop}:∀{vs ds fp},OwnF att P vs ds fp->(∀v d f,(∀a∈f,a∈fp)->P v d f->Q v d f)->OwnF att Q vs ds fp:=by
 intro _ _ _ hZ;cases hZ with
 | nil=>exact λ_=>.nil
 | cons hf h q=>exact λk=>.cons hf (k _ _ _ (λ_ z=>eY _ z) h) (q.imp λv d f z=>k v d f λa y=>cH _ (z a y))
theorem OwnL.dens {W:Wd}{T:Hp}{P:V->D->ao->Prop}:∀{vs ds fp},OwnL P vs ds fp->(∀v d f,(∀a∈f,a∈fp)->P v d f->Den W T v d)->Dens W T vs ds:=by
 intro _ _ _ hZ;cases hZ with
 | nil=>exact λ_=>.nil
 | cons h q=>exact λk=>.cons (k _ _ _ (λ_ z=>eY _ z) h) (q.dens λv d f z=>k v d f λa y=>cH _ (z a y))
theorem OwnF.dens {W:Wd}{T:Hp}{P:V->D->ao->Prop}:∀{vs ds fp},OwnF W.att P vs ds fp->(∀v d f,(∀a∈f,a∈fp)->P v d f->Den W T v d)->DenF W T vs ds:=by
 intro _ _ _ hZ;cases hZ with
 | nil=>exact λ_=>.nil
 | cons hf h q=>exact λk=>.cons hf (k _ _ _ (λ_ z=>eY _ z) h) (q.dens λv d f z=>k v d f λa y=>cH _ (z a y))
theorem OwnL.length {P:V->D->ao->Prop}:∀{vs ds fp},OwnL P vs ds fp->vs.length=ds.length:=by
 intro _ _ _ hZ;cases hZ with
 | nil=>exact rfl
 | cons _ q=>rw[List.length_cons,List.length_cons,q.length]
noncomputable def Own (W:Wd)(S H:Hp):Nat->V->D->ao->Prop
 | 0,v,d,fp=>fp=[]/\Den W S v d
 | k+1,v,.lst ds,fp=>∃a vs fq,v=.ref a/\H a=some (.lst vs)/\OwnL (Own W S H k) vs ds fq/\fp=a::fq
 | k+1,v,.tup ds,fp=>∃a vs,v=.ref a/\SqT W.K S a vs/\OwnL (Own W S H k) vs ds fp
 | k+1,v,.ins c ds,fp=>∃a C dx fs fq,v=.ref a/\H a=some (.ins C dx fs)/\W.iA c=some C/\OwnF W.att (Own W S H k) fs ds fq/\fp=a::fq
 | _+1,v,d,fp=>fp=[]/\Den W S v d
theorem Own.mono {W:Wd}{S S' H H':Hp}(hs:Sub S S'):∀{k v d fp},(∀a∈fp,∀o,H a=some o->H' a=some o)->Own W S H k v d fp->Own W S' H' k v d fp
 | 0,_,_,_,_,h=>⟨h.1,h.2.mono hs⟩
 | k+1,_,.lst ds,_,hf,⟨a,vs,fq,e1,e2,e3,e4⟩=>⟨a,vs,fq,e1,hf a (by rw[e4]; exact bN) _ e2,e3.imp λ_ _ _ z y=>Own.mono hs (λb hb=>hf b (by rw[e4]; exact bM _ (z b hb))) y,e4⟩
 | k+1,_,.tup ds,_,hf,⟨a,vs,e1,e2,e3⟩=>⟨a,vs,e1,SqT.sub hs e2,e3.imp λ_ _ _ z y=>Own.mono hs (λb hb=>hf b (z b hb)) y⟩
 | k+1,_,.ins c ds,_,hf,⟨a,C,dx,fs,fq,e1,e2,e5,e3,e4⟩=>⟨a,C,dx,fs,fq,e1,hf a (by rw[e4]; exact bN) _ e2,e5,e3.imp λ_ _ _ z y=>Own.mono hs (λb hb=>hf b (by rw[e4]; exact bM _ (z b hb))) y,e4⟩
 | _+1,_,.non,_,_,h=>⟨h.1,h.2.mono hs⟩
 | _+1,_,.bl _,_,_,h=>⟨h.1,h.2.mono hs⟩
 | _+1,_,.int _,_,_,h=>⟨h.1,h.2.mono hs⟩
 | _+1,_,.str _,_,_,h=>⟨h.1,h.2.mono hs⟩
theorem Own.den {W:Wd}{S H T:Hp}(hs:Sub S T):∀{k v d fp},(∀a∈fp,∀o,H a=some o->T a=some o)->Own W S H k v d fp->Den W T v d
 | 0,_,_,_,_,h=>h.2.mono hs
 | k+1,_,.lst ds,_,hf,⟨a,vs,fq,e1,e2,e3,e4⟩=>by
  subst e1;exact .lst (.inl (hf a (by rw[e4]; exact bN) _ e2)) (e3.dens λ_ _ _ z y=>Own.den hs (λb hb=>hf b (by rw[e4]; exact bM _ (z b hb))) y)
 | k+1,_,.tup ds,_,hf,⟨a,vs,e1,e2,e3⟩=>by
  subst e1;exact .tup (SqT.sub hs e2) (e3.dens λ_ _ _ z y=>Own.den hs (λb hb=>hf b (z b hb)) y)
 | k+1,_,.ins c ds,_,hf,⟨a,C,dx,fs,fq,e1,e2,e5,e3,e4⟩=>by
  subst e1;exact .ins (hf a (by rw[e4]; exact bN) _ e2) e5 (e3.dens λ_ _ _ z y=>Own.den hs (λb hb=>hf b (by rw[e4]; exact bM _ (z b hb))) y)
 | _+1,_,.non,_,_,h=>h.2.mono hs
 | _+1,_,.bl _,_,_,h=>h.2.mono hs
 | _+1,_,.int _,_,_,h=>h.2.mono hs
 | _+1,_,.str _,_,_,h=>h.2.mono hs
theorem OwnL.mem {P:V->D->ao->Prop}{R:Addr->Prop}(hP:∀v d f,P v d f->∀a∈f,R a):∀{vs ds fp},OwnL P vs ds fp->∀a∈fp,R a:=by
 intro _ _ _ hZ;cases hZ with
 | nil=>intro _ z; simp at z
 | cons h q=>exact λa z=>(cO z).elim (hP _ _ _ h a) (q.mem hP a)
theorem OwnF.mem {att:ar}{P:V->D->ao->Prop}{R:Addr->Prop}(hP:∀v d f,P v d f->∀a∈f,R a):∀{vs ds fp},OwnF att P vs ds fp->∀a∈fp,R a:=by
 intro _ _ _ hZ;cases hZ with
 | nil=>intro _ z; simp at z
 | cons _ h q=>exact λa z=>(cO z).elim (hP _ _ _ h a) (q.mem hP a)
theorem Own.dom {W:Wd}{S H:Hp}:∀{k v d fp},Own W S H k v d fp->∀a∈fp,H a≠none
 | 0,_,_,_,h,a,z=>by rw[h.1] at z; simp at z
 | k+1,_,.lst ds,_,⟨a,vs,fq,e1,e2,e3,e4⟩,b,z=>by
  rw[e4] at z;rcases bQ z with q | q
  .rw[q,e2]; simp
  .exact e3.mem (λ_ _ _ y=>Own.dom y) b q
 | k+1,_,.tup ds,_,⟨a,vs,e1,e2,e3⟩,b,z=>e3.mem (λ_ _ _ y=>Own.dom y) b z
 | k+1,_,.ins c ds,_,⟨a,C,dx,fs,fq,e1,e2,e5,e3,e4⟩,b,z=>by
  rw[e4] at z;rcases bQ z with q | q
  .rw[q,e2]; simp
  .exact e3.mem (λ_ _ _ y=>Own.dom y) b q
 | _+1,_,.non,_,h,a,z=>by rw[h.1] at z; simp at z
 | _+1,_,.bl _,_,h,a,z=>by rw[h.1] at z; simp at z
 | _+1,_,.int _,_,h,a,z=>by rw[h.1] at z; simp at z
 | _+1,_,.str _,_,h,a,z=>by rw[h.1] at z; simp at z
theorem OwnL.flat {W:Wd}{S:Hp}{P:V->D->ao->Prop}(hP:∀v d,d.flat=true->Den W S v d->P v d []):∀{vs ds},D.flats ds=true->Dens W S vs ds->OwnL P vs ds []:=by
 intro _ _ hf hZ;cases hZ with
 | nil=>exact .nil
 | cons h q=>
  rw[D.flats,HF] at hf;exact OwnL.cons (f:=[]) (g:=[]) (hP _ _ hf.1 h) (OwnL.flat hP hf.2 q)
theorem OwnL.flat_inv {W:Wd}{S:Hp}{P:V->D->ao->Prop}(hP:∀v d f,d.flat=true->P v d f->f=[]/\Den W S v d):∀{vs ds fp},D.flats ds=true->OwnL P vs ds fp->fp=[]/\Dens W S vs ds:=by
 intro _ _ _ hf hZ;cases hZ with
 | nil=>exact⟨rfl,.nil⟩
 | cons h q=>
  rw[D.flats,HF] at hf;obtain⟨e1,d1⟩:=hP _ _ _ hf.1 h;obtain⟨e2,d2⟩:=q.flat_inv hP hf.2;exact⟨by rw[e1,e2]; rfl,.cons d1 d2⟩
theorem Own.flat {W:Wd}{S H:Hp}:∀{k v d},d.flat=true->Den W S v d->Own W S H k v d []
 | 0,_,_,_,h=>⟨rfl,h⟩
 | k+1,_,.lst _,hf,_=>by simp[D.flat] at hf
 | k+1,_,.tup ds,hf,.tup e q=>⟨_,_,rfl,e,OwnL.flat (λ_ _=>Own.flat) (by rw[D.flat] at hf; exact hf) q⟩
 | k+1,_,.ins _ _,hf,_=>by simp[D.flat] at hf
 | _+1,_,.non,_,h=>⟨rfl,h⟩
 | _+1,_,.bl _,_,h=>⟨rfl,h⟩
 | _+1,_,.int _,_,h=>⟨rfl,h⟩
 | _+1,_,.str _,_,h=>⟨rfl,h⟩
theorem Own.flat_inv {W:Wd}{S H:Hp}:∀{k v d fp},d.flat=true->Own W S H k v d fp->fp=[]/\Den W S v d
 | 0,_,_,_,_,h=>h
 | k+1,_,.lst _,_,hf,_=>by simp[D.flat] at hf
 | k+1,_,.tup ds,_,hf,⟨a,vs,e1,e2,e3⟩=>by
  obtain⟨h1,h2⟩:=e3.flat_inv (λ_ _ _=>Own.flat_inv) (by rw[D.flat] at hf; exact hf);subst e1;exact⟨h1,.tup e2 h2⟩
 | k+1,_,.ins _ _,_,hf,_=>by simp[D.flat] at hf
 | _+1,_,.non,_,_,h=>h
 | _+1,_,.bl _,_,_,h=>h
 | _+1,_,.int _,_,_,h=>h
 | _+1,_,.str _,_,_,h=>h
theorem OwnL.re {P Q:V->D->ao->Prop}{b:D->Bool}(hP:∀v d f,b d=true->P v d f->Q v d f):∀{vs ds fp},ds.all b=true->OwnL P vs ds fp->OwnL Q vs ds fp:=by
 intro _ _ _ hf hZ;cases hZ with
 | nil=>exact .nil
 | cons h q=>
  rw[List.all_cons,HF] at hf;exact .cons (hP _ _ _ hf.1 h) (q.re hP hf.2)
def NOk (N:Addr->Prop)(H:Hp):Prop:=∀a,N a->H a≠none
def RelS (W:Wd)(S:Hp)(a:Sl)(σ:St):Prop:=∀(i:Nat) (d:D),a[i]? = some (some d)->∃v,σ[i]? = some (some v)/\Den W S v d
theorem RelS.mono {W:Wd}{S S':Hp}{a:Sl}{σ:St}(h:Sub S S')(r:RelS W S a σ):RelS W S' a σ:=λi d e=>by
 obtain⟨v,h1,h2⟩:=r i d e;exact⟨v,h1,h2.mono h⟩
def Res (W:Wd)(H:Hp)(N:Addr->Prop)(H':Hp)(x:KD)(v:V):Prop:=
 Sub H H'/\∃fp:ao,fp.Nodup/\(∀a∈fp,H a=none)/\Own W (hid (λa=>N a\/a∈fp) H') H' x.1 v x.2 fp
inductive OwnV (W:Wd) (S H:Hp):av->aw->ao->Prop
 | nil:OwnV W S H [] [] []
 | cons {v:V} {x:KD} {f:ao} {vs:av} {xs:aw} {g:ao} (h:Own W S H x.1 v x.2 f) (q:OwnV W S H vs xs g):OwnV W S H (v::vs) (x::xs) (f++g)
theorem OwnV.mono {W:Wd}{S S' H H':Hp}(hs:Sub S S'):∀{vs xs fp},(∀a∈fp,∀o,H a=some o->H' a=some o)->OwnV W S H vs xs fp->OwnV W S' H' vs xs fp:=by
 intro _ _ _ hf hZ;cases hZ with
 | nil=>exact .nil
 | cons h q=>exact .cons (h.mono hs λa z=>hf a (eY _ z)) (q.mono hs λa z=>hf a (cH _ z))
theorem OwnV.dens {W:Wd}{S H T:Hp}(hs:Sub S T):∀{vs xs fp},(∀a∈fp,∀o,H a=some o->T a=some o)->OwnV W S H vs xs fp->Dens W T vs (xs.map (·.2)):=by
 intro _ _ _ hf hZ;cases hZ with
 | nil=>exact .nil
 | cons h q=>exact .cons (h.den hs λa z=>hf a (eY _ z)) (q.dens hs λa z=>hf a (cH _ z))
theorem OwnV.dom {W:Wd}{S H:Hp}:∀{vs xs fp},OwnV W S H vs xs fp->∀a∈fp,H a≠none:=by
 intro _ _ _ hZ;cases hZ with
 | nil=>intro a z; simp at z
 | cons h q=>exact λa z=>(cO z).elim (h.dom a) (q.dom a)
theorem OwnV.length {W:Wd}{S H:Hp}:∀{vs xs fp},OwnV W S H vs xs fp->vs.length=xs.length:=by
 intro _ _ _ hZ;cases hZ with
 | nil=>exact rfl
 | cons _ q=>rw[List.length_cons,List.length_cons,q.length]
def ResL (W:Wd)(H:Hp)(N:Addr->Prop)(H':Hp)(xs:aw)(vs:av):Prop:=
 Sub H H'/\∃fp:ao,fp.Nodup/\(∀a∈fp,H a=none)/\OwnV W (hid (λa=>N a\/a∈fp) H') H' vs xs fp
theorem Res.den {W:Wd}{H H':Hp}{N:Addr->Prop}{x:KD}{v:V}(hN:NOk N H)(r:Res W H N H' x v):Den W (hid N H') v x.2:=by
 obtain⟨hs,fp,_,hf,o⟩:=r;refine o.den (λa u e=>?_) λa ha u e=>bh.mpr ⟨λz=>hN a z (hf a ha),e⟩;obtain⟨h1,h2⟩:=bh.mp e;exact bh.mpr ⟨λz=>h1 (.inl z),h2⟩
theorem ResL.dens {W:Wd}{H H':Hp}{N:Addr->Prop}{xs:aw}{vs:av}(hN:NOk N H)(r:ResL W H N H' xs vs):Dens W (hid N H') vs (xs.map (·.2)):=by
 obtain⟨hs,fp,_,hf,o⟩:=r;refine o.dens (λa u e=>?_) λa ha u e=>bh.mpr ⟨λz=>hN a z (hf a ha),e⟩;obtain⟨h1,h2⟩:=bh.mp e;exact bh.mpr ⟨λz=>h1 (.inl z),h2⟩
def Res.of_den {W:Wd}{H H':Hp}{N:Addr->Prop}{v:V}{d:D}(hs:Sub H H')(h:Den W (hid N H') v d):Res W H N H' (0,d) v:=
 ⟨hs,[],.nil,λa z=>by simp at z,rfl,h.mono λa o e=>bh.mpr ⟨λz=>(bh.mp e).1 (by simpa using z),(bh.mp e).2⟩⟩
def Res.of_flat {W:Wd}{H H':Hp}{N:Addr->Prop}{v:V}{k:Nat}{d:D}(hs:Sub H H')(hf:d.flat=true)(h:Den W (hid N H') v d):Res W H N H' (k,d) v:=
 ⟨hs,[],.nil,λa z=>by simp at z,Own.flat hf (h.mono λa o e=>bh.mpr ⟨λz=>(bh.mp e).1 (by simpa using z),(bh.mp e).2⟩)⟩
def NOk.mono {N:Addr->Prop}{H H':Hp}(h:NOk N H)(hs:Sub H H'):NOk N H':=λa z q=>h a z (hs.none q)
section
variable (W:Wd)(G:Pg)(cl:Nat->aw->Ip.Run)
def bi (ir:Ex)(E:St->XK):TE:=λσ H Q=>∃(N:Addr->Prop) (a:Sl),NOk N H/\RelS W (hid N H) a σ/\match Ip.eval G cl a ir with
 | .ok x=>∀v H',Res W H N H' x v->Q v H'
 | .bad=>False
def bW (irs:aF)(E:St->XK):TA:=λσ H Q=>∃(N:Addr->Prop) (a:Sl),NOk N H/\RelS W (hid N H) a σ/\match Ip.evals G cl a irs with
 | .ok xs=>∀vs H',ResL W H N H' xs vs->Q vs H'
 | .bad=>False
end
def PE.mono {X:Cx}{e:Expr}{t t':TE}(h:PE X e t)(k:∀σ H Q,t' σ H Q->t σ H Q):PE X e t':=λpins s σ H Q I q=>h pins s σ H Q I (k σ H Q q)
def PA.mono {X:Cx}{e:au}{t t':TA}(h:PA X e t)(k:∀σ H Q,t' σ H Q->t σ H Q):PA X e t':=λpos pins s σ H Q I q=>h pos pins s σ H Q I (k σ H Q q)
def PT.mono {X:Cx}{e:Expr}{t t':TT}(h:PT X e t)(k:∀σ H Q,t' σ H Q->t σ H Q):PT X e t':=λpins s σ H Q I q=>h pins s σ H Q I (k σ H Q q)
def PS.mono {X:Cx}{e:Stmt}{t t':TS}(h:PS X e t)(k:∀D σ H,t' D σ H->t D σ H):PS X e t':=λpins s σ H D I q=>h pins s σ H D I (k D σ H q)
def PSs.mono {X:Cx}{e:aG}{t t':TS}(h:PSs X e t)(k:∀D σ H,t' D σ H->t D σ H):PSs X e t':=λpins s σ H D I q=>h pins s σ H D I (k D σ H q)
def bK {X:Cx}{e:Expr}{W:Wd}{G:Pg}{cl:Nat->aw->Ip.Run}{E:St->XK}:PE X e (bi W G cl .bad E):=λ_ _ _ _ _ _ ⟨_,_,_,_,h⟩=>by
 rw[Ip.eval] at h; exact h.elim
section
variable {W:Wd}{G:Pg}{cl:Nat->aw->Ip.Run}{E:St->XK}{σ:St}{H:Hp}
def gr {ir:Ex}{Q:VK}{N:Addr->Prop}{a:Sl}(hN:NOk N H)(hS:RelS W (hid N H) a σ)
  (ok:∀x,Ip.eval G cl a ir=.ok x->∀v H1 fp,Sub H H1->fp.Nodup->(∀b∈fp,H b=none)->Own W (hid (λb=>N b\/b∈fp) H1) H1 x.1 v x.2 fp ->
   NOk (λb=>N b\/b∈fp) H1->RelS W (hid (λb=>N b\/b∈fp) H1) a σ->Q v H1)
  (nb:Ip.eval G cl a ir≠.bad):bi W G cl ir E σ H Q:=by
 refine⟨N,a,hN,hS,?_⟩;cases q:Ip.eval G cl a ir with
 | bad=>exact absurd q nb
 | ok x=>
  rintro v H1 ⟨hs,fp,nd,hf,o⟩;refine ok x q v H1 fp hs nd hf o (λb z=>?_) (hS.mono (gp hs λb z=>z.imp id λy=>hf b y));exact z.elim (λy=>(hN.mono hs) b y) (o.dom b)
end
end L2
end
section
namespace L2
open PySem PySem.Spec PyProof.Rows
open Ip (D KD Ex Op Pg Fn Sl Fr Wk Tg Tb R jz dH b9 cn dA bX bG bE bw)
def rD (W:Wd)(G:Pg)(o:Op)(vs:av)(H:Hp)(Q:VK):Prop:=∃(N:Addr->Prop) (xs:aw) (x:KD),NOk N H/\Dens W (hid N H) vs (xs.map (·.2))/\bw G o xs=some x/\∀v H',Res W H N H' x v->Q v H'
theorem Res.trans (hs:Sub H H2)(r:Res W H2 N H' x v):Res W H N H' x v:=by
 obtain⟨h1,fp,nd,hf,o⟩:=r;exact⟨hs.trans h1,fp,nd,λa z=>hs.none (hf a z),o⟩
def Own.later {W:Wd}{H H1 H2:Hp}{N M:Addr->Prop}{k:Nat}{v:V}{d:D}{fp:ao}(hN:NOk N H)(hs:Sub H1 H2)(hf:∀b∈fp,H b=none)(hM:∀b,N b->M b)(o:Own W (hid (λb=>M b\/b∈fp) H1) H1 k v d fp):Den W (hid N H2) v d:=by
 refine o.den (λa u e=>?_) λa ha u e=>bh.mpr ⟨λz=>hN a z (hf a ha),hs a u e⟩;obtain⟨h1,h2⟩:=bh.mp e;exact bh.mpr ⟨λz=>h1 (.inl (hM a z)),hs a u h2⟩
section
variable {W:Wd}{G:Pg}{cl:Nat->aw->Ip.Run}{E:St->XK}{σ:St}{H:Hp}{Q:VK}{o:Op}
def il (hr:∀x H Q,rD W G o [x] H Q->r x H Q)(h:bi W G cl (.op o [ia]) E σ H Q):tE r (bi W G cl ia E) σ H Q:=by
 obtain⟨N,a,hN,hS,h⟩:=h;unfold tE;refine gr hN hS (λx ex v H1 fp hs nd hf ow hN1 hS1=>?_) λee=>?_
 .simp only[dH,Ip.dI,b9,ex,R.bind] at h;cases q:bw G o [x] with
  | none=>simp only[q,R.of] at h
  | some z=>
   simp only[q,R.of] at h;exact hr _ _ _ ⟨N,[x],z,hN.mono hs,.cons (ow.later hN (Sub.refl _) hf λ_ y=>y) .nil,q,λw H' r=>h w H' (r.trans hs)⟩
 .simp only[dH,b9,ee,R.bind] at h
def gX (hr:∀x y H Q,rD W G o [x,y] H Q->r x y H Q)(h:bi W G cl (.op o [ia,ib]) E σ H Q):lL r (bi W G cl ia E) (bi W G cl ib E) σ H Q:=by
 obtain⟨N,a,hN,hS,h⟩:=h;unfold lL;refine gr hN hS (λx ex v H1 fp hs nd hf ow hN1 hS1=>?_) λee=>?_
 .refine gr hN1 hS1 (λy ey w H2 fq hs2 nd2 hf2 ow2 hN2 hS2=>?_) λee=>?_
  .simp only[dH,Ip.dI,b9,ex,ey,R.bind] at h;cases q:bw G o [x,y] with
   | none=>simp only[q,R.of] at h
   | some z=>
    simp only[q,R.of] at h;exact hr _ _ _ _ ⟨N,[x,y],z,hN.mono (hs.trans hs2),.cons (ow.later hN hs2 hf λ_ y=>y) (.cons (ow2.later (hN.mono hs) (Sub.refl _) hf2 λ_ y=>.inl y) .nil),q,λw H' r=>h w H' (r.trans (hs.trans hs2))⟩
  .simp only[dH,b9,ex,ee,R.bind] at h
 .simp only[dH,b9,ee,R.bind] at h
end
def Dens.one (h:Dens W S vs [d]):∃v,vs=[v]/\Den W S v d:=by
 cases h with
 | cons h r=>cases r; exact⟨_,rfl,h⟩
def Dens.two (h:Dens W S vs [d,e]):∃v w,vs=[v,w]/\Den W S v d/\Den W S w e:=by
 cases h with
 | cons h r=>
  obtain⟨w,e,h2⟩:=r.one;subst e;exact⟨_,_,rfl,h,h2⟩
def fD {W:Wd}{S:Hp}{x:V}{xs:aw}(h:Dens W S [x] (xs.map (·.2))):∃p,xs=[p]/\Den W S x p.2:=by
 cases xs with
 | nil=>cases h
 | cons p r=>
  cases h with
  | cons h1 h2=>
   cases r with
   | nil=>exact⟨p,rfl,h1⟩
   | cons _ _=>cases h2
def dE {W:Wd}{S:Hp}{x y:V}{xs:aw}(h:Dens W S [x,y] (xs.map (·.2))):∃p q,xs=[p,q]/\Den W S x p.2/\Den W S y q.2:=by
 cases xs with
 | nil=>cases h
 | cons p r=>
  cases h with
  | cons h1 h2=>
   obtain⟨q,rfl,h3⟩:=fD h2;exact⟨p,q,rfl,h1,h3⟩
def Den.int_inv (h:Den W S v (.int i)):v=.int i:=by cases h; rfl
def Den.bl_inv (h:Den W S v (.bl i)):v=.bl i:=by cases h; rfl
theorem Res.int:Res W H N H (k,.int i) (.int i):=Res.of_flat (Sub.refl _) rfl .int
theorem Res.bl:Res W H N H (k,.bl i) (.bl i):=Res.of_flat (Sub.refl _) rfl .bl
section
variable {X:Cx}{W:Wd}{G:Pg}
def OpR.imp (h:OpR X f r)(k:∀x y H Q,r' x y H Q->r x y H Q):OpR X f r':=λpins s σ H x y v u Q I rx ry q=>h pins s σ H x y v u Q I rx ry (k x y H Q q)
def ju (ho:∀xs,bw G o xs=bE (bG f) xs)(hf:∀i j x,f i j=some x->C i j/\∀(N:Addr->Prop) (H:Hp),Res W H N H x (g i j)) :
  ∀x y H Q,rD W G o [x,y] H Q->rI C g x y H Q:=by
 rintro x y H Q ⟨N,xs,z,hN,hd,hz,hq⟩;obtain⟨p,q,rfl,d1,d2⟩:=dE hd;rw[ho] at hz;obtain⟨k1,p⟩:=p;obtain⟨k2,q⟩:=q;simp only[bE] at hz;cases p <;> cases q <;> first | exact (bX hz).elim | simp only[bG] at hz
 cases d1;cases d2;obtain⟨hc,hr⟩:=hf _ _ _ hz;exact⟨_,_,rfl,rfl,hc,hq _ _ (hr N H)⟩
def FQ:OpR X (binaryOp .Sub) (λx y=>rD W G .sub [x,y]):=zO.imp λx y H Q h=>by
 obtain⟨i,j,e1,e2,_,q⟩:=ju (C:=λ_ _=>True) (g:=λi j=>.int (i - j)) (λ_=>rfl) (λi j x e=>by cases e; exact⟨trivial,λ_ _=>Res.int⟩) x y H Q h;exact⟨i,j,e1,e2,q⟩
def CI:OpR X (binaryOp .FloorDiv) (rI (λ_ j=>0<j/\j<1000000000000000000000000000000000000000000000000) λi j=>.int (i / j)):=pj λi j _ _ _ _ _ hc q=>by
 have h1:(0:Int)<j:=hc.1;have h2:j<1000000000000000000000000000000000000000000000000:=hc.2;exact floordiv_int (by omega) (by rw[Int.fdiv_eq_ediv_of_nonneg i (by omega)]; exact q) (.inl (PyProof.noPylong_of_log2 (fc ((Nat.log2_lt (by omega)).mpr (by omega:j.natAbs<2 ^ 160)) (by decide))))
def GG:OpR X (binaryOp .FloorDiv) (λx y=>rD W G .fdiv [x,y]):=CI.imp (ju (λ_=>rfl) λi j x e=>by
 by_cases h:0<j/\j<1000000000000000000000000000000000000000000000000
 .rw[if_pos h] at e; cases e; exact⟨h,λ_ _=>Res.int⟩
 .rw[if_neg h] at e; cases e)
def B9:OpR X (binaryOp .Mod) (λx y=>rD W G .mod [x,y]):=AU.imp (ju (λ_=>rfl) λi j x e=>by
 by_cases h:0<j
 .rw[if_pos h] at e; cases e; exact⟨h,λ_ _=>Res.int⟩
 .rw[if_neg h] at e; cases e)
def G8 (h:cn i=true):i.natAbs<2 ^ 64:=by
 rw[dA] at h;omega
def Ek:OpR X (binaryOp .Pow) (λx y=>rD W G .pow [x,y]):=Fk.imp (ju (λ_=>rfl) λi j x e=>by
 by_cases h:0<=j/\j<=1000000/\cn i=true
 .rw[if_pos h] at e; cases e; exact⟨⟨h.1,h.2.1,G8 h.2.2⟩,λ_ _=>Res.int⟩
 .rw[if_neg h] at e; cases e)
def rW:OpR X (compareOp .LtE) (λx y=>rD W G .le [x,y]):=CS.imp λx y H Q h=>by
 obtain⟨i,j,e1,e2,_,q⟩:=ju (C:=λ_ _=>True) (g:=λi j=>.bl (decide (i<=j))) (λ_=>rfl) (λi j x e=>by cases e; exact⟨trivial,λ_ _=>Res.bl⟩) x y H Q h;exact⟨i,j,e1,e2,q⟩
def qk:OpR X (compareOp .Gt) (λx y=>rD W G .gt [x,y]):=CH.imp λx y H Q h=>by
 obtain⟨i,j,e1,e2,_,q⟩:=ju (C:=λ_ _=>True) (g:=λi j=>.bl (decide (j<i))) (λ_=>rfl) (λi j x e=>by cases e; exact⟨trivial,λ_ _=>Res.bl⟩) x y H Q h;exact⟨i,j,e1,e2,q⟩
def ul:OpR X (compareOp .GtE) (λx y=>rD W G .ge [x,y]):=C5.imp λx y H Q h=>by
 obtain⟨i,j,e1,e2,_,q⟩:=ju (C:=λ_ _=>True) (g:=λi j=>.bl (decide (j<=i))) (λ_=>rfl) (λi j x e=>by cases e; exact⟨trivial,λ_ _=>Res.bl⟩) x y H Q h;exact⟨i,j,e1,e2,q⟩
def uk:OpR X (compareOp .Lt) (λx y=>rD W G .lt [x,y]):=DS.imp λx y H Q h=>by
 obtain⟨i,j,e1,e2,_,q⟩:=ju (C:=λ_ _=>True) (g:=λi j=>.bl (decide (i<j))) (λ_=>rfl) (λi j x e=>by cases e; exact⟨trivial,λ_ _=>Res.bl⟩) x y H Q h;exact⟨i,j,e1,e2,q⟩
theorem OwnL.zero:∀{vs ds},Dens W S vs ds->OwnL (Own W S T 0) vs ds []:=by
 intro _ _ hZ;cases hZ with
 | nil=>exact .nil
 | cons h q=>exact OwnL.cons (f:=[]) (g:=[]) ⟨rfl,h⟩ (OwnL.zero q)
def Aw (hp:H p=none):Sub (hid N H) (hid (λa=>N a\/a∈[p]) (upd H p o)):=
 gp (Sub.upd hp) λa z=>z.imp id λy=>by rw[HN.mp y]; exact hp
def Res.newL (hp:H p=none)(h:Dens W (hid N H) vs ds):Res W H N (upd H p (.lst vs)) (1,.lst ds) (.ref p):=
 ⟨Sub.upd hp,[p],by simp,λa z=>by rw[HN.mp z]; exact hp,p,vs,[],rfl,dc,OwnL.zero (h.mono (Aw hp)),rfl⟩
def Res.newT (hN:NOk N H)(hp:H p=none)(h:Dens W (hid N H) vs ds):Res W H N (upd H p (.tup vs)) (0,.tup ds) (.ref p):=
 Res.of_den (Sub.upd hp) (.tup (SqT.of (bh.mpr ⟨λz=>hN p z hp,dc⟩)) (h.mono (gp (Sub.upd hp) λa z=>.inl z)))
def Inv.rdL (I:Inv X pins σ H s)(h:Rd H l (.lst xs)):xs.length<=sizeLine/\∃(its:aq) (n:Nat),Vals xs its/\xs.length=its.length/\s.heap.get? l=some { cls:=.type "list",data:=.seq its.toArray n }:=by
 obtain⟨z,its,n,r,e⟩:=h.ok I.hok;exact⟨z,its,n,r,r.length,e⟩
def nn:R2:=λx y H Q=>∃l b xs zs,x=.ref l/\y=.ref b/\Rd H l (.lst xs)/\Rd H b (.lst zs)/\xs.length+zs.length<=sizeLine/\∀p,H p=none->Q (.ref p) (upd H p (.lst (xs++zs)))
def Gx:OpR X (binaryOp .Add) nn:=by
 intro pins s σ H x y v u Q I rx ry h;obtain⟨l,b,xs,zs,rfl,rfl,hH,hB,hz,q⟩:=h;cases rx;cases ry;obtain⟨z,its,n,r,hl,e⟩:=I.rdL hH;obtain⟨z2,its2,n2,r2,hl2,e2⟩:=I.rdL hB;refine PySem.P.add_list e e2 ?_ (by rw[HJ,HJ]; omega);have ea:its.toArray++its2.toArray=(its++its2).toArray:=by simp
 rw[ea];exact⟨.ref _,_,I.lnew (t':=s.toks) (r.append r2) (by rw[HP]; omega),rfl,q _ I.fresh⟩
def jM (h:n<=Ip.SL):n<=sizeLine:=bv h (by decide)
theorem Dens.rep (h:Dens W S vs ds):∀k,Dens W S (List.replicate k vs).flatten (List.replicate k ds).flatten
 | 0=>.nil
 | k+1=>by
  rw[List.replicate_succ,List.replicate_succ,List.flatten_cons,List.flatten_cons];exact h.append (h.rep k)
def Dz (hK:W.K=X.K):OpR X (binaryOp .Mult) (λx y=>rD W G .mul [x,y]):=by
 refine (Gn.or (Gk.or CM)).imp λx y H Q hZz=>?_;obtain⟨N,xs,z,hN,hd,hz,hq⟩:=hZz;obtain⟨⟨k1,p⟩,⟨k2,q⟩,rfl,d1,d2⟩:=dE hd;simp only[Ip.yR,bE] at hz;cases p <;> cases q <;> first | exact (bX hz).elim | simp only[Ip.dM] at hz
 .rename_i i j;cases d1;cases d2;by_cases h:(cn i||cn j)=true
  .rw[if_pos h] at hz;cases hz;refine .inl ⟨i,j,rfl,rfl,?_,hq _ _ Res.int⟩;simp only[IT,dA] at h;unfold CMul;omega
  .rw[if_neg h] at hz; cases hz
 .rename_i xs j;cases d2;split at hz
  .rename_i hl;cases hz;cases d1 with | @lst a vs _ e1 q1=>?_
   have hb:=dA.mp hl.2.1;refine .inr (.inl ⟨a,j,vs,rfl,rfl,Rd.sub bF e1,by omega,by omega,?_,λp hp=>hq _ _ (Res.newL hp (q1.rep _))⟩);rw[q1.length];exact bv hl.2.2 (by decide)
  .cases hz
 .rename_i xs j;cases d2;split at hz
  .rename_i hl;cases hz;cases d1 with | @tup a vs _ e1 q1=>?_
   have ln:=q1.length;refine .inr (.inr ⟨a,j,vs,rfl,rfl,by rw[<-hK]; exact SqT.sub bF e1,?_,hl.2.1,hl.2.2.1,?_,λe=>hq _ _ (Res.of_den (Sub.refl _) ?_),λ_ p hp=>hq _ _ (Res.newT hN hp (q1.rep _))⟩)
   .intro e;subst e;have:xs=[]:=Jh.mp ln.symm;subst this;exact absurd hl.1 (by decide)
   .rw[ln]; exact bv hl.2.2.2 (by decide)
   .subst e;have e2:(List.replicate (1:Int).toNat xs).flatten=xs:=by simp
    rw[e2];exact .tup e1 q1
  .cases hz
def Dg (hK:W.K=X.K):OpR X (binaryOp .Add) (λx y=>rD W G .add [x,y]):=by
 refine ((Dm.or Gx).or (GJ.or Ey)).imp λx y H Q hZz=>?_;obtain⟨N,xs,z,hN,hd,hz,hq⟩:=hZz;obtain⟨⟨k1,p⟩,⟨k2,q⟩,rfl,d1,d2⟩:=dE hd;simp only[Ip.Ce,bE] at hz;cases p <;> cases q <;> first | exact (bX hz).elim | simp only[Ip.addD] at hz
 .cases d1;cases d2;cases hz;exact .inl (.inl ⟨_,_,rfl,rfl,hq _ _ Res.int⟩)
 .rename_i xs ys;split at hz
  .rename_i hl;cases hz;cases d1 with | lst e1 q1=>?_
   cases d2 with | lst e2 q2=>?_
   refine .inl (.inr ⟨_,_,_,_,rfl,rfl,Rd.sub bF e1,Rd.sub bF e2,?_,λp hp=>hq _ _ (Res.newL hp (q1.append q2))⟩);rw[q1.length,q2.length];exact jM hl
  .cases hz
 .rename_i xs ys;split at hz
  .rename_i hl;cases hz;cases d1 with | @tup a vs _ e1 q1=>?_
   cases d2 with | @tup b ws _ e2 q2=>?_
   have s1:SqT X.K H a vs:=by rw[<-hK]; exact SqT.sub bF e1
   have s2:SqT X.K H b ws:=by rw[<-hK]; exact SqT.sub bF e2
   by_cases c1:vs=[]
   .subst c1;cases q1;exact .inr (.inl ⟨a,b,ws,rfl,rfl,s1,s2,hq _ _ (Res.of_den (Sub.refl _) (.tup e2 q2))⟩)
   .refine .inr (.inr ⟨a,b,vs,ws,rfl,rfl,s1,s2,c1,?_,λc2=>?_,λ_ p hp=>hq _ _ (Res.newT hN hp (q1.append q2))⟩)
    .rw[q1.length,q2.length];exact jM hl
    .subst c2;cases q2;rw[IS] at hq;exact hq _ _ (Res.of_den (Sub.refl _) (.tup e1 q1))
  .cases hz
end
mutual
noncomputable def bP:D->PyData
 | .non=>.none
 | .bl b=>.bool b
 | .int i=>.int i
 | .str s=>.str s
 | .lst xs=>.list (pyDs xs)
 | .tup xs=>.tuple (pyDs xs)
 | .ins _ _=>.none
noncomputable def pyDs:ax->List PyData
 | []=>[]
 | d::ds=>bP d::pyDs ds
end
mutual
theorem pN:∀x y:D,∀n m,x.pur n=true->y.pur m=true->PyData.eqv (bP x) (bP y)=x.eq y:=by
 intro hZ;cases hZ with
 | lst xs=>
  intro y n m hx hy;cases n with
  | zero=>cases hx
  | succ n=>
   cases y with
   | lst ys=>
    cases m with
    | zero=>cases hy
    | succ m=>rw[bP,bP,D.eq,PyData.eqv]; exact zHT xs ys n m hx hy
   | ins _ _=>cases m <;> cases hy
   | _=>simp[bP,D.eq,PyData.eqv]
 | tup xs=>
  intro y n m hx hy;cases n with
  | zero=>cases hx
  | succ n=>
   cases y with
   | tup ys=>
    cases m with
    | zero=>cases hy
    | succ m=>rw[bP,bP,D.eq,PyData.eqv]; exact zHT xs ys n m hx hy
   | ins _ _=>cases m <;> cases hy
   | _=>simp[bP,D.eq,PyData.eqv]
 | ins _ _=>intro _ n _ hx _; cases n <;> cases hx
 | non=>
  intro y _ m _ hy;cases y with
  | ins _ _=>cases m <;> cases hy
  | _=>simp[bP,D.eq,PyData.eqv]
 | bl b=>
  intro y _ m _ hy;cases y with
  | bl c=>cases b <;> cases c <;> rfl
  | int i=>rw[bP,bP,D.eq,PyData.eqv]; rfl
  | ins _ _=>cases m <;> cases hy
  | _=>simp[bP,D.eq,PyData.eqv]
 | int i=>
  intro y _ m _ hy;cases y with
  | bl c=>rw[bP,bP,D.eq,PyData.eqv]; rfl
  | int i=>rw[bP,bP,D.eq,PyData.eqv]; rfl
  | ins _ _=>cases m <;> cases hy
  | _=>simp[bP,D.eq,PyData.eqv]
 | str i=>
  intro y _ m _ hy;cases y with
  | str j=>rw[bP,bP,D.eq,PyData.eqv]; by_cases h:i=j <;> simp[h]
  | ins _ _=>cases m <;> cases hy
  | _=>simp[bP,D.eq,PyData.eqv]
theorem zHT:∀xs ys:ax,∀n m,xs.all (D.pur n)=true->ys.all (D.pur m)=true->PyData.eqvAll (pyDs xs) (pyDs ys)=D.eqs xs ys
 | [],[],_,_,_,_=>by simp[pyDs,D.eqs,PyData.eqvAll]
 | [],_::_,_,_,_,_=>by simp[pyDs,D.eqs,PyData.eqvAll]
 | _::_,[],_,_,_,_=>by simp[pyDs,D.eqs,PyData.eqvAll]
 | x::xs,y::ys,n,m,hx,hy=>by
  rw[List.all_cons,HF] at hx hy;rw[pyDs,pyDs,D.eqs,PyData.eqvAll,pN x y n m hx.1 hy.1,zHT xs ys n m hx.2 hy.2]
end
mutual
theorem ku:∀x:D,∀n,x.pur n=true->(bP x).canLay0=true/\(bP x).depth<=n:=by
 intro hZ;cases hZ with
 | lst xs=>
  intro n hx;cases n with
  | zero=>cases hx
  | succ n=>
   obtain⟨h1,h2⟩:=zCZ xs n hx;rw[bP,PyData.canLay0,PyData.depth];exact⟨h1,by omega⟩
 | tup xs=>
  intro n hx;cases n with
  | zero=>cases hx
  | succ n=>
   obtain⟨h1,h2⟩:=zCZ xs n hx;rw[bP,PyData.canLay0,PyData.depth];exact⟨h1,by omega⟩
 | ins _ _=>intro n hx; cases n <;> cases hx
 | non=>intro _ _; simp[bP,PyData.canLay0,PyData.depth]
 | bl _=>intro _ _; simp[bP,PyData.canLay0,PyData.depth]
 | int _=>intro _ _; simp[bP,PyData.canLay0,PyData.depth]
 | str s=>
  intro n hx;rw[Ip.jf] at hx;rw[bP,PyData.canLay0,PyData.depth];exact⟨hx,ID _⟩
theorem zCZ:∀xs:ax,∀n,xs.all (D.pur n)=true->PyData.canLayAll0 (pyDs xs)=true/\PyData.depthAll (pyDs xs)<=n
 | [],_,_=>by simp[pyDs,PyData.canLayAll0,PyData.depthAll]
 | x::xs,n,hx=>by
  rw[List.all_cons,HF] at hx;obtain⟨h1,h2⟩:=ku x n hx.1;obtain⟨h3,h4⟩:=zCZ xs n hx.2;rw[pyDs,PyData.canLayAll0,PyData.depthAll,h1,h3];exact⟨rfl,Nat.max_le.mpr ⟨h2,h4⟩⟩
end
def oV (h:x.pur 60=true):SeqAt.shaped (bP x)=true:=by
 obtain⟨h1,h2⟩:=ku x 60 h;unfold SeqAt.shaped;rw[h1,Bool.true_and];exact HS (by omega)
section
variable {X:Cx}{W:Wd}{G:Pg}{pins:ah}{σ:St}{H:Hp}{s:Shared}
mutual
theorem Den.reads (hK:W.K=X.K)(I:Inv X pins σ H s):∀{v:V} {d:D} {u:Value} (n:Nat),Den W H v d->d.pur n=true->RelV v u->∃as,Reads s.heap u (bP d) as:=by
 intro _ _ _ n hZ;cases hZ with
 | non=>intro _ r; cases r; exact⟨_,by rw[bP]; exact .none⟩
 | bl=>intro _ r; cases r; exact⟨_,by rw[bP]; exact .bool _⟩
 | int=>intro _ r; obtain⟨t,rfl⟩:=r; exact⟨_,by rw[bP]; exact .int _ t⟩
 | str=>intro _ r; obtain⟨t,rfl⟩:=r; exact⟨_,by rw[bP]; exact .str _ t⟩
 | lst e q=>
  intro hp r;cases r;cases n with
  | zero=>cases hp
  | succ n=>
   obtain⟨_,its,k,rv,_,eo⟩:=I.rdL e;obtain⟨as,ra⟩:=q.reads hK I n hp rv;exact⟨_,by rw[bP]; exact reads_list_at eo rfl rfl (by simpa using ra)⟩
 | tup e q=>
  intro hp r;cases r;cases n with
  | zero=>cases hp
  | succ n=>
   obtain⟨its,rv,⟨o,eo,hc,k,hd⟩,_⟩:=I.tuple (hK ▸ e);obtain⟨as,ra⟩:=q.reads hK I n hp rv;exact⟨_,by rw[bP]; exact reads_tuple_at eo hc hd (by simpa using ra)⟩
 | ins _ _ _=>intro hp _; cases n <;> cases hp
theorem Dens.reads (hK:W.K=X.K)(I:Inv X pins σ H s):∀{vs:av} {ds:ax} {us:aq} (n:Nat),Dens W H vs ds->ds.all (D.pur n)=true->Vals vs us->∃as,ReadsAll s.heap us (pyDs ds) as
 | _,_,_,_,.nil,_,.nil=>⟨_,by rw[pyDs]; exact .nil⟩
 | _,_,_,n,.cons h q,hp,.cons r t=>by
  rw[List.all_cons,HF] at hp;obtain⟨as,h1⟩:=h.reads hK I n hp.1 r;obtain⟨bs,h2⟩:=q.reads hK I n hp.2 t;exact⟨_,by rw[pyDs]; exact .cons h1 h2⟩
end
def si (hK:W.K=X.K)(hu:X.A.units+64<cLine):OpR X (compareOp .Eq) (λx y=>rD W G .eq [x,y]):=by
 rintro pins s σ H x y v u Q I rx ry ⟨N,xs,z,hN,hd,hz,hq⟩;obtain⟨⟨k1,p⟩,⟨k2,q⟩,rfl,d1,d2⟩:=dE hd;simp only[Ip.EI,bE,jz] at hz;split at hz
 .rename_i hp;rw[HF] at hp;cases hz;obtain⟨_,r1⟩:=(d1.mono bF).reads hK I 60 hp.1 rx;obtain⟨_,r2⟩:=(d2.mono bF).reads hK I 60 hp.2 ry;refine eq_dataH r1 r2 (oV hp.1) (oV hp.2) hu ⟨.bl _,H,I,rfl,?_⟩;rw[pN p q 60 60 hp.1 hp.2];exact hq _ _ Res.bl
 .cases hz
def p7 (hK:W.K=X.K)(hu:X.A.units+64<cLine):OpR X (compareOp .NotEq) (λx y=>rD W G .ne [x,y]):=by
 rintro pins s σ H x y v u Q I rx ry ⟨N,xs,z,hN,hd,hz,hq⟩;obtain⟨⟨k1,p⟩,⟨k2,q⟩,rfl,d1,d2⟩:=dE hd;simp only[Ip.FT,bE,jz] at hz;split at hz
 .rename_i hp;rw[HF] at hp;cases hz;obtain⟨_,r1⟩:=(d1.mono bF).reads hK I 60 hp.1 rx;obtain⟨_,r2⟩:=(d2.mono bF).reads hK I 60 hp.2 ry;refine ne_dataH r1 r2 (oV hp.1) (oV hp.2) hu ⟨.bl _,H,I,rfl,?_⟩;rw[pN p q 60 60 hp.1 hp.2];exact hq _ _ Res.bl
 .cases hz
end
end L2
end
section
namespace L2
open PySem PySem.Spec PyProof.Rows
open Ip (D KD Ex Op Pg Fn Sl Fr Wk Tg Tb SL ji m9 dL bm bc cB cE lg cI cT di cJ iI gv c6 aW compF cutOp ma gn nP la ng lQ dH nu evals b9 dI fB frz frz1 jG cn dA fX cw bz d6 bH cU isNone bq bf aZ cD cj aL cG aO bX cK fQ br b7 bE fO fJ bw pos? pos?_get dU aV cZ cM gG d7 cV dX)
section
variable {X:Cx}{W:Wd}{G:Pg}
def Hn:∀x H Q,rD W G .neg [x] H Q->rU (λi=>.int (-i)) x H Q:=by
 rintro x H Q ⟨N,xs,z,hN,hd,hz,hq⟩;obtain⟨⟨k1,p⟩,rfl,d1⟩:=fD hd;simp only[Ip.Ff,b7] at hz;cases p <;> first | exact (bX hz).elim | simp only[Ip.kC] at hz
 cases d1;cases hz;exact⟨_,rfl,hq _ _ Res.int⟩
def AM:∀x H Q,rD W G .not [x] H Q->∃c,x=.bl c/\Q (.bl (!c)) H:=by
 rintro x H Q ⟨N,xs,z,hN,hd,hz,hq⟩;obtain⟨⟨k1,p⟩,rfl,d1⟩:=fD hd;simp only[Ip.zq,b7] at hz;cases p <;> first | exact (bX hz).elim | simp only[Ip.ke] at hz
 cases d1;cases hz;exact⟨_,rfl,hq _ _ Res.bl⟩
def Den.non_iff {S:Hp}{v:V}{d:D}(h:Den W S v d):decide (v=.non)=(match d with | .non=>true | _=>false):=by
 cases h <;> simp
def vD:∀x H Q,rD W G .isN [x] H Q->Q (.bl (decide (x=.non))) H:=by
 rintro x H Q ⟨N,xs,z,hN,hd,hz,hq⟩;obtain⟨⟨k1,p⟩,rfl,d1⟩:=fD hd;rw[d1.non_iff];simp only[Ip.yI,b7] at hz;cases p <;> simp only[cU,fB] at hz <;> cases hz <;> exact hq _ _ Res.bl
def xY:∀x H Q,rD W G .notN [x] H Q->Q (.bl (!decide (x=.non))) H:=by
 rintro x H Q ⟨N,xs,z,hN,hd,hz,hq⟩;obtain⟨⟨k1,p⟩,rfl,d1⟩:=fD hd;rw[d1.non_iff];simp only[Ip.FD,b7] at hz;cases p <;> simp only[cU,fB] at hz <;> cases hz <;> exact hq _ _ Res.bl
theorem Den.flatV {S:Hp}{v:V}{d:D}(h:Den W S v d)(hs:d.scal=true):flatV v=true:=by
 cases h <;> first | rfl | cases hs
theorem Den.eqV {S:Hp}{v w:V}{d e:D}(h:Den W S v d)(k:Den W S w e)(hs:d.scal=true)(ks:e.scal=true):eqV v w=d.eq e:=by
 cases h <;> first | (cases hs; done) | (cases k <;> first | (cases ks; done) | rfl | simp[L2.eqV,D.eq])
theorem Dens.flatV {S:Hp}:∀{vs:av} {ds:ax},Dens W S vs ds->ds.all D.scal=true->vs.all L2.flatV=true:=by
 intro _ _ hZ;cases hZ with
 | nil=>exact λ_=>rfl
 | cons h q=>
  intro hs;rw[List.all_cons,HF] at hs;rw[List.all_cons,h.flatV hs.1,q.flatV hs.2]; rfl
theorem yn:∀ys:ax,pyDs ys=ys.map bP
 | []=>by rw[pyDs]; rfl
 | y::ys=>by rw[pyDs,yn ys]; rfl
def zl {p:D}(hp:p.pur 60=true){ys:ax}(h:ys.all (D.pur 60)=true):(pyDs ys).map (λy=>PyData.eqv y (bP p))=ys.map λy=>y.eq p:=by
 rw[yn,IW];exact Jl λy hy=>pN y p 60 60 (dQ h y hy) hp
def pH {p:D}{ys:ax}{u:Nat}(hp:p.pur 60=true)(hu:u+64<cLine):u+1+min (PyData.depthAll (pyDs ys)) (bP p).depth<cLine:=by
 have:=(ku p 60 hp).2;omega
theorem Den.seq {S:Hp}{v:V}{d:D}{xs:ax}(h:Den W S v d)(e:d.seq=some xs):∃a vs,v=.ref a/\((SqL W.K S a vs/\Rd S a (.lst vs))\/SqT W.K S a vs)/\Dens W S vs xs:=by
 cases h <;> first | exact (bX e).elim | simp only[D.seq] at e
 .rename_i h1 h2;cases e;exact⟨_,_,rfl,.inl ⟨.inl h1,h1⟩,h2⟩
 .rename_i h1 h2;cases e;exact⟨_,_,rfl,.inr h1,h2⟩
def u8 {neg:Bool}{o:Op}{pins:ah}{σ:St}{H:Hp}{s:Shared}{x y:V}{v u:Value}{Q:VK}(ho:∀xs,bw G o xs=bE (jG neg) xs)(hK:W.K=X.K)(I:Inv X pins σ H s)(rx:RelV x v)(ry:RelV y u)(h:rD W G o [x,y] H Q) :
  ∃p ys as bs,p.pur 60=true/\ys.all (D.pur 60)=true/\Reads s.heap v (bP p) as/\(Reads s.heap u (.list (pyDs ys)) bs\/Reads s.heap u (.tuple (pyDs ys)) bs)/\Q (.bl (if neg then !(pyDs ys).any λy=>PyData.eqv y (bP p) else (pyDs ys).any λy=>PyData.eqv y (bP p))) H:=by
 obtain⟨N,xs,z,hN,hd,hz,hq⟩:=h;obtain⟨⟨k1,p⟩,⟨k2,q⟩,rfl,d1,d2⟩:=dE hd;rw[ho] at hz;simp only[bE,jG] at hz;cases e:q.seq with
 | none=>rw[e] at hz; cases hz
 | some ys=>
  rw[e] at hz;simp only at hz;split at hz
  .rename_i hp;rw[HF] at hp;cases hz;obtain⟨as,r1⟩:=(d1.mono bF).reads hK I 60 hp.1 rx;have em:p.memb ys=(pyDs ys).any λy=>PyData.eqv y (bP p):=by
    have e1:=congrArg (λl:List Bool=>l.any id) (zl hp.1 hp.2);simp only[List.any_map] at e1;exact e1.symm
   have hq':=hq (.bl (if neg then !p.memb ys else p.memb ys)) H Res.bl;rw[em] at hq';have d2':=d2.mono bF;cases q <;> first | exact (bX e).elim | simp only[D.seq] at e
   .cases e;obtain⟨bs,r2⟩:=d2'.reads hK I 61 hp.2 ry;rw[bP] at r2;exact⟨p,ys,as,bs,hp.1,hp.2,r1,.inl r2,hq'⟩
   .cases e;obtain⟨bs,r2⟩:=d2'.reads hK I 61 hp.2 ry;rw[bP] at r2;exact⟨p,ys,as,bs,hp.1,hp.2,r1,.inr r2,hq'⟩
  .cases hz
def tX (hK:W.K=X.K)(hu:X.A.units+64<cLine):OpR X (compareOp .In) (λx y=>rD W G .isin [x,y]):=by
 intro pins s σ H x y v u Q I rx ry h;obtain⟨p,ys,as,bs,hp,hs,r1,r2,q⟩:=u8 (neg:=false) (λ_=>rfl) hK I rx ry h;rcases r2 with r2 | r2
 .exact SeqAt.in_list_reads r2 r1 (zCZ ys 60 hs).1 (ku p 60 hp).1 (pH hp hu) ⟨.bl _,H,I,rfl,q⟩
 .exact SeqAt.in_tuple_reads r2 r1 (zCZ ys 60 hs).1 (ku p 60 hp).1 (pH hp hu) ⟨.bl _,H,I,rfl,q⟩
def BW (hK:W.K=X.K)(hu:X.A.units+64<cLine):OpR X (compareOp .NotIn) (λx y=>rD W G .nin [x,y]):=by
 intro pins s σ H x y v u Q I rx ry h;obtain⟨p,ys,as,bs,hp,hs,r1,r2,q⟩:=u8 (neg:=true) (λ_=>rfl) hK I rx ry h;rcases r2 with r2 | r2
 .exact SeqAt.notIn_list_reads r2 r1 (zCZ ys 60 hs).1 (ku p 60 hp).1 (pH hp hu) ⟨.bl _,H,I,rfl,q⟩
 .exact SeqAt.notIn_tuple_reads r2 r1 (zCZ ys 60 hs).1 (ku p 60 hp).1 (pH hp hu) ⟨.bl _,H,I,rfl,q⟩
def r9 (hK:W.K=X.K):nZ X (λx y=>rD W G .ix [x,y]):=by
 rintro value slice pins s σ H x y v u Q I rx ry ⟨N,xs,z,hN,hd,hz,hq⟩ hs;obtain⟨⟨k1,p⟩,⟨k2,q⟩,rfl,d1,d2⟩:=dE hd;simp only[Ip.GS,bE] at hz;cases q <;> first | exact (bX hz).elim | simp only[Ip.aS] at hz
 cases d2;rename_i i;cases e:p.seq with
 | none=>rw[e] at hz; cases hz
 | some ds=>
  rw[e] at hz;simp only at hz;obtain⟨a,vs,rfl,hsq,hv⟩:=d1.seq e;cases e2:(Ip.dB ds.length i).bind λj=>ds[j]? with
  | none=>rw[e2] at hz; cases hz
  | some d=>
   rw[e2] at hz;cases hz;obtain⟨j,ej,ed⟩:=dR e2;obtain⟨w,ew,dw⟩:=hv.get ed;have ha:lY vs i=some w:=by
    unfold lY;have:lx vs.length i=some j:=by rw[hv.length]; exact ej
    rw[this]; exact ew
   have hr:Q w H:=hq _ _ (Res.of_den (Sub.refl _) dw);rcases hsq with hl | ht
   .exact B5 value slice pins s σ H _ _ v u Q I rx ry ⟨a,vs,i,w,rfl,rfl,by rw[<-hK]; exact SqL.sub bF hl.1,ha,hr⟩ hs
   .exact D4 value slice pins s σ H _ _ v u Q I rx ry ⟨a,vs,i,w,rfl,rfl,by rw[<-hK]; exact SqT.sub bF ht,ha,hr⟩ hs
def ww (n d:Nat)(o:Option Int):HT.sIx n d o=Ip.dP n d o:=by
 cases o with
 | none=>rfl
 | some i=>
  show (if i<0 then (i+(n:Int)).toNat else min i.toNat n)=if 0<=i then min i.toNat n else (i+n).toNat
  by_cases h:i<0
  .rw[if_pos h,if_neg (by omega)]
  .rw[if_neg h,if_pos (by omega)]
def Dens.cut {S:Hp}{vs:av}{ds:ax}(h:Dens W S vs ds)(lo hi:Option Int):Dens W S (dF vs lo hi) (Ip.cutD ds lo hi):=by
 unfold dF Ip.cutD;rw[ww,ww,h.length];exact (h.drop _).take _
def jS (W:Wd):V->Option Int->Option Int->Hp->VK->Prop:=λx lo hi H Q=>∃N d z,NOk N H/\Den W (hid N H) x d/\cutOp lo hi d=some z/\∀v H',Res W H N H' z v->Q v H'
def rH (hK:W.K=X.K):my X (jS W):=by
 rintro pins s σ H x v vl vu lo hi sl Q I rx hs pl pu ⟨N,d,z,hN,hd,hz,hq⟩;cases hd <;> first | exact (bX hz).elim | simp only[cutOp] at hz
 rotate_left
 .rename_i a vs ds h1 h2;cases hz;refine FS pins s σ H _ v vl vu lo hi sl Q I rx hs pl pu ⟨a,vs,rfl,by rw[<-hK]; exact SqT.sub bF h1,λhw=>hq _ _ (Res.of_den (Sub.refl _) ?_),λ_ p hp=>hq _ _ (Res.newT hN hp (h2.cut lo hi))⟩;have c:=h2.cut lo hi;have e:dF vs lo hi=vs:=by
   unfold dF;rw[hw.1,hw.2];simp
  rw[e] at c;exact .tup h1 c
 rename_i a vs ds h1 h2;cases hz;exact Ag pins s σ H _ v vl vu lo hi sl Q I rx hs pl pu ⟨a,vs,rfl,by rw[<-hK]; exact .inl (Rd.sub bF h1),λp hp=>hq _ _ (Res.newL hp (h2.cut lo hi))⟩
def qu (K:bn)(te:TE):TE:=λσ H Q=>te σ H λx H1=>∃a xs,x=.ref a/\SqL K H1 a xs/\∀p,H1 p=none->Q (.ref p) (upd H1 p (.lst xs.reverse))
def El {e st:Expr}{te:TE}{p2 pos:Pos}(he:PE X e te)(hst:PE X st (tC (.int (-1)))):PE X (.Subscript e (.Slice none none (some st) p2) pos) (qu X.K te):=by
 intro pins s σ H Q I h;refine Subscript_ (bg (he pins s σ H _ I h) λv s1 hZz=>?_);obtain⟨x,H1,I1,r1,q1⟩:=hZz;obtain⟨a,xs,rfl,hx,q⟩:=q1;cases r1;refine wpAny_Slice ?_;rw[evalPart_none];refine be ?_;refine be ?_;rw[evalPart_some];refine bg (hst pins s1 σ H1 (λy H2=>y=.int (-1)/\H2=H1) I1 ⟨rfl,rfl⟩) λu s2 hZz=>?_;obtain⟨y,H2,I2,r2,e1,e2⟩:=hZz;subst e1 e2;obtain⟨t,rfl⟩:=(show ∃t,u=Value.int (-1) t from r2)
 have I4:Inv X pins σ H2 { s2 with heap:=s2.heap.push { cls:=.type "slice",data:=.fields #[.none,.none,.int (-1) t] } }:=I2.kept (t':=s2.toks) λb ob q=>bR _ q;show wpAny (model X.prog X.w) X.A (subscriptTail e (.Slice none none (some st) p2) (.ref a) (.ref s2.heap.objs.size)) (EP X pins σ Q) X.xe { s2 with heap:=s2.heap.push { cls:=.type "slice",data:=.fields #[.none,.none,.int (-1) t] } };obtain⟨its,r,ht,hz⟩:=I4.list hx;refine tail_any (ops:=[.ref a,.ref s2.heap.objs.size]) ht.isList.typeIs slot_list_getitem.lookup ?_ (by with_unfolding_all rfl);refine wpAny_getItem_list_slice ht.isList (Heap.IsSliceOf.new ..) .none .none (.int (-1) t) (by simp) ?_ (by rw[HJ,<-r.length]; exact hz);rw[PySem.W.krv_pick];refine⟨.ref _,_,I4.laid (t':=s2.toks) (o:=.lst xs.reverse) (λb ob q=>bR _ q) (bC _) ?_,rfl,q _ (I4.hok.fresh (bC _))⟩;exact⟨by rw[J9]; exact hz,_,0,r.reverse,c9 _ rfl⟩
def Dens.rev {S:Hp}{vs:av}{ds:ax}(h:Dens W S vs ds):Dens W S vs.reverse ds.reverse:=by
 induction vs generalizing ds with
 | nil=>cases h; exact .nil
 | cons v vs ih=>
  cases h with
  | cons h q=>
   rw[Ko,Ko];exact (ih q).append (.cons h .nil)
def CallR.imp {f:Value}{r r':av->Hp->VK->Prop}(h:CallR X f r)(k:∀xs H Q,r' xs H Q->r xs H Q):CallR X f r':=λpins s σ H xs us Q I r q=>h pins s σ H xs us Q I r (k xs H Q q)
def Dens.vs1 {S:Hp}{vs:av}{xs:aw}{o:Op}{f:D->az}{z:KD}(h:Dens W S vs (xs.map (·.2)))(e:b7 f xs=some z):∃v p,vs=[v]/\xs=[p]/\Den W S v p.2/\f p.2=some z:=by
 cases xs with
 | nil=>exact (bX e).elim
 | cons p r=>
  cases r with
  | nil=>
   obtain⟨v,rfl,h1⟩:=Dens.one h;exact⟨v,p,rfl,rfl,h1,e⟩
  | cons _ _=>exact (bX e).elim
def wj {f:ax->az}{d:D}{z:KD}(e:fJ f d=some z):∃xs,d.seq=some xs/\f xs=some z:=by
 unfold fJ at e;cases q:d.seq with
 | none=>rw[q] at e; cases e
 | some xs=>rw[q] at e; exact⟨xs,rfl,e⟩
def lJ {f:ax->az}{d:D}{z:KD}(e:fO f d=some z):∃xs,d=.lst xs/\f xs=some z:=by
 cases d <;> simp only[fO] at e <;> first | exact⟨_,rfl,e⟩ | cases e
def Fi (hK:W.K=X.K):CallR X (.builtin "len") (λxs=>rD W G .len xs):=zC.imp λvs H Q ⟨N,xs,z,hN,hd,hz,hq⟩=>by
 simp only[Ip.F6] at hz;obtain⟨v,p,rfl,rfl,dv,ez⟩:=hd.vs1 (o:=.len) hz;obtain⟨ds,e1,e2⟩:=wj ez;obtain⟨a,ws,rfl,hs,hv⟩:=dv.seq e1;cases e2;refine⟨a,ws,rfl,?_,?_⟩
 .rw[<-hK]; exact hs.imp (λh=>SqL.sub bF h.1) (SqT.sub bF)
 .rw[hv.length]; exact hq _ _ Res.int
def Fu (hK:W.K=X.K):CallR X (.type "list") (λxs=>rD W G .list xs):=HC.imp λvs H Q ⟨N,xs,z,hN,hd,hz,hq⟩=>by
 simp only[Ip.C6] at hz;obtain⟨v,p,rfl,rfl,dv,ez⟩:=hd.vs1 (o:=.list) hz;obtain⟨ds,e1,e2⟩:=wj ez;obtain⟨a,ws,rfl,hs,hv⟩:=dv.seq e1;cases e2;refine⟨a,ws,rfl,?_,λl hl=>hq _ _ (Res.newL hl hv)⟩;rw[<-hK]; exact hs.imp (λh=>SqL.sub bF h.1) (SqT.sub bF)
def GR (hK:W.K=X.K):CallR X (.type "tuple") (λxs=>rD W G .tuple xs):=AN.imp λvs H Q ⟨N,xs,z,hN,hd,hz,hq⟩=>by
 simp only[Ip.Gw] at hz;obtain⟨v,p,rfl,rfl,dv,ez⟩:=hd.vs1 (o:=.tuple) hz;obtain⟨k,d⟩:=p;cases dv with
 | @lst a ws ds h1 h2=>
  cases ez;exact⟨a,ws,rfl,.inl ⟨by rw[<-hK]; exact .inl (Rd.sub bF h1),λl hl=>hq _ _ (Res.newT hN hl h2)⟩⟩
 | @tup a ws ds h1 h2=>
  cases ez;exact⟨a,ws,rfl,.inr ⟨by rw[<-hK]; exact SqT.sub bF h1,hq _ _ (Res.of_den (Sub.refl _) (.tup h1 h2))⟩⟩
 | _=>cases ez
def C3:CallR X (.type "int") (λxs=>rD W G .toInt xs):=Ft.imp λvs H Q ⟨N,xs,z,hN,hd,hz,hq⟩=>by
 simp only[Ip.z0] at hz;obtain⟨v,p,rfl,rfl,dv,ez⟩:=hd.vs1 (o:=.toInt) hz;obtain⟨k,d⟩:=p;cases dv <;> first | exact (bX ez).elim | simp only[Ip.intD] at ez
 .cases ez;exact .inr ⟨_,rfl,hq _ _ Res.int⟩
 .cases ez;exact .inl ⟨_,rfl,hq _ _ Res.int⟩
theorem wX:∀{ds:ax} {b:Bool},Ip.allB ds=some b->∃bs:List Bool,ds=bs.map .bl/\b=bs.all id
 | [],b,h=>⟨[],rfl,by cases h; rfl⟩
 | .bl c::ds,b,h=>by
  rw[Ip.allB] at h;obtain⟨c',e,rfl⟩:=cA h;obtain⟨bs,rfl,rfl⟩:=wX e;exact⟨c::bs,rfl,rfl⟩
theorem wJ:∀{ds:ax} {b:Bool},Ip.anyB ds=some b->∃bs:List Bool,ds=bs.map .bl/\b=bs.any id
 | [],b,h=>⟨[],rfl,by cases h; rfl⟩
 | .bl c::ds,b,h=>by
  rw[Ip.anyB] at h;obtain⟨c',e,rfl⟩:=cA h;obtain⟨bs,rfl,rfl⟩:=wJ e;exact⟨c::bs,rfl,rfl⟩
theorem Dens.bools {S:Hp}:∀{vs:av} {bs:List Bool},Dens W S vs (bs.map .bl)->vs=bs.map .bl
 | [],[],_=>rfl
 | v::vs,b::bs,.cons h q=>by rw[h.bl_inv,q.bools]; rfl
def Vals.bool_at {bs:List Bool}:∀{us:aq} {i:Nat} {v:Value},Vals (bs.map .bl) us->us[i]? = some v->∃b,bs[i]? = some b/\v=.bool b:=by
 intro us i v r e;have hl:bs.length=us.length:=by simpa using r.length
 have hi:i<us.length:=(dg e).1;have hb:(bs.map V.bl)[i]? = some (.bl bs[i]):=by simp[HR,HI (by omega:i<bs.length)]
 obtain⟨u,e2,r2⟩:=r.get hb;rw[e] at e2;cases e2;exact⟨_,HI (by omega),r2⟩
def Fb (hc:X.calm=true):CallR X (.builtin "all") (λxs=>rD W G .all xs):=by
 rintro pins s σ H vs us Q I rs ⟨N,xs,z,hN,hd,hz,hq⟩;simp only[Ip.Au] at hz;obtain⟨v,p,rfl,rfl,dv,ez⟩:=hd.vs1 (o:=.all) hz;obtain⟨ds,e1,e2⟩:=lJ ez;obtain⟨u,rfl,ru⟩:=rs.one;rw[e1] at dv;cases dv with | @lst l ws _ h1 h2=>?_
 cases ru;cases e3:Ip.allB ds with
 | none=>rw[e3] at e2; cases e2
 | some b=>
  rw[e3] at e2;cases e2;obtain⟨bs,rfl,rfl⟩:=wX e3;have:=h2.bools;subst this;obtain⟨_,its,n,rv,hlen,eo⟩:=I.rdL (Rd.sub bF h1);have hl:s.heap.IsList l its.toArray:=⟨_,eo,rfl,n,rfl⟩
  have hlt:l<s.heap.objs.size:=bL eo;refine call_all_walk (Kk hl ?_);refine⟨s.heap.objs.size,[s.heap.objs.size,l],[s.heap.objs.size],its.toArray.size,_,_,λi=>(bs[i]?).getD true,rfl,Walks.list (A:=X.A.in1) (I.ok.hd hc) _ l (dh hlt) its.toArray,
   ⟨⟨_,c9 _ rfl,rfl,rfl⟩,hl.push _⟩,λi v s' Q' E' hP hQ=>?_,λh' tk hk=>?_⟩
  .obtain⟨b,e,rfl⟩:=rv.bool_at (i:=i) (v:=v) (by simpa using hP);simp only[e,Option.getD_some] at hQ;exact IC hQ
  .have e:((List.range its.toArray.size).all λi=>(bs[i]?).getD true)=bs.all id:=by
    rw[HJ,<-hlen,HG]; exact LSm.range_all bs
   rw[e];exact⟨.bl _,H,I.kept (t':=tk) (LSm.kept_iter hk),rfl,hq _ _ Res.bl⟩
def E5 (hc:X.calm=true):CallR X (.builtin "any") (λxs=>rD W G .any xs):=by
 rintro pins s σ H vs us Q I rs ⟨N,xs,z,hN,hd,hz,hq⟩;simp only[Ip.Cw] at hz;obtain⟨v,p,rfl,rfl,dv,ez⟩:=hd.vs1 (o:=.any) hz;obtain⟨ds,e1,e2⟩:=lJ ez;obtain⟨u,rfl,ru⟩:=rs.one;rw[e1] at dv;cases dv with | @lst l ws _ h1 h2=>?_
 cases ru;cases e3:Ip.anyB ds with
 | none=>rw[e3] at e2; cases e2
 | some b=>
  rw[e3] at e2;cases e2;obtain⟨bs,rfl,rfl⟩:=wJ e3;have:=h2.bools;subst this;obtain⟨_,its,n,rv,hlen,eo⟩:=I.rdL (Rd.sub bF h1);have hl:s.heap.IsList l its.toArray:=⟨_,eo,rfl,n,rfl⟩
  have hlt:l<s.heap.objs.size:=bL eo;refine call_any_walk (Kk hl ?_);refine⟨s.heap.objs.size,[s.heap.objs.size,l],[s.heap.objs.size],its.toArray.size,_,_,λi=>(bs[i]?).getD false,rfl,Walks.list (A:=X.A.in1) (I.ok.hd hc) _ l (dh hlt) its.toArray,
   ⟨⟨_,c9 _ rfl,rfl,rfl⟩,hl.push _⟩,λi v s' Q' E' hP hQ=>?_,λh' tk hk=>?_⟩
  .obtain⟨b,e,rfl⟩:=rv.bool_at (i:=i) (v:=v) (by simpa using hP);simp only[e,Option.getD_some] at hQ;exact IC hQ
  .have e:((List.range its.toArray.size).any λi=>(bs[i]?).getD false)=bs.any id:=by
    rw[HJ,<-hlen,HG]; exact LSm.range_any bs
   rw[e];exact⟨.bl _,H,I.kept (t':=tk) (LSm.kept_iter hk),rfl,hq _ _ Res.bl⟩
theorem wU {S:Hp}:∀{ns:ak} {vs:av},Dens W S vs (aL ns)->vs=cq ns
 | [],_,h=>by cases h; rfl
 | n::ns,_,h=>by
  cases h with
  | cons h q=>
   cases h;rw[wU q];rfl
theorem td {S:Hp}:∀{ns:ak},Dens W S (cq ns) (aL ns)
 | []=>.nil
 | n::ns=>.cons .int td
theorem xR:∀{ds:ax} {ns:ak},cG ds=some ns->ds=aL ns/\∀n∈ns,n<6
 | [],ns,h=>by cases h; exact⟨rfl,λn hn=>by simp at hn⟩
 | d::ds,ns,h=>by
  cases d with
  | int i=>
   unfold cG at h;by_cases c:0<=i/\i<6
   .rw[if_pos c] at h;obtain⟨ms,e1,e2⟩:=cA h;obtain⟨h1,h2⟩:=xR e1;subst e2;refine⟨?_,λn hn=>?_⟩
    .rw[h1];show _=D.int (Int.ofNat i.toNat)::aL ms;rw[Int.ofNat_eq_natCast,Iv c.1]
    .rcases bQ hn with z | z
     .rw[z]; omega
     .exact h2 n z
   .rw[if_neg c] at h; cases h
  | _=>exact nomatch h
def zG:((St.subs 6).all λl=>decide (l=(List.range 6).filter λk=>l.contains k))=true:=by decide +kernel
def BR {l:ak}{k x:Nat}:x∈St.stp l k↔x∈l\/x=k:=by
 unfold St.stp St.ins;by_cases c:k∈l
 .rw[if_pos c];exact⟨.inl,λh=>h.elim id λz=>z ▸ c⟩
 .rw[if_neg c];simp only[IA,HK,H0];have b1:∀a b:Nat,Nat.blt a b=true↔a<b:=λa b=>⟨JQ,Nat.ble_eq_true_of_le⟩
  simp only[b1];constructor
  .rintro (h | h | h)
   .exact .inl h.1
   .exact .inr h
   .exact .inl h.1
  .rintro (h | h)
   .rcases Nat.lt_trichotomy x k with z | z | z
    .exact .inl ⟨h,z⟩
    .exact .inr (.inl z)
    .exact .inr (.inr ⟨h,z⟩)
   .exact .inr (.inl h)
def EL {l:ak}{k:Nat}(hl:l∈St.subs 6)(hk:k<6):St.stp l k∈St.subs 6:=by
 unfold St.stp;by_cases c:k∈l
 .rw[if_pos c]; exact hl
 .rw[if_neg c];exact (St.ins_of hl hk c).2.2.2.2.1
theorem xk:∀(ns l:ak),l∈St.subs 6->(∀n∈ns,n<6)->ns.foldl St.stp l∈St.subs 6/\∀x,x∈ns.foldl St.stp l↔x∈l\/x∈ns
 | [],l,hl,_=>⟨hl,λx=>by simp⟩
 | n::ns,l,hl,h=>by
  obtain⟨h1,h2⟩:=xk ns (St.stp l n) (EL hl (h n bN)) λm hm=>h m (bM _ hm);refine⟨h1,λx=>?_⟩;rw[List.foldl_cons,h2 x,BR,H0,or_assoc]
def Go {ns:ak}(h:∀n∈ns,n<6):ns.foldl St.stp []=aV ns:=by
 obtain⟨h1,h2⟩:=xk ns [] (by decide +kernel) h;have:=HY (dQ zG _ h1);rw[this];unfold aV;refine Jj λk _=>?_;rw[IX,JR,JR,h2 k];simp
def Eu (hK:W.K=X.K):∀x H Q,rD W G .srtSet [x] H Q->∃a ns,x=.ref a/\SqL X.K H a (cq ns)/\(∀n∈ns,n<6)/\∀p,H p=none->Q (.ref p) (upd H p (.lst (cq (ns.foldl St.stp [])))):=by
 rintro x H Q ⟨N,xs,z,hN,hd,hz,hq⟩;simp only[Ip.Fa] at hz;obtain⟨v,p,e,rfl,dv,ez⟩:=hd.vs1 (o:=.srtSet) hz;cases e;obtain⟨ds,e1,e2⟩:=lJ ez;rw[e1] at dv;cases dv with | @lst a vs _ h1 h2=>?_
 cases q:cG ds with
 | none=>rw[q] at e2; cases e2
 | some ns=>
  rw[q] at e2;cases e2;obtain⟨r1,r2⟩:=xR q;rw[r1] at h2;have ev:=wU h2;subst ev;refine⟨a,ns,rfl,by rw[<-hK]; exact .inl (Rd.sub bF h1),r2,λp hp=>hq _ _ ?_⟩;rw[Go r2];exact Res.newL hp td
def EE:∀x H Q,rD W G .lrng [x] H Q->∃j:Int,x=.int j/\0<=j/\j<=16777216/\∀p,H p=none->Q (.ref p) (upd H p (.lst (cq (List.range j.toNat)))):=by
 rintro x H Q ⟨N,xs,z,hN,hd,hz,hq⟩;simp only[Ip.GI] at hz;obtain⟨v,p,e,rfl,dv,ez⟩:=hd.vs1 (o:=.lrng) hz;cases e;obtain⟨k,d⟩:=p;cases dv <;> first | exact (bX ez).elim | simp only[Ip.gS] at ez
 rename_i j;by_cases c:0<=j/\j<=(SL:Int)
 .rw[if_pos c] at ez;cases ez;have:(SL:Int)=1000000:=rfl;exact⟨j,rfl,c.1,by omega,λp hp=>hq _ _ (Res.newL hp td)⟩
 .rw[if_neg c] at ez; cases ez
end
theorem OwnF.re {att:ar}{P Q:V->D->ao->Prop}{b:D->Bool}(hP:∀v d f,b d=true->P v d f->Q v d f):∀{vs ds fp},(ds.all λp=>b p.2)=true->OwnF att P vs ds fp->OwnF att Q vs ds fp:=by
 intro _ _ _ hf hZ;cases hZ with
 | nil=>exact .nil
 | cons e h q=>
  rw[List.all_cons,HF] at hf;exact .cons e (hP _ _ _ hf.1 h) (q.re hP hf.2)
theorem pi:∀{xs:List α},xs.all p=true->xs.all q=true->(xs.all λx=>p x&&q x)=true
 | [],_,_=>rfl
 | x::xs,h,k=>by
  rw[List.all_cons,HF] at h k;rw[List.all_cons,h.1,k.1,pi h.2 k.2]; rfl
section
variable {W:Wd}{S H:Hp}
theorem Own.fb:∀{k j v d fp},D.fb k d=true->D.fb j d=true->Own W S H k v d fp->Own W S H j v d fp
 | 0,j,_,d,_,h,_,o=>by
  rw[D.fb] at h;obtain⟨e1,e2⟩:=o.flat_inv h;rw[e1];exact Own.flat h e2
 | k+1,0,_,d,_,_,h,o=>by
  rw[D.fb] at h;obtain⟨e1,e2⟩:=o.flat_inv h;exact⟨e1,e2⟩
 | k+1,j+1,_,.lst ds,_,h1,h2,⟨a,vs,fq,e1,e2,e3,e4⟩=>⟨a,vs,fq,e1,e2,e3.re (b:=λd=>D.fb k d&&D.fb j d) (λv d f hb o=>by rw[HF] at hb; exact Own.fb hb.1 hb.2 o) (pi h1 h2),e4⟩
 | k+1,j+1,_,.tup ds,_,h1,h2,⟨a,vs,e1,e2,e3⟩=>⟨a,vs,e1,e2,e3.re (b:=λd=>D.fb k d&&D.fb j d) (λv d f hb o=>by rw[HF] at hb; exact Own.fb hb.1 hb.2 o) (pi h1 h2)⟩
 | k+1,j+1,_,.ins c ds,_,h1,h2,⟨a,C,dx,fs,fq,e1,e2,e5,e3,e4⟩=>⟨a,C,dx,fs,fq,e1,e2,e5,e3.re (b:=λd=>D.fb k d&&D.fb j d) (λv d f hb o=>by rw[HF] at hb; exact Own.fb hb.1 hb.2 o) (pi h1 h2),e4⟩
 | _+1,_+1,_,.non,_,_,_,h=>h
 | _+1,_+1,_,.bl _,_,_,_,h=>h
 | _+1,_+1,_,.int _,_,_,_,h=>h
 | _+1,_+1,_,.str _,_,_,_,h=>h
theorem Own.at (h:br j (k,d)=true)(o:Own W S H k v d fp):Own W S H j v d fp:=by
 unfold br at h;rw[IT,IT,HF] at h;rcases h with h | h | ⟨h1,h2⟩
 .obtain⟨e1,e2⟩:=o.flat_inv h;rw[e1];exact Own.flat h e2
 .have:k=j:=by simpa using h
  rw[<-this]; exact o
 .exact o.fb h2 h1
theorem OwnV.at:∀{vs xs fp},xs.all (br j)=true->OwnV W S H vs xs fp->OwnL (Own W S H j) vs (xs.map (·.2)) fp:=by
 intro _ _ _ hf hZ;cases hZ with
 | nil=>exact .nil
 | cons h q=>
  rw[List.all_cons,HF] at hf;exact .cons (h.at hf.1) (q.at hf.2)
def Ax:xs.all (br (aZ xs))=true\/aZ xs=0:=by
 unfold aZ;cases e:xs.find? λx=>!x.2.flat with
 | none=>
  refine .inl (List.all_eq_true.mpr λx hx=>Ip.yf ?_);have:=List.find?_eq_none.mp e x hx;simpa using this
 | some y=>
  show xs.all (br (if xs.all (br y.1)=true then y.1 else 0))=true\/(if xs.all (br y.1)=true then y.1 else 0)=0;by_cases h:xs.all (br y.1)=true
  .rw[if_pos h]; exact .inl h
  .rw[if_neg h]; exact .inr rfl
def OwnV.join {N:Addr->Prop}{vs:av}{xs:aw}{fp:ao}(nd:fp.Nodup)(hn:∀a∈fp,¬N a)(o:OwnV W (hid (λa=>N a\/a∈fp) H) H vs xs fp) :
  ∃fq:ao,fq.Nodup/\(∀a∈fq,a∈fp)/\OwnL (Own W (hid (λa=>N a\/a∈fq) H) H (aZ xs)) vs (xs.map (·.2)) fq:=by
 rcases Ax (xs:=xs) with h | h
 .exact⟨fp,nd,λ_ z=>z,o.at h⟩
 .rw[h];refine⟨[],.nil,λ_ z=>by simp at z,OwnL.zero ?_⟩;refine o.dens (λa u e=>?_) λa ha u e=>bh.mpr ⟨λz=>z.elim (hn a ha) (by simp),e⟩;obtain⟨h1,h2⟩:=bh.mp e;exact bh.mpr ⟨λz=>z.elim (λy=>h1 (.inl y)) (by simp),h2⟩
end
section
variable {X:Cx}{W:Wd}{G:Pg}{cl:Nat->aw->Ip.Run}{E:St->XK}
def ph (e:Expr)(es:au)(env:Env):(∃x p,e=.Starred x p)\/starEach (e::es) env=(false,PySem.eval e env)::starEach es env:=by
 cases e <;> first | exact .inl ⟨_,_,rfl⟩ | exact .inr rfl
def FP (h:bW W G cl (ir::irs) E σ H Q):cm (bi W G cl ir E) (bW W G cl irs E) σ H Q:=by
 obtain⟨N,a,hN,hS,h⟩:=h;unfold cm;refine gr hN hS (λx ex v H1 fp hs nd hf ow hN1 hS1=>?_) λee=>?_
 .refine⟨_,a,hN1,hS1,?_⟩;cases q:evals G cl a irs with
  | bad=>simp only[b9,ex,q,Ip.R.bind] at h
  | ok xs=>
   simp only[b9,ex,q,Ip.R.bind] at h;rintro vs H2 ⟨hs2,fq,nd2,hf2,o2⟩;refine h _ _ ⟨hs.trans hs2,fp++fq,?_,λb z=>(cO z).elim (hf b) λy=>hs.none (hf2 b y),?_⟩
   .refine HV.mpr ⟨nd,nd2,λb hb c hc z=>?_⟩;rw[z] at hb;exact ow.dom c hb (hf2 c hc)
   .refine .cons (ow.mono (gp hs2 λb z=>?_) λb hb o e=>hs2 b o e) (o2.mono (λb o e=>?_) λb _ o e=>e)
    .rcases z with z | z
     .exact .inl (.inl z)
     .exact (cO z).elim (λy=>.inl (.inr y)) λy=>.inr (hf2 b y)
    .obtain⟨h1,h2⟩:=bh.mp e;refine bh.mpr ⟨λz=>h1 ?_,h2⟩;rcases z with z | z
     .exact .inl (.inl z)
     .exact (cO z).elim (λy=>.inl (.inr y)) .inr
 .simp only[b9,ee,Ip.R.bind] at h
def pE (h:bW W G cl [] E σ H Q):eG σ H Q:=by
 obtain⟨N,a,hN,hS,h⟩:=h;simp only[dI] at h;exact h _ _ ⟨Sub.refl _,[],.nil,λa z=>by simp at z,.nil⟩
theorem xg:∀{es:au} {f:Expr->Ex},(∀e∈es,PE X e (bi W G cl (f e) E))->(∀e∈es,∀x p,e=.Starred x p->f e=.bad)->PA X es (bW W G cl (es.map f) E)
 | [],_,_,_=>kW.mono λσ H Q h=>pE h
 | e::es,f,h,k=>by
  rcases ph e es X.env with ⟨x,p,hx⟩ | hs
  .rintro pos pins s σ H Q I ⟨N,a,_,_,q⟩;rw[HQ,k e IF x p hx,b9,gn] at q;exact q.elim
  .refine (jn (h e bN) (xg (λy hy=>h y (bM _ hy)) λy hy=>k y (bM _ hy)) hs).mono λσ H Q q=>?_;rw[HQ] at q;exact FP q
def rE (hl:irs.length<=1000)(h:PA X es (bW W G cl irs E)):PE X (.List es pos) (bi W G cl (.op .lst irs) E):=by
 refine (FN h).mono λσ H Q hZz=>?_;obtain⟨N,a,hN,hS,q⟩:=hZz;refine⟨N,a,hN,hS,?_⟩;rw[dH] at q;cases e:evals G cl a irs with
 | bad=>rw[e] at q; exact q
 | ok xs=>
  simp only[e,Ip.R.bind,Ip.R.of,Ip.Ay] at q;rintro vs H1 ⟨hs,fp,nd,hf,o⟩;have hx:xs.length=irs.length:=evals_length e;refine⟨?_,λp hp=>?_⟩
  .rw[o.length,hx];exact bv hl (by decide)
  obtain⟨fq,nd2,sub,o2⟩:=o.join nd λb hb z=>hN b z (hf b hb);refine q _ _ ⟨hs.trans (Sub.upd hp),p::fq,HZ.mpr ⟨λz=>o.dom p (sub p z) hp,nd2⟩,λb z=>?_,p,vs,fq,rfl,dc,?_,rfl⟩
  .rcases bQ z with y | y
   .rw[y]; exact hs.none hp
   .exact hf b (sub b y)
  .refine o2.imp λv d f hf2 ow=>ow.mono (gp (Sub.upd hp) λb z=>?_) λb _ u e=>Sub.upd hp b u e;rcases z with z | z
   .exact .inl (.inl z)
   .rcases bQ z with y | y
    .rw[y]; exact .inr hp
    .exact .inl (.inr y)
where
 evals_length {a:Sl}:∀{irs:aF} {xs:aw},evals G cl a irs=.ok xs->xs.length=irs.length
  | [],xs,h=>by rw[dI] at h; cases h; rfl
  | ir::irs,xs,h=>by
   rw[b9] at h;cases e1:Ip.eval G cl a ir with
   | bad=>rw[e1] at h; cases h
   | ok x=>
    cases e2:evals G cl a irs with
    | bad=>rw[e1,e2] at h; cases h
    | ok ys=>
     rw[e1,e2] at h;cases h;rw[List.length_cons,List.length_cons,evals_length e2]
def GH (hl:irs.length<=1000)(h:PA X es (bW W G cl irs E)):PE X (.Tuple es k pos) (bi W G cl (.op .tup irs) E):=by
 refine (vV h).mono λσ H Q hZz=>?_;obtain⟨N,a,hN,hS,q⟩:=hZz;refine⟨N,a,hN,hS,?_⟩;rw[dH] at q;cases e:evals G cl a irs with
 | bad=>rw[e] at q; exact q
 | ok xs=>
  simp only[e,Ip.R.bind,Ip.R.of,Ip.E6] at q;rintro vs H1 ⟨hs,fp,nd,hf,o⟩;have hx:xs.length=irs.length:=rE.evals_length e;refine⟨?_,λp hp=>?_⟩
  .rw[o.length,hx];exact bv hl (by decide)
  obtain⟨fq,nd2,sub,o2⟩:=o.join nd λb hb z=>hN b z (hf b hb);refine q _ _ ⟨hs.trans (Sub.upd hp),fq,nd2,λb z=>hf b (sub b z),p,vs,rfl,SqT.of (bh.mpr ⟨λz=>?_,dc⟩),?_⟩
  .rcases z with z | z
   .exact (hN.mono hs) p z hp
   .exact o.dom p (sub p z) hp
  .refine o2.imp λv d f hf2 ow=>ow.mono (gp (Sub.upd hp) λb z=>.inl z) λb _ u e=>Sub.upd hp b u e
end
section
variable {X:Cx}{W:Wd}{G:Pg}{cl:Nat->aw->Ip.Run}{E:St->XK}{σ:St}{H:Hp}
def F0 (h:PE X e (dY i)):PE X e (bi W G cl (.var i) E):=h.mono λσ H Q ⟨N,a,hN,hS,q⟩=>by
 rw[Ip.mF] at q;cases e:a[i]? with
 | none=>rw[e] at q; exact q.elim
 | some o=>
  cases o with
  | none=>rw[e] at q; exact q.elim
  | some d=>
   rw[e] at q;obtain⟨v,h1,h2⟩:=hS i d e;exact⟨v,h1,q v H (Res.of_den (Sub.refl _) h2)⟩
def nD (hd:d.flat=true)(hv:∀S,Den W S v d)(h:PE X e (tC v)):PE X e (bi W G cl (.cst d) E):=h.mono λσ H Q ⟨N,a,hN,hS,q⟩=>by
 rw[Ip.oR] at q;exact q v H (Res.of_flat (Sub.refl _) hd (hv _))
def bS (W:Wd)(G:Pg)(cl:Nat->aw->Ip.Run)(ir:Ex)(E:St->XK):TT:=λσ H Q=>∃(N:Addr->Prop) (a:Sl),NOk N H/\RelS W (hid N H) a σ/\match (Ip.eval G cl a ir).bl with
 | .ok b=>∀H',Sub H H'->Q b H'
 | .bad=>False
def RelS.grow (hS:RelS W (hid N H) a σ)(hs:Sub H H1):RelS W (hid N H1) a σ:=hS.mono (gp hs λ_ z=>.inl z)
def me (h:bS W G cl ir E σ H Q):bi W G cl ir E σ H (λx H1=>∃c,x=.bl c/\Q c H1):=by
 obtain⟨N,a,hN,hS,h⟩:=h;refine⟨N,a,hN,hS,?_⟩;cases e:Ip.eval G cl a ir with
 | bad=>rw[e] at h; exact h
 | ok x=>
  obtain⟨k,d⟩:=x;rw[e] at h;intro v H' r;cases d <;> try (exact h.elim)
  have:=(r.den hN).bl_inv;subst this;exact⟨_,rfl,h H' r.1⟩
def xa (h:PE X e (bi W G cl ir E))(he:∀whole,isTrue e X.env whole=(do let v <-whole; standAt e.pos; holding [v] (truthy v))):PT X e (bS W G cl ir E):=
 (EC h he).mono λσ H Q q=>me q
def iq {α β:Type}{r:Ip.R α}{f:α->Ip.R β}{b:β}(h:r.bind f=.ok b):∃a,r=.ok a/\f a=.ok b:=by
 cases r with
 | ok a=>exact⟨a,rfl,h⟩
 | bad=>cases h
def FL (h:bS W G cl (.and x y) E σ H Q):kf (bS W G cl x E) (bS W G cl y E) σ H Q:=by
 obtain⟨N,a,hN,hS,h⟩:=h;rw[ma] at h;unfold kf;refine⟨N,a,hN,hS,?_⟩;cases e:Ip.eval G cl a x with
 | bad=>rw[e] at h; exact h
 | ok v=>
  obtain⟨k,d⟩:=v;rw[e] at h;cases d <;> try (exact h.elim)
  rename_i b;intro H1 hs;cases b with
  | false=>exact h H1 hs
  | true=>
   rw[if_pos rfl];refine⟨N,a,hN.mono hs,hS.grow hs,?_⟩;simp only[Ip.R.bind,ji,if_true] at h;cases e2:(Ip.eval G cl a y).bl with
   | bad=>rw[e2] at h; exact h
   | ok b=>rw[e2] at h; exact λH' hs2=>h H' (hs.trans hs2)
def F7 (h:bS W G cl (.or x y) E σ H Q):rO (bS W G cl x E) (bS W G cl y E) σ H Q:=by
 obtain⟨N,a,hN,hS,h⟩:=h;rw[nu] at h;unfold rO;refine⟨N,a,hN,hS,?_⟩;cases e:Ip.eval G cl a x with
 | bad=>rw[e] at h; exact h
 | ok v=>
  obtain⟨k,d⟩:=v;rw[e] at h;cases d <;> try (exact h.elim)
  rename_i b;intro H1 hs;cases b with
  | true=>exact h H1 hs
  | false=>
   rw[if_neg (by decide)];refine⟨N,a,hN.mono hs,hS.grow hs,?_⟩;simp only[Ip.R.bind,ji,Ia,if_false] at h;cases e2:(Ip.eval G cl a y).bl with
   | bad=>rw[e2] at h; exact h
   | ok b=>rw[e2] at h; exact λH' hs2=>h H' (hs.trans hs2)
def zw (h:bS W G cl (.op .not [x]) E σ H Q):j9 (bS W G cl x E) σ H Q:=by
 obtain⟨N,a,hN,hS,h⟩:=h;rw[dH,b9,dI] at h;unfold j9;refine⟨N,a,hN,hS,?_⟩;cases e:Ip.eval G cl a x with
 | bad=>rw[e] at h; exact h
 | ok v=>
  obtain⟨k,d⟩:=v;rw[e] at h;cases d <;> first | exact h | exact h.elim
def ET (h:bi W G cl (.and x y) E σ H Q):gE (bi W G cl x E) (bi W G cl y E) σ H Q:=by
 obtain⟨N,a,hN,hS,h⟩:=h;rw[ma] at h;unfold gE;refine⟨N,a,hN,hS,?_⟩;cases e:Ip.eval G cl a x with
 | bad=>rw[e] at h; exact h
 | ok v=>
  obtain⟨k,d⟩:=v;rw[e] at h;cases d <;> try (exact h.elim)
  rename_i b;intro v H1 r;have:=(r.den hN).bl_inv;subst this;have hs:=r.1;refine⟨b,rfl,?_⟩;cases b with
  | false=>exact h _ _ (Res.of_flat hs rfl .bl)
  | true=>
   rw[if_pos rfl];refine⟨N,a,hN.mono hs,hS.grow hs,?_⟩;simp only[Ip.R.bind,ji,if_true] at h;cases e2:Ip.eval G cl a y with
   | bad=>rw[e2] at h; exact h
   | ok b=>rw[e2] at h; exact λv H' r2=>h v H' (r2.trans hs)
def pZ (h:bi W G cl (.or x y) E σ H Q):kd (bi W G cl x E) (bi W G cl y E) σ H Q:=by
 obtain⟨N,a,hN,hS,h⟩:=h;rw[nu] at h;unfold kd;refine⟨N,a,hN,hS,?_⟩;cases e:Ip.eval G cl a x with
 | bad=>rw[e] at h; exact h
 | ok v=>
  obtain⟨k,d⟩:=v;rw[e] at h;cases d <;> try (exact h.elim)
  rename_i b;intro v H1 r;have:=(r.den hN).bl_inv;subst this;have hs:=r.1;refine⟨b,rfl,?_⟩;cases b with
  | true=>exact h _ _ (Res.of_flat hs rfl .bl)
  | false=>
   rw[if_neg (by decide)];refine⟨N,a,hN.mono hs,hS.grow hs,?_⟩;simp only[Ip.R.bind,ji,Ia,if_false] at h;cases e2:Ip.eval G cl a y with
   | bad=>rw[e2] at h; exact h
   | ok b=>rw[e2] at h; exact λv H' r2=>h v H' (r2.trans hs)
def zm (h:bi W G cl (.ite c x y) E σ H Q):pX (bS W G cl c E) (bi W G cl x E) (bi W G cl y E) σ H Q:=by
 obtain⟨N,a,hN,hS,h⟩:=h;rw[Ip.pV] at h;unfold pX;refine⟨N,a,hN,hS,?_⟩;cases e:Ip.eval G cl a c with
 | bad=>rw[e] at h; exact h
 | ok v=>
  obtain⟨k,d⟩:=v;rw[e] at h;cases d <;> try (exact h.elim)
  rename_i b;intro H1 hs;cases b with
  | true=>
   rw[if_pos rfl];refine⟨N,a,hN.mono hs,hS.grow hs,?_⟩;simp only[Ip.R.bind,ji,if_true] at h;cases e2:Ip.eval G cl a x with
   | bad=>rw[e2] at h; exact h
   | ok b=>rw[e2] at h; exact λv H' r2=>h v H' (r2.trans hs)
  | false=>
   rw[if_neg (by decide)];refine⟨N,a,hN.mono hs,hS.grow hs,?_⟩;simp only[Ip.R.bind,ji,Ia,if_false] at h;cases e2:Ip.eval G cl a y with
   | bad=>rw[e2] at h; exact h
   | ok b=>rw[e2] at h; exact λv H' r2=>h v H' (r2.trans hs)
def vc (h:bi W G cl (.chain o p x y z) E σ H Q) :
  en (λx y=>rD W G o [x,y]) (λx y=>rD W G p [x,y]) (bi W G cl x E) (bi W G cl y E) (bi W G cl z E) σ H Q:=by
 obtain⟨N,a,hN,hS,h⟩:=h;rw[Ip.qU] at h;unfold en;refine gr hN hS (λx1 ex v H1 fp hs nd hf ow hN1 hS1=>?_) λee=>?_
 .refine gr hN1 hS1 (λy1 ey w H2 fq hs2 nd2 hf2 ow2 hN2 hS2=>?_) λee=>?_
  .simp only[ex,ey,Ip.R.bind] at h;have hN':=hN.mono (hs.trans hs2);have dx:=ow.later hN hs2 hf λ_ y=>y;have dy:=ow2.later (hN.mono hs) (Sub.refl _) hf2 λ_ y=>.inl y;cases q:bw G o [x1,y1] with
   | none=>simp only[q,Ip.R.of] at h
   | some b=>
    simp only[q,Ip.R.of] at h;refine⟨N,[x1,y1],b,hN',.cons dx (.cons dy .nil),q,λv2 H3 r3=>?_⟩;obtain⟨kb,b⟩:=b;cases b <;> try (exact h.elim)
    rename_i b;have:=(r3.den hN').bl_inv;subst this;have hs3:=(hs.trans hs2).trans r3.1;refine⟨b,rfl,?_⟩;cases b with
    | false=>exact h _ _ (Res.of_flat hs3 rfl .bl)
    | true=>
     rw[if_pos rfl];simp only[ji,if_true] at h;refine gr (hN.mono hs3) (hS.grow hs3) (λz1 ez u H4 fz hs4 nd4 hf4 ow4 hN4 hS4=>?_) λee=>?_
     .simp only[ez] at h;cases q2:bw G p [y1,z1] with
      | none=>simp only[q2] at h
      | some t=>
       simp only[q2] at h;exact⟨N,[y1,z1],t,hN.mono (hs3.trans hs4),.cons (dy.mono (gp (r3.1.trans hs4) λ_ z=>.inl z)) (.cons (ow4.later (hN.mono hs3) (Sub.refl _) hf4 λ_ y=>y) .nil),q2,λv H' r=>h v H' (r.trans (hs3.trans hs4))⟩
     .simp only[ee] at h
  .simp only[ex,ee,Ip.R.bind] at h
 .simp only[ee,Ip.R.bind] at h
end
def ItD (W:Wd)(N:Addr->Prop)(H1:Hp)(J:It)(ds:ax):Prop:=∀(M:Addr->Prop) (H:Hp),Sub (hid N H1) (hid M H)->NOk M H->∀i:Nat,
 (∀d,ds[i]? = some d->J.go i H/\∀x H',J.yld i H x H'->Sub H H'/\Den W (hid M H') x d)/\(ds.length<=i->J.stop i H)
section
variable {X:Cx}{W:Wd}{G:Pg}{cl:Nat->aw->Ip.Run}{E:St->XK}
def ka (h:Sub H H'):Sub (hid N H) (hid N H'):=gp h λ_ z=>.inl z
def fW (W:Wd)(G:Pg)(cl:Nat->aw->Ip.Run)(wk:Wk)(irs:aF)(E:St->XK):TI:=λσ H R=>∃(N:Addr->Prop) (a:Sl),NOk N H/\RelS W (hid N H) a σ/\match evals G cl a irs with
 | .ok vs=>(match cV wk vs with
  | some ds=>∀J H',Sub H H'->ItD W N H' J ds->(wk.rng=true->∀M,ItD W M H' J ds)->R J H'
  | none=>False)
 | .bad=>False
def PI.mono (h:PI X tg iter t)(k:∀σ H R,t' σ H R->t σ H R):PI X tg iter t':=λpins s σ H R I q=>h pins s σ H R I (k σ H R q)
def ItD.list (hK:W.K=X.K)(h:Rd (hid N H1) a (.lst vs))(q:Dens W (hid N H1) vs ds):ItD W N H1 (sW X.K a) ds:=λM H hs hN i=>by
 have hq:SqL X.K H a vs:=.inl (Rd.sub (hs.trans bF) h);refine⟨λd e=>?_,λhl=>⟨vs,hq,by rw[q.length]; exact hl⟩⟩;obtain⟨v,e1,e2⟩:=q.get e;refine⟨⟨vs,v,hq,e1⟩,λx H' hZz=>?_⟩;obtain⟨hH,hx⟩:=hZz;subst hH;have:=hx vs hq;rw[e1] at this;cases this;exact⟨Sub.refl _,e2.mono hs⟩
def ItD.tup (hK:W.K=X.K)(h:SqT W.K (hid N H1) a vs)(q:Dens W (hid N H1) vs ds):ItD W N H1 (sX X.K a) ds:=λM H hs hN i=>by
 have hq:SqT X.K H a vs:=hK ▸ SqT.sub (hs.trans bF) h;refine⟨λd e=>?_,λhl=>⟨vs,hq,by rw[q.length]; exact hl⟩⟩;obtain⟨v,e1,e2⟩:=q.get e;refine⟨⟨vs,v,hq,e1⟩,λx H' hZz=>?_⟩;obtain⟨hH,hx⟩:=hZz;subst hH;have:=hx vs hq;rw[e1] at this;cases this;exact⟨Sub.refl _,e2.mono hs⟩
def AF (hK:W.K=X.K)(h:PE X e (bi W G cl ir E)):PI X tg e (fW W G cl .seq [ir] E):=by
 rintro pins s σ H R I ⟨N,a,hN,hS,q⟩;rw[b9,dI] at q;cases e1:Ip.eval G cl a ir with
 | bad=>rw[e1] at q; exact q.elim
 | ok x=>
  obtain⟨k,d⟩:=x;rw[e1] at q;simp only[show cV .seq [(k,d)]=d.seq from rfl] at q;cases e2:d.seq with
  | none=>rw[e2] at q; exact q.elim
  | some ds=>
   rw[e2] at q;cases d <;> first | exact (bX e2).elim | simp only[D.seq] at e2
   .cases e2;refine Ed h pins s σ H R I ⟨N,a,hN,hS,?_⟩;rw[e1];intro v H' r;have dv:=r.den hN;cases dv with | @lst b vs _ h1 h2=>?_
    exact⟨b,rfl,⟨vs,.inl (Rd.sub bF h1)⟩,q _ _ r.1 (ItD.list hK h1 h2) λz=>nomatch z⟩
   .cases e2;refine Cs h pins s σ H R I ⟨N,a,hN,hS,?_⟩;rw[e1];intro v H' r;have dv:=r.den hN;cases dv with | @tup b vs _ h1 h2=>?_
    exact⟨b,rfl,⟨vs,hK ▸ SqT.sub bF h1⟩,q _ _ r.1 (ItD.tup hK h1 h2) λz=>nomatch z⟩
theorem ItD.range {N:Addr->Prop}{H1:Hp}{lo:Int}{n:Nat}:ItD W N H1 (kT lo n) ((List.range n).map λ(i:Nat)=>.int (lo+i)):=λM H hs hN i=>by
 refine⟨λd e=>?_,λhl=>?_⟩;rotate_left
 .show n<=i;simpa using hl
 rw[HR] at e;obtain⟨j,e1,e2⟩:=cA e;have hi:i<n:=by have:=(dg e1).1; simpa using this
 rw[List.getElem?_range hi] at e1;cases e1;subst e2;refine⟨hi,λx H' hZz=>?_⟩;obtain⟨hH,hx⟩:=hZz;subst hH hx;exact⟨Sub.refl _,.int⟩
def wk_rng1 (h:cV .rng1 xs=some ds):∃k j,xs=[(k,.int j)]/\(-(2 ^ 62)<=j/\j<2 ^ 62)/\ds=(List.range j.toNat).map λ(n:Nat)=>.int n:=by
 obtain⟨⟨k,d⟩,rfl,h2⟩:=Ip.qZ (f:=Ip.i6) h;obtain⟨j,e1,h3⟩:=dR (show (fX d).bind _=some ds from h2);clear h h2;obtain rfl:=Ip.tG e1;by_cases hj:cn j=true
 .rw[if_pos hj] at h3;cases h3;exact⟨k,j,rfl,dA.mp hj,rfl⟩
 .rw[if_neg hj] at h3; exact (bX h3).elim
def wk_rng2 (h:cV .rng2 xs=some ds):∃k l i j,xs=[(k,.int i),(l,.int j)]/\(-(2 ^ 62)<=i/\i<2 ^ 62 /\ -(2 ^ 62)<=j/\j<2 ^ 62)/\ds=(List.range (j - i).toNat).map λ(n:Nat)=>.int (i+n):=by
 obtain⟨⟨k,d⟩,⟨l,e⟩,rfl,h2⟩:=Ip.vb (f:=Ip.i9) h;obtain⟨i,e1,h3⟩:=dR (show (fX d).bind _=some ds from h2);obtain⟨j,e2,h4⟩:=dR h3;clear h h2 h3;obtain rfl:=Ip.tG e1;obtain rfl:=Ip.tG e2;by_cases hj:cn i=true/\cn j=true
 .rw[if_pos hj] at h4;cases h4;exact⟨k,l,i,j,rfl,⟨(dA.mp hj.1).1,(dA.mp hj.1).2,(dA.mp hj.2).1,(dA.mp hj.2).2⟩,rfl⟩
 .rw[if_neg hj] at h4; exact (bX h4).elim
def qg {d:D}{xs:ax}(h:d.lstO=some xs):d=.lst xs:=by
 cases d <;> simp only[D.lstO] at h <;> cases h
 rfl
def AC {d:D}{xs:ax}(h:d.seq=some xs):d=.lst xs\/d=.tup xs:=by
 cases d <;> simp only[D.seq] at h <;> cases h
 .exact .inl rfl
 .exact .inr rfl
def wk_enum (h:cV .enum xs=some ds):∃k d es,xs=[(k,d)]/\(d=.lst es\/d=.tup es)/\ds=es.mapIdx λn d=>.tup [.int n,d]:=by
 obtain⟨⟨k,d⟩,rfl,h2⟩:=Ip.qZ (f:=Ip.ja) h;obtain⟨es,e1,e2⟩:=cA (show d.seq.map _=some ds from h2);exact⟨k,d,es,rfl,AC e1,e2.symm⟩
def FJ {xs:aw}{ds:ax}(h:cV .rev xs=some ds):∃k us,xs=[(k,.lst us)]/\ds=us.reverse:=by
 obtain⟨⟨k,d⟩,rfl,h2⟩:=Ip.qZ (f:=Ip.iN) h;obtain⟨us,e1,e2⟩:=cA (show d.lstO.map _=some ds from h2);cases qg e1;exact⟨k,us,rfl,e2.symm⟩
def wk_zip (h:cV .zip xs=some ds):∃k l d e us ws,xs=[(k,d),(l,e)]/\d=.lst us/\e=.lst ws/\ds=(us.zip ws).map λp=>.tup [p.1,p.2]:=by
 obtain⟨⟨k,d⟩,⟨l,e⟩,rfl,h2⟩:=Ip.vb (f:=Ip.nv) h;obtain⟨us,e1,e2⟩:=dR (show d.lstO.bind _=some ds from h2);obtain⟨ws,e3,e4⟩:=cA e2;exact⟨k,l,d,e,us,ws,rfl,qg e1,qg e3,e4.symm⟩
def nH (h:fW W G cl wk irs E σ H R)
  (k:∀(N:Addr->Prop) xs ds,cV wk xs=some ds->NOk N H->(∀J H',Sub H H'->ItD W N H' J ds->(wk.rng=true->∀M,ItD W M H' J ds)->R J H')->∀vs H',Sub H H'->Dens W (hid N H') vs (xs.map (·.2))->Q vs H'):bW W G cl irs E σ H Q:=by
 obtain⟨N,a,hN,hS,q⟩:=h;refine⟨N,a,hN,hS,?_⟩;cases e1:evals G cl a irs with
 | bad=>rw[e1] at q; exact q
 | ok xs=>
  rw[e1] at q;simp only at q;cases e2:cV wk xs with
  | none=>rw[e2] at q; exact q.elim
  | some ds=>
   rw[e2] at q;exact λvs H' r=>k N xs ds e2 hN q vs H' r.1 (r.dens hN)
def Br {tg e:Expr}{ir:Ex}{p pos:Pos}(hg:Gl X "range")(hm:X.mg "range" = none)(h:PA X [e] (bW W G cl [ir] E))(hs:starEach [e] X.env=[(false,PySem.eval e X.env)]):PI X tg (.Call (.Name "range" p) [e] [] pos) (fW W G cl .rng1 [ir] E):=by
 refine (Hx hg hm h hs).mono λσ H R q=>nH q λN xs ds e2 hN q vs H' hs dv=>?_;obtain⟨k,j,rfl,hj,rfl⟩:=wk_rng1 e2;obtain⟨v,rfl,h1⟩:=Dens.one dv;rw[h1.int_inv];have rr:∀M,ItD W M H' (kT 0 j.toNat) ((List.range j.toNat).map λ(n:Nat)=>.int n):=λM=>by
  have:=ItD.range (W:=W) (N:=M) (H1:=H') (lo:=0) (n:=j.toNat);simpa using this
 exact⟨j,rfl,hj.1,hj.2,q _ _ hs (rr N) λ_ M=>rr M⟩
def Bw (hg:Gl X "range")(hm:X.mg "range" = none)(h:PA X [e,e'] (bW W G cl [ir,ir'] E))(hs:starEach [e,e'] X.env=[(false,PySem.eval e X.env),(false,PySem.eval e' X.env)])(hs2:starEach [e'] X.env=[(false,PySem.eval e' X.env)]):PI X tg (.Call (.Name "range" p) [e,e'] [] pos) (fW W G cl .rng2 [ir,ir'] E):=by
 refine (G7 hg hm h hs hs2).mono λσ H R q=>nH q λN xs ds e2 hN q vs H' hs dv=>?_;obtain⟨k,l,i,j,rfl,hj,rfl⟩:=wk_rng2 e2;obtain⟨v,w,rfl,h1,h2⟩:=Dens.two dv;rw[h1.int_inv,h2.int_inv];exact⟨i,j,rfl,hj,q _ _ hs ItD.range λ_ _=>ItD.range⟩
def ItD.enum (hK:W.K=X.K)(h:Rd (hid N H1) a (.lst vs))(q:Dens W (hid N H1) vs ds):ItD W N H1 (sY X.K a) (ds.mapIdx λn d=>.tup [.int n,d]):=λM H hs hN i=>by
 have hq:SqL X.K H a vs:=.inl (Rd.sub (hs.trans bF) h);refine⟨λd e=>?_,λhl=>⟨vs,hq,by rw[q.length]; simpa using hl⟩⟩;rw[IQ] at e;obtain⟨d',e0,rfl⟩:=cA e;obtain⟨v,e1,e2⟩:=q.get e0;refine⟨⟨vs,v,hq,e1⟩,λx H' hZz=>?_⟩;obtain⟨y,p,hx,hp,hH,hy⟩:=hZz;have:=hy vs hq;rw[e1] at this;cases this;subst hx hH;exact⟨Sub.upd hp,.tup (SqT.of (bh.mpr ⟨λz=>hN p z hp,dc⟩)) (.cons .int (.cons (e2.mono (hs.trans (ka (Sub.upd hp)))) .nil))⟩
def ItD.enumT (hK:W.K=X.K)(h:SqT W.K (hid N H1) a vs)(q:Dens W (hid N H1) vs ds):ItD W N H1 (jx X.K a) (ds.mapIdx λn d=>.tup [.int n,d]):=λM H hs hN i=>by
 have hq:SqT X.K H a vs:=by rw[<-hK]; exact SqT.sub (hs.trans bF) h
 refine⟨λd e=>?_,λhl=>⟨vs,hq,by rw[q.length]; simpa using hl⟩⟩;rw[IQ] at e;obtain⟨d',e0,rfl⟩:=cA e;obtain⟨v,e1,e2⟩:=q.get e0;refine⟨⟨vs,v,hq,e1⟩,λx H' hZz=>?_⟩;obtain⟨y,p,hx,hp,hH,hy⟩:=hZz;have:=hy vs hq;rw[e1] at this;cases this;subst hx hH;exact⟨Sub.upd hp,.tup (SqT.of (bh.mpr ⟨λz=>hN p z hp,dc⟩)) (.cons .int (.cons (e2.mono (hs.trans (ka (Sub.upd hp)))) .nil))⟩
theorem ItD.zip (hK:W.K=X.K)(h:Rd (hid N H1) a (.lst vs))(q:Dens W (hid N H1) vs ds)(h':Rd (hid N H1) b (.lst ws))(q':Dens W (hid N H1) ws es) :
  ItD W N H1 (uc X.K a b) ((ds.zip es).map λp=>.tup [p.1,p.2]):=λM H hs hN i=>by
 have hq:SqL X.K H a vs:=.inl (Rd.sub (hs.trans bF) h);have hq':SqL X.K H b ws:=.inl (Rd.sub (hs.trans bF) h');refine⟨λd e=>?_,λhl=>?_⟩
 .rw[HR] at e;obtain⟨⟨d1,d2⟩,e0,rfl⟩:=cA e;obtain⟨e1,e2⟩:=List.getElem?_zip_eq_some.mp e0;obtain⟨v,f1,f2⟩:=q.get e1;obtain⟨w,g1,g2⟩:=q'.get e2;refine⟨⟨vs,ws,v,w,hq,hq',f1,g1⟩,λx H' hZz=>?_⟩;obtain⟨y,z,p,hx,hp,hH,hy,hz⟩:=hZz;have t1:=hy vs hq;have t2:=hz ws hq';rw[f1] at t1;rw[g1] at t2;cases t1;cases t2;subst hx hH;exact⟨Sub.upd hp,.tup (SqT.of (bh.mpr ⟨λz=>hN p z hp,dc⟩)) (.cons (f2.mono (hs.trans (ka (Sub.upd hp)))) (.cons (g2.mono (hs.trans (ka (Sub.upd hp)))) .nil))⟩
 .refine⟨vs,ws,hq,hq',?_⟩;rw[q.length,q'.length];simp only[HG,List.length_zip] at hl;omega
def ItD.rev (h:Rd (hid N H1) a (.lst vs))(q:Dens W (hid N H1) vs ds):ItD W N H1 (rA X.K a vs.length) ds.reverse:=λM H hs hN i=>by
 have hq:SqL X.K H a vs:=.inl (Rd.sub (hs.trans bF) h);have ln:=q.length;refine⟨λd e=>?_,λhl=>?_⟩
 .have hi:i<ds.length:=by simpa using (dg e).1
  rw[List.getElem?_reverse hi,<-ln] at e;obtain⟨v,e1,e2⟩:=q.get e;refine⟨⟨by omega,vs,v,hq,e1⟩,λx H' hZz=>?_⟩;obtain⟨hH,hx⟩:=hZz;subst hH;have:=hx vs hq;rw[e1] at this;cases this;exact⟨Sub.refl _,e2.mono hs⟩
 .show vs.length<=i;rw[ln]; simpa using hl
def BB (hK:W.K=X.K)(hg:Gl X "enumerate")(hm:X.mg "enumerate" = none)(hv:bootBuiltins "enumerate" = some (.type "enumerate"))(h:PA X [e] (bW W G cl [ir] E))(hs:starEach [e] X.env=[(false,PySem.eval e X.env)]) :
  PI X (.Tuple es k1 tp) (.Call (.Name "enumerate" p) [e] [] pos) (fW W G cl .enum [ir] E):=by
 refine (Az hg hm hv h hs).mono λσ H R q=>nH q λN xs ds e2 hN q vs H' hs dv=>?_;obtain⟨k,d,us,rfl,hd,rfl⟩:=wk_enum e2;obtain⟨v,rfl,h0⟩:=Dens.one dv;rcases hd with rfl | rfl
 .have h0':Den W (hid N H') v (.lst us):=h0;cases h0' with | @lst a ws _ h1 h2=>?_
  exact .inl ⟨a,ws,rfl,.inl (Rd.sub bF h1),q _ _ hs (ItD.enum hK h1 h2) λz=>nomatch z⟩
 .have h0':Den W (hid N H') v (.tup us):=h0;cases h0' with | @tup a ws _ h1 h2=>?_
  exact .inr ⟨a,ws,rfl,by rw[<-hK]; exact SqT.sub bF h1,q _ _ hs (ItD.enumT hK h1 h2) λz=>nomatch z⟩
def CJ (hg:Gl X "reversed")(hm:X.mg "reversed" = none)(hv:bootBuiltins "reversed" = some (.type "reversed"))(h:PA X [e] (bW W G cl [ir] E))(hs:starEach [e] X.env=[(false,PySem.eval e X.env)]) :
  PI X tg (.Call (.Name "reversed" p) [e] [] pos) (fW W G cl .rev [ir] E):=by
 refine (Dx hg hm hv h hs).mono λσ H R q=>nH q λN xs ds e2 hN q vs H' hs dv=>?_;obtain⟨k,us,rfl,rfl⟩:=FJ e2;obtain⟨v,rfl,h0⟩:=Dens.one dv;have h0':Den W (hid N H') v (.lst us):=h0;cases h0' with | @lst a ws _ h1 h2=>?_
 exact⟨a,ws,rfl,.inl (Rd.sub bF h1),q _ _ hs (ItD.rev h1 h2) λz=>nomatch z⟩
def zD (hK:W.K=X.K)(hg:Gl X "zip")(hm:X.mg "zip" = none)(hv:bootBuiltins "zip" = some (.type "zip"))(h:PA X [e,e'] (bW W G cl [ir,ir'] E))
  (hs:starEach [e,e'] X.env=[(false,PySem.eval e X.env),(false,PySem.eval e' X.env)])(hs2:starEach [e'] X.env=[(false,PySem.eval e' X.env)]) :
  PI X (.Tuple es k1 tp) (.Call (.Name "zip" p) [e,e'] [] pos) (fW W G cl .zip [ir,ir'] E):=by
 refine (B0 hg hm hv h hs hs2).mono λσ H R q=>nH q λN xs ds e2 hN q vs H' hs dv=>?_;obtain⟨k,l,d,e,us,ws,rfl,rfl,rfl,rfl⟩:=wk_zip e2;obtain⟨v,w,rfl,h0,g0⟩:=Dens.two dv;have h0':Den W (hid N H') v (.lst us):=h0;have g0':Den W (hid N H') w (.lst ws):=g0;cases h0' with | @lst a vs' _ h1 h2=>?_
 cases g0' with | @lst b ws' _ g1 g2=>?_
 exact⟨a,b,vs',ws',rfl,.inl (Rd.sub bF h1),.inl (Rd.sub bF g1),q _ _ hs (ItD.zip hK h1 h2 g1 g2) λz=>nomatch z⟩
def iZ:ak->kB
 | []=>mH
 | i::is=>iO (fw i) (iZ is)
def gT (K:bn):Tg->TG
 | .one i=>fw i
 | .many is=>λv σ H Q=>mC K is.length (iZ is) v σ H Q\/nM K is.length (iZ is) v σ H Q
theorem RelS.set (h:RelS W S a σ)(hi:i < σ.length)(hd:Den W S v d):RelS W S (a.set i (some d)) (σ.set i (some v)):=λj e hj=>by
 by_cases z:i=j
 .subst z;by_cases y:i<a.length
  .rw[Ie y] at hj;cases hj;exact⟨v,Ie hi,hd⟩
  .rw[Ik (by rw[Io]; omega)] at hj; cases hj
 .rw[HX z] at hj;rw[HX z];exact h j e hj
def RelS.skip (h:RelS W S a σ)(hi:∀d,a[i]?≠some (some d)):RelS W S a (σ.set i (some v)):=λj e hj=>by
 by_cases z:i=j
 .subst z; exact absurd hj (hi e)
 .rw[HX z]; exact h j e hj
theorem xA:∀{is:ak} {vs:av} {ds:ax} {a:Sl} {σ:St} {Q:St->Hp->Prop},Dens W S vs ds->ds.length=is.length->(∀i∈is,i < σ.length)->(∀i∈is,∀d,a0[i]?≠some (some d))->RelS W S a σ->RelS W S a0 σ ->
  (∀σ',RelS W S (Ip.bJ id is ds a) σ'->RelS W S a0 σ'->σ'.length=σ.length->Q σ' H)->iZ is vs σ H Q
 | [],_,_,a,σ,Q,.nil,_,_,_,h,h0,k=>⟨rfl,k σ h h0 rfl⟩
 | [],_,_,_,_,_,.cons _ _,hl,_,_,_,_,_=>by simp at hl
 | i::is,_,_,_,_,_,.nil,hl,_,_,_,_,_=>by simp at hl
 | i::is,_,_,a,σ,Q,.cons hd q,hl,hi,ha,h,h0,k=>by
  refine⟨_,_,rfl,?_⟩;show iZ is _ (σ.set i (some _)) H Q;refine xA q (by simpa using hl) (λj hj=>by rw[Io]; exact hi j (bM _ hj)) (λj hj=>ha j (bM _ hj)) (h.set (hi i bN) hd) (h0.skip (ha i bN)) λσ' h1 h2 h3=>k σ' h1 h2 (by rw[h3,Io])
def FZ (hK:W.K=X.K)(hd:Den W (hid N H) v d)(hi:∀i∈cZ tg,i < σ.length)(ha:∀i∈cZ tg,∀d,a0[i]?≠some (some d))(h0:RelS W (hid N H) a0 σ)
  (hb:dL id a0 tg d=some a1)(k:∀σ',RelS W (hid N H) a1 σ'->RelS W (hid N H) a0 σ'->σ'.length=σ.length->Q σ' H):gT X.K tg v σ H Q:=by
 cases tg with
 | one i=>
  simp only[dL] at hb;cases hb;exact k _ (h0.set (hi i (by simp[cZ])) hd) (h0.skip (ha i (by simp[cZ]))) (by rw[Io])
 | many is=>
  cases hd <;> first | exact (bX hb).elim | simp only[dL] at hb
  rename_i a vs ds h1 h2;by_cases hl:ds.length=is.length
  .rw[if_pos hl] at hb;cases hb;exact .inl ⟨a,vs,rfl,hK ▸ SqT.sub bF h1,h2.length.trans hl,xA h2 hl hi ha h0 h0 k⟩
  .rw[if_neg hl] at hb; cases hb
theorem yc:∀{ds:ax} {zs:aw},aW f ds=.ok zs->∀i d,ds[i]? = some d->∃o z1,f d=.ok o/\aW f (ds.take i)=.ok z1/\aW f (ds.take (i+1))=.ok (z1++o.toList)
 | [],_,_,i,d,e=>by simp at e
 | x::xs,zs,h,i,d,e=>by
  rw[aW] at h;obtain⟨o,ho,h⟩:=iq h;obtain⟨ys,hy,h⟩:=iq h;cases i with
  | zero=>
   simp at e;subst e;refine⟨o,[],ho,rfl,?_⟩;rw[List.take_succ_cons,List.take_zero,aW,ho,Ip.R.bind,aW,Ip.R.bind];cases o <;> rfl
  | succ i=>
   obtain⟨o2,z1,h1,h2,h3⟩:=yc hy i d (by simpa using e);refine⟨o2,_,h1,by rw[List.take_succ_cons,aW,ho,Ip.R.bind,h2,Ip.R.bind],?_⟩;rw[List.take_succ_cons,aW,ho,Ip.R.bind,h3,Ip.R.bind];cases o <;> rfl
def GA (caps:List aC)(h:RelS W S a σ):RelS W S (caps.map (cJ a)) (caps.map (iH σ)):=λi d e=>by
 rw[HR] at e;obtain⟨o,e1,e2⟩:=cA e;cases o with
 | none=>cases e2
 | some j=>
  have e3:a[j]? = some (some d):=by
   have:(a[j]?).join=some d:=e2;cases q:a[j]? with
   | none=>rw[q] at this; cases this
   | some r=>rw[q] at this; rw[show r=some d from this]
  obtain⟨v,h1,h2⟩:=h j d e3;refine⟨v,?_,h2⟩;rw[HR,e1];show some ((σ[j]?).join)=some (some v);rw[h1];rfl
theorem OwnV.snoc (h:Own W S H x.1 v x.2 f):∀{vs xs fp},OwnV W S H vs xs fp->OwnV W S H (vs++[v]) (xs++[x]) (fp++f):=by
 intro _ _ _ hZ;cases hZ with
 | nil=>simpa using OwnV.cons h .nil
 | cons h0 q=>
  rw[List.cons_append,List.cons_append,Jx];exact .cons h0 (OwnV.snoc h q)
theorem vU:∀{ds:ax} {zs:aw},aW f ds=.ok zs->zs.length<=ds.length
 | [],_,h=>by cases h; exact bC _
 | x::xs,zs,h=>by
  rw[aW] at h;obtain⟨o,ho,h⟩:=iq h;obtain⟨ys,hy,h⟩:=iq h;cases h;have:=vU hy;cases o <;> simp <;> omega
def rK (W:Wd)(G:Pg)(cl:Nat->aw->Ip.Run):aF->TT
 | []=>gQ
 | [t]=>bS W G cl t λ_ _ _ _=>False
 | _=>λ_ _ _=>False
def eJ (N:Addr->Prop)(l:Addr)(fp:ao):Addr->Prop:=λb=>(N b\/b=l)\/b∈fp
abbrev tP (W:Wd)(F:D->Ip.R az)(A:Ip.Sl)(n:Nat)(ds:ax)(N:Addr->Prop)(l:Addr)(H1:Hp)(i:Nat)(ys:av)(σ:St)(H:Hp):Prop:=∃(z1:aw) (fp:ao),aW F (ds.take i)=.ok z1/\fp.Nodup/\l∉fp/\(∀b∈fp,H1 b=none)/\OwnV W (hid (eJ N l fp) H) H ys z1 fp/\H l=some (.lst ys)/\Sub H1 H/\RelS W (hid (eJ N l fp) H) A σ/\σ.length=n
def vi (hK:W.K=X.K)(hidx:∀i∈cZ tg,caps[i]? = some none)(h:bi W G cl (.comp caps tg wk it ts x) E σ H Q) :
  f9 (fW W G cl wk it E) caps (gT X.K tg) (rK W G cl ts) (bi W G cl x λ_ _ _ _=>False) σ H Q:=by
 obtain⟨N,a,hN,hS,h⟩:=h;rw[la] at h;unfold f9;refine⟨N,a,hN,hS,?_⟩;cases e1:evals G cl a it with
 | bad=>rw[e1] at h; exact h
 | ok vs=>
  rw[e1] at h;simp only[Ip.R.bind] at h;cases e2:cV wk vs with
  | none=>rw[e2] at h; exact h.elim
  | some ds=>
   rw[e2] at h;simp only at h;by_cases hl:ds.length<=SL
   rotate_left
   .rw[if_neg hl] at h; exact h.elim
   rw[if_pos hl] at h;cases e3:aW (compF G cl (caps.map (cJ a)) tg ts x) ds with
   | bad=>rw[e3] at h; exact h.elim
   | ok zs=>
    rw[e3] at h;simp only[e2];intro J H1 hs1 hJ _ l hl1;have hN1:=hN.mono hs1;have a0n:∀i∈cZ tg,∀d,(caps.map (cJ a))[i]?≠some (some d):=λi hi d z=>by
     rw[HR,hidx i hi] at z; cases z
    have ilt:∀i∈cZ tg,i<caps.length:=λi hi=>(dg (hidx i hi)).1;refine⟨λi m ys σ Hc=>m=ds.length - i/\i<=ds.length/\tP W (compF G cl (caps.map (cJ a)) tg ts x) (caps.map (cJ a)) caps.length ds N l H1 i ys σ Hc,
     ⟨ds.length,by simp,ID _,[],[],rfl,.nil,by simp,λb z=>by simp at z,.nil,dc,Sub.upd hl1,?_,by simp⟩,?_⟩
    .refine (GA caps (hS.grow hs1)).mono (gp (Sub.upd hl1) λb z=>?_);rcases z with (z | z) | z
     .exact .inl z
     .rw[z]; exact .inr hl1
     .simp at z
    rintro i m ys σ1 Hc ⟨rfl,hi,z1,fp,ez,nd,lf,hf,ow,hcl,hs2,hS2,hlen⟩;have hNc:NOk (eJ N l fp) Hc:=λb z=>by
     rcases z with (z | z) | z
     .exact (hN1.mono hs2) b z
     .rw[z,hcl]; simp
     .exact ow.dom b z
    have hsub:Sub (hid N H1) (hid (eJ N l fp) Hc):=gp hs2 λb z=>by
     rcases z with (z | z) | z
     .exact .inl z
     .rw[z]; exact .inr hl1
     .exact .inr (hf b z)
    obtain⟨J1,J2⟩:=hJ (eJ N l fp) Hc hsub hNc i;by_cases hlt:i<ds.length
    .obtain⟨o,z1',f1,f2,f3⟩:=yc e3 i ds[i] (by simp[hlt]);rw[ez] at f2;cases f2;obtain⟨Jg,Jy⟩:=J1 ds[i] (by simp[hlt]);refine .inr ⟨Jg,λys σ' H'=>tP W (compF G cl (caps.map (cJ a)) tg ts x) (caps.map (cJ a)) caps.length ds N l H1 (i+1) ys σ' H',
      λys' σ' H' p'=>⟨ds.length - (i+1),by omega,rfl,hlt,p'⟩,λv H' hy=>?_⟩
     obtain⟨s3,dx⟩:=Jy v H' hy;unfold compF at f1;cases eb:dL id (caps.map (cJ a)) tg ds[i] with
     | none=>rw[eb] at f1; cases f1
     | some a1=>
      rw[eb] at f1;simp only at f1;have hN3:=hNc.mono s3;refine FZ hK dx (λj hj=>by rw[hlen]; exact ilt j hj) a0n (hS2.grow s3) eb λσ2 r1 r0 hl2=>?_;have hlen2:σ2.length=caps.length:=hl2.trans hlen;have takeIt:∀y H4,Sub H' H4->Ip.eval G cl a1 x=.ok y->o=some y->bi W G cl x (λ_ _ _ _=>False) σ2 H4 λv H5=>∃ys',H5 l=some (.lst ys')/\ys'.length<sizeLine /\
        tP W (compF G cl (caps.map (cJ a)) tg ts x) (caps.map (cJ a)) caps.length ds N l H1 (i+1) (ys'++[v]) σ2 (upd H5 l (.lst (ys'++[v]))):=by
       intro y H4 s4 ey ho;refine⟨eJ N l fp,a1,hN3.mono s4,r1.grow s4,?_⟩;rw[ey];rintro v H5 ⟨s5,fq,nd5,hf5,ow5⟩;have sc5:Sub Hc H5:=(s3.trans s4).trans s5;have l4:H4 l≠none:=by rw[(s3.trans s4) l _ hcl]; simp
       have lq:l∉fq:=λz=>l4 (hf5 l z);have up:∀b,b≠l->(upd H5 l (.lst (ys++[v]))) b=H5 b:=λb z=>ca z;have big:Sub (hid (eJ N l fp) Hc) (hid (eJ N l (fp++fq)) (upd H5 l (.lst (ys++[v])))):=λb u e=>by
        obtain⟨g1,g2⟩:=bh.mp e;have bl:b≠l:=λz=>g1 (.inl (.inr z));refine bh.mpr ⟨λz=>?_,by rw[up b bl]; exact sc5 b u g2⟩;rcases z with z | z
        .exact g1 (.inl z)
        .rcases cO z with z | z
         .exact g1 (.inr z)
         .have:=hf5 b z;rw[(s3.trans s4) b u g2] at this;cases this
       refine⟨ys,sc5 l _ hcl,?_,z1++[y],fp++fq,by rw[f3,ho]; rfl,?_,?_,?_,?_,dc,?_,?_,hlen2⟩
       .rw[ow.length];have:=vU ez;rw[Ir] at this;have h2:SL<sizeLine:=by decide
        omega
       .refine HV.mpr ⟨nd,nd5,λb hb c hc z=>?_⟩;subst z;have h1:=ow.dom b hb;cases hq:Hc b with
        | none=>exact h1 hq
        | some u=>
         have:=hf5 b hc;rw[(s3.trans s4) b u hq] at this;cases this
       .intro z;rcases cO z with z | z
        .exact lf z
        .exact lq z
       .intro b z;rcases cO z with z | z
        .exact hf b z
        .exact (hs2.trans (s3.trans s4)).none (hf5 b z)
       .refine OwnV.snoc (ow5.mono (λb u e=>?_) λb hb u e=>?_) (ow.mono big λb hb u e=>?_)
        .obtain⟨g1,g2⟩:=bh.mp e;have bl:b≠l:=λz=>g1 (.inl (.inl (.inr z)));refine bh.mpr ⟨λz=>?_,by rw[up b bl]; exact g2⟩;rcases z with z | z
         .exact g1 (.inl (.inl z))
         .rcases cO z with z | z
          .exact g1 (.inl (.inr z))
          .exact g1 (.inr z)
        .rw[up b λz=>lq (z ▸ hb)]; exact e
        .rw[up b λz=>lf (z ▸ hb)]; exact sc5 b u e
       .intro b u e;rw[up b λz=>by rw[z,hl1] at e; cases e];exact (hs2.trans sc5) b u e
       .refine RelS.mono (λb u e=>?_) r0;obtain⟨g1,g2⟩:=bh.mp e;have bl:b≠l:=λz=>g1 (.inl (.inr z));refine bh.mpr ⟨λz=>?_,by rw[up b bl]; exact (s4.trans s5) b u g2⟩;rcases z with z | z
        .exact g1 (.inl z)
        .rcases cO z with z | z
         .exact g1 (.inr z)
         .have:=hf5 b z;rw[s4 b u g2] at this;cases this
      match ts,f1 with
      | [],f1=>
       simp only[dI,Ip.R.bind] at f1;cases ey:Ip.eval G cl a1 x with
       | bad=>rw[ey] at f1; cases f1
       | ok y=>
        rw[ey] at f1;cases f1;have t:=takeIt y H' (Sub.refl _) ey rfl;simp only[rK,gQ,if_true];exact t
      | [t],f1=>
       simp only[dI,b9,Ip.R.bind] at f1;refine⟨eJ N l fp,a1,hN3,r1,?_⟩;cases et:Ip.eval G cl a1 t with
       | bad=>rw[et] at f1; cases f1
       | ok tv=>
        obtain⟨kt,tv⟩:=tv;rw[et] at f1;simp only at f1;cases tv <;> simp only[Ip.gD] at f1 <;> try (cases f1; done)
        rename_i b;intro H4 s4;cases b with
        | true=>
         rw[if_pos rfl];simp only[if_true] at f1;cases ey:Ip.eval G cl a1 x with
         | bad=>rw[ey] at f1; cases f1
         | ok y=>
          rw[ey] at f1;cases f1;exact takeIt y H4 s4 ey rfl
        | false=>
         rw[if_neg (by decide)];simp only[Ia,if_false] at f1;cases f1;have sc4:Sub Hc H4:=s3.trans s4;exact⟨z1,fp,by rw[f3]; simp,nd,lf,hf,ow.mono (ka sc4) λb _ u e=>sc4 b u e,sc4 l _ hcl,hs2.trans sc4,r0.grow s4,hlen2⟩
      | _::_::_,f1=>
       exfalso;obtain⟨us,h1,h2⟩:=iq f1;simp only[b9] at h1;obtain⟨u1,_,h1⟩:=iq h1;obtain⟨u2,h3,h1⟩:=iq h1;obtain⟨u4,_,h3⟩:=iq h3;obtain⟨u5,_,h3⟩:=iq h3;cases h1;cases h3;simp only at h2;cases h2
    .have e:i=ds.length:=by omega
     subst e;rw[Jm (KM _),e3] at ez;cases ez;obtain⟨fq,nd2,sub,o2⟩:=OwnV.join (N:=λb=>N b\/b=l) nd (λb hb z=>z.elim (λy=>hN1 b y (hf b hb)) λy=>lf (y ▸ hb)) ow;refine .inl ⟨J2 (bC _),h _ _ ⟨hs1.trans hs2,l::fq,HZ.mpr ⟨λz=>lf (sub l z),nd2⟩,λb z=>?_,l,ys,fq,rfl,hcl,?_,rfl⟩⟩
     .rcases bQ z with y | y
      .rw[y]; exact hs1.none hl1
      .exact hs1.none (hf b (sub b y))
     .refine o2.imp λv d f hf2 ow=>ow.mono (λb u e=>?_) λb _ u e=>e;obtain⟨g1,g2⟩:=bh.mp e;refine bh.mpr ⟨λz=>g1 ?_,g2⟩;rcases z with z | z
      .exact .inl (.inl z)
      .rcases bQ z with y | y
       .exact .inl (.inr y)
       .exact .inr y
end
def AZ (W:Wd)(G:Pg)(n f:Nat):Sp:=λvs H Q E=>∃(N:Addr->Prop) (xs:aw),NOk N H/\Dens W (hid N H) vs (xs.map (·.2))/\match Ip.run G n f xs with
 | .ret k d []=>∀v H',Res W H N H' (k,d) v->Q v H'
 | _=>False
def Hy (W:Wd)(G:Pg)(n f:Nat):Sp:=λvs H Q E=>∃(N:Addr->Prop) (x0:KD) (xs:aw) (v0:V) (ws:av) (f0:ao),vs=v0::ws/\NOk N H/\f0.Nodup/\(∀b∈f0,¬N b) /\
 Own W (hid (λb=>N b\/b∈f0) H) H x0.1 v0 x0.2 f0/\Dens W (hid (λb=>N b\/b∈f0) H) ws (xs.map (·.2))/\match Ip.run G n f (x0::xs) with
 | .ret k d [y]=>∀v H' (fp:ao),Sub (hid (λb=>b∈f0) H) H'->fp.Nodup->(∀b∈fp,hid (λb=>b∈f0) H b=none)->Own W (hid (λb=>N b\/b∈fp) H') H' y.1 v0 y.2 fp->(d=.non->v=.non)->Q v H'
 | _=>False
def gx (W:Wd)(G:Pg)(n f:Nat)(F:Fn):Sp:=λvs H Q E=>(F.io=[]/\AZ W G n f vs H Q E)\/(F.io=[0]/\Hy W G n f vs H Q E)
def wK (hF:G.fn f=some F)(h:Ip.run G n f xs≠.bad):xs.length=F.np:=by
 cases n with
 | zero=>exact absurd rfl h
 | succ n=>
  rw[Ip.run,hF] at h;by_cases e:xs.length=F.np
  .exact e
  .simp only[if_neg e] at h; exact absurd rfl h
def qW (hF:G.fn f=some F)(h:gx W G n f F vs H Q E):vs.length=F.np:=by
 rcases h with ⟨_,N,xs,_,d,q⟩ | ⟨_,N,x0,xs,v0,ws,f0,rfl,_,_,_,_,d,q⟩
 .have:=wK (xs:=xs) hF (λz=>by rw[z] at q; exact q);rw[d.length,HG]; exact this
 .have:=wK (xs:=x0::xs) hF (λz=>by rw[z] at q; exact q);rw[List.length_cons,d.length,HG]; simpa using this
section
variable {X:Cx}{W:Wd}{G:Pg}{n:Nat}{E:St->XK}{σ:St}{H:Hp}{Q:VK}
def kJ {irs:aF}{cl:Nat->aw->Ip.Run}{Q:av->Hp->Prop}{N:Addr->Prop}{a:Sl}(hN:NOk N H)(hS:RelS W (hid N H) a σ)
  (ok:∀xs,evals G cl a irs=.ok xs->∀vs H1,Sub H H1->Dens W (hid N H1) vs (xs.map (·.2))->Q vs H1)
  (nb:evals G cl a irs≠.bad):bW W G cl irs E σ H Q:=by
 refine⟨N,a,hN,hS,?_⟩;cases q:evals G cl a irs with
 | bad=>exact absurd q nb
 | ok xs=>exact λvs H1 r=>ok xs q vs H1 r.1 (r.dens hN)
noncomputable def cX (F:Fn)(m:Nat):ax:=F.dfl.drop (F.dfl.length - (F.np - m))
theorem EV (F:Fn)(xs:aw):Ip.fill F xs=xs++(cX F xs.length).map λd=>(99,d):=rfl
def sr (F:Fn)(xs:aw):(Ip.fill F xs).map (·.2)=xs.map (·.2)++cX F xs.length:=by
 rw[EV,Ij,IW];congr 1
 exact List.map_id _
def n5 (h:evals G cl a irs=.ok xs):xs.length=irs.length:=rE.evals_length h
def yr (h:di G f k=some F):G.fn f=some F/\F.io=[]/\k<=F.np/\F.np - k<=F.dfl.length:=by
 unfold di at h;cases q:G.fn f with
 | none=>rw[q] at h; cases h
 | some F'=>
  rw[q] at h;simp only at h;by_cases c:F'.io=[]/\k<=F'.np/\F'.np - k<=F'.dfl.length
  .rw[if_pos c] at h; cases h; exact⟨rfl,c⟩
  .rw[if_neg c] at h; cases h
def xr (h:cj G m k d=some (f,F)):∃c fs Cl',d=.ins c fs/\G.cl c=some Cl'/\Cl'.meths.lookup m=some f/\G.fn f=some F/\F.io=[]/\fs.lookup m=none/\k+1<=F.np/\F.np - (k+1)<=F.dfl.length:=by
 cases d <;> first | exact (bX h).elim | simp only[cj] at h
 rename_i c fs;cases q1:G.cl c with
 | none=>rw[q1] at h; cases h
 | some Cl'=>
  rw[q1] at h;simp only at h;cases q2:Cl'.meths.lookup m with
  | none=>rw[q2] at h; cases h
  | some f'=>
   rw[q2] at h;simp only at h;cases q3:G.fn f' with
   | none=>rw[q3] at h; cases h
   | some F'=>
    rw[q3] at h;simp only at h;by_cases c1:F'.io=[]/\fs.lookup m=none/\k+1<=F'.np/\F'.np - (k+1)<=F'.dfl.length
    .rw[if_pos c1] at h;cases h;exact⟨c,fs,Cl',rfl,q1,q2,q3,c1⟩
    .rw[if_neg c1] at h; cases h
def u7 (hF:di G f es.length=some F)(hd:∀S,Dens W S dvs (cX F es.length))(h:bi W G (Ip.run G n) (.call f es) E σ H Q):fZ (gx W G n f F) dvs E (bW W G (Ip.run G n) es E) σ H Q:=by
 obtain⟨N,a,hN,hS,h⟩:=h;obtain⟨_,hio,_⟩:=yr hF;rw[nP,hF] at h;simp only[Ip.R.bind] at h;unfold fZ;refine kJ hN hS (λxs ex vs H1 hs dv=>?_) λee=>?_
 .rw[ex] at h;simp only at h;refine .inl ⟨hio,N,Ip.fill F xs,hN.mono hs,?_,?_⟩
  .rw[sr,n5 ex];exact dv.append (hd _)
  .cases q:Ip.run G n f (Ip.fill F xs) with
   | bad=>rw[q] at h; exact h
   | ret k d outs=>
    rw[q] at h;cases outs with
    | nil=>exact λv H' r=>h v H' (r.trans hs)
    | cons _ _=>exact h
 .rw[ee] at h; exact h
theorem Al (nd:W.att.Nodup)(hnm:W.att[m]? = some nm)(hC:W.iA c=some C)(hd:∀S,Dens W S dvs (cX F (es.length+1)))
 (hN:NOk N H)(hS:RelS W (hid N H) a σ)(ho:Ip.eval G (Ip.run G n) a io=.ok (k,.ins c fs0))(hm:cj G m es.length (.ins c fs0)=some (f,F))
    (h:match Ip.eval G (Ip.run G n) a (.meth m io es) with
      | .ok x=>∀v H',Res W H N H' x v->Q v H'
      | .bad=>False):fF C nm (gx W G n f F) dvs E (bi W G (Ip.run G n) io E) (bW W G (Ip.run G n) es E) σ H Q:=by
  obtain⟨_,_,_,e0,_,_,_,hio,hfl,_⟩:=xr hm;cases e0;rw[lQ,ho] at h;simp only[Ip.R.bind,hm,Ip.R.of] at h;unfold fF;refine⟨N,a,hN,hS,?_⟩;rw[ho];intro v H1 r;have dv:=r.den hN;have hs:=r.1;cases dv with | @ins b C' dx _ fs ds hb hc' hf=>?_
  rw[hC] at hc';cases hc';have hb1:=bh.mp hb;refine⟨b,dx,fs,rfl,hb1.2,(hf.lookup nd hnm).2 hfl,?_⟩;refine kJ (hN.mono hs) (hS.grow hs) (λxs ex vs H2 hs2 dv2=>?_) λee=>?_
  . rw[ex] at h;simp only at h;refine .inl ⟨hio,N,Ip.fill F ((k,.ins c fs0)::xs),hN.mono (hs.trans hs2),?_,?_⟩
    . rw[sr,List.length_cons,n5 ex];exact (Dens.cons ((Den.ins hb hC hf).mono (ka hs2)) dv2).append (hd _)
    . cases q2:Ip.run G n f (Ip.fill F ((k,.ins c fs0)::xs)) with
      | bad=>rw[q2] at h; exact h
      | ret k d outs=>
        rw[q2] at h;cases outs with
        | nil=>exact λv H' r=>h v H' (r.trans (hs.trans hs2))
        | cons _ _=>exact h
  . rw[ee] at h; exact h
end
structure InsC (K:bn)(C:Addr):Prop where
 cls:Cls K C
 ha:PySem.W.findIn K (.ref C) "__class__" = some (some (.builtin "object.__class__"))
 hn:PySem.W.specialIn K (.builtin "object.__class__") "__get__" = some (some (.builtin "getset_descriptor.__get__"))
 htk:PySem.W.takesIn K (.builtin "object.__class__")=some true
 hm:PySem.W.mroIn K C (.type "object")=some true
structure CF (W:Wd)(fl:ak):Prop where
 nd:W.att.Nodup
 ins:∀c C,W.iA c=some C->InsC W.K C/\∀f n,f∈fl->W.att[f]? = some n->NoAttr W.K C n
section
variable {X:Cx}{W:Wd}{G:Pg}{cl:Nat->aw->Ip.Run}{E:St->XK}{fl:ak}
def Ea (hK:W.K=X.K)(cf:CF W fl)(hk:k∈fl)(hn:W.att[k]? = some n)(ho:PE X o (bi W G cl io E))(hb:attributeBase o n X.env (PySem.eval o X.env)=PySem.eval o X.env):PE X (.Attribute o n pos) (bi W G cl (.op (.fld k) [io]) E):=by
 refine (z9 ho hb).mono λσ H Q hZz=>?_;obtain⟨N,a,hN,hS,q⟩:=hZz;rw[dH,b9,dI] at q;cases e1:Ip.eval G cl a io with
 | bad=>rw[e1] at q; exact q.elim
 | ok x=>
  obtain⟨kx,d⟩:=x;rw[e1] at q;simp only[Ip.R.bind,Ip.DU,b7] at q;cases d <;> simp only[Ip.ii] at q <;> try (exact q.elim)
  .rename_i c fs;cases e2:fs.lookup k with
   | none=>rw[e2] at q; exact q.elim
   | some d=>
    rw[e2] at q;refine⟨N,a,hN,hS,?_⟩;rw[e1];intro v H1 r;have dv:=r.den hN;cases dv with | @ins b C dx _ vs ds hb hc hf=>?_
    obtain⟨w,l1,dw⟩:=(hf.lookup cf.nd hn).1 d e2;obtain⟨ic,na⟩:=cf.ins c C hc;exact⟨b,C,dx,vs,w,rfl,(bh.mp hb).2,hK ▸ ic.cls,hK ▸ na k n hk hn,l1,q _ _ (Res.of_den r.1 dw)⟩
noncomputable def nF (W:Wd):D->aA
 | .non=>some (.type "NoneType")
 | .bl _=>some (.type "bool")
 | .int _=>some (.type "int")
 | .str _=>some (.type "str")
 | .lst _=>some (.type "list")
 | .tup _=>some (.type "tuple")
 | .ins c _=>(W.iA c).map .ref
def Fz {pins:ah}{σ:St}{H:Hp}{s:Shared}{A:Around}{E:Value->Shared->Prop}{Q:Value->Shared->Prop}{c:Value}{b:Bool}{x:V}{u t:Value}{d:D}(hK:W.K=X.K)(cf:CF W fl)(I:Inv X pins σ H s)(rx:RelV x u)(hd:Den W H x d)(ht:nF W d=some t)
  (e:PySem.W.kitOne X.K t c=some b)(h:∀tk,Q (.bool b) { s with toks:=tk }):wpAny (model X.prog X.w) A (call (.builtin "isinstance") [u,c]) Q E s:=by
 cases hd with
 | non=>cases ht; exact jZ I rx .non e h
 | bl=>cases ht; exact jZ I rx (.bl _) e h
 | int=>cases ht; exact jZ I rx (.int _) e h
 | str=>cases ht; exact jZ I rx (.str _) e h
 | lst h1 h2=>
  cases ht;rcases h1 with h1 | ⟨o,h1⟩
  .exact jZ I rx (.lst h1) e h
  .exact jZ I rx (.frz h1) e h
 | @tup a vs ds h1 h2=>
  cases ht;cases (show u=Value.ref a from rx);obtain⟨its,_,⟨o,g1,g2,_⟩,_⟩:=I.tuple (hK ▸ h1);exact IJ PySem.W.kitx_tuple I.kIn ⟨o,g1,g2⟩ e (λz=>nomatch z) h
 | ins h1 hc _=>
  rw[nF,hc] at ht;cases ht;obtain⟨ic,_⟩:=cf.ins _ _ hc;exact jZ I rx (.ins h1 (hK ▸ ic.cls) (hK ▸ ic.ha) (hK ▸ ic.hn) (hK ▸ ic.htk) (hK ▸ ic.hm)) e h
def b8 (W:Wd)(G:Pg)(t:Ip.Ty)(cv:Value):Prop:=∀d tv,nF W d=some tv->PySem.W.kitOne W.K tv cv=some (bq G d t)
def Den.ty (h:Den W S v d):∃t,nF W d=some t:=by
 cases h with
 | ins _ hc _=>exact⟨_,by rw[nF,hc]; rfl⟩
 | _=>exact⟨_,rfl⟩
def E3 {a b:Expr}{ia:Ex}{t:Ip.Ty}{c:V}{cv:Value}{p pos:Pos}(hK:W.K=X.K)(cf:CF W fl)(hc:valOf c=some cv)(hi:b8 W G t cv)(hg:Gl X "isinstance")(hm:X.mg "isinstance" = none)(hv:bootBuiltins "isinstance" = some (.builtin "isinstance"))
  (ha:PE X a (bi W G cl ia E))(hb:PE X b (tC c))(hs1:starEach [a,b] X.env=(false,PySem.eval a X.env)::starEach [b] X.env)(hs2:starEach [b] X.env=(false,PySem.eval b X.env)::starEach [] X.env) :
  PE X (.Call (.Name "isinstance" p) [a,b] [] pos) (bi W G cl (.op (.isi [t]) [ia]) E):=by
 have rule:CallR X (.builtin "isinstance") (λxs H Q=>∃N x d,NOk N H/\xs=[x,c]/\Den W (hid N H) x d/\Q (.bl ([t].any (bq G d))) H):=by
  rintro pins s σ H xs us Q I r ⟨N,x,d,hN,e,hd,q⟩;have e1:[t].any (bq G d)=bq G d t:=by simp
  rw[e1] at q;subst e;obtain⟨u,v,rfl,ru,rv⟩:=vals2 r;have ev:v=cv:=by
   cases c with
   | ref a=>cases hc; exact rv
   | ty n=>cases hc; exact rv
   | _=>cases hc
  subst ev;obtain⟨tv,et⟩:=hd.ty;exact Fz hK cf I ru (hd.mono bF) et (hK ▸ hi d tv et) λtk=>⟨.bl _,H,I.tok _,rfl,q⟩
 refine (jP rule hg hm hv (jn ha (jn hb kW hs2) hs1) (by decide) (by decide) hs1 (by rw[hs2]; rfl)).mono λσ H Q hZz=>?_;obtain⟨N,as,hN,hS,q⟩:=hZz;rw[dH,b9,dI] at q;refine⟨N,as,hN,hS,?_⟩;cases e1:Ip.eval G cl as ia with
 | bad=>rw[e1] at q; exact q.elim
 | ok x=>
  obtain⟨kx,d⟩:=x;rw[e1] at q;intro v H1 r;exact⟨N,v,d,hN.mono r.1,rfl,r.den hN,q _ _ (Res.of_flat r.1 rfl .bl)⟩
inductive Isis (X:Cx) (W:Wd) (G:Pg):au->List Ip.Ty->av->aq->Prop
 | nil:Isis X W G [] [] [] []
 | cons {e:Expr} {es:au} {t:Ip.Ty} {ts:List Ip.Ty} {c:V} {cs:av} {cv:Value} {cvs:aq} (he:PE X e (tC c)) (hs:∀es,starEach (e::es) X.env=(false,PySem.eval e X.env)::starEach es X.env) (hc:valOf c=some cv) (hi:b8 W G t cv) (r:Isis X W G es ts cs cvs):Isis X W G (e::es) (t::ts) (c::cs) (cv::cvs)
def Isis.len (h:Isis X W G es ts cs cvs):cs.length=es.length:=by
 induction h with
 | nil=>rfl
 | cons _ _ _ _ _ ih=>simp[ih]
end
section
variable {X:Cx}{W:Wd}{G:Pg}{n:Nat}{E:St->XK}{σ:St}{H:Hp}{Q:VK}
def xy (h:cD G c k=some (f,F,d)):∃Cl',G.cl c=some Cl'/\Cl'.init=some f/\G.fn f=some F/\d=.ins c []/\F.io=[0]/\k+1<=F.np/\F.np - (k+1)<=F.dfl.length/\k<=50:=by
 unfold cD at h;cases q1:G.cl c with
 | none=>rw[q1] at h; cases h
 | some Cl'=>
  rw[q1] at h;simp only at h;cases q2:Cl'.init with
  | none=>rw[q2] at h; cases h
  | some f'=>
   rw[q2] at h;simp only at h;cases q3:G.fn f' with
   | none=>rw[q3] at h; cases h
   | some F'=>
    rw[q3] at h;simp only at h;by_cases c1:F'.io=[0]/\k+1<=F'.np/\F'.np - (k+1)<=F'.dfl.length/\k<=50
    .rw[if_pos c1] at h;cases h;exact⟨Cl',rfl,q2,q3,rfl,c1⟩
    .rw[if_neg c1] at h; cases h
theorem Fc (hio:F.io=[0])(hnp:xs.length+1<=F.np)
  (hd:∀S,Dens W S dvs (cX F (xs.length+1)))(hN:NOk N H1)(hs:Sub H H1)(dv:Dens W (hid N H1) vs (xs.map (·.2)))(hx:H1 x=none)(h12:∀b,b≠x->∀o,H1 b=some o->H2 b=some o)(h21:∀b,H2 b=none->H1 b=none)
  (ho:Own W (hid (λb=>N b\/b∈[x]) H2) H2 1 (.ref x) d0 [x])
  (h:match Ip.gi (Ip.run G n) (f,F,d0) xs with
   | .ok y=>∀v H',Res W H N H' y v->Q v H'
   | .bad=>False):gx W G n f F (.ref x::(vs++dvs)) H2 (λv H2=>v=.non/\Q (.ref x) H2) (E σ):=by
 simp only[Ip.gi] at h;have hN2:NOk N H2:=λb z q=>hN b z (h21 b q);have hxN:¬N x:=λz=>hN x z hx;have s1:Sub H1 (hid (λb=>b∈[x]) H2):=λb o e=>bh.mpr ⟨(λz=>by rw[HN.mp z,hx] at e; cases e),h12 b (λz=>by rw[z,hx] at e; cases e) o e⟩;have none1:∀b,hid (λb=>b∈[x]) H2 b=none->H1 b=none:=λb z=>s1.none z;refine .inr ⟨hio,N,(1,d0),Ip.fill { F with np:=F.np - 1 } xs,.ref x,vs++dvs,[x],rfl,hN2,by simp,λb hb=>by rw[HN.mp hb]; exact hxN,ho,?_,?_⟩
 .have e:(Ip.fill { F with np:=F.np - 1 } xs).map (·.2)=xs.map (·.2)++cX F (xs.length+1):=by
   rw[sr];congr 1
   unfold cX;show F.dfl.drop (F.dfl.length - (F.np - 1 - xs.length))=_;congr 2
   omega
  rw[e];refine (dv.mono λb o eb=>?_).append (hd _);obtain⟨g1,g2⟩:=bh.mp eb;have bx:b≠x:=λz=>by rw[z,hx] at g2; cases g2
  exact bh.mpr ⟨λz=>z.elim g1 λy=>bx (HN.mp y),h12 b bx o g2⟩
 .cases q:Ip.run G n f ((1,d0)::Ip.fill { F with np:=F.np - 1 } xs) with
  | bad=>rw[q] at h; exact h
  | ret k d outs=>
   rw[q] at h;cases d <;> try (exact h.elim)
   match outs,h with
   | [],h=>exact h.elim
   | _::_::_,h=>exact h.elim
   | [y],h=>
    intro v H' fp g1 nd hf ow hv;exact⟨hv rfl,h _ _ ⟨hs.trans (s1.trans g1),fp,nd,λb hb=>hs.none (none1 b (hf b hb)),ow⟩⟩
def wG (hC:W.iA c=some C)(hm:cD G c es.length=some (f,F,.ins c []))(hd:∀S,Dens W S dvs (cX F (es.length+1)))
  (h:bi W G (Ip.run G n) (.make c es) E σ H Q):f7 C (gx W G n f F) dvs E (bW W G (Ip.run G n) es E) σ H Q:=by
 obtain⟨N,a,hN,hS,h⟩:=h;obtain⟨_,_,_,_,_,hio,hnp,_⟩:=xy hm;rw[ng,hm] at h;simp only[Ip.R.bind] at h;unfold f7;refine kJ hN hS (λxs ex vs H1 hs dv=>?_) λee=>?_
 .rw[ex] at h;intro x dx h1 h2 hne;have hN1:=hN.mono hs;refine Fc (d0:=.ins c []) hio (by rw[n5 ex]; exact hnp) (by rw[n5 ex]; exact hd) hN1 hs dv h1 (λb nb o e=>?_) (λb e=>?_) ⟨x,C,dx,[],[],rfl,dc,hC,.nil,rfl⟩ h
  .rw[ca nb,ca λz=>by rw[z,h2] at e; cases e]; exact e
  .by_cases z:b=x
   .rw[z,dc] at e; cases e
   .rw[ca z] at e;by_cases y:b=dx
    .rw[y,dc] at e; cases e
    .rw[ca y] at e; exact e
 .rw[ee] at h; exact h
end
def tm (h:fQ o=true):attributeBase o f env w=w:=by
 unfold attributeBase;unfold fQ at h;split
 .rename_i heq;simp at h
 .rfl
def eh (h:aO (e::es)=true):(∀x p,e≠.Starred x p)/\aO es=true:=by
 unfold aO at h ⊢;rw[List.all_cons,HF] at h;refine⟨λx p z=>?_,h.2⟩;rw[z] at h;exact absurd (show false=true from h.1) (by decide)
def dm (h:∀x p,e≠.Starred x p):starEach (e::es) env=(false,PySem.eval e env)::starEach es env:=by
 rcases ph e es env with ⟨x,p,z⟩ | q
 .exact absurd z (h x p)
 .exact q
theorem o8:∀{es:au},aO es=true->(backTo pos (starEach es env)).any (·.1)=false
 | [],_=>rfl
 | e::es,h=>by
  obtain⟨h1,h2⟩:=eh h;rw[dm h1];show (false||(backTo pos (starEach es env)).any (·.1))=false;rw[o8 h2]; rfl
theorem pG:∀{es:au},aO es=true->(backTo pos (starEach es env)).all (λx=>!x.1)=true
 | [],_=>rfl
 | e::es,h=>by
  obtain⟨h1,h2⟩:=eh h;rw[dm h1];show (!false&&(backTo pos (starEach es env)).all (λx=>!x.1))=true;rw[pG h2]; rfl
def At (hs:fQ o=true)(ns:aO args=true)(hl:args.length<30)(hp:ap.endLine=cp.line) :
  PySem.eval (.Call (.Attribute o m ap) args [] cp) env=(do
   let ov <-PySem.eval o env
   standAt ap.atName
   let (f,first) <-holding [ov] (getMethod ov m (do return (<-importBound o env).getD true))
   callWith cp f first (backTo cp (starEach args env)) (backToKw cp (keywordEach [] env))):=by
 show (do
  let ov <-attributeBase o m env (PySem.eval o env)
  standAt ap.atName
  methodCall o m ap cp env ov (args.length+0) (backTo cp (starEach args env)) (backToKw cp (keywordEach [] env)))=_
 rw[tm hs];have few:methodCallForm (args.length+0) (backTo cp (starEach args env)) (backToKw cp (keywordEach [] env))=true:=by
  unfold methodCallForm;rw[pG ns];show (true&&true&&decide (args.length+0+0<30))=true;rw[HS (by omega)]; rfl
 have hpos:methodCallPos true o env ap cp=pure cp:=by
  unfold methodCallPos;rw[if_pos (by rw[hp]; simp)]
 unfold methodCall;rw[few];unfold calleeOf;rw[hpos];rfl
noncomputable def rm (n:Nat):Nat:=3 * n+1
def FI (W:Wd)(G:Pg)(n:Nat)(P:Program)(w:World)(mg:Str->aA)(base:Heap)(k:Nat)(F:Fn)(a:Addr):Prop:=
 ∃(fd:FuncData) (ps:ar),FnOk P w W.K mg base (fY P w) (rm n) a fd ps (gx W G n k F)/\∀m,m<=F.np->F.np - m<=F.dfl.length->∃(ds:aq) (dvs:av),Binds W.K fd ps ds/\Vals dvs ds/\∀S,Dens W S dvs (cX F m)
noncomputable def fG:List (Str×Value):=[("len",.builtin "len"),("all",.builtin "all"),("any",.builtin "any"),("isinstance",.builtin "isinstance"),("max",.builtin "max"),("sum",.builtin "sum"),("list",.type "list"),("tuple",.type "tuple"),("range",.type "range"),("enumerate",.type "enumerate"),("zip",.type "zip"),("reversed",.type "reversed"),("int",.type "int"),("sorted",.builtin "sorted"),("set",.type "set")]
def bA (i:Nat)(h:fG[i]? = some x):x∈fG:=HL h
structure GF (W:Wd)(G:Pg)(T:Tb)(n:Nat)(P:Program)(w:World)(mg:Str->aA)(base:Heap):Prop where
 cf:CF W T.fl
 att:W.att=T.att
 blt:∀x v,(x,v)∈fG->mg x=none/\bootBuiltins x=some v
 cst:∀x d,T.cst.lookup x=some d->(x == ("__debug__" : Str))=false/\∃u v,mg x=some u/\RelV v u/\d.flat=true/\∀S,Den W S v d
 fns:∀x k,T.fns.lookup x=some k->(x == ("__debug__" : Str))=false/\∃F a,G.fn k=some F/\mg x=some (.ref a)/\PySem.W.keepIn W.K (.ref a)=true/\FI W G n P w mg base k F a
 cls:∀x c,T.cls.lookup x=some c->(x == ("__debug__" : Str))=false/\∃C,mg x=some (.ref C)/\∀Cl' f F,G.cl c=some Cl'->Cl'.init=some f->G.fn f=some F ->
  ∃a,FI W G n P w mg base f F a/\W.iA c=some C/\Mk W.K C a
 meth:∀c Cl' m f F,G.cl c=some Cl'->Cl'.meths.lookup m=some f->G.fn f=some F->∀nm,W.att[m]? = some nm->∃C a,W.iA c=some C/\Meth W.K C nm a/\FI W G n P w mg base f F a
 isB:∀x t,Ip.jK.lookup x=some t->mg x=none/\x ≠ "__name__" /\ (x == ("__debug__" : Str))=false/\∃nm,bootBuiltins x=some (.type nm)/\b8 W G t (.type nm)
 isC:∀x c,T.cls.lookup x=some c->∃C,mg x=some (.ref C)/\b8 W G (.cls c) (.ref C)
structure Gd (W:Wd)(G:Pg)(T:Tb)(n:Nat)(E:St->XK)(sc:Scope)(N:ar)(X:Cx):Prop where
 gf:GF W G T n X.prog X.w X.mg X.base
 K:W.K=X.K
 vis:∀x,bf sc x=true->sQ X.env.scope x
 loc:∀x,bH sc x=true->Loc X.env.scope x/\(X.fn x=true\/X.env.scope.names.lookup x=some .local)
 gl:∀x,bz sc x=true->Gl X x
 fr:∀x,(sc.names.lookup x=some .cell\/sc.names.lookup x=some .free)->(X.env.scope.names.lookup x=some .cell\/X.env.scope.names.lookup x=some .free)
 nm:X.N=N
 nd:N.Nodup
 calm:X.calm=true
 pass:bO (fY X.prog X.w) X E
 room:Room (rm n+1) X.A
def DY (h:scope.names.lookup x=some k):(relabel scope env).names.lookup x=some k\/(k=.free/\(relabel scope env).names.lookup x=some .cell):=by
 have go:∀(g:Str×NameKind->Str×NameKind),(∀p,g p=p\/(p.2=.free/\g p=(p.1,.cell)))->∀(names:List (Str×NameKind)),names.lookup x=some k->(names.map g).lookup x=some k\/(k=.free/\(names.map g).lookup x=some .cell):=by
  intro g hg names;induction names with
  | nil=>intro h; exact nomatch h
  | cons p r ih=>
   intro h;rw[HQ];obtain⟨n,kn⟩:=p;rw[List.lookup_cons] at h;rcases hg (n,kn) with e | ⟨e1,e2⟩
   .rw[e,List.lookup_cons];cases hx:x == n with
    | true=>rw[hx] at h; exact .inl h
    | false=>rw[hx] at h; exact ih h
   .rw[e2,List.lookup_cons];cases hx:x == n with
    | true=>
     rw[hx] at h;have e1':kn=.free:=e1;exact .inr ⟨by rw[<-Option.some.inj h]; exact e1',rfl⟩
    | false=>rw[hx] at h; exact ih h
 refine go _ (λp=>?_) scope.names h;obtain⟨n,k⟩:=p;by_cases hb:(k == NameKind.free&&env.scope.kind == .function&&env.kindOf n == some .cell)=true
 .refine .inr ⟨?_,if_pos hb⟩;simp only[HF,HU] at hb;exact hb.1.1
 .exact .inl (if_neg hb)
def Gd.block (g:Gd W G T n E sc N X)(hb:c6 sc N (bc scope) (bm N scope) scope=true)(cl:ai)(C:Addr)(s:Shared)(H:Hp)(fp:ao) :
  Gd W G T n (λ_ _ _ _=>False) scope (bc scope) (bt X (bc scope) scope cl C s H fp λ_ _=>False):=by
 have S:=CompS.of (show compOk sc N (bc scope) (bm N scope) scope=true from hb);have look:∀x k,scope.names.lookup x=some k->(relabel scope X.env).names.lookup x=some k\/(k=.free/\(relabel scope X.env).names.lookup x=some .cell):=λx k=>DY;refine⟨g.gf,g.K,λx h=>?_,λx h=>?_,λx h=>?_,λx h=>?_,rfl,S.nd,g.calm,passN,g.room⟩
 .unfold bf at h;simp only[IT,HU] at h;rcases h with (h | h) | h
  .rcases look x _ h with q | ⟨q,_⟩
   .exact .inl q
   .cases q
  .rcases look x _ h with q | ⟨q,_⟩
   .exact .inr (.inl q)
   .cases q
  .rcases look x _ h with q | ⟨_,q⟩
   .exact .inr (.inr q)
   .exact .inr (.inl q)
 .unfold bH at h;simp only[IT,HU] at h;rcases h with h | h
  .rcases look x _ h with q | ⟨q,_⟩
   .exact⟨.inl q,.inr q⟩
   .cases q
  .rcases look x _ h with q | ⟨q,_⟩
   .exact⟨.inr q,.inl (by show (scope.names.lookup x == some NameKind.cell)=true; rw[h]; decide)⟩
   .cases q
 .unfold bz at h;simp only[HU] at h;rcases look x _ h with q | ⟨q,_⟩
  .exact q
  .cases q
 .rcases h with h | h
  .rcases look x _ h with q | ⟨q,_⟩
   .exact .inl q
   .cases q
  .rcases look x _ h with q | ⟨_,q⟩
   .exact .inr q
   .exact .inl q
theorem Gd.compOk (g:Gd W G T n E sc N X)(hb:c6 sc N (bc scope) (bm N scope) scope=true) :
  L2.compOk X.env.scope X.N (bc scope) (bm N scope) scope=true:=by
 rw[g.nm];unfold c6 at hb;unfold L2.compOk;simp only[HF,List.all_eq_true] at hb ⊢;obtain⟨⟨⟨⟨h1,h2⟩,h3⟩,h4⟩,h5⟩:=hb;refine⟨⟨⟨⟨h1,λy hy=>?_⟩,h3⟩,h4⟩,h5⟩;obtain⟨⟨a1,a2⟩,a3⟩:=h2 y hy;refine⟨⟨a1,a2⟩,?_⟩;simp only[IT,bne_iff_ne,ne_eq,HU] at a3 ⊢;rcases a3 with a3 | a3
 .exact .inl a3
 .exact .inr (g.fr y.1 a3)
section
variable {X:Cx}{W:Wd}{G:Pg}{T:Tb}{n:Nat}{E:St->XK}{σ:St}{H:Hp}{sc:Scope}{N:ar}
def rY (d:D):(∃i,d=.int i)\/∀i,d≠.int i:=by
 cases d with
 | int i=>exact .inl ⟨i,rfl⟩
 | _=>exact .inr λi z=>by cases z
def vI {cl:Nat->aw->Ip.Run}{o:Op}{x y:Ex}{Q:VK}{lo hi:Int->Option Int}(ho:∀u v:KD,bw G o [u,v]=match v.2 with | .int i=>cutOp (lo i) (hi i) u.2 | _=>none)(h:bi W G cl (.op o [x,y]) E σ H Q) :
  bi W G cl x E σ H λv H1=>bi W G cl y E σ H1 λw H2=>∃i,w=.int i/\jS W v (lo i) (hi i) H2 Q:=by
 obtain⟨N,a,hN,hS,h⟩:=h;refine gr hN hS (λu eu v H1 fp hs nd hf ow hN1 hS1=>?_) λee=>?_
 .refine gr hN1 hS1 (λu2 eu2 w H2 fq hs2 nd2 hf2 ow2 hN2 hS2=>?_) λee=>?_
  .simp only[dH,dI,b9,eu,eu2,Ip.R.bind,ho] at h;have dv:=ow.later hN hs2 hf λ_ y=>y;have dw:=ow2.later (hN.mono hs) (Sub.refl _) hf2 λ_ y=>.inl y;obtain⟨k2,d2⟩:=u2;rcases rY d2 with ⟨i,rfl⟩ | ni
   .simp only at h;cases q:cutOp (lo i) (hi i) u.2 with
    | none=>rw[q] at h; exact h.elim
    | some z=>
     rw[q] at h;exact⟨i,dw.int_inv,N,u.2,z,hN.mono (hs.trans hs2),dv,q,λv H' r=>h v H' (r.trans (hs.trans hs2))⟩
   .cases d2 <;> first | exact h.elim | exact absurd rfl (ni _)
  .simp only[dH,b9,eu,ee,Ip.R.bind] at h
 .simp only[dH,b9,ee,Ip.R.bind] at h
def Cm (h:bi W G cl (.sl2 x y z) E σ H Q) :
  bi W G cl x E σ H λv H1=>bi W G cl y E σ H1 λw H2=>∃i,w=.int i/\bi W G cl z E σ H2 λu H3=>∃j,u=.int j/\jS W v (some i) (some j) H3 Q:=by
 obtain⟨N,a,hN,hS,h⟩:=h;rw[Ip.sv] at h;refine gr hN hS (λu eu v H1 fp hs nd hf ow hN1 hS1=>?_) λee=>?_
 .refine gr hN1 hS1 (λu2 eu2 w H2 fq hs2 nd2 hf2 ow2 hN2 hS2=>?_) λee=>?_
  .have dw:=ow2.later (hN.mono hs) (Sub.refl _) hf2 λ_ y=>.inl y;obtain⟨k2,d2⟩:=u2;simp only[eu,eu2,Ip.R.bind] at h;rcases rY d2 with ⟨i,rfl⟩ | ni
   .refine⟨i,dw.int_inv,?_⟩;have hs3:=hs.trans hs2;simp only at h;refine gr (hN.mono hs3) (hS.grow hs3) (λu3 eu3 w3 H3 fr hs4 nd4 hf4 ow4 hN4 hS4=>?_) λee=>?_
    .have dv:=ow.later hN (hs2.trans hs4) hf λ_ y=>y;have dz:=ow4.later (hN.mono hs3) (Sub.refl _) hf4 λ_ y=>y;obtain⟨k3,d3⟩:=u3;simp only[eu3] at h;rcases rY d3 with ⟨j,rfl⟩ | nj
     .simp only[Ip.jB] at h;cases q:cutOp (some i) (some j) u.2 with
      | none=>rw[q] at h; exact h.elim
      | some t=>
       rw[q] at h;exact⟨j,dz.int_inv,N,u.2,t,hN.mono (hs3.trans hs4),dv,q,λv H' r=>h v H' (r.trans (hs3.trans hs4))⟩
     .cases d3 <;> first | exact h.elim | exact absurd rfl (nj _)
    .simp only[ee] at h
   .cases d2 <;> first | exact h.elim | exact absurd rfl (ni _)
  .simp only[eu,ee,Ip.R.bind] at h
 .simp only[ee,Ip.R.bind] at h
theorem Dens.find (hx:Den W S x d)(sx:d.scal=true):∀{vs:av} {ds:ax},Dens W S vs ds->ds.all D.scal=true->(vs.findIdx? λz=>L2.eqV z x)=d.find ds:=by
 intro _ _ hZ;cases hZ with
 | nil=>exact λ_=>rfl
 | cons h q=>
  intro hs;rw[List.all_cons,HF] at hs;have e:=q.find hx sx hs.2;unfold D.find at e ⊢;rw[JK,JK,h.eqV hx hs.1 sx,e]
def G4 (hK:W.K=X.K)(h:bi W G cl (.op .index [x,y]) E σ H Q):iF X.K "tuple" (jg X.K) (bi W G cl x E) (bW W G cl [y] E) σ H Q:=by
 obtain⟨N,a,hN,hS,h⟩:=h;unfold iF;refine gr hN hS (λu eu v H1 fp hs nd hf ow hN1 hS1=>?_) λee=>?_
 .cases q:Ip.eval G cl a y with
  | bad=>simp only[dH,b9,eu,q,Ip.R.bind] at h
  | ok u2=>
   simp only[dH,dI,b9,eu,q,Ip.R.bind,Ip.zI,bE] at h;cases hz:Ip.ce u.2 u2.2 with
   | none=>rw[hz] at h; exact h.elim
   | some z=>
    rw[hz] at h;obtain⟨xs,ex⟩:=Ip.A8 hz;have dv:=ow.later hN (Sub.refl _) hf λ_ y=>y;rw[ex] at dv hz;cases dv with | @tup l ws _ h1 h2=>?_
    have sq:SqT X.K H1 l ws:=hK ▸ SqT.sub bF h1;refine⟨.inr (.inl ⟨rfl,ws,sq⟩),kJ (hN.mono hs) (hS.grow hs) (λzs ez vs H2 hs2 dz=>?_) λee=>?_⟩
    .simp only[dI,b9,q,Ip.R.bind] at ez;cases ez;obtain⟨w,rfl,dw⟩:=Dens.one dz;rw[Ip.kN] at hz;split at hz
     .rename_i hp;rw[HF] at hp;have h2':=h2.mono (ka (N:=N) hs2);have fi:=Dens.find dw hp.1 h2' hp.2;cases hj:u2.2.find xs with
      | none=>rw[hj] at hz; cases hz
      | some j=>
       rw[hj] at hz;cases hz;exact⟨l,ws,w,j,rfl,rfl,SqT.sub hs2 sq,dw.flatV hp.1,h2'.flatV hp.2,fi.trans hj,h _ _ (Res.trans (hs.trans hs2) Res.int)⟩
     .cases hz
    .simp only[dI,b9,q,Ip.R.bind] at ee;cases ee
 .simp only[dH,b9,ee,Ip.R.bind] at h
def iT (h:bi W G cl (.op o [x]) E σ H Q):kM (λvs=>rD W G o vs) (bW W G cl [x] E) σ H Q:=by
 obtain⟨N,a,hN,hS,h⟩:=h;rw[dH] at h;unfold kM;refine kJ hN hS (λxs ex vs H1 hs dv=>?_) λee=>?_
 .rw[ex] at h;simp only[Ip.R.bind] at h;cases q:bw G o xs with
  | none=>rw[q] at h; exact h.elim
  | some z=>
   rw[q] at h;exact⟨N,xs,z,hN.mono hs,dv,q,λv H' r=>h v H' (r.trans hs)⟩
 .rw[ee] at h; exact h
def GY (h:bi W G cl (.op o [x,y]) E σ H Q):kM (λvs=>rD W G o vs) (bW W G cl [x,y] E) σ H Q:=by
 obtain⟨N,a,hN,hS,h⟩:=h;rw[dH] at h;unfold kM;refine kJ hN hS (λxs ex vs H1 hs dv=>?_) λee=>?_
 .rw[ex] at h;simp only[Ip.R.bind] at h;cases q:bw G o xs with
  | none=>rw[q] at h; exact h.elim
  | some z=>
   rw[q] at h;exact⟨N,xs,z,hN.mono hs,dv,q,λv H' r=>h v H' (r.trans hs)⟩
 .rw[ee] at h; exact h
def BI (hc:X.calm=true):CallR X (.builtin "max") (λxs=>rD W G .max2 xs):=(zQ hc).imp λvs H Q ⟨N,xs,z,hN,hd,hz,hq⟩=>by
 rw[Ip.GT] at hz;cases xs with
 | nil=>cases hz
 | cons x r=>
  cases r with
  | nil=>cases hz
  | cons y t=>
   cases t with
   | cons _ _=>cases hz
   | nil=>
    obtain⟨k,d⟩:=x;obtain⟨l,e⟩:=y;simp only[bE] at hz;cases d <;> first | (cases hz; done) | skip
    cases e <;> first | (cases hz; done) | skip
    rename_i i j;simp only[Ip.bG] at hz;obtain⟨v,w,rfl,h1,h2⟩:=Dens.two hd;have e1:=h1.int_inv;have e2:=h2.int_inv;subst e1 e2;cases hz;exact⟨i,j,rfl,hq _ _ Res.int⟩
theorem Vals.nums:∀{is:am} {us:aq},Vals (is.map V.int) us->∃ps:List (Int×Tok),us=ps.map (λp=>.int p.1 p.2)/\ps.map (·.1)=is
 | [],us,r=>by cases r; exact⟨[],rfl,rfl⟩
 | i::is,us,r=>by
  cases r with
  | cons h q=>
   obtain⟨t,rfl⟩:=h;obtain⟨ps,rfl,e⟩:=Vals.nums q;exact⟨(i,t)::ps,rfl,by rw[HQ,e]⟩
theorem rp:∀{ds:ax} {is:am},cw ds=some is->ds=is.map .int
 | [],is,h=>by cases h; rfl
 | d::ds,is,h=>by
  cases d with
  | int i=>
   obtain⟨js,h1,rfl⟩:=cA (show (cw ds).map (λis=>i::is)=some is from h);rw[rp h1]; rfl
  | _=>cases h
theorem Dens.nums:∀{is:am} {ws:av},Dens W S ws (is.map .int)->ws=is.map .int
 | [],_,.nil=>rfl
 | i::is,_,.cons h q=>by rw[h.int_inv,Dens.nums q]; rfl
def Hr (h:xs.toList.map (·.1)=is):∀k,k<=is.length->preSum (numAt xs) k=(is.take k).sum:=by
 have na:∀j,numAt xs j=(is[j]?).getD 0:=λj=>by
  rw[<-h];simp[numAt]
 intro k;induction k with
 | zero=>intro _; simp[preSum]
 | succ k ih=>
  intro hk;have e1:is.take (k+1)=is.take k++[is[k]'(by omega)]:=List.take_succ_eq_append_getElem (by omega);have e2:numAt xs k=is[k]'(by omega):=by rw[na]; simp[show k<is.length by omega]
  rw[preSum,ih (by omega),e2,e1,List.sum_append];simp
theorem uQ:∀is:am,(∀i∈is,0<=i/\i<=10000000)->0<=is.sum/\is.sum<=10000000 * is.length
 | [],_=>by simp
 | i::is,h=>by
  have h1:=h i bN;have ih:=uQ is λj hj=>h j (bM _ hj);rw[List.sum_cons,List.length_cons];omega
def yQ (hc:X.calm=true):CallR X (.builtin "sum") (λxs H Q=>∃(a:Addr) (is:List Int) (S:Hp),xs=[.ref a]/\Sub S H/\Den W S (.ref a) (.lst (is.map .int))/\(∀i∈is,0<=i/\i<=10000000)/\is.length<=1000/\Q (.int is.sum) H):=by
 rintro pins s σ H vs us Q I rs ⟨a,is,S,e,hS,dv,hb,hz,q⟩;subst e;obtain⟨u,rfl,ru⟩:=rs.one;cases ru;cases dv with | @lst l ws _ h1 h2=>?_
 have e2:=h2.nums;subst e2;obtain⟨_,its,n,rv,hlen,eo⟩:=I.rdL (Rd.sub hS h1);obtain⟨ps,rfl,e3⟩:=rv.nums;have hl:s.heap.IsList a (intItems ps.toArray):=⟨_,eo,rfl,n,by simp[intItems]⟩
 have hl3:ps.length=is.length:=by rw[<-HG (·.1),e3]
 have pt:=Hr (xs:=ps.toArray) (is:=is) (by simpa using e3);refine sum_intList (I.ok.hd hc) hl (λj hj=>?_) λh' tk t' kp=>?_
 .have hj':j<is.length:=by simpa[hl3] using hj
  have e4:numAt ps.toArray j=is[j]:=by
   rw[<-show (is[j]?).getD 0=is[j] by simp[hj'],<-e3];simp[numAt]
  have b1:=hb is[j] (Ii hj');have b2:=uQ (is.take (j+1)) λi hi=>hb i (KP hi);have b3:((is.take (j+1)).length:Int)<=1000:=by rw[Ir]; omega
  rw[e4,pt (j+1) (by omega)];unfold InLong;omega
 .have sz:ps.toArray.size=is.length:=by simp[hl3]
  rw[sz,pt is.length (KM _),JD];exact⟨.int is.sum,H,I.kept (t':=tk) kp,⟨_,rfl⟩,q⟩
def By (hc:X.calm=true):CallR X (.builtin "sum") (λxs=>rD W G .sum xs):=(yQ (W:=W) hc).imp λvs H Q ⟨N,xs,z,hN,hd,hz,hq⟩=>by
 rw[Ip.Hb] at hz;obtain⟨v,p,rfl,rfl,dv,ez⟩:=hd.vs1 (o:=.sum) hz;obtain⟨ds,e1,e2⟩:=lJ ez;rw[e1] at dv;obtain⟨is,e3,e4⟩:=dR (show (cw ds).bind _=some z from e2);split at e4
 .rename_i hl;cases e4;rw[rp e3] at dv;cases dv with | @lst a ws _ h1 h2=>?_
  exact⟨a,is,_,rfl,bF,.lst h1 h2,λi hi=>by simpa using dQ hl.1 i hi,hl.2,hq _ _ Res.int⟩
 .cases e4
def xi (h:Den W S v d)(e:Ip.dZ d=x::xs):d=.tup (x::xs):=by
 cases h <;> cases e <;> rfl
def Hv (hK:W.K=X.K)(hs:Sub S H)(h:Den W S v d)(e:Ip.p5 m d=some p):pF X.K m H v p:=by
 cases m with
 | none=>
  obtain⟨is,e1,e2⟩:=dR (show (cw (Ip.dZ d)).bind Ip.xT=some p from e);obtain⟨i,j,rfl⟩:∃i j,is=[i,j]:=by
   match is,e2 with
   | [i,j],_=>exact⟨i,j,rfl⟩
  cases e2;rw[xi h (rp e1)] at h;cases h with | @tup l ws _ h1 h2=>?_
  have e3:=h2.nums (is:=[i,j]);subst e3;exact⟨l,rfl,hK ▸ SqT.sub hs h1⟩
 | some s=>
  obtain⟨t,e1,e2⟩:=dR e;split at e2
  .rename_i hm;cases e2;rw[xi h (Ip.FF e1)] at h;cases h with | @tup l ws _ h1 h2=>?_
   cases h2 with | cons a1 h2=>?_
   cases h2 with | cons a2 h2=>?_
   cases h2 with | cons a3 h2=>?_
   cases h2;cases a1;cases a2;cases a3;exact⟨l,rfl,hm ▸ hK ▸ SqT.sub hs h1⟩
  .cases e2
theorem vt (hK:W.K=X.K)(hs:Sub S H):∀{vs:av} {ds:ax} {m:Option Str} {ps:aH},Dens W S vs ds->dU m ds=some ps->Paired (pF X.K m H) vs ps:=by
 intro _ _ _ _ hZ;cases hZ with
 | nil=>intro e; cases e; exact .nil
 | cons h q=>
  intro e;obtain⟨p,e1,e2⟩:=dR e;obtain⟨ps,e3,rfl⟩:=cA e2;exact .cons (Hv hK hs h e1) (vt hK hs q e3)
def EG (h:Dens W S ws ds):Dens W S (cN .non c ws) (cN .non c ds):=by
 have key:∀l:ak,Dens W S (l.map λi=>ws.getD i .non) (l.map λi=>ds.getD i .non):=λl=>by
  induction l with
  | nil=>exact .nil
  | cons i l ih=>
   refine .cons (show Den W S (ws.getD i .non) (ds.getD i .non) from ?_) ih;cases e:ds[i]? with
   | none=>
    have e2:ws[i]? = none:=by
     rw[List.getElem?_eq_none_iff] at e ⊢;rw[h.length]; exact e
    rw[HM,HM,e,e2];exact .non
   | some d=>
    obtain⟨v,e1,e2⟩:=h.get e;rw[HM,HM,e,e1];exact e2
 unfold cN;rw[h.length];split
 .exact h
 .exact key _
def Cc (hK:W.K=X.K):CallR X (.builtin "sorted") (λxs=>rD W G .srt xs):=zK.imp λvs H Q ⟨N,xs,z,hN,hd,hz,hq⟩=>by
 rw[Ip.yE] at hz;obtain⟨v,p,rfl,rfl,dv,ez⟩:=hd.vs1 (o:=.srt) hz;obtain⟨ds,e1,e2⟩:=lJ ez;rw[e1] at dv;obtain⟨ps,e3,e4⟩:=dR (show (dU (Ip.gI ds) ds).bind _=some z from e2);split at e4
 .rename_i hl;cases e4;cases dv with | @lst a ws _ h1 h2=>?_
  exact⟨a,ws,_,ps,rfl,.inl (Rd.sub bF h1),vt hK bF h2 e3,by rw[h2.length]; exact hl,λq hp=>hq _ _ (Res.newL hp (EG h2))⟩
 .cases e4
def t6 (T:Tb)(sc:Scope)(N:ar)(m:Nat)(x:Expr)(p:Pos):cE T sc N m (.Starred x p)=.bad:=by
 cases m <;> rfl
theorem uI:∀{l:List (Str×α)},l.lookup x=some v->(x,v)∈l
 | [],h=>nomatch h
 | (y,j)::r,h=>by
  rw[List.lookup_cons] at h;cases e:x == y with
  | true=>
   rw[e] at h;rw[HU] at e;cases h;rw[e];exact bN
  | false=>rw[e] at h; exact bM _ (uI h)
theorem vW (g:Gd W G T n E sc N X):∀{es:au} {is:ak},(es.mapM λ(e:Expr)=>match e with
  | .Name x _=>if bH sc x then pos? x N else none
  | _=>none)=some is->lv X es (iZ is)/\(assignEach es X.env).length=is.length/\(assignEach es X.env).findIdx? (·.1)=none
 | [],is,h=>by
  cases h;exact⟨Ar,rfl,rfl⟩
 | e::es,is,h=>by
  rw[List.mapM_cons] at h;cases e with
  | Name x p=>
   by_cases hl:bH sc x=true
   .simp only[hl,if_true] at h;cases q:pos? x N with
    | none=>rw[q] at h; cases h
    | some i=>
     rw[q] at h;cases q2:(es.mapM λ(e:Expr)=>match e with
       | .Name x _=>if bH sc x then pos? x N else none
       | _=>none) with
     | none=>simp[q2] at h
     | some js=>
      simp[q2] at h;subst h;obtain⟨h1,h2,h3⟩:=vW g q2;obtain⟨l1,l2⟩:=g.loc x hl;have hi:X.N[i]? = some x:=by rw[g.nm]; exact pos?_get q
      refine⟨C1 (tV (by rw[g.nm]; exact g.nd) hi l1 l2) h1 rfl,?_,?_⟩
      .show (assignEach es X.env).length+1=js.length+1;rw[h2]
      .show List.findIdx? _ ((false,_)::assignEach es X.env)=none;rw[JK,h3];rfl
   .simp only[hl] at h;cases h
  | _=>cases h
def pz (g:Gd W G T n E sc N X)(h:cM sc N tg=some t):PG X tg (gT X.K t):=by
 cases tg with
 | Name x p=>
  simp only[Ip.xh] at h;by_cases hl:bH sc x=true
  .rw[if_pos hl] at h;obtain⟨i,q,rfl⟩:=cA h;obtain⟨l1,l2⟩:=g.loc x hl;exact tV (by rw[g.nm]; exact g.nd) (by rw[g.nm]; exact pos?_get q) l1 l2
  .rw[if_neg hl] at h; cases h
 | Tuple es k p=>
  simp only[Ip.Do] at h;obtain⟨is,q,rfl⟩:=cA h;obtain⟨h1,h2,h3⟩:=vW g q;exact λpins s σ H v u Q I r hw=>hw.elim (Ad g.calm h1 h2 h3 pins s σ H v u Q I r) (BS g.calm h1 h2 h3 pins s σ H v u Q I r)
 | _=>cases h
end
section
variable {W:Wd}{G:Pg}{T:Tb}{n:Nat}
structure IH (W:Wd)(G:Pg)(T:Tb)(n m:Nat):Prop where
 e:∀{E:St->XK} {sc:Scope} {N:ar} {X:Cx},Gd W G T n E sc N X->∀x,PE X x (bi W G (Ip.run G n) (cE T sc N m x) E)
 t:∀{E:St->XK} {sc:Scope} {N:ar} {X:Cx},Gd W G T n E sc N X->∀x,PT X x (bS W G (Ip.run G n) (cT T sc N m x) E)
 c:∀{E:St->XK} {sc:Scope} {N:ar} {X:Cx},Gd W G T n E sc N X->∀a os bs p,PT X (.Compare a os bs p) (bS W G (Ip.run G n) (cE T sc N m (.Compare a os bs p)) E)
 i:∀{E:St->XK} {sc:Scope} {N:ar} {X:Cx},Gd W G T n E sc N X->∀tg x,((cI T sc N m x).1=.enum\/(cI T sc N m x).1=.zip->∃es k p,tg=.Tuple es k p)->PI X tg x (fW W G (Ip.run G n) (cI T sc N m x).1 (cI T sc N m x).2 E)
 b:∀{E:St->XK} {sc:Scope} {N:ar} {X:Cx},Gd W G T n E sc N X->∀f args p pos,bz sc f=true->PE X (.Call (.Name f p) args [] pos) (bi W G (Ip.run G n) (cB T sc N m f args) E)
variable {m:Nat}{E:St->XK}{sc:Scope}{N:ar}{X:Cx}
def IH.args (ih:IH W G T n m)(g:Gd W G T n E sc N X)(es:au):PA X es (bW W G (Ip.run G n) (es.map (cE T sc N m)) E):=
 xg (λe _=>ih.e g e) λe _ x p h=>by rw[h]; exact t6 T sc N m x p
theorem Gd.units (g:Gd W G T n E sc N X):X.A.units+64<cLine:=g.room.units
def gU:PI X tg x (fW W G (Ip.run G n) .seq [.bad] E):=λpins s σ H R I ⟨_,_,_,_,q⟩=>by
 rw[b9,gn] at q;exact q.elim
def fH:PT X x (bS W G (Ip.run G n) .bad E):=λpins s σ H R I ⟨_,_,_,_,q⟩=>by
 rw[gn] at q;exact q.elim
def DB (g:Gd W G T n E sc N X)(x:Str)(p:Pos):PE X (.Name x p) (bi W G (Ip.run G n) (cE T sc N (m+1) (.Name x p)) E):=by
 rw[Ip.yG];by_cases h1:(bf sc x&&Ip.aX x)=true
 .rw[if_pos h1];rw[HF] at h1;unfold Ip.pv?;cases q:pos? x N with
  | none=>exact bK
  | some i=>
   have ok:=h1.2;unfold Ip.aX at ok;simp only[HF,Kr] at ok;exact F0 (ut (by rw[g.nm]; exact pos?_get q) (g.vis x h1.1) ok.1 ok.2)
 .rw[if_neg h1];by_cases h2:bz sc x=true
  .rw[if_pos h2];cases q:T.cst.lookup x with
   | none=>exact bK
   | some d=>
    obtain⟨hd,u,v,hm,r,hf,hv⟩:=g.gf.cst x d q;exact nD hf hv (vF (g.gl x h2) hm r hd)
  .rw[if_neg h2]; exact bK
def D8 (c:Const)(k:Nat)(p:Pos):PE X (.Constant c k p) (bi W G (Ip.run G n) (cE T sc N (m+1) (.Constant c k p)) E):=by
 cases c with
 | none=>exact nD rfl (λ_=>.non) Gp
 | bool b=>exact nD rfl (λ_=>.bl) Eb
 | int i=>exact nD rfl (λ_=>.int) xw
 | str s=>exact nD rfl (λ_=>.str) uJ
 | _=>exact bK
def EB (ih:IH W G T n m)(g:Gd W G T n E sc N X)(a b:Expr)(o:Operator)(p:Pos):PE X (.BinOp a o b p) (bi W G (Ip.run G n) (cE T sc N (m+1) (.BinOp a o b p)) E):=by
 have ha:=ih.e g a;have hb:=ih.e g b;cases o with
 | Add=>exact (kP (Dg g.K) ha hb).mono λσ H Q=>gX λ_ _ _ _ h=>h
 | Sub=>exact (kP FQ ha hb).mono λσ H Q=>gX λ_ _ _ _ h=>h
 | Mult=>exact (kP (Dz g.K) ha hb).mono λσ H Q=>gX λ_ _ _ _ h=>h
 | FloorDiv=>exact (kP GG ha hb).mono λσ H Q=>gX λ_ _ _ _ h=>h
 | Mod=>exact (kP B9 ha hb).mono λσ H Q=>gX λ_ _ _ _ h=>h
 | Pow=>exact (kP Ek ha hb).mono λσ H Q=>gX λ_ _ _ _ h=>h
 | _=>exact bK
def sj (ih:IH W G T n m)(g:Gd W G T n E sc N X)(a:Expr)(o:UnaryOp)(p:Pos):PE X (.UnaryOp o a p) (bi W G (Ip.run G n) (cE T sc N (m+1) (.UnaryOp o a p)) E):=by
 have ha:=ih.e g a;cases o with
 | Not=>exact (GL ha).mono λσ H Q=>il AM
 | USub=>exact (wf yg ha).mono λσ H Q=>il Hn
 | _=>exact bK
def EZ (ih:IH W G T n m)(g:Gd W G T n E sc N X)(o:BoolOp)(es:au)(p:Pos):PE X (.BoolOp o es p) (bi W G (Ip.run G n) (cE T sc N (m+1) (.BoolOp o es p)) E):=by
 match es with
 | []=>exact bK
 | [a]=>exact Gh (ih.e g a)
 | a::b::es=>
  cases o with
  | And=>exact (Dp (ih.e g a) (ih.e g (.BoolOp .And (b::es) p))).mono λσ H Q=>ET
  | Or=>exact (DQ (ih.e g a) (ih.e g (.BoolOp .Or (b::es) p))).mono λσ H Q=>pZ
def xc (h:cK b=true):behindInMarks o b=false:=by
 cases b <;> first | rfl | cases h
def k5 (g:Gd W G T n E sc N X)(h:gv o=some p):OpR X (compareOp o) (λx y=>rD W G p [x,y]):=by
 cases o <;> (try cases h)
 .exact si g.K g.units
 .exact p7 g.K g.units
 .exact uk
 .exact rW
 .exact qk
 .exact ul
 .exact tX g.K g.units
 .exact BW g.K g.units
def vZ (h:iI o=some p):gv o=some p/\o≠.In/\o≠.NotIn:=by
 cases o <;> (try cases h) <;> exact⟨rfl,by decide,by decide⟩
def uM (h:isNone b=true):∃k p,b=.Constant .none k p:=by
 cases b <;> try (cases h; done)
 rename_i c k p;cases c <;> first | exact⟨k,p,rfl⟩ | cases h
def uV (ih:IH W G T n m)(g:Gd W G T n E sc N X)(a:Expr)(os:List CmpOp)(bs:au)(p:Pos) :
  PE X (.Compare a os bs p) (bi W G (Ip.run G n) (cE T sc N (m+1) (.Compare a os bs p)) E)/\PT X (.Compare a os bs p) (bS W G (Ip.run G n) (cE T sc N (m+1) (.Compare a os bs p)) E):=by
 have ha:=ih.e g a;match os,bs with
 | [o],[b]=>
  have hb:=ih.e g b;have rest:∀q,gv o=some q->PE X (.Compare a [o] [b] p) (bi W G (Ip.run G n) (if cK b then .op q [cE T sc N m a,cE T sc N m b] else .bad) E)/\PT X (.Compare a [o] [b] p) (bS W G (Ip.run G n) (if cK b then .op q [cE T sc N m a,cE T sc N m b] else .bad) E):=λq hq=>by
   by_cases ns:cK b=true
   .rw[if_pos ns];exact⟨(zX (k5 g hq) ha hb (xc ns)).mono λσ H Q=>gX λ_ _ _ _ h=>h,(zz (k5 g hq) ha hb (xc ns)).mono λσ H Q h=>gX (λ_ _ _ _ h=>h) (me h)⟩
   .rw[if_neg ns]; exact⟨bK,fH⟩
  cases o with
  | Is=>
   simp only[Ip.rV];by_cases hn:isNone b=true
   .rw[if_pos hn];obtain⟨k,p',rfl⟩:=uM hn;exact⟨(uR (xm ha)).mono λσ H Q=>il (r:=λx H Q=>Q (.bl (decide (x=.non))) H) vD,(wN (xm ha)).mono λσ H Q h=>il (r:=λx H Q=>Q (.bl (decide (x=.non))) H) vD (me h)⟩
   .rw[if_neg hn]; exact⟨bK,fH⟩
  | IsNot=>
   simp only[Ip.rV];by_cases hn:isNone b=true
   .rw[if_pos hn];obtain⟨k,p',rfl⟩:=uM hn;exact⟨(uR (xZ ha)).mono λσ H Q=>il (r:=λx H Q=>Q (.bl (!decide (x=.non))) H) xY,(wN (xZ ha)).mono λσ H Q h=>il (r:=λx H Q=>Q (.bl (!decide (x=.non))) H) xY (me h)⟩
   .rw[if_neg hn]; exact⟨bK,fH⟩
  | Eq=>exact rest _ rfl
  | NotEq=>exact rest _ rfl
  | Lt=>exact rest _ rfl
  | LtE=>exact rest _ rfl
  | Gt=>exact rest _ rfl
  | GtE=>exact rest _ rfl
  | In=>exact rest _ rfl
  | NotIn=>exact rest _ rfl
 | [o,q],[b,c]=>
  have hb:=ih.e g b;have hc:=ih.e g c;simp only[Ip.rV];cases h1:iI o with
  | none=>exact⟨bK,fH⟩
  | some o'=>
   cases h2:iI q with
   | none=>exact⟨bK,fH⟩
   | some q'=>
    obtain⟨c1,_,_⟩:=vZ h1;obtain⟨c2,n1,n2⟩:=vZ h2;have hm:lastMarks [o,q] [b,c]=false:=jW c n1 n2;exact⟨(GN (k5 g c1) (k5 g c2) ha hb hc hm).mono λσ H Q=>vc,(Fg (k5 g c1) (k5 g c2) ha hb hc hm).mono λσ H Q h=>vc (me h)⟩
 | [],_=>exact⟨bK,fH⟩
 | [_],[]=>exact⟨bK,fH⟩
 | [_],_::_::_=>exact⟨bK,fH⟩
 | [_,_],[]=>exact⟨bK,fH⟩
 | [_,_],[_]=>exact⟨bK,fH⟩
 | [_,_],_::_::_::_=>exact⟨bK,fH⟩
 | _::_::_::_,_=>exact⟨bK,fH⟩
end
section
variable {W:Wd}{G:Pg}{T:Tb}{n:Nat}{m:Nat}{E:St->XK}{sc:Scope}{N:ar}{X:Cx}
def pW (ih:IH W G T n m)(g:Gd W G T n E sc N X)(c a b:Expr)(p:Pos):PE X (.IfExp c a b p) (bi W G (Ip.run G n) (cE T sc N (m+1) (.IfExp c a b p)) E):=by
 simp only[Ip.Eh];exact (An (ih.t g c) (ih.e g a) (ih.e g b)).mono λσ H Q=>zm
def BF (ih:IH W G T n m)(g:Gd W G T n E sc N X)(es:au)(p:Pos):PE X (.List es p) (bi W G (Ip.run G n) (cE T sc N (m+1) (.List es p)) E):=by
 simp only[Ip.GE];by_cases h:es.length<=1000
 .rw[if_pos h]; exact rE (by rw[HG]; exact h) (ih.args g es)
 .rw[if_neg h]; exact bK
def zT (ih:IH W G T n m)(g:Gd W G T n E sc N X)(es:au)(k:Nat)(p:Pos):PE X (.Tuple es k p) (bi W G (Ip.run G n) (cE T sc N (m+1) (.Tuple es k p)) E):=by
 simp only[Ip.yN];by_cases h:es.length<=1000
 .rw[if_pos h]; exact GH (by rw[HG]; exact h) (ih.args g es)
 .rw[if_neg h]; exact bK
def Gv (ih:IH W G T n m)(g:Gd W G T n E sc N X)(o:Expr)(f:Str)(p:Pos):PE X (.Attribute o f p) (bi W G (Ip.run G n) (cE T sc N (m+1) (.Attribute o f p)) E):=by
 simp only[Ip.Dc];cases q:pos? f T.att with
 | none=>exact bK
 | some k=>
  by_cases h:(T.fl.contains k&&fQ o)=true
  .simp only[h,if_true];rw[HF] at h;exact Ea g.K g.gf.cf (by simpa using h.1) (by rw[g.gf.att]; exact pos?_get q) (ih.e g o) (tm h.2)
  .simp only[h]; exact bK
def DJ (h:∀a b c p,i≠.Slice a b c p):gg i:=by
 intro o v;cases i <;> first | rfl | exact absurd rfl (h _ _ _ _)
def Dh:PE X (.UnaryOp .USub (.Constant (.int 1) k p1) p2) (tC (.int (-1))):=(wf yg xw).mono λσ H Q h=>⟨_,rfl,h⟩
def Bz (hK:W.K=X.K):∀x H Q,rD W G .rev [x] H Q->∃a xs,x=.ref a/\SqL X.K H a xs/\∀p,H p=none->Q (.ref p) (upd H p (.lst xs.reverse)):=by
 rintro x H Q ⟨N,xs,z,hN,hd,hz,hq⟩;simp only[Ip.C2] at hz;obtain⟨v,p,e,rfl,dv,ez⟩:=hd.vs1 (o:=.rev) hz;cases e;obtain⟨ds,e1,e2⟩:=lJ ez;rw[e1] at dv;cases dv with | @lst a vs _ h1 h2=>?_
 cases e2;exact⟨a,vs,rfl,by rw[<-hK]; exact .inl (Rd.sub bF h1),λp hp=>hq _ _ (Res.newL hp h2.rev)⟩
def Bs (ih:IH W G T n m)(g:Gd W G T n E sc N X)(a i:Expr)(p:Pos):PE X (.Subscript a i p) (bi W G (Ip.run G n) (cE T sc N (m+1) (.Subscript a i p)) E):=by
 have ha:=ih.e g a;cases i with
 | Slice lo hi st q=>
  match lo,hi,st with
  | some l,none,none=>
   simp only[lg];exact (ua (rH g.K) ha (ot (ih.e g l)) v9).mono λσ H Q h=>vI (lo:=λi=>some i) (hi:=λ_=>none) (λu v=>rfl) h
  | none,some l,none=>
   simp only[lg];exact (ua (rH g.K) ha v9 (ot (ih.e g l))).mono λσ H Q h=>vI (lo:=λ_=>none) (hi:=λi=>some i) (λu v=>rfl) h
  | some l,some h,none=>
   simp only[lg];exact (ua (rH g.K) ha (ot (ih.e g l)) (ot (ih.e g h))).mono λσ H Q h=>Cm h
  | none,none,none=>exact bK
  | none,none,some st=>
   simp only[lg];by_cases h1:Ip.ik st=true
   .rw[if_pos h1];obtain⟨k,p1,p2,rfl⟩:=Ip.AQ h1;exact (El ha (Dh)).mono λσ H Q h=>il (r:=λx H Q=>∃a xs,x=.ref a/\SqL X.K H a xs/\∀p,H p=none->Q (.ref p) (upd H p (.lst xs.reverse))) (Bz g.K) h
   .rw[if_neg h1]; exact bK
  | some _,none,some _=>exact bK
  | none,some _,some _=>exact bK
  | some _,some _,some _=>exact bK
 | _=>
  simp only[lg];exact (AH (r9 g.K) ha (ih.e g _) (DJ λ_ _ _ _ z=>by cases z)).mono λσ H Q=>gX λ_ _ _ _ h=>h
def uf (e:Expr):(∃a b c,e=.Set a b c)\/∀(env:Env) (x:Value),foldedSetIterable e env x=pure x:=by
 cases e <;> first | exact .inl ⟨_,_,_,rfl⟩ | exact .inr λ_ _=>rfl
def t9:(cI T sc N m (.Set a b c)).2=[.bad]:=by
 cases m with
 | zero=>rfl
 | succ m=>cases m <;> rfl
structure CompR (W:Wd)(G:Pg)(n:Nat)(E:St->XK)(X:Cx)(scope:Scope)(N:ar)(tg iter elt:Expr)(ifs:au)(t:Tg)(wk:Wk)(it ts:aF)(x:Ex):Prop where
 hS:compOk X.env.scope X.N (bc scope) (bm N scope) scope=true
 hi:PI X tg iter (fW W G (Ip.run G n) wk it E)
 hg:∀cl C s H fp,PG (bt X (bc scope) scope cl C s H fp λ_ _=>False) tg (gT X.K t)
 ht:∀cl C s H fp,PTs (bt X (bc scope) scope cl C s H fp λ_ _=>False) ifs (rK W G (Ip.run G n) ts)
 he:∀cl C s H fp,PE (bt X (bc scope) scope cl C s H fp λ_ _=>False) elt (bi W G (Ip.run G n) x λ_ _ _ _=>False)
 hx:∀i∈cZ t,(bm N scope)[i]? = some none
def uE (h1:cM sc N tg=some t)(h2:dX wk t=true):wk=.enum\/wk=.zip->∃es k p,tg=.Tuple es k p:=by
 intro hw;cases tg with
 | Name x p=>
  simp only[Ip.xh] at h1;by_cases hl:bH sc x=true
  .rw[if_pos hl] at h1;obtain⟨i,_,rfl⟩:=cA h1;rcases hw with rfl | rfl <;> cases h2
  .rw[if_neg hl] at h1; cases h1
 | Tuple es k p=>exact⟨es,k,p,rfl⟩
 | _=>cases h1
def w4 (ih:IH W G T n m)(g:Gd W G T n E sc N X)(hb:c6 sc N (bc scope) (bm N scope) scope=true)(hl:ifs.length<=1)(ht:cM scope (bc scope) tg=some t)
  (hw:dX (cI T sc N m iter).1 t=true)(hx:(cZ t).all (λi=>(bm N scope)[i]? == some none)=true) :
  CompR W G n E X scope N tg iter e ifs t (cI T sc N m iter).1 (cI T sc N m iter).2 (ifs.map (cT T scope (bc scope) m)) (cE T scope (bc scope) m e):=by
 refine⟨g.compOk hb,ih.i g tg iter (uE ht hw),λcl C s H fp=>?_,λcl C s H fp=>?_,λcl C s H fp=>ih.e (g.block hb cl C s H fp) e,λi hi=>?_⟩
 .exact pz (g.block hb cl C s H fp) ht
 .match ifs,hl with
  | [],_=>exact yS
  | [c],_=>exact E7 (ih.t (g.block hb cl C s H fp) c)
 .have:=dQ hx i hi;simpa using this
def A6 (ih:IH W G T n m)(g:Gd W G T n E sc N X)(e:Expr)(gs:List Comprehension)(scope:Scope)(p:Pos):PE X (.ListComp e gs scope p) (bi W G (Ip.run G n) (cE T sc N (m+1) (.ListComp e gs scope p)) E):=by
 match gs with
 | []=>exact bK
 | ⟨_,_,_,_⟩::_::_=>exact bK
 | [⟨tg,iter,ifs,as⟩]=>
  simp only[Ip.ve];by_cases h:(c6 sc N (bc scope) (bm N scope) scope&&as == 0&&decide (ifs.length<=1))=true
  rotate_left
  .rw[if_neg h]; exact bK
  rw[if_pos h];simp only[HF,HU,Ig] at h;obtain⟨⟨hb,has⟩,hl⟩:=h;subst has;cases ht:cM scope (bc scope) tg with
  | none=>exact bK
  | some t=>
   by_cases h2:(dX (cI T sc N m iter).1 t&&(cZ t).all (λi=>(bm N scope)[i]? == some none))=true
   rotate_left
   .simp only[h2]; exact bK
   simp only[h2,if_true];rw[HF] at h2;rcases uf iter with ⟨a,b,c,rfl⟩ | hs
   .rintro pins s σ H Q I ⟨_,_,_,_,q⟩;rw[la,t9,b9,gn] at q;exact q.elim
   .have cp:=w4 (e:=e) ih g hb hl ht h2.1 h2.2;exact (GD g.calm cp.hS cp.hi cp.hg cp.ht cp.he (hs X.env)).mono λσ H Q=>vi g.K cp.hx
def Cd (ih:IH W G T n m)(g:Gd W G T n E sc N X)(e:Expr):PT X e (bS W G (Ip.run G n) (cT T sc N (m+1) e) E):=by
 cases e with
 | BoolOp o es p=>
  match es with
  | []=>exact fH
  | [a]=>
   cases o with
   | And=>exact (D6 (ih.t g a)).pt
   | Or=>exact (Du (ih.t g a)).pt
  | a::b::es=>
   have hb:∀o,PW X (.BoolOp o (b::es) p) (bS W G (Ip.run G n) (cT T sc N m (.BoolOp o (b::es) p)) E):=λo whole=>ih.t g (.BoolOp o (b::es) p);cases o with
   | And=>exact (yJ (ih.t g a) (hb .And)).pt.mono λσ H Q=>FL
   | Or=>exact (zV (ih.t g a) (hb .Or)).pt.mono λσ H Q=>F7
 | UnaryOp o a p=>
  cases o with
  | Not=>exact (yD (ih.t g a)).mono λσ H Q=>zw
  | _=>exact xa (ih.e g _) λ_=>rfl
 | IfExp c a b p=>exact fH
 | Compare a os bs p=>exact ih.c g a os bs p
 | _=>exact xa (ih.e g _) λ_=>rfl
end
section
variable {W:Wd}{G:Pg}{T:Tb}{n:Nat}{m:Nat}{E:St->XK}{sc:Scope}{N:ar}{X:Cx}
def zg (ih:IH W G T n m)(g:Gd W G T n E sc N X)(f:Str)(args:au)(p pos:Pos)(k:Nat)(hg:bz sc f=true)(hk:T.fns.lookup f=some k)(ns:aO args=true):PE X (.Call (.Name f p) args [] pos) (bi W G (Ip.run G n) (.call k (args.map (cE T sc N m))) E):=by
 obtain⟨hdb,F,a,hF,hm,kp,fd,ps,fo,bd⟩:=g.gf.fns f k hk;cases q:di G k args.length with
 | none=>
  rintro pins s σ H Q I ⟨_,_,_,_,h⟩;rw[nP,HG,q] at h;exact h.elim
 | some F'=>
  obtain⟨e1,hio,h1,h2⟩:=yr q;rw[hF] at e1;cases e1;obtain⟨ds,dvs,hb,hv,hd⟩:=bd args.length h1 h2;have fo':FnOk X.prog X.w X.K X.mg X.base (fY X.prog X.w) (rm n) a fd ps (gx W G n k F):=g.K ▸ fo;have rm1:=g.room.mono (Jp (rm n));have q':di G k (args.map (cE T sc N m)).length=some F:=by rw[HG]; exact q
  have hd':∀S,Dens W S dvs (cX F (args.map (cE T sc N m)).length):=by rw[HG]; exact hd
  match args,ns,q',hd' with
  | [],_,q',hd'=>exact (zb fo' rm1 (g.gl f hg) hm (g.K ▸ kp) (g.K ▸ hb) hv g.pass hdb).mono λσ H Q h=>pE (u7 (es:=[]) q' hd' h)
  | e::es,ns,q',hd'=>
   obtain⟨s1,s2⟩:=eh ns;exact (zu fo' rm1 (g.gl f hg) hm (g.K ▸ kp) (g.K ▸ hb) hv g.pass (ih.args g (e::es)) hdb (dm s1) (o8 s2)).mono λσ H Q=>u7 q' hd'
def BU (ih:IH W G T n m)(g:Gd W G T n E sc N X)(f:Str)(args:au)(p pos:Pos)(c:Nat)(hg:bz sc f=true)(hk:T.cls.lookup f=some c)(ns:aO args=true):PE X (.Call (.Name f p) args [] pos) (bi W G (Ip.run G n) (.make c (args.map (cE T sc N m))) E):=by
 obtain⟨hdb,C,hm,hc⟩:=g.gf.cls f c hk;cases q:cD G c args.length with
 | none=>
  rintro pins s σ H Q I ⟨_,_,_,_,h⟩;rw[ng,HG,q] at h;exact h.elim
 | some t=>
  obtain⟨fi,F,d⟩:=t;obtain⟨Cl',k1,k2,k3,k4,hio,h1,h2,h50⟩:=xy q;obtain⟨a,⟨fd,ps,fo,bd⟩,hx⟩:=hc Cl' fi F k1 k2 k3;obtain⟨ds,dvs,hb,hv,hd⟩:=bd (args.length+1) h1 h2;have fo':FnOk X.prog X.w X.K X.mg X.base (fY X.prog X.w) (rm n) a fd ps (gx W G n fi F):=g.K ▸ fo;have hd':∀S,Dens W S dvs (cX F ((args.map (cE T sc N m)).length+1)):=by rw[HG]; exact hd
  .obtain⟨iA,mk⟩:=hx;subst k4;have q':cD G c (args.map (cE T sc N m)).length=some (fi,F,.ins c []):=by rw[HG]; exact q
   have mk':Mk X.K C a:=g.K ▸ mk;match args,ns,q',hd' with
   | [],_,q',hd'=>exact (za mk' fo' g.room (g.gl f hg) hm (g.K ▸ hb) hv g.pass hdb).mono λσ H Q h=>pE (wG (es:=[]) iA q' hd' h)
   | e::es,ns,q',hd'=>
    obtain⟨s1,s2⟩:=eh ns;exact (Cp mk' fo' g.room (g.gl f hg) hm (g.K ▸ hb) hv g.pass (ih.args g (e::es)) hdb (dm s1) (o8 s2)).mono λσ H Q=>wG iA q' hd'
def Em (ih:IH W G T n m)(g:Gd W G T n E sc N X)(o:Expr)(f:Str)(args:au)(ap pos:Pos)(k:Nat)(hk:pos? f T.att=some k)(hs:fQ o=true)(ns:aO args=true)(hl:args.length<30)(hp:ap.endLine=pos.line) :
  PE X (.Call (.Attribute o f ap) args [] pos) (bi W G (Ip.run G n) (.meth k (cE T sc N m o) (args.map (cE T sc N m))) E):=by
 rintro pins s σ H Q I ⟨N0,a,hN,hS,h⟩;have ho:=ih.e g o;have arm:=At (m:=f) (env:=X.env) hs ns hl hp;have hatt:W.att[k]? = some f:=by rw[g.gf.att]; exact pos?_get hk
 cases q:Ip.eval G (Ip.run G n) a (cE T sc N m o) with
 | bad=>rw[lQ,q] at h; exact h.elim
 | ok x=>
  obtain⟨kx,d⟩:=x;cases q2:cj G k args.length d with
  | none=>
   rw[lQ,q] at h;simp only[Ip.R.bind,HG,q2] at h
  | some t=>
   obtain⟨fi,F⟩:=t;obtain⟨c,fs,Cl',rfl,k1,k2,k3,hio,hfl,h1,h2⟩:=xr q2;obtain⟨C,ad,hC,hme,fd,ps,fo,bd⟩:=g.gf.meth c Cl' k fi F k1 k2 k3 f hatt;obtain⟨ds,dvs,hb,hv,hd⟩:=bd (args.length+1) h1 h2;have fo':FnOk X.prog X.w X.K X.mg X.base (fY X.prog X.w) (rm n) ad fd ps (gx W G n fi F):=g.K ▸ fo;have rm1:=g.room.mono (Jp (rm n));have cls:Cls X.K C:=g.K ▸ (g.gf.cf.ins c C hC).1.cls;have q3:cj G k (args.map (cE T sc N m)).length (.ins c fs)=some (fi,F):=by rw[HG]; exact q2
   have hd':∀S,Dens W S dvs (cX F ((args.map (cE T sc N m)).length+1)):=by rw[HG]; exact hd
   have key:=Al (E:=E) (Q:=Q) g.gf.cf.nd hatt hC hd' hN hS q q3 h;match args,ns,arm,key with
   | [],_,arm,key=>exact AL ho cls (g.K ▸ hme) fo' rm1 (g.K ▸ hb) hv g.pass arm pins s σ H Q I (by
     unfold fF at key ⊢;refine evT_mono key λx H1 ⟨a,dx,fs,e1,e2,e3,e4⟩=>⟨a,dx,fs,e1,e2,e3,pE e4⟩)
   | e::es,ns,arm,key=>
    obtain⟨s1,s2⟩:=eh ns;exact EY ho cls (g.K ▸ hme) fo' rm1 (g.K ▸ hb) hv g.pass (ih.args g (e::es)) (dm s1) (o8 s2) arm pins s σ H Q I key
where
 evT_mono {ir:Ex} {cl:Nat->aw->Ip.Run} {E:St->XK} {σ:St} {H:Hp} {Q Q':VK} (h:bi W G cl ir E σ H Q) (k:∀v H,Q v H->Q' v H):bi W G cl ir E σ H Q':=by
  obtain⟨N,a,hN,hS,h⟩:=h;refine⟨N,a,hN,hS,?_⟩;cases q:Ip.eval G cl a ir with
  | bad=>rw[q] at h; exact h
  | ok x=>rw[q] at h; exact λv H' r=>k v H' (h v H' r)
def qO (ns:aO [e]=true):((backTo cp (starEach [e] env)).all (λx=>!x.1)&&(backToKw cp (keywordEach [] env)).all (λx=>x.1.isSome)
   && decide ([e].length+([]:List Keyword).length+(if ([]:List Keyword).isEmpty then 0 else 1)<30))=true:=by
 rw[pG ns]; rfl
def Bp (ih:IH W G T n m)(g:Gd W G T n E sc N X)(o:Expr)(f:Str)(args:au)(ap pos:Pos)(hi:d6 f args=true)(hs:fQ o=true)(ns:aO args=true)(hp:ap.endLine=pos.line) :
  PE X (.Call (.Attribute o f ap) args [] pos) (bi W G (Ip.run G n) (.op .index ((o::args).map (cE T sc N m))) E):=by
 unfold d6 at hi;simp only[HF,HU,List.all_eq_true] at hi;obtain⟨⟨rfl,hl⟩,hn⟩:=hi;obtain⟨a,rfl⟩:=Kv.mp hl;have ha:=hn a (HN.mpr rfl);obtain⟨s1,s2⟩:=eh ns;have ln:(ap.endLine == pos.line)=true:=by rw[hp]; exact beq_self_eq_true _
 exact (oq (T := "tuple") (id := "tuple.index") PySem.F.plainAttrs_tuple PySem.F.slot_tuple_index PySem.F.type_tuple_index CN (ih.e g o) (ih.args g [a]) (tm hs) (qO ns) ln (dm s1) rfl).mono λσ H Q h=>G4 g.K h
def Gd.bl (g:Gd W G T n E sc N X)(h:(x,v)∈fG):X.mg x=none/\bootBuiltins x=some v:=g.gf.blt x v h
def Ec (ih:IH W G T n m)(g:Gd W G T n E sc N X)(a:Expr):((∃x p,a=.Starred x p)/\cE T sc N m a=.bad)\/(PA X [a] (bW W G (Ip.run G n) [cE T sc N m a] E)/\starEach [a] X.env=(false,PySem.eval a X.env)::starEach [] X.env):=by
 rcases ph a [] X.env with ⟨x,p,rfl⟩ | h
 .exact .inl ⟨⟨x,p,rfl⟩,t6 T sc N m x p⟩
 .exact .inr ⟨ih.args g [a],h⟩
def wS:PE X x (bi W G (Ip.run G n) (.op o (.bad::es)) E):=λpins s σ H Q I ⟨_,_,_,_,h⟩=>by
 rw[dH,b9,gn] at h;exact h.elim
def FR (g:Gd W G T n E sc N X)(q:gG T sc b=some t):∃c cv,PE X b (tC c)/\valOf c=some cv/\b8 W G t cv:=by
 cases b with
 | Name x bp=>
  simp only[gG] at q;by_cases hgx:bz sc x=true
  .rw[if_pos hgx] at q;cases q2:T.cls.lookup x with
   | some c=>
    rw[q2] at q;cases q;obtain⟨hdb,_⟩:=g.gf.cls x c q2;obtain⟨C,hm,hi⟩:=g.gf.isC x c q2;exact⟨.ref C,.ref C,vF (g.gl x hgx) hm rfl hdb,rfl,hi⟩
   | none=>
    rw[q2] at q;obtain⟨hm,hn,hdb,nm,hb,hi⟩:=g.gf.isB x t q;exact⟨.ty nm,.type nm,EA (g.gl x hgx) hm hb rfl hn hdb,rfl,hi⟩
  .rw[if_neg hgx] at q; cases q
 | _=>cases q
def y9 (ih:IH W G T n m)(g:Gd W G T n E sc N X)(f:Str)(args:au)(p pos:Pos)(hg:bz sc f=true):PE X (.Call (.Name f p) args [] pos) (bi W G (Ip.run G n) (cB T sc N (m+1) f args) E):=by
 match args with
 | []=>exact bK
 | _::_::_::_=>exact bK
 | [a]=>
  simp only[Ip.xb];cases qi:Ip.nX sc f a with
  | some ob=>
   obtain⟨o,b⟩:=ob;dsimp only;obtain⟨g',p1,p2,rfl,hg',ns,hc⟩:=Ip.GV qi;obtain⟨s1,_⟩:=eh ns;rcases hc with ⟨rfl,rfl,rfl⟩ | ⟨rfl,rfl,rfl⟩
   .obtain⟨h1,h2⟩:=g.bl (x := "sorted") (v:=.builtin "sorted") (bA 13 rfl);obtain⟨h3,h4⟩:=g.bl (x := "set") (v:=.type "set") (bA 14 rfl);exact (CU g.calm (ih.e g b) (g.gl _ hg) h1 h2 (g.gl _ hg') h3 h4 rfl (dm s1)).mono λσ H Q h=>il (Eu g.K) h
   .obtain⟨h1,h2⟩:=g.bl (x := "list") (v:=.type "list") (bA 6 rfl);obtain⟨h3,h4⟩:=g.bl (x := "range") (v:=.type "range") (bA 8 rfl);exact (EJ g.calm (ih.e g b) (g.gl _ hg) h1 h2 (g.gl _ hg') h3 h4 rfl (dm s1)).mono λσ H Q h=>il EE h
  | none=>
  dsimp only;cases q:m9.lookup f with
  | none=>exact bK
  | some o=>
   rcases Ec ih g a with ⟨_,hb⟩ | ⟨pa,hs⟩
   .simp only[hb]; exact wS
   have hmem:=uI q;simp only[m9,H0,Ib,or_false,IZ] at hmem;rcases hmem with ⟨rfl,rfl⟩ | ⟨rfl,rfl⟩ | ⟨rfl,rfl⟩ | ⟨rfl,rfl⟩ | ⟨rfl,rfl⟩ | ⟨rfl,rfl⟩ | ⟨rfl,rfl⟩ | ⟨rfl,rfl⟩
   .obtain⟨h1,h2⟩:=g.bl (x := "len") (v:=.builtin "len") (bA 0 rfl);exact (jP (Fi g.K) (g.gl _ hg) h1 h2 pa (by decide) (by decide) hs rfl).mono λσ H Q=>iT
   .obtain⟨h1,h2⟩:=g.bl (x := "list") (v:=.type "list") (bA 6 rfl);exact (tT (Fu g.K) (g.gl _ hg) h1 h2 pa (by decide) (by decide) hs rfl).mono λσ H Q=>iT
   .obtain⟨h1,h2⟩:=g.bl (x := "tuple") (v:=.type "tuple") (bA 7 rfl);exact (tT (GR g.K) (g.gl _ hg) h1 h2 pa (by decide) (by decide) hs rfl).mono λσ H Q=>iT
   .obtain⟨h1,h2⟩:=g.bl (x := "all") (v:=.builtin "all") (bA 1 rfl);exact (jP (Fb g.calm) (g.gl _ hg) h1 h2 pa (by decide) (by decide) hs rfl).mono λσ H Q=>iT
   .obtain⟨h1,h2⟩:=g.bl (x := "any") (v:=.builtin "any") (bA 2 rfl);exact (jP (E5 g.calm) (g.gl _ hg) h1 h2 pa (by decide) (by decide) hs rfl).mono λσ H Q=>iT
   .obtain⟨h1,h2⟩:=g.bl (x := "int") (v:=.type "int") (bA 12 rfl);exact (tT C3 (g.gl _ hg) h1 h2 pa (by decide) (by decide) hs rfl).mono λσ H Q=>iT
   .obtain⟨h1,h2⟩:=g.bl (x := "sum") (v:=.builtin "sum") (bA 5 rfl);exact (jP (By g.calm) (g.gl _ hg) h1 h2 pa (by decide) (by decide) hs rfl).mono λσ H Q=>iT
   .obtain⟨h1,h2⟩:=g.bl (x := "sorted") (v:=.builtin "sorted") (bA 13 rfl);exact (jP (Cc g.K) (g.gl _ hg) h1 h2 pa (by decide) (by decide) hs rfl).mono λσ H Q=>iT
 | [a,b]=>
  simp only[Ip.xb];by_cases hf:(f == ("isinstance" : Str))=true
  rotate_left
  .rw[if_neg hf];by_cases hf2:(f == ("max" : Str)&&aO [a,b])=true
   rotate_left
   .rw[if_neg hf2]; exact bK
   rw[if_pos hf2];rw[HF] at hf2;have hf':f = "max":=by simpa using hf2.1
   subst hf';obtain⟨s1,s2⟩:=eh hf2.2;obtain⟨s3,_⟩:=eh s2;obtain⟨h1,h2⟩:=g.bl (x := "max") (v:=.builtin "max") (bA 4 rfl);exact (jP (BI g.calm) (g.gl _ hg) h1 h2 (ih.args g [a,b]) (by decide) (by decide) (dm s1) (by rw[dm s3]; rfl)).mono λσ H Q=>GY
  rw[if_pos hf];have hf':f = "isinstance":=by simpa using hf
  subst hf';cases q:d7 T sc b with
  | none=>exact bK
  | some ts=>
   rcases ph a [b] X.env with ⟨x,p',rfl⟩ | hs1
   .simp only[t6]; exact wS
   obtain⟨h1,h2⟩:=g.bl (x := "isinstance") (v:=.builtin "isinstance") (bA 3 rfl);cases b with
   | Name x bp=>
    simp only[d7] at q;obtain⟨t,q',rfl⟩:=cA q;obtain⟨c,cv,he,hc,hi⟩:=FR g q';exact E3 g.K g.gf.cf hc hi (g.gl _ hg) h1 h2 (ih.e g a) he hs1 rfl
   | _=>simp[d7,gG] at q
def FO (ih:IH W G T n m)(g:Gd W G T n E sc N X)(tg x:Expr)(ht:(cI T sc N (m+1) x).1=.enum\/(cI T sc N (m+1) x).1=.zip->∃es k p,tg=.Tuple es k p):PI X tg x (fW W G (Ip.run G n) (cI T sc N (m+1) x).1 (cI T sc N (m+1) x).2 E):=by
 have gen:∀y,PI X tg y (fW W G (Ip.run G n) .seq [cE T sc N m y] E):=λy=>AF g.K (ih.e g y);cases x with
 | Call f args kws q=>
  cases f with
  | Name f p=>
   cases kws with
   | cons _ _=>exact gen _
   | nil=>
    simp only[Ip.yL] at ht ⊢;by_cases h1:(bz sc f&&f == ("range" : Str)&&aO args)=true
    .rw[if_pos h1];simp only[HF,HU] at h1;obtain⟨⟨hg,rfl⟩,ns⟩:=h1;have hm:=(g.bl (x := "range") (v:=.type "range") (bA 8 rfl)).1;match args,ns with
     | [a],ns=>
      obtain⟨s1,_⟩:=eh ns;exact Br (g.gl _ hg) hm (ih.args g [a]) (dm s1)
     | [a,b],ns=>
      obtain⟨s1,s2⟩:=eh ns;obtain⟨s3,_⟩:=eh s2;exact Bw (g.gl _ hg) hm (ih.args g [a,b]) (by rw[dm s1,dm s3]; rfl) (dm s3)
     | [],_=>exact gU
     | _::_::_::_,_=>exact gU
    rw[if_neg h1] at ht ⊢;by_cases h2:(bz sc f&&f == ("enumerate" : Str)&&aO args)=true
    .rw[if_pos h2] at ht ⊢;simp only[HF,HU] at h2;obtain⟨⟨hg,rfl⟩,ns⟩:=h2;obtain⟨hm,hv⟩:=g.bl (x := "enumerate") (v:=.type "enumerate") (bA 9 rfl);match args,ns,ht with
     | [a],ns,ht=>
      obtain⟨s1,_⟩:=eh ns;obtain⟨es,k,p',rfl⟩:=ht (.inl rfl);exact BB g.K (g.gl _ hg) hm hv (ih.args g [a]) (dm s1)
     | [],_,_=>exact gU
     | _::_::_,_,_=>exact gU
    rw[if_neg h2] at ht ⊢;by_cases h3:(bz sc f&&f == ("zip" : Str)&&aO args)=true
    .rw[if_pos h3] at ht ⊢;simp only[HF,HU] at h3;obtain⟨⟨hg,rfl⟩,ns⟩:=h3;obtain⟨hm,hv⟩:=g.bl (x := "zip") (v:=.type "zip") (bA 10 rfl);match args,ns,ht with
     | [a,b],ns,ht=>
      obtain⟨s1,s2⟩:=eh ns;obtain⟨s3,_⟩:=eh s2;obtain⟨es,k,p',rfl⟩:=ht (.inr rfl);exact zD g.K (g.gl _ hg) hm hv (ih.args g [a,b]) (by rw[dm s1,dm s3]; rfl) (dm s3)
     | [],_,_=>exact gU
     | [_],_,_=>exact gU
     | _::_::_::_,_,_=>exact gU
    rw[if_neg h3] at ht ⊢;by_cases h4:(bz sc f&&f == ("reversed" : Str)&&aO args)=true
    .rw[if_pos h4];simp only[HF,HU] at h4;obtain⟨⟨hg,rfl⟩,ns⟩:=h4;obtain⟨hm,hv⟩:=g.bl (x := "reversed") (v:=.type "reversed") (bA 11 rfl);match args,ns with
     | [a],ns=>
      obtain⟨s1,_⟩:=eh ns;exact CJ (g.gl _ hg) hm hv (ih.args g [a]) (dm s1)
     | [],_=>exact gU
     | _::_::_,_=>exact gU
    rw[if_neg h4];exact gen _
  | _=>exact gen _
 | _=>exact gen _
def Gi (ih:IH W G T n m)(g:Gd W G T n E sc N X)(f:Expr)(args:au)(kws:List Keyword)(p:Pos):PE X (.Call f args kws p) (bi W G (Ip.run G n) (cE T sc N (m+1) (.Call f args kws p)) E):=by
 cases kws with
 | cons _ _=>exact bK
 | nil=>
  cases f with
  | Name f q=>
   simp only[Ip.vH];by_cases hg:bz sc f=true
   rotate_left
   .rw[if_neg hg]; exact bK
   rw[if_pos hg];cases h1:T.fns.lookup f with
   | some k=>
    by_cases ns:aO args=true
    .simp only[ns,if_true]; exact zg ih g f args q p k hg h1 ns
    .simp only[ns]; exact bK
   | none=>
    cases h2:T.cls.lookup f with
    | some c=>
     by_cases ns:aO args=true
     .simp only[ns,if_true]; exact BU ih g f args q p c hg h2 ns
     .simp only[ns]; exact bK
    | none=>exact ih.b g f args q p hg
  | Attribute o f ap=>
   simp only[Ip.vH];cases h1:pos? f T.att with
   | none=>
    by_cases h:(d6 f args&&fQ o&&aO args&&ap.endLine == p.line)=true
    .simp only[h,if_true];simp only[HF,HU] at h;obtain⟨⟨⟨a0,a1⟩,a2⟩,a4⟩:=h;exact Bp ih g o f args ap p a0 a1 a2 a4
    .simp only[h]; exact bK
   | some k=>
    by_cases h:(fQ o&&aO args&&decide (args.length<30)&&ap.endLine == p.line)=true
    .simp only[h,if_true];simp only[HF,Ig,HU] at h;obtain⟨⟨⟨a1,a2⟩,a3⟩,a4⟩:=h;exact Em ih g o f args ap p k h1 a1 a2 a3 a4
    .simp only[h]; exact bK
  | _=>exact bK
def G1 (ih:IH W G T n m)(g:Gd W G T n E sc N X)(e:Expr):PE X e (bi W G (Ip.run G n) (cE T sc N (m+1) e) E):=by
 cases e with
 | Name x p=>exact DB g x p
 | Constant c k p=>exact D8 c k p
 | BinOp a o b p=>exact EB ih g a b o p
 | UnaryOp o a p=>exact sj ih g a o p
 | BoolOp o es p=>exact EZ ih g o es p
 | Compare a os bs p=>exact (uV ih g a os bs p).1
 | IfExp c a b p=>exact pW ih g c a b p
 | List es p=>exact BF ih g es p
 | Tuple es k p=>exact zT ih g es k p
 | Subscript a i p=>exact Bs ih g a i p
 | Attribute o f p=>exact Gv ih g o f p
 | ListComp e gs scope p=>exact A6 ih g e gs scope p
 | Call f args kws p=>exact Gi ih g f args kws p
 | _=>exact bK
theorem fK:∀m,IH W G T n m
 | 0=>by
  refine⟨λg x=>?_,λg x=>?_,λg a os bs p=>?_,λg tg x _=>?_,λg f args p pos hg=>?_⟩
  .exact bK
  .exact fH
  .exact fH
  .exact gU
  .exact bK
 | m+1=>by
  have ih:=fK m;exact⟨λg x=>G1 ih g x,λg x=>Cd ih g x,λg a os bs p=>(uV ih g a os bs p).2,λg tg x ht=>FO ih g tg x ht,λg f args p pos hg=>y9 ih g f args p pos hg⟩
end
section
variable {G:Pg}{cl:Nat->aw->Ip.Run}
mutual
theorem fk:∀e:Ex,(∀i∈e.names,a[i]? = b[i]?)->Ip.eval G cl a e=Ip.eval G cl b e:=by
 intro hZ;cases hZ with
 | var i=>intro h; rw[Ip.mF,Ip.mF,h i (by simp)]
 | cst d=>intro _; rw[Ip.oR,Ip.oR]
 | op o es=>intro h; rw[dH,dH,zAF es (by simpa using h)]
 | and x y=>
  intro h;simp only[Ex.names,IA] at h;rw[ma,ma,fk x λi hi=>h i (.inl hi),fk y λi hi=>h i (.inr hi)]
 | or x y=>
  intro h;simp only[Ex.names,IA] at h;rw[nu,nu,fk x λi hi=>h i (.inl hi),fk y λi hi=>h i (.inr hi)]
 | ite c x y=>
  intro h;simp only[Ex.names,IA] at h;rw[Ip.pV,Ip.pV,fk c λi hi=>h i (.inl hi),fk x λi hi=>h i (.inr (.inl hi)),fk y λi hi=>h i (.inr (.inr hi))]
 | chain o p x y z=>
  intro h;simp only[Ex.names,IA] at h;rw[Ip.qU,Ip.qU,fk x λi hi=>h i (.inl hi),fk y λi hi=>h i (.inr (.inl hi)),fk z λi hi=>h i (.inr (.inr hi))]
 | sl2 x y z=>
  intro h;simp only[Ex.names,IA] at h;rw[Ip.sv,Ip.sv,fk x λi hi=>h i (.inl hi),fk y λi hi=>h i (.inr (.inl hi)),fk z λi hi=>h i (.inr (.inr hi))]
 | comp caps tg wk it t e=>
  intro h;simp only[Ex.names,IA] at h;have hc:caps.map (cJ a)=caps.map (cJ b):=Jl λo ho=>by
   cases o with
   | none=>rfl
   | some i=>
    show (a[i]?).join=(b[i]?).join;rw[h i (.inl (Kd.mpr ⟨some i,ho,rfl⟩))]
  rw[la,la,zAF it λi hi=>h i (.inr hi),hc]
 | call f es=>intro h; rw[nP,nP,zAF es (by simpa using h)]
 | make f es=>intro h; rw[ng,ng,zAF es (by simpa using h)]
 | meth m o es=>
  intro h;simp only[Ex.names,IA] at h;rw[lQ,lQ,fk o λi hi=>h i (.inl hi),zAF es λi hi=>h i (.inr hi)]
 | bad=>intro _; rw[gn,gn]
theorem zAF:∀es:aF,(∀i∈Ex.namess es,a[i]? = b[i]?)->evals G cl a es=evals G cl b es
 | [],_=>by rw[dI,dI]
 | e::es,h=>by
  simp only[Ex.namess,IA] at h;rw[b9,b9,fk e λi hi=>h i (.inl hi),zAF es λi hi=>h i (.inr hi)]
end
end
noncomputable def mask (ns:ak)(a:Sl):Sl:=a.mapIdx λi o=>if i∈ns then o else none
def ux (h:i∈ns):a[i]? = (mask ns a)[i]?:=by
 unfold mask;rw[IQ];cases a[i]? with
 | none=>rfl
 | some o=>simp[h]
def um (h:(mask ns a)[i]? = some (some d)):i∈ns/\a[i]? = some (some d):=by
 unfold mask at h;rw[IQ] at h;cases q:a[i]? with
 | none=>rw[q] at h; cases h
 | some o=>
  rw[q] at h;by_cases hi:i∈ns
  .simp[hi] at h; exact⟨hi,by rw[h]⟩
  .simp[hi] at h
def oy {A:Fr}{i:Nat}{d:D}(h:A.sl[i]? = some (some d)):∃k,A[i]? = some (some (k,d)):=by
 unfold Fr.sl at h;rw[HR] at h;obtain⟨o,h1,h2⟩:=cA h;obtain⟨x,h3,h4⟩:=cA h2;obtain⟨k,d'⟩:=x;cases h4;exact⟨k,by rw[h1,h3]⟩
def eQ (W:Wd)(S S':Hp):Prop:=∀a vs,SqT W.K S a vs->SqT W.K S' a vs
mutual
theorem Den.hide (h:eQ W S S'):∀{v d},d.flat=true->Den W S v d->Den W S' v d:=by
 intro _ _ hf hZ;cases hZ with
 | non=>exact .non
 | bl=>exact .bl
 | int=>exact .int
 | str=>exact .str
 | tup e q=>exact .tup (h _ _ e) (q.hide h (by rw[D.flat] at hf; exact hf))
 | lst _ _=>simp at hf
 | ins _ _ _=>simp at hf
theorem Dens.hide (h:eQ W S S'):∀{v d},D.flats d=true->Dens W S v d->Dens W S' v d:=by
 intro _ _ hf hZ;cases hZ with
 | nil=>exact .nil
 | cons e q=>
  rw[D.flats,HF] at hf;exact .cons (e.hide h hf.1) (q.hide h hf.2)
end
theorem Own.hide (h:eQ W S S'):∀{k v d fp},D.fb k d=true->Own W S H k v d fp->Own W S' H k v d fp
 | 0,_,_,_,hf,⟨e,o⟩=>⟨e,o.hide h (by rw[D.fb] at hf; exact hf)⟩
 | k+1,_,.lst ds,_,hf,⟨a,vs,fq,e1,e2,e3,e4⟩=>⟨a,vs,fq,e1,e2,e3.re (b:=D.fb k) (λ_ _ _ hb o=>Own.hide h hb o) hf,e4⟩
 | k+1,_,.tup ds,_,hf,⟨a,vs,e1,e2,e3⟩=>⟨a,vs,e1,h _ _ e2,e3.re (b:=D.fb k) (λ_ _ _ hb o=>Own.hide h hb o) hf⟩
 | k+1,_,.ins c ds,_,hf,⟨a,C,dx,fs,fq,e1,e2,e5,e3,e4⟩=>⟨a,C,dx,fs,fq,e1,e2,e5,e3.re (b:=D.fb k) (λ_ _ _ hb o=>Own.hide h hb o) hf,e4⟩
 | _+1,_,.non,_,_,⟨e,o⟩=>⟨e,o.hide h rfl⟩
 | _+1,_,.bl _,_,_,⟨e,o⟩=>⟨e,o.hide h rfl⟩
 | _+1,_,.int _,_,_,⟨e,o⟩=>⟨e,o.hide h rfl⟩
 | _+1,_,.str _,_,_,⟨e,o⟩=>⟨e,o.hide h rfl⟩
theorem Own.noTup:∀{k v d fp},Own W S H k v d fp->∀a∈fp,∀vs,¬Rd H a (.tup vs)
 | 0,_,_,_,h,a,z=>by rw[h.1] at z; simp at z
 | k+1,_,.lst ds,_,⟨a,vs,fq,e1,e2,e3,e4⟩,b,z=>by
  rw[e4] at z;rcases bQ z with q | q
  .intro ws r;rw[q] at r;rcases r with r | ⟨o,r⟩ <;> rw[e2] at r <;> cases r
  .exact e3.mem (λ_ _ _ y=>Own.noTup y) b q
 | k+1,_,.tup ds,_,⟨a,vs,e1,e2,e3⟩,b,z=>e3.mem (λ_ _ _ y=>Own.noTup y) b z
 | k+1,_,.ins c ds,_,⟨a,C,dx,fs,fq,e1,e2,e5,e3,e4⟩,b,z=>by
  rw[e4] at z;rcases bQ z with q | q
  .intro ws r;rw[q] at r;rcases r with r | ⟨o,r⟩ <;> rw[e2] at r <;> cases r
  .exact e3.mem (λ_ _ _ y=>Own.noTup y) b q
 | _+1,_,.non,_,h,a,z=>by rw[h.1] at z; simp at z
 | _+1,_,.bl _,_,h,a,z=>by rw[h.1] at z; simp at z
 | _+1,_,.int _,_,h,a,z=>by rw[h.1] at z; simp at z
 | _+1,_,.str _,_,h,a,z=>by rw[h.1] at z; simp at z
def ba (N:Addr->Prop)(F:Nat->ao):Addr->Prop:=λb=>N b\/∃j,b∈F j
structure FrF (W:Wd)(E0:Hp)(N:Addr->Prop)(pin:List (Nat×V))(A:Fr)(σ:St)(H:Hp)(F:Nat->ao):Prop where
 sub:Sub E0 H
 nok:NOk N H
 len:σ.length=A.length
 pn:∀p∈pin,σ[p.1]? = some (some p.2)
 nd:∀i,(F i).Nodup
 dj:∀i j b,b∈F i->b∈F j->i=j
 fr:∀i b,b∈F i->E0 b=none/\¬N b
 rel:∀(i:Nat) (x:KD),A[i]? = some (some x)->∃v,σ[i]? = some (some v)/\Own W (hid (ba N F) H) H x.1 v x.2 (F i)
 em:∀(i:Nat),(∀x,A[i]?≠some (some x))->F i=[]
theorem FrF.dom {W:Wd}{E0:Hp}{N:Addr->Prop}{pin:List (Nat×V)}{A:Fr}{σ:St}{H:Hp}{F:Nat->ao}(f:FrF W E0 N pin A σ H F){i:Nat}{b:Addr}(h:b∈F i):H b≠none:=by
 by_cases q:∃x,A[i]? = some (some x)
 .obtain⟨x,e⟩:=q;obtain⟨v,_,o⟩:=f.rel i x e;exact o.dom b h
 .rw[f.em i λx z=>q ⟨x,z⟩] at h; simp at h
theorem FrF.noTup {W:Wd}{E0:Hp}{N:Addr->Prop}{pin:List (Nat×V)}{A:Fr}{σ:St}{H:Hp}{F:Nat->ao}(f:FrF W E0 N pin A σ H F){i:Nat}{b:Addr}(h:b∈F i)(vs:av):¬Rd H b (.tup vs):=by
 by_cases q:∃x,A[i]? = some (some x)
 .obtain⟨x,e⟩:=q;obtain⟨v,_,o⟩:=f.rel i x e;exact o.noTup b h vs
 .rw[f.em i λx z=>q ⟨x,z⟩] at h; simp at h
def FrF.grow {W:Wd}{E0:Hp}{N:Addr->Prop}{pin:List (Nat×V)}{A:Fr}{σ:St}{H H':Hp}{F:Nat->ao}(f:FrF W E0 N pin A σ H F)(hs:Sub H H'){fp:ao}(hf:∀b∈fp,H b=none/\H' b≠none):FrF W E0 (λb=>N b\/b∈fp) pin A σ H' F where
 sub:=f.sub.trans hs
 nok:=λb z=>z.elim (f.nok.mono hs b) λy=>(hf b y).2
 len:=f.len
 pn:=f.pn
 nd:=f.nd
 dj:=f.dj
 fr:=λi b h=>⟨(f.fr i b h).1,λz=>z.elim (f.fr i b h).2 λy=>f.dom h (hf b y).1⟩
 rel:=λi x e=>by
  obtain⟨v,h1,h2⟩:=f.rel i x e;refine⟨v,h1,h2.mono (gp hs λb z=>?_) λb _ o e=>hs b o e⟩;rcases z with (z | z) | z
  .exact .inl (.inl z)
  .exact .inr (hf b z).1
  .exact .inl (.inr z)
 em:=f.em
def Ds:(frz1 A j)[i]? = if i=j then (A[i]?).map (Option.map λx=>(0,x.2)) else A[i]?:=by
 unfold frz1;cases q:A[j]? with
 | none=>
  by_cases z:i=j
  .subst z; simp[q]
  .simp[z]
 | some o=>
  cases o with
  | none=>
   by_cases z:i=j
   .subst z; simp[q]
   .simp[z]
  | some x=>
   obtain⟨k,d⟩:=x;have hl:j<A.length:=(dg q).1;by_cases z:i=j
   .subst z;simp[q,Ie hl]
   .simp only[if_neg z];exact HX λy=>z y.symm
theorem tY:∀{ns:ak} {A:Fr},(frz ns A)[i]? = if i∈ns then (A[i]?).map (Option.map λx=>(0,x.2)) else A[i]?
 | [],A=>by simp[frz]
 | n::ns,A=>by
  show (frz ns (frz1 A n))[i]? = _;rw[tY,Ds];by_cases h1:i=n
  .subst h1;by_cases h2:i∈ns
   .simp[h2,Function.comp_def]
   .simp[h2]
  .by_cases h2:i∈ns
   .simp[h1,h2]
   .simp[h1,h2]
theorem xC:∀{ns:ak} {A:Fr},(frz ns A).length=A.length
 | [],A=>rfl
 | n::ns,A=>by
  show (frz ns (frz1 A n)).length=_;rw[xC];unfold frz1;split
  .exact Io
  .rfl
section
variable {W:Wd}{E0:Hp}{N:Addr->Prop}{pin:List (Nat×V)}{A:Fr}{σ:St}{H:Hp}{F:Nat->ao}
noncomputable def bU (ns:ak)(F:Nat->ao):Nat->ao:=λj=>if j∈ns then [] else F j
def gw (h:b∈bU ns F j):j∉ns/\b∈F j:=by
 unfold bU at h;by_cases z:j∈ns
 .rw[if_pos z] at h; simp at h
 .rw[if_neg z] at h; exact⟨z,h⟩
def pL (h:ba N (bU ns F) b):ba N F b:=h.imp id λ⟨j,q⟩=>⟨j,(gw q).2⟩
def FrF.see (f:FrF W E0 N pin A σ H F)(hi:i∈ns)(h:A[i]? = some (some x)):∃v,σ[i]? = some (some v)/\Den W (hid (ba N (bU ns F)) H) v x.2:=by
 obtain⟨v,h1,o⟩:=f.rel i x h;refine⟨v,h1,o.den (λb u e=>?_) λb hb u e=>bh.mpr ⟨λz=>?_,e⟩⟩
 .obtain⟨g1,g2⟩:=bh.mp e;exact bh.mpr ⟨λz=>g1 (pL z),g2⟩
 .rcases z with z | ⟨j,z⟩
  .exact (f.fr i b hb).2 z
  .obtain⟨z1,z2⟩:=gw z;exact z1 (f.dj i j b hb z2 ▸ hi)
theorem FrF.frz (f:FrF W E0 N pin A σ H F)(ns:ak):FrF W E0 N pin (frz ns A) σ H (bU ns F) where
 sub:=f.sub
 nok:=f.nok
 len:=by rw[xC]; exact f.len
 pn:=f.pn
 nd:=λi=>by
  unfold bU;split
  .exact .nil
  .exact f.nd i
 dj:=λi j b h1 h2=>f.dj i j b (gw h1).2 (gw h2).2
 fr:=λi b h=>f.fr i b (gw h).2
 rel:=λi x e=>by
  rw[tY] at e;by_cases hi:i∈ns
  .rw[if_pos hi] at e;obtain⟨o,e1,e2⟩:=cA e;obtain⟨y,e3,e4⟩:=cA e2;rw[e3] at e1;subst e4;obtain⟨v,h1,h2⟩:=f.see hi e1;exact⟨v,h1,by unfold bU; rw[if_pos hi]; exact⟨rfl,h2⟩⟩
  .rw[if_neg hi] at e;obtain⟨v,h1,o⟩:=f.rel i x e;refine⟨v,h1,?_⟩;have:bU ns F i=F i:=by unfold bU; rw[if_neg hi]
   rw[this];exact o.mono (λb u e=>bh.mpr ⟨λz=>(bh.mp e).1 (pL z),(bh.mp e).2⟩) λ_ _ _ e=>e
 em:=λi h=>by
  unfold bU;by_cases hi:i∈ns
  .rw[if_pos hi]
  .rw[if_neg hi];exact f.em i λx z=>h x (by rw[tY,if_neg hi]; exact z)
def FrV (W:Wd)(E0:Hp)(N:Addr->Prop)(pin:List (Nat×V))(A:Fr)(σ:St)(H:Hp)(x:KD)(v:V):Prop:=
 ∃(fp:ao) (F:Nat->ao),FrF W E0 (λb=>N b\/b∈fp) pin A σ H F/\fp.Nodup/\(∀b∈fp,E0 b=none/\¬N b)/\Own W (hid (ba (λb=>N b\/b∈fp) F) H) H x.1 v x.2 fp
def Bx (f:FrF W E0 N pin A σ H F){H':Hp}(hs:Sub H H'){M:Addr->Prop}(hM:∀b,ba N F b->M b\/∃j,b∈F j){fp:ao}:eQ W (hid (λb=>M b\/b∈fp) H') (hid (ba (λb=>N b\/b∈fp) F) H'):=by
 intro a vs h;rcases h with h | h
 .refine .inl ?_;have noF:∀j,a∉F j:=λj z=>by
   have h':Rd H' a (.tup vs):=Rd.sub bF h;cases q:H a with
   | none=>exact f.dom z q
   | some o=>
    have e:=hs a o q;refine f.noTup z vs ?_;rcases h' with h' | ⟨u,h'⟩
    .rw[e] at h'; cases h'; exact .inl q
    .rw[e] at h'; cases h'; exact .inr ⟨u,q⟩
  have vis:∀o,hid (λb=>M b\/b∈fp) H' a=some o->hid (ba (λb=>N b\/b∈fp) F) H' a=some o:=λo e=>by
   obtain⟨g1,g2⟩:=bh.mp e;refine bh.mpr ⟨λz=>?_,g2⟩;rcases z with (z | z) | ⟨j,z⟩
   .rcases hM a (.inl z) with y | ⟨j,y⟩
    .exact g1 (.inl y)
    .exact noF j y
   .exact g1 (.inr z)
   .exact noF j z
  rcases h with h | ⟨u,h⟩
  .exact .inl (vis _ h)
  .exact .inr ⟨u,vis _ h⟩
 .exact .inr h
theorem lP {G:Pg}{cl:Nat->aw->Ip.Run}{E:St->XK}{Q:VK}{e:Ex}(f:FrF W E0 N pin A σ H F)(h:match Ip.eval G cl A.sl e with
  | .ok x=>∀v H',FrV W E0 N pin (Ip.settle e.names A x) σ H' x v->Q v H'
  | .bad=>False):bi W G cl e E σ H Q:=by
 have f1:=f.frz e.names;have hN:NOk (ba N (bU e.names F)) H:=λb z=>z.elim (f.nok b) λ⟨j,q⟩=>f1.dom q;refine⟨ba N (bU e.names F),mask e.names A.sl,hN,λi d hi=>?_,?_⟩
 .obtain⟨h1,h2⟩:=um hi;obtain⟨k,h3⟩:=oy h2;exact f.see h1 h3
 rw[<-fk (a:=A.sl) e λi hi=>ux hi];cases q:Ip.eval G cl A.sl e with
 | bad=>rw[q] at h; exact h
 | ok x=>
  rw[q] at h;rintro v H' ⟨hs,fp,nd,hf,o⟩;refine h v H' ⟨fp,?_⟩;have hfp:∀b∈fp,H b=none/\H' b≠none:=λb hb=>⟨hf b hb,o.dom b hb⟩
  have fr:∀b∈fp,E0 b=none/\¬N b:=λb hb=>⟨f.sub.none (hf b hb),λz=>f.nok b z (hf b hb)⟩
  unfold Ip.settle;by_cases hb:D.fb x.1 x.2=true
  .rw[if_pos hb];exact⟨F,f.grow hs hfp,nd,fr,o.hide (Bx f hs λb z=>z.elim (λy=>.inl (.inl y)) .inr) hb⟩
  .rw[if_neg hb];refine⟨bU e.names F,f1.grow hs hfp,nd,fr,o.mono (λb u e=>?_) λ_ _ _ e=>e⟩;obtain⟨g1,g2⟩:=bh.mp e;refine bh.mpr ⟨λz=>g1 ?_,g2⟩;rcases z with (z | z) | z
   .exact .inl (.inl z)
   .exact .inr z
   .exact .inl (.inr z)
end
end L2
end
section
namespace L2
open PySem PySem.Spec PyProof.Rows
open Ip (D KD Ex Op Pg Fn Sl Fr Wk Tg Tb O SL dJ bT cE cF cI cS cT bB gn b9 fin gc fN kR frz bH cu bq ou bf bI fj eV aO br aX outs pos? pos?_get ps? cY setFs cM jK jD g8 du cV dX)
def PostS (W:Wd)(E0:Hp)(N:Addr->Prop)(pin:List (Nat×V))(E:St->XK)(Dn:Ends):O->Prop
 | .nx A=>∀σ H F,FrF W E0 N pin A σ H F->Dn.nx σ H
 | .ret k d A=>∀v σ H,FrV W E0 N pin A σ H (k,d) v->Dn.rt v H
 | .bad=>False
def bZ (W:Wd)(G:Pg)(n:Nat)(io:ak)(E:St->XK)(s:Ip.S):TS:=λDn σ H=>∃(E0:Hp) (N:Addr->Prop) (pin:List (Nat×V)) (A:Fr) (F:Nat->ao),(∀p∈pin,p.1∈io)/\FrF W E0 N pin A σ H F/\PostS W E0 N pin E Dn (Ip.exec G (Ip.run G n) io A s)
def eR (W:Wd)(G:Pg)(n:Nat)(io:ak)(E:St->XK)(ss:List Ip.S):TS:=λDn σ H=>∃(E0:Hp) (N:Addr->Prop) (pin:List (Nat×V)) (A:Fr) (F:Nat->ao),(∀p∈pin,p.1∈io)/\FrF W E0 N pin A σ H F/\PostS W E0 N pin E Dn (Ip.execs G (Ip.run G n) io A ss)
section
variable {X:Cx}{W:Wd}{G:Pg}{n:Nat}{io:ak}{E:St->XK}{E0:Hp}{N:Addr->Prop}{pin:List (Nat×V)}{A:Fr}{σ:St}{H:Hp}{F:Nat->ao}
def dq {st:Stmt}:PS X st (bZ W G n io E .bad):=λpins s σ H Dn I ⟨_,_,_,_,_,_,_,h⟩=>by
 rw[Ip.yU] at h; exact h.elim
def A3:PSs X [] (eR W G n io E []):=GZ.mono λDn σ H ⟨_,_,_,_,_,_,f,h⟩=>by
 rw[Ip.vo] at h;exact h _ _ _ f
def Fx {st:Stmt}{sts:aG}{s:Ip.S}{ss:List Ip.S}(h1:PS X st (bZ W G n io E s))(h2:PSs X sts (eR W G n io E ss)):PSs X (st::sts) (eR W G n io E (s::ss)):=
 (D0 h1 h2).mono λDn σ H ⟨E0,N,pin,A,F,hp,f,h⟩=>by
  refine⟨E0,N,pin,A,F,hp,f,?_⟩;rw[Ip.j8] at h;cases q:Ip.exec G (Ip.run G n) io A s with
  | nx A'=>
   rw[q] at h;exact λσ' H' F' f'=>⟨E0,N,pin,A',F',hp,f',h⟩
  | ret k d A'=>rw[q] at h; exact h
  | bad=>rw[q] at h; exact h
theorem FrV.set (f:FrV W E0 N pin A σ H x v)(hi:∀p∈pin,p.1≠i)(hl:i<A.length):∃F,FrF W E0 N pin (A.set i (some x)) (σ.set i (some v)) H F:=by
 obtain⟨fp,F,f,nd,fr,o⟩:=f;have hlt:i < σ.length:=by rw[f.len]; exact hl
 refine⟨λj=>if j=i then fp else F j,⟨f.sub,λb z=>f.nok b (.inl z),by rw[Io,Io]; exact f.len,λp hp=>by rw[HX λz=>hi p hp z.symm]; exact f.pn p hp,λj=>?_,λj k b h1 h2=>?_,λj b h=>?_,λj y h=>?_,λj h=>?_⟩⟩
 .by_cases z:j=i
  .rw[if_pos z]; exact nd
  .rw[if_neg z]; exact f.nd j
 .by_cases z:j=i
  .rw[if_pos z] at h1;by_cases y:k=i
   .rw[z,y]
   .rw[if_neg y] at h2;exact absurd (.inr h1) (f.fr k b h2).2
  .rw[if_neg z] at h1;by_cases y:k=i
   .rw[if_pos y] at h2;exact absurd (.inr h2) (f.fr j b h1).2
   .rw[if_neg y] at h2;exact f.dj j k b h1 h2
 .by_cases z:j=i
  .rw[if_pos z] at h; exact fr b h
  .rw[if_neg z] at h;exact⟨(f.fr j b h).1,λy=>(f.fr j b h).2 (.inl y)⟩
 .have sub:Sub (hid (ba (λb=>N b\/b∈fp) F) H) (hid (ba N λj=>if j=i then fp else F j) H):=λb u e=>by
   obtain⟨g1,g2⟩:=bh.mp e;refine bh.mpr ⟨λz=>g1 ?_,g2⟩;rcases z with z | ⟨k,z⟩
   .exact .inl (.inl z)
   .by_cases y:k=i
    .simp only[if_pos y] at z; exact .inl (.inr z)
    .simp only[if_neg y] at z; exact .inr ⟨k,z⟩
  by_cases z:j=i
  .subst z;rw[Ie hl] at h;cases h;refine⟨v,Ie hlt,?_⟩;simp only[if_true];exact o.mono sub λ_ _ _ e=>e
  .rw[HX λy=>z y.symm] at h;obtain⟨w,h1,h2⟩:=f.rel j y h;refine⟨w,by rw[HX λy=>z y.symm]; exact h1,?_⟩;simp only[if_neg z];exact h2.mono sub λ_ _ _ e=>e
 .by_cases z:j=i
  .subst z;exact absurd (Ie hl) (h x)
  .simp only[if_neg z];exact f.em j λy w=>h y (by rw[HX λy=>z y.symm]; exact w)
def FrF.weaken (f:FrF W E1 N pin A σ H F)(h:Sub E0 E1):FrF W E0 N pin A σ H F:=
 ⟨h.trans f.sub,f.nok,f.len,f.pn,f.nd,f.dj,λi b hb=>⟨h.none (f.fr i b hb).1,(f.fr i b hb).2⟩,f.rel,f.em⟩
def PostS.strong (h:Sub E0 E1)(p:PostS W E0 N pin E Dn o):PostS W E1 N pin E Dn o:=by
 cases o with
 | nx A=>exact λσ H F f=>p σ H F (f.weaken h)
 | ret k d A=>exact λv σ H ⟨fp,F,f,nd,fr,o⟩=>p v σ H ⟨fp,F,f.weaken h,nd,λb hb=>⟨h.none (fr b hb).1,(fr b hb).2⟩,o⟩
 | bad=>exact p
def pd (f:FrF W E0 N pin A σ H F)(h:PostS W E0 N pin E Dn ((Ip.eval G (Ip.run G n) A.sl e).toO A k))
  (ok:∀x,Ip.eval G (Ip.run G n) A.sl e=.ok x->PostS W E0 N pin E Dn (k x)->∀v H',FrV W E0 N pin (Ip.settle e.names A x) σ H' x v->Q v H'):bi W G (Ip.run G n) e E σ H Q:=by
 refine lP f ?_;cases q:Ip.eval G (Ip.run G n) A.sl e with
 | bad=>rw[q] at h; exact h
 | ok x=>rw[q] at h; exact ok x q h
def r8 (h:bZ W G n io E (.set i e) Dn σ H):bi W G (Ip.run G n) e E σ H λv H1=>Dn.nx (σ.set i (some v)) H1:=by
 obtain⟨E0,N,pin,A,F,hp,f,h⟩:=h;rw[Ip.ls] at h;refine pd f h λx ex hk v H' fv=>?_;unfold cY at hk;by_cases c:io.contains i=false/\i<(Ip.settle e.names A x).length
 .rw[if_pos c] at hk;obtain⟨F',f'⟩:=fv.set (λp hp' z=>by have:=hp p hp'; rw[z] at this; have c1:=c.1; simp[this] at c1) c.2;exact hk _ _ _ f'
 .rw[if_neg c] at hk; exact hk.elim
def FrV.drop (h:FrV W E0 N pin A σ H x v):∃F,FrF W E0 N pin A σ H F/\Den W (hid (ba N F) H) v x.2:=by
 obtain⟨fp,F',f',nd,fr,o⟩:=h;refine⟨F',⟨f'.sub,λb z=>f'.nok b (.inl z),f'.len,f'.pn,f'.nd,f'.dj,λi b hb=>⟨(f'.fr i b hb).1,λz=>(f'.fr i b hb).2 (.inl z)⟩,λi y hy=>?_,f'.em⟩,?_⟩
 .obtain⟨w,h1,h2⟩:=f'.rel i y hy;refine⟨w,h1,h2.mono (λb u e=>?_) λ_ _ _ e=>e⟩;obtain⟨g1,g2⟩:=bh.mp e;exact bh.mpr ⟨λz=>g1 (z.imp .inl id),g2⟩
 .refine o.den (λb u e=>?_) λb hb u e=>bh.mpr ⟨λz=>?_,e⟩
  .obtain⟨g1,g2⟩:=bh.mp e;exact bh.mpr ⟨λz=>g1 (z.imp .inl id),g2⟩
  .rcases z with z | ⟨j,z⟩
   .exact (fr b hb).2 z
   .exact (f'.fr j b z).2 (.inr hb)
def qN (h:bZ W G n io E (.ex e) Dn σ H):bi W G (Ip.run G n) e E σ H λv H1=>Dn.nx σ H1:=by
 obtain⟨E0,N,pin,A,F,hp,f,h⟩:=h;rw[Ip.rd] at h;refine pd f h λx ex hk v H' fv=>?_;obtain⟨F',f',_⟩:=fv.drop;exact hk σ H' F' f'
def uZ (hv:∀i,e≠.var i)(h:bZ W G n io E (.ret e) Dn σ H):bi W G (Ip.run G n) e E σ H Dn.rt:=by
 obtain⟨E0,N,pin,A,F,hp,f,h⟩:=h;rw[Ip.nR] at h;have e1:Ip.cr A e (Ip.eval G (Ip.run G n) A.sl e)=(Ip.eval G (Ip.run G n) A.sl e).toO A λx=>.ret x.1 x.2 (Ip.settle e.names A x):=by
  cases e <;> first | rfl | exact absurd rfl (hv _)
 rw[e1] at h;exact pd f h λx ex hk v H' fv=>hk v σ H' fv
def FrF.moved (f:FrF W E0 N pin A σ H F)(q:A[i]? = some (some x)):∃v,σ[i]? = some (some v)/\FrV W E0 N pin (A.set i none) σ H x v:=by
 obtain⟨v,hv,ow⟩:=f.rel i x q;have hl:i<A.length:=(dg q).1;have eqH:∀b,ba (λb=>N b\/b∈F i) (bU [i] F) b↔ba N F b:=λb=>by
  constructor
  .intro z;rcases z with (z | z) | ⟨j,z⟩
   .exact .inl z
   .exact .inr ⟨i,z⟩
   .exact .inr ⟨j,(gw z).2⟩
  .intro z;rcases z with z | ⟨j,z⟩
   .exact .inl (.inl z)
   .by_cases y:j=i
    .rw[y] at z; exact .inl (.inr z)
    .exact .inr ⟨j,by unfold bU; rw[if_neg (by simpa using y)]; exact z⟩
 have eqF:ba (λb=>N b\/b∈F i) (bU [i] F)=ba N F:=funext λb=>propext (eqH b);refine⟨v,hv,⟨F i,bU [i] F,?_,f.nd i,λb hb=>f.fr i b hb,by rw[eqF]; exact ow⟩⟩;refine⟨f.sub,λb z=>z.elim (f.nok b) λy=>f.dom y,by rw[Io]; exact f.len,f.pn,λj=>?_,λj k b h1 h2=>f.dj j k b (gw h1).2 (gw h2).2,λj b hb=>?_,λj y hy=>?_,λj hj=>?_⟩
 .unfold bU;split
  .exact .nil
  .exact f.nd j
 .obtain⟨z1,z2⟩:=gw hb;refine⟨(f.fr j b z2).1,λz=>z.elim (f.fr j b z2).2 λy=>z1 ?_⟩;rw[f.dj j i b z2 y]; simp
 .by_cases z:j=i
  .subst z;rw[Ie hl] at hy; cases hy
  .rw[HX λy=>z y.symm] at hy;obtain⟨w,h1,h2⟩:=f.rel j y hy;refine⟨w,h1,?_⟩;have:bU [i] F j=F j:=by unfold bU; rw[if_neg (by simpa using z)]
   rw[this,eqF];exact h2
 .unfold bU;by_cases z:j=i
  .rw[if_pos (by simpa using z)]
  .rw[if_neg (by simpa using z)];exact f.em j λy w=>hj y (by rw[HX λy=>z y.symm]; exact w)
def C0 (h:bZ W G n io E (.ret (.var i)) Dn σ H):∃v,σ[i]? = some (some v)/\Dn.rt v H:=by
 obtain⟨E0,N,pin,A,F,hp,f,h⟩:=h;rw[Ip.nR,Ip.uH] at h;cases q:A[i]? with
 | none=>rw[q] at h; exact h.elim
 | some o=>
  cases o with
  | none=>rw[q] at h; exact h.elim
  | some x=>
   rw[q] at h;obtain⟨v,hv,fv⟩:=f.moved q;exact⟨v,hv,h v σ H fv⟩
def AD (h:bZ W G n io E (.retP s i) Dn σ H):nq (mY (cm (tC (.str s)) (cm (dY i) eG))) Dn σ H:=by
 obtain⟨E0,N,pin,A,F,hp,f,h⟩:=h;rw[Ip.xE] at h;cases q:A[i]? with
 | none=>rw[q] at h; exact h.elim
 | some o=>
  cases o with
  | none=>rw[q] at h; exact h.elim
  | some x=>
   rw[q] at h;obtain⟨v,hv,fp,F',f',nd,fr,ow⟩:=f.moved q;refine⟨v,hv,bv (show 2<=2 from bC _) (by decide),λp hp'=>?_⟩;have sub:Sub H (upd H p (.tup [.str s,v])):=Sub.upd hp';have g:=f'.grow sub (fp:=[]) λb z=>by simp at z
   have eN:(λb=>(N b\/b∈fp)\/b∈([]:ao))=λb=>N b\/b∈fp:=funext λb=>propext (by simp);rw[eN] at g;have pn:¬ba (λb=>N b\/b∈fp) F' p:=λz=>z.elim (λy=>f'.nok p y hp') λ⟨j,y⟩=>f'.dom y hp';refine h _ σ _ ⟨fp,F',g,nd,fr,p,[.str s,v],rfl,SqT.of (bh.mpr ⟨pn,dc⟩),?_⟩;have o2:Own W (hid (ba (λb=>N b\/b∈fp) F') (upd H p (.tup [.str s,v]))) (upd H p (.tup [.str s,v])) x.1 v x.2 fp:=ow.mono (gp sub λ_ z=>.inl z) λb _ u e=>sub b u e;have:=OwnL.cons (f:=[]) (Own.flat (k:=x.1) (H:=upd H p (.tup [.str s,v])) (d:=.str s) rfl (.str (S:=hid (ba (λb=>N b\/b∈fp) F') (upd H p (.tup [.str s,v]))))) (OwnL.cons o2 .nil);simpa using this
def uB (f:FrF W E0 N pin A σ H F)(h:PostS W E0 N pin E Dn (((Ip.eval G (Ip.run G n) A.sl e).bl).toO A k))
  (ok:∀b,PostS W E0 N pin E Dn (k b)->∀H',FrF W E0 N pin A σ H' F->Q b H'):bS W G (Ip.run G n) e E σ H Q:=by
 have f1:=f.frz e.names;have hN:NOk (ba N (bU e.names F)) H:=λb z=>z.elim (f.nok b) λ⟨j,q⟩=>f1.dom q;have grow0:∀H',Sub H H'->FrF W E0 N pin A σ H' F:=λH' hs=>by
  have g:=f.grow hs (fp:=[]) λb z=>by simp at z
  have:(λb=>N b\/b∈([]:ao))=N:=funext λb=>propext (by simp);rw[this] at g; exact g
 refine⟨ba N (bU e.names F),mask e.names A.sl,hN,λi d hi=>?_,?_⟩
 .obtain⟨h1,h2⟩:=um hi;obtain⟨k,h3⟩:=oy h2;exact f.see h1 h3
 rw[<-fk (a:=A.sl) e λi hi=>ux hi];cases q:Ip.eval G (Ip.run G n) A.sl e with
 | bad=>rw[q] at h; exact h
 | ok x=>
  obtain⟨kx,d⟩:=x;rw[q] at h;cases d <;> try (exact h.elim)
  rename_i b;exact λH' hs=>ok b h H' (grow0 H' hs)
end
section
variable {X:Cx}{W:Wd}{G:Pg}{n:Nat}{io:ak}{E:St->XK}{E0:Hp}{N:Addr->Prop}{pin:List (Nat×V)}{A:Fr}{σ:St}{H:Hp}{F:Nat->ao}
def Av (h:bZ W G n io E (.iff c t e) Dn σ H):jO (bS W G (Ip.run G n) c E) (eR W G n io E t) (eR W G n io E e) Dn σ H:=by
 obtain⟨E0,N,pin,A,F,hp,f,h⟩:=h;rw[Ip.wz] at h;unfold jO;refine uB f h λb hk H' f'=>?_;cases b with
 | true=>rw[if_pos rfl] at hk ⊢; exact⟨E0,N,pin,A,F,hp,f',hk⟩
 | false=>rw[if_neg (by decide)] at hk ⊢; exact⟨E0,N,pin,A,F,hp,f',hk⟩
theorem De:du test body (m+1) A=(test A).toO A λb=>if b=true then (match body A with
  | .nx A=>du test body m A
  | o=>o) else .nx A:=by
 rw[du];cases test A with
 | ok b=>cases b <;> rfl
 | bad=>rfl
def Hh (h:bZ W G n io E (.whl c b) Dn σ H):fT (bS W G (Ip.run G n) c E) (eR W G n io E b) Dn σ H:=by
 obtain⟨E0,N,pin,A,F,hp,f,h⟩:=h;rw[Ip.xB] at h;unfold fT;refine⟨λm σ H=>∃A F,FrF W E0 N pin A σ H F/\PostS W E0 N pin E Dn (du (g8 G (Ip.run G n) c) (jD G (Ip.run G n) io b) m A),⟨10000,A,F,f,h⟩,?_⟩;rintro m σ1 H1 ⟨A1,F1,f1,h1⟩;cases m with
 | zero=>exact h1.elim
 | succ m=>
  rw[De] at h1;refine uB f1 h1 λbb hk H' f'=>?_;cases bb with
  | false=>rw[if_neg (by decide)] at hk ⊢; exact hk _ _ _ f'
  | true=>
   rw[if_pos rfl] at hk ⊢;refine⟨λσ H=>∃A F,FrF W E0 N pin A σ H F/\PostS W E0 N pin E Dn (du (g8 G (Ip.run G n) c) (jD G (Ip.run G n) io b) m A),λσ' H' ⟨A',F',f',p'⟩=>⟨m,Jq _,A',F',f',p'⟩,E0,N,pin,A1,F1,hp,f',?_⟩;have qe:jD G (Ip.run G n) io b A1=Ip.execs G (Ip.run G n) io A1 b:=rfl;rw[qe] at hk;cases q:Ip.execs G (Ip.run G n) io A1 b with
   | nx A'=>rw[q] at hk; exact λσ H F f=>⟨A',F,f,hk⟩
   | ret k d A'=>rw[q] at hk; exact hk
   | bad=>rw[q] at hk; exact hk
def FrF.set0 (f:FrF W E0 N pin A σ H F)(hd:Den W (hid (ba N F) H) v d)(hi:∀p∈pin,p.1≠i)(hl:i<A.length):FrF W E0 N pin (A.set i (some (0,d))) (σ.set i (some v)) H (bU [i] F):=by
 have hlt:i < σ.length:=by rw[f.len]; exact hl
 refine⟨f.sub,f.nok,by rw[Io,Io]; exact f.len,λp hp=>by rw[HX λz=>hi p hp z.symm]; exact f.pn p hp,λj=>?_,λj k b h1 h2=>f.dj j k b (gw h1).2 (gw h2).2,λj b hb=>f.fr j b (gw hb).2,λj y hy=>?_,λj hj=>?_⟩
 .unfold bU;split
  .exact .nil
  .exact f.nd j
 .have sub:Sub (hid (ba N F) H) (hid (ba N (bU [i] F)) H):=λb u e=>bh.mpr ⟨λz=>(bh.mp e).1 (pL z),(bh.mp e).2⟩;by_cases z:j=i
  .subst z;rw[Ie hl] at hy;cases hy;refine⟨v,Ie hlt,?_⟩;unfold bU;rw[if_pos (by simp)];exact⟨rfl,hd.mono sub⟩
  .rw[HX λy=>z y.symm] at hy;obtain⟨w,h1,h2⟩:=f.rel j y hy;refine⟨w,by rw[HX λy=>z y.symm]; exact h1,?_⟩;have:bU [i] F j=F j:=by unfold bU; rw[if_neg (by simpa using z)]
   rw[this];exact h2.mono sub λ_ _ _ e=>e
 .unfold bU;by_cases z:j=i
  .rw[if_pos (by simpa using z)]
  .rw[if_neg (by simpa using z)];exact f.em j λy w=>hj y (by rw[HX λy=>z y.symm]; exact w)
def Bm:Sub (hid (ba N F) H) (hid (ba N (bU ns F)) H):=λb u e=>bh.mpr ⟨λz=>(bh.mp e).1 (pL z),(bh.mp e).2⟩
def vv (hp:∀p∈pin,p.1∈io)(h:io.contains i=false):∀p∈pin,p.1≠i:=λp hp' z=>by
 have:=hp p hp';rw[z] at this;simp[this] at h
theorem ur (hp:∀p∈pin,p.1∈io)(hQ:∀A F σ,FrF W E0 N pin A σ H F->PostS W E0 N pin E Dn (k A)->Q σ H) :
  ∀{is:ak} {vs:av} {ds:ax} {A:Fr} {σ:St} {F:Nat->ao},Dens W (hid (ba N F) H) vs ds->FrF W E0 N pin A σ H F->PostS W E0 N pin E Dn ((setFs io is (ds.map λd=>(0,d)) A).seq k)->iZ is vs σ H Q
 | [],_,_,A,σ,F,.nil,f,h=>⟨rfl,hQ A F σ f h⟩
 | [],_,_,_,_,_,.cons _ _,_,h=>h.elim
 | _::_,_,_,_,_,_,.nil,_,h=>h.elim
 | i::is,_,_,A,σ,F,.cons hd q,f,h=>by
  refine⟨_,_,rfl,?_⟩;show iZ is _ (σ.set i (some _)) H Q;simp only[HQ,setFs] at h;unfold cY at h;by_cases c:io.contains i=false/\i<A.length
  .rw[if_pos c] at h;exact ur hp hQ (q.mono Bm) (f.set0 hd (vv hp c.1) c.2) h
  .rw[if_neg c] at h; exact h.elim
def vR (hK:W.K=X.K)(hp:∀p∈pin,p.1∈io)(hd:Den W (hid (ba N F) H) v d)(f:FrF W E0 N pin A σ H F)(h:PostS W E0 N pin E Dn ((bT io tg d A).seq k))
  (hQ:∀A F σ,FrF W E0 N pin A σ H F->PostS W E0 N pin E Dn (k A)->Q σ H):gT X.K tg v σ H Q:=by
 cases tg with
 | one i=>
  simp only[bT] at h;unfold cY at h;by_cases c:io.contains i=false/\i<A.length
  .rw[if_pos c] at h;exact hQ _ _ _ (f.set0 hd (vv hp c.1) c.2) h
  .rw[if_neg c] at h; exact h.elim
 | many is=>
  cases hd <;> simp only[bT] at h <;> try (exact h.elim)
  .rename_i a vs ds h1 h2;exact .inr ⟨a,vs,rfl,.inl (Rd.sub bF h1),h2.length.trans (len_of h),ur hp hQ h2 f h⟩
  .rename_i a vs ds h1 h2;exact .inl ⟨a,vs,rfl,hK ▸ SqT.sub bF h1,h2.length.trans (len_of h),ur hp hQ h2 f h⟩
where
 len_of {E0:Hp} {Dn:Ends} {k:Fr->O}:∀{is:ak} {ds:ax} {A:Fr},PostS W E0 N pin E Dn ((setFs io is (ds.map λd=>(0,d)) A).seq k)->ds.length=is.length
  | [],[],_,_=>rfl
  | [],_::_,_,h=>h.elim
  | _::_,[],_,h=>h.elim
  | i::is,d::ds,A,h=>by
   simp only[HQ,setFs] at h;unfold cY at h;by_cases c:io.contains i=false/\i<A.length
   .rw[if_pos c] at h;rw[List.length_cons,List.length_cons,len_of h]
   .rw[if_neg c] at h; exact h.elim
def wZ (hK:W.K=X.K)(h:bZ W G n io E (.setT is e) Dn σ H):bi W G (Ip.run G n) e E σ H λv H1=>gT X.K (.many is) v σ H1 Dn.nx:=by
 obtain⟨E0,N,pin,A,F,hp,f,h⟩:=h;rw[Ip.tf] at h;refine pd f h λx ex hk v H' fv=>?_;obtain⟨F',f',dv⟩:=fv.drop;have sq:∀o:O,(o.seq λA=>.nx A)=o:=λo=>by cases o <;> rfl
 have eb:Ip.ft io is e A x=bT io (.many is) x.2 (Ip.settle e.names A x):=by
  obtain⟨k,d⟩:=x;cases d <;> rfl
 rw[eb,<-sq (bT io (.many is) x.2 (Ip.settle e.names A x))] at hk;exact vR hK hp dv f' hk λA F σ f h=>h σ H' F f
def Ev (f:FrF W E0 N pin A σ H F)(h:PostS W E0 N pin E Dn ((Ip.evals G (Ip.run G n) A.sl it).toO A k))(nb:∀vs,PostS W E0 N pin E Dn (k vs)->∃ds,cV wk vs=some ds)
  (ok:∀vs ds,cV wk vs=some ds->PostS W E0 N pin E Dn (k vs)->∀J H',Sub H H'->ItD W (ba N (bU (Ip.Wk.fz wk it) F)) H' J ds->R J H'):fW W G (Ip.run G n) wk it E σ H R:=by
 have f1:=f.frz (Ex.namess it);have hN:NOk (ba N (bU (Ex.namess it) F)) H:=λb z=>z.elim (f.nok b) λ⟨j,q⟩=>f1.dom q;refine⟨ba N (bU (Ex.namess it) F),mask (Ex.namess it) A.sl,hN,λi d hi=>?_,?_⟩
 .obtain⟨h1,h2⟩:=um hi;obtain⟨k,h3⟩:=oy h2;exact f.see h1 h3
 rw[<-zAF (a:=A.sl) it λi hi=>ux hi];cases q:Ip.evals G (Ip.run G n) A.sl it with
 | bad=>rw[q] at h; exact h
 | ok vs=>
  rw[q] at h;obtain⟨ds,e⟩:=nb vs h;simp only[e];refine λJ H' hs hJ hr=>ok vs ds e h J H' hs ?_;unfold Ip.Wk.fz;by_cases hw:wk.rng=true
  .rw[if_pos hw]; exact hr hw _
  .rw[if_neg hw]; exact hJ
def GU (hK:W.K=X.K)(h:bZ W G n io E (.fo tg wk it b) Dn σ H):jE (fW W G (Ip.run G n) wk it E) (gT X.K tg) (eR W G n io E b) Dn σ H:=by
 obtain⟨E0,N,pin,A,F,hp,f,h⟩:=h;rw[Ip.qM] at h;unfold jE;have pre:∀vs,PostS W E0 N pin E Dn (kR G (bI (fN G (Ip.run G n) io tg b)) wk it A vs)->∃ds,cV wk vs=some ds/\ds.length<=SL/\PostS W E0 N pin E Dn (bI (fN G (Ip.run G n) io tg b) ds (frz (Ip.Wk.fz wk it) A)):=λvs hv=>by
  unfold kR at hv;cases q:cV wk vs with
  | none=>rw[q] at hv; exact hv.elim
  | some ds=>
   rw[q] at hv;simp only at hv;by_cases hl:ds.length<=SL
   .rw[if_pos hl] at hv; exact⟨ds,rfl,hl,hv⟩
   .rw[if_neg hl] at hv; exact hv.elim
 refine Ev f h (λvs hv=>by obtain⟨ds,e,_⟩:=pre vs hv; exact⟨ds,e⟩) λvs ds e hv J H1 hs hJ=>?_;obtain⟨ds',e',hl,hq⟩:=pre vs hv;rw[e] at e';cases e';have f0:=f.frz (Ip.Wk.fz wk it);have f1:FrF W E0 N pin (frz (Ip.Wk.fz wk it) A) σ H1 (bU (Ip.Wk.fz wk it) F):=by
  have g:=f0.grow hs (fp:=[]) λb z=>by simp at z
  have:(λb=>N b\/b∈([]:ao))=N:=funext λb=>propext (by simp);rw[this] at g; exact g
 have hE1:Sub E0 (hid (λb=>∃j,b∈bU (Ip.Wk.fz wk it) F j) H1):=λb o eb=>bh.mpr ⟨(λ⟨j,z⟩=>by rw[(f1.fr j b z).1] at eb; cases eb),f1.sub b o eb⟩;have f2:FrF W (hid (λb=>∃j,b∈bU (Ip.Wk.fz wk it) F j) H1) N pin (frz (Ip.Wk.fz wk it) A) σ H1 (bU (Ip.Wk.fz wk it) F):=
  ⟨bF,f1.nok,f1.len,f1.pn,f1.nd,f1.dj,λi b hb=>⟨by
   cases q:hid (λb=>∃j,b∈bU (Ip.Wk.fz wk it) F j) H1 b with
   | none=>rfl
   | some o=>exact absurd ⟨i,hb⟩ (bh.mp q).1,(f1.fr i b hb).2⟩,f1.rel,f1.em⟩
 have hvis:∀b o,hid (ba N (bU (Ip.Wk.fz wk it) F)) H1 b=some o->¬N b/\hid (λb=>∃j,b∈bU (Ip.Wk.fz wk it) F j) H1 b=some o:=λb o e=>by
  obtain⟨g1,g2⟩:=bh.mp e;exact⟨λz=>g1 (.inl z),bh.mpr ⟨λz=>g1 (.inr z),g2⟩⟩
 generalize hid (λb=>∃j,b∈bU (Ip.Wk.fz wk it) F j) H1=E1 at hE1 f2 hvis;refine⟨λi m σ H=>i<=ds.length/\m=ds.length - i/\∃A F,FrF W E1 N pin A σ H F/\PostS W E0 N pin E Dn (bI (fN G (Ip.run G n) io tg b) (ds.drop i) A),⟨ds.length,ID _,by omega,_,_,f2,by simpa using hq⟩,?_⟩;rintro i m σ1 Hc ⟨hi,rfl,A1,F1,f3,p3⟩;have hsub:Sub (hid (ba N (bU (Ip.Wk.fz wk it) F)) H1) (hid (ba N F1) Hc):=λb o e=>by
  obtain⟨g1,g2⟩:=hvis b o e;refine bh.mpr ⟨λz=>?_,f3.sub b o g2⟩;rcases z with z | ⟨j,z⟩
  .exact g1 z
  .rw[(f3.fr j b z).1] at g2; cases g2
 have hN3:NOk (ba N F1) Hc:=λb z=>z.elim (f3.nok b) λ⟨j,q⟩=>f3.dom q;obtain⟨J1,J2⟩:=hJ (ba N F1) Hc hsub hN3 i;by_cases hlt:i<ds.length
 .have hdrop:ds.drop i=ds[i]::ds.drop (i+1):=IE hlt;rw[hdrop,bI] at p3;obtain⟨Jg,Jy⟩:=J1 ds[i] (by simp[hlt]);refine .inr ⟨Jg,λσ H=>∃A F,FrF W E1 N pin A σ H F/\PostS W E0 N pin E Dn (bI (fN G (Ip.run G n) io tg b) (ds.drop (i+1)) A),λσ' H' ⟨A',F',f',p'⟩=>⟨ds.length - (i+1),by omega,hlt,rfl,A',F',f',p'⟩,λx H' hy=>?_⟩;obtain⟨s3,dx⟩:=Jy x H' hy;have f4:FrF W E1 N pin A1 σ1 H' F1:=by
   have g:=f3.grow s3 (fp:=[]) λb z=>by simp at z
   have:(λb=>N b\/b∈([]:ao))=N:=funext λb=>propext (by simp);rw[this] at g; exact g
  have turn:PostS W E1 N pin E { Dn with nx:=λσ H=>∃A F,FrF W E1 N pin A σ H F/\PostS W E0 N pin E Dn (bI (fN G (Ip.run G n) io tg b) (ds.drop (i+1)) A),ct:=λσ H=>∃A F,FrF W E1 N pin A σ H F/\PostS W E0 N pin E Dn (bI (fN G (Ip.run G n) io tg b) (ds.drop (i+1)) A),bk:=Dn.nx }
    (fN G (Ip.run G n) io tg b ds[i] A1):=by
   cases q:fN G (Ip.run G n) io tg b ds[i] A1 with
   | nx A'=>rw[q] at p3; exact λσ H F f=>⟨A',F,f,p3⟩
   | ret k d A'=>
    rw[q] at p3;exact PostS.strong (Dn:=Dn) (o:=.ret k d A') hE1 p3
   | bad=>rw[q] at p3; exact p3
  unfold fN at turn;exact vR hK hp dx f4 turn λA2 F2 σ2 g p=>⟨E1,N,pin,A2,F2,hp,g,p⟩
 .have e:i=ds.length:=by omega
  subst e;rw[List.drop_of_length_le (KM _),bI] at p3;exact .inl ⟨J2 (bC _),p3 _ _ _ (f3.weaken hE1)⟩
end
section
variable {X:Cx}{W:Wd}{G:Pg}{n:Nat}{io:ak}{E:St->XK}{E0:Hp}{N:Addr->Prop}{pin:List (Nat×V)}{A:Fr}{σ:St}{H:Hp}{F:Nat->ao}
def FrF.upd {fp fx:ao}{x:Nat}{l:Addr}{v0:V}{y:KD}{H2:Hp}(f:FrF W E0 (λb=>N b\/b∈fp) pin A σ H F)(fr:∀b∈fp,E0 b=none/\¬N b)(hl:l∈F x)(hx:x<A.length)(hσ:σ[x]? = some (some v0))(hfx:fx.Nodup)(hin:∀b∈fx,b∈F x\/b∈fp)
  (h12:∀b,b≠l->∀u,H b=some u->H2 b=some u)(h2l:H2 l≠none)(hy:Own W (hid (ba N λj=>if j=x then fx else F j) H2) H2 y.1 v0 y.2 fx):FrF W E0 N pin (A.set x (some y)) σ H2 λj=>if j=x then fx else F j:=by
 have l0:E0 l=none:=(f.fr x l hl).1;have mem:∀j b,b∈(if j=x then fx else F j)->(j=x/\b∈fx)\/(j≠x/\b∈F j):=λj b h=>by
  by_cases z:j=x
  .rw[if_pos z] at h; exact .inl ⟨z,h⟩
  .rw[if_neg z] at h; exact .inr ⟨z,h⟩
 refine⟨λb u e=>h12 b (λz=>by rw[z,l0] at e; cases e) u (f.sub b u e),λb z=>?_,by rw[Io]; exact f.len,f.pn,λj=>?_,λi j b h1 h2=>?_,λj b h=>?_,λj z hz=>?_,λj hj=>?_⟩
 .by_cases q:b=l
  .rw[q]; exact h2l
  .have:=f.nok b (.inl z);cases e:H b with
   | none=>exact absurd e this
   | some u=>rw[h12 b q u e]; simp
 .by_cases z:j=x
  .simp only[if_pos z]; exact hfx
  .simp only[if_neg z]; exact f.nd j
 .rcases mem i b h1 with ⟨z1,q1⟩ | ⟨z1,q1⟩ <;> rcases mem j b h2 with ⟨z2,q2⟩ | ⟨z2,q2⟩
  .rw[z1,z2]
  .rcases hin b q1 with w | w
   .exact absurd (f.dj j x b q2 w) z2
   .exact absurd (.inr w) (f.fr j b q2).2
  .rcases hin b q2 with w | w
   .exact absurd (f.dj i x b q1 w) z1
   .exact absurd (.inr w) (f.fr i b q1).2
  .exact f.dj i j b q1 q2
 .rcases mem j b h with ⟨z,q⟩ | ⟨z,q⟩
  .rcases hin b q with w | w
   .exact⟨(f.fr x b w).1,λy=>(f.fr x b w).2 (.inl y)⟩
   .exact fr b w
  .exact⟨(f.fr j b q).1,λy=>(f.fr j b q).2 (.inl y)⟩
 .by_cases q:j=x
  .subst q;rw[Ie hx] at hz;cases hz;exact⟨_,hσ,by simp only[if_true]; exact hy⟩
  .rw[HX λy=>q y.symm] at hz;obtain⟨w,h1,h2⟩:=f.rel j z hz;refine⟨w,h1,?_⟩;simp only[if_neg q];refine h2.mono (λb u e=>?_) λb hb u e=>h12 b (λy=>q (f.dj j x b hb (y ▸ hl))) u e;obtain⟨g1,g2⟩:=bh.mp e;have bl:b≠l:=λy=>g1 (.inr ⟨x,y ▸ hl⟩);refine bh.mpr ⟨λy=>?_,h12 b bl u g2⟩;rcases y with y | ⟨i,y⟩
   .exact g1 (.inl (.inl y))
   .rcases mem i b y with ⟨z1,q1⟩ | ⟨z1,q1⟩
    .rcases hin b q1 with w | w
     .exact g1 (.inr ⟨x,w⟩)
     .exact g1 (.inl (.inr w))
    .exact g1 (.inr ⟨i,q1⟩)
 .by_cases q:j=x
  .subst q;exact absurd (Ie hx) (hj y)
  .simp only[if_neg q];exact f.em j λz w=>hj z (by rw[HX λy=>q y.symm]; exact w)
theorem OwnL.snoc (h:P v d g):∀{vs ds fp},OwnL P vs ds fp->OwnL P (vs++[v]) (ds++[d]) (fp++g):=by
 intro _ _ _ hZ;cases hZ with
 | nil=>simpa using OwnL.cons h .nil
 | cons h0 q=>
  rw[List.cons_append,List.cons_append,Jx];exact .cons h0 (OwnL.snoc h q)
def DH {x:Nat}{k:Nat}{xs:ax}{v:KD}{w:V}(fv:FrV W E0 N pin A σ H v w)(hx:A[x]? = some (some (k+1,.lst xs))) :
  ∃l ws,σ[x]? = some (some (.ref l))/\H l=some (.lst ws)/\ws.length=xs.length/\∃F',FrF W E0 N pin (A.set x (some (dJ k xs v+1,.lst (xs++[v.2])))) σ (upd H l (.lst (ws++[w]))) F':=by
 obtain⟨fp,F,f,nd,fr,o⟩:=fv;obtain⟨z,hσ,l,ws,fq,rfl,e2,e3,e4⟩:=f.rel x _ hx;have hl:l∈F x:=by rw[e4]; exact bN
 have hxl:x<A.length:=(dg hx).1;have ndx:=f.nd x;rw[e4] at ndx;obtain⟨lq,ndq⟩:=HZ.mp ndx;have lfp:l∉fp:=λz=>(f.fr x l hl).2 (.inr z);have qF:∀b∈fq,b∈F x:=λb hb=>by rw[e4]; exact bM _ hb
 have h12:∀b,b≠l->∀u,H b=some u->(L2.upd H l (.lst (ws++[w]))) b=some u:=λb nb u e=>by rw[ca nb]; exact e
 refine⟨l,ws,hσ,e2,e3.length,?_⟩;have deep:∀j,br j v=true->(xs.all λd=>br j (k,d))=true->∃F',FrF W E0 N pin (A.set x (some (j+1,.lst (xs++[v.2])))) σ (L2.upd H l (.lst (ws++[w]))) F':=λj h1 h2=>by
  refine⟨_,f.upd (fx:=l::(fq++fp)) (y:=(j+1,.lst (xs++[v.2]))) fr hl hxl hσ ?_ (λb hb=>?_) h12 (by rw[dc]; simp) ⟨l,_,fq++fp,rfl,dc,?_,rfl⟩⟩
  .refine HZ.mpr ⟨λz=>(cO z).elim lq lfp,HV.mpr ⟨ndq,nd,λb hb c hc z=>?_⟩⟩;subst z;exact (f.fr x b (qF b hb)).2 (.inr hc)
  .rcases bQ hb with z | z
   .rw[z]; exact .inl hl
   .exact (cO z).imp (qF b) id
  .have sub:Sub (hid (ba (λb=>N b\/b∈fp) F) H) (hid (ba N λi=>if i=x then l::(fq++fp) else F i) (L2.upd H l (.lst (ws++[w])))):=λb u e=>by
    obtain⟨g1,g2⟩:=bh.mp e;have bl:b≠l:=λy=>g1 (.inr ⟨x,y ▸ hl⟩);refine bh.mpr ⟨λy=>?_,h12 b bl u g2⟩;rcases y with y | ⟨i,y⟩
    .exact g1 (.inl (.inl y))
    .by_cases z:i=x
     .simp only[if_pos z] at y;rcases bQ y with q | q
      .exact bl q
      .rcases cO q with q | q
       .exact g1 (.inr ⟨x,qF b q⟩)
       .exact g1 (.inl (.inr q))
     .simp only[if_neg z] at y;exact g1 (.inr ⟨i,y⟩)
   refine OwnL.snoc ((o.at h1).mono sub λb hb u e=>h12 b (λz=>lfp (z ▸ hb)) u e) ?_;have e5:=e3.re (Q:=Own W (hid (ba (λb=>N b\/b∈fp) F) H) H j) (b:=λd=>br j (k,d)) (λv d g hb o=>Own.at hb o) h2;exact e5.imp λv d g hg o=>o.mono sub λb hb u e=>h12 b (λz=>lq (z ▸ hg b hb)) u e
 unfold dJ;by_cases c1:br k v=true
 .rw[if_pos c1];refine deep k c1 (List.all_eq_true.mpr λd _=>?_);unfold br;simp
 .rw[if_neg c1];by_cases c2:(xs.all λd=>br v.1 (k,d))=true
  .rw[if_pos c2];refine deep v.1 ?_ c2;unfold br;simp
  .rw[if_neg c2];refine⟨_,f.upd (fx:=[l]) (y:=(1,.lst (xs++[v.2]))) fr hl hxl hσ (by simp) (λb hb=>by rw[HN.mp hb]; exact .inl hl) h12 (by rw[dc]; simp) ⟨l,_,[],rfl,dc,OwnL.zero ?_,rfl⟩⟩;have sub:Sub (hid (ba (λb=>N b\/b∈fp) F) H) (hid (ba N λi=>if i=x then [l] else F i) (L2.upd H l (.lst (ws++[w])))):=λb u e=>by
    obtain⟨g1,g2⟩:=bh.mp e;have bl:b≠l:=λy=>g1 (.inr ⟨x,y ▸ hl⟩);refine bh.mpr ⟨λy=>?_,h12 b bl u g2⟩;rcases y with y | ⟨i,y⟩
    .exact g1 (.inl (.inl y))
    .by_cases z:i=x
     .simp only[if_pos z] at y; exact bl (HN.mp y)
     .simp only[if_neg z] at y;exact g1 (.inr ⟨i,y⟩)
   have see:∀b,(b∈fq\/b∈fp)->∀u,H b=some u->hid (ba N λi=>if i=x then [l] else F i) (L2.upd H l (.lst (ws++[w]))) b=some u:=λb hb u e=>by
    have bl:b≠l:=λz=>hb.elim (λy=>lq (z ▸ y)) λy=>lfp (z ▸ y);refine bh.mpr ⟨λy=>?_,h12 b bl u e⟩;rcases y with y | ⟨i,y⟩
    .rcases hb with q | q
     .exact (f.fr x b (qF b q)).2 (.inl y)
     .exact (fr b q).2 y
    .by_cases z:i=x
     .simp only[if_pos z] at y; exact bl (HN.mp y)
     .simp only[if_neg z] at y;rcases hb with q | q
      .exact z (f.dj i x b y (qF b q))
      .exact (f.fr i b y).2 (.inr q)
   exact (e3.dens λv d g hg o=>o.den sub λb hb u e=>see b (.inl (hg b hb)) u e).append (.cons (o.den sub λb hb u e=>see b (.inr hb) u e) .nil)
def Ao (hK:W.K=X.K)(h:bZ W G n io E (.mut x [] .append [e]) Dn σ H):dG (iF X.K "list" f8 (dY x) (cm (bi W G (Ip.run G n) e E) eG)) Dn σ H:=by
 obtain⟨E0,N,pin,A,F,hp,f,h⟩:=h;rw[Ip.lX] at h;by_cases c:cu A[x]? = true
 rotate_left
 .rw[if_neg c] at h; exact h.elim
 rw[if_pos c] at h;have hs:∃k xs,A[x]? = some (some (k,.lst xs)):=by
  cases q:A[x]? with
  | none=>rw[q] at c; cases c
  | some o=>
   rw[q] at c;cases o with
   | none=>cases c
   | some y=>
    obtain⟨k,d⟩:=y;cases d <;> first | exact⟨k,_,rfl⟩ | cases c
 obtain⟨k,xs,hx⟩:=hs;obtain⟨v,hv,ow⟩:=f.rel x _ hx;have dv:Den W H v (.lst xs):=ow.den bF λ_ _ _ e=>e;unfold dG iF;refine⟨v,hv,?_,?_⟩
 .cases dv with | @lst l ws _ h1 h2=>?_
  exact .inl ⟨rfl,ws,.inl h1⟩
 simp only[Ip.dI,b9,Ip.R.toO,Ip.R.bind] at h;unfold cm;refine lP f ?_;cases q:Ip.eval G (Ip.run G n) A.sl e with
 | bad=>rw[q] at h; exact h
 | ok y=>
  rw[q] at h;simp only[eV] at h;have e1:(if ([y].all λv=>v.2.fb v.1)=true then A else frz (Ex.namess [e]) A)=Ip.settle e.names A y:=by
   unfold Ip.settle;simp
  rw[e1] at h;intro w H1 fv;cases q2:(Ip.settle e.names A y)[x]? with
  | none=>rw[q2] at h; exact h.elim
  | some o=>
   rw[q2] at h;cases o with
   | none=>exact h.elim
   | some z=>
    obtain⟨k',d⟩:=z;cases k' with
    | zero=>cases d <;> exact h.elim
    | succ k'=>
     cases d <;> try (exact h.elim)
     rename_i ys;simp only[fj,Ip.xV] at h;by_cases hl:ys.length<SL
     .rw[if_pos hl] at h;obtain⟨l,ws,g1,g2,g3,F',g4⟩:=DH fv q2;rw[hv] at g1;cases g1;exact⟨l,ws,w,rfl,rfl,g2,by rw[g3]; exact fc hl (by decide),h _ _ _ g4⟩
     .rw[if_neg hl] at h; exact h.elim
end
theorem OwnF.put (nd:att.Nodup)(hn:att[f]? = some n)(h:P v d g):∀{vs ds fp},OwnF att P vs ds fp->(fp++g).Nodup ->
  ∃fz:ao,OwnF att P (putF n v vs) (Ip.putF f d ds) fz/\fz.Nodup/\∀b∈fz,b∈fp\/b∈g
 | _,_,_,.nil,hd=>⟨g,by
   have:=OwnF.cons hn h (OwnF.nil (att:=att) (P:=P));rw[IS] at this;exact this,by simpa using hd,λb hb=>.inr hb⟩
 | _,_,_,.cons (n:=m) (i:=i) (f:=f0) (g:=g0) hi h0 q,hd=>by
  unfold putF Ip.putF;have hd1:=HV.mp hd;have hd2:=HV.mp hd1.1;by_cases e:i=f
  .subst e;have:m=n:=by rw[hn] at hi; exact (cQ hi).symm
   subst this;rw[if_pos rfl,if_pos rfl];refine⟨g++g0,.cons hi h q,HV.mpr ⟨hd1.2.1,hd2.2.1,λa ha b hb z=>?_⟩,λb hb=>?_⟩
   .exact hd1.2.2 b (cH _ hb) a ha z.symm
   .rcases cO hb with z | z
    .exact .inr z
    .exact .inl (cH _ z)
  .have nm:m≠n:=λz=>e (se nd hi (by rw[z]; exact hn));rw[if_neg e,if_neg nm];obtain⟨fz,k1,k2,k3⟩:=q.put nd hn h (HV.mpr ⟨hd2.2.1,hd1.2.1,λa ha b hb z=>hd1.2.2 a (cH _ ha) b hb z⟩);refine⟨f0++fz,.cons hi h0 k1,HV.mpr ⟨hd2.1,k2,λa ha b hb z=>?_⟩,λb hb=>?_⟩
   .rcases k3 b hb with w | w
    .exact hd2.2.2 a ha b w z
    .exact hd1.2.2 a (eY _ ha) b w z
   .rcases cO hb with z | z
    .exact .inl (eY _ z)
    .exact (k3 b z).imp (cH _) id
theorem OwnF.length:∀{vs ds fp},OwnF att P vs ds fp->vs.length=ds.length:=by
 intro _ _ _ hZ;cases hZ with
 | nil=>exact rfl
 | cons _ _ q=>rw[List.length_cons,List.length_cons,q.length]
theorem OwnF.zero:∀{vs ds},DenF W S vs ds->OwnF W.att (Own W S H 0) vs ds []:=by
 intro _ _ hZ;cases hZ with
 | nil=>exact .nil
 | cons hf h q=>exact OwnF.cons (f:=[]) (g:=[]) hf ⟨rfl,h⟩ (OwnF.zero q)
section
variable {X:Cx}{W:Wd}{G:Pg}{n:Nat}{io:ak}{E:St->XK}{E0:Hp}{N:Addr->Prop}{pin:List (Nat×V)}{A:Fr}{σ:St}{H:Hp}{F:Nat->ao}
def yM (nda:W.att.Nodup)(hnm:W.att[f]? = some nm)(fr0:FrF W E0 (λb=>N b\/b∈fp) pin A σ H F)(nd:fp.Nodup)(fr:∀b∈fp,E0 b=none/\¬N b)
  (o:Own W (hid (ba (λb=>N b\/b∈fp) F) H) H v.1 w v.2 fp)(hxl:x<A.length)(hσ:σ[x]? = some (some (.ref l)))(e4:F x=l::fq)(e3:OwnF W.att (Own W (hid (ba (λb=>N b\/b∈fp) F) H) H k) ws fs fq)
  (h12:∀b,b≠l->∀u,H b=some u->H2 b=some u)(h2l:H2 l≠none)
  (own:∀j fz S,OwnF W.att (Own W S H2 j) (putF nm w ws) (Ip.putF f v.2 fs) fz->Own W S H2 (j+1) (.ref l) dd (l::fz)) :
  ∃F',FrF W E0 N pin (A.set x (some (dJ k (fs.map (·.2)) v+1,dd))) σ H2 F':=by
 have hl:l∈F x:=by rw[e4]; exact bN
 have ndx:=fr0.nd x;rw[e4] at ndx;obtain⟨lq,ndq⟩:=HZ.mp ndx;have lfp:l∉fp:=λz=>(fr0.fr x l hl).2 (.inr z);have qF:∀b∈fq,b∈F x:=λb hb=>by rw[e4]; exact bM _ hb
 have ndc:(fq++fp).Nodup:=HV.mpr ⟨ndq,nd,λb hb c hc z=>by subst z; exact (fr0.fr x b (qF b hb)).2 (.inr hc)⟩;have sub:∀fz:ao,(∀b∈fz,b∈fq\/b∈fp)->Sub (hid (ba (λb=>N b\/b∈fp) F) H) (hid (ba N λi=>if i=x then l::fz else F i) H2):=λfz hz b u e=>by
  obtain⟨g1,g2⟩:=bh.mp e;have bl:b≠l:=λy=>g1 (.inr ⟨x,y ▸ hl⟩);refine bh.mpr ⟨λy=>?_,h12 b bl u g2⟩;rcases y with y | ⟨i,y⟩
  .exact g1 (.inl (.inl y))
  .by_cases z:i=x
   .simp only[if_pos z] at y;rcases bQ y with q | q
    .exact bl q
    .rcases hz b q with q | q
     .exact g1 (.inr ⟨x,qF b q⟩)
     .exact g1 (.inl (.inr q))
   .simp only[if_neg z] at y;exact g1 (.inr ⟨i,y⟩)
 have deep:∀j,br j v=true->((fs.map (·.2)).all λd=>br j (k,d))=true->∃F',FrF W E0 N pin (A.set x (some (j+1,dd))) σ H2 F':=λj h1 h2=>by
  have e5:=e3.re (Q:=Own W (hid (ba (λb=>N b\/b∈fp) F) H) H j) (b:=λd=>br j (k,d)) (λv d g hb o=>Own.at hb o) (by rw[List.all_map] at h2; exact h2);obtain⟨fz,k1,k2,k3⟩:=e5.put nda hnm (o.at h1) ndc;have lz:l∉fz:=λz=>(k3 l z).elim lq lfp;refine⟨_,fr0.upd (fx:=l::fz) (y:=(j+1,dd)) fr hl hxl hσ (HZ.mpr ⟨lz,k2⟩) (λb hb=>?_) h12 h2l (own j fz _ (k1.imp λv d g hg o=>o.mono (sub fz k3) λb hb u e=>h12 b (λz=>lz (z ▸ hg b hb)) u e))⟩;rcases bQ hb with z | z
  .rw[z]; exact .inl hl
  .exact (k3 b z).imp (qF b) id
 unfold dJ;by_cases c1:br k v=true
 .rw[if_pos c1];refine deep k c1 (List.all_eq_true.mpr λd _=>?_);unfold br;simp
 .rw[if_neg c1];by_cases c2:((fs.map (·.2)).all λd=>br v.1 (k,d))=true
  .rw[if_pos c2];refine deep v.1 ?_ c2;unfold br;simp
  .rw[if_neg c2];have sub0:=sub [] (λb z=>by simp at z);have see:∀b,(b∈fq\/b∈fp)->∀u,H b=some u->hid (ba N λi=>if i=x then [l] else F i) H2 b=some u:=λb hb u e=>by
    have bl:b≠l:=λz=>hb.elim (λy=>lq (z ▸ y)) λy=>lfp (z ▸ y);refine bh.mpr ⟨λy=>?_,h12 b bl u e⟩;rcases y with y | ⟨i,y⟩
    .rcases hb with q | q
     .exact (fr0.fr x b (qF b q)).2 (.inl y)
     .exact (fr b q).2 y
    .by_cases z:i=x
     .simp only[if_pos z] at y; exact bl (HN.mp y)
     .simp only[if_neg z] at y;rcases hb with q | q
      .exact z (fr0.dj i x b y (qF b q))
      .exact (fr0.fr i b y).2 (.inr q)
   have dn:DenF W (hid (ba N λi=>if i=x then [l] else F i) H2) (putF nm w ws) (Ip.putF f v.2 fs):=
    (e3.dens λv d g hg o=>o.den sub0 λb hb u e=>see b (.inl (hg b hb)) u e).put nda hnm (o.den sub0 λb hb u e=>see b (.inr hb) u e)
   exact⟨_,fr0.upd (fx:=[l]) (y:=(1,dd)) fr hl hxl hσ (by simp) (λb hb=>by rw[HN.mp hb]; exact .inl hl) h12 h2l (own 0 [] _ (OwnF.zero dn))⟩
def FM (hK:W.K=X.K)(cf:CF W fl)(hk:k∈fl)(hnm:W.att[k]? = some nm)(h:bZ W G n io E (.sfld x k e) Dn σ H) :
  kc X.K (dY x) (bi W G (Ip.run G n) e E) nm Dn σ H:=by
 obtain⟨E0,N,pin,A,F,hp,f,h⟩:=h;rw[Ip.Cg] at h;cases q:Ip.eval G (Ip.run G n) A.sl e with
 | bad=>rw[q] at h; exact h.elim
 | ok v=>
  rw[q] at h;simp only[Ip.R.toO] at h;cases q2:(Ip.settle e.names A v)[x]? with
  | none=>rw[q2] at h; exact h.elim
  | some oo=>
   rw[q2] at h;cases oo with
   | none=>exact h.elim
   | some z=>
    obtain⟨k',d⟩:=z;have hxl:x<(Ip.settle e.names A v).length:=(dg q2).1;cases k' with
    | zero=>cases d <;> exact h.elim
    | succ k'=>
     cases d <;> try (exact h.elim)
     .rename_i c fs;simp only[Ip.gJ] at h;by_cases hl:fs.length<50
      rotate_left
      .rw[if_neg hl] at h; exact h.elim
      rw[if_pos hl] at h
      skip
      unfold kc;refine lP f ?_;rw[q];rintro w H1 ⟨fp,F1,f1,nd,fr,o⟩;obtain⟨z,hσ,a,C,dx,ws,fq,rfl,e2,hC,e3,e4⟩:=f1.rel x _ q2;obtain⟨ic,na⟩:=cf.ins c C hC;refine⟨_,hσ,a,C,dx,ws,rfl,e2,hK ▸ ic.cls,hK ▸ na k nm hk hnm,by rw[e3.length]; omega,?_⟩;obtain⟨F',g⟩:=yM (H2:=L2.upd H1 a (.ins C dx (putF nm w ws))) (dd:=.ins c (Ip.putF k v.2 fs)) cf.nd hnm f1 nd fr o hxl hσ e4 e3 (λb nb u e=>by rw[ca nb]; exact e) (by rw[dc]; simp)
       (λj fz S hz=>⟨a,C,dx,_,fz,rfl,dc,hC,hz,rfl⟩)
      exact h _ _ _ g
end
section
variable {X:Cx}{W:Wd}{G:Pg}{n:Nat}{io:ak}{E:St->XK}{E0:Hp}{N:Addr->Prop}{pin:List (Nat×V)}{A:Fr}{σ:St}{H:Hp}{F:Nat->ao}
def tu (fv:FrV W E0 N pin A σ H v w)(hx:A[x]? = some (some (k+1,.lst xs))) :
  ∃l ws,σ[x]? = some (some (.ref l))/\H l=some (.lst ws)/\ws.length=xs.length/\Dens W H ws xs/\Den W H w v.2 /\
   ∀ws' ds',(∀S,Dens W S ws xs->Den W S w v.2->Dens W S ws' ds')->∃F',FrF W E0 N pin (A.set x (some (1,.lst ds'))) σ (upd H l (.lst ws')) F':=by
 obtain⟨fp,F,f,nd,fr,o⟩:=fv;obtain⟨z,hσ,l,ws,fq,rfl,e2,e3,e4⟩:=f.rel x _ hx;have hl:l∈F x:=by rw[e4]; exact bN
 have hxl:x<A.length:=(dg hx).1;have ndx:=f.nd x;rw[e4] at ndx;obtain⟨lq,ndq⟩:=HZ.mp ndx;have lfp:l∉fp:=λz=>(f.fr x l hl).2 (.inr z);have qF:∀b∈fq,b∈F x:=λb hb=>by rw[e4]; exact bM _ hb
 refine⟨l,ws,hσ,e2,e3.length,e3.dens λv d g hg o=>o.den bF λb hb u e=>e,o.den bF λb hb u e=>e,λws' ds' hd=>?_⟩;have h12:∀b,b≠l->∀u,H b=some u->(L2.upd H l (.lst ws')) b=some u:=λb nb u e=>by rw[ca nb]; exact e
 refine⟨_,f.upd (fx:=[l]) (y:=(1,.lst ds')) fr hl hxl hσ (by simp) (λb hb=>by rw[HN.mp hb]; exact .inl hl) h12 (by rw[dc]; simp) ⟨l,_,[],rfl,dc,OwnL.zero ?_,rfl⟩⟩;have sub:Sub (hid (ba (λb=>N b\/b∈fp) F) H) (hid (ba N λi=>if i=x then [l] else F i) (L2.upd H l (.lst ws'))):=λb u e=>by
  obtain⟨g1,g2⟩:=bh.mp e;have bl:b≠l:=λy=>g1 (.inr ⟨x,y ▸ hl⟩);refine bh.mpr ⟨λy=>?_,h12 b bl u g2⟩;rcases y with y | ⟨i,y⟩
  .exact g1 (.inl (.inl y))
  .by_cases z:i=x
   .simp only[if_pos z] at y; exact bl (HN.mp y)
   .simp only[if_neg z] at y;exact g1 (.inr ⟨i,y⟩)
 have see:∀b,(b∈fq\/b∈fp)->∀u,H b=some u->hid (ba N λi=>if i=x then [l] else F i) (L2.upd H l (.lst ws')) b=some u:=λb hb u e=>by
  have bl:b≠l:=λz=>hb.elim (λy=>lq (z ▸ y)) λy=>lfp (z ▸ y);refine bh.mpr ⟨λy=>?_,h12 b bl u e⟩;rcases y with y | ⟨i,y⟩
  .rcases hb with q | q
   .exact (f.fr x b (qF b q)).2 (.inl y)
   .exact (fr b q).2 y
  .by_cases z:i=x
   .simp only[if_pos z] at y; exact bl (HN.mp y)
   .simp only[if_neg z] at y;rcases hb with q | q
    .exact z (f.dj i x b y (qF b q))
    .exact (f.fr i b y).2 (.inr q)
 exact hd _ (e3.dens λv d g hg o=>o.den sub λb hb u e=>see b (.inl (hg b hb)) u e) (o.den sub λb hb u e=>see b (.inr hb) u e)
theorem Den.scal (hs:d.scal=true)(h:Den W S v d):Den W S' v d:=by
 cases h <;> first | exact .non | exact .bl | exact .int | exact .str | (simp[D.scal] at hs)
theorem Dens.scal:∀{vs:av} {ds:ax},ds.all D.scal=true->Dens W S vs ds->Dens W S' vs ds:=by
 intro _ _ hs hZ;cases hZ with
 | nil=>exact .nil
 | cons h q=>
  rw[List.all_cons,HF] at hs;exact .cons (h.scal hs.1) (q.scal hs.2)
def xF {x:Nat}(c:cu A[x]? = true):∃k xs,A[x]? = some (some (k,.lst xs)):=by
 cases q:A[x]? with
 | none=>rw[q] at c; cases c
 | some o=>
  rw[q] at c;cases o with
  | none=>cases c
  | some y=>
   obtain⟨k,d⟩:=y;cases d <;> first | exact⟨k,_,rfl⟩ | cases c
def Hi {x:Nat}{e:Ex}{Dn:Ends}(hK:W.K=X.K)(h:bZ W G n io E (.mut x [] .extend [e]) Dn σ H):dG (iF X.K "list" (iM X.K) (dY x) (cm (bi W G (Ip.run G n) e E) eG)) Dn σ H:=by
 obtain⟨E0,N,pin,A,F,hp,f,h⟩:=h;rw[Ip.lX] at h;by_cases c:cu A[x]? = true
 rotate_left
 .rw[if_neg c] at h; exact h.elim
 rw[if_pos c] at h;obtain⟨k,xs,hx⟩:=xF c;obtain⟨v,hv,ow⟩:=f.rel x _ hx;have dv:Den W H v (.lst xs):=ow.den bF λ_ _ _ e=>e;unfold dG iF;refine⟨v,hv,?_,?_⟩
 .cases dv with | @lst l ws _ h1 h2=>?_
  exact .inl ⟨rfl,ws,.inl h1⟩
 simp only[Ip.dI,b9,Ip.R.toO,Ip.R.bind] at h;unfold cm;refine lP f ?_;cases q:Ip.eval G (Ip.run G n) A.sl e with
 | bad=>rw[q] at h; exact h
 | ok y=>
  rw[q] at h;simp only[eV] at h;have e1:(if ([y].all λv=>v.2.fb v.1)=true then A else frz (Ex.namess [e]) A)=Ip.settle e.names A y:=by
   unfold Ip.settle;simp
  rw[e1] at h;intro w H1 fv;cases q2:(Ip.settle e.names A y)[x]? with
  | none=>rw[q2] at h; exact h.elim
  | some o=>
   rw[q2] at h;cases o with
   | none=>exact h.elim
   | some z=>
    obtain⟨k',d⟩:=z;cases k' with
    | zero=>cases d <;> exact h.elim
    | succ k'=>
     cases d <;> try (exact h.elim)
     rename_i ys;simp only[fj,Ip.xO] at h;obtain⟨j,dy⟩:=y;cases dy <;> try (exact h.elim)
     rename_i zs;simp only at h;by_cases hl:zs.all D.scal=true/\ys.length+zs.length<=SL
     .rw[if_pos hl] at h;obtain⟨l,ws,g1,g2,g3,g4,g5,g6⟩:=tu fv q2;rw[hv] at g1;cases g1;cases g5 with | @tup b vs _ t1 t2=>?_
      obtain⟨F',g7⟩:=g6 (ws++vs) (ys++zs) λS hS _=>hS.append (t2.scal hl.1);refine⟨l,b,ws,vs,rfl,rfl,g2,hK ▸ t1,by rw[g3,t2.length]; exact jM hl.2,h _ _ _ g7⟩
     .rw[if_neg hl] at h; exact h.elim
theorem Dens.setI (h:Den W S v d):∀{vs:av} {ds:ax} (j:Nat),Dens W S vs ds->Dens W S (vs.set j v) (ds.set j d)
 | _,_,_,.nil=>.nil
 | _,_,0,.cons _ q=>.cons h q
 | _,_,j+1,.cons h0 q=>.cons h0 (q.setI h j)
theorem Dens.erase:∀{vs:av} {ds:ax} (j:Nat),Dens W S vs ds->Dens W S (vs.eraseIdx j) (ds.eraseIdx j)
 | _,_,_,.nil=>.nil
 | _,_,0,.cons _ q=>q
 | _,_,j+1,.cons h0 q=>.cons h0 (q.erase j)
theorem Dens.at:∀{vs:av} {ds:ax} (j:Nat),Dens W S vs ds->ds[j]? = some d->∃v,vs[j]? = some v/\Den W S v d
 | _,_,_,.nil,e=>by simp at e
 | v::_,_,0,.cons h q,e=>by
  cases e;exact⟨v,rfl,h⟩
 | _,_,j+1,.cons h0 q,e=>by
  obtain⟨v,e1,e2⟩:=q.at j (by simpa using e);exact⟨v,by simpa using e1,e2⟩
def DZ (h:bZ W G n io E (.put x [] (.var j) e) Dn σ H):jU (dY x) (dY j) (bi W G (Ip.run G n) e E) Dn σ H:=by
 obtain⟨E0,N,pin,A,F,hp,f,h⟩:=h;rw[Ip.yk] at h;simp only[List.isEmpty_nil,if_true] at h;unfold jU;refine lP f ?_;cases q:Ip.eval G (Ip.run G n) A.sl e with
 | bad=>rw[q] at h; exact h
 | ok y=>
  rw[q] at h;simp only[Ip.R.toO,Ip.mF] at h;cases qj:A.sl[j]? with
  | none=>rw[qj] at h; exact h.elim
  | some oj=>
   cases oj with
   | none=>rw[qj] at h; exact h.elim
   | some dj=>
    rw[qj] at h;simp only at h;intro w H1 fv;cases q2:(Ip.settle e.names A y)[x]? with
    | none=>rw[q2] at h; exact h.elim
    | some o=>
     rw[q2] at h;cases o with
     | none=>exact h.elim
     | some z=>
      obtain⟨k',d⟩:=z;cases k' with
      | zero=>cases d <;> exact h.elim
      | succ k'=>
       cases d <;> try (exact h.elim)
       rename_i ys;simp only[Ip.hG] at h;cases dj <;> try (exact h.elim)
       rename_i i;simp only at h;by_cases hl:0<=i/\i<(ys.length:Int)
       .rw[if_pos hl] at h;obtain⟨l,ws,g1,g2,g3,g4,g5,g6⟩:=tu fv q2;obtain⟨F',g7⟩:=g6 (ws.set i.toNat w) (ys.set i.toNat y.2) λS hS hw=>hS.setI hw _;obtain⟨kj,hj⟩:=oy qj;obtain⟨vj,s1,s2⟩:=f.rel j _ hj;have dj:Den W H vj (.int i):=s2.den bF λ_ _ _ e=>e;cases dj;exact⟨.ref l,g1,.int i,s1,l,ws,i,rfl,rfl,g2,hl.1,by rw[g3]; exact hl.2,h _ _ _ g7⟩
       .rw[if_neg hl] at h; exact h.elim
end
section
variable {X:Cx}{W:Wd}{G:Pg}{n:Nat}{io:ak}{E:St->XK}{E0:Hp}{N:Addr->Prop}{pin:List (Nat×V)}{A:Fr}{σ:St}{H:Hp}{F:Nat->ao}
theorem Dens.isI:∀{vs:av} {ds:ax},Dens W S vs ds->ds.all D.isI=true->vs.all fP=true/\ds.all D.scal=true
 | _,_,.nil,_=>⟨rfl,rfl⟩
 | _,_,.cons (d:=d) h q,hs=>by
  rw[List.all_cons,HF] at hs;obtain⟨i1,i2⟩:=q.isI hs.2;cases d with
  | int i=>
   rw[h.int_inv,List.all_cons,List.all_cons,i1,i2];exact⟨rfl,rfl⟩
  | _=>cases hs.1
def G5 (h:bZ W G n io E (.mut x [] .remove [e]) Dn σ H):dG (iF X.K "list" gb (dY x) (cm (bi W G (Ip.run G n) e E) eG)) Dn σ H:=by
 obtain⟨E0,N,pin,A,F,hp,f,h⟩:=h;rw[Ip.lX] at h;by_cases c:cu A[x]? = true
 rotate_left
 .rw[if_neg c] at h; exact h.elim
 rw[if_pos c] at h;obtain⟨k,xs,hx⟩:=xF c;obtain⟨v,hv,ow⟩:=f.rel x _ hx;have dv:Den W H v (.lst xs):=ow.den bF λ_ _ _ e=>e;unfold dG iF;refine⟨v,hv,?_,?_⟩
 .cases dv with | @lst l ws _ h1 h2=>?_
  exact .inl ⟨rfl,ws,.inl h1⟩
 simp only[Ip.dI,b9,Ip.R.toO,Ip.R.bind] at h;unfold cm;refine lP f ?_;cases q:Ip.eval G (Ip.run G n) A.sl e with
 | bad=>rw[q] at h; exact h
 | ok y=>
  rw[q] at h;simp only[eV] at h;have e1:(if ([y].all λv=>v.2.fb v.1)=true then A else frz (Ex.namess [e]) A)=Ip.settle e.names A y:=by
   unfold Ip.settle;simp
  rw[e1] at h;intro w H1 fv;cases q2:(Ip.settle e.names A y)[x]? with
  | none=>rw[q2] at h; exact h.elim
  | some o=>
   rw[q2] at h;cases o with
   | none=>exact h.elim
   | some z=>
    obtain⟨k',d⟩:=z;cases k' with
    | zero=>cases d <;> exact h.elim
    | succ k'=>
     cases d <;> try (exact h.elim)
     rename_i ys;simp only[fj,Ip.wQ] at h;obtain⟨j,dy⟩:=y;cases dy <;> try (exact h.elim)
     rename_i i;simp only at h;by_cases hl:ys.all D.isI=true
     .rw[if_pos hl] at h;cases hf:D.find (.int i) ys with
      | none=>rw[hf] at h; exact h.elim
      | some j=>
       rw[hf] at h;obtain⟨l,ws,g1,g2,g3,g4,g5,g6⟩:=tu fv q2;rw[hv] at g1;cases g1;obtain⟨i1,i2⟩:=g4.isI hl;have fi:=Dens.find g5 rfl g4 i2;have e5:=g5.int_inv;subst e5;obtain⟨F',g7⟩:=g6 (ws.eraseIdx j) (ys.eraseIdx j) λS hS _=>hS.erase j;exact⟨l,ws,i,j,rfl,rfl,g2,i1,fi.trans hf,h _ _ _ g7⟩
     .rw[if_neg hl] at h; exact h.elim
end
structure Gs (W:Wd)(G:Pg)(T:Tb)(n:Nat)(E:St->XK)(sc:Scope)(N:ar)(X:Cx):Prop where
 gd:Gd W G T n E sc N X
 own:PassesOwn (model X.prog X.w) X.A X.env X.xe
 stk:∃L outer,X.stack=X.env::outer/\X.env.frame=some L
 scq:X.env.scope=sc
section
variable {W:Wd}{G:Pg}{T:Tb}{n:Nat}{io:ak}{m:Nat}{E:St->XK}{sc:Scope}{N:ar}{X:Cx}
def kq {st:Stmt}{i:Nat}:PS X st (bZ W G n io E (.set i .bad)):=λpins s σ H Dn I ⟨_,_,_,_,_,_,_,h⟩=>by
 rw[Ip.ls,gn] at h; exact h.elim
def AI {st:Stmt}:PS X st (bZ W G n io E (.ex .bad)):=λpins s σ H Dn I ⟨_,_,_,_,_,_,_,h⟩=>by
 rw[Ip.rd,gn] at h; exact h.elim
def wI (e:Expr):(∃a b c d,e=.ListComp a b c d)\/(∀T sc N m,cE T sc N m e=.bad)\/∀t l env,swapsWith e t l env=pure false:=by
 cases e <;> first
  | exact .inl ⟨_,_,_,_,rfl⟩
  | exact .inr (.inr λ_ _ _=>rfl)
  | (refine .inr (.inl λT sc N m=>?_); cases m <;> rfl)
def G0 (g:Gs W G T n E sc N X)(x:Str)(p:Pos)(e:Expr)(pos:Pos)(i:Nat)(hl:bH sc x=true)(hi:pos? x N=some i):PS X (.Assign [.Name x p] e pos) (bZ W G n io E (.set i (cE T sc N m e))):=by
 obtain⟨l1,l2⟩:=g.gd.loc x hl;have hN:X.N.Nodup:=by rw[g.gd.nm]; exact g.gd.nd
 have hx:X.N[i]? = some x:=by rw[g.gd.nm]; exact pos?_get hi
 rcases wI e with ⟨el,gs,scope,cp,rfl⟩ | hb | hs
 .have hsw:∃b,swapsWith (.ListComp el gs scope cp) (some (.Name x p)) pos.line X.env=pure b:=⟨_,rfl⟩
  obtain⟨b,hsw⟩:=hsw;cases b with
  | false=>exact (xQ hN hx l1 ((fK m).e g.gd _) hsw l2).mono λDn σ H h=>r8 h
  | true=>
   cases m with
   | zero=>exact kq
   | succ m=>
    have ih:=fK (W:=W) (G:=G) (T:=T) (n:=n) m;match gs with
    | []=>exact kq
    | ⟨_,_,_,_⟩::_::_=>exact kq
    | [⟨tg,iter,ifs,as⟩]=>
     simp only[Ip.ve];by_cases h:(Ip.c6 sc N (Ip.bc scope) (Ip.bm N scope) scope&&as == 0&&decide (ifs.length<=1))=true
     rotate_left
     .rw[if_neg h]; exact kq
     rw[if_pos h];simp only[HF,HU,Ig] at h;obtain⟨⟨hb,has⟩,hln⟩:=h;subst has;cases ht:cM scope (Ip.bc scope) tg with
     | none=>exact kq
     | some t=>
      by_cases h2:(dX (cI T sc N m iter).1 t&&(Ip.cZ t).all (λi=>(Ip.bm N scope)[i]? == some none))=true
      rotate_left
      .simp only[h2]; exact kq
      simp only[h2,if_true];rw[HF] at h2;rcases uf iter with ⟨a,b,c,rfl⟩ | hs
      .rintro pins s σ H Dn I ⟨_,_,_,_,_,_,_,q⟩;rw[Ip.ls,Ip.la,t9,b9,gn] at q;exact q.elim
      .have cp:=w4 (e:=el) ih g.gd hb hln ht h2.1 h2.2;exact (Ck g.gd.calm cp.hS hN hx l1 cp.hi cp.hg cp.ht cp.he hsw l2 (hs X.env)).mono λDn σ H h=>vi g.gd.K cp.hx (r8 h)
 .rw[hb]; exact kq
 .exact (xQ hN hx l1 ((fK m).e g.gd e) (hs _ _ _) l2).mono λDn σ H h=>r8 h
def yx (g:Gs W G T n E sc N X)(e:Expr)(pos:Pos)(hl:∀a b c d,e≠.ListComp a b c d):PS X (.Expr e pos) (bZ W G n io E (.ex (cE T sc N m e))):=by
 rcases wI e with ⟨a,b,c,d,rfl⟩ | hb | hs
 .exact absurd rfl (hl a b c d)
 .rw[hb]; exact AI
 .exact (ox ((fK m).e g.gd e) (hs _ _ _)).mono λDn σ H h=>qN h
def GP (e:Expr)(l:Nat)(env:Env):swapsWith e (some (.Attribute o f p)) l env=pure false:=by
 cases e <;> rfl
def DA (g:Gs W G T n E sc N X)(es:au)(k:Nat)(tp:Pos)(e:Expr)(pos:Pos)(is:ak)(hc:Ip.fS e=true)(ht:cM sc N (.Tuple es k tp)=some (.many is)):PS X (.Assign [.Tuple es k tp] e pos) (bZ W G n io E (.setT is (cE T sc N m e))):=by
 cases e with
 | Call f args kws cp=>exact (vX ((fK m).e g.gd _) (pz g.gd ht)).mono λDn σ H h=>wZ g.gd.K h
 | Name x p=>exact (vX ((fK m).e g.gd _) (pz g.gd ht)).mono λDn σ H h=>wZ g.gd.K h
 | _=>cases hc
def zH (g:Gs W G T n E sc N X)(x:Str)(xp:Pos)(f:Str)(ap:Pos)(e:Expr)(pos:Pos)(k j:Nat)(hv:bf sc x=true)(hok:aX x=true)(hk:pos? x N=some k)(hj:pos? f T.att=some j)(hf:T.fl.contains j=true) :
  PS X (.Assign [.Attribute (.Name x xp) f ap] e pos) (bZ W G n io E (.sfld k j (cE T sc N m e))):=by
 unfold aX at hok;simp only[HF,Kr] at hok;have hx:X.N[k]? = some x:=by rw[g.gd.nm]; exact pos?_get hk
 have po:=ut (pos:=xp) hx (g.gd.vis x hv) hok.1 hok.2;have he:=(fK m).e g.gd e;have r1:=CY (f:=f) (pos:=pos) (pos':=ap) po he (GP e _ _);intro pins s σ H Dn I h;have hnm:W.att[j]? = some f:=by rw[g.gd.gf.att]; exact pos?_get hj
 exact r1 pins s σ H Dn I (FM g.gd.K g.gd.gf.cf (by simpa using hf) hnm h)
end
section
variable {W:Wd}{G:Pg}{T:Tb}{n:Nat}{io:ak}{m:Nat}{E:St->XK}{sc:Scope}{N:ar}{X:Cx}
def okN (h:aX x=true):(x == ("__debug__" : Str))=false/\(x == ("__classdict__" : Str))=false:=by
 unfold aX at h;simp only[HF,Kr] at h;exact h
def jL (g:Gs W G T n E sc N X)(hv:bf sc x=true)(hok:aX x=true)(hi:pos? x N=some i):PE X (.Name x p) (dY i):=
 ut (by rw[g.gd.nm]; exact pos?_get hi) (g.gd.vis x hv) (okN hok).1 (okN hok).2
def Dj (g:Gs W G T n E sc N X)(e:Expr)(pos:Pos)(h:¬ou (cE T sc N m e)=true):PS X (.Return (some e) pos) (bZ W G n io E (.ret (cE T sc N m e))):=
 (rl ((fK m).e g.gd e)).mono λDn σ H=>uZ λi z=>h (by rw[z]; rfl)
def zo (g:Gs W G T n E sc N X)(x:Str)(p pos:Pos)(i:Nat)(hv:bf sc x=true)(hok:aX x=true)(hi:pos? x N=some i):PS X (.Return (some (.Name x p)) pos) (bZ W G n io E (.ret (.var i))):=
 (rl (jL g hv hok hi)).mono λDn σ H h=>C0 h
def BA (g:Gs W G T n E sc N X)(x s:Str)(k1 k3:Nat)(p1 p2 p3 pos:Pos)(i:Nat)(hv:bf sc x=true)(hok:aX x=true)(hi:pos? x N=some i):PS X (.Return (some (.Tuple [.Constant (.str s) k1 p1,.Name x p2] k3 p3)) pos) (bZ W G n io E (.retP s i)):=
 (rl (vV (jn uJ (jn (jL g hv hok hi) kW rfl) rfl))).mono λDn σ H h=>AD h
def Hf (pos:Pos):PS X (.Return none pos) (bZ W G n io E (.ret (.cst .non))):=
 Gc.mono λDn σ H h=>by
  obtain⟨N0,a,hN,hS,h⟩:=uZ (λi=>by simp) h;rw[Ip.oR] at h;exact h _ _ (Res.of_flat (Sub.refl _) rfl .non)
def ue (ns:aO (e::es)=true)(hl:es.length<29):((backTo cp (starEach (e::es) env)).all (λx=>!x.1)&&(backToKw cp (keywordEach [] env)).all (λx=>x.1.isSome)
   && decide ((e::es).length+([]:List Keyword).length+(if ([]:List Keyword).isEmpty then 0 else 1)<30))=true:=by
 rw[pG ns];show (true&&true&&decide (es.length+1+0+0<30))=true;rw[HS (by omega)]; rfl
def CW (g:Gs W G T n E sc N X)(x:Str)(xp mp cp pos:Pos)(e:Expr)(i:Nat)(hv:bf sc x=true)(hok:aX x=true)(hi:pos? x N=some i)(ns:aO [e]=true)(hp:(mp.endLine == cp.line)=true) :
  PS X (.Expr (.Call (.Attribute (.Name x xp) "append" mp) [e] [] cp) pos) (bZ W G n io E (.mut i [] .append [cE T sc N m e])):=by
 have s1:=(eh ns).1;exact (ox (oq Ki PySem.F.slot_list_append PySem.F.type_list_append wo (jL g hv hok hi) (jn ((fK m).e g.gd e) kW (dm s1)) rfl (ue ns (by decide)) hp (dm s1) rfl) rfl).mono λDn σ H h=>Ao g.gd.K h
def zE (g:Gs W G T n E sc N X)(x:Str)(xp mp cp pos:Pos)(e:Expr)(i:Nat)(hv:bf sc x=true)(hok:aX x=true)(hi:pos? x N=some i)(ns:aO [e]=true)(hp:(mp.endLine == cp.line)=true) :
  PS X (.Expr (.Call (.Attribute (.Name x xp) "extend" mp) [e] [] cp) pos) (bZ W G n io E (.mut i [] .extend [cE T sc N m e])):=by
 have s1:=(eh ns).1;exact (ox (oq Ki PySem.F.slot_list_extend PySem.F.type_list_extend BQ (jL g hv hok hi) (jn ((fK m).e g.gd e) kW (dm s1)) rfl (ue ns (by decide)) hp (dm s1) rfl) rfl).mono λDn σ H h=>Hi g.gd.K h
def Ej (g:Gs W G T n E sc N X)(x j:Str)(xp jp sp pos:Pos)(e:Expr)(i k:Nat)(hv:bf sc x=true)(hok:aX x=true)(hi:pos? x N=some i)(hv2:bf sc j=true)(hok2:aX j=true)(hk:pos? j N=some k) :
  PS X (.Assign [.Subscript (.Name x xp) (.Name j jp) sp] e pos) (bZ W G n io E (.put i [] (.var k) (cE T sc N m e))):=
 (zn (jL g hv hok hi) (jL g hv2 hok2 hk) ((fK m).e g.gd e) (by cases e <;> rfl)).mono λDn σ H h=>DZ h
def BP (g:Gs W G T n E sc N X)(x:Str)(xp mp cp pos:Pos)(e:Expr)(i:Nat)(hv:bf sc x=true)(hok:aX x=true)(hi:pos? x N=some i)(ns:aO [e]=true)(hp:(mp.endLine == cp.line)=true) :
  PS X (.Expr (.Call (.Attribute (.Name x xp) "remove" mp) [e] [] cp) pos) (bZ W G n io E (.mut i [] .remove [cE T sc N m e])):=by
 have s1:=(eh ns).1;exact (ox (oq Ki PySem.F.slot_list_remove PySem.F.type_list_remove B8 (jL g hv hok hi) (jn ((fK m).e g.gd e) kW (dm s1)) rfl (ue ns (by decide)) hp (dm s1) rfl) rfl).mono λDn σ H h=>G5 h
def j6 (W:Wd)(G:Pg)(T:Tb)(n m:Nat):Prop:=∀{io:ak} {E:St->XK} {sc:Scope} {N:ar} {X:Cx},Gs W G T n E sc N X->∀st,PS X st (bZ W G n io E (cS T sc N m st))
theorem lj (ih:j6 W G T n m)(g:Gs W G T n E sc N X):∀sts:aG,PSs X sts (eR W G n io E (sts.map (cS T sc N m)))
 | []=>A3
 | st::sts=>Fx (ih g st) (lj ih g sts)
def rJ (ih:j6 W G T n m)(g:Gs W G T n E sc N X)(c:Expr)(a b:aG)(pos:Pos):PS X (.If c a b pos) (bZ W G n io E (.iff (cT T sc N m c) (a.map (cS T sc N m)) (b.map (cS T sc N m)))):=
 (Fs ((fK m).t g.gd c) (lj ih g a) (lj ih g b)).mono λDn σ H h=>Av h
def Cu (ih:j6 W G T n m)(g:Gs W G T n E sc N X)(c:Expr)(b:aG)(pos:Pos):PS X (.While c b [] pos) (bZ W G n io E (.whl (cT T sc N m c) (b.map (cS T sc N m)))):=
 (yX g.own ((fK m).t g.gd c) (lj ih g b)).mono λDn σ H h=>Hh h
def FY {st:Stmt}{tg:Tg}{wk:Wk}{b:List Ip.S}:PS X st (bZ W G n io E (.fo tg wk [.bad] b)):=λpins s σ H Dn I ⟨_,_,_,_,_,_,_,h⟩=>by
 rw[Ip.qM,b9,gn] at h; exact h.elim
def C7 (ih:j6 W G T n m)(g:Gs W G T n E sc N X)(tg it:Expr)(b:aG)(pos:Pos)(t:Tg)(ht:cM sc N tg=some t)(hw:dX (cI T sc N m it).1 t=true) :
  PS X (.For tg it b [] pos) (bZ W G n io E (.fo t (cI T sc N m it).1 (cI T sc N m it).2 (b.map (cS T sc N m)))):=by
 rcases uf it with ⟨a,b',c,rfl⟩ | hs
 .rw[t9]; exact FY
 .exact (BG g.own g.gd.calm ((fK m).i g.gd tg it (uE ht hw)) (pz g.gd ht) (lj ih g b) (hs X.env)).mono λDn σ H h=>GU g.gd.K h
def ps?_or:ps? x N f=.bad\/∃i,pos? x N=some i/\ps? x N f=f i:=by
 unfold ps?;cases pos? x N with
 | none=>exact .inl rfl
 | some i=>exact .inr ⟨i,rfl,rfl⟩
def pq {st:Stmt}{x:Str}{N:ar}{f:Nat->Ip.S}(h:∀i,pos? x N=some i->PS X st (bZ W G n io E (f i))):PS X st (bZ W G n io E (ps? x N f)):=by
 rcases ps?_or (x:=x) (N:=N) (f:=f) with q | ⟨i,hi,q⟩
 .rw[q]; exact dq
 .rw[q]; exact h i hi
def B6 (g:Gs W G T n E sc N X)(ts:au)(e:Expr)(pos:Pos):PS X (.Assign ts e pos) (bZ W G n io E (cS T sc N (m+1) (.Assign ts e pos))):=by
 rw[Ip.Dl];cases ts with
 | nil=>exact dq
 | cons t r=>
  unfold Ip.jJ;dsimp only;by_cases hr:r.isEmpty=true
  rotate_left
  .rw[if_neg hr]; exact dq
  rw[if_pos hr];obtain rfl:=KH.mp hr;cases q1:Ip.cg t with
  | some x=>
   obtain⟨p1,rfl⟩:=Ip.iY q1;dsimp only;by_cases hl:bH sc x=true
   .rw[if_pos hl]; exact pq λi hi=>G0 g _ _ e pos i hl hi
   .rw[if_neg hl]; exact dq
  | none=>
   dsimp only;cases q2:Ip.jF t with
   | some xj=>
    obtain⟨x,j⟩:=xj;obtain⟨p1,p2,p3,rfl⟩:=Ip.FB q2;dsimp only;by_cases hl:(bf sc x&&aX x&&bf sc j&&aX j)=true
    .rw[if_pos hl];simp only[HF] at hl;obtain⟨⟨⟨h1,h2⟩,h3⟩,h4⟩:=hl;refine pq λk hk=>?_;refine pq λj hj=>?_;exact Ej g _ _ _ _ _ pos e k j h1 h2 hk h3 h4 hj
    .rw[if_neg hl]; exact dq
   | none=>
    dsimp only;cases q3:Ip.km t with
    | none=>
     dsimp only;cases q4:Ip.ig t with
     | none=>exact dq
     | some es=>
      obtain⟨k,tp,rfl⟩:=Ip.va q4;dsimp only;by_cases hc:Ip.fS e=true
      rotate_left
      .rw[if_neg hc]; exact dq
      rw[if_pos hc];split
      .rename_i ht;exact DA g _ _ _ e pos _ hc ht
      .exact dq
    | some xf=>
     obtain⟨x,f⟩:=xf;obtain⟨p1,p2,rfl⟩:=Ip.E8 q3;dsimp only;by_cases hl:(bf sc x&&aX x)=true
     rotate_left
     .rw[if_neg hl]; exact dq
     rw[if_pos hl];rw[HF] at hl;refine pq λk hk=>?_;refine pq λj hj=>?_;by_cases hf:T.fl.contains j=true
     .simp only[hf,if_true];exact zH g _ _ _ _ e pos k j hl.1 hl.2 hk hj hf
     .simp only[hf]; exact dq
def Fm (g:Gs W G T n E sc N X)(e:Expr)(pos:Pos):PS X (.Expr e pos) (bZ W G n io E (cS T sc N (m+1) (.Expr e pos))):=by
 rw[Ip.DR];unfold Ip.jC;cases qm:Ip.jN e with
 | some t=>
  obtain⟨x,mm,mp,args,cp⟩:=t;obtain⟨xp,rfl⟩:=Ip.AR qm;dsimp only;split
  .rename_i hc;simp only[HF,HU] at hc;obtain⟨⟨h1,h2⟩,rfl⟩:=hc;unfold Ip.nQ;split
   .split
    .rename_i a hd;rw[HF] at hd;refine pq λk hk=>?_;exact CW g _ _ _ _ _ _ _ h1 h2 hk hd.1 hd.2
    .exact dq
   .exact dq
  .split
   .rename_i hc;simp only[HF,HU] at hc;obtain⟨⟨h1,h2⟩,rfl⟩:=hc;unfold Ip.mQ;split
    .split
     .rename_i hd;rw[HF] at hd;refine pq λk hk=>?_;exact zE g _ _ _ _ _ _ _ h1 h2 hk hd.1 hd.2
     .exact dq
    .exact dq
   .split
    .rename_i hc;simp only[HF,HU] at hc;obtain⟨⟨h1,h2⟩,rfl⟩:=hc;unfold Ip.l8;split
     .split
      .rename_i hd;rw[HF] at hd;refine pq λk hk=>?_;exact BP g _ _ _ _ _ _ _ h1 h2 hk hd.1 hd.2
      .exact dq
     .exact dq
    .exact yx g _ pos λ_ _ _ _ z=>by cases z
 | none=>
  dsimp only;by_cases hL:Ip.mx e=true
  .rw[if_pos hL]; exact dq
  .rw[if_neg hL]; exact yx g e pos λ_ _ _ _ z=>hL (by rw[z]; rfl)
def Fw (g:Gs W G T n E sc N X)(o:Option Expr)(pos:Pos):PS X (.Return o pos) (bZ W G n io E (cS T sc N (m+1) (.Return o pos))):=by
 rw[Ip.Ge];cases o with
 | none=>exact Hf pos
 | some e=>
  unfold Ip.kh;dsimp only;cases q1:Ip.cg e with
  | some x=>
   obtain⟨p,rfl⟩:=Ip.iY q1;dsimp only;by_cases hc:(bf sc x&&aX x)=true
   .rw[if_pos hc];rw[HF] at hc;refine pq λk hk=>?_;exact zo g _ _ pos k hc.1 hc.2 hk
   .rw[if_neg hc]; exact dq
  | none=>
   dsimp only;cases qs:Ip.oW sc e with
   | none=>
    dsimp only;by_cases hb:ou (cE T sc N m e)=true
    .rw[if_pos hb]; exact dq
    .rw[if_neg hb]; exact Dj g e pos hb
   | some t=>
    obtain⟨s,x⟩:=t;dsimp only;obtain⟨k1,p1,p2,k3,p3,rfl,v1,v2⟩:=Ip.CZ qs;refine pq λk hk=>?_;exact BA g x s k1 k3 p1 p2 p3 pos k v1 v2 hk
def AB (ih:j6 W G T n m)(g:Gs W G T n E sc N X)(tg it:Expr)(b els:aG)(pos:Pos):PS X (.For tg it b els pos) (bZ W G n io E (cS T sc N (m+1) (.For tg it b els pos))):=by
 simp only[Ip.yV,Ip.ky];split
 .exact dq
 .split
  .rename_i ht;split
   .rename_i hw;exact C7 ih g tg it b pos _ ht hw
   .exact dq
  .exact dq
theorem yv (W:Wd)(G:Pg)(T:Tb)(n:Nat):∀m,j6 W G T n m
 | 0=>λg st=>by exact dq
 | m+1=>λg st=>by
  have ih:j6 W G T n m:=yv W G T n m;cases st with
  | Assign ts e pos=>exact B6 g ts e pos
  | Expr e pos=>exact Fm g e pos
  | Return o pos=>exact Fw g o pos
  | If c a b pos=>exact rJ ih g c a b pos
  | For tg it b els pos=>exact AB ih g tg it b els pos
  | While c b els pos=>
   rw[Ip.yY];by_cases he:els.isEmpty=true
   .rw[if_pos he];obtain rfl:=KH.mp he;exact Cu ih g c b pos
   .rw[if_neg he]; exact dq
  | _=>exact dq
end
section
variable {W:Wd}{G:Pg}{T:Tb}{n:Nat}{P:Program}{w:World}{mg:Str->aA}{base:Heap}
theorem sS:∀{vs:av} {ds:ax} {i:Nat} {d:D},Dens W S vs ds->ds[i]? = some d->∃v,vs[i]? = some v/\Den W S v d
 | _,_,_,_,.nil,h=>by simp at h
 | _,_,0,_,.cons h _,e=>by
  simp only[List.getElem?_cons_zero,JB] at e;subst e;exact⟨_,rfl,h⟩
 | _,_,i+1,_,.cons _ q,e=>by
  simp only[List.getElem?_cons_succ] at e ⊢;exact sS q e
def yz (h:(bB F xs)[i]? = some (some x)):∃y,xs[i]? = some y/\x=if F.io.contains i then y else (0,y.2):=by
 unfold bB at h;by_cases hi:i<xs.length
 .rw[J6 (by rw[K2]; exact hi),IQ,HI hi] at h;simp only[Option.map_some,JB] at h;refine⟨xs[i],HI hi,?_⟩;by_cases c:F.io.contains i=true
  .rw[if_pos c] at h ⊢; exact (cQ h).symm
  .rw[if_neg c] at h ⊢; exact (cQ h).symm
 .rw[JX (by rw[K2]; omega)] at h;have:=HL h;rw[List.mem_replicate] at this;cases this.2
def wA (h:xs.length=F.np)(h2:F.np<=F.ns):(bB F xs).length=F.ns:=by
 unfold bB;rw[HP,K2,Kz];omega
def oI {N:ar}{vs:av}{i:Nat}{v:V}(h:vs[i]? = some v):(start N vs)[i]? = some (some v):=by
 unfold start;have hi:i<vs.length:=(dg h).1;rw[J6 (by rw[HG]; exact hi),HR,h]; rfl
def D9 (h:vs.length<=N.length):(start N vs).length=N.length:=by
 unfold start;rw[HP,HG,Kz]; omega
def Bq:ba M (λ_=>[])=M:=funext λb=>propext ⟨λz=>z.elim id λ⟨_,y⟩=>by simp at y,.inl⟩
def AK:Own W S H 99 .non .non []:=⟨rfl,.non⟩
def zR (h:Own W S H k v .non fp):v=.non:=by
 cases k with
 | zero=>obtain⟨_,h⟩:=h; cases h; rfl
 | succ k=>obtain⟨_,h⟩:=h; cases h; rfl
theorem zk (h:match fin [] o with
  | .ret k d []=>∀v H',Res W H N H' (k,d) v->Q v H'
  | _=>False):PostS W H N [] (λ_=>E) { nx:=λ_ H'=>Q .non H',rt:=Q } o:=by
 cases o with
 | nx A=>exact λσ H' F f=>h .non H' ⟨f.sub,[],.nil,λ_ z=>by simp at z,AK⟩
 | ret k d A=>
  rintro v σ H' ⟨fp,F,f,nd,fr,o⟩;refine h v H' ⟨f.sub,fp,nd,λb hb=>(fr b hb).1,o.mono (λb u z=>?_) λ_ _ _ e=>e⟩;exact bh.mpr ⟨λy=>(bh.mp z).1 (.inl y),(bh.mp z).2⟩
 | bad=>exact h.elim
theorem HB {H:Hp}{N:Addr->Prop}{f0:ao}{v0:V}{o:O}{Q:VK}{E:XK}(h:match fin [0] o with
  | .ret k d [y]=>∀v H' (fp:ao),Sub (hid (λb=>b∈f0) H) H'->fp.Nodup->(∀b∈fp,hid (λb=>b∈f0) H b=none)->Own W (hid (λb=>N b\/b∈fp) H') H' y.1 v0 y.2 fp->(d=.non->v=.non)->Q v H'
  | _=>False):PostS W (hid (λb=>b∈f0) H) N [(0,v0)] (λ_=>E) { nx:=λ_ H'=>Q .non H',rt:=Q } o:=by
 have key:∀{N':Addr->Prop} {A:Fr} {σ:St} {H':Hp} {F:Nat->ao} {y:KD},FrF W (hid (λb=>b∈f0) H) N' [(0,v0)] A σ H' F->(∀b,N b->N' b)->A[0]? = some (some y)->Sub (hid (λb=>b∈f0) H) H'/\(F 0).Nodup/\(∀b∈F 0,hid (λb=>b∈f0) H b=none)/\Own W (hid (λb=>N b\/b∈F 0) H') H' y.1 v0 y.2 (F 0):=by
  intro N' A σ H' F y f hN hA;obtain⟨v,h1,h2⟩:=f.rel 0 y hA;have h3:=f.pn (0,v0) (by simp);rw[h1] at h3;cases h3;refine⟨f.sub,f.nd 0,λb hb=>(f.fr 0 b hb).1,h2.mono (λb u z=>?_) λ_ _ _ e=>e⟩;refine bh.mpr ⟨λy=>(bh.mp z).1 ?_,(bh.mp z).2⟩;exact y.elim (λq=>.inl (hN b q)) λq=>.inr ⟨0,q⟩
 cases o with
 | nx A=>
  intro σ H' F f;simp only[fin,outs] at h;cases q:A[0]? with
  | none=>rw[q] at h; exact h.elim
  | some o=>
   cases o with
   | none=>rw[q] at h; exact h.elim
   | some y=>
    rw[q] at h;obtain⟨a1,a2,a3,a4⟩:=key f (λ_ z=>z) q;exact h .non H' _ a1 a2 a3 a4 λ_=>rfl
 | ret k d A=>
  rintro v σ H' ⟨fp,F,f,nd,fr,o⟩;simp only[fin,outs] at h;cases q:A[0]? with
  | none=>rw[q] at h; exact h.elim
  | some o=>
   cases o with
   | none=>rw[q] at h; exact h.elim
   | some y=>
    rw[q] at h;obtain⟨a1,a2,a3,a4⟩:=key f (λ_ z=>.inl z) q;refine h v H' _ a1 a2 a3 a4 λz=>?_;subst z;exact zR o
 | bad=>exact h.elim
def DG {k:Nat}{F:Fn}{N:ar}{vs:av}{H:Hp}{Q:VK}{E:XK}(hF:G.fn k=some F)(hns:F.ns=N.length)(hnp:F.np<=F.ns)(h:gx W G (n+1) k F vs H Q E) :
  eR W G n F.io (λ_=>E) F.body { nx:=λ_ H'=>Q .non H',rt:=Q } (start N vs) H:=by
 have hlen:=qW hF h;have hsl:(start N vs).length=N.length:=D9 (by omega);rcases h with ⟨hio,M,xs,hM,dv,h⟩ | ⟨hio,M,x0,xs,v0,ws,f0,rfl,hM,nd,dj,ow,dv,h⟩
 .have hx:xs.length=F.np:=by rw[dv.length,HG] at hlen; exact hlen
  rw[Ip.run,hF] at h;simp only[if_pos hx,hio] at h;refine⟨H,M,[],bB F xs,λ_=>[],λp hp=>by simp at hp,⟨λ_ _ e=>e,hM,by rw[hsl,wA hx hnp,hns],λp hp=>by simp at hp,λ_=>.nil,λi j b hb=>by simp at hb,λi b hb=>by simp at hb,λi x e=>?_,λ_ _=>rfl⟩,?_⟩
  .obtain⟨y,e1,e2⟩:=yz e;rw[hio] at e2;simp only[List.contains_nil,Ia,if_false] at e2;obtain⟨v,e3,e4⟩:=sS (i:=i) (d:=y.2) dv (by rw[HR,e1]; rfl);refine⟨v,oI e3,?_⟩;rw[Bq,e2];exact⟨rfl,e4⟩
  .rw[hio];exact zk h
 .have hx:(x0::xs).length=F.np:=by rw[List.length_cons,dv.length,HG] at hlen; rw[List.length_cons]; exact hlen
  rw[Ip.run,hF] at h;simp only[if_pos hx,hio] at h;have hh:ba M (λi=>if i=0 then f0 else [])=λb=>M b\/b∈f0:=funext λb=>propext ⟨λz=>z.imp id λ⟨j,y⟩=>by
   by_cases q:j=0
   .simpa[q] using y
   .simp[q] at y,λz=>z.imp id λy=>⟨0,by simpa using y⟩⟩
  refine⟨hid (λb=>b∈f0) H,M,[(0,v0)],bB F (x0::xs),λi=>if i=0 then f0 else [],λp hp=>by simp at hp; rw[hp,hio]; simp,⟨λb u e=>(bh.mp e).2,hM,by rw[hsl,wA hx hnp,hns],λp hp=>?_,λi=>?_,λi j b h1 h2=>?_,λi b hb=>?_,λi x e=>?_,λi hi=>?_⟩,?_⟩
  .simp only[HN] at hp;rw[hp];exact oI rfl
  .split
   .exact nd
   .exact .nil
  .split at h1
   .split at h2
    .omega
    .simp at h2
   .simp at h1
  .split at hb
   .exact⟨by unfold hid; exact if_pos hb,dj b hb⟩
   .simp at hb
  .obtain⟨y,e1,e2⟩:=yz e;rw[hio] at e2;rw[hh];cases i with
   | zero=>
    simp only[List.getElem?_cons_zero,JB] at e1;subst e1;rw[if_pos (by simp)] at e2;subst e2;exact⟨v0,oI rfl,by simpa using ow⟩
   | succ i=>
    simp only[List.getElem?_cons_succ] at e1;rw[if_neg (by simp)] at e2;obtain⟨v,e3,e4⟩:=sS (i:=i) (d:=y.2) dv (by rw[HR,e1]; rfl);refine⟨v,oI (by simpa using e3),?_⟩;rw[e2];exact⟨by simp,e4⟩
  .split
   .rename_i z;subst z;exact absurd (show (bB F (x0::xs))[0]? = some (some x0) by simp[bB,hio]) (hi x0)
   .rfl
  .rw[hio];exact HB h
structure FunD (K:bn)(x qual:Str)(st:Stmt)(f:Addr)(fd:FuncData):Prop where
 ex:∃(oc:Value) (od:aE) (dV kV doc pm:Value) (an:aE) (cdv ct:Value) (osl:Array aA),
  fd=PySem.W.fnOf x qual (aY st) (bj st) (cC st) dV kV doc pm an cdv ct/\K.lookup f=some ⟨oc,od,.func fd,osl⟩/\PySem.W.codeIn K cdv qual=true
def FunD.okX {N:ar}{x qual:Str}{st:Stmt}{f:Addr}{fd:FuncData}{ps:ar}{k:Nat}{sp:Sp}{K:bn}(F:FunD K x qual st f fd)(S:FnScope N ps (cC st))(len:∀vs H Q E,sp vs H Q E->vs.length=ps.length)
  (hbody:∀(cdv:Value) (A:Around) (outer:List Env) (s:Shared) (H:Hp) (vs:av) (Q:VK) (E:XK),Room k (A.deeper (envOfC qual (cC st) s.heap.objs.size f cdv))->sp vs H Q E ->
   ∃t,PSs (fR (fY P w) P w K mg base N qual (cC st) f cdv A outer s H E) (bj st) t/\t { nx:=λ_ H'=>Q .non H',rt:=Q } (start N vs) H):FnOk P w K mg base (fY P w) (k+1) f fd ps sp:=by
 obtain⟨oc,od,dV,kV,doc,pm,an,cdv,ct,osl,rfl,lk,hcd⟩:=F.ex;exact zP lk hcd S len λA outer s H vs Q E hr hsp=>hbody cdv A outer s H vs Q E hr hsp
structure DefAt (W:Wd)(T:Tb)(F:Fn)(a:Addr):Prop where
 ex:∃(x qual:Str) (st:Stmt) (fd:FuncData) (ps:ar) (io:ak),FunD W.K x qual st a fd/\FnScope (gc (aY st) (cC st)) ps (cC st)/\cF T io st=some F/\F.np=ps.length /\
  ∀m,m<=F.np->F.np - m<=F.dfl.length->∃(ds:aq) (dvs:av),Binds W.K fd ps ds/\Vals dvs ds/\∀S,Dens W S dvs (cX F m)
def BH {io:ak}{st:Stmt}{F:Fn}(h:cF T io st=some F):F.io=io/\F.ns=(gc (aY st) (cC st)).length/\F.np=(aY st).args.length/\F.body=(bj st).map (cS T (cC st) (gc (aY st) (cC st)) 60):=by
 unfold cF at h;split at h
 .obtain⟨ds,_,h2⟩:=cA h;subst h2;exact⟨rfl,rfl,rfl,rfl⟩
 .cases h
def CK:a.args.length<=(gc a sc).length:=by
 unfold gc;rw[HP,HG]; omega
def wW {k:Nat}{F:Fn}{a:Addr}{x qual:Str}{st:Stmt}{fd:FuncData}{ps:ar}{io:ak}(hF:G.fn k=some F)(g:∀m,n=m+1->GF W G T m P w mg base)(fu:FunD W.K x qual st a fd)(S:FnScope (gc (aY st) (cC st)) ps (cC st))(hc:cF T io st=some F)(hnp:F.np=ps.length) :
  FnOk P w W.K mg base (fY P w) (rm n) a fd ps (gx W G n k F):=by
 obtain⟨c1,c2,c3,c4⟩:=BH hc;cases n with
 | zero=>
  refine fu.okX (k:=0) S (λvs H Q E h=>by rw[qW hF h,hnp]) λcdv A outer s H vs Q E hr h=>?_;rcases h with ⟨_,_,_,_,_,q⟩ | ⟨_,_,_,_,_,_,_,_,_,_,_,_,_,q⟩
  .exact q.elim
  .exact q.elim
 | succ n=>
  refine fu.okX (k:=3 * n+3) S (λvs H Q E h=>by rw[qW hF h,hnp]) λcdv A outer s H vs Q E hr h=>?_;refine⟨_,lj (io:=F.io) (E:=λ_=>E) (yv W G T n 60) (sc:=cC st) (N:=gc (aY st) (cC st)) ?_ (bj st),?_⟩
  .refine⟨⟨g n rfl,rfl,λy hy=>?_,λy hy=>?_,λy hy=>?_,λy hy=>hy,rfl,S.nd,rfl,passF,hr.mono (by unfold rm; omega)⟩,PassesOwn.leaving,⟨_,_,rfl,rfl⟩,rfl⟩
   .unfold bf at hy;simp only[IT,HU] at hy;exact hy.elim (λz=>z.elim .inl λz=>.inr (.inl z)) λz=>.inr (.inr z)
   .unfold bH at hy;simp only[IT,HU] at hy;exact⟨hy,.inl rfl⟩
   .unfold Ip.bz at hy;simp only[HU] at hy;exact hy
  .rw[<-c4];exact DG hF c2 (by rw[c3,c2]; exact CK) h
def ub (hF:G.fn k=some F)(g:∀m,n=m+1->GF W G T m P w mg base)(d:DefAt W T F a):FI W G n P w mg base k F a:=by
 obtain⟨x,qual,st,fd,ps,io,fu,S,hc,hnp,dfl⟩:=d.ex;exact⟨fd,ps,wW hF g fu S hc hnp,dfl⟩
end
structure GF0 (W:Wd)(G:Pg)(T:Tb)(mg:Str->aA):Prop where
 cf:CF W T.fl
 att:W.att=T.att
 blt:∀x v,(x,v)∈fG->mg x=none/\bootBuiltins x=some v
 cst:∀x d,T.cst.lookup x=some d->(x == ("__debug__" : Str))=false/\∃u v,mg x=some u/\RelV v u/\d.flat=true/\∀S,Den W S v d
 fns:∀x k,T.fns.lookup x=some k->(x == ("__debug__" : Str))=false/\∃F a,G.fn k=some F/\mg x=some (.ref a)/\PySem.W.keepIn W.K (.ref a)=true/\DefAt W T F a
 cls:∀x c,T.cls.lookup x=some c->(x == ("__debug__" : Str))=false/\∃C,mg x=some (.ref C)/\∀Cl' f F,G.cl c=some Cl'->Cl'.init=some f->G.fn f=some F ->
  ∃a,DefAt W T F a/\W.iA c=some C/\Mk W.K C a
 meth:∀c Cl' m f F,G.cl c=some Cl'->Cl'.meths.lookup m=some f->G.fn f=some F->∀nm,W.att[m]? = some nm->∃C a,W.iA c=some C/\Meth W.K C nm a/\DefAt W T F a
 isB:∀x t,jK.lookup x=some t->mg x=none/\x ≠ "__name__" /\ (x == ("__debug__" : Str))=false/\∃nm,bootBuiltins x=some (.type nm)/\b8 W G t (.type nm)
 isC:∀x c,T.cls.lookup x=some c->∃C,mg x=some (.ref C)/\b8 W G (.cls c) (.ref C)
def Ho (g0:GF0 W G T mg):∀n,GF W G T n P w mg base:=by
 have step:∀n,(∀m,n=m+1->GF W G T m P w mg base)->GF W G T n P w mg base:=λn ih=>
  ⟨g0.cf,g0.att,g0.blt,g0.cst,λx k h=>by
   obtain⟨h1,F,a,h2,h3,h4,h5⟩:=g0.fns x k h;exact⟨h1,F,a,h2,h3,h4,ub h2 ih h5⟩,λx c h=>by
   obtain⟨h1,C,h2,h3⟩:=g0.cls x c h;refine⟨h1,C,h2,λCl' f F q1 q2 q3=>?_⟩;obtain⟨a,h4,h5⟩:=h3 Cl' f F q1 q2 q3;exact⟨a,ub q3 ih h4,h5⟩,λc Cl' m f F q1 q2 q3 nm q4=>by
   obtain⟨C,a,h1,h2,h3⟩:=g0.meth c Cl' m f F q1 q2 q3 nm q4;exact⟨C,a,h1,h2,ub q3 ih h3⟩,g0.isB,g0.isC⟩
 intro n;induction n with
 | zero=>exact step 0 λm h=>by cases h
 | succ n ih=>exact step (n+1) λm h=>by cases h; exact ih
section
variable {W:Wd}{T:Tb}{F:Fn}{f:Addr}{x qual:Str}{st:Stmt}{oc dV kV doc pm cdv ct:Value}{od an:aE}{osl:Array aA}{ps:ar}{io:ak}
def Db (l:W.K.lookup f=some ⟨oc,od,.func (PySem.W.fnOf x qual (aY st) (bj st) (cC st) dV kV doc pm an cdv ct),osl⟩)(c:PySem.W.codeIn W.K cdv qual=true)
  (S:FnScope (gc (aY st) (cC st)) ps (cC st))(hc:cF T io st=some F)(hnp:F.np=ps.length)(hd:F.dfl=[])
  (hb:∀us:aq,us.length=ps.length->bindArgs (PySem.W.fnOf x qual (aY st) (bj st) (cC st) dV kV doc pm an cdv ct) ⟨us,[]⟩=pure (ps.zip us)):DefAt W T F f:=by
 refine⟨x,qual,st,_,ps,io,⟨oc,od,dV,kV,doc,pm,an,cdv,ct,osl,rfl,l,c⟩,S,hc,hnp,λm h1 h2=>⟨[],[],Binds.all hb,.nil,λS=>?_⟩⟩;unfold cX;rw[hd];simp;exact .nil
theorem mem_of_lookup:∀{l:ah},l.lookup a=some o->(a,o)∈l
 | [],h=>nomatch h
 | (y,j)::r,h=>by
  rw[List.lookup_cons] at h;cases e:a == y with
  | true=>
   rw[e] at h;rw[HU] at e;cases h;rw[e];exact bN
  | false=>rw[e] at h; exact bM _ (mem_of_lookup h)
def ga (K:bn):Sp:=λvs H Q _=>∃(a:Addr) (ns:am),vs=[.ref a]/\SqL K H a (ns.map V.int)/\ns.length<=63/\∀H',Q (.bl true) H'
def Bl (hio:F.io=[])(hno:(W.K.all λp=>!(p.2.cls == Value.type "list"))=true)(hr:∀ns:List Int,ns.length<=63->∃kk,Ip.run G n k [(0,.lst (ns.map D.int))]=.ret kk (.bl true) []) :
  ∀vs H Q E,ga W.K vs H Q E->gx W G n k F vs H Q E:=by
 rintro vs H Q E ⟨a,ns,e,hS,hl,hq⟩;subst e;obtain⟨kk,hr⟩:=hr ns hl;refine .inl ⟨hio,λ_=>False,[(0,.lst (ns.map D.int))],λ_ z=>z.elim,?_,?_⟩
 .have e:hid (λ_=>False) H=H:=funext λb=>by unfold hid; exact if_neg id
  rw[e];have hR:Rd H a (.lst (ns.map V.int)):=by
   rcases hS with h | ⟨o,its,m,h1,h2,_⟩
   .exact h
   .have:=dQ hno (a,o) (mem_of_lookup h1);rw[h2] at this;simp at this
  refine .cons (.lst hR ?_) .nil;clear hr hS hR hl;induction ns with
  | nil=>exact .nil
  | cons i ns ih=>exact .cons .int ih
 .rw[hr];rintro v H' ⟨_,fp,_,_,o⟩;have:v=.bl true:=by
   cases kk with
   | zero=>obtain⟨_,o⟩:=o; cases o; rfl
   | succ kk=>obtain⟨_,o⟩:=o; cases o; rfl
  subst this;exact hq H'
end
section
variable {W:Wd}{G:Pg}{T:Tb}{mg:Str->aA}
def PF (W:Wd)(T:Tb)(G:Pg)(mg:Str->aA)(p:Str×Nat):Prop:=(p.1 == ("__debug__" : Str))=false/\∃F a,G.fn p.2=some F/\mg p.1=some (.ref a)/\PySem.W.keepIn W.K (.ref a)=true/\DefAt W T F a
def zp (W:Wd)(T:Tb)(G:Pg)(mg:Str->aA)(p:Str×Nat):Prop:=(p.1 == ("__debug__" : Str))=false/\∃C,mg p.1=some (.ref C)/\b8 W G (.cls p.2) (.ref C)/\∀Cl' f F,G.cl p.2=some Cl'->Cl'.init=some f->G.fn f=some F ->
  ∃a,DefAt W T F a/\W.iA p.2=some C/\Mk W.K C a
def PV (W:Wd)(mg:Str->aA)(p:Str×D):Prop:=(p.1 == ("__debug__" : Str))=false/\∃u v,mg p.1=some u/\RelV v u/\p.2.flat=true/\∀S,Den W S v p.2
def PM (W:Wd)(T:Tb)(G:Pg)(C:Addr)(p:Nat×Nat):Prop:=∃F nm a,G.fn p.2=some F/\W.att[p.1]? = some nm/\Meth W.K C nm a/\DefAt W T F a
theorem gH [BEq α][LawfulBEq α]:∀{l:List (α×β)},l.lookup a=some b->(a,b)∈l
 | [],h=>nomatch h
 | (y,j)::r,h=>by
  rw[List.lookup_cons] at h;cases e:a == y with
  | true=>
   rw[e] at h;rw[HU] at e;cases h;rw[e];exact bN
  | false=>rw[e] at h; exact bM _ (gH h)
def Ca (cf:CF W T.fl)(att:W.att=T.att)(blt:∀p∈fG,mg p.1=none/\bootBuiltins p.1=some p.2)(cst:∀p∈T.cst,PV W mg p)(fns:∀p∈T.fns,PF W T G mg p)(cls:∀p∈T.cls,zp W T G mg p)
  (meth:∀c Cl',G.cl c=some Cl'->Cl'.meths≠[]->∃C,W.iA c=some C/\∀p∈Cl'.meths,PM W T G C p)
  (isB:∀p∈jK,mg p.1=none/\p.1 ≠ "__name__" /\ (p.1 == ("__debug__" : Str))=false/\∃nm,bootBuiltins p.1=some (.type nm)/\b8 W G p.2 (.type nm)):GF0 W G T mg where
 cf:=cf
 att:=att
 blt:=λx v h=>blt (x,v) h
 cst:=λx d h=>cst (x,d) (gH h)
 fns:=λx k h=>fns (x,k) (gH h)
 cls:=λx c h=>by
  obtain⟨h1,C,h2,_,h3⟩:=cls (x,c) (gH h);exact⟨h1,C,h2,h3⟩
 meth:=λc Cl' m f F h1 h2 h3 nm h4=>by
  have hm:=gH h2;obtain⟨C,e1,e2⟩:=meth c Cl' h1 (λz=>by rw[z] at hm; simp at hm);obtain⟨F',nm',a,e3,e4,e5,e6⟩:=e2 (m,f) hm;rw[h3] at e3; cases e3;rw[h4] at e4; cases e4;exact⟨C,a,e1,e5,e6⟩
 isB:=λx t h=>isB (x,t) (gH h)
 isC:=λx c h=>by
  obtain⟨_,C,h2,h3,_⟩:=cls (x,c) (gH h);exact⟨C,h2,h3⟩
def Ei (h0:PySem.W.kitOne W.K (.type "NoneType") cv=some (bq G .non t))(h1:PySem.W.kitOne W.K (.type "bool") cv=some (bq G (.bl true) t))(h2:PySem.W.kitOne W.K (.type "int") cv=some (bq G (.int 0) t))
  (h3:PySem.W.kitOne W.K (.type "str") cv=some (bq G (.str "") t))(h4:PySem.W.kitOne W.K (.type "list") cv=some (bq G (.lst []) t))(h5:PySem.W.kitOne W.K (.type "tuple") cv=some (bq G (.tup []) t))
  (h6:∀c C,W.iA c=some C->PySem.W.kitOne W.K (.ref C) cv=some (bq G (.ins c []) t)):b8 W G t cv:=by
 intro d tv h;cases d with
 | non=>cases h; exact h0
 | bl b=>cases h; rw[h1]; cases t <;> rfl
 | int i=>cases h; rw[h2]; cases t <;> rfl
 | str s=>cases h; rw[h3]; cases t <;> rfl
 | lst xs=>cases h; rw[h4]; cases t <;> rfl
 | tup xs=>cases h; rw[h5]; cases t <;> rfl
 | ins c fs=>
  obtain⟨C,e1,e2⟩:=cA h;subst e2;rw[h6 c C e1]; cases t <;> rfl
end
noncomputable def dO (K:bn)(iL:List (Nat×Addr))(att:ar):Wd:=⟨K,λc=>iL.lookup c,att⟩
def nk (h:l.length=1):∃a,l=[a]:=Kv.mp h
def iE (h:l.length=n+1):∃a r,l=a::r/\r.length=n:=by
 cases l with
 | nil=>cases h
 | cons a r=>exact⟨a,r,rfl,Nat.succ.inj h⟩
def mO (h:l.length=2):∃a b,l=[a,b]:=by
 obtain⟨a,r,rfl,h2⟩:=iE h;obtain⟨b,rfl⟩:=nk h2;exact⟨a,b,rfl⟩
def nJ (h:l.length=3):∃a b c,l=[a,b,c]:=by
 obtain⟨a,r,rfl,h2⟩:=iE h;obtain⟨b,c,rfl⟩:=mO h2;exact⟨a,b,c,rfl⟩
def mI (h:l.length=4):∃a b c d,l=[a,b,c,d]:=by
 obtain⟨a,r,rfl,h2⟩:=iE h;obtain⟨b,c,d,rfl⟩:=nJ h2;exact⟨a,b,c,d,rfl⟩
def tJ (h:l.length=5):∃a b c d e,l=[a,b,c,d,e]:=by
 obtain⟨a,r,rfl,h2⟩:=iE h;obtain⟨b,c,d,e,rfl⟩:=mI h2;exact⟨a,b,c,d,e,rfl⟩
section
variable {K:bn}{iL:List (Nat×Addr)}{att:ar}{fl:ak}{G:Pg}{T:Tb}{mg:Str->aA}
noncomputable def rZ (fl:ak)(att:ar):ar:=fl.filterMap λf=>att[f]?
abbrev NoA (K:bn)(C:Addr)(ns:ar):Prop:=(ns.map λn=>PySem.W.findIn K (.ref C) n)=ns.map λ_=>some none
def NoA.at (h:NoA K C ns)(hn:n∈ns):NoAttr K C n:=IN.mp h n hn
def ER (nd:att.Nodup)(hi:∀p∈iL,InsC K p.2/\NoA K p.2 (rZ fl att)):CF (dO K iL att) fl:=
 ⟨nd,λc C h=>⟨(hi (c,C) (gH h)).1,λf n hf hn=>(hi (c,C) (gH h)).2.at (Kd.mpr ⟨f,hf,hn⟩)⟩⟩
abbrev mN (K:bn)(G:Pg)(t:Ip.Ty)(cv:Value):Prop:=[PySem.W.kitOne K (.type "NoneType") cv,PySem.W.kitOne K (.type "bool") cv,PySem.W.kitOne K (.type "int") cv,PySem.W.kitOne K (.type "str") cv,PySem.W.kitOne K (.type "list") cv,PySem.W.kitOne K (.type "tuple") cv]=[some (bq G .non t),some (bq G (.bl true) t),some (bq G (.int 0) t),some (bq G (.str "") t),some (bq G (.lst []) t),some (bq G (.tup []) t)]
abbrev rB (K:bn)(iL:List (Nat×Addr))(G:Pg)(t:Ip.Ty)(cv:Value):Prop:=(iL.map λp=>PySem.W.kitOne K (.ref p.2) cv)=iL.map λp=>some (bq G (.ins p.1 []) t)
def Fy (hb:mN K G t cv)(hi:rB K iL G t cv):b8 (dO K iL att) G t cv:=by
 unfold mN at hb;injection hb with h0 hb;injection hb with h1 hb;injection hb with h2 hb;injection hb with h3 hb;injection hb with h4 hb;injection hb with h5 hb;exact Ei h0 h1 h2 h3 h4 h5 (λc C h=>IN.mp hi (c,C) (gH h))
def FnAt (K:bn)(x qual:Str)(st:Stmt)(f:Addr):Prop:=∃(oc:Value) (od:aE) (kV doc pm:Value) (an:aE) (cdv ct:Value) (osl:Array aA),
 K.lookup f=some ⟨oc,od,.func (PySem.W.fnOf x qual (aY st) (bj st) (cC st) .none kV doc pm an cdv ct),osl⟩/\PySem.W.codeIn K cdv qual=true
def FnAt.mk {x qual:Str}{st:Stmt}{f:Addr}{oc kV doc pm cdv ct:Value}{od an:aE}{osl:Array aA}(l:K.lookup f=some ⟨oc,od,.func (PySem.W.fnOf x qual (aY st) (bj st) (cC st) .none kV doc pm an cdv ct),osl⟩)(c:PySem.W.codeIn K cdv qual=true):FnAt K x qual st f:=
 ⟨oc,od,kV,doc,pm,an,cdv,ct,osl,l,c⟩
def FnAtD (K:bn)(x qual:Str)(st:Stmt)(v:V)(f:Addr):Prop:=∃(oc:Value) (od:aE) (t:Addr) (kV doc pm:Value) (an:aE) (cdv ct:Value) (osl:Array aA) (u oct:Value) (odt:aE) (n:Nat) (slt:Array aA),
 K.lookup f=some ⟨oc,od,.func (PySem.W.fnOf x qual (aY st) (bj st) (cC st) (.ref t) kV doc pm an cdv ct),osl⟩/\PySem.W.codeIn K cdv qual=true/\K.lookup t=some ⟨oct,odt,.seq #[u] n,slt⟩/\RelV v u
def FnAtD.mk {x qual:Str}{st:Stmt}{v:V}{f t:Addr}{oc kV doc pm cdv ct u oct:Value}{od an odt:aE}{osl slt:Array aA}{n:Nat}(l:K.lookup f=some ⟨oc,od,.func (PySem.W.fnOf x qual (aY st) (bj st) (cC st) (.ref t) kV doc pm an cdv ct),osl⟩)(c:PySem.W.codeIn K cdv qual=true)
  (lt:K.lookup t=some ⟨oct,odt,.seq #[u] n,slt⟩)(r:RelV v u):FnAtD K x qual st v f:=⟨oc,od,t,kV,doc,pm,an,cdv,ct,osl,u,oct,odt,n,slt,l,c,lt,r⟩
def Hg {K:bn}{iL:List (Nat×Addr)}{P:Program}{w:World}{n:Nat}{F:Fn}{f:Addr}{st:Stmt}{x:Str}(g0:GF0 (dO K iL att) G T mg)(hno:(K.all λp=>!(p.2.cls == Value.type "list"))=true)(hF:G.fn 69=some F)(hio:F.io=[])(d:FnAt K "law" "law" st f)
  (S:FnScope (gc (aY st) (cC st)) [x] (cC st))(hc:cF T [] st=some F)(hnp:F.np=1)(hb:∀(kV doc pm:Value) (an:aE) (cdv ct:Value) (u:Value),bindArgs (PySem.W.fnOf "law" "law" (aY st) (bj st) (cC st) .none kV doc pm an cdv ct) ⟨[u],[]⟩=pure [(x,u)])
  (hr:∀ns:am,ns.length<=63->∃kk,Ip.run G n 69 [(0,.lst (ns.map D.int))]=.ret kk (.bl true) []) :
  ∃fd:FuncData,(∀(s:Shared) (u:Value),BindsTo s fd ⟨[u],[]⟩ [(x,u)])/\∀base:Heap,K.In base->base.Ns mainGlobals mg->FnOk P w K mg base (fY P w) (rm n) f fd [x] (ga K):=by
 obtain⟨oc,od,kV,doc,pm,an,cdv,ct,osl,l,c⟩:=d;refine⟨_,λs u=>.of_eq (hb kV doc pm an cdv ct u),λbase _ _=>?_⟩;have fu:FunD (dO K iL att).K "law" "law" st f (PySem.W.fnOf "law" "law" (aY st) (bj st) (cC st) .none kV doc pm an cdv ct):=⟨oc,od,.none,kV,doc,pm,an,cdv,ct,osl,rfl,l,c⟩
 exact (wW (n:=n) hF (λm _=>Ho g0 m) fu S hc hnp).imp (Bl (W:=dO K iL att) hio hno hr)
end
end L2
end
section
namespace Hd
open PySem PySem.W PySem.Calls PyProof.Rows
noncomputable def gP (thr ok:Thread->Bool)(stp:SharedT->Thread->Option (SharedT×Thread))(n:Nat):SharedT->Thread->Option SharedT:=
 @Nat.rec (λ_=>SharedT->Thread->Option SharedT) (λ_ _=>none) (λ_ ih s t=>match thr t with
  | true=>some s
  | false=>match ok t with
   | false=>none
   | true=>match stp s t with
    | some (s',t')=>ih s' t'
    | none=>none) n
theorem Aj (thr ok:Thread->Bool)(stp:SharedT->Thread->Option (SharedT×Thread))(n:Nat)(s:SharedT)(t:Thread):gP thr ok stp (n+1) s t=(match thr t with
  | true=>some s
  | false=>match ok t with
   | false=>none
   | true=>match stp s t with
    | some (s',t')=>gP thr ok stp n s' t'
    | none=>none):=rfl
theorem xG:∀(n:Nat) (s s':SharedT) (t:Thread),gP through (stepOk n₀ ann) (stepT (denote tb) p w) n s t=some s'->topRun tb p w n₀ ann n s.abs t=some s'.abs
 | 0,_,_,_,h=>by cases h
 | n+1,s,s',t,h=>by
  rw[Aj] at h;unfold topRun;cases ht:through t with
  | true=>rw[ht] at h; cases h; rfl
  | false=>
   rw[ht] at h;cases hk:stepOk n₀ ann t with
   | false=>rw[hk] at h; cases h
   | true=>
    rw[hk] at h;cases hs:stepT (denote tb) p w s t with
    | none=>rw[hs] at h; cases h
    | some r=>obtain⟨s₂,t₂⟩:=r; rw[hs] at h; dsimp only; rw[stepT_spec hs]; exact xG n s₂ s' t₂ h
noncomputable def lookG {β α:Type}(mods:ar)(so lk:Heap->Heap->Bool)(nb:Heap->Bool)(seen:Shared->β)(Yf:Shared->α)(h₀:Heap)(st:SharedT):Bool×β×α:=
 (so h₀ st.abs.heap&&nb st.abs.heap&&gensDone st.abs&&lk h₀ st.abs.heap,seen st.abs,Yf st.abs)
def DO {p q:Program}{loose:ar}{Xt:Shared->Bool}{α:Type}{Yf:Shared->α}{Ya:World->α}{N m₀:Nat}{ann:aA}{T0:Params->BT}{life:Params->Life}
  (e:opening p=plainProg p.main.scope.names)(hN:Nat.ble 600 N=true)(f:∀s,fenceModules? p s=some s)
  (size:∀w:World,((boot_heap w.params).isNs mainGlobals,(boot_heap w.params).objs.size,(boot_heap w.params).nsMap mainGlobals "__annotations__")=(true,m₀,ann))
  (habs:∀P,absHeap (T0 P) m₀ (life P)=boot_heap P)
  (run:∀(w:World) (os:OsState),(gP through (stepOk m₀ ann) (stepT (denote treeTable) p w) N ⟨T0 w.params,m₀,life w.params,Array.mk [],boot_drawn,boot_toks,os⟩ (topStub p)).map
   (lookG (importedModules p.main.body) (staticsOk (importedModules p.main.body)) laidKept (namesBound p) (openSeen q loose (importedModules p.main.body) Xt true) Yf (boot_heap w.params))=some (true,openGood q loose,Ya w)) :
  LeftO p q loose Xt Yf Ya N:=λw=>by
 obtain⟨⟨h,gs,d,k,os⟩,e1,e'⟩:=cA (boot_open e hN f w);obtain⟨rfl,rfl,rfl,rfl⟩:h=boot_heap w.params/\gs=Array.mk []/\d=boot_drawn/\k=boot_toks:=by simpa using e'
 obtain⟨z1,z2,z3⟩:_/\_/\_:=by simpa only[IZ] using size w
 obtain⟨st,hr,hl⟩:=cA (run w os);have r:=xG _ _ _ _ hr;have ha:SharedT.abs ⟨T0 w.params,m₀,life w.params,Array.mk [],boot_drawn,boot_toks,os⟩=⟨boot_heap w.params,Array.mk [],boot_drawn,boot_toks,os⟩:=by
  show Shared.mk _ _ _ _ _=_;rw[habs]
 rw[ha] at r;obtain⟨l1,l2,l3⟩:_/\_/\_:=by simpa only[lookG,IZ] using hl
 have t:topFrom treeTable p w N ⟨boot_heap w.params,Array.mk [],boot_drawn,boot_toks,os⟩=some st.abs:=by
  unfold topFrom;dsimp only;rw[z1,z2,z3];show ((topRun treeTable p w m₀ ann N _ (topStub p)).bind _)=_;rw[r];show (match staticsOk (importedModules p.main.body) (boot_heap w.params) st.abs.heap&&namesBound p st.abs.heap&&gensDone st.abs&&laidKept (boot_heap w.params) st.abs.heap with | true=>_ | false=>_)=_;rw[l1]
 unfold openEnds;rw[e1];show (topFrom treeTable p w N _).map _=_;rw[t];exact congrArg some (Prod.ext l2 l3)
end Hd
end
section
namespace Hd
open PySem PySem.Spec PySem.W PyProof.Rows L2
abbrev v6:=(Str×Str×Arguments×FuncBody)×Scope×Addr×List (Str×Addr)×Value×Addr×Bool
noncomputable def sn (K:Frag)(f:Addr):Option v6:=match K.lookup f with
 | some ⟨_,_,.func fd,_⟩=>some ((fd.name,fd.qualname,fd.params,fd.body),fd.scope,fd.globals,fd.closure,fd.defaults,fd.builtins,codeIn K fd.code fd.qualname)
 | _=>none
noncomputable def t8 (K:Frag)(t:Addr):Option aq:=match K.lookup t with
 | some ⟨_,_,.seq xs _,_⟩=>some xs.toList
 | _=>none
def xl {K:Frag}{f:Addr}{x qual:Str}{st:Stmt}(h:sn K f=some ((x,qual,aY st,.stmts (bj st)),cC st,mainGlobals,[],.none,builtinsNs,true)):FnAt K x qual st f:=by
 unfold sn at h;split at h
 .rename_i fd _ hk;obtain⟨a1,a2,a3,a4,a5,a6,a7,a8,a9,a10,a11,a12,a13,a14,a15⟩:=fd;simp only[JB,IZ] at h;obtain⟨⟨rfl,rfl,rfl,rfl⟩,rfl,rfl,rfl,rfl,rfl,hc⟩:=h;exact .mk hk hc
 .cases h
noncomputable def o5 (as:ao)(h:Heap):Frag:=as.filterMap λa=>(h.get? a).map λo=>(a,o)
theorem xu (h:Heap):∀as:ao,(o5 as h).In h
 | []=>λa o e=>by cases e
 | a::as=>λb o e=>by
  have ih:=xu h as;unfold o5 at e ih;rw[List.filterMap_cons] at e;cases q:h.get? a with
  | none=>rw[q] at e; exact ih b o e
  | some x=>
   rw[q] at e;by_cases hb:b=a
   .subst hb;have:some x=some o:=by simpa[List.lookup_cons] using e
    cases this;exact q
   .have:(List.filterMap (λa=>(h.get? a).map λo=>(a,o)) as).lookup b=some o:=by
     have hb':(b == a)=false:=Jb.mpr hb;simpa[List.lookup_cons,hb'] using e
    exact ih b o this
noncomputable def iR {α:Type}(as:ao)(q:Frag->α)(v:α):Hook where
 α:=α
 obs:=λs=>q (o5 as s.heap)
 val:=λ_=>v
 says:=λ_ h=>∃K:Frag,K.In h/\q K=v
 of:=λ_ s e=>⟨_,xu s.heap as,e⟩
 keeps:=λ_ _ _ ⟨K,a,b⟩ k=>⟨K,a.keeps k,b⟩
def yP {l:OpenLaw}{n k:Nat}{q:Program}{loose:ar}{XP:(Str->aA)->Heap->Prop}{d:DefRec}{α:Type}{as:ao}{qs:Frag->α}{v:α}{CX:World->gy}{sp:World->Frag->Sp}{x:Str}
  (hn:l.most=some n)(hn2:n<=sizeLine)(hdf:d.params.defaults=[])(hr:Room k callerA)
  (F:∀(w:World) (K:Frag) (mg:Str->aA) (fa:Addr) (h:Heap),qs K=v->K.In h->h.Ns mainGlobals mg->mg d.name=some (.ref fa) ->
   ∃fd:FuncData,(∀(s:Shared) (u:Value),BindsTo s fd ⟨[u],[]⟩ [(x,u)]) /\
    ∀base:Heap,K.In base->base.Ns mainGlobals mg->FnOk l.prog w K mg base (CX w) k fa fd [x] (sp w K))
  (hsp:∀(w:World) (K:Frag) (H:Hp) (a:Addr) (ns:am),ns.length<=n->jT H->SqL K H a (ns.map V.int)->sp w K [.ref a] H (λv _=>v=.bl true) λ_ _ _=>False)
  (hCX:∀(w:World) (H:Hp) (s:Shared) (e:Value) (s':Shared),CX w [] H s (λ_ _ _=>False) e s'->False) :
  WalkO q loose XP (Hook.says (iR as qs v)) l.row.toRowW d [] (λf vs=>PySem.call f vs):=by
 refine Att.attach_call hn hdf λw s₀ s₁ mg mb fa o pm cd doc a vs ns G Y ho hd hcd hmg hobj hints hlen hg=>?_;obtain⟨K,KX,hq⟩:=Y;obtain⟨fd,hb,hF⟩:=F w K mg fa _ hq KX G.T.g hmg;exact Fq KX G.T.g G.T.b G.T.builtins G.T.nolimit hg hobj hints (bv hlen hn2) hr hF hb (λH hO hS=>hsp w K H a ns hlen hO hS) λH e s'=>hCX w H s₁ e s'
def Cn {α:Type}{p:α->Prop}{a:α}{l:List α}(h:p a)(t:∀b∈l,p b):∀b∈a::l,p b:=List.forall_mem_cons.mpr ⟨h,t⟩
def Nl {α:Type}{p:α->Prop}:∀b∈([]:List α),p b:=λ_ h=>nomatch h
structure Fd where
 x:Str
 q:Str
 k:Nat
 f:Addr
 st:Stmt
 d:Option (Addr×Value)
abbrev OV:=Option aA
abbrev DV:=Option v6×Option (Option aq)
noncomputable def p8 (d:Option (Addr×Value)):Value:=match d with
 | none=>.none
 | some p=>.ref p.1
noncomputable def qD (K:Frag)(d:Fd):DV:=(sn K d.f,d.d.map λp=>t8 K p.1)
noncomputable def aD (d:Fd):DV:=(some ((d.x,d.q,aY d.st,.stmts (bj d.st)),cC d.st,mainGlobals,[],p8 d.d,builtinsNs,true),d.d.map λp=>some [p.2])
section
variable {W:Wd}{T:Ip.Tb}{G:Ip.Pg}{F:Ip.Fn}{ps:ar}{io:ak}{d:Fd}{mg:Str->aA}{K:Frag}
noncomputable def uS (N ps:ar)(sc:Scope):Bool:=sc.kind == .function&&(sc.isCoroutine == false&&(sc.isGenerator == false&&(decide N.Nodup&&(N.take ps.length == ps&&(ps.all (λx=>sc.names.lookup x == some .local||sc.names.lookup x == some .cell)&&sc.names.all λy=>y.2 != .free)))))
def yh (h:uS N ps sc=true):FnScope N ps sc:=by
 simp only[uS,HF,HU,Ig,List.all_eq_true,IT,bne_iff_ne] at h;obtain⟨h1,h2,h3,h4,h5,h6,h7⟩:=h;exact⟨h1,h2,h3,h4,h5,h6,h7⟩
def bY (h:qD W.K d=aD d)(hd:d.d=none:=by rfl)(S:FnScope (Ip.gc (aY d.st) (cC d.st)) ps (cC d.st):=by exact yh (by kernel_rfl))(hc:Ip.cF T io d.st=some F:=by kernel_rfl)(hnp:F.np=ps.length:=by rfl)(hf:F.dfl=[]:=by rfl)
  (hb:∀(kV doc pm:Value) (an:aE) (cdv ct:Value) (us:aq),us.length=ps.length->bindArgs (fnOf d.x d.q (aY d.st) (bj d.st) (cC d.st) .none kV doc pm an cdv ct) ⟨us,[]⟩=pure (ps.zip us):=by
   intro _ _ _ _ _ _ us hl;first | (obtain⟨_,rfl⟩:=nk hl; rfl) | (obtain⟨_,_,rfl⟩:=mO hl; rfl) | (obtain⟨_,_,_,rfl⟩:=nJ hl; rfl) | (obtain⟨_,_,_,_,rfl⟩:=mI hl; rfl) | (obtain⟨_,_,_,_,_,rfl⟩:=tJ hl; rfl)):DefAt W T F d.f:=by
 have h1:=(K7 h).1;rw[hd] at h1;obtain⟨oc,od,kV,doc,pm,an,cdv,ct,osl,l,c⟩:=xl h1;exact Db l c S hc hnp hf λus hl=>hb kV doc pm an cdv ct us hl
def tU (W:Wd)(T:Ip.Tb)(G:Ip.Pg)(d:Fd):Prop:=∃F,G.fn d.k=some F/\(qD W.K d=aD d->DefAt W T F d.f)
structure Ic where
 x:Str
 c:Nat
 C:Addr
 d:Fd
noncomputable def qI (K:Frag)(ns:ar)(e:Ic):OV×List Bool×List OV×List (Option Bool)×List OV×DV:=
  (nsIn K mainGlobals e.x,[plainGet K e.C Str.empty,hasDictIn K e.C,plainOver K e.C,makesIn K e.C,isFn K (.ref e.d.f),keepIn K (.ref e.C)],
   [findIn K (.ref e.C) "__setattr__",findIn K (.ref e.C) "__class__",specialIn K (.builtin "object.__class__") "__get__",findIn K (.ref e.C) "__init__"],
   [takesIn K (.builtin "object.__class__"),mroIn K e.C (.type "object")],ns.map λn=>findIn K (.ref e.C) n,qD K e.d)
noncomputable def aI (ns:ar)(e:Ic):OV×List Bool×List OV×List (Option Bool)×List OV×DV:=
  (some (some (.ref e.C)),[true,true,true,true,true,true],
   [some (some (.builtin "object.__setattr__")),some (some (.builtin "object.__class__")),some (some (.builtin "getset_descriptor.__get__")),some (some (.ref e.d.f))],
   [some true,some true],ns.map λ_=>some none,aD e.d)
def ins_of (h:qI K ns e=aI ns e):nsIn K mainGlobals e.x=some (some (.ref e.C))/\InsC K e.C/\NoA K e.C ns/\Mk K e.C e.d.f/\qD K e.d=aD e.d:=by
 simp only[qI,aI,IZ,IK,and_true] at h;obtain⟨h1,⟨b1,b2,b3,b4,b5,b6⟩,⟨c1,c2,c3,c4⟩,⟨d1,d2⟩,h5,h6⟩:=h;exact⟨h1,⟨⟨b1,b2,b3,c1⟩,c2,c3,d1,d2⟩,h5,⟨b4,c4,b5,b6⟩,h6⟩
noncomputable def qT (K:Frag)(iL:List (Nat×Addr))(cv:Value):List (Option Bool)×List (Option Bool):=
 ([kitOne K (.type "NoneType") cv,kitOne K (.type "bool") cv,kitOne K (.type "int") cv,kitOne K (.type "str") cv,kitOne K (.type "list") cv,kitOne K (.type "tuple") cv],iL.map λp=>kitOne K (.ref p.2) cv)
noncomputable def aT (G:Ip.Pg)(iL:List (Nat×Addr))(t:Ip.Ty):List (Option Bool)×List (Option Bool):=
 ([some (Ip.bq G .non t),some (Ip.bq G (.bl true) t),some (Ip.bq G (.int 0) t),some (Ip.bq G (.str "") t),some (Ip.bq G (.lst []) t),some (Ip.bq G (.tup []) t)],iL.map λp=>some (Ip.bq G (.ins p.1 []) t))
def Ai (h:qT K iL cv=aT G iL t):b8 (dO K iL att) G t cv:=
 Fy (K7 h).1 (K7 h).2
end
structure Tl where
 fL:List Fd
 iC:List Ic
 nC:List (Str×Nat×Addr)
 mL:List (Addr×Fd)
 cL:List (Str×Int×Nat)
 tL:List (Str×Addr×List (Str×Nat))
noncomputable def Tl.iL (B:Tl):List (Nat×Addr):=B.iC.map λe=>(e.c,e.C)
noncomputable def tyV:List (Ip.Ty×Value):=[(.int,.type "int"),(.bool,.type "bool"),(.str,.type "str"),(.list,.type "list"),(.tuple,.type "tuple"),(.dict,.type "dict"),(.verr,.type "ValueError")]
noncomputable def Tl.ty (B:Tl):List (Ip.Ty×Value):=tyV++(B.nC.map (λe=>(.cls e.2.1,.ref e.2.2))++B.iC.map λe=>(.cls e.c,.ref e.C))
noncomputable def zL:ar:=fG.map (·.1)++Ip.jK.map (·.1)
abbrev OB:=List (OV×Bool×DV)×List (OV×List Bool×List OV×List (Option Bool)×List OV×DV)×List OV×List (OV×Bool×Bool×DV) ×
 List (List (Option Bool)×List (Option Bool))×List OV×List OV×Bool×List (OV×Option (Value×Bool×Option aq))
noncomputable def g9 (K:Frag)(a:Addr):Option (Value×Bool×Option aq):=(K.lookup a).map λo=>(o.cls,o.dict.isNone,match o.data with
 | .seq its _=>some its.toList
 | _=>none)
noncomputable def Tl.q (B:Tl)(ns:ar)(K:Frag):OB:=
  (B.fL.map λd=>(nsIn K mainGlobals d.x,keepIn K (.ref d.f),qD K d),B.iC.map (qI K ns),B.nC.map λe=>nsIn K mainGlobals e.1,
   B.mL.map λe=>(findIn K (.ref e.1) e.2.x,isFn K (.ref e.2.f),keepIn K (.ref e.2.f),qD K e.2),
   B.ty.map λe=>qT K B.iL e.2,
   zL.map λx=>nsIn K mainGlobals x,B.cL.map λc=>nsIn K mainGlobals c.1,K.all (λp=>!(p.2.cls == Value.type "list")),B.tL.map λc=>(nsIn K mainGlobals c.1,g9 K c.2.1))
noncomputable def Tl.a (B:Tl)(ns:ar)(G:Ip.Pg):OB:=
  (B.fL.map λd=>(some (some (.ref d.f)),true,aD d),B.iC.map (aI ns),B.nC.map λe=>some (some (.ref e.2.2)),
   B.mL.map λe=>(some (some (.ref e.2.f)),true,true,aD e.2),
   B.ty.map λe=>aT G B.iL e.1,
   zL.map λ_=>some none,B.cL.map λc=>some (some (.int c.2.1 c.2.2)),true,B.tL.map λc=>(some (some (.ref c.2.1)),some (.type "tuple",true,some (c.2.2.map λs=>.str s.1 s.2))))
def HA:∀p∈fG,bootBuiltins p.1=some p.2:=Cn rfl <| Cn rfl <| Cn rfl <| Cn rfl <| Cn rfl <| Cn rfl <| Cn rfl <| Cn rfl <| Cn rfl <| Cn rfl <| Cn rfl <| Cn rfl <| Cn rfl <| Cn rfl <| Cn rfl Nl
def Df:∀p∈Ip.jK,p.1 ≠ "__name__" /\ (p.1 == ("__debug__" : Str))=false/\∃nm,bootBuiltins p.1=some (.type nm)/\(p.2,Value.type nm)∈tyV:=
 Cn ⟨by decide +kernel,by decide +kernel,_,rfl,by simp[tyV]⟩ <| Cn ⟨by decide +kernel,by decide +kernel,_,rfl,by simp[tyV]⟩ <| Cn ⟨by decide +kernel,by decide +kernel,_,rfl,by simp[tyV]⟩ <| Cn ⟨by decide +kernel,by decide +kernel,_,rfl,by simp[tyV]⟩ <|
 Cn ⟨by decide +kernel,by decide +kernel,_,rfl,by simp[tyV]⟩ <| Cn ⟨by decide +kernel,by decide +kernel,_,rfl,by simp[tyV]⟩ <| Cn ⟨by decide +kernel,by decide +kernel,_,rfl,by simp[tyV]⟩ Nl
section
variable {T:Ip.Tb}{G:Ip.Pg}{mg:Str->aA}{K:Frag}{h:Heap}{B:Tl}{ns:ar}
def r6 {l:ar}(s:(l.all λx=>!(x == ("__debug__" : Str)))=true){x:Str}(hx:x∈l):(x == ("__debug__" : Str))=false:=by
 have:=dQ s x hx;simpa using this
def BV {p:Str×Nat}(s:(B.nC.any (λe=>e.1 == p.1&&e.2.1 == p.2)||B.iC.any (λe=>e.x == p.1&&e.c == p.2))=true) :
  (∃e∈B.nC,e.1=p.1/\e.2.1=p.2)\/∃e∈B.iC,e.x=p.1/\e.c=p.2:=by
 simp only[IT,KI,HF,HU] at s;exact s
structure Ans (B:Tl)(ns:ar)(G:Ip.Pg)(K:Frag):Prop where
 f:∀d∈B.fL,nsIn K mainGlobals d.x=some (some (.ref d.f))/\keepIn K (.ref d.f)=true/\qD K d=aD d
 i:∀e∈B.iC,nsIn K mainGlobals e.x=some (some (.ref e.C))/\InsC K e.C/\NoA K e.C ns/\Mk K e.C e.d.f/\qD K e.d=aD e.d
 n:∀e∈B.nC,nsIn K mainGlobals e.1=some (some (.ref e.2.2))
 m:∀e∈B.mL,Meth K e.1 e.2.x e.2.f/\qD K e.2=aD e.2
 t:∀e∈B.ty,∀att,b8 (dO K B.iL att) G e.1 e.2
 z:∀x∈zL,nsIn K mainGlobals x=some none
 c:∀c∈B.cL,nsIn K mainGlobals c.1=some (some (.int c.2.1 c.2.2))
 l:(K.all λp=>!(p.2.cls == Value.type "list"))=true
 u:∀c∈B.tL,nsIn K mainGlobals c.1=some (some (.ref c.2.1))/\g9 K c.2.1=some (.type "tuple",true,some (c.2.2.map λs=>.str s.1 s.2))
def GQ (e:B.q ns K=B.a ns G):Ans B ns G K:=by
 simp only[Tl.q,Tl.a,IZ] at e;obtain⟨e1,e2,e4,e5,e7,e8,e9,e10,e11⟩:=e;refine⟨λd hd=>?_,λd hd=>ins_of (IN.mp e2 d hd),λd hd=>IN.mp e4 d hd,λd hd=>?_,λd hd att=>Ai (IN.mp e7 d hd),λx hx=>IN.mp e8 x hx,λc hc=>IN.mp e9 c hc,e10,λc hc=>IZ .. ▸ IN.mp e11 c hc⟩
 .have:=IN.mp e1 d hd;simpa only[IZ] using this
 .have:=IN.mp e5 d hd;simp only[IZ] at this;exact⟨⟨this.1,this.2.1,this.2.2.1⟩,this.2.2.2⟩
def Be (l:List (Str×Nat)):(Ip.D.tup (l.map λs=>.str s.1)).flat=true:=by
 induction l with
 | nil=>rfl
 | cons x l ih=>simpa[Ip.D.flat,Ip.D.flats] using ih
theorem vM:∀l:List (Str×Nat),Dens W S (l.map λs=>V.str s.1) (l.map λs=>Ip.D.str s.1)
 | []=>.nil
 | _::l=>.cons .str (vM l)
theorem yu:∀l:List (Str×Nat),Vals (l.map λs=>V.str s.1) (l.map λs=>Value.str s.1 s.2)
 | []=>.nil
 | _::l=>.cons ⟨_,rfl⟩ (yu l)
def D5 {S:Hp}{a:Addr}{l:List (Str×Nat)}(h:g9 K a=some (.type "tuple",true,some (l.map λs=>.str s.1 s.2)))(hz:l.length<=6):SqT K S a (l.map λs=>V.str s.1):=by
 unfold g9 at h;cases e:K.lookup a with
 | none=>rw[e] at h; cases h
 | some o=>
  rw[e] at h;simp only[Option.map_some,JB,IZ] at h;obtain⟨h1,h2,h3⟩:=h;have hd:o.dict=none:=by
   cases hh:o.dict with
   | none=>rfl
   | some x=>rw[hh] at h2; cases h2
  cases hdt:o.data with
  | seq its n=>
   rw[hdt] at h3;have e3:its.toList=l.map λs=>Value.str s.1 s.2:=cQ h3;refine .inr ⟨o,its,n,e,h1,hd,hdt,?_,by rw[e3]; exact yu l⟩;have:its.size=l.length:=by rw[<-Array.length_toList,e3,HG]
   rw[this];exact bv hz (by decide)
  | _=>rw[hdt] at h3; cases h3
theorem zt (clL:List (Nat×Ip.Cl))(X:K.In h)(Gl:h.Ns mainGlobals mg)(A:Ans B (rZ T.fl T.att) G K)(hcl:∀c,G.cl c=clL.lookup c)
  (s1:T.fns=B.fL.map λd=>(d.x,d.k))
  (s2:(T.cls.all λp=>B.nC.any (λe=>e.1 == p.1&&e.2.1 == p.2)||B.iC.any (λe=>e.x == p.1&&e.c == p.2))=true)
  (s3:((T.fns.map (·.1)++(T.cls.map (·.1)++T.cst.map (·.1))).all λx=>!(x == ("__debug__" : Str)))=true)
  (s4:T.cst=B.cL.map (λc=>(c.1,Ip.D.int c.2.1))++B.tL.map λc=>(c.1,Ip.D.tup (c.2.2.map λs=>.str s.1)))(nd:T.att.Nodup)(s5:(B.tL.all λc=>decide (c.2.2.length<=6))=true)
  (okF:∀d∈B.fL,tU (dO K B.iL T.att) T G d)
  (okI:∀e∈B.iC,tU (dO K B.iL T.att) T G e.d/\B.iL.lookup e.c=some e.C/\∃Cl,G.cl e.c=some Cl/\Cl.init=some e.d.k/\Cl.isx=false)
  (okN:∀e∈B.nC,∃Cl,G.cl e.2.1=some Cl/\Cl.init=none)
  (okM:∀e∈B.mL,tU (dO K B.iL T.att) T G e.2)
  (sM:(clL.all λp=>p.2.meths.isEmpty||(match B.iL.lookup p.1 with
   | some C=>p.2.meths.all λm=>B.mL.any λe=>e.1 == C&&(T.att[m.1]? == some e.2.x&&e.2.k == m.2)
   | none=>false))=true) :
  GF0 (dO K B.iL T.att) G T mg:=by
 have d1:∀p∈T.fns,(p.1 == ("__debug__" : Str))=false:=λp hp=>r6 s3 (eY _ (Iz hp));have d2:∀p∈T.cls,(p.1 == ("__debug__" : Str))=false:=λp hp=>r6 s3 (cH _ (eY _ (Iz hp)));have d3:∀p∈T.cst,(p.1 == ("__debug__" : Str))=false:=λp hp=>r6 s3 (cH _ (cH _ (Iz hp)));refine Ca ?cf rfl ?blt ?cst ?fns ?cls ?meth ?isB
 case cf=>
  refine ER nd λp hp=>?_;obtain⟨e,he,rfl⟩:=bV hp;exact⟨(A.i e he).2.1,(A.i e he).2.2.1⟩
 case blt=>exact λp hp=>⟨mg_none_of X Gl (A.z _ (eY _ (Iz hp))),HA p hp⟩
 case cst=>
  intro p hp;have h0:=d3 p hp;rw[s4] at hp;rcases cO hp with hp | hp
  .obtain⟨c,hc,rfl⟩:=bV hp;exact⟨h0,_,.int c.2.1,mg_of X Gl (A.c c hc),⟨_,rfl⟩,rfl,λ_=>.int⟩
  .obtain⟨c,hc,rfl⟩:=bV hp;obtain⟨a1,a2⟩:=A.u c hc;have hz:c.2.2.length<=6:=HY (dQ s5 c hc);exact⟨h0,_,.ref c.2.1,mg_of X Gl a1,rfl,Be _,λS=>.tup (D5 a2 hz) (vM _)⟩
 case fns=>
  intro p hp;have h0:=d1 p hp;rw[s1] at hp;obtain⟨d,hd,rfl⟩:=bV hp;obtain⟨F,f1,f2⟩:=okF d hd;obtain⟨a1,a2,a3⟩:=A.f d hd;exact⟨h0,F,d.f,f1,mg_of X Gl a1,a2,f2 a3⟩
 case cls=>
  intro p hp;refine⟨d2 p hp,?_⟩;rcases BV (dQ s2 p hp) with ⟨e,he,q1,q2⟩ | ⟨e,he,q1,q2⟩
  .obtain⟨Cl,c1,c2⟩:=okN e he;refine⟨e.2.2,by rw[<-q1]; exact mg_of X Gl (A.n e he),by rw[<-q2]; exact A.t (.cls e.2.1,.ref e.2.2) (cH _ (eY _ (Iz (f:=λe:Str×Nat×Addr=>(Ip.Ty.cls e.2.1,Value.ref e.2.2)) he))) _,λCl' f F h1 h2 _=>?_⟩;rw[<-q2,c1] at h1;cases h1;rw[c2] at h2;cases h2
  .obtain⟨⟨F',f1,f2⟩,li,Cl,c1,c2,c3⟩:=okI e he;obtain⟨a1,_,_,a4,a5⟩:=A.i e he;refine⟨e.C,by rw[<-q1]; exact mg_of X Gl a1,by rw[<-q2]; exact A.t (.cls e.c,.ref e.C) (cH _ (cH _ (Iz (f:=λe:Ic=>(Ip.Ty.cls e.c,Value.ref e.C)) he))) _,λCl' f F h1 h2 h3=>?_⟩;rw[<-q2,c1] at h1;cases h1;rw[c2] at h2;cases h2;rw[f1] at h3;cases h3;refine⟨e.d.f,f2 a5,?_⟩;rw[<-q2];exact⟨li,a4⟩
 case meth=>
  intro c Cl' h1 hm;rw[hcl] at h1;have q:=dQ sM (c,Cl') (gH h1);have hm':Cl'.meths.isEmpty=false:=by cases hh:Cl'.meths with | nil=>exact absurd hh hm | cons _ _=>rfl
  rw[hm',Bool.false_or] at q;cases hi:B.iL.lookup c with
  | none=>rw[hi] at q; cases q
  | some C=>
   rw[hi] at q;refine⟨C,hi,λp hp=>?_⟩;obtain⟨e,he,q1⟩:=KI.mp (dQ q p hp);simp only[HF,HU] at q1;obtain⟨rfl,q2,q3⟩:=q1;obtain⟨F,f1,f2⟩:=okM e he;obtain⟨a1,a2⟩:=A.m e he;exact⟨F,e.2.x,e.2.f,by rw[<-q3]; exact f1,q2,a1,f2 a2⟩
 case isB=>
  intro p hp;obtain⟨b1,b2,nm,b3,b4⟩:=Df p hp;exact⟨mg_none_of X Gl (A.z _ (cH _ (Iz hp))),b1,b2,nm,b3,A.t (p.2,.type nm) (eY _ b4) _⟩
end
end Hd
end
section
namespace Ip
open PySem (Str)
noncomputable def sJ:ar:=["__init__", "row", "garment", "over", "place", "first", "second", "moment", "name", "place_count", "covered_places", "spots", "many", "covers", "meet", "wardrobe", "prices", "start", "dressers", "beats", "scenes"]
noncomputable def T_k24:Tb:=⟨.append (α:=Str×Nat) [("is_whole",0),("is_below",1),("is_rising",15),("are_places",16),("check_garment",17),("worn_in",24),("may_lie",34),("check_things",35),("check_lacking",36),("still_under",37),("order_of",39),("reason_against",45),("staying_on",46),("may_stay",47),("not_staying",49),("way_between",50),("price_of",51),("trouble_of",52),("least_trouble",53),("_law_cell",98),("_law_mix",71),("_law_whole",73),("_law_covers",99),("_law_wears",115),("_law_deed",116),("_law_moved",117),("_law_walk",118),("_law_same_to",123),("_law_worn",124),("_law_beneath",130)] [("_law_stays",131),("_law_lets",132),("_law_leads",133),("_law_prices",134),("_law_right",113),("_law_laid",127),("_law_chain",128),("_law_drawn",129),("law",69)],[("Wardrobe",17)], "WardrobeError",sJ,[1,2,3,4,5,6,7,8,9,10,15,16,17,18,19,20],[("DEEPEST",(.int (100))),("MOST_PLACES",(.int (6))),("MOST_GARMENTS",(.int (6)))]⟩
noncomputable def kG:Fn:=⟨1,[],1,[],[
  .ret (.and (.op (.isi [.int]) [(.var 0)]) (.op .not [(.op (.isi [.bool]) [(.var 0)])]))]⟩
noncomputable def jY:Fn:=⟨2,[],2,[],[
  .ret (.and (.call 0 [(.var 0)]) (.chain .le .lt (.cst (.int (0))) (.var 0) (.var 1)))]⟩
noncomputable def om:Fn:=⟨1,[],1,[],[
  .ret (.op .all [(.comp [none,none,none] (.many [1,2]) .zip [(.var 0),(.op .slL [(.var 0),(.cst (.int (1)))])] [] (.op .lt [(.var 1),(.var 2)]))])]⟩
noncomputable def ly:Fn:=⟨2,[],2,[],[
  .iff (.or (.op .not [(.op (.isi [.list]) [(.var 0)])]) (.op .eq [(.op .len [(.var 0)]),(.cst (.int (0)))])) [.ret (.cst (.bl false))] [],
  .ret (.and (.op .all [(.comp [none,none,(some 1)] (.one 1) .seq [(.var 0)] [] (.call 1 [(.var 1),(.var 2)]))]) (.call 15 [(.var 0)]))]⟩
noncomputable def oF:Fn:=⟨2,[],2,[],[
  .iff (.op .not [(.call 1 [(.var 1),(.meth 12 (.var 0) [])])]) [.bad] []]⟩
noncomputable def kF:Fn:=⟨1,[],3,[],[
  .set 1 (.op .lst []),
  .fo (.one 2) .seq [(.var 0)] [.mut 1 [] .extend [(.var 2)]],
  .ret (.op .srtSet [(.var 1)])]⟩
noncomputable def oA:Fn:=⟨3,[],3,[],[
  .ret (.and (.call 1 [(.var 2),(.meth 12 (.var 0) [])]) (.op .isin [(.var 1),(.meth 13 (.var 0) [(.var 2)])]))]⟩
noncomputable def oK:Fn:=⟨2,[],6,[],[
  .fo (.many [2,3]) .enum [(.var 1)] [.fo (.many [4,5]) .enum [(.var 3)] [.iff (.or (.op .not [(.call 34 [(.var 0),(.var 2),(.var 5)])]) (.op .isin [(.var 5),(.op .slH [(.var 3),(.var 4)])])) [.bad] []]]]⟩
noncomputable def oO:Fn:=⟨2,[],4,[],[
  .fo (.one 2) .seq [(.call 24 [(.var 1)])] [.fo (.one 3) .seq [(.meth 13 (.var 0) [(.var 2)])] [.iff (.op .nin [(.var 2),(.op .ix [(.var 1),(.var 3)])]) [.bad] []]]]⟩
noncomputable def nG:Fn:=⟨4,[],7,[],[
  .set 4 (.op .lst []),
  .fo (.one 5) .seq [(.meth 13 (.var 0) [(.var 2)])] [.set 6 (.op .index [(.op .ix [(.var 1),(.var 5)]),(.var 2)]),.iff (.and (.op .gt [(.var 6),(.cst (.int (0)))]) (.op .isin [(.op .ix [(.op .ix [(.var 1),(.var 5)]),(.op .sub [(.var 6),(.cst (.int (1)))])]),(.var 3)])) [.mut 4 [] .append [(.op .tup [(.op .ix [(.op .ix [(.var 1),(.var 5)]),(.op .sub [(.var 6),(.cst (.int (1)))])]),(.var 5)])]] []],
  .ret (.var 4)]⟩
noncomputable def lH:Fn:=⟨2,[],5,[],[
  .ex (.call 35 [(.var 0),(.var 1)]),
  .ex (.call 36 [(.var 0),(.var 1)]),
  .set 2 (.op .lst []),
  .set 3 (.call 24 [(.var 1)]),
  .whl (.op .gt [(.op .len [(.var 3)]),(.cst (.int (0)))]) [.set 4 (.comp [none,none,(some 3),(some 1),(some 0)] (.one 1) .seq [(.var 3)] [(.op .eq [(.op .len [(.call 37 [(.var 4),(.var 3),(.var 1),(.var 2)])]),(.cst (.int (0)))])] (.var 1)),.iff (.op .eq [(.op .len [(.var 4)]),(.cst (.int (0)))]) [.ret (.op .tup [(.cst (.str "ring")),.bad])] [],.mut 2 [] .append [(.op .ix [(.var 4),(.cst (.int (0)))])],.mut 3 [] .remove [(.op .ix [(.var 4),(.cst (.int (0)))])]],
  .retP "order" 2]⟩
noncomputable def ny:Fn:=⟨5,[],9,[],[
  .fo (.one 5) .seq [(.meth 13 (.var 0) [(.var 4)])] [.set 6 (.op .ix [(.var 1),(.var 5)]),.set 7 (.op .index [(.var 6),(.var 4)]),.iff (.op .ne [(.op .slH [(.var 6),(.op .add [(.var 7),(.cst (.int (1)))])]),(.op .slH [(.op .ix [(.var 2),(.var 5)]),(.op .add [(.var 7),(.cst (.int (1)))])])]) [.ret (.op .tup [(.var 5),(.cst .non)])] [],.fo (.one 8) .seq [(.op .slH [(.var 6),(.var 7)])] [.iff (.op .nin [(.var 8),(.var 3)]) [.ret (.op .tup [(.var 5),(.var 8)])] []]],
  .ret (.cst .non)]⟩
noncomputable def tS:Fn:=⟨3,[],5,[],[
  .set 3 (.op .lst []),
  .fo (.one 4) .seq [(.op .ix [(.call 39 [(.var 0),(.var 1)]),(.cst (.int (1)))])] [.iff (.op .isN [(.call 45 [(.var 0),(.var 1),(.var 2),(.var 3),(.var 4)])]) [.mut 3 [] .append [(.var 4)]] []],
  .ret (.var 3)]⟩
noncomputable def qC:Fn:=⟨3,[],7,[],[
  .set 3 (.op .lst []),
  .fo (.many [4,5]) .enum [(.var 1)] [.fo (.one 6) .seq [(.call 46 [(.var 0),(.var 5),(.op .ix [(.var 2),(.var 4)])])] [.mut 3 [] .append [(.op .tup [(.var 4),(.var 6)])]]],
  .ret (.op .srt [(.var 3)])]⟩
noncomputable def oP:Fn:=⟨3,[],7,[],[
  .set 3 (.op .lst []),
  .fo (.many [4,5]) .enum [(.var 1)] [.fo (.one 6) .seq [(.op .ix [(.call 39 [(.var 0),(.var 5)]),(.cst (.int (1)))])] [.iff (.op .nin [(.op .tup [(.var 4),(.var 6)]),(.var 2)]) [.mut 3 [] .append [(.op .tup [(.var 4),(.var 6)])]] []]],
  .ret (.var 3)]⟩
noncomputable def kg:Fn:=⟨3,[],7,[],[
  .set 3 (.call 47 [(.var 0),(.var 1),(.var 2)]),
  .set 4 (.op .lst []),
  .fo (.many [5,6]) .rev [(.call 49 [(.var 0),(.var 1),(.var 3)])] [.mut 4 [] .append [(.op .tup [(.var 5),(.cst (.str "off")),(.var 6)])]],
  .fo (.many [5,6]) .seq [(.call 49 [(.var 0),(.var 2),(.var 3)])] [.mut 4 [] .append [(.op .tup [(.var 5),(.cst (.str "on")),(.var 6)])]],
  .ret (.var 4)]⟩
noncomputable def sg:Fn:=⟨2,[],3,[],[
  .set 2 (.op .ix [(.var 0),(.op .ix [(.var 1),(.cst (.int (2)))])]),
  .ret (.ite (.op .eq [(.op .ix [(.var 1),(.cst (.int (1)))]),(.cst (.str "on"))]) (.op .ix [(.var 2),(.cst (.int (0)))]) (.op .ix [(.var 2),(.cst (.int (1)))]))]⟩
noncomputable def kU:Fn:=⟨2,[],2,[],[
  .ret (.op .sum [(.comp [none,none,(some 0)] (.one 1) .seq [(.var 1)] [] (.call 51 [(.var 2),(.var 1)]))])]⟩
noncomputable def oG:Fn:=⟨4,[],4,[],[
  .ret (.call 52 [(.var 1),(.call 50 [(.var 0),(.var 2),(.var 3)])])]⟩
noncomputable def eI:Fn:=⟨2,[],2,[],[
  .iff (.op .lt [(.var 1),(.op .len [(.var 0)])]) [.ret (.op .ix [(.var 0),(.var 1)])] [],
  .ret (.cst (.int (0)))]⟩
noncomputable def gK:Fn:=⟨3,[],6,[],[
  .iff (.op .gt [(.var 0),(.op .pow [(.cst (.int (10))),(.cst (.int (9)))])]) [.set 3 (.op .fdiv [(.var 0),(.cst (.int (1000)))]),.fo (.one 4) .rng1 [(.op .mod [(.var 1),(.cst (.int (9)))])] [.set 3 (.op .fdiv [(.var 3),(.cst (.int (1000)))])],.ret (.op .mod [(.op .mod [(.var 3),(.cst (.int (1000)))]),(.var 2)])] [],
  .set 5 (.op .add [(.op .add [(.op .mod [(.var 0),(.cst (.int (1000003)))]),(.op .mul [(.cst (.int (31))),(.var 1)])]),(.cst (.int (1)))]),
  .ret (.op .mod [(.op .fdiv [(.op .mod [(.op .add [(.op .add [(.op .mul [(.var 5),(.var 5)]),(.op .mul [(.cst (.int (65537))),(.var 5)])]),(.op .mul [(.cst (.int (977))),(.var 1)])]),(.cst (.int (999983)))]),(.cst (.int (3)))]),(.var 2)])]⟩
noncomputable def lG:Fn:=⟨1,[],1,[],[
  .ret (.and (.op (.isi [.int]) [(.var 0)]) (.op .not [(.op (.isi [.bool]) [(.var 0)])]))]⟩
noncomputable def oJ:Fn:=⟨2,[],7,[],[
  .set 2 (.op .lst []),
  .fo (.one 3) .rng1 [(.op .mod [(.call 98 [(.var 0),(.cst (.int (1)))]),(.cst (.int (7)))])] [.set 4 (.call 98 [(.var 0),(.op .add [(.cst (.int (2))),(.var 3)])]),.set 5 (.op .add [(.cst (.int (1))),(.call 71 [(.var 4),(.cst (.int (1))),(.op .ix [(.op .lst [(.cst (.int (1))),(.cst (.int (3))),(.cst (.int (7))),(.cst (.int (15))),(.cst (.int (31))),(.cst (.int (63)))]),(.op .sub [(.var 1),(.cst (.int (1)))])])])]),.set 6 (.comp [none,none,(some 5)] (.one 1) .rng1 [(.var 1)] [(.op .eq [(.op .mod [(.op .fdiv [(.var 2),(.op .ix [(.op .lst [(.cst (.int (1))),(.cst (.int (2))),(.cst (.int (4))),(.cst (.int (8))),(.cst (.int (16))),(.cst (.int (32)))]),(.var 1)])]),(.cst (.int (2)))]),(.cst (.int (1)))])] (.var 1)),.iff (.op .eq [(.call 71 [(.var 4),(.cst (.int (2))),(.cst (.int (2)))]),(.cst (.int (1)))]) [.set 6 (.op .slH [(.op .slL [(.var 6),(.call 71 [(.var 4),(.cst (.int (3))),(.op .len [(.var 6)])])]),(.cst (.int (1)))])] [],.mut 2 [] .append [(.var 6)]],
  .ret (.var 2)]⟩
noncomputable def nE:Fn:=⟨2,[],3,[],[
  .fo (.one 2) .rng1 [(.op .len [(.var 0)])] [.iff (.op .any [(.comp [none,none,(some 1)] (.one 1) .seq [(.op .ix [(.var 0),(.var 2)])] [] (.op .isin [(.var 2),(.var 1)]))]) [.ret (.var 2)] []],
  .ret (.cst .non)]⟩
noncomputable def pI:Fn:=⟨3,[],5,[],[
  .iff (.op .eq [(.op .len [(.var 2)]),(.cst (.int (0)))]) [.ret (.cst .non)] [],
  .set 3 (.call 71 [(.var 0),(.cst (.int (21))),(.op .len [(.var 2)])]),
  .set 4 (.call 115 [(.var 1),(.var 3)]),
  .iff (.op .isN [(.var 4)]) [.ret (.op .tup [(.call 71 [(.var 0),(.cst (.int (22))),(.op .len [(.var 1)])]),(.cst (.str "on")),(.var 3)])] [],
  .iff (.op .all [(.comp [none,none,(some 3),(some 4),(some 1)] (.one 1) .seq [(.op .ix [(.var 2),(.var 3)])] [] (.op .eq [(.op .ix [(.op .ix [(.op .ix [(.var 4),(.var 3)]),(.var 1)]),(.op .neg [(.cst (.int (1)))])]),(.var 2)]))]) [.ret (.op .tup [(.var 4),(.cst (.str "off")),(.var 3)])] [],
  .ret (.cst .non)]⟩
noncomputable def pA:Fn:=⟨3,[],9,[],[
  .setT [3,4,5] (.var 1),
  .set 6 (.op .lst []),
  .fo (.one 7) .rng1 [(.op .len [(.op .ix [(.var 0),(.var 3)])])] [.set 8 (.op .ix [(.op .ix [(.var 0),(.var 3)]),(.var 7)]),.iff (.op .isin [(.var 7),(.op .ix [(.var 2),(.var 5)])]) [.set 8 (.op .ix [(.op .lst [(.op .slH [(.var 8),(.op .neg [(.cst (.int (1)))])]),(.op .add [(.var 8),(.op .tup [(.var 5)])])]),(.op .toInt [(.op .eq [(.var 4),(.cst (.str "on"))])])])] [],.mut 6 [] .append [(.var 8)]],
  .ret (.op .add [(.op .add [(.op .slH [(.var 0),(.var 3)]),(.op .tup [(.op .tuple [(.var 6)])])]),(.op .slL [(.var 0),(.op .add [(.var 3),(.cst (.int (1)))])])])]⟩
noncomputable def mD:Fn:=⟨3,[],6,[],[
  .set 3 (.op .lst []),
  .fo (.one 4) .seq [(.var 0)] [.set 5 (.call 116 [(.var 4),(.var 1),(.var 2)]),.iff (.op .notN [(.var 5)]) [.mut 3 [] .append [(.var 5)],.set 1 (.call 117 [(.var 1),(.var 5),(.var 2)])] []],
  .ret (.op .tup [(.var 3),(.var 1)])]⟩
noncomputable def pU:Fn:=⟨5,[],7,[],[
  .set 5 (.op .ix [(.op .ix [(.var 0),(.var 2)]),(.var 4)]),
  .set 6 (.op .add [(.op .index [(.var 5),(.var 3)]),(.cst (.int (1)))]),
  .ret (.op .eq [(.op .slH [(.var 5),(.var 6)]),(.op .slH [(.op .ix [(.op .ix [(.var 1),(.var 2)]),(.var 4)]),(.var 6)])])]⟩
noncomputable def mX:Fn:=⟨2,[],5,[],[
  .set 2 (.op .lst []),
  .fo (.one 3) .rng1 [(.op .len [(.var 0)])] [.fo (.one 4) .rng1 [(.op .len [(.var 1)])] [.iff (.op .isin [(.var 4),(.op .ix [(.op .ix [(.var 0),(.var 3)]),(.op .ix [(.op .ix [(.var 1),(.var 4)]),(.cst (.int (0)))])])]) [.mut 2 [] .append [(.op .tup [(.var 3),(.var 4)])]] []]],
  .ret (.var 2)]⟩
noncomputable def pO:Fn:=⟨4,[],7,[],[
  .set 4 (.op .lst []),
  .fo (.one 5) .seq [(.op .ix [(.var 1),(.var 3)])] [.set 6 (.op .ix [(.op .ix [(.var 0),(.var 2)]),(.var 5)]),.set 4 (.op .add [(.var 4),(.comp [none,none,(some 2)] (.one 1) .seq [(.op .slH [(.var 6),(.op .index [(.var 6),(.var 3)])])] [] (.op .tup [(.var 2),(.var 1)]))])],
  .ret (.var 4)]⟩
noncomputable def sN:Fn:=⟨3,[],7,[],[
  .set 3 (.op .lst []),
  .fo (.many [4,5]) .seq [(.call 124 [(.var 0),(.var 2)])] [.iff (.op .all [(.comp [none,none,(some 5),(some 0),(some 1),(some 4)] (.one 1) .seq [(.op .ix [(.var 2),(.var 5)])] [] (.call 123 [(.var 3),(.var 4),(.var 5),(.var 2),(.var 1)]))]) [.mut 3 [] .append [(.op .tup [(.var 4),(.var 5)])]] []],
  .fo (.one 6) .rng1 [(.cst (.int (6)))] [.set 3 (.comp [none,none,(some 2),(some 3),(some 0)] (.one 1) .seq [(.var 3)] [(.op .all [(.comp [none,none,(some 3)] (.one 1) .seq [(.call 130 [(.var 4),(.var 2),(.op .ix [(.var 1),(.cst (.int (0)))]),(.op .ix [(.var 1),(.cst (.int (1)))])])] [] (.op .isin [(.var 1),(.var 2)]))])] (.var 1))],
  .ret (.var 3)]⟩
noncomputable def rc:Fn:=⟨3,[],6,[],[
  .iff (.or (.op .not [(.op (.isi [.tuple]) [(.var 1)])]) (.or (.op .ne [(.op .len [(.var 1)]),(.cst (.int (3)))]) (.or (.op .not [(.call 73 [(.op .ix [(.var 1),(.cst (.int (0)))])])]) (.op .not [(.call 73 [(.op .ix [(.var 1),(.cst (.int (2)))])])])))) [.ret (.cst (.bl false))] [],
  .setT [3,4,5] (.var 1),
  .iff (.or (.op .not [(.chain .le .lt (.cst (.int (0))) (.var 3) (.op .len [(.var 0)]))]) (.or (.op .not [(.chain .le .lt (.cst (.int (0))) (.var 5) (.op .len [(.var 2)]))]) (.op .nin [(.var 4),(.op .lst [(.cst (.str "on")),(.cst (.str "off"))])]))) [.ret (.cst (.bl false))] [],
  .iff (.op .eq [(.var 4),(.cst (.str "on"))]) [.ret (.op .isN [(.call 115 [(.var 0),(.var 5)])])] [],
  .iff (.op .ne [(.call 115 [(.var 0),(.var 5)]),(.var 3)]) [.ret (.cst (.bl false))] [],
  .ret (.op .all [(.comp [none,none,(some 5),(some 3),(some 0)] (.one 1) .seq [(.op .ix [(.var 2),(.var 5)])] [] (.op .eq [(.op .ix [(.op .ix [(.op .ix [(.var 4),(.var 3)]),(.var 1)]),(.op .neg [(.cst (.int (1)))])]),(.var 2)]))])]⟩
noncomputable def qQ:Fn:=⟨4,[],6,[],[
  .set 4 (.var 1),
  .fo (.one 5) .seq [(.var 0)] [.iff (.op .not [(.call 132 [(.var 4),(.var 5),(.var 3)])]) [.ret (.cst (.bl false))] [],.set 4 (.call 117 [(.var 4),(.var 5),(.var 3)])],
  .ret (.op .eq [(.var 4),(.var 2)])]⟩
noncomputable def o4:Fn:=⟨2,[],5,[],[
  .set 2 (.op .lst []),
  .fo (.one 3) .rng1 [(.op .len [(.var 1)])] [.set 4 (.call 98 [(.var 0),(.op .add [(.cst (.int (2))),(.var 3)])]),.iff (.op .gt [(.var 4),(.op .pow [(.cst (.int (10))),(.cst (.int (40)))])]) [.mut 2 [] .append [(.op .tup [(.op .mod [(.op .fdiv [(.var 4),(.op .pow [(.cst (.int (10))),(.cst (.int (40)))])]),(.op .add [(.op .pow [(.cst (.int (10))),(.cst (.int (6)))]),(.cst (.int (1)))])]),(.op .mod [(.op .fdiv [(.var 4),(.op .pow [(.cst (.int (10))),(.cst (.int (47)))])]),(.op .add [(.op .pow [(.cst (.int (10))),(.cst (.int (6)))]),(.cst (.int (1)))])])])]] [.mut 2 [] .append [(.op .tup [(.op .mod [(.op .mul [(.var 4),(.cst (.int (48271)))]),(.op .add [(.op .pow [(.cst (.int (10))),(.cst (.int (6)))]),(.cst (.int (1)))])]),(.op .mod [(.op .mul [(.var 4),(.cst (.int (69621)))]),(.op .ix [(.op .lst [(.cst (.int (3))),(.op .add [(.op .pow [(.cst (.int (10))),(.cst (.int (6)))]),(.cst (.int (1)))])]),(.op .mod [(.var 4),(.cst (.int (2)))])])])])]]],
  .ret (.var 2)]⟩
noncomputable def p9:Fn:=⟨5,[],13,[],[
  .set 5 (.call 50 [(.var 0),(.var 1),(.var 2)]),
  .set 6 (.call 131 [(.var 1),(.var 2),(.var 3)]),
  .set 7 (.comp [none,none,none,(some 6)] (.many [1,2]) .seq [(.call 124 [(.var 1),(.var 3)])] [(.op .nin [(.op .tup [(.var 1),(.var 2)]),(.var 3)])] (.op .tup [(.var 1),(.cst (.str "off")),(.var 2)])),
  .set 8 (.comp [none,none,none,(some 6)] (.many [1,2]) .seq [(.call 124 [(.var 2),(.var 3)])] [(.op .nin [(.op .tup [(.var 1),(.var 2)]),(.var 3)])] (.op .tup [(.var 1),(.cst (.str "on")),(.var 2)])),
  .iff (.or (.op .not [(.op (.isi [.list]) [(.var 5)])]) (.op .not [(.call 133 [(.var 5),(.var 1),(.var 2),(.var 3)])])) [.ret (.cst (.bl false))] [],
  .iff (.or (.op .ne [(.op .srt [(.op .slH [(.var 5),(.op .len [(.var 7)])])]),(.var 7)]) (.op .ne [(.op .srt [(.op .slL [(.var 5),(.op .len [(.var 7)])])]),(.var 8)])) [.ret (.cst (.bl false))] [],
  .set 9 (.op .add [(.op .sum [(.comp [none,none,(some 4)] (.one 1) .seq [(.var 7)] [] (.op .ix [(.op .ix [(.var 2),(.op .ix [(.var 1),(.cst (.int (2)))])]),(.cst (.int (1)))]))]),(.op .sum [(.comp [none,none,(some 4)] (.one 1) .seq [(.var 8)] [] (.op .ix [(.op .ix [(.var 2),(.op .ix [(.var 1),(.cst (.int (2)))])]),(.cst (.int (0)))]))])]),
  .set 10 (.op .lst [(.op .list [(.var 4)]),(.op .list [(.var 5)])]),
  .set 11 (.op .lst [(.call 52 [(.op .ix [(.var 10),(.cst (.int (0)))]),(.op .ix [(.var 10),(.cst (.int (1)))])]),(.call 53 [(.var 0),(.op .ix [(.var 10),(.cst (.int (0)))]),(.var 1),(.var 2)])]),
  .set 12 (.call 52 [(.op .ix [(.var 10),(.cst (.int (0)))]),(.op .add [(.var 5),(.var 5)])]),
  .iff (.or (.op .ne [(.var 10),(.op .lst [(.var 4),(.var 5)])]) (.or (.op .not [(.call 73 [(.var 12)])]) (.op .ne [(.var 12),(.op .mul [(.cst (.int (2))),(.var 9)])]))) [.ret (.cst (.bl false))] [],
  .mut 5 [] .append [(.op .tup [(.cst (.int (0))),(.cst (.str "on")),(.cst (.int (0)))])],
  .ret (.op .all [(.comp [none,none,(some 9)] (.one 1) .seq [(.var 11)] [] (.and (.call 73 [(.var 1)]) (.op .eq [(.var 1),(.var 2)])))])]⟩
noncomputable def oE:Fn:=⟨3,[],3,[],[
  .ret (.op .tuple [(.comp [none,none,(some 0),(some 2)] (.one 1) .rng1 [(.var 1)] [] (.op .tuple [(.comp [none,none,(some 2),(some 1)] (.one 1) .seq [(.var 3)] [(.op .isin [(.var 3),(.op .ix [(.var 2),(.var 1)])])] (.var 1))]))])]⟩
noncomputable def lu:Fn:=⟨2,[],12,[],[
  .set 2 (.op .add [(.cst (.int (4))),(.op .mod [(.call 98 [(.var 0),(.cst (.int (2)))]),(.cst (.int (3)))])]),
  .set 3 (.op .add [(.op .lst [(.op .lst [(.cst (.int (0)))])]),(.comp [none,none] (.one 1) .rng2 [(.cst (.int (1))),(.var 2)] [] (.op .lst [(.op .sub [(.var 1),(.cst (.int (1)))]),(.var 1)]))]),
  .set 4 (.op .lrng [(.var 2)]),
  .iff (.op .eq [(.op .mod [(.call 98 [(.var 0),(.cst (.int (3)))]),(.cst (.int (3)))]),(.cst (.int (1)))]) [.set 4 (.op .rev [(.var 4)])] [],
  .set 5 (.call 98 [(.var 0),(.cst (.int (4)))]),
  .set 6 (.op .mod [(.op .fdiv [(.var 5),(.cst (.int (3)))]),(.op .sub [(.var 2),(.cst (.int (1)))])]),
  .set 7 (.op .add [(.op .add [(.op .slH [(.var 4),(.var 6)]),(.op .lst [(.op .ix [(.var 4),(.op .add [(.var 6),(.cst (.int (1)))])]),(.op .ix [(.var 4),(.var 6)])])]),(.op .slL [(.var 4),(.op .add [(.var 6),(.cst (.int (2)))])])]),
  .iff (.op .lt [(.op .mod [(.var 5),(.cst (.int (3)))]),(.cst (.int (2)))]) [.set 7 (.op .add [(.op .slH [(.var 4),(.op .mod [(.var 5),(.cst (.int (3)))])]),(.op .slL [(.var 4),(.op .add [(.op .mod [(.var 5),(.cst (.int (3)))]),(.cst (.int (1)))])])])] [],
  .set 8 (.op .mod [(.call 98 [(.var 0),(.cst (.int (5)))]),(.var 1)]),
  .set 9 (.op .lst []),
  .fo (.one 10) .seq [(.op .lst [(.op .lst []),(.var 4),(.var 7)])] [.set 11 (.op .mul [(.op .lst [(.op .lst [])]),(.var 1)]),.put 11 [] (.var 8) (.var 10),.mut 9 [] .append [(.op .tuple [(.comp [none,none,(some 3),(some 2)] (.one 1) .seq [(.var 11)] [] (.call 127 [(.var 2),(.var 3),(.var 1)]))])]],
  .ret (.op .tup [(.var 3),(.var 2),(.var 9)])]⟩
noncomputable def oQ:Fn:=⟨1,[],8,[],[
  .set 1 (.op .add [(.cst (.int (1))),(.op .mod [(.call 98 [(.var 0),(.cst (.int (0)))]),(.cst (.int (6)))])]),
  .set 2 (.op .add [(.cst (.int (1))),(.op .mod [(.call 98 [(.var 0),(.cst (.int (8)))]),(.cst (.int (3)))])]),
  .iff (.op .eq [(.op .mod [(.op .fdiv [(.call 98 [(.var 0),(.cst (.int (0)))]),(.cst (.int (6)))]),(.cst (.int (3)))]),(.cst (.int (1)))]) [.ret (.call 128 [(.var 0),(.var 2)])] [],
  .set 3 (.call 99 [(.var 0),(.var 1)]),
  .set 4 (.op .mul [(.op .tup [(.op .mul [(.op .tup [(.op .tup [])]),(.var 1)])]),(.var 2)]),
  .set 5 (.op .add [(.cst (.int (9))),(.call 71 [(.call 98 [(.var 0),(.cst (.int (0)))]),(.cst (.int (34))),(.op .max2 [(.cst (.int (1))),(.op .sub [(.op .len [(.var 0)]),(.cst (.int (9)))])])])]),
  .set 6 (.op .ix [(.call 118 [(.op .slH [(.sl2 (.var 0) (.cst (.int (9))) (.cst (.int (63)))),(.op .sub [(.var 5),(.cst (.int (9)))])]),(.var 4),(.var 3)]),(.cst (.int (1)))]),
  .set 7 (.op .ix [(.call 118 [(.sl2 (.var 0) (.var 5) (.cst (.int (63)))),(.op .ix [(.op .lst [(.var 6),(.var 6),(.var 4)]),(.op .mod [(.op .fdiv [(.call 98 [(.var 0),(.cst (.int (8)))]),(.cst (.int (3)))]),(.cst (.int (3)))])]),(.var 3)]),(.cst (.int (1)))]),
  .ret (.op .tup [(.var 3),(.var 1),(.op .lst [(.var 4),(.var 6),(.var 7)])])]⟩
noncomputable def qX:Fn:=⟨1,[],11,[],[
  .setT [1,2,3] (.call 129 [(.var 0)]),
  .set 4 (.make 17 [(.var 2),(.comp [none,none] (.one 1) .seq [(.var 1)] [] (.op .list [(.var 1)]))]),
  .setT [5,6,7] (.var 3),
  .set 8 (.call 134 [(.var 0),(.var 1)]),
  .fo (.many [9,10]) .seq [(.op .lst [(.op .tup [(.var 6),(.var 7)]),(.op .tup [(.var 7),(.var 6)]),(.op .tup [(.var 6),(.var 6)]),(.op .tup [(.var 5),(.var 7)]),(.op .tup [(.var 6),(.var 7)])])] [.iff (.op .not [(.call 113 [(.var 4),(.var 9),(.var 10),(.var 1),(.var 8)])]) [.ret (.cst (.bl false))] []],
  .ret (.and (.op .eq [(.call 50 [(.var 4),(.var 6),(.var 6)]),(.op .lst [])]) (.op .eq [(.call 52 [(.var 8),(.op .lst [])]),(.cst (.int (0)))]))]⟩
noncomputable def k7:Fn:=⟨3,[0],5,[],[
  .iff (.or (.op .not [(.call 0 [(.var 1)])]) (.op .not [(.chain .le .le (.cst (.int (1))) (.var 1) (.cst (.int (6))))])) [.bad] [],
  .iff (.op .gt [(.op .len [(.var 2)]),(.cst (.int (6)))]) [.bad] [],
  .fo (.many [3,4]) .enum [(.var 2)] [.iff (.op .not [(.call 16 [(.var 4),(.var 1)])]) [.bad] []],
  .sfld 0 9 (.var 1),
  .sfld 0 10 (.comp [none,none] (.one 1) .seq [(.var 2)] [] (.op .tuple [(.var 1)]))]⟩
noncomputable def jA:Fn:=⟨1,[],1,[],[
  .ret (.op .len [(.op (.fld 10) [(.var 0)])])]⟩
noncomputable def hX:Fn:=⟨2,[],2,[],[
  .ex (.call 17 [(.var 0),(.var 1)]),
  .ret (.op .list [(.op .ix [(.op (.fld 10) [(.var 0)]),(.var 1)])])]⟩
noncomputable def fnL_k24:List (Nat×Fn):=[(0,kG),(1,jY),(15,om),(16,ly),(17,oF),(24,kF),(34,oA),(35,oK),(36,oO),(37,nG),(39,lH),(45,ny),(46,tS),(47,qC),(49,oP),(50,kg),(51,sg),(52,kU),(53,oG),(98,eI),(71,gK),(73,lG),(99,oJ),(115,nE),(116,pI),(117,pA),(118,mD),(123,pU),(124,mX),(130,pO),(131,sN),(132,rc),(133,qQ),(134,o4),(113,p9),(127,oE),(128,lu),(129,oQ),(69,qX),(18,k7),(20,jA),(21,hX)]
noncomputable def clL_k24:List (Nat×Cl):=[(17,⟨(some 18),[(12,20),(13,21)],[],false⟩)]
noncomputable def G_k24:Pg where
 fn:=λi=>fnL_k24.lookup i
 cl:=λi=>clL_k24.lookup i
def gN {α:Type}{e:α->D}{f:D->R az}{g:α->KD}{xs:List α}(h:∀x∈xs,f (e x)=.ok (some (g x))):aW f (xs.map e)=.ok (xs.map g):=by
 induction xs with
 | nil=>rfl
 | cons x xs ih=>rw[HQ,aW,h x IF,R.bind,ih λy hy=>h y (IP _ hy)]; rfl
def ml {α:Type}{e:α->D}{f:D->R az}{p:α->Bool}{g:α->KD}{xs:List α}(h:∀x∈xs,f (e x)=.ok (if p x then some (g x) else none)):aW f (xs.map e)=.ok ((xs.filter p).map g):=by
 induction xs with
 | nil=>rfl
 | cons x xs ih=>
  rw[HQ,aW,h x IF,R.bind,ih λy hy=>h y (IP _ hy)];by_cases q:p x=true
  .simp[q]
  .simp[q]
@[simp] theorem m8 (p:α->Bool):∀xs:List α,allB (xs.map λx=>.bl (p x))=some (xs.all p)
 | []=>rfl
 | x::xs=>by rw[HQ,allB,m8 p xs]; rfl
@[simp] theorem ya (p:α->Bool):∀xs:List α,anyB (xs.map λx=>.bl (p x))=some (xs.any p)
 | []=>rfl
 | x::xs=>by rw[HQ,anyB,ya p xs]; rfl
@[simp] theorem uO:∀xs:am,cw (xs.map .int)=some xs
 | []=>rfl
 | x::xs=>by rw[HQ,cw,uO xs]; rfl
@[simp] theorem CP:∀xs:am,D.flats (xs.map .int)=true
 | []=>by simp
 | x::xs=>by simp[CP xs]
@[simp] theorem D1:∀xs ys:am,D.eqs (xs.map .int) (ys.map .int)=decide (xs=ys)
 | [],[]=>by simp[D.eqs]
 | [],_::_=>by simp[D.eqs]
 | _::_,[]=>by simp[D.eqs]
 | x::xs,y::ys=>by simp[D.eqs,D.eq,D1 xs ys]
def uu (h:∀x∈xs,x.2.flat=true):aZ xs=98:=by
 have:xs.find? (λx=>!x.2.flat)=none:=by
  rw[List.find?_eq_none];intro x hx;simp[h x hx]
 rw[aZ,this]
@[simp] theorem flat_int (i:Int):(D.int i).flat=true:=rfl
@[simp] theorem joinK_int (k:Nat)(i:Int)(xs:aw):aZ ((k,.int i)::xs)=aZ xs:=oi rfl
@[simp] theorem joinK_bl (k:Nat)(i:Bool)(xs:aw):aZ ((k,.bl i)::xs)=aZ xs:=oi rfl
@[simp] theorem joinK_non (k:Nat)(xs:aw):aZ ((k,.non)::xs)=aZ xs:=oi rfl
@[simp] theorem joinK_str (k:Nat)(i:Str)(xs:aw):aZ ((k,.str i)::xs)=aZ xs:=oi rfl
@[simp] theorem yW (k:Nat)(i:Int):D.fb k (.int i)=true:=by cases k <;> rfl
@[simp] theorem fb_bl (k:Nat)(i:Bool):D.fb k (.bl i)=true:=by cases k <;> rfl
@[simp] theorem fb_non (k:Nat):D.fb k .non=true:=by cases k <;> rfl
@[simp] theorem fb_str (k:Nat)(i:Str):D.fb k (.str i)=true:=by cases k <;> rfl
def kY (xs:List α)(k:Nat):cutD xs none (some (k:Int))=xs.take k:=by
 simp only[cutD,dP];simp
def nN (xs:List α)(k:Nat):cutD xs (some (k:Int)) none=xs.drop k:=by
 simp only[cutD,dP];by_cases h:k<=xs.length
 .skip
  simp only[if_pos (Ke k),Int.toNat_natCast,Nat.min_eq_left h];exact Jm (by simp)
 .have h':xs.length<=k:=by omega
  simp[Nat.min_eq_right h',List.drop_of_length_le h']
@[simp] theorem wk_seq (k:Nat)(x:D):cV .seq [(k,x)]=x.seq:=rfl
@[simp] theorem wk_enum (k:Nat)(xs:ax):cV .enum [(k,.lst xs)]=some (xs.mapIdx λn d=>.tup [.int n,d]):=rfl
@[simp] theorem wk_zip (k k':Nat)(xs ys:ax):cV .zip [(k,.lst xs),(k',.lst ys)]=some ((xs.zip ys).map λp=>.tup [p.1,p.2]):=rfl
def wk_rng1 (h:p<=SL):cV .rng1 [(k,.int p)]=some ((List.range p).map λ(n:Nat)=>.int n):=by
 have h2:p<=1000000:=h;have:cn (p:Int)=true:=dA.mpr (by omega);show (if cn (p:Int)=true then _ else none)=_;rw[if_pos this];rfl
def wk_rng2 (hi : -1000000<=i/\i<=1000000)(hj : -1000000<=j/\j<=1000000):cV .rng2 [(k,.int i),(k',.int j)]=some ((List.range (j - i).toNat).map λ(n:Nat)=>.int (i+n)):=by
 have h1:cn i=true:=dA.mpr (by omega);have h2:cn j=true:=dA.mpr (by omega);show (if cn i=true/\cn j=true then _ else none)=_;rw[if_pos ⟨h1,h2⟩]
def Dq (h:0<n):dB n (-1)=some (n - 1):=by
 have h1:¬(0:Int) <= -1:=by decide
 have h2 : -(n:Int) <= -1:=by omega
 simp only[dB,h1,if_false,h2,if_true];congr 1
 omega
theorem yo {body:D->Fr->O}{I:Fr->Prop}:∀{xs:ax} {A:Fr},I A->(∀x∈xs,∀A,I A->∃A',body x A=.nx A'/\I A')->∃A',bI body xs A=.nx A'/\I A'
 | [],A,h,_=>⟨A,rfl,h⟩
 | x::xs,A,h,k=>by
  obtain⟨A1,e1,h1⟩:=k x bN A h;obtain⟨A2,e2,h2⟩:=yo (xs:=xs) h1 λy hy=>k y (bM _ hy);exact⟨A2,by rw[bI,e1]; exact e2,h2⟩
noncomputable abbrev o0 (d:D):az:=some (0,d)
def RelK:az->az->Prop
 | none,none=>True
 | some x,some y=>x.2=y.2/\y.1<=x.1
 | _,_=>False
inductive RelF:Fr->Fr->Prop
 | nil:RelF [] []
 | cons {x y:az} {A a:Fr} (h:RelK x y) (t:RelF A a):RelF (x::A) (y::a)
theorem RelK.refl:∀x:az,RelK x x
 | none=>trivial
 | some _=>⟨rfl,bC _⟩
theorem RelF.refl:∀A:Fr,RelF A A
 | []=>.nil
 | x::A=>.cons (.refl x) (.refl A)
theorem RelF.sl (h:RelF A a):A.sl=a.sl:=by
 induction h with
 | nil=>rfl
 | @cons x y A a h t ih=>
  have:x.map (·.2)=y.map (·.2):=by
   cases x <;> cases y <;> first | rfl | exact h.elim | (simp only[Option.map]; exact congrArg some h.1)
  simp only[Fr.sl,HQ] at ih ⊢;rw[this,ih]
def RelF.len (h:RelF A a):A.length=a.length:=by
 induction h with
 | nil=>rfl
 | cons _ _ ih=>simp[ih]
theorem RelF.set (h:RelF A a)(k:RelK x y):∀i,RelF (A.set i x) (a.set i y):=by
 induction h with
 | nil=>intro i; exact .nil
 | cons q t ih=>
  intro i;cases i with
  | zero=>exact .cons k t
  | succ i=>exact .cons q (ih i)
def RelF.get (h:RelF A a):∀i:Nat,(A[i]? = none/\a[i]? = none)\/∃x y,A[i]? = some x/\a[i]? = some y/\RelK x y:=by
 induction h with
 | nil=>intro i; exact .inl ⟨rfl,rfl⟩
 | @cons x y _ _ q t ih=>
  intro i;cases i with
  | zero=>exact .inr ⟨x,y,rfl,rfl,q⟩
  | succ i=>simpa using ih i
theorem RelF.frz1 (h:RelF A a)(i:Nat):RelF (frz1 A i) (frz1 a i):=by
 simp only[Ip.frz1];rcases h.get i with ⟨e1,e2⟩ | ⟨x,y,e1,e2,q⟩
 .rw[e1,e2]; exact h
 .rw[e1,e2];cases x <;> cases y
  .exact h
  .exact q.elim
  .exact q.elim
  .next x y=>exact h.set (x:=some (0,x.2)) (y:=some (0,y.2)) ⟨q.1,bC _⟩ i
theorem RelF.frz:∀{A a:Fr},RelF A a->RelF (frz ns A) (frz ns a):=by
 induction ns with
 | nil=>exact λh=>h
 | cons n ns ih=>exact λh=>ih (h.frz1 n)
theorem RelF.trans (h:RelF A a)(k:RelF a b):RelF A b:=by
 induction h generalizing b with
 | nil=>exact k
 | @cons x y _ _ q t ih=>
  cases k with
  | @cons _ z _ _ q' t'=>
   refine .cons ?_ (ih t');cases x <;> cases y <;> cases z <;> first | trivial | exact q.elim | exact q'.elim | exact⟨q.1.trans q'.1,bv q'.2 q.2⟩
def RelF.low1 (a:Fr)(i:Nat):RelF a (Ip.frz1 a i):=by
 simp only[Ip.frz1];cases e:a[i]? with
 | none=>exact .refl a
 | some x=>
  cases x with
  | none=>exact .refl a
  | some x=>
   have:a=a.set i (some x):=by
    refine (Ji λj=>?_);rw[K8];by_cases hj:i=j
    .subst hj;have:=(dg e).1;rw[e]; simp[this]
    .simp[hj]
   conv=>lhs; rw[this]
   exact (RelF.refl a).set (x:=some x) (y:=some (0,x.2)) ⟨rfl,ID _⟩ i
def RelF.low (ns:ak):∀a:Fr,RelF a (Ip.frz ns a):=by
 induction ns with
 | nil=>exact .refl
 | cons n ns ih=>exact λa=>(RelF.low1 a n).trans (ih _)
theorem RelF.settle (h:RelF A a)(ns:ak)(x:KD):RelF (settle ns A x) (Ip.frz ns a):=by
 simp only[Ip.settle];split
 .exact h.trans (.low ns a)
 .exact h.frz
def RelF.settleK (h:RelF A a)(ns:ak)(hx:x.2.fb x.1=true):RelF (Ip.settle ns A x) a:=by
 simp only[Ip.settle,hx,if_true]; exact h
section
variable (G:Pg)(cl:Nat->aw->Run)(io:ak)
def Ou (a:Fr)(ss:ay)(N:Fr->Prop)(V:D->Prop):Prop:=∀A,RelF A a->match execs G cl io A ss with
 | .nx A'=>∃a',RelF A' a'/\N a'
 | .ret _ d _=>V d
 | _=>False
variable {G cl io}{a:Fr}{ss:ay}{N:Fr->Prop}{V:D->Prop}
def Ou.nil (h:N a):Ou G cl io a [] N V:=λA r=>by
 simp only[vo]; exact⟨a,r,h⟩
def Ou.low (l:RelF a a')(h:Ou G cl io a' ss N V):Ou G cl io a ss N V:=λA r=>h A (r.trans l)
def Ou.mono (h:Ou G cl io a ss N V)(n:∀a,N a->N' a)(r:∀d,V d->V' d):Ou G cl io a ss N' V':=λA q=>by
 have:=h A q;revert this
 cases execs G cl io A ss with
 | nx A=>exact λ⟨a,h1,h2⟩=>⟨a,h1,n a h2⟩
 | ret k d A=>exact r d
 | _=>exact id
theorem Ou.step (h:∀A,RelF A a->match exec G cl io A s with
  | .nx A'=>∃a',RelF A' a'/\Ou G cl io a' ss N V
  | .ret _ d _=>V d
  | _=>False):Ou G cl io a (s::ss) N V:=λA r=>by
 have:=h A r;simp only[j8];revert this
 cases exec G cl io A s with
 | nx A'=>exact λ⟨a',h1,h2⟩=>h2 A' h1
 | ret k d A=>exact id
 | _=>exact id
def okI (h:(!io.contains i&&Nat.blt i n)=true):io.contains i=false/\i<n:=by
 rw[HF] at h;exact⟨by simpa using h.1,JQ h.2⟩
def qq {io is:ak}{m n:Nat}(h:(m == is.length&&is.all λi=>!io.contains i&&Nat.blt i n)=true):m=is.length/\∀i∈is,io.contains i=false/\i<n:=by
 rw[HF,List.all_eq_true] at h;exact⟨by simpa using h.1,λi hi=>okI (h.2 i hi)⟩
theorem Ou.set (h:eval G cl a.sl e=.ok x)(k:Ou G cl io ((frz e.names a).set i (some (0,x.2))) ss N V)(hi:(!io.contains i&&Nat.blt i a.length)=true:=by rfl):Ou G cl io a (.set i e::ss) N V:=
 .step λA r=>by
  obtain⟨hio,hi⟩:=okI hi;have l:(settle e.names A x).length=a.length:=by
   rw[<-r.len];have:=(r.settle e.names x).len;rw[this,<-(RelF.low e.names a).len,r.len]
  simp only[ls,r.sl,h,R.toO,cY,hio,l,hi,and_self,if_true];exact⟨_,(r.settle e.names x).set (x:=some x) (y:=some (0,x.2)) ⟨rfl,ID _⟩ i,k⟩
def Ou.setE (h:∃j,eval G cl a.sl e=.ok (j,d))(k:Ou G cl io ((frz e.names a).set i (some (0,d))) ss N V)(hi:(!io.contains i&&Nat.blt i a.length)=true:=by rfl):Ou G cl io a (.set i e::ss) N V:=by
 obtain⟨j,h⟩:=h;exact Ou.set h k hi
def Ou.setK (h:eval G cl a.sl e=.ok x)(hx:x.2.fb x.1=true)(k:Ou G cl io (a.set i (some x)) ss N V)(hi:(!io.contains i&&Nat.blt i a.length)=true:=by rfl):Ou G cl io a (.set i e::ss) N V:=
 .step λA r=>by
  obtain⟨hio,hi⟩:=okI hi;have l:(settle e.names A x).length=a.length:=(r.settleK e.names hx).len;simp only[ls,r.sl,h,R.toO,cY,hio,l,hi,and_self,if_true];exact⟨_,(r.settleK e.names hx).set (.refl _) i,k⟩
theorem Ou.ex (h:eval G cl a.sl e=.ok x)(k:Ou G cl io (frz e.names a) ss N V):Ou G cl io a (.ex e::ss) N V:=
 .step λA r=>by
  simp only[rd,r.sl,h,R.toO];exact⟨_,r.settle e.names x,k⟩
theorem Ou.ret (h:eval G cl a.sl e=.ok x)(k:V x.2):Ou G cl io a (.ret e::ss) N V:=
 .step λA r=>by
  rw[nR,r.sl,h];cases e with
  | var i=>
   rw[mF,<-r.sl] at h;rcases r.get i with ⟨e1,e2⟩ | ⟨x',y',e1,e2,q⟩
   .simp[Fr.sl,e1] at h
   .cases x' with
    | none=>simp[Fr.sl,e1] at h
    | some x'=>
     simp[Fr.sl,e1] at h;subst h;rw[uH,e1];exact k
  | _=>exact k
def Ou.retE (h:∃j,eval G cl a.sl e=.ok (j,d))(k:V d):Ou G cl io a (.ret e::ss) N V:=by
 obtain⟨j,h⟩:=h;exact Ou.ret h k
theorem Ou.iff (h:eval G cl a.sl c=.ok (j,.bl b))(k:if b then Ou G cl io a t (λa'=>Ou G cl io a' ss N V) V else Ou G cl io a e (λa'=>Ou G cl io a' ss N V) V):Ou G cl io a (.iff c t e::ss) N V:=
 .step λA r=>by
  simp only[wz,r.sl,h,R.bl,R.bind,R.toO];cases b with
  | true=>exact k A r
  | false=>exact k A r
def Ou.iffT (h:eval G cl a.sl c=.ok (j,.bl true))(k:Ou G cl io a t (λa'=>Ou G cl io a' ss N V) V):Ou G cl io a (.iff c t e::ss) N V:=.iff h k
def Ou.iffF (h:eval G cl a.sl c=.ok (j,.bl false))(k:Ou G cl io a e (λa'=>Ou G cl io a' ss N V) V):Ou G cl io a (.iff c t e::ss) N V:=.iff h k
def Ou.iffN (h:eval G cl a.sl c=.ok (j,.bl false))(k:Ou G cl io a ss N V):Ou G cl io a (.iff c t []::ss) N V:=Ou.iffF h (Ou.nil k)
theorem RelF.setFs:∀{is:ak} {ds:ax} {k:Nat} {A a:Fr},RelF A a->ds.length=is.length->(∀i∈is,io.contains i=false/\i<a.length)->∃A',setFs io is (ds.map λd=>(k,d)) A=.nx A'/\RelF A' (bJ (λd=>(0,d)) is ds a)
 | [],[],_,A,a,r,_,_=>⟨A,rfl,r⟩
 | i::is,d::ds,k,A,a,r,hl,h=>by
  have hi:=h i bN;have hl':i<A.length:=by rw[r.len]; exact hi.2
  obtain⟨A',e,r'⟩:=RelF.setFs (is:=is) (ds:=ds) (k:=k) (r.set (x:=some (k,d)) (y:=some (0,d)) ⟨rfl,ID _⟩ i) (by simpa using hl) λj hj=>⟨(h j (bM _ hj)).1,by simpa using (h j (bM _ hj)).2⟩
  refine⟨A',?_,r'⟩;simp only[HQ,Ip.setFs,cY,hi.1,hl',and_self,if_true,O.seq];exact e
theorem Ou.setT {is:ak}{e:Ex}{j:Nat}{ds:ax}(h:eval G cl a.sl e=.ok (j,.tup ds))(k:Ou G cl io (bJ (λd=>(0,d)) is ds (frz e.names a)) ss N V)(hi:(ds.length == is.length&&is.all λi=>!io.contains i&&Nat.blt i a.length)=true:=by rfl):Ou G cl io a (.setT is e::ss) N V:=
 .step λA r=>by
  obtain⟨hl,hi⟩:=qq hi;obtain⟨A',q1,q2⟩:=RelF.setFs (io:=io) (is:=is) (ds:=ds) (k:=0) (r.settle e.names (j,.tup ds)) hl λi hm=>⟨(hi i hm).1,by rw[<-(RelF.low e.names a).len]; exact (hi i hm).2⟩
  simp only[tf,r.sl,h,R.toO,ft,q1];exact⟨_,q2,k⟩
theorem Ou.fo (I:ax->Fr->Prop)(h:evals G cl a.sl it=.ok vs)(hw:cV wk vs=some xs)(hx:xs.length<=SL)(h0:I xs (frz (wk.fz it) a))
  (step:∀x r a',I (x::r) a'->∃a'',(∀A,RelF A a'->∃A',bT io tg x A=.nx A'/\RelF A' a'')/\Ou G cl io a'' b (I r) V)(k:∀a',I [] a'->Ou G cl io a' ss N V):Ou G cl io a (.fo tg wk it b::ss) N V:=
 .step λA r=>by
  simp only[qM,r.sl,h,R.toO,kR,hw,hx,if_true];have lp:∀(xs:ax) (a':Fr),I xs a'->∀A,RelF A a'->match bI (fN G cl io tg b) xs A with
    | .nx A'=>∃a',RelF A' a'/\Ou G cl io a' ss N V
    | .ret _ d _=>V d
    | _=>False:=by
   intro xs;induction xs with
   | nil=>exact λa' hi A r=>⟨a',r,k a' hi⟩
   | cons x xs ih=>
    intro a' hi A r;obtain⟨a'',hb,hO⟩:=step x xs a' hi;obtain⟨A',e,r'⟩:=hb A r;have:=hO A' r';rw[bI,fN,e];simp only[O.seq];revert this
    cases execs G cl io A' b with
    | nx A2=>exact λ⟨a2,h1,h2⟩=>ih a2 h2 A2 h1
    | ret k d A2=>exact id
    | _=>exact False.elim
  exact lp xs _ h0 _ r.frz
def dS (hi:(!io.contains i&&Nat.blt i a'.length)=true):∀A,RelF A a'->∃A',bT io (.one i) x A=.nx A'/\RelF A' (a'.set i (some (0,x))):=λA r=>by
 obtain⟨hio,hi⟩:=okI hi;have:i<A.length:=by rw[r.len]; exact hi
 simp only[bT,cY,hio,this,and_self,if_true];exact⟨_,rfl,r.set (.refl _) i⟩
def i4 {is:ak}{ds:ax}{a':Fr}(hi:(ds.length == is.length&&is.all λi=>!io.contains i&&Nat.blt i a'.length)=true):∀A,RelF A a'->∃A',bT io (.many is) (.tup ds) A=.nx A'/\RelF A' (bJ (λd=>(0,d)) is ds a'):=λA r=>by
 obtain⟨hl,hi⟩:=qq hi;simp only[bT];exact RelF.setFs r hl hi
end
theorem Ou.run (hf:G.fn f=some F)(hn:vs.length=F.np)(hio:F.io=[])(h:Ou G (run G n) [] (bB F vs) F.body (λ_=>V .non) V):∃k d,Ip.run G (n+1) f vs=.ret k d []/\V d:=by
 rw[Ip.run,hf];simp only[hn,if_true,hio];have:=h _ (.refl _);revert this
 cases execs G (Ip.run G n) [] (bB F vs) F.body with
 | nx A=>exact λ⟨_,_,h⟩=>⟨99,.non,rfl,h⟩
 | ret k d A=>exact λh=>⟨k,d,rfl,h⟩
 | _=>exact False.elim
def Ou.rv (hf:G.fn f=some F)(h:Ou G (Ip.run G n) [] (bB F vs) F.body (λ_=>False) V)(hn:vs.length=F.np:=by rfl)(hio:F.io=[]:=by rfl):∃k d,Ip.run G (n+1) f vs=.ret k d []/\V d:=Ou.run hf hn hio (h.mono (λ_=>False.elim) λ_=>id)
def Ou.rq {G:Pg}{n f:Nat}{F:Fn}{vs:aw}{R:D}(hf:G.fn f=some F)(h:Ou G (Ip.run G n) [] (bB F vs) F.body (λ_=>False) λd=>d=R)(hn:vs.length=F.np:=by rfl)(hio:F.io=[]:=by rfl):∃k,Ip.run G (n+1) f vs=.ret k R []:=by
 obtain⟨k,d,e,rfl⟩:=Ou.rv hf h hn hio;exact⟨k,e⟩
structure Pa (G:Pg):Prop where
 f0:G.fn 0=some kG
 f1:G.fn 1=some jY
 f15:G.fn 15=some om
 f16:G.fn 16=some ly
 f17:G.fn 17=some oF
 f18:G.fn 18=some k7
 f20:G.fn 20=some jA
 f21:G.fn 21=some hX
 c17:G.cl 17=some ⟨(some 18),[(12,20),(13,21)],[],false⟩
variable {G:Pg}(P:Pa G)
include P
noncomputable def isI:D->Bool
 | .int _=>true
 | _=>false
def rX (n:Nat)(k:Nat)(d:D):run G (n+1) 0 [(k,d)]=.ret 99 (.bl (isI d)) []:=by
 rw[run,P.f0];cases d <;> simp[kG,isI]
noncomputable def isB (b:Int):D->Bool
 | .int i=>decide (0<=i)&&decide (i<b)
 | _=>false
def ui (n:Nat)(k k':Nat)(d:D)(b:Int):run G (n+2) 1 [(k,d),(k',.int b)]=.ret 99 (.bl (isB b d)) []:=by
 rw[run,P.f1];cases d with
 | int i=>by_cases h:0<=i <;> simp[jY,P.f0,rX P,kG,isI,isB,h]
 | _=>simp[jY,P.f0,rX P,kG,isI,isB]
omit P in
noncomputable def df (xs:am):Bool:=(xs.zip (xs.drop 1)).all λp=>decide (p.1<p.2)
def FE (n k:Nat)(xs:am)(hl:xs.length<=SL):run G (n+1) 15 [(k,.lst (xs.map .int))]=.ret 99 (.bl (df xs)) []:=by
 rw[run,P.f15];have e:(xs.map D.int).zip (xs.map D.int).tail=(xs.zip xs.tail).map λp=>(.int p.1,.int p.2):=by
  rw[<-List.map_tail,List.zip_map]; rfl
 have c:cutD (xs.map D.int) (some 1) none=(xs.map D.int).drop 1:=nN _ 1;have hl2:xs.length<=SL+1:=by omega
 simp[om,c,e,IW,hl2];rw[gN (g:=λp:Int×Int=>(99,.bl (decide (p.1<p.2))))]
 .simp[IW,Function.comp_def,df]
 .intro x hx;simp[compF]
noncomputable def cvs (xs:am):D:=.lst (xs.map .int)
def Gz (n k k':Nat)(xs:am)(b:Int)(hl:xs.length<=SL) :
  run G (n+3) 16 [(k,.lst (xs.map .int)),(k',.int b)]=.ret 99 (.bl (decide (xs≠[])&&(xs.all λi=>decide (0<=i)&&decide (i<b))&&df xs)) []:=by
 rw[run,P.f16];have c:aW (compF G (run G (n+2)) [none,none,some (.int b)] (.one 1) [] (.call 1 [.var 1,.var 2])) (xs.map .int)=.ok (xs.map λi=>(99,.bl (decide (0<=i)&&decide (i<b)))):=
  gN λi _=>by simp[compF,P.f1,jY,ui P n,isB]
 have q:=FE P (n+1) 0 xs hl;by_cases hx:xs=[]
 .subst hx;simp[ly,D.eq]
 .by_cases h:(xs.all λi=>decide (0<=i)&&decide (i<b))=true
  .simp[ly,D.eq,hx,hl,c,Function.comp_def,h,P.f15,om,q]
  .have h':(xs.all λi=>decide (0<=i)&&decide (i<b))=false:=by simpa using h
   simp[ly,D.eq,hx,hl,c,Function.comp_def,h']
noncomputable def wd (p:Int)(cs:ab):D:=.ins 17 [(9,.int p),(10,.lst (cs.map λc=>.tup (c.map .int)))]
noncomputable def aM (cs:ab):D:=.lst (cs.map λc=>.lst (c.map .int))
noncomputable def good (p:Int)(c:am):Bool:=decide (c≠[])&&(c.all λi=>decide (0<=i)&&decide (i<p))&&df c
def zy (n k k':Nat)(p:Int)(cs:ab)(hp:1<=p/\p<=6)(hn:cs.length<=6)(hc:∀c∈cs,good p c=true)(hl:∀c∈cs,c.length<=SL) :
  run G (n+4) 18 [(1,.ins 17 []),(k,.int p),(k',aM cs)]=.ret 99 .non [(100,wd p cs)]:=by
 rw[run,P.f18];have hw:=rX P (n+2) 0 (.int p);have hS:cs.length<=SL:=bv hn (by decide);have h6:¬((6:Int)<cs.length):=by omega
 have lp:∃A',bI (fN G (run G (n+3)) [0] (.many [3,4]) [.iff (.op .not [(.call 16 [(.var 4),(.var 1)])]) [.bad] []]) ((cs.map λc=>D.lst (c.map .int)).mapIdx λn d=>.tup [.int n,d])
   [some (1,.ins 17 []),some (0,.int p),some (0,aM cs),none,none]=.nx A'/\∃a b,A'=[some (1,.ins 17 []),some (0,.int p),some (0,aM cs),a,b]:=by
  refine yo (I:=λA'=>∃a b,A'=[some (1,.ins 17 []),some (0,.int p),some (0,aM cs),a,b]) ⟨_,_,rfl⟩ ?_;rintro x hx A ⟨a,b,hA⟩;obtain⟨i,d,hi,hd⟩:∃(i:Nat) (c:am),c∈cs/\x=.tup [.int i,.lst (c.map .int)]:=by
   rw[List.mem_mapIdx] at hx;obtain⟨i,hi,e⟩:=hx;rw[List.getElem_map] at e;exact⟨i,_,Ii (by simpa using hi),e.symm⟩
  subst hA hd;have g:=hc d hi;rw[good] at g;have q:=Gz P n 0 0 d p (hl d hi);rw[g] at q;refine⟨_,?_,some (0,.int i),some (0,.lst (d.map .int)),rfl⟩;simp[fN,P.f16,ly,q]
 obtain⟨A',e,a,b,rfl⟩:=lp;simp only[aM] at e;have c:aW (compF G (run G (n+3)) [none,none] (.one 1) [] (.op .tuple [.var 1])) (cs.map λc=>D.lst (c.map .int))=.ok (cs.map λc=>(0,.tup (c.map .int))):=
  gN λc _=>by simp[compF]
 have j:aZ (cs.map λc=>((0:Nat),D.tup (c.map .int)))=98:=uu λx hx=>by
  obtain⟨c,_,rfl⟩:=bV hx;simp
 simp[k7,P.f0,kG,hw,isI,hp.1,hp.2,aM,hS,h6,e,c,j,wd,dJ,br,Function.comp_def]
end Ip
end
section
namespace Ip
open PySem (Str)
def GX {d:D}(h:d.scal=true):d.flat=true:=by cases d <;> simp at h ⊢
def Ee {d:D}(k:Nat)(h:d.scal=true):d.fb k=true:=by cases d <;> simp at h ⊢ <;> cases k <;> rfl
def BC (k:Nat)(h:ds.all D.scal=true):D.fb k (.tup ds)=true:=by
 have h':=dQ h;cases k with
 | zero=>simp only[D.fb,D.flat,xz,List.all_eq_true]; exact λd hd=>GX (h' d hd)
 | succ k=>simp only[D.fb,List.all_eq_true]; exact λd hd=>Ee k (h' d hd)
def RelF.own {A a:Fr}(r:RelF A a){x k:Nat}{d:D}(h:a[x]? = some (some (k+1,d))):∃j,A[x]? = some (some (j+1,d)):=by
 rcases r.get x with ⟨_,e2⟩ | ⟨y,z,e1,e2,q⟩
 .rw[e2] at h; cases h
 .rw[e2] at h;cases h;cases y with
  | none=>exact q.elim
  | some y=>
   obtain⟨j,d'⟩:=y;obtain⟨q1,q2⟩:=q;have q1':d'=d:=q1;have q2':k+1<=j:=q2;subst q1';exact⟨j - 1,by rw[e1]; congr 3; omega⟩
section
variable {G:Pg}{cl:Nat->aw->Run}{io:ak}{a:Fr}{ss:ay}{N:Fr->Prop}{V:D->Prop}
theorem Ou.extend {x k j:Nat}{e:Ex}{xs ys:ax}(hx:a[x]? = some (some (k+1,.lst xs)))(he:eval G cl a.sl e=.ok (j,.tup ys))(hs:ys.all D.scal=true)(hl:xs.length+ys.length<=SL)(h:Ou G cl io (a.set x (some (1,.lst (xs++ys)))) ss N V) :
  Ou G cl io a (.mut x [] .extend [e]::ss) N V:=
 .step λA r=>by
  obtain⟨k',hA⟩:=r.own hx;have e1:cu A[x]? = true:=by rw[hA]; rfl
  have e2:([(j,D.tup ys)]:aw).all (λv=>v.2.fb v.1)=true:=by simp only[List.all_cons,List.all_nil,Bool.and_true]; exact BC j hs
  simp only[lX,if_true,dI,b9,r.sl,he,R.bind,R.toO,eV,e2,hA,fj,xO,hs,hl,and_self];exact⟨_,r.set (.refl _) x,h⟩
end
section
variable {G:Pg}{cl:Nat->aw->Run}{io:ak}{a:Fr}{ss:ay}{N:Fr->Prop}{V:D->Prop}
theorem Ou.append (hx:(frz e.names a)[x]? = some (some (k+1,.lst xs)))(he:eval G cl a.sl e=.ok v)(hl:xs.length<SL)(h:Ou G cl io ((frz e.names a).set x (some (1,.lst (xs++[v.2])))) ss N V) :
  Ou G cl io a (.mut x [] .append [e]::ss) N V:=
 .step λA r=>by
  obtain⟨k0,h0⟩:=(r.trans (.low e.names a)).own hx;have e1:cu A[x]? = true:=by rw[h0]; rfl
  have nm:Ex.namess [e]=e.names:=by simp
  have r1:RelF (if ([v]:aw).all (λv=>v.2.fb v.1)=true then A else frz (Ex.namess [e]) A) (frz e.names a):=by
   rw[nm];split
   .exact r.trans (.low e.names a)
   .exact r.frz
  obtain⟨k1,h1⟩:=r1.own hx;simp only[lX,e1,if_true,dI,b9,r.sl,he,R.bind,R.toO,eV];generalize (if ([v]:aw).all (λv=>v.2.fb v.1)=true then A else frz (Ex.namess [e]) A)=A1 at r1 h1;rw[h1];simp only[fj,xV,hl,if_true];exact⟨_,r1.set (x:=some (dJ k1 xs v+1,.lst (xs++[v.2]))) (y:=some (1,.lst (xs++[v.2]))) ⟨rfl,by omega⟩ x,h⟩
end
end Ip
end
section
namespace Ip
def RelF.of_eq (h:a=b):RelF a b:=h ▸ .refl a
section
variable {G:Pg}{cl:Nat->aw->Run}{io:ak}{a:Fr}{ss:ay}{N:Fr->Prop}{V:D->Prop}
theorem n8:∀(ss ts:ay) (A:Fr),execs G cl io A (ss++ts)=(execs G cl io A ss).seq λA=>execs G cl io A ts
 | [],ts,A=>by simp[O.seq]
 | s::ss,ts,A=>by
  rw[List.cons_append,j8,j8];cases exec G cl io A s with
  | nx A'=>simp only[O.seq]; exact n8 ss ts A'
  | _=>rfl
end
def Ou.runE {G:Pg}{n f:Nat}{F:Fn}{vs:aw}{init:ay}{e:Ex}{P:KD->Prop}(hf:G.fn f=some F)(hn:vs.length=F.np)(hio:F.io=[])(hb:F.body=init++[.ret e])(hv:∀i,e≠.var i)
  (h:Ou G (Ip.run G n) [] (bB F vs) init (λa=>∃x,eval G (Ip.run G n) a.sl e=.ok x/\P x) (λ_=>False)):∃x:KD,Ip.run G (n+1) f vs=.ret x.1 x.2 []/\P x:=by
 rw[Ip.run,hf];simp only[hn,if_true,hio];rw[hb,n8];have:=h _ (.refl _);revert this
 cases execs G (Ip.run G n) [] (bB F vs) init with
 | nx A=>
  rintro⟨a,r,x,h1,h2⟩;refine⟨x,?_,h2⟩;have e2:eval G (Ip.run G n) A.sl e=.ok x:=by rw[r.sl]; exact h1
  simp only[O.seq,j8,nR,e2];cases e with
  | var i=>exact absurd rfl (hv i)
  | _=>simp[fin]
 | ret k d A=>exact False.elim
 | _=>exact False.elim
end Ip
end
section
namespace Ip
open PySem (Str)
noncomputable def aQ (r:ak):D:=.tup (aL r)
noncomputable def wrD (rows:af):D:=.tup (rows.map aQ)
def kZ (r:ak):(aL r).all D.scal=true:=by simp[aL]
theorem t7:∀{ns:ak},(∀n∈ns,n<6)->cG (aL ns)=some ns
 | [],_=>rfl
 | n::ns,h=>by
  have h1:=h n bN;have ih:=t7 (ns:=ns) λm hm=>h m (bM _ hm);have h2:(0:Int)<=Int.ofNat n/\Int.ofNat n<6:=⟨Ke n,by simpa using (show (n:Int)<6 by omega)⟩
  show cG (.int (Int.ofNat n)::aL ns)=_;simp only[cG,h2,and_self,if_true,ih,Option.map];rfl
theorem ko (g:Nat):∀ns:ak,D.memb (.int g) (aL ns)=decide (g∈ns)
 | []=>rfl
 | n::ns=>by
  have ih:=ko g ns;have e:D.memb (.int g) (aL (n::ns))=((D.int (Int.ofNat n)).eq (.int g)||D.memb (.int g) (aL ns)):=rfl;rw[e,ih];simp only[D.eq];by_cases h:g=n
  .subst h; simp
  .have:¬(n:Int)=(g:Int):=by omega
   simp[this,h]
def vh (h:g<6):g∈aV ns↔g∈ns:=by
 simp[aV,h]
noncomputable def mG (c:am)(g:Nat)(rows:af):af:=c.foldl (λrs i=>rs.set i.toNat (rs.getD i.toNat []++[g])) rows
def Cq {r:ak}{g:Nat}(h:r.length<=1000):addD (aQ r) (.tup [.int g])=o0 (aQ (r++[g])):=by
 have:(aL r).length+[D.int g].length<=SL:=by
  have:1001<=SL:=by decide
  simp[aL];omega
 simp only[aQ,addD];rw[if_pos this];simp[aL]
structure Pv (G:Pg):Prop where
 a:Pa G
 f24:G.fn 24=some kF
section
variable {G:Pg}(P:Pa G)
include P
omit P in
theorem je (p:Int)(cs:ab):ii 10 (wd p cs)=o0 (.lst (cs.map λc=>.tup (c.map .int))):=rfl
def xH (p:Int)(cs:ab):cj G 12 0 (wd p cs)=some (20,jA):=by
 simp[cj,wd,P.c17,P.f20,jA,List.lookup]
def pQ (p:Int)(cs:ab):cj G 13 1 (wd p cs)=some (21,hX):=by
 simp[cj,wd,P.c17,P.f21,hX,List.lookup]
def wC (n k:Nat)(p:Int)(cs:ab):run G (n+1) 20 [(k,wd p cs)]=.ret 99 (.int cs.length) []:=by
 rw[run,P.f20];simp[jA,je]
def B3 (n k k':Nat)(p:Int)(cs:ab)(d:D)(h:isB cs.length d=true):run G (n+4) 17 [(k,wd p cs),(k',d)]=.ret 99 .non []:=by
 rw[run,P.f17];have q:=ui P (n+1) 0 99 d cs.length;have q2:=wC P (n+2) 0 p cs;rw[h] at q;simp[oF,P.f1,jY,xH P,jA,q2,q]
def oM (n k k':Nat)(p:Int)(cs:ab)(j:Nat)(c:am)(h:cs[j]? = some c):run G (n+5) 21 [(k,wd p cs),(k',.int j)]=.ret 1 (.lst (c.map .int)) []:=by
 rw[run,P.f21];have hj:j<cs.length:=(dg h).1;have hb:isB cs.length (.int j)=true:=by simp[isB,hj]
 have q:=B3 P n 0 0 p cs (.int j) hb;have e:cs[j]=c:=(dg h).2;simp[hX,P.f17,oF,q,je,dB,hj,e]
end
section
variable {G:Pg}(P:Pv G)
include P
def FG (n k:Nat)(rows:af)(h1:rows.length<=6)(h2:rows.flatten.length<=1000)(h3:∀g∈rows.flatten,g<6):∃j,run G (n+1) 24 [(k,wrD rows)]=.ret j (.lst (aL (aV rows.flatten))) []:=by
 have hs:rows.length<=SL:=bv h1 (by decide);refine Ou.rq P.f24 ?_;show Ou _ _ _ [o0 (wrD rows),none,none] _ _ _;refine Ou.setK (x:=(99,.lst [])) rfl rfl ?_;refine Ou.low (a':=[o0 (wrD rows),some (1,.lst []),none]) (.cons (.refl _) (.cons ⟨rfl,by decide⟩ (.cons trivial .nil))) ?_;refine Ou.fo (λr a=>∃(x:az) (fl:ak) (suf:af),a=[o0 (wrD rows),some (1,.lst (aL fl)),x]/\r=suf.map aQ/\fl++suf.flatten=rows.flatten) (vs:=[(0,wrD rows)]) (xs:=rows.map aQ) rfl (by simp[wrD]) (by simpa using hs) ?_ ?_ ?_
 .exact⟨none,[],rows,by simp[aL],rfl,rfl⟩
 .rintro x r a ⟨y,fl,suf,ha,hr,he⟩;cases suf with
  | nil=>simp at hr
  | cons s suf=>
   simp only[HQ,IK] at hr;obtain⟨rfl,rfl⟩:=hr;subst ha;refine⟨_,dS rfl,?_⟩;refine Ou.extend (k:=0) (j:=0) (xs:=aL fl) (ys:=aL s) rfl (by simp[aQ]) (kZ s) ?_ ?_
   .have e2:rows.flatten.length=fl.length+(s.length+suf.flatten.length):=by rw[<-he]; simp
    have:1000<=SL:=by decide
    simp only[aL,HG];omega
   .exact Ou.nil ⟨o0 (aQ s),fl++s,suf,by simp[aL],rfl,by simpa using he⟩
 .rintro a ⟨y,fl,suf,ha,hr,he⟩;have:suf=[]:=by simpa using hr.symm
  subst this ha;simp only[List.flatten_nil,IS] at he;rw[<-he] at h3 ⊢;exact Ou.ret (x:=(1,.lst (aL (aV fl)))) (by simp[t7 h3]) rfl
end
noncomputable def fm (f:ak->ak)(c:am)(rows:af):af:=c.foldl (λrs i=>rs.set i.toNat (f (rs.getD i.toNat []))) rows
theorem vT (c:am)(g:Nat)(rows:af):mG c g rows=fm (λr=>r++[g]) c rows:=rfl
theorem sZ (f:ak->ak):∀(c:am) (rows:af),c.Nodup->(∀i∈c,0<=i/\i<rows.length)->∀j:Nat,(fm f c rows)[j]? = rows[j]?.map λr=>if (j:Int)∈c then f r else r
 | [],rows,_,_,j=>by simp[fm]
 | i::c,rows,hn,hi,j=>by
  obtain⟨h1,h2⟩:=HZ.mp hn;have hi0:=hi i bN;have ih:=sZ f c (rows.set i.toNat (f (rows.getD i.toNat []))) h2 (λx hx=>by simpa using hi x (bM _ hx)) j;show (fm f c (rows.set i.toNat (f (rows.getD i.toNat []))))[j]? = _;rw[ih,K8];by_cases e:i.toNat=j
  .have e':i=(j:Int):=by omega
   have hj:j<rows.length:=by omega
   subst e';simp[hj,h1]
  .have e':¬(j:Int)=i:=by omega
   simp[e,e']
def Dt (hn:c.Nodup)(hi:∀i∈c,0<=i/\i<rows.length):fm f c rows=rows.mapIdx λj r=>if (j:Int)∈c then f r else r:=by
 refine Ji λj=>?_;rw[sZ f c rows hn hi j,IQ]
def Ap (xs:List α):cutD xs none (some (-1))=xs.dropLast:=by
 rw[List.dropLast_eq_take];simp only[cutD,dP];simp;congr 1
 omega
def fV (r:ak):(aL r).length=r.length:=by simp[aL]
def zi (r:ak):(aL r).dropLast=aL r.dropLast:=by simp[aL]
structure Pd (G:Pg):Prop where
 f98:G.fn 98=some eI
 f71:G.fn 71=some gK
 f99:G.fn 99=some oJ
theorem yl:∀{xs:am},xs.Pairwise (· < ·)->df xs=true
 | [],_=>rfl
 | [x],_=>rfl
 | x::y::r,h=>by
  have ih:=yl (List.Pairwise.tail h);have hxy:x<y:=by cases h with | cons h _=>exact h y bN
  unfold df at ih ⊢;simp at ih ⊢;exact⟨hxy,ih⟩
structure OkC (p:Nat)(c:am):Prop where
 gd:good p c=true
 ne:c≠[]
 rg:∀i∈c,0<=i/\i<p
 nd:c.Nodup
 ln:c.length<=6
def n0 (hp:p<=6)(h1:ns.Pairwise (· < ·))(h2:∀n∈ns,n<p)(h3:ns≠[]):OkC p (ns.map λ(n:Nat)=>(n:Int)):=by
 have pw:(ns.map λ(n:Nat)=>(n:Int)).Pairwise (· < ·):=List.Pairwise.map _ (λa b h=>by simpa using h) h1;have rg:∀i∈ns.map λ(n:Nat)=>(n:Int),0<=i/\i<p:=λi hi=>by
  obtain⟨n,hn,rfl⟩:=bV hi;have:=h2 n hn;omega
 have ne:ns.map (λ(n:Nat)=>(n:Int))≠[]:=by simpa using h3
 have ln:∀(ns:ak) (lo:Nat),ns.Pairwise (· < ·)->(∀n∈ns,lo<=n/\n<p)->lo+ns.length<=p\/ns=[]:=by
  intro ns;induction ns with
  | nil=>intro _ _ _; exact .inr rfl
  | cons x r ih=>
   intro lo hp' hr;obtain⟨q1,q2⟩:=Kf.mp hp';have hx:=hr x bN;rcases ih (x+1) q2 (λn hn=>⟨q1 n hn,(hr n (bM _ hn)).2⟩) with h | h
   .simp only[List.length_cons]; omega
   .subst h; simp; omega
 refine⟨?_,ne,rg,pw.imp λh=>by omega,?_⟩
 .simp only[good,HF,Ig,List.all_eq_true];exact⟨⟨ne,rg⟩,yl pw⟩
 .rcases ln ns 0 h1 (λn hn=>⟨ID _,h2 n hn⟩) with h | h
  .simp; omega
  .exact absurd h h3
variable {G:Pg}(P:Pd G)
include P
def iw (n k k':Nat)(ns:am)(j:Nat):∃d,run G (n+1) 98 [(k,.lst (ns.map .int)),(k',.int j)]=.ret d (.int (ns.getD j 0)) []:=by
 rw[run,P.f98];by_cases h:j<ns.length
 .have h':(j:Int)<ns.length:=by omega
  exact⟨0,by simp[eI,h',dB,h]⟩
 .have h':¬(j:Int)<ns.length:=by omega
  have e:ns[j]? = none:=Ik (by omega);exact⟨99,by simp[eI,h',e]⟩
def kX (n k k' k'':Nat)(c s m:Int)(hm:0<m)(hs:0<=s/\s<=1000):∃v j,run G (n+1) 71 [(k,.int c),(k',.int s),(k'',.int m)]=.ret j (.int v) []/\0<=v/\v<m:=by
 have b10:cn 10=true:=dA.mpr (by decide);have b31:cn 31=true:=dA.mpr (by decide);have b977:cn 977=true:=dA.mpr (by decide);have b65:cn 65537=true:=dA.mpr (by decide);have fin:∀x:Int,0<=x % m/\x % m<m:=λx=>⟨Kc _ (by omega),JL _ hm⟩
 have key:Ou G (run G n) [] [o0 (.int c),o0 (.int s),o0 (.int m),none,none,none] gK.body (λ_=>False) (λd=>∃v,d=.int v/\0<=v/\v<m):=by
  by_cases h:c > 1000000000
  .refine Ou.iffT (j:=99) (by simp[b10]; omega) ?_;refine Ou.set (x:=(99,.int (c / 1000))) rfl ?_;have hk:0<=s % 9/\s % 9<9:=⟨Kc _ (by decide),JL _ (by decide)⟩
   obtain⟨q,eq⟩:∃q:Nat,s % 9=(q:Int):=⟨(s % 9).toNat,by omega⟩
   have hq:q<=SL:=by
    have:9<=SL:=by decide
    omega
   refine Ou.fo (λr a=>∃(x4:az) (y:Int),a=[o0 (.int c),o0 (.int s),o0 (.int m),o0 (.int y),x4,none]) (vs:=[(99,.int (q:Int))]) (xs:=(List.range q).map λ(n:Nat)=>D.int n) (by simp[eq]) (wk_rng1 hq) (by simpa using hq) ⟨none,c / 1000,by simp⟩ ?_ ?_
   .rintro x r a ⟨x4,y,ha⟩;subst ha;refine⟨_,dS rfl,?_⟩;refine Ou.set (x:=(99,.int (y / 1000))) rfl ?_;exact Ou.nil ⟨o0 x,y / 1000,by simp⟩
   .rintro a ⟨x4,y,ha⟩;subst ha;exact Ou.ret (x:=(99,.int (y % 1000 % m))) (by simp[hm]) ⟨_,rfl,fin _⟩
  .refine Ou.iffN (j:=99) (by simp[b10]; omega) ?_;refine Ou.set (x:=(99,.int (c % 1000003+31 * s+1))) (by simp[b31]) ?_;have hx:cn (c % 1000003+31 * s+1)=true:=dA.mpr (by omega);generalize c % 1000003+31 * s+1=x at hx;exact Ou.ret (x:=(99,.int ((x * x+65537 * x+977 * s) % 999983 / 3 % m))) (by simp[hx,b65,b977,hm]) ⟨_,rfl,fin _⟩
 obtain⟨j,d,e,v,rfl,h1,h2⟩:=Ou.rv (vs:=[(k,.int c),(k',.int s),(k'',.int m)]) P.f71 key;exact⟨v,j,e,h1,h2⟩
end Ip
end
section
namespace Ip
open PySem (Str)
noncomputable def cW (p:Nat):Int:=([1,3,7,15,31,63]:am).getD (p - 1) 1
noncomputable def fg (v:Int)(p:Nat):ak:=(List.range p).filter λn=>decide (v / (([1,2,4,8,16,32]:am).getD n 1) % 2=1)
def AS:∀p:Fin 7,∀v:Fin 64,1<=p.1->1<=v.1->(v.1:Int)<=cW p.1->fg (v.1:Int) p.1≠[]:=by decide +kernel
def ES:∀p:Fin 7,cW p.1<=63:=by decide +kernel
def FX (hp:1<=p/\p<=6)(hv:1<=v/\v<=cW p):fg v p≠[]:=by
 have hf:=ES ⟨p,by omega⟩;obtain⟨u,rfl⟩:∃u:Nat,v=(u:Int):=⟨v.toNat,by omega⟩
 exact AS ⟨p,by omega⟩ ⟨u,by dsimp only at hf; omega⟩ hp.1 (by dsimp only; omega) hv.2
def FV (h:i<6):∃y:Int,([1,2,4,8,16,32]:am).getD i 1=y/\0<y/\y<1000000000000000000000000000000000000000000000000/\aS (.lst [.int 1,.int 2,.int 4,.int 8,.int 16,.int 32]) (.int (i:Nat))=o0 (.int y):=by
 have hq:i=0\/i=1\/i=2\/i=3\/i=4\/i=5:=by omega
 rcases hq with rfl | rfl | rfl | rfl | rfl | rfl <;> exact⟨_,rfl,by decide,by decide,rfl⟩
def Bv (hp:1<=p/\p<=6)(hv:1<=v/\v<=cW p):OkC p ((fg v p).map λ(n:Nat)=>(n:Int)):=by
 refine n0 hp.2 (List.pairwise_lt_range.filter _) (λn hn=>?_) (FX hp hv);exact IB.mp (HK.mp hn).1
def FH {p:Nat}(hp:1<=p/\p<=6):aS (.lst [.int 1,.int 3,.int 7,.int 15,.int 31,.int 63]) (.int ((p:Int) - 1))=o0 (.int (cW p)):=by
 have hq:p=1\/p=2\/p=3\/p=4\/p=5\/p=6:=by omega
 rcases hq with rfl | rfl | rfl | rfl | rfl | rfl <;> simp[aS,dB,cW]
def Cy (p:Nat):0<cW p:=by
 unfold cW;by_cases h:p - 1<6
 .have hq:p - 1=0\/p - 1=1\/p - 1=2\/p - 1=3\/p - 1=4\/p - 1=5:=by omega
  rcases hq with e | e | e | e | e | e <;> rw[e] <;> decide
 .have:([1,3,7,15,31,63]:am)[p - 1]? = none:=Ik (by simpa using by omega);simp[this]
def AX {α:Type}{xs:List α}{v:Nat}(h:v<xs.length):cutD (cutD xs (some (v:Int)) none) none (some 1)=[xs[v]]:=by
 have e:=kY (xs.drop v) 1;rw[nN];simp only[Int.natCast_one] at e;rw[e,IE h,List.take_succ_cons,List.take_zero]
def Gf (hp:p<=6)(h:OkC p c)(hi:i∈c):OkC p [i]:=by
 have h1:=h.rg i hi;have:=n0 (p:=p) (ns:=[i.toNat]) hp (by simp) (λn hn=>by simp at hn; omega) (by simp);simp only[HQ,List.map_nil] at this
 rwa [Iv h1.1] at this
variable {G:Pg}(P:Pd G)
include P
set_option maxHeartbeats 600000 in
def yB (n k k':Nat)(ns:am)(p:Nat)(hp:1<=p/\p<=6):∃j cs,run G (n+2) 99 [(k,.lst (ns.map .int)),(k',.int p)]=.ret j (aM cs) []/\cs.length<=6/\∀c∈cs,OkC p c:=by
 obtain⟨d1,q1⟩:=iw P n 0 99 ns 1;have hq0:0<=ns.getD 1 0 % 7/\ns.getD 1 0 % 7<7:=⟨Kc _ (by decide),JL _ (by decide)⟩
 obtain⟨q,eq⟩:∃q:Nat,ns.getD 1 0 % 7=(q:Int):=⟨(ns.getD 1 0 % 7).toNat,by omega⟩
 have hq:q<=6:=by omega
 have hS:q<=SL:=bv hq (by decide);have hpS:p<=SL:=bv hp.2 (by decide);have i2:cn 2=true:=dA.mpr (by decide);have key:Ou G (run G (n+1)) [] [o0 (.lst (ns.map .int)),o0 (.int p),none,none,none,none,none] oJ.body (λ_=>False) (λd=>∃cs,d=aM cs/\cs.length<=6/\∀c∈cs,OkC p c):=by
  refine Ou.setK (x:=(99,.lst [])) (by simp) (by simp) ?_;refine Ou.low (a':=[o0 (.lst (ns.map .int)),o0 (.int p),some (1,.lst []),none,none,none,none]) (.cons (.refl _) (.cons (.refl _) (.cons ⟨rfl,by decide⟩ (.refl _)))) ?_;refine Ou.fo (λr a=>∃(x3 x4 x5 x6:az) (cs:ab) (suf:ak),a=[o0 (.lst (ns.map .int)),o0 (.int p),some (1,aM cs),x3,x4,x5,x6]/\r=suf.map (λ(n:Nat)=>D.int n)/\cs.length+suf.length<=6/\∀c∈cs,OkC p c) (vs:=[(99,.int (q:Int))]) (xs:=(List.range q).map λ(n:Nat)=>D.int n) ?_ (wk_rng1 hS) (by simpa using hS) ?_ ?_ ?_
  .simp at q1 eq;simp[P.f98,eI,q1,eq]
  .exact⟨none,none,none,none,[],List.range q,by simp[aM],rfl,by simpa using hq,by simp⟩
  .rintro x r a ⟨x3,x4,x5,x6,cs,suf,ha,hr,hl,hok⟩;cases suf with
   | nil=>simp at hr
   | cons s suf=>
    simp only[HQ,IK] at hr;obtain⟨rfl,rfl⟩:=hr;subst ha;simp only[List.length_cons] at hl;refine⟨_,dS rfl,?_⟩;obtain⟨d2,q2⟩:=iw P n 0 99 ns (2+s);have e2:((2+s:Nat):Int)=2+(s:Int):=by omega
    rw[e2] at q2;generalize ns.getD (2+s) 0=c at q2;refine Ou.set (x:=(d2,.int c)) (by simp[P.f98,eI,q2]) ?_;obtain⟨v,j3,q3,hv0,hv1⟩:=kX P n 0 99 0 c 1 (cW p) (Cy p) (by decide);have im:=FH hp;refine Ou.set (x:=(99,.int (1+v))) (by simp[-aS,im,P.f71,gK,q3]) ?_;have ok:=Bv (v:=1+v) hp (by omega);have eF:fg (1+v) p=(List.range p).filter λn=>decide ((1+v) / (([1,2,4,8,16,32]:am).getD n 1) % 2=1):=rfl;generalize fg (1+v) p=F at ok eF;have cc:aW (compF G (run G (n+1)) [none,none,some (.int (1+v))] (.one 1) [(.op .eq [(.op .mod [(.op .fdiv [(.var 2),(.op .ix [(.op .lst [(.cst (.int (1))),(.cst (.int (2))),(.cst (.int (4))),(.cst (.int (8))),(.cst (.int (16))),(.cst (.int (32)))]),(.var 1)])]),(.cst (.int (2)))]),(.cst (.int (1)))])] (.var 1)) ((List.range p).map λ(n:Nat)=>D.int n)=.ok (F.map λ(n:Nat)=>((0:Nat),D.int n)):=by
     rw[eF];refine ml λi hi=>?_;obtain⟨y,ey,hy,h3,ix⟩:=FV (i:=i) (by have:=IB.mp hi; omega);rw[ey];have hy':¬y=0:=by omega
     simp[-aS,compF,ix,D.eq,hy,h3]; split <;> rfl
    have hj:aZ (F.map λ(n:Nat)=>((0:Nat),D.int n))=98:=uu λx hx=>by
     obtain⟨c,_,rfl⟩:=bV hx;simp
    clear eF;refine Ou.set (x:=(99,.lst (F.map λ(n:Nat)=>D.int n))) (by simp[wk_rng1 hpS,hpS,cc,hj,Function.comp_def]) ?_;obtain⟨c1,ec,oc⟩:∃c1:am,F.map (λ(n:Nat)=>D.int n)=c1.map .int/\OkC p c1:=⟨F.map λ(n:Nat)=>(n:Int),by simp,ok⟩
    rw[ec];clear ec cc hj ok;have fin:∀(c2:am) (a:Fr),a=[o0 (.lst (ns.map .int)),o0 (.int p),some (1,aM cs),o0 (.int s),o0 (.int c),o0 (.int (1+v)),o0 (.lst (c2.map .int))]->OkC p c2->Ou G (run G (n+1)) [] a [.mut 2 [] .append [(.var 6)]] (λa=>∃(x3 x4 x5 x6:az) (cs:ab) (suf':ak),a=[o0 (.lst (ns.map .int)),o0 (.int p),some (1,aM cs),x3,x4,x5,x6]/\suf.map (λ(n:Nat)=>D.int n)=suf'.map (λ(n:Nat)=>D.int n)/\cs.length+suf'.length<=6/\∀c∈cs,OkC p c) (λd=>∃cs,d=aM cs/\cs.length<=6/\∀c∈cs,OkC p c):=by
     intro c2 a ea o2;subst ea;have hl6:cs.length<SL:=by
      have:7<=SL:=by decide
      omega
     refine Ou.append (k:=0) (xs:=cs.map λc=>.lst (c.map .int)) (v:=(0,.lst (c2.map .int))) (by simp[aM,frz,frz1]) (by simp) (by simpa using hl6) ?_;refine Ou.nil ⟨o0 (.int s),o0 (.int c),o0 (.int (1+v)),o0 (.lst (c2.map .int)),cs++[c2],suf,by simp[aM,frz,frz1],rfl,by simp; omega,?_⟩;intro c hc;rcases cO hc with h | h
     .exact hok c h
     .rw[HN.mp h]; exact o2
    obtain⟨v4,j4,q4,h40,h41⟩:=kX P n 0 99 99 c 2 2 (by decide) (by decide);by_cases h:v4=1
    .subst h;have hlen:(0:Int)<c1.length:=by
      have:=oc.ne;have:=List.length_pos_iff.mpr this;omega
     obtain⟨v5,j5,q5,h50,h51⟩:=kX P n 0 99 99 c 3 c1.length hlen (by decide);obtain⟨u,rfl⟩:∃u:Nat,v5=(u:Int):=⟨v5.toNat,by omega⟩
     have hu:u<c1.length:=by omega
     have ct:=AX (xs:=c1.map D.int) (v:=u) (by simpa using hu);refine Ou.iffT (j:=99) (by simp[P.f71,gK,q4,D.eq]) ?_;refine Ou.set (x:=(1,.lst ([c1[u]].map .int))) (by simp[P.f71,gK,q5,ct]) ?_;refine Ou.nil ?_;exact fin _ _ (by simp) (Gf hp.2 oc (Ii hu))
    .refine Ou.iffN (j:=99) (by simp[P.f71,gK,q4,D.eq,h]) ?_;exact fin _ _ (by simp) oc
  .rintro a ⟨x3,x4,x5,x6,cs,suf,ha,hr,hl,hok⟩;subst ha;exact Ou.ret (x:=(0,aM cs)) (by simp) ⟨cs,rfl,by omega,hok⟩
 obtain⟨j,d,e,cs,rfl,h1,h2⟩:=Ou.rv (vs:=[(k,.lst (ns.map .int)),(k',.int p)]) P.f99 key;exact⟨j,cs,e,h1,h2⟩
end Ip
end
section
namespace Ip
noncomputable def covA (cs:ab)(g:Nat):am:=cs.getD g []
noncomputable def aP (cs:ab)(j:Nat)(gs:ak):ak:=gs.filter λg=>decide ((j:Int)∈covA cs g)
def gz (cs:ab)(j:Nat)(A B:ak):aP cs j (A++B)=aP cs j A++aP cs j B:=by simp[aP]
def ij (cs:ab)(j g:Nat)(B:ak):aP cs j (g::B)=if (j:Int)∈covA cs g then g::aP cs j B else aP cs j B:=by
 unfold aP;rw[JE];by_cases h:(j:Int)∈covA cs g <;> simp[h]
noncomputable def aK (cs:ab)(p:Nat)(gs:ak):af:=(List.range p).map λj=>aP cs j gs
def lh (cs:ab)(p:Nat)(gs:ak):(aK cs p gs).length=p:=by simp[aK]
structure Cv (p:Nat)(cs:ab):Prop where
 p1:1<=p
 p6:p<=6
 m6:cs.length<=6
 ne:∀g,g<cs.length->covA cs g≠[]
 rg:∀g,∀i∈covA cs g,0<=i/\i<p
 nd:∀g,(covA cs g).Nodup
 ln:∀g,(covA cs g).length<=6
structure Wn (cs:ab)(gs:ak):Prop where
 nd:gs.Nodup
 lt:∀g∈gs,g<cs.length
def gO {gs:ak}{m:Nat}(h1:gs.Nodup)(h2:∀g∈gs,g<m):gs.length<=m:=by
 induction m generalizing gs with
 | zero=>
  cases gs with
  | nil=>exact bC _
  | cons x r=>exact absurd (h2 x bN) (by omega)
 | succ m ih=>
  have:=ih (h1.erase m) λx hx=>by
   have:=(h1.mem_erase_iff).mp hx;have:=h2 x this.2;omega
  rw[List.length_erase] at this;split at this <;> omega
def Wn.len {p:Nat}{cs:ab}{gs:ak}(C:Cv p cs)(w:Wn cs gs):gs.length<=6:=bv (gO w.nd w.lt) C.m6
def mo (h:g∈(aK cs p gs).flatten):g∈gs:=by
 obtain⟨r,hr,hg⟩:=Iw.mp h;obtain⟨j,_,rfl⟩:=bV hr;exact (HK.mp hg).1
def BD (C:Cv p cs)(w:Wn cs gs)(h:g∈gs):g∈(aK cs p gs).flatten:=by
 cases e:covA cs g with
 | nil=>exact absurd e (C.ne g (w.lt g h))
 | cons i c=>
  have hi:i∈covA cs g:=by rw[e]; exact bN
  have rg:=C.rg g i hi;refine Iw.mpr ⟨aP cs i.toNat gs,JF.mpr ⟨i.toNat,IB.mpr (by omega),rfl⟩,HK.mpr ⟨h,HS ?_⟩⟩;rw[Iv rg.1]; exact hi
def sE:∀p:Nat,(aK cs p gs).flatten.length<=p * gs.length:=λp=>by
 have:∀l:ak,(l.map λj=>aP cs j gs).flatten.length<=l.length * gs.length:=by
  intro l;induction l with
  | nil=>simp
  | cons x l ih=>
   have h1:(aP cs x gs).length<=gs.length:=HW _ _;rw[HQ,List.flatten_cons,HP,List.length_cons,Nat.add_mul,Nat.one_mul];omega
 simpa[aK] using this (List.range p)
def Wn.fl (C:Cv p cs)(w:Wn cs gs):(aK cs p gs).flatten.length<=36:=
 bv (sE p) (Nat.mul_le_mul C.p6 (w.len C))
def Wn.mS (C:Cv p cs)(w:Wn cs gs)(g:Nat):g∈aV gs↔g∈gs:=by
 constructor
 .intro h; simpa using (HK.mp h).2
 .intro h;have:=w.lt g h;have:=C.m6;exact (vh (by omega)).mpr h
def uz (C:Cv p cs)(h1:∀j:Nat,(j:Int)∈covA cs g->f (aP cs j gs)=aP cs j gs')(h2:∀j:Nat,(j:Int)∉covA cs g->aP cs j gs=aP cs j gs'):fm f (covA cs g) (aK cs p gs)=aK cs p gs':=by
 rw[Dt (C.nd g) λi hi=>by rw[lh]; exact C.rg g i hi];refine Ji λj=>?_;rw[IQ];unfold aK;rw[HR,HR];by_cases hj:j<p
 .rw[List.getElem?_range hj];simp only[Option.map_some];by_cases h:(j:Int)∈covA cs g
  .rw[if_pos h,h1 j h]
  .rw[if_neg h,h2 j h]
 .rw[Ik (by simp; omega)];rfl
def CD (C:Cv p cs):mG (covA cs g) g (aK cs p gs)=aK cs p (gs++[g]):=by
 rw[vT];refine uz C (λj hj=>?_) λj hj=>?_
 .rw[gz,ij,if_pos hj]; rfl
 .rw[gz,ij,if_neg hj]; exact (IS _).symm
noncomputable def jR (l:ak)(g:Nat):ak:=(l.drop (l.idxOf g+1)).take 1
noncomputable def k9 (cs:ab)(gs:ak)(g:Nat)(i:Int):ak:=jR (aP cs i.toNat gs) g
noncomputable def ki (cs:ab)(gs:ak)(g:Nat):ak:=((covA cs g).map (k9 cs gs g)).flatten
def kl {g:Nat}{A B:ak}(h:g∉A):(A++g::B).idxOf g=A.length:=by
 rw[K9,if_neg h,List.idxOf_cons_self,Kw]
def uq {g:Nat}{A B:ak}(h:g∉A):jR (A++g::B) g=B.take 1:=by
 unfold jR;rw[kl h];have:A++g::B=(A++[g])++B:=by simp
 rw[this,show A.length+1=(A++[g]).length by simp,K3]
def wP {cs:ab}{gs:ak}{g j:Nat}(w:gs.Nodup)(hg:g∈gs)(ho:ki cs gs g=[])(hj:(j:Int)∈covA cs g):∃r,aP cs j gs=r++[g]/\g∉r:=by
 have hgf:g∈aP cs j gs:=HK.mpr ⟨hg,HS hj⟩;obtain⟨A,B,e⟩:=JM hgf;have nd:(aP cs j gs).Nodup:=w.filter _;rw[e] at nd;have hA:g∉A:=λz=>(HV.mp nd).2.2 g z g (by simp) rfl;have hn:k9 cs gs g (j:Int)=[]:=by
  have:=List.flatten_eq_nil_iff.mp ho (k9 cs gs g (j:Int)) (JF.mpr ⟨_,hj,rfl⟩);exact this
 unfold k9 at hn;rw[Int.toNat_natCast,e,uq hA] at hn;cases B with
 | nil=>exact⟨A,e,hA⟩
 | cons b B=>cases hn
def yH (hc:∀i∈covA cs g,0<=i)(w:gs.Nodup)(h:∀j:Nat,(j:Int)∈covA cs g->∃r,aP cs j gs=r++[g]):ki cs gs g=[]:=by
 refine List.flatten_eq_nil_iff.mpr λl hl=>?_;obtain⟨i,hi,rfl⟩:=bV hl;have h0:=hc i hi;obtain⟨j,rfl⟩:∃j:Nat,i=(j:Int):=⟨i.toNat,by omega⟩
 obtain⟨r,e⟩:=h j hi;unfold k9;rw[Int.toNat_natCast,e];have nd:(aP cs j gs).Nodup:=w.filter _;rw[e] at nd;exact uq λz=>(HV.mp nd).2.2 g z g (by simp) rfl
noncomputable def rmv (g:Nat)(gs:ak):ak:=gs.filter λx=>decide (x≠g)
def Eg (C:Cv p cs)(w:gs.Nodup)(hg:g∈gs)(ho:ki cs gs g=[]):fm List.dropLast (covA cs g) (aK cs p gs)=aK cs p (rmv g gs):=by
 have sw:∀j,aP cs j (rmv g gs)=(aP cs j gs).filter λx=>decide (x≠g):=λj=>by unfold aP rmv; rw[II,II]; congr 1; funext x; rw[KL]
 refine uz C (λj hj=>?_) λj hj=>?_
 .obtain⟨r,e,hr⟩:=wP w hg ho hj;rw[sw,e,List.dropLast_concat,IR];have f1:r.filter (λx=>decide (x≠g))=r:=Jc.mpr λx hx=>HS λe=>hr (e ▸ hx);rw[f1]; simp
 .rw[sw];refine (Jc.mpr λx hx=>?_).symm;have hxc:(j:Int)∈covA cs x:=HY (HK.mp hx).2;have:x≠g:=λe=>hj (e ▸ hxc);simpa using this
def cut1 (xs:List α)(a:Nat)(h:a<=xs.length):cutD xs (some (a:Int)) (some ((a:Int)+1))=(xs.drop a).take 1:=by
 have s1:dP xs.length 0 (some (a:Int))=a:=by
  simp only[dP]; rw[if_pos (by omega)]; omega
 have s2:dP xs.length xs.length (some ((a:Int)+1))=min (a+1) xs.length:=by
  simp only[dP]; rw[if_pos (by omega)]; omega
 unfold cutD;rw[s1,s2];by_cases e:a=xs.length
 .subst e; simp
 .rw[show min (a+1) xs.length - a=1 by omega]
theorem lR:∀{os:ak},g∈os->D.find (.int g) (aL os)=some (os.idxOf g)
 | [],h=>by cases h
 | x::os,h=>by
  have e0:D.find (.int g) (aL (x::os))=if (D.int (Int.ofNat x)).eq (.int g) then some 0 else (D.find (.int g) (aL os)).map (·+1):=by
   unfold D.find aL;rw[HQ,JK]
  rw[e0];by_cases hx:x=g
  .subst hx;simp[D.eq]
  .have h1:¬(x:Int)=(g:Int):=by omega
   have h2:=lR (os:=os) ((bQ h).resolve_left λe=>hx e.symm);have h3:(x == g)=false:=Jb.mpr hx;rw[h2,List.idxOf_cons,h3];simp[D.eq,h1]
def gR {cs:ab}{p j:Nat}{O:ak}(h:j<p):aS (wrD (aK cs p O)) (.int (j:Nat))=some (0,aQ (aP cs j O)):=by
 have h':(j:Int)<p:=by omega
 simp[wrD,aS,dB,aK,h',h]
def Cv.at (h:g<cs.length):cs[g]? = some (covA cs g):=by simp[covA,h]
end Ip
end
section
namespace Ip
open PySem (Str)
section
variable {G:Pg}{cl:Nat->aw->Run}{io:ak}{a:Fr}{ss:ay}{N:Fr->Prop}{V:D->Prop}
def Ou.setD (h:eval G cl a.sl e=.ok x)(hj:j<=x.1)(k:Ou G cl io ((frz e.names a).set i (some (j,x.2))) ss N V)(hi:(!io.contains i&&Nat.blt i a.length)=true:=by rfl):Ou G cl io a (.set i e::ss) N V:=
 .step λA r=>by
  obtain⟨hio,hi⟩:=okI hi;have l:(settle e.names A x).length=a.length:=by
   rw[<-r.len];have:=(r.settle e.names x).len;rw[this,<-(RelF.low e.names a).len,r.len]
  simp only[ls,r.sl,h,R.toO,cY,hio,l,hi,and_self,if_true];exact⟨_,(r.settle e.names x).set (x:=some x) (y:=some (j,x.2)) ⟨rfl,hj⟩ i,k⟩
theorem Ou.remove (hx:a[x]? = some (some (k+1,.lst xs)))(he:eval G cl a.sl e=.ok (jj,.int n))(hs:xs.all D.isI=true)(hf:D.find (.int n) xs=some p)
  (h:Ou G cl io (a.set x (some (1,.lst (xs.eraseIdx p)))) ss N V):Ou G cl io a (.mut x [] .remove [e]::ss) N V:=
 .step λA r=>by
  obtain⟨k',hA⟩:=r.own hx;have e1:cu A[x]? = true:=by rw[hA]; rfl
  have e2:([(jj,D.int n)]:aw).all (λv=>v.2.fb v.1)=true:=by simp only[List.all_cons,List.all_nil,Bool.and_true]; exact yW jj n
  simp only[lX,if_true,dI,b9,r.sl,he,R.bind,R.toO,eV,e2,hA,fj,wQ,if_pos hs,hf];exact⟨_,r.set (.refl _) x,h⟩
end
def Ou.runV {G:Pg}{n f i:Nat}{F:Fn}{vs:aw}{init:ay}{P:D->Prop}(hf:G.fn f=some F)(hn:vs.length=F.np)(hio:F.io=[])(hb:F.body=init++[.ret (.var i)])
  (h:Ou G (Ip.run G n) [] (bB F vs) init (λa=>∃k d,a[i]? = some (some (k+1,d))/\P d) (λ_=>False)):∃k d,Ip.run G (n+1) f vs=.ret k d []/\1<=k/\P d:=by
 rw[Ip.run,hf];simp only[hn,if_true,hio];rw[hb,n8];have:=h _ (.refl _);revert this
 cases execs G (Ip.run G n) [] (bB F vs) init with
 | nx A=>
  rintro⟨a,r,k,d,h1,h2⟩;obtain⟨k',hA⟩:=r.own h1;refine⟨k'+1,d,?_,by omega,h2⟩;simp[O.seq,hA,j8,nR,fin]
 | ret k d A=>exact False.elim
 | _=>exact False.elim
section
variable {G:Pg}{cl:Nat->aw->Run}{io:ak}{a:Fr}{ss:ay}{N:Fr->Prop}{V:D->Prop}
theorem Ou.whl (I:Nat->Fr->Prop)(m:Nat)(hm:m<10000)(h0:I m a)(step:∀n a',I n a'->(∃j,eval G cl a'.sl c=.ok (j,.bl false)/\Ou G cl io a' ss N V)\/((∃j,eval G cl a'.sl c=.ok (j,.bl true))/\∃n',n=n'+1/\Ou G cl io a' b (I n') V)):Ou G cl io a (.whl c b::ss) N V:=
 .step λA r=>by
  rw[xB];have lp:∀(k n:Nat) (a':Fr),n<k->I n a'->∀A,RelF A a'->match du (g8 G cl c) (jD G cl io b) k A with
    | .nx A'=>∃a',RelF A' a'/\Ou G cl io a' ss N V
    | .ret _ d _=>V d
    | _=>False:=by
   intro k;induction k with
   | zero=>intro n a' h; omega
   | succ k ih=>
    intro n a' hn hI A r;rcases step n a' hI with ⟨j,e,o⟩ | ⟨⟨j,e⟩,n',rfl,o⟩
    .have t:g8 G cl c A=.ok false:=by unfold g8; rw[r.sl,e]; rfl
     rw[du,t];exact⟨a',r,o⟩
    .have t:g8 G cl c A=.ok true:=by unfold g8; rw[r.sl,e]; rfl
     rw[du,t];have:=o A r;simp only[jD];revert this
     cases execs G cl io A b with
     | nx A2=>exact λ⟨a2,h1,h2⟩=>ih n' a2 (by omega) h2 A2 h1
     | ret k d A2=>exact id
     | _=>exact False.elim
  exact lp 10000 m a hm h0 A r
end
def Ou.runP {G:Pg}{n f i:Nat}{s:Str}{F:Fn}{vs:aw}{init:ay}{P:D->Prop}(hf:G.fn f=some F)(hn:vs.length=F.np)(hio:F.io=[])(hb:F.body=init++[.retP s i])
  (h:Ou G (Ip.run G n) [] (bB F vs) init (λa=>∃k d,a[i]? = some (some (k+1,d))/\P d) (λ_=>False)):∃k d,Ip.run G (n+1) f vs=.ret k (.tup [.str s,d]) []/\2<=k/\P d:=by
 rw[Ip.run,hf];simp only[hn,if_true,hio];rw[hb,n8];have:=h _ (.refl _);revert this
 cases execs G (Ip.run G n) [] (bB F vs) init with
 | nx A=>
  rintro⟨a,r,k,d,h1,h2⟩;obtain⟨k',hA⟩:=r.own h1;refine⟨k'+1+1,d,?_,by omega,h2⟩;simp[O.seq,hA,j8,xE,fin]
 | ret k d A=>exact False.elim
 | _=>exact False.elim
def iy (cs:ab)(Q:ak)(g:Nat):Prop:=∀j:Nat,(j:Int)∈covA cs g->(aP cs j Q).head? = some g
inductive Topo (cs:ab):ak->ak->Prop
 | nil:Topo cs [] []
 | cons {g:Nat} {Q1 Q2 es:ak} (hg:g∉Q1) (hd:∀j:Nat,(j:Int)∈covA cs g->aP cs j Q1=[]) (least:∀o,o<g->o∈Q1++g::Q2->¬iy cs (Q1++g::Q2) o) (h:Topo cs (Q1++Q2) es):Topo cs (Q1++g::Q2) (g::es)
def zB {P:Nat->Prop}:∀n,P n->∃m,P m/\∀k,k<m->¬P k:=by
 intro n;induction n using Nat.strongRecOn with
 | _ n ih=>
  intro h;by_cases q:∃k,k<n/\P k
  .obtain⟨k,h1,h2⟩:=q;exact ih k h1 h2
  .exact⟨n,h,λk hk hp=>q ⟨k,hk,hp⟩⟩
def Hl (hg:g∉A)(h:(aP cs j (A++g::B)).head? = some g):aP cs j A=[]:=by
 cases e:aP cs j A with
 | nil=>rfl
 | cons y t=>
  rw[gz,e] at h;have hy:y∈aP cs j A:=by rw[e]; exact bN
  have:y=g:=by simpa using h
  subst this;exact absurd (HK.mp hy).1 hg
def Gj:iy cs (g::Q) g:=λj hj=>by
 rw[ij,if_pos hj]; rfl
theorem wa {cs:ab}:∀(n:Nat) (Q:ak),Q.length=n->Q.Nodup->∃es,Topo cs Q es
 | 0,Q,hl,_=>by
  obtain rfl:=Jh.mp hl;exact⟨[],.nil⟩
 | n+1,Q,hl,hn=>by
  have h0:∃g,g∈Q/\iy cs Q g:=by
   cases Q with
   | nil=>cases hl
   | cons g Q=>exact⟨g,bN,Gj⟩
  obtain⟨g0,hg0⟩:=h0;obtain⟨g,⟨hm,hr⟩,hlst⟩:=zB (P:=λg=>g∈Q/\iy cs Q g) g0 hg0;obtain⟨Q1,Q2,e⟩:=JM hm;subst e;have hg:g∉Q1:=λz=>(HV.mp hn).2.2 g z g (by simp) rfl;have hp:(Q1++g::Q2).Perm (g::(Q1++Q2)):=J4;obtain⟨es,he⟩:=wa (cs:=cs) n (Q1++Q2) (by simp at hl ⊢; omega) (HZ.mp (hp.nodup_iff.mp hn)).2;exact⟨g::es,.cons hg (λj hj=>Hl hg (hr j hj)) (λo ho hmo hro=>hlst o ho ⟨hmo,hro⟩) he⟩
def Topo.perm (h:Topo cs Q es):Q.Perm es:=by
 induction h with
 | nil=>exact .refl _
 | cons hg hd hl h ih=>exact J4.trans (ih.cons _)
def Topo.rows (h:Topo cs Q es)(j:Nat):aP cs j es=aP cs j Q:=by
 induction h with
 | nil=>rfl
 | @cons g Q1 Q2 es hg hd hl h ih=>
  rw[ij,gz,ij];by_cases hj:(j:Int)∈covA cs g
  .rw[if_pos hj,if_pos hj,ih,gz,hd j hj]; rfl
  .rw[if_neg hj,if_neg hj,ih,gz]
def Fl {cs:ab}{g j:Nat}{Q1 Q2:ak}(hd:(j:Int)∈covA cs g->aP cs j Q1=[]):aP cs j (Q1++g::Q2)=if (j:Int)∈covA cs g then g::aP cs j (Q1++Q2) else aP cs j (Q1++Q2):=by
 rw[gz,ij,gz];by_cases hj:(j:Int)∈covA cs g
 .rw[if_pos hj,if_pos hj,hd hj]; rfl
 .rw[if_neg hj,if_neg hj]
structure Pm (G:Pg):Prop where
 v:Pv G
 d:Pd G
 f34:G.fn 34=some oA
 f35:G.fn 35=some oK
 f36:G.fn 36=some oO
 f37:G.fn 37=some nG
 f39:G.fn 39=some lH
 f45:G.fn 45=some ny
 f46:G.fn 46=some tS
 f47:G.fn 47=some qC
 f49:G.fn 49=some oP
 f50:G.fn 50=some kg
 f51:G.fn 51=some sg
 f52:G.fn 52=some kU
 f53:G.fn 53=some oG
 f73:G.fn 73=some lG
 f115:G.fn 115=some nE
 f116:G.fn 116=some pI
 f117:G.fn 117=some pA
 f118:G.fn 118=some mD
 f123:G.fn 123=some pU
 f124:G.fn 124=some mX
 f130:G.fn 130=some pO
 f131:G.fn 131=some sN
 f132:G.fn 132=some rc
 f133:G.fn 133=some qQ
 f134:G.fn 134=some o4
 f113:G.fn 113=some p9
 f127:G.fn 127=some oE
 f128:G.fn 128=some lu
 f129:G.fn 129=some oQ
 f69:G.fn 69=some qX
def k8 (gs:ak):(aL gs).all (D.pur 60)=true:=by simp[aL]
def Bc (gs:ak):(aL gs).all D.isI=true:=by simp[aL,D.isI]
def rM (A B:ak):aL (A++B)=aL A++aL B:=by simp[aL]
def DF (A B:ak)(g:Nat):(aL (A++g::B)).eraseIdx A.length=aL (A++B):=by
 have e:aL (A++g::B)=aL A++(.int (g:Nat)::aL B):=by simp[aL]
 rw[e,<-fV A,List.eraseIdx_append_of_length_le (KM _),Nat.sub_self,List.eraseIdx_cons_zero,rM]
def BY:aS (.lst (aL (A++a::B))) (.int (A.length:Nat))=some (0,.int (a:Nat)):=by
 have h1:A.length<(aL (A++a::B)).length:=by rw[fV]; simp
 have h2:((A.length:Nat):Int)<((aL (A++a::B)).length:Nat):=by omega
 have e:(aL (A++a::B))[A.length]? = some (.int (a:Nat)):=by simp[aL]
 simp only[aS,D.seq,dB,Ke,if_true,h2,Int.toNat_natCast,Option.bind_some,e]
def Ha (A B:ak):(aL (A++B)).take A.length=aL A:=by
 rw[rM,List.take_append_of_le_length (by rw[fV]; omega),Jm (by rw[fV]; omega)]
variable {G:Pg}(P:Pm G)
include P
def vO (n k:Nat)(x:Int):run G (n+1) 73 [(k,.int x)]=.ret 99 (.bl true) []:=by
 rw[run,P.f73];simp[lG]
end Ip
end
section
namespace Ip
open PySem (Str)
theorem oz (i:Int):∀c:am,D.memb (.int i) (c.map .int)=decide (i∈c)
 | []=>rfl
 | j::c=>by
  have ih:=oz i c;have e:D.memb (.int i) ((j::c).map .int)=((D.int j).eq (.int i)||D.memb (.int i) (c.map .int)):=rfl;rw[e,ih];simp only[D.eq];by_cases h:i=j
  .subst h; simp
  .have:¬j=i:=λe=>h e.symm;simp[this,h]
def jX (h:g<cs.length):aS (aM cs) (.int (g:Nat))=o0 (.lst ((covA cs g).map .int)):=by
 have h':(g:Int)<cs.length:=by omega
 have e:covA cs g=cs[g]:=by simp[covA,h]
 rw[e];simp[aM,aS,dB,h',h]
def zj:aS (aQ (A++a::B)) (.int (A.length:Nat))=o0 (.int (a:Nat)):=by
 have h1:A.length<(aL (A++a::B)).length:=by rw[fV]; simp
 have h2:((A.length:Nat):Int)<((aL (A++a::B)).length:Nat):=by omega
 have e:(aL (A++a::B))[A.length]? = some (.int (a:Nat)):=by simp[aL]
 simp only[aQ,aS,D.seq,dB,Ke,if_true,h2,Int.toNat_natCast,Option.bind_some,e]
variable {G:Pg}(P:Pm G)
include P
def GM (n k k1 k2 k3:Nat)(p:Nat)(cs:ab)(O res Q L:ak)(g:Nat)(hp:p<=6)(hm:cs.length<=6)(ok:∀c∈cs,OkC p c)(hg:g<cs.length)(hO:O.Nodup)(hQ:g∈Q)(hL:∀x,x∈L↔x∈Q)(hd:∀x∈res,x∉Q)(hr:∀j,aP cs j O=aP cs j res++aP cs j Q) :
  ∃j us,run G (n+6) 37 [(k,wd p cs),(k1,wrD (aK cs p O)),(k2,.int (g:Nat)),(k3,.lst (aL L))]=.ret j (.lst us) []/\(us=[]↔iy cs Q g)/\us.length<=6:=by
 have hc:cs[g]? = some (covA cs g):=by simp[covA,hg]
 have okc:=ok _ (HL hc);have q3:=oM P.v.a n 0 0 p cs g _ hc;have h100:100<=SL:=by decide
 have hS:(covA cs g).length<=SL:=by have:=okc.ln; omega
 generalize hC:covA cs g=c at hc okc q3 hS;have key:Ou G (run G (n+5)) [] [o0 (wd p cs),o0 (wrD (aK cs p O)),o0 (.int (g:Nat)),o0 (.lst (aL L)),none,none,none] nG.body (λ_=>False) (λd=>∃us,d=.lst us/\(us=[]↔iy cs Q g)/\us.length<=6):=by
  refine Ou.setK (x:=(99,.lst [])) (by simp) (by simp) ?_;refine Ou.low (a':=[o0 (wd p cs),o0 (wrD (aK cs p O)),o0 (.int (g:Nat)),o0 (.lst (aL L)),some (1,.lst []),none,none]) (.cons (.refl _) (.cons (.refl _) (.cons (.refl _) (.cons (.refl _) (.cons ⟨rfl,by decide⟩ (.refl _)))))) ?_;refine Ou.fo (λr a=>∃(x5 x6:az) (us:ax) (pre suf:am),a=[o0 (wd p cs),o0 (wrD (aK cs p O)),o0 (.int (g:Nat)),o0 (.lst (aL L)),some (1,.lst us),x5,x6]/\r=suf.map .int/\pre++suf=c/\(us=[]↔∀i∈pre,(aP cs i.toNat Q).head? = some g)/\us.length<=pre.length) (vs:=[(1,.lst (c.map .int))]) (xs:=c.map .int) (by simp[pQ P.v.a,hX,q3]) (by simp) (by simpa using hS) ⟨none,none,[],[],c,by simp,rfl,rfl,by simp,by simp⟩ ?_ ?_
  .rintro x r a ⟨x5,x6,us,pre,suf,ha,hrr,he,hu,hul⟩;cases suf with
   | nil=>simp at hrr
   | cons s suf=>
    simp only[HQ,IK] at hrr;obtain⟨rfl,rfl⟩:=hrr;subst ha;have hsc:s∈c:=by rw[<-he]; simp
    have rg:=okc.rg s hsc;obtain⟨j,rfl⟩:∃j:Nat,s=(j:Int):=⟨s.toNat,by omega⟩
    have hjp:j<p:=by omega
    have ixr:=gR (cs:=cs) (O:=O) hjp;have hjc:(j:Int)∈covA cs g:=by rw[hC]; exact hsc
    have hgf:g∈aP cs j Q:=HK.mpr ⟨hQ,HS hjc⟩;obtain⟨B1,B2,eB⟩:=JM hgf;have hnod:(aP cs j O).Nodup:=hO.filter _;have hrj:=hr j;rw[eB] at hrj;have hrow:aP cs j O=(aP cs j res++B1)++g::B2:=by rw[hrj]; simp
    have hgn:g∉aP cs j res++B1:=λz=>by
     rw[hrow] at hnod;exact (HV.mp hnod).2.2 g z g (by simp) rfl
    rw[hrow] at ixr;obtain⟨dd,hdd⟩:∃dd,(aP cs j res++B1).length=dd:=⟨_,rfl⟩
    have ixe:ce (aQ ((aP cs j res++B1)++g::B2)) (.int (g:Nat))=some (99,.int (dd:Nat)):=by
     have sc:=kZ ((aP cs j res++B1)++g::B2);rw[aQ,kN,lR (by simp),kl hgn,sc,hdd];rfl
    have hul6:us.length<100:=by
     have:=okc.ln;have:=congrArg List.length he;simp at this;omega
    refine⟨_,dS rfl,?_⟩;generalize hW:wrD (aK cs p O)=WW at ixr;refine Ou.set (x:=(99,.int (dd:Nat))) ?_ ?_
    .generalize aQ ((aP cs j res++B1)++g::B2)=RR at ixr ixe;simp[-aS,-kN,ixr,ixe]
    have scL:=k8 L;have done:∀(us':ax) (y5 y6:az),(us'=[]↔us=[]/\(aP cs j Q).head? = some g)->us'.length<=us.length+1->∃(x5 x6:az) (us:ax) (pre' suf':am),[o0 (wd p cs),o0 WW,o0 (.int (g:Nat)),o0 (.lst (aL L)),some (1,.lst us'),y5,y6]=[o0 (wd p cs),o0 WW,o0 (.int (g:Nat)),o0 (.lst (aL L)),some (1,.lst us),x5,x6]/\suf.map D.int=suf'.map .int/\pre'++suf'=c/\(us=[]↔∀i∈pre',(aP cs i.toNat Q).head? = some g)/\us.length<=pre'.length:=by
     intro us' y5 y6 h1 h2;refine⟨y5,y6,us',pre++[(j:Int)],suf,rfl,rfl,by simpa using he,?_,by simp; omega⟩;rw[h1,hu];constructor
     .rintro⟨a1,a2⟩ i hi;rcases cO hi with hi | hi
      .exact a1 i hi
      .rw[HN.mp hi]; simpa using a2
     .intro h;exact⟨λi hi=>h i (eY _ hi),by simpa using h (j:Int) (by simp)⟩
    by_cases hE:aP cs j res++B1=[]
    .have hB:B1=[]:=(List.append_eq_nil_iff.mp hE).2;have hd0:dd=0:=by rw[<-hdd,hE]; rfl
     subst hd0;refine Ou.iffN (j:=99) (by simp) (Ou.nil ?_);exact done us _ _ ⟨λh=>⟨h,by rw[eB,hB]; rfl⟩,λh=>h.1⟩ (by omega)
    .obtain⟨A0,y,eA⟩:∃A0 y,aP cs j res++B1=A0++[y]:=⟨_,_,(JP hE).symm⟩
     have ixy:aS (aQ ((aP cs j res++B1)++g::B2)) (.int ((dd:Int) - 1))=o0 (.int (y:Nat)):=by
      have:=zj (A:=A0) (B:=g::B2) (a:=y);have e1:A0++y::g::B2=(aP cs j res++B1)++g::B2:=by rw[eA]; simp
      have e2:((A0.length:Nat):Int)=(dd:Int) - 1:=by rw[<-hdd,eA]; simp
      rw[e1,e2] at this;exact this
     have hpos:(0:Int)<(dd:Nat):=by rw[<-hdd,eA]; simp
     have mbL:=ko y L;have hyL:y∈L↔¬(aP cs j Q).head? = some g:=by
      rw[hL];cases B1 with
      | nil=>
       have hyr:y∈aP cs j res:=by
        have:y∈aP cs j res++[]:=by rw[eA]; simp
        simpa using this
       rw[eB];simp only[List.nil_append,List.head?_cons,not_true,iff_false];exact hd y (HK.mp hyr).1
      | cons z B1=>
       have hzg:z≠g:=λe=>hgn (by rw[e]; simp);have hyB:y∈z::B1:=by
        have e1:aP cs j res++z::B1=A0++[y]:=eA;have:=congrArg List.getLast? e1;rw[List.getLast?_append,List.getLast?_concat] at this;cases hl:(z::B1).getLast? with
        | none=>simp at hl
        | some w=>
         rw[hl] at this;have:w=y:=by simpa using this
         rw[<-this];exact List.mem_of_getLast? hl
       rw[eB];simp only[List.cons_append,List.head?_cons,JB];refine⟨λ_ e=>hzg e,λ_=>?_⟩;have:y∈aP cs j Q:=by rw[eB]; exact eY _ hyB
       exact (HK.mp this).1
     generalize aQ ((aP cs j res++B1)++g::B2)=RR at ixr ixy;by_cases hy:y∈L
     .refine Ou.iffT (j:=99) ?_ ?_
      .simp[-aS,-List.all_eq_true,ixr,ixy,scL,mbL,hy];omega
      refine Ou.append (k:=0) (xs:=us) (v:=(aZ [(0,.int (y:Nat)),(0,.int (j:Nat))]+1,.tup [.int (y:Nat),.int (j:Nat)])) (by simp[frz,frz1]) (by simp[-aS,ixr,ixy]) (by omega) (Ou.nil (Ou.nil ?_));have:=done (us++[.tup [.int (y:Nat),.int (j:Nat)]]) (o0 (.int (j:Nat))) (o0 (.int (dd:Nat))) ⟨λh=>by simp at h,λh=>absurd h.2 (hyL.mp hy)⟩ (by simp);simpa[frz,frz1] using this
     .refine Ou.iffN (j:=99) ?_ (Ou.nil ?_)
      .simp[-aS,-List.all_eq_true,ixr,ixy,scL,mbL,hy]
      exact done us _ _ ⟨λh=>⟨h,Classical.byContradiction λz=>hy (hyL.mpr z)⟩,λh=>h.1⟩ (by omega)
  .rintro a ⟨x5,x6,us,pre,suf,ha,hrr,he,hu,hul⟩;have:suf=[]:=by simpa using hrr.symm
   subst this ha;rw[IS] at he;subst he;refine Ou.ret (x:=(0,.lst us)) (by simp) ⟨us,rfl,?_,by have:=okc.ln; omega⟩;rw[hu];constructor
   .intro h j hj;rw[hC] at hj;simpa using h j hj
   .intro h i hi;have:=okc.rg i hi;obtain⟨j,rfl⟩:∃j:Nat,i=(j:Int):=⟨i.toNat,by omega⟩
    exact h j (by rw[hC]; exact hi)
 obtain⟨j,d,e,us,rfl,h1,h2⟩:=Ou.rv (vs:=[(k,wd p cs),(k1,wrD (aK cs p O)),(k2,.int (g:Nat)),(k3,.lst (aL L))]) P.f37 key;exact⟨j,us,e,h1,h2⟩
end Ip
end
section
namespace Ip
open PySem (Str)
def Dk (h:x∈xs.mapIdx λn d=>D.tup [.int n,d]):∃(A B:ax) (d:D),xs=A++d::B/\x=.tup [.int (A.length:Nat),d]:=by
 rw[List.mem_mapIdx] at h;obtain⟨i,hi,e⟩:=h;refine⟨xs.take i,xs.drop (i+1),xs[i],?_,?_⟩
 .rw[<-IE,Jd]
 .rw[<-e];have:(xs.take i).length=i:=by simp; omega
  rw[this]
def Dr:∀{gs:ak},aL gs=A++d::B->∃(A' B':ak) (g:Nat),gs=A'++g::B'/\A=aL A'/\d=.int (g:Nat)/\A'.length=A.length:=by
 induction A with
 | nil=>
  intro gs h;cases gs with
  | nil=>simp[aL] at h
  | cons g gs=>
   simp only[aL,HQ,List.nil_append,IK] at h;exact⟨[],gs,g,rfl,rfl,h.1.symm,rfl⟩
 | cons a A ih=>
  intro gs h;cases gs with
  | nil=>simp[aL] at h
  | cons g gs=>
   simp only[aL,HQ,List.cons_append,IK] at h;obtain⟨A',B',g',e1,e2,e3,e4⟩:=ih h.2;exact⟨g::A',B',g',by rw[e1]; rfl,by rw[<-h.1,e2]; rfl,e3,by simp[e4]⟩
theorem wV (k:Nat)(xs:ax):cV .enum [(k,.tup xs)]=some (xs.mapIdx λn d=>.tup [.int n,d]):=rfl
variable {G:Pg}(P:Pm G)
include P
def Dv (n k k1 k2:Nat)(p j g:Nat)(cs:ab)(hg:g<cs.length):∃i,run G (n+6) 34 [(k,wd p cs),(k1,.int (j:Nat)),(k2,.int (g:Nat))]=.ret i (.bl (decide ((j:Int)∈covA cs g))) []:=by
 have hc:cs[g]? = some (covA cs g):=by simp[covA,hg]
 have q3:=oM P.v.a n 0 0 p cs g _ hc;have q2:=wC P.v.a (n+4) 0 p cs;have qb:=ui P.v.a (n+3) 0 99 (.int (g:Nat)) cs.length;have hb:isB cs.length (.int (g:Nat))=true:=by simp[isB,hg]
 rw[hb] at qb;have mb:=oz j (covA cs g);have sc:((covA cs g).map D.int).all (D.pur 60)=true:=by simp
 refine⟨99,?_⟩;rw[run,P.f34];generalize (covA cs g).map D.int=CC at q3 mb sc;simp[-List.all_eq_true,oA,P.v.a.f1,jY,xH P.v.a,pQ P.v.a,jA,hX,q2,qb,q3,mb,sc]
def Bh (n k k1:Nat)(p:Nat)(cs:ab)(O:ak)(hp:p<=6)(hO:O.Nodup)(hl:O.length<=6)(hg:∀g∈O,g<cs.length):∃j,run G (n+7) 35 [(k,wd p cs),(k1,wrD (aK cs p O))]=.ret j .non []:=by
 have h6:6<=SL:=by decide
 have ew:wrD (aK cs p O)=.tup ((aK cs p O).map aQ):=rfl;have key:Ou G (run G (n+6)) [] [o0 (wd p cs),o0 (wrD (aK cs p O)),none,none,none,none] oK.body (λ_=>D.non=.non) (λd=>d=.non):=by
  refine Ou.fo (λr a=>∃(x2 x3 x4 x5:az),a=[o0 (wd p cs),o0 (wrD (aK cs p O)),x2,x3,x4,x5]/\∀x∈r,∃j:Nat,j<p/\x=.tup [.int (j:Nat),aQ (aP cs j O)]) (vs:=[(0,wrD (aK cs p O))]) rfl (by rw[ew]; exact wV _ _) (by simp[aK]; omega) ⟨none,none,none,none,by simp,?_⟩ ?_ ?_
  .intro x hx;rw[List.mem_mapIdx] at hx;obtain⟨i,hi,e⟩:=hx;have hip:i<p:=by simpa[aK] using hi
   exact⟨i,hip,by rw[<-e]; simp[aK]⟩
  .rintro x r a ⟨x2,x3,x4,x5,ha,hr⟩;obtain⟨j,hj,rfl⟩:=hr x bN;subst ha;refine⟨_,i4 rfl,?_⟩;have hfl:(aP cs j O).length<=6:=bv (HW _ _) hl;have hfn:(aP cs j O).Nodup:=hO.filter _;refine Ou.fo (λr a=>∃(x4 x5:az),a=[o0 (wd p cs),o0 (wrD (aK cs p O)),o0 (.int (j:Nat)),o0 (aQ (aP cs j O)),x4,x5]/\∀x∈r,∃A y B,aP cs j O=A++y::B/\x=.tup [.int (A.length:Nat),.int (y:Nat)]) (vs:=[(0,aQ (aP cs j O))]) rfl (wV _ _) (by simp[aL]; omega) ⟨x4,x5,by simp,?_⟩ ?_ ?_
   .intro x hx;obtain⟨A,B,d,e1,rfl⟩:=Dk hx;obtain⟨A',B',g,e2,e3,rfl,e5⟩:=Dr e1;exact⟨A',g,B',e2,by rw[e5]⟩
   .rintro x r' a ⟨x4,x5,ha,hr'⟩;obtain⟨A,y,B,eA,rfl⟩:=hr' x bN;subst ha;have hyf:y∈aP cs j O:=by rw[eA]; simp
    have hyO:=(HK.mp hyf)
    obtain⟨i,qm⟩:=Dv P n 0 0 0 p j y cs (hg y hyO.1);rw[hyO.2] at qm;have hyA:y∉A:=λz=>by
     rw[eA] at hfn;exact (HV.mp hfn).2.2 y z y (by simp) rfl
    have ct:cutOp none (some (A.length:Int)) (aQ (aP cs j O))=o0 (.tup (aL A)):=by
     rw[eA,aQ];simp only[cutOp];rw[kY,Ha]
    have mb:D.memb (.int (y:Nat)) (aL A)=false:=by rw[ko]; simp[hyA]
    have sc:=k8 A;refine⟨_,i4 rfl,?_⟩;refine Ou.iffN (j:=99) ?_ ?_
    .generalize aQ (aP cs j O)=RR at ct;simp[-cutOp,-List.all_eq_true,P.f34,oA,qm,ct,mb,sc]
    exact Ou.nil ⟨o0 (.int (A.length:Nat)),o0 (.int (y:Nat)),rfl,λx h=>hr' x (bM _ h)⟩
   .rintro a ⟨x4,x5,ha,_⟩;subst ha;exact Ou.nil ⟨o0 (.int (j:Nat)),o0 (aQ (aP cs j O)),x4,x5,rfl,λx h=>hr x (bM _ h)⟩
  .intro a _;exact Ou.nil rfl
 obtain⟨j,d,e,rfl⟩:=Ou.run (n:=n+6) (vs:=[(k,wd p cs),(k1,wrD (aK cs p O))]) (V:=λd=>d=.non) P.f35 rfl rfl key;exact⟨j,e⟩
def Ae (n k k1:Nat)(p:Nat)(cs:ab)(O:ak)(hp:p<=6)(hm:cs.length<=6)(ok:∀c∈cs,OkC p c)(hl:O.length<=6)(hg:∀g∈O,g<cs.length):∃j,run G (n+6) 36 [(k,wd p cs),(k1,wrD (aK cs p O))]=.ret j .non []:=by
 have h100:100<=SL:=by decide
 have hfl:=sE (cs:=cs) (gs:=O) p;have hfl2:p * O.length<=6 * 6:=Nat.mul_le_mul hp hl;obtain⟨jw,qw⟩:=FG P.v (n+4) 0 (aK cs p O) (by simp[aK]; omega) (by omega) (λx hx=>by have:=hg x (mo hx); omega);have hmem:∀g∈aV (aK cs p O).flatten,g∈O:=λg h=>by
  have h2:=(HK.mp h)
  exact mo (by simpa using h2.2)
 have sl:(aV (aK cs p O).flatten).length<=6:=by
  have:=HW (λk=>(aK cs p O).flatten.contains k) (List.range 6);simpa[aV] using this
 generalize aV (aK cs p O).flatten=Lw at qw hmem sl;have key:Ou G (run G (n+5)) [] [o0 (wd p cs),o0 (wrD (aK cs p O)),none,none] oO.body (λ_=>D.non=.non) (λd=>d=.non):=by
  refine Ou.fo (λr a=>∃(x2 x3:az) (suf:ak),a=[o0 (wd p cs),o0 (wrD (aK cs p O)),x2,x3]/\r=aL suf/\∀g∈suf,g∈O) (vs:=[(jw,.lst (aL Lw))]) (xs:=aL Lw) (by simp[P.v.f24,kF,qw]) rfl (by rw[fV]; omega) ⟨none,none,Lw,by simp,rfl,hmem⟩ ?_ ?_
  .rintro x r a ⟨x2,x3,suf,ha,hr,hs⟩;cases suf with
   | nil=>simp[aL] at hr
   | cons g suf=>
    simp only[aL,HQ,IK] at hr;obtain⟨rfl,rfl⟩:=hr;subst ha;have hgO:=hs g bN;have hgl:=hg g hgO;have hc:cs[g]? = some (covA cs g):=by simp[covA,hgl]
    have okc:=ok _ (HL hc);have q3:=oM P.v.a n 0 0 p cs g _ hc;refine⟨_,dS rfl,?_⟩;refine Ou.fo (λr a=>∃(x3:az) (sf:am),a=[o0 (wd p cs),o0 (wrD (aK cs p O)),o0 (.int (g:Nat)),x3]/\r=sf.map .int/\∀i∈sf,i∈covA cs g) (vs:=[(1,.lst ((covA cs g).map .int))]) (xs:=(covA cs g).map .int) (by simp[pQ P.v.a,hX,q3]) rfl (by have:=okc.ln; simp; omega) ⟨x3,covA cs g,by simp,rfl,λi h=>h⟩ ?_ ?_
    .rintro x r' a ⟨x3,sf,ha,hr',hsf⟩;cases sf with
     | nil=>simp at hr'
     | cons s sf=>
      simp only[HQ,IK] at hr';obtain⟨rfl,rfl⟩:=hr';subst ha;have hsc:=hsf s bN;have rg:=okc.rg s hsc;obtain⟨j,rfl⟩:∃j:Nat,s=(j:Int):=⟨s.toNat,by omega⟩
      have ixr:=gR (cs:=cs) (O:=O) (show j<p by omega);have hgf:g∈aP cs j O:=HK.mpr ⟨hgO,HS hsc⟩;have mb:=ko g (aP cs j O);have sc:=k8 (aP cs j O);refine⟨_,dS rfl,?_⟩;refine Ou.iffN (j:=99) ?_ ?_
      .generalize wrD (aK cs p O)=WW at ixr;simp only[aQ] at ixr;simp[-aS,-List.all_eq_true,ixr,mb,sc,hgf]
      exact Ou.nil ⟨o0 (.int (j:Nat)),sf,by simp,rfl,λi h=>hsf i (bM _ h)⟩
    .rintro a ⟨x3,sf,ha,_,_⟩;subst ha;exact Ou.nil ⟨o0 (.int (g:Nat)),x3,suf,rfl,rfl,λx h=>hs x (bM _ h)⟩
  .intro a _;exact Ou.nil rfl
 obtain⟨j,d,e,rfl⟩:=Ou.run (n:=n+5) (vs:=[(k,wd p cs),(k1,wrD (aK cs p O))]) (V:=λd=>d=.non) P.f36 rfl rfl key;exact⟨j,e⟩
end Ip
end
section
namespace Ip
open PySem (Str)
theorem uK:∀{L:ak},L.Pairwise (· < ·)->g∈L->P g=true->(∀o∈L,o<g->P o=false)->∃t,L.filter P=g::t
 | [],_,h,_,_=>by cases h
 | x::L,hp,hm,hg,hl=>by
  obtain⟨h1,h2⟩:=Kf.mp hp;rcases bQ hm with rfl | hm
  .exact⟨L.filter P,by rw[JE,hg]; rfl⟩
  .have hx:=hl x bN (h1 g hm);obtain⟨t,e⟩:=uK h2 hm hg λo ho=>hl o (bM _ ho);exact⟨t,by rw[JE,hx]; exact e⟩
def l7 (Q:ak):(aV Q).Pairwise (· < ·):=List.pairwise_lt_range.filter _
def C4 (h1:g∉Q1++Q2):aV (Q1++Q2)=(aV (Q1++g::Q2)).filter λx=>decide (x≠g):=by
 unfold aV;rw[II];refine Jj λk _=>?_;by_cases hk:k=g
 .subst hk;have h2:k∉Q1/\k∉Q2:=by simpa using h1
  simp[h2.1,h2.2]
 .have:(k == g)=false:=Jb.mpr hk;simp[hk]
def zU {g:Nat}{L:ak}(hp:L.Pairwise (· < ·))(hg:g∈L):∃A B,L=A++g::B/\g∉A/\(L.filter λx=>decide (x≠g))=A++B:=by
 obtain⟨A,B,rfl⟩:=JM hg;have nd:(A++g::B).Nodup:=hp.imp λh=>by omega
 have hA:g∉A:=λz=>(HV.mp nd).2.2 g z g (by simp) rfl;have hB:g∉B:=(HZ.mp (HV.mp nd).2.1).1;refine⟨A,B,rfl,hA,?_⟩;have f1:A.filter (λx=>decide (x≠g))=A:=Jc.mpr λx hx=>HS λe=>hA (e ▸ hx);have f2:B.filter (λx=>decide (x≠g))=B:=Jc.mpr λx hx=>HS λe=>hB (e ▸ hx);rw[IR,JE,f1,f2];simp
variable {G:Pg}(P:Pm G)
include P
def zY (n k:Nat)(rows:af)(h1:rows.length<=6)(h2:rows.flatten.length<=1000)(h3:∀g∈rows.flatten,g<6):∃j,run G (n+1) 24 [(k,wrD rows)]=.ret j (.lst (aL (aV rows.flatten))) []/\1<=j:=by
 have hs:rows.length<=SL:=bv h1 (by decide);obtain⟨x,e,rfl⟩:=Ou.runE (G:=G) (n:=n) (f:=24) (F:=kF) (vs:=[(k,wrD rows)]) (init:=kF.body.dropLast) (e:=.op .srtSet [(.var 1)]) (P:=λx=>x=(1,.lst (aL (aV rows.flatten)))) P.v.f24 rfl rfl rfl (λ_ h=>nomatch h) (by
  show Ou _ _ _ [o0 (wrD rows),none,none] _ _ _;refine Ou.setK (x:=(99,.lst [])) rfl rfl ?_;refine Ou.low (a':=[o0 (wrD rows),some (1,.lst []),none]) (.cons (.refl _) (.cons ⟨rfl,by decide⟩ (.cons trivial .nil))) ?_;refine Ou.fo (λr a=>∃(x:az) (fl:ak) (suf:af),a=[o0 (wrD rows),some (1,.lst (aL fl)),x]/\r=suf.map aQ/\fl++suf.flatten=rows.flatten) (vs:=[(0,wrD rows)]) (xs:=rows.map aQ) rfl (by simp[wrD]) (by simpa using hs) ?_ ?_ ?_
  .exact⟨none,[],rows,by simp[aL],rfl,rfl⟩
  .rintro x r a ⟨y,fl,suf,ha,hr,he⟩;cases suf with
   | nil=>simp at hr
   | cons s suf=>
    simp only[HQ,IK] at hr;obtain⟨rfl,rfl⟩:=hr;subst ha;refine⟨_,dS rfl,?_⟩;refine Ou.extend (k:=0) (j:=0) (xs:=aL fl) (ys:=aL s) rfl (by simp[aQ]) (kZ s) ?_ ?_
    .have e2:rows.flatten.length=fl.length+(s.length+suf.flatten.length):=by rw[<-he]; simp
     have:1000<=SL:=by decide
     simp only[aL,HG];omega
    .exact Ou.nil ⟨o0 (aQ s),fl++s,suf,by simp[aL],rfl,by simpa using he⟩
  .rintro a ⟨y,fl,suf,ha,hr,he⟩;have:suf=[]:=by simpa using hr.symm
   subst this ha;simp only[List.flatten_nil,IS] at he;rw[<-he] at h3 ⊢;exact Ou.nil ⟨(1,.lst (aL (aV fl))),by simp[t7 h3],rfl⟩)
 exact⟨1,e,bC _⟩
open Classical in
set_option maxHeartbeats 1000000 in
def xt (n k k1:Nat)(p:Nat)(cs:ab)(O es:ak)(hp:p<=6)(hm:cs.length<=6)(ok:∀c∈cs,OkC p c)(hO:O.Nodup)(hg:∀g∈O,g<cs.length)(hT:Topo cs O es):∃j,run G (n+8) 39 [(k,wd p cs),(k1,wrD (aK cs p O))]=.ret j (.tup [.str "order",.lst (aL es)]) []/\2<=j:=by
 have h100:100<=SL:=by decide
 have hl:O.length<=6:=bv (gO hO hg) hm;have hfl:=sE (cs:=cs) (gs:=O) p;have hfl2:p * O.length<=6 * 6:=Nat.mul_le_mul hp hl;obtain⟨j1,q1⟩:=Bh P n 0 0 p cs O hp hO hl hg;obtain⟨j2,q2⟩:=Ae P (n+1) 0 0 p cs O hp hm ok hl hg;obtain⟨j3,q3,h3⟩:=zY P (n+6) 0 (aK cs p O) (by simp[aK]; omega) (by omega) (λx hx=>by have:=hg x (mo hx); omega);have eS:aV (aK cs p O).flatten=aV O:=by
  unfold aV;refine Jj λg _=>?_;rw[IX];simp only[JR];refine⟨λh=>mo h,λh=>?_⟩;have hgl:=hg g h;have hc:cs[g]? = some (covA cs g):=by simp[covA,hgl]
  have okc:=ok _ (HL hc);cases ec:covA cs g with
  | nil=>exact absurd ec okc.ne
  | cons i c=>
   have hi:i∈covA cs g:=by rw[ec]; exact bN
   have rg:=okc.rg i hi;refine Iw.mpr ⟨aP cs i.toNat O,JF.mpr ⟨i.toNat,IB.mpr (by omega),rfl⟩,HK.mpr ⟨h,HS ?_⟩⟩;rw[Iv rg.1]; exact hi
 rw[eS] at q3;have hlt:∀{Q:ak},(∀x∈Q,x∈O)->∀x∈Q,x<6:=λh x hx=>by have:=hg x (h x hx); omega
 have mS:∀{Q:ak},(∀x∈Q,x∈O)->∀x,x∈aV Q↔x∈Q:=λh x=>by
  constructor
  .intro hx; simpa using (HK.mp hx).2
  .intro hx; exact (vh (hlt h x hx)).mpr hx
 obtain⟨j,d,e,hj,rfl⟩:=Ou.runP (G:=G) (n:=n+7) (f:=39) (i:=2) (s := "order") (F:=lH) (vs:=[(k,wd p cs),(k1,wrD (aK cs p O))]) (init:=lH.body.dropLast) (P:=λd=>d=.lst (aL es)) P.f39 rfl rfl rfl (by
  show Ou _ _ _ [o0 (wd p cs),o0 (wrD (aK cs p O)),none,none,none] _ _ _;refine Ou.ex (x:=(j1,.non)) (by simp[P.f35,oK,q1]) ?_;refine Ou.ex (x:=(j2,.non)) (by simp[P.f36,oO,q2]) ?_;refine Ou.setK (x:=(99,.lst [])) rfl rfl ?_;refine Ou.setD (j:=1) (x:=(j3,.lst (aL (aV O)))) (by simp[P.v.f24,kF,q3]) h3 ?_;refine Ou.low (a':=[o0 (wd p cs),o0 (wrD (aK cs p O)),some (1,.lst (aL [])),some (1,.lst (aL (aV O))),none]) (.cons (.refl _) (.cons (.refl _) (.cons ⟨rfl,by decide⟩ (.refl _)))) ?_;refine Ou.whl (λn a=>∃(x4:az) (res Q ee:ak),a=[o0 (wd p cs),o0 (wrD (aK cs p O)),some (1,.lst (aL res)),some (1,.lst (aL (aV Q))),x4]/\Topo cs Q ee/\res++ee=es/\(∀j,aP cs j O=aP cs j res++aP cs j Q)/\(∀x∈res,x∉Q)/\(∀x∈Q,x∈O)/\Q.Nodup/\n=Q.length) O.length (by omega) ⟨none,[],O,es,rfl,hT,rfl,λj=>rfl,by simp,λx h=>h,hO,rfl⟩ ?_;rintro m a ⟨x4,res,Q,ee,ha,hTo,he,hr,hdj,hsub,hnd,hm'⟩;subst ha;cases hTo with
  | nil=>
   refine .inl ⟨99,by simp[aV,aL],Ou.nil ⟨0,.lst (aL res),by simp,?_⟩⟩;rw[IS] at he;rw[he]
  | @cons g Q1 Q2 ee hgn hd least hTo=>
   have hgQ:g∈Q1++g::Q2:=by simp
   have hgS:=(mS hsub g).mpr hgQ;have hne:∃y t,aV (Q1++g::Q2)=y::t:=by
    cases e:aV (Q1++g::Q2) with
    | nil=>rw[e] at hgS; cases hgS
    | cons y t=>exact⟨y,t,rfl⟩
   have hlenS:0<(aL (aV (Q1++g::Q2))).length:=by
    obtain⟨y,t,e⟩:=hne;rw[e,fV]; simp
   have hS6:(aV (Q1++g::Q2)).length<=6:=by
    have:=HW (λk=>(Q1++g::Q2).contains k) (List.range 6);simpa[aV] using this
   refine .inr ⟨⟨99,by simp; exact hlenS⟩,(Q1++Q2).length,by rw[hm']; simp; omega,?_⟩;have cc:aW (compF G (run G (n+7)) [none,none,some (.lst (aL (aV (Q1++g::Q2)))),some (wrD (aK cs p O)),some (wd p cs)] (.one 1) [(.op .eq [(.op .len [(.call 37 [(.var 4),(.var 3),(.var 1),(.var 2)])]),(.cst (.int (0)))])] (.var 1)) (aL (aV (Q1++g::Q2)))=.ok (((aV (Q1++g::Q2)).filter λa=>decide (iy cs (Q1++g::Q2) a)).map λa=>(0,.int (a:Nat))):=by
    refine ml (e:=λa:Nat=>D.int (Int.ofNat a)) λa ha=>?_;have haQ:=(mS hsub a).mp ha;obtain⟨js,us,qs,u1,u2⟩:=GM P (n+1) 0 0 0 0 p cs O res (Q1++g::Q2) (aV (Q1++g::Q2)) a hp hm ok (hg a (hsub a haQ)) hO haQ (mS hsub) hdj hr;generalize wrD (aK cs p O)=WW at qs;generalize D.lst (aL (aV (Q1++g::Q2)))=LL at qs;generalize wd p cs=WD at qs;by_cases hq:iy cs (Q1++g::Q2) a
    .have:us=[]:=u1.mpr hq;subst this;simp[compF,P.f37,nG,qs,D.eq,hq]
    .have hu:¬us=[]:=λz=>hq (u1.mp z);simp[compF,P.f37,nG,qs,D.eq,hq,hu]
   obtain⟨t,et⟩:=uK (P:=λa=>decide (iy cs (Q1++g::Q2) a)) (l7 _) hgS (HS λj hj=>by rw[gz,hd j hj,ij,if_pos hj]; rfl) λo ho hog=>Il (least o hog ((mS hsub o).mp ho));rw[et] at cc;obtain⟨A,B,eL,hgA,eE⟩:=zU (l7 (Q1++g::Q2)) hgS;have hg12:g∉Q1++Q2:=λz=>by
    have hpm:(Q1++g::Q2).Perm (g::(Q1++Q2)):=J4;exact (HZ.mp (hpm.nodup_iff.mp hnd)).1 z
   have eS2:=C4 (Q1:=Q1) (Q2:=Q2) hg12;rw[eE] at eS2;have fd:D.find (.int g) (aL (aV (Q1++g::Q2)))=some A.length:=by rw[eL,lR (by simp),kl hgA]
   have er:(aL (aV (Q1++g::Q2))).eraseIdx A.length=aL (aV (Q1++Q2)):=by rw[eL,DF,eS2]
   have isI:=Bc (aV (Q1++g::Q2));have lS:(aL (aV (Q1++g::Q2))).length<=SL:=by rw[fV]; omega
   generalize aL (aV (Q1++g::Q2))=LS at cc fd er isI lS hlenS;have hrl:res.length<=36:=by
    have h1:=congrArg List.length he;have h2:=hT.perm.length_eq;simp at h1;omega
   have jk:aZ (((g::t).map λa=>((0:Nat),D.int (a:Nat))))=98:=uu λx hx=>by
    obtain⟨c,_,rfl⟩:=bV hx;simp
   refine Ou.setK (x:=(99,.lst (aL (g::t)))) ?_ ?_ ?_
   .simp[cc,lS,aL,Function.comp_def];simpa using jk
   .simp[aL]
   have i0:aS (.lst (aL (g::t))) (.int 0)=o0 (.int (g:Nat)):=BY (A:=[]) (B:=t) (a:=g);have hn0:(aL (g::t)).length=t.length+1:=by rw[fV]; rfl
   refine Ou.iffN (j:=99) (by simp[hn0,D.eq]; omega) ?_;generalize D.lst (aL (g::t))=RD at i0;refine Ou.append (k:=0) (xs:=aL res) (v:=(0,.int (g:Nat))) rfl (by simp[-aS,i0]) (by rw[fV]; omega) ?_;refine Ou.low (a':=[o0 (wd p cs),o0 (wrD (aK cs p O)),some (1,.lst (aL (res++[g]))),some (1,.lst LS),o0 RD]) (.of_eq (by simp[frz,frz1,aL])) ?_;refine Ou.remove (k:=0) (p:=A.length) (jj:=0) (n:=(g:Nat)) (xs:=LS) rfl (by simp[-aS,i0]) isI fd ?_;rw[er];refine Ou.nil ⟨o0 RD,res++[g],Q1++Q2,ee,by simp,hTo,by simpa using he,λj=>?_,λx hx=>?_,λx hx=>hsub x ?_,?_,rfl⟩
   .have e1:=hr j;rw[Fl (hd j)] at e1;have e4:aP cs j (res++[g])=aP cs j res++aP cs j [g]:=gz cs j res [g];have e5:aP cs j [g]=if (j:Int)∈covA cs g then [g] else []:=ij cs j g []
    rw[e1,e4,e5];by_cases hj:(j:Int)∈covA cs g
    .rw[if_pos hj,if_pos hj]; simp
    .rw[if_neg hj,if_neg hj]; simp
   .rcases cO hx with hx | hx
    .intro z;exact hdj x hx (by rcases cO z with z | z <;> simp[z])
    .rw[HN.mp hx]; exact hg12
   .rcases cO hx with z | z <;> simp[z]
   .have hpm:(Q1++g::Q2).Perm (g::(Q1++Q2)):=J4;exact (HZ.mp (hpm.nodup_iff.mp hnd)).2)
 exact⟨j,e,hj⟩
end Ip
end
section
namespace Ip
open PySem (Str)
noncomputable def aR (p:Nat)(cs:ab)(Z:af):D:=.tup (Z.map λO=>wrD (aK cs p O))
structure Sg (cs:ab)(Z:af):Prop where
 nd:Z.flatten.Nodup
 lt:∀g∈Z.flatten,g<cs.length
section
variable {p:Nat}{cs:ab}{Z:af}{g q:Nat}{O:ak}
def Sg.wn (h:Sg cs Z)(hO:O∈Z):Wn cs O:=⟨h.nd.sublist (List.sublist_flatten_of_mem hO),λg hg=>h.lt g (Iw.mpr ⟨O,hO,hg⟩)⟩
noncomputable def fU (Z:af)(g:Nat):aC:=Z.findIdx? λO=>decide (g∈O)
noncomputable def dC (Z:af)(g:Nat):D:=match fU Z g with
 | some i=>.int i
 | none=>.non
def oU:fU Z g=none↔g∉Z.flatten:=by
 unfold fU;rw[List.findIdx?_eq_none_iff,Iw];simp
def BM (h:fU Z g=some i):∃O,Z[i]? = some O/\g∈O:=by
 unfold fU at h;obtain⟨hi,h1,_⟩:=IL.mp h;exact⟨Z[i],HI hi,HY h1⟩
def mW (h:Z[q]? = some O)(hg:g∈O):g∈Z.flatten:=Iw.mpr ⟨O,HL h,hg⟩
def mE (nd:Z.flatten.Nodup)(h:Z[q]? = some O)(hg:g∈O):fU Z g=some q:=by
 induction Z generalizing q with
 | nil=>cases h
 | cons P Z ih=>
  rw[List.flatten_cons] at nd;obtain⟨n1,n2,n3⟩:=HV.mp nd;unfold fU;rw[JK];cases q with
  | zero=>
   cases h;rw[if_pos (HS hg)]
  | succ q=>
   have h':Z[q]? = some O:=h;have:g∉P:=λz=>n3 g z g (mW h' hg) rfl;rw[if_neg (by simpa using this)];have:=ih n2 h';unfold fU at this;rw[this];rfl
def rR (h:Z[q]? = some O):∃A B:af,Z=A++O::B/\Z.set q O'=A++O'::B:=by
 obtain⟨hq,e⟩:=dg h;refine⟨Z.take q,Z.drop (q+1),?_,?_⟩
 .rw[<-e,<-IE hq,Jd]
 .rw[Kj,if_pos hq]
def Sg.on (s:Sg cs Z)(h:Z[q]? = some O)(hg:g<cs.length)(hn:fU Z g=none):Sg cs (Z.set q (O++[g])):=by
 obtain⟨A,B,e1,e2⟩:=rR (O':=O++[g]) h;have pm:(Z.set q (O++[g])).flatten.Perm (g::Z.flatten):=by
  rw[e2,e1];simp only[Ka,List.flatten_cons];have:(A.flatten++(O++[g]++B.flatten))=(A.flatten++O)++g::B.flatten:=by simp
  rw[this];refine J4.trans ?_;simp
 refine⟨pm.nodup_iff.mpr (HZ.mpr ⟨oU.mp hn,s.nd⟩),λx hx=>?_⟩;rcases bQ (pm.mem_iff.mp hx) with rfl | hx
 .exact hg
 .exact s.lt x hx
def Sg.off (s:Sg cs Z)(h:Z[q]? = some O):Sg cs (Z.set q (rmv g O)):=by
 obtain⟨A,B,e1,e2⟩:=rR (O':=rmv g O) h;have sb:(Z.set q (rmv g O)).flatten.Sublist Z.flatten:=by
  rw[e2,e1];simp only[Ka,List.flatten_cons];exact .append (.refl _) (.append KU (.refl _))
 exact⟨s.nd.sublist sb,λx hx=>s.lt x (sb.subset hx)⟩
inductive Dd (cs:ab) (Z:af):D->af->Prop
 | on {q g:Nat} {O:ak} (hO:Z[q]? = some O) (hg:g<cs.length) (h:fU Z g=none):Dd cs Z (.tup [.int q,.str "on",.int g]) (Z.set q (O++[g]))
 | off {q g:Nat} {O:ak} (hO:Z[q]? = some O) (h:g∈O) (e:ki cs O g=[]):Dd cs Z (.tup [.int q,.str "off",.int g]) (Z.set q (rmv g O))
def Dd.good (s:Sg cs Z)(h:Dd cs Z d Z'):Sg cs Z'/\Z'.length=Z.length:=by
 cases h with
 | on hO hg h=>exact⟨s.on hO hg h,by simp⟩
 | off hO h e=>exact⟨s.off hO,by simp⟩
end
def gZ {p:Nat}{cs:ab}{Z:af}{i:Nat}{O:ak}(h:Z[i]? = some O):aS (aR p cs Z) (.int i)=o0 (wrD (aK cs p O)):=by
 obtain⟨hi,e⟩:=dg h;have h':(i:Int)<Z.length:=by omega
 simp[aR,aS,dB,h',hi,e]
def Bn (p:Nat)(cs:ab)(Z:af)(q:Nat)(O:ak):aR p cs (Z.set q O)=.tup ((Z.map λO=>wrD (aK cs p O)).set q (wrD (aK cs p O))):=by rw[aR,List.map_set]
def yj (p:Nat)(cs:ab)(Z:af):cV .enum [(0,aR p cs Z)]=some ((List.range' 0 Z.length).map λ(n:Nat)=>D.tup [.int n,wrD (aK cs p (Z.getD n []))]):=by
 show some ((Z.map λO=>wrD (aK cs p O)).mapIdx λn d=>D.tup [.int n,d])=_;congr 1
 refine Ji λj=>?_;rw[IQ,HR,HR];by_cases hj:j<Z.length
 .rw[HI hj,List.getElem?_range' hj];simp[hj]
 .rw[Ik (by omega),Ik (by simp; omega)];rfl
def GK {Z:af}{g i:Nat}(hi:i<Z.length)(h:g∈Z[i])(hn:∀j (hj:j<Z.length),j<i->g∉Z[j]):dC Z g=.int i:=by
 have:fU Z g=some i:=by
  unfold fU;rw[IL];exact⟨hi,HS h,λj hj=>by simpa using hn j (by omega) hj⟩
 simp[dC,this]
def BN (hn:∀j (hj:j<Z.length),g∉Z[j]):dC Z g=.non:=by
 have:fU Z g=none:=by
  rw[oU,Iw];rintro⟨O,hO,hg⟩;obtain⟨j,hj,rfl⟩:=List.mem_iff_getElem.mp hO;exact hn j hj hg
 simp[dC,this]
def kO:(D.str "on").pur 60=true:=by decide +kernel
def mJ:(D.str "off").pur 60=true:=by decide +kernel
def pk:(D.str "on").eq (.str "on")=true:=by decide +kernel
def sD:(D.str "off").eq (.str "on")=false:=by decide +kernel
def FA (r:ak):cutOp none (some (-1)) (aQ r)=o0 (aQ r.dropLast):=by simp only[aQ,cutOp,Ap,zi]
def Bt {p:Nat}{cs:ab}{O:ak}(C:Cv p cs)(w:Wn cs O)(g:Nat):((aK cs p O).any λr=>decide (g∈r))=decide (g∈O):=by
 rw[IX];simp only[KI,Ig];constructor
 .rintro⟨r,hr,hg⟩;exact mo (Iw.mpr ⟨r,hr,hg⟩)
 .intro h;exact Iw.mp (BD C w h)
def G9 {p:Nat}{cs:ab}{Z:af}{q:Nat}{O:ak}(hq:q<Z.length)(hl:Z.length<=3):addD (.tup ((Z.map λO=>wrD (aK cs p O)).take q)) (.tup [wrD (aK cs p O)])=o0 (.tup ((Z.map λO=>wrD (aK cs p O)).take q++[wrD (aK cs p O)]))/\addD (.tup ((Z.map λO=>wrD (aK cs p O)).take q++[wrD (aK cs p O)])) (.tup ((Z.map λO=>wrD (aK cs p O)).drop (q+1)))=o0 (aR p cs (Z.set q O)):=by
 have h9:9<=SL:=by decide
 rw[Bn];have hl':(Z.map λO=>wrD (aK cs p O)).length<=3:=by simpa using hl
 have hq':q<(Z.map λO=>wrD (aK cs p O)).length:=by simpa using hq
 generalize (Z.map λO=>wrD (aK cs p O))=L at hl' hq';generalize wrD (aK cs p O)=W;constructor
 .have:(L.take q).length+[W].length<=SL:=by simp; omega
  simp only[addD];rw[if_pos this]
 .have:(L.take q++[W]).length+(L.drop (q+1)).length<=SL:=by simp; omega
  simp only[addD];rw[if_pos this,Kj,if_pos hq'];simp
def yA (G:Pg)(cl:Nat->aw->Run)(W:af)(g:Nat):aW (compF G cl [none,none,some (.int g)] (.one 1) [] (.op .isin [(.var 2),(.var 1)])) (W.map aQ)=.ok (W.map λr=>(99,.bl (decide (g∈r)))):=
 gN λr _=>by
  have:=k8 r;simp[-List.all_eq_true,compF,aQ,ko,this]
theorem tK (x:α):∀n:Nat,(List.replicate n [x]).flatten=List.replicate n x
 | 0=>rfl
 | n+1=>by rw[List.replicate_succ,List.flatten_cons,tK x n]; rfl
def mul_one {x:D}{m:Nat}(hm:1<=m/\m<=6):dM (.tup [x]) (.int m)=o0 (.tup (List.replicate m x)):=by
 have h3:[x].length * (m:Int).toNat<=SL:=by
  have:6<=SL:=by decide
  simp; omega
 have c:[x].isEmpty=false/\1<=(m:Int)/\(m:Int)<=1000/\[x].length * (m:Int).toNat<=SL:=⟨rfl,by omega,by omega,h3⟩
 simp only[dM];rw[if_pos c,Int.toNat_natCast,tK]
def yK {p m:Nat}(cs:ab)(hp:1<=p/\p<=6)(hm:1<=m/\m<=6):dM (.tup [.tup []]) (.int p)=o0 (wrD (aK cs p []))/\dM (.tup [wrD (aK cs p [])]) (.int m)=o0 (aR p cs (List.replicate m [])):=by
 have h1:=mul_one (x:=.tup []) hp;have h2:=mul_one (x:=wrD (aK cs p [])) hm;have e0:aK cs p []=List.replicate p []:=List.eq_replicate_iff.mpr ⟨lh _ _ _,by simp[aK,aP]⟩;have e1:wrD (aK cs p [])=.tup (List.replicate p (.tup [])):=by
  rw[e0,wrD,K4]; rfl
 have e2:aR p cs (List.replicate m [])=.tup (List.replicate m (wrD (aK cs p []))):=by
  rw[aR,K4]
 rw[e2];exact⟨by rw[h1,e1],h2⟩
def xo (hp:1<=p/\p<=6)(hm:cs.length<=6)(ok:∀c∈cs,OkC p c):Cv p cs:=by
 have h:∀g,covA cs g=[]/\cs.length<=g\/OkC p (covA cs g):=λg=>by
  unfold covA;rw[HM];by_cases hg:g<cs.length
  .rw[HI hg]; exact .inr (ok _ (Ii hg))
  .rw[Ik (by omega)]; exact .inl ⟨rfl,by omega⟩
 refine⟨hp.1,hp.2,hm,λg hg=>?_,λg i hi=>?_,λg=>?_,λg=>?_⟩
 .rcases h g with ⟨_,e⟩ | o
  .omega
  .exact o.ne
 .rcases h g with ⟨e,_⟩ | o
  .rw[e] at hi; cases hi
  .exact o.rg i hi
 .rcases h g with ⟨e,_⟩ | o
  .rw[e]; exact .nil
  .exact o.nd
 .rcases h g with ⟨e,_⟩ | o
  .rw[e]; simp
  .exact o.ln
def rC (f:α->β)(xs:List α)(lo hi:Option Int):cutD (xs.map f) lo hi=(cutD xs lo hi).map f:=by
 simp[cutD,List.map_take,List.map_drop]
def xS {r:ak}{x:Nat}:aS (aQ (r++[x])) (.int (-1))=o0 (.int x):=by
 have:=Dq (n:=r.length+1) (by omega);simp[aQ,aS,aL,this]
def EW (c:am):(c.map D.int).all (D.pur 60)=true:=by simp
variable {G:Pg}(P:Pm G)
include P
def vg (n k k':Nat)(p:Nat)(cs:ab)(Z:af)(g:Nat)(C:Cv p cs)(s:Sg cs Z)(hl:Z.length<=3):∃j,run G (n+1) 115 [(k,aR p cs Z),(k',.int g)]=.ret j (dC Z g) []:=by
 have hl':Z.length<=SL:=bv hl (by decide);refine Ou.rq P.f115 ?_;show Ou _ _ _ [o0 (aR p cs Z),o0 (.int g),none] _ _ _;refine Ou.fo (λr a=>∃(x2:az) (i l:Nat),a=[o0 (aR p cs Z),o0 (.int g),x2]/\r=(List.range' i l).map (λ(n:Nat)=>D.int n)/\i+l=Z.length/\∀j (hj:j<Z.length),j<i->g∉Z[j]) (vs:=[(99,.int Z.length)]) (by simp[aR]) (wk_rng1 hl') (by simpa using hl') ⟨none,0,Z.length,by simp,by rw[Jf],by omega,λj hj h=>by omega⟩ ?_ ?_
 .rintro x r a ⟨x2,i,l,ha,hr,hil,hn⟩;cases l with
  | zero=>simp at hr
  | succ l=>
   rw[J3,HQ,IK] at hr;obtain⟨rfl,rfl⟩:=hr;subst ha;have hi:i<Z.length:=by omega
   have ix:=gZ (p:=p) (cs:=cs) (HI hi);have cc:=yA G (run G n) (aK cs p Z[i]) g;have hws:(aK cs p Z[i]).length<=SL:=by rw[lh]; exact bv C.p6 (by decide)
   have hsq:(wrD (aK cs p Z[i])).seq=some ((aK cs p Z[i]).map aQ):=rfl;have an:=ya (λr=>decide (g∈r)) (aK cs p Z[i]);rw[Bt C (s.wn (Ii hi)) g] at an;refine⟨_,dS rfl,?_⟩;have hev:∀a:Fr,a=[o0 (aR p cs Z),o0 (.int g),o0 (.int i)]->eval G (run G n) a.sl (.op .any [(.comp [none,none,(some 1)] (.one 1) .seq [(.op .ix [(.var 0),(.var 2)])] [] (.op .isin [(.var 2),(.var 1)]))])=.ok (99,.bl (decide (g∈Z[i]))):=by
    intro a ea;subst ea;generalize aR p cs Z=T at ix;generalize wrD (aK cs p Z[i])=Y at ix hsq;simp[-aS,-D.seq,ix,hsq,cc,hws,Function.comp_def,an]
   by_cases hb:g∈Z[i]
   .rw[HS hb] at hev;refine Ou.iffT (j:=99) (hev _ rfl) ?_;exact Ou.ret (x:=(0,.int i)) rfl (GK hi hb hn).symm
   .rw[Il hb] at hev;refine Ou.iffN (j:=99) (hev _ rfl) ?_;refine Ou.nil ⟨o0 (.int i),i+1,l,by simp,rfl,by omega,λj hj h=>?_⟩;by_cases e:j=i
    .subst e; exact hb
    .exact hn j hj (by omega)
 .rintro a ⟨x2,i,l,ha,hr,hil,hn⟩;subst ha;have hl0:l=0:=by
   cases l with
   | zero=>rfl
   | succ l=>rw[J3] at hr; simp at hr
  subst hl0;exact Ou.ret (x:=(99,.non)) rfl (BN λj hj=>hn j hj (by omega)).symm
def uT (n k k' k'':Nat)(p:Nat)(cs:ab)(Z:af)(C:Cv p cs)(s:Sg cs Z)(hl3:Z.length<=3)(q g:Nat)(O O':ak)(hO:Z[q]? = some O)(hg:g<cs.length)(w:Str)(f:ak->ak)
  (hw:w = "on" /\ f=(λr=>r++[g])\/w = "off" /\ f=List.dropLast)(hmod:fm f (covA cs g) (aK cs p O)=aK cs p O'):∃j,run G (n+1) 117 [(k,aR p cs Z),(k',.tup [.int q,.str w,.int g]),(k'',aM cs)]=.ret j (aR p cs (Z.set q O')) []:=by
 have hq:q<Z.length:=(dg hO).1;have wn:=s.wn (HL hO);have hl:p<=SL:=bv C.p6 (by decide);have ix1:=gZ (p:=p) (cs:=cs) hO;have ix2:=jX hg;have hsq:(wrD (aK cs p O)).seq=some ((aK cs p O).map aQ):=rfl;have hsl:((aK cs p O).map aQ).length=p:=by rw[HG,lh]
 have hsS:aR p cs Z=.tup (Z.map λO=>wrD (aK cs p O)):=rfl;have c1:=kY (Z.map λO=>wrD (aK cs p O)) q;have c2:=nN (Z.map λO=>wrD (aK cs p O)) (q+1);have e2:((q+1:Nat):Int)=(q:Int)+1:=by omega
 rw[e2] at c2;have ct1:cutOp none (some (q:Int)) (aR p cs Z)=o0 (.tup ((Z.map λO=>wrD (aK cs p O)).take q)):=by simp only[hsS,cutOp,c1]
 have ct2:cutOp (some ((q:Int)+1)) none (aR p cs Z)=o0 (.tup ((Z.map λO=>wrD (aK cs p O)).drop (q+1))):=by simp only[hsS,cutOp,c2]
 obtain⟨a1,a2⟩:=G9 (p:=p) (cs:=cs) (O:=O') hq hl3;have hrow:∀i,i<p->aS (wrD (aK cs p O)) (.int i)=o0 (aQ (aP cs i O)):=λi hi=>gR hi;have hlen:(aK cs p O').length=p:=lh _ _ _;have hget:∀i,i<p->(aK cs p O')[i]? = some (if (i:Int)∈covA cs g then f (aP cs i O) else aP cs i O):=λi hi=>by
  rw[<-hmod,sZ f _ _ (C.nd g) (λi hi=>by rw[lh]; exact C.rg g i hi)];simp[aK,hi]
 have hrl:∀i,(aP cs i O).length<=6:=λi=>bv (HW _ _) (wn.len C);have ewr:wrD (aK cs p O')=.tup ((aK cs p O').map aQ):=rfl;rw[ewr] at a1 a2;generalize hR:aR p cs (Z.set q O')=R at a2;generalize aR p cs Z=T at ix1 ct1 ct2;generalize wrD (aK cs p O)=Y at ix1 hsq hrow;generalize aM cs=K at ix2;generalize aK cs p O'=W' at *;generalize (Z.map λO=>wrD (aK cs p O)).take q=S1 at *;generalize (Z.map λO=>wrD (aK cs p O)).drop (q+1)=S2 at *;generalize covA cs g=c at *;refine Ou.rq P.f117 ?_;show Ou _ _ _ [o0 T,o0 (.tup [.int q,.str w,.int g]),o0 K,none,none,none,none,none,none] _ _ _;refine Ou.setT (j:=0) (ds:=[.int q,.str w,.int g]) (by simp) ?_;refine Ou.setK (x:=(99,.lst [])) (by simp) (by simp) ?_;refine Ou.low (a':=[o0 T,o0 (.tup [.int q,.str w,.int g]),o0 K,o0 (.int q),o0 (.str w),o0 (.int g),some (1,.lst []),none,none]) (.cons (.refl _) (.cons (.refl _) (.cons (.refl _) (.cons (.refl _) (.cons (.refl _) (.cons (.refl _) (.cons ⟨rfl,by decide⟩ (.refl _)))))))) ?_;refine Ou.fo (λr a=>∃(x7 x8:az) (i l:Nat),a=[o0 T,o0 (.tup [.int q,.str w,.int g]),o0 K,o0 (.int q),o0 (.str w),o0 (.int g),some (1,.lst ((W'.take i).map aQ)),x7,x8]/\r=(List.range' i l).map (λ(n:Nat)=>D.int n)/\i+l=p) (vs:=[(99,.int p)]) (by simp only[HG] at hsl; simp[-aS,-D.seq,ix1,hsq,hsl]) (wk_rng1 hl) (by simpa using hl) ⟨none,none,0,p,by simp,by rw[Jf],by omega⟩ ?_ ?_
 .rintro x r a ⟨x7,x8,i,l,ha,hr,hil⟩;cases l with
  | zero=>simp at hr
  | succ l=>
   rw[J3,HQ,IK] at hr;obtain⟨rfl,rfl⟩:=hr;subst ha;have hi:i<p:=by omega
   have ix3:=hrow i hi;have hg:=hget i hi;have hln:=hrl i;generalize aP cs i O=row at ix3 hg hln;have mb:=oz i c;have sc:=EW c;refine⟨_,dS rfl,?_⟩;refine Ou.set (x:=(0,aQ row)) (by simp[-aS,ix1,ix3]) ?_;have fin:∀(row':ak) (a:Fr),W'[i]? = some row'->a=[o0 T,o0 (.tup [.int q,.str w,.int g]),o0 K,o0 (.int q),o0 (.str w),o0 (.int g),some (1,.lst ((W'.take i).map aQ)),o0 (.int i),o0 (aQ row')]->Ou G (run G n) [] a [.mut 6 [] .append [(.var 8)]] (λa=>∃(x7 x8:az) (i' l':Nat),a=[o0 T,o0 (.tup [.int q,.str w,.int g]),o0 K,o0 (.int q),o0 (.str w),o0 (.int g),some (1,.lst ((W'.take i').map aQ)),x7,x8]/\(List.range' (i+1) l).map (λ(n:Nat)=>D.int n)=(List.range' i' l').map (λ(n:Nat)=>D.int n)/\i'+l'=p) (λd=>d=R):=by
    intro row' a eg ea;subst ea;refine Ou.append (k:=0) (xs:=(W'.take i).map aQ) (v:=(0,aQ row')) (by simp[frz,frz1]) (by simp) ?_ ?_
    .rw[HG,Ir,hlen];omega
    .refine Ou.nil ⟨o0 (.int i),o0 (aQ row'),i+1,l,?_,rfl,by omega⟩;have:W'.take (i+1)=W'.take i++[row']:=by rw[List.take_succ,eg]; rfl
     rw[this];simp[frz,frz1]
   by_cases hb:(i:Int)∈c
   .rw[if_pos hb] at hg;refine Ou.iffT (j:=99) (by simp[-aS,-List.all_eq_true,ix2,mb,sc,hb]) ?_;have ct:=FA row;have ad:=Cq (r:=row) (g:=g) (by omega);have op:=kO;have fp:=mJ;have oo:=pk;have fo:=sD;rcases hw with ⟨rfl,rfl⟩ | ⟨rfl,rfl⟩
    .refine Ou.set (x:=(0,aQ (row++[g]))) ?_ (Ou.nil ?_)
     .generalize aQ row=Y at ct ad;generalize aQ (row++[g])=Y2 at ad;generalize D.str "on" = E at op oo;simp[-addD,-cutOp,-aS,ct,ad,op,oo];simp[dB]
     .exact fin _ _ hg (by simp)
    .refine Ou.set (x:=(0,aQ row.dropLast)) ?_ (Ou.nil ?_)
     .generalize aQ row=Y at ct ad;generalize aQ (row++[g])=Y2 at ad;generalize aQ row.dropLast=Y3 at ct;generalize D.str "on" = E at op fo;generalize D.str "off" = F at fp fo;simp[-addD,-cutOp,-aS,ct,ad,op,fo,fp];simp[dB]
     .exact fin _ _ hg (by simp)
   .rw[if_neg hb] at hg;refine Ou.iffN (j:=99) (by simp[-aS,-List.all_eq_true,ix2,mb,sc,hb]) ?_;exact fin _ _ hg (by simp)
 .rintro a ⟨x7,x8,i,l,ha,hr,hil⟩;have hl0:l=0:=by
   cases l with
   | zero=>rfl
   | succ l=>rw[J3] at hr; simp at hr
  subst hl0 ha;have:W'.take i=W':=Jm (by omega);rw[this];have a0:addD (.int q) (.int 1)=some (99,.int ((q:Int)+1)):=rfl;exact Ou.ret (x:=(0,R)) (by simp[-addD,-cutOp,ct1,ct2,a0,a1,a2]) rfl
def uP (n k k' k'':Nat)(p:Nat)(cs:ab)(Z Z':af)(d:D)(C:Cv p cs)(s:Sg cs Z)(hl:Z.length<=3)(h:Dd cs Z d Z'):∃j,run G (n+1) 117 [(k,aR p cs Z),(k',d),(k'',aM cs)]=.ret j (aR p cs Z') []:=by
 cases h with
 | on hO hg h=>exact uT P n k k' k'' p cs Z C s hl _ _ _ _ hO hg _ _ (.inl ⟨rfl,rfl⟩) (by rw[<-vT]; exact CD C)
 | off hO h e=>
  have w:=s.wn (HL hO);exact uT P n k k' k'' p cs Z C s hl _ _ _ _ hO (w.lt _ h) _ _ (.inr ⟨rfl,rfl⟩) (Eg C w.nd h e)
def Eo (n k k' k'':Nat)(p:Nat)(c:Int)(cs:ab)(Z:af)(C:Cv p cs)(s:Sg cs Z)(hl:1<=Z.length/\Z.length<=3) :
  ∃j d,run G (n+2) 116 [(k,.int c),(k',aR p cs Z),(k'',aM cs)]=.ret j d []/\(d=.non\/∃Z',Dd cs Z d Z'):=by
 have key:Ou G (run G (n+1)) [] [o0 (.int c),o0 (aR p cs Z),o0 (aM cs),none,none] pI.body (λ_=>False) (λd=>d=.non\/∃Z',Dd cs Z d Z'):=by
  by_cases h0:cs.length=0
  .refine Ou.iffT (j:=99) (by simp[aM,h0,D.eq]) ?_;exact Ou.ret (x:=(99,.non)) rfl (.inl rfl)
  .have hne:¬cs=[]:=λe=>h0 (by rw[e]; rfl);refine Ou.iffN (j:=99) (by simp[aM,D.eq,hne]) ?_;obtain⟨g',j1,q1,hg0,hg1⟩:=kX P.d n 0 99 99 c 21 cs.length (by omega) (by decide);obtain⟨g,rfl⟩:∃g:Nat,g'=(g:Int):=⟨g'.toNat,by omega⟩
   have hg:g<cs.length:=by omega
   refine Ou.set (x:=(j1,.int g)) (by simp[aM,P.d.f71,gK,q1]) ?_;obtain⟨j2,q2⟩:=vg P n 0 0 p cs Z g C s hl.2;refine Ou.set (x:=(j2,dC Z g)) (by simp[P.f115,nE,q2]) ?_;unfold dC;cases e:fU Z g with
   | none=>
    refine Ou.iffT (j:=99) rfl ?_;obtain⟨q',j3,q3,hq0,hq1⟩:=kX P.d n 0 99 99 c 22 Z.length (by omega) (by decide);obtain⟨q,rfl⟩:∃q:Nat,q'=(q:Int):=⟨q'.toNat,by omega⟩
    have hq:q<Z.length:=by omega
    refine Ou.ret (x:=(99,.tup [.int q,.str "on",.int g])) (by simp[aR,P.d.f71,gK,q3]) ?_;exact .inr ⟨_,.on (HI hq) hg e⟩
   | some i=>
    obtain⟨O,hO,hb⟩:=BM e;have w:=s.wn (HL hO);refine Ou.iffN (j:=99) rfl ?_;have ix1:=gZ (p:=p) (cs:=cs) hO;have ix2:=jX hg;have hcS:(covA cs g).length<=SL:=bv (C.ln g) (by decide);have hsp:∀x∈covA cs g,∃r y,aP cs x.toNat O=r++[y]:=λx hx=>by
     have hin:g∈aP cs x.toNat O:=HK.mpr ⟨hb,HS (by rw[Iv (C.rg g x hx).1]; exact hx)⟩;have hne:aP cs x.toNat O≠[]:=λe=>by rw[e] at hin; cases hin
     exact⟨_,_,(JP hne).symm⟩
    have cc:aW (compF G (run G (n+1)) [none,none,some (.int g),some (.int i),some (aR p cs Z)] (.one 1) [] (.op .eq [(.op .ix [(.op .ix [(.op .ix [(.var 4),(.var 3)]),(.var 1)]),(.op .neg [(.cst (.int (1)))])]),(.var 2)])) ((covA cs g).map .int)=.ok ((covA cs g).map λx=>(99,.bl (decide ((aP cs x.toNat O).getLastD 0=g)))):=by
     refine gN λx hx=>?_;obtain⟨r,y,er⟩:=hsp x hx;have hr:=C.rg g x hx;have ix3:=gR (cs:=cs) (O:=O) (show x.toNat<p by omega);rw[er,Iv hr.1] at ix3;have ix4:=xS (r:=r) (x:=y);rw[er];generalize aQ (r++[y])=R at ix3 ix4;generalize aR p cs Z=T at ix1;generalize wrD (aK cs p O)=Y at ix1 ix3;simp[-aS,compF,ix1,ix3,ix4,D.eq];omega
    have al:=m8 (λx:Int=>decide ((aP cs x.toNat O).getLastD 0=g)) (covA cs g);generalize hT:aR p cs Z=T at cc;generalize hK:aM cs=K at ix2;have hev:∀a:Fr,a=[o0 (.int c),o0 T,o0 K,o0 (.int g),o0 (.int i)]->eval G (run G (n+1)) a.sl (.op .all [(.comp [none,none,(some 3),(some 4),(some 1)] (.one 1) .seq [(.op .ix [(.var 2),(.var 3)])] [] (.op .eq [(.op .ix [(.op .ix [(.op .ix [(.var 4),(.var 3)]),(.var 1)]),(.op .neg [(.cst (.int (1)))])]),(.var 2)]))])=.ok (99,.bl ((covA cs g).all λx:Int=>decide ((aP cs x.toNat O).getLastD 0=g))):=by
     intro a ea;subst ea;simp[-aS,-List.all_eq_true,ix2,cc,hcS,Function.comp_def]
    cases hb2:(covA cs g).all λx:Int=>decide ((aP cs x.toNat O).getLastD 0=g) with
    | true=>
     rw[hb2] at hev;refine Ou.iffT (j:=99) (hev _ rfl) ?_;refine Ou.ret (x:=(99,.tup [.int i,.str "off",.int g])) rfl ?_;refine .inr ⟨_,.off hO hb (yH (λi hi=>(C.rg g i hi).1) w.nd λj hj=>?_)⟩;obtain⟨r,y,er⟩:=hsp _ hj;have:=dQ hb2 _ hj;rw[er] at this;rw[Int.toNat_natCast] at er;have e3:y=g:=by simpa using this
     rw[e3] at er;exact⟨r,er⟩
    | false=>
     rw[hb2] at hev;refine Ou.iffN (j:=99) (hev _ rfl) ?_;exact Ou.ret (x:=(99,.non)) rfl (.inl rfl)
 obtain⟨j,d,e,h⟩:=Ou.rv (vs:=[(k,.int c),(k',aR p cs Z),(k'',aM cs)]) P.f116 key;exact⟨j,d,e,h⟩
end Ip
end
section
namespace Ip
open PySem (Str)
noncomputable def pf (g:Nat)(l:ak):ak:=l.take (l.idxOf g)
def h8 (h:g∉A):pf g (A++g::B)=A:=by
 unfold pf;rw[kl h,List.take_left]
def wL (h:u∈pf g l):u∈l:=KP h
def xD (h:g∈l):l.take (l.idxOf g+1)=m.take (l.idxOf g+1)↔g∈m/\pf g l=pf g m:=by
 obtain⟨A,B,rfl,hA⟩:=Iu h;have e1:∀B:ak,(A++g::B).take (A.length+1)=A++[g]:=λB=>by
  rw[List.take_append,Jm (by omega)];simp
 rw[kl hA,h8 hA,e1];constructor
 .intro e;have em:m=A++g::m.drop (A.length+1):=by
   conv=>lhs; rw[<-Jd (A.length+1) m,<-e]
   simp
  rw[em];exact⟨by simp,(h8 hA).symm⟩
 .rintro⟨hm,e⟩;obtain⟨A',B',rfl,hA'⟩:=Iu hm;rw[h8 hA'] at e;subst e;exact (e1 _).symm
inductive Sy (cs:ab) (A B:ak):Nat->Prop
 | mk {g:Nat} (hg:g∈A) (h1:∀j:Nat,(j:Int)∈covA cs g->g∈aP cs j B/\pf g (aP cs j A)=pf g (aP cs j B)) (h2:∀j:Nat,(j:Int)∈covA cs g->∀u∈pf g (aP cs j A),Sy cs A B u):Sy cs A B g
section
variable {p:Nat}{cs:ab}{A B:ak}{g:Nat}
def Sy.lf (h:Sy cs A B g):g∈A:=by cases h; assumption
def iJ {j:Nat}(h:g∈A)(hj:(j:Int)∈covA cs g):g∈aP cs j A:=HK.mpr ⟨h,HS hj⟩
def Sy.rt (C:Cv p cs)(w:Wn cs A)(h:Sy cs A B g):g∈B:=by
 cases h with
 | mk hg h1 _=>
  cases e:covA cs g with
  | nil=>exact absurd e (C.ne g (w.lt g hg))
  | cons i c=>
   have hi:i∈covA cs g:=by rw[e]; exact bN
   have:=(h1 i.toNat (by rw[Iv (C.rg g i hi).1]; exact hi)).1;exact (HK.mp this).1
theorem Sy.symm (C:Cv p cs)(w:Wn cs A)(h:Sy cs A B g):Sy cs B A g:=by
 induction h with
 | mk hg h1 h2 ih=>exact .mk (Sy.rt C w (.mk hg h1 h2)) (λj hj=>⟨iJ hg hj,(h1 j hj).2.symm⟩) λj hj u hu=>ih j hj u (by rw[(h1 j hj).2]; exact hu)
def oB {j:Nat}{P R:ak}(hg:g∉P)(hj:(j:Int)∈covA cs g):pf g (aP cs j (P++g::R))=aP cs j P:=by
 rw[gz,ij,if_pos hj];exact h8 λh=>hg (HK.mp h).1
def Sy.self (hg:g∈A):Sy cs A A g:=by
 have key:∀n g,g∈A->A.idxOf g=n->Sy cs A A g:=by
  intro n;induction n using Nat.strongRecOn with
  | _ n ih=>
   intro g hg hn;refine .mk hg (λj hj=>⟨iJ hg hj,rfl⟩) λj hj u hu=>?_;obtain⟨P,R,e,hP⟩:=Iu hg;rw[e,oB hP hj] at hu;have hu':=(HK.mp hu).1;refine ih (A.idxOf u) ?_ u (by rw[e]; exact eY _ hu') rfl;rw[<-hn,e,kl hP,K9,if_pos hu'];exact JV hu'
 exact key _ g hg rfl
def GW (j:Nat)(O:ak)(g:Nat):aP cs j (rmv g O)=rmv g (aP cs j O):=by
 unfold aP rmv; rw[II,II]; congr 1; funext x; rw[KL]
noncomputable def dD (x:Nat×Bool×Nat):D:=.tup [.int x.1,.str (if x.2.1 then "on" else "off"),.int x.2.2]
theorem Bb (q g:Nat):D.tup [.int q,.str "on",.int g]=dD (q,true,g):=rfl
theorem Ef (q g:Nat):D.tup [.int q,.str "off",.int g]=dD (q,false,g):=rfl
inductive Wy (cs:ab):List (Nat×Bool×Nat)->af->af->Prop
 | nil {Z:af}:Wy cs [] Z Z
 | on {q g:Nat} {O:ak} {Z Z':af} {ds:List (Nat×Bool×Nat)} (hO:Z[q]? = some O) (hg:g<cs.length) (h:fU Z g=none) (t:Wy cs ds (Z.set q (O++[g])) Z'):Wy cs ((q,true,g)::ds) Z Z'
 | off {q g:Nat} {O:ak} {Z Z':af} {ds:List (Nat×Bool×Nat)} (hO:Z[q]? = some O) (h:g∈O) (e:ki cs O g=[]) (t:Wy cs ds (Z.set q (rmv g O)) Z'):Wy cs ((q,false,g)::ds) Z Z'
def Wy.snoc (h:Wy cs ds Z Z')(k:Dd cs Z' d U):∃x,d=dD x/\Wy cs (ds++[x]) Z U:=by
 induction h with
 | nil=>
  cases k with
  | on hO hg h=>exact⟨_,Bb _ _,.on hO hg h .nil⟩
  | off hO h e=>exact⟨_,Ef _ _,.off hO h e .nil⟩
 | on hO hg h t ih=>
  obtain⟨x,e,w⟩:=ih k;exact⟨x,e,.on hO hg h w⟩
 | off hO h e t ih=>
  obtain⟨x,e',w⟩:=ih k;exact⟨x,e',.off hO h e w⟩
def Wy.good (h:Wy cs ds Z Z'):Sg cs Z->Sg cs Z'/\Z'.length=Z.length/\∀x∈ds,x.2.2<cs.length:=by
 induction h with
 | nil=>exact λs=>⟨s,rfl,by simp⟩
 | on hO hg h t ih=>
  intro s;obtain⟨h1,h2,h3⟩:=ih (s.on hO hg h);refine⟨h1,by simpa using h2,λx hx=>?_⟩;rcases bQ hx with rfl | hx
  .exact hg
  .exact h3 x hx
 | off hO h e t ih=>
  intro s;obtain⟨h1,h2,h3⟩:=ih (s.off hO);refine⟨h1,by simpa using h2,λx hx=>?_⟩;rcases bQ hx with rfl | hx
  .exact (s.wn (HL hO)).lt _ h
  .exact h3 x hx
def qH {Z:af}{q q':Nat}{O O' P:ak}(h:Z[q]? = some O)(k:Z[q']? = some P):(q=q'/\O=P/\(Z.set q O')[q']? = some O')\/(q≠q'/\(Z.set q O')[q']? = some P):=by
 rw[K8];by_cases e:q=q'
 .subst e;rw[h] at k;cases k;exact .inl ⟨rfl,rfl,by simp[(List.getElem?_eq_some_iff.mp h).1]⟩
 .exact .inr ⟨e,by rw[if_neg e]; exact k⟩
end
noncomputable def bu (f:Nat->Nat->Bool):Nat->af->aj
 | _,[]=>[]
 | q,e::es=>((e.filter (f q)).map λg=>(q,g))++bu f (q+1) es
theorem iz:∀{q:Nat} {es:af},x∈bu f q es↔∃i e,es[i]? = some e/\x.1=q+i/\x.2∈e/\f x.1 x.2=true
 | q,[]=>by simp[bu]
 | q,e::es=>by
  rw[bu,IA,iz (q:=q+1)];constructor
  .rintro (h | ⟨i,e',h1,h2,h3⟩)
   .obtain⟨g,hg,rfl⟩:=bV h;obtain⟨h1,h2⟩:=HK.mp hg;exact⟨0,e,rfl,rfl,h1,h2⟩
   .exact⟨i+1,e',h1,by omega,h3⟩
  .rintro⟨i,e',h1,h2,h3,h4⟩;cases i with
   | zero=>
    cases h1;obtain⟨a,b⟩:=x;obtain rfl:a=q:=h2;exact .inl (JF.mpr ⟨b,HK.mpr ⟨h3,h4⟩,rfl⟩)
   | succ i=>exact .inr ⟨i,e',h1,by omega,h3,h4⟩
theorem tQ:∀{q:Nat} {es:af},(∀e∈es,e.Nodup)->(bu f q es).Nodup
 | q,[],_=>.nil
 | q,e::es,h=>by
  rw[bu,HV];refine⟨List.Pairwise.map _ (λa b hab e=>hab (K7 e).2) ((h e bN).filter _),tQ λe' he'=>h e' (bM _ he'),λa ha b hb e=>?_⟩;subst e;obtain⟨g,_,rfl⟩:=bV ha;obtain⟨i,_,_,h2,_⟩:=iz.mp hb;simp only at h2;omega
theorem q0:∀{q:Nat} {es:af},(bu f q es).length<=es.flatten.length
 | q,[]=>by simp[bu]
 | q,e::es=>by
  have:=q0 (f:=f) (q:=q+1) (es:=es);have:=HW (f q) e;rw[bu,List.flatten_cons,HP,HP,HG];omega
theorem oY (e:ak):∀{q:Nat} {es:af},bu f q (es++[e])=bu f q es++(e.filter (f (q+es.length))).map λg=>(q+es.length,g)
 | q,[]=>by simp[bu]
 | q,e'::es=>by
  rw[List.cons_append,bu,bu,oY e (q:=q+1) (es:=es),Jx,show q+1+es.length=q+(e'::es).length by simp; omega]
section
variable {G:Pg}{cl:Nat->aw->Run}{io:ak}{a:Fr}{ss:ay}{N:Fr->Prop}{V:D->Prop}
def Ou.each (e:α->D)(l:List α)(I:List α->Fr->Prop)(h:evals G cl a.sl it=.ok vs)(hw:cV wk vs=some (l.map e))(hx:l.length<=SL)(h0:I [] (frz (wk.fz it) a))
  (step:∀pre x suf a',l=pre++x::suf->I pre a'->∃a'',(∀A,RelF A a'->∃A',bT io tg (e x) A=.nx A'/\RelF A' a'')/\Ou G cl io a'' b (I (pre++[x])) V)(k:∀a',I l a'->Ou G cl io a' ss N V):Ou G cl io a (.fo tg wk it b::ss) N V:=by
 refine Ou.fo (λr a=>∃pre suf,r=suf.map e/\l=pre++suf/\I pre a) h hw (by simpa using hx) ⟨[],l,rfl,rfl,h0⟩ ?_ ?_
 .rintro x r a' ⟨pre,suf,hr,hl,hi⟩;cases suf with
  | nil=>cases hr
  | cons y suf=>
   cases hr;obtain⟨a'',h1,h2⟩:=step pre y suf a' hl hi;exact⟨a'',h1,h2.mono (λa hI=>⟨pre++[y],suf,rfl,by rw[hl]; simp,hI⟩) (λ_ h=>h)⟩
 .rintro a' ⟨pre,suf,hr,hl,hi⟩;have:suf=[]:=by simpa using hr.symm
  subst this;rw[IS] at hl;exact k a' (hl ▸ hi)
end
theorem wY:∀a b:ak,D.eqs (aL a) (aL b)=decide (a=b)
 | [],[]=>by simp[D.eqs,aL]
 | [],_::_=>by simp[D.eqs,aL]
 | _::_,[]=>by simp[D.eqs,aL]
 | x::a,y::b=>by
  have ih:=wY a b;unfold aL at ih ⊢;rw[HQ,HQ,D.eqs,ih];have h:((x:Int)=y)↔x=y:=by omega
  simp[D.eq,h]
def pT (a b:ak):(aQ a).eq (aQ b)=decide (a=b):=by simp only[aQ,D.eq]; exact wY a b
def oX (a:ak):(aQ a).pur 60=true:=by simp[aQ,aL]
def l5 (r:ak)(k:Nat):cutOp none (some (k:Int)) (aQ r)=o0 (aQ (r.take k)):=by
 simp only[aQ,cutOp,kY];simp[aL]
def Rs (cs:ab)(A B st:ak)(g:Nat):Prop:=∀j:Nat,(j:Int)∈covA cs g->(g∈aP cs j B/\pf g (aP cs j A)=pf g (aP cs j B))/\∀u∈pf g (aP cs j A),u∈st
variable {G:Pg}(P:Pm G)
include P
open Classical in
def Fh (n k k1 k2 k3 k4 p:Nat)(cs:ab)(A B st:ak)(g:Nat)(C:Cv p cs)(w:Wn cs A)(hg:g∈A):∃j d,run G (n+6) 45 [(k,wd p cs),(k1,wrD (aK cs p A)),(k2,wrD (aK cs p B)),(k3,.lst (aL st)),(k4,.int g)]=.ret j d []/\cU false d=fB (decide (Rs cs A B st g)):=by
 have q3:=oM P.v.a n 0 0 p cs g _ (Cv.at (w.lt g hg));have hS:(covA cs g).length<=SL:=bv (C.ln g) (by decide);have key:Ou G (run G (n+5)) [] [o0 (wd p cs),o0 (wrD (aK cs p A)),o0 (wrD (aK cs p B)),o0 (.lst (aL st)),o0 (.int g),none,none,none,none] ny.body (λ_=>False) (λd=>cU false d=fB (decide (Rs cs A B st g))):=by
  refine Ou.each D.int (covA cs g) (λpre a=>(∃x5 x6 x7 x8,a=[o0 (wd p cs),o0 (wrD (aK cs p A)),o0 (wrD (aK cs p B)),o0 (.lst (aL st)),o0 (.int g),x5,x6,x7,x8])/\∀i∈pre,(g∈aP cs i.toNat B/\pf g (aP cs i.toNat A)=pf g (aP cs i.toNat B))/\∀u∈pf g (aP cs i.toNat A),u∈st) (vs:=[(1,.lst ((covA cs g).map .int))]) (by simp[pQ P.v.a,hX,q3]) rfl hS ⟨⟨none,none,none,none,by simp⟩,by simp⟩ ?_ ?_
  .rintro pre s suf a hl ⟨⟨x5,x6,x7,x8,rfl⟩,hpre⟩;have hsc:s∈covA cs g:=by rw[hl]; simp
   have rg:=C.rg g s hsc;obtain⟨j,rfl⟩:∃j:Nat,s=(j:Int):=⟨s.toNat,by omega⟩
   have hjp:j<p:=by omega
   have ixa:=gR (cs:=cs) (O:=A) hjp;have ixb:=gR (cs:=cs) (O:=B) hjp;have hgA:=iJ hg hsc;have ixe:ce (aQ (aP cs j A)) (.int g)=some (99,.int ((aP cs j A).idxOf g:Nat)):=by
    have sc:=kZ (aP cs j A);rw[aQ,kN,lR hgA,sc];rfl
   have tk:=xD (m:=aP cs j B) hgA;have no:¬((g∈aP cs j B/\pf g (aP cs j A)=pf g (aP cs j B))/\∀u∈pf g (aP cs j A),u∈st)->¬Rs cs A B st g:=λh z=>h (z j hsc);have hlen:(pf g (aP cs j A)).length<=SL:=by
    have h1:(aP cs j A).length<=A.length:=HW _ _;have h2:=w.len C;have h3:(pf g (aP cs j A)).length<=(aP cs j A).length:=by unfold pf; rw[Ir]; omega
    have:6<=SL:=by decide
    omega
   unfold pf at *;generalize hra:aP cs j A=ra at *;generalize hrb:aP cs j B=rb at *;have t1:=l5 ra (ra.idxOf g+1);have t2:=l5 rb (ra.idxOf g+1);have t3:=l5 ra (ra.idxOf g);have e1:=pT (ra.take (ra.idxOf g+1)) (rb.take (ra.idxOf g+1));have p1:=oX (ra.take (ra.idxOf g+1));have p2:=oX (rb.take (ra.idxOf g+1));have hsq:(aQ (ra.take (ra.idxOf g))).seq=some ((ra.take (ra.idxOf g)).map λu:Nat=>D.int u):=rfl;rw[Int.natCast_add,Int.cast_ofNat_Int] at t1 t2;generalize wrD (aK cs p A)=WA at *;generalize wrD (aK cs p B)=WB at *;have pn:=k8 st;have mb:=λu=>ko u st;generalize aL st=LS at *;refine⟨_,dS rfl,?_⟩;refine Ou.set (x:=(0,aQ ra)) (by simp[-aS,ixa]) ?_;generalize aQ ra=RA at *;generalize aQ rb=RB at *;generalize aQ (ra.take (ra.idxOf g))=RU at *;refine Ou.set (x:=(99,.int (ra.idxOf g:Nat))) (by simp[ixe]) ?_;by_cases hq:ra.take (ra.idxOf g+1)=rb.take (ra.idxOf g+1)
   .rw[HS hq] at e1;refine Ou.iffN (j:=99) ?_ ?_
    .generalize aQ (ra.take (ra.idxOf g+1))=R1 at *;generalize aQ (rb.take (ra.idxOf g+1))=R2 at *;simp[-aS,-cutOp,t1,t2,ixb,addD,e1,p1,p2]
    have hq':=tk.mp hq;refine Ou.each (λu:Nat=>D.int u) (ra.take (ra.idxOf g)) (λpre a=>(∃x8,a=[o0 (wd p cs),o0 WA,o0 WB,o0 (.lst LS),o0 (.int g),o0 (.int j),o0 RA,o0 (.int (ra.idxOf g:Nat)),x8])/\∀u∈pre,u∈st) (vs:=[(0,RU)]) (by simp[-cutOp,t3]) hsq hlen ⟨⟨x8,by simp⟩,by simp⟩ ?_ ?_
    .rintro pr u su a hl2 ⟨⟨x8,rfl⟩,hpr⟩;refine⟨_,dS rfl,?_⟩;have mu:=mb u;by_cases hu:u∈st
     .refine Ou.iffN (j:=99) (by simp[-List.all_eq_true,pn,mu,hu]) (Ou.nil ⟨⟨_,rfl⟩,λv hv=>?_⟩);rcases cO hv with h | h
      .exact hpr v h
      .rw[HN.mp h]; exact hu
     .refine Ou.iffT (j:=99) (by simp[-List.all_eq_true,pn,mu,hu]) ?_;refine Ou.ret (x:=(_,.tup [.int j,.int u])) (by simp; rfl) ?_;rw[Il (no λz=>hu (z.2 u (by rw[hl2]; simp)))];rfl
    .rintro a ⟨⟨x8,rfl⟩,hall⟩;refine Ou.nil ⟨⟨_,_,_,_,rfl⟩,λi hi=>?_⟩;rcases cO hi with h | h
     .exact hpre i h
     .rw[HN.mp h];rw[Int.toNat_natCast,hra,hrb];exact⟨hq',hall⟩
   .rw[Il hq] at e1;refine Ou.iffT (j:=99) ?_ ?_
    .generalize aQ (ra.take (ra.idxOf g+1))=R1 at *;generalize aQ (rb.take (ra.idxOf g+1))=R2 at *;simp[-aS,-cutOp,t1,t2,ixb,addD,e1,p1,p2]
    .refine Ou.ret (x:=(_,.tup [.int j,.non])) (by simp; rfl) ?_;rw[Il (no λz=>hq (tk.mpr z.1))];rfl
  .rintro a ⟨⟨x5,x6,x7,x8,rfl⟩,hall⟩;refine Ou.ret (x:=(99,.non)) rfl ?_;rw[HS (p:=Rs cs A B st g) λj hj=>by simpa using hall j hj];rfl
 obtain⟨j,d,e,h⟩:=Ou.rv (vs:=[(k,wd p cs),(k1,wrD (aK cs p A)),(k2,wrD (aK cs p B)),(k3,.lst (aL st)),(k4,.int g)]) P.f45 key;exact⟨j,d,e,h⟩
end Ip
end
section
namespace Ip
open PySem (Str)
open Classical
noncomputable def tp (cs:ab)(O:ak):ak:=if h:∃es,Topo cs O es then choose h else []
def gu {cs:ab}{O:ak}(h:O.Nodup):Topo cs O (tp cs O):=by
 have:=wa (cs:=cs) O.length O rfl h;unfold tp;rw[dif_pos this];exact choose_spec this
def lN {cs:ab}{O:ak}(h:O.Nodup)(g:Nat):g∈tp cs O↔g∈O:=(gu h).perm.mem_iff.symm
def pS {cs:ab}{O:ak}(h:O.Nodup):(tp cs O).Nodup:=(gu h).perm.nodup_iff.mp h
noncomputable def sy (cs:ab)(Z Z':af)(q g:Nat):Bool:=decide (Sy cs (Z.getD q []) (Z'.getD q []) g)
def EX (h:A.Nodup)(e:tp cs A=pre++g::suf):Rs cs A B (pre.filter λg=>decide (Sy cs A B g)) g↔Sy cs A B g:=by
 have hg:g∈A:=(lN (cs:=cs) h g).mp (by rw[e]; simp);constructor
 .intro r;exact .mk hg (λj hj=>(r j hj).1) λj hj u hu=>HY (HK.mp ((r j hj).2 u hu)).2
 .intro s;cases s with
  | mk _ h1 h2=>
   refine λj hj=>⟨h1 j hj,λu hu=>HK.mpr ⟨?_,HS (h2 j hj u hu)⟩⟩
   have nd:=pS (cs:=cs) h;rw[<-(gu (cs:=cs) h).rows j,e,oB _ hj] at hu
   .exact (HK.mp hu).1
   .rw[e] at nd;exact λz=>(HV.mp nd).2.2 g z g (by simp) rfl
noncomputable def pairD (x:Nat×Nat):D:=.tup [.int x.1,.int x.2]
def mq (h:List.range' 0 n=pre++x::suf):x=pre.length/\x<n:=by
 have h1:=congrArg (λl=>l[pre.length]?) h;have hl:=congrArg List.length h;simp only[Jr,HP,List.length_cons] at hl;simp only[JX (KM _),Nat.sub_self,List.getElem?_cons_zero] at h1;rw[List.getElem?_range' (by omega)] at h1;simp at h1;omega
def sC {Z:af}{i:Nat}(h:i<Z.length):Z.take (i+1)=Z.take i++[Z.getD i []]:=by
 rw[List.take_succ,HM,HI h];rfl
variable {G:Pg}(P:Pm G)
include P
def Hs (n k k1 k2 p:Nat)(cs:ab)(A B:ak)(C:Cv p cs)(ok:∀c∈cs,OkC p c)(w:Wn cs A):∃j,run G (n+9) 46 [(k,wd p cs),(k1,wrD (aK cs p A)),(k2,wrD (aK cs p B))]=.ret j (.lst (aL ((tp cs A).filter λg=>decide (Sy cs A B g)))) []:=by
 obtain⟨jo,qo,_⟩:=xt P n 0 0 p cs A (tp cs A) C.p6 C.m6 ok w.nd w.lt (gu w.nd);have hl:(tp cs A).length<=SL:=by
  rw[<-(gu (cs:=cs) w.nd).perm.length_eq];exact bv (w.len C) (by decide)
 have h6:(tp cs A).length<=6:=by
  rw[<-(gu (cs:=cs) w.nd).perm.length_eq];exact w.len C
 have h7:7<=SL:=by decide
 refine Ou.rq P.f46 ?_;show Ou _ _ _ [o0 (wd p cs),o0 (wrD (aK cs p A)),o0 (wrD (aK cs p B)),none,none] _ _ _;refine Ou.setK (x:=(99,.lst [])) rfl rfl ?_;refine Ou.low (a':=[o0 (wd p cs),o0 (wrD (aK cs p A)),o0 (wrD (aK cs p B)),some (1,.lst []),none]) (.cons (.refl _) (.cons (.refl _) (.cons (.refl _) (.cons ⟨rfl,by decide⟩ (.refl _))))) ?_;refine Ou.each (λu:Nat=>D.int u) (tp cs A) (λpre a=>∃x4,a=[o0 (wd p cs),o0 (wrD (aK cs p A)),o0 (wrD (aK cs p B)),some (1,.lst (aL (pre.filter λg=>decide (Sy cs A B g)))),x4]) (vs:=[(0,.lst (aL (tp cs A)))]) (by simp[P.f39,lH,qo,dB]) rfl hl ⟨none,by simp[aL]⟩ ?_ ?_
 .rintro pre g suf a he ⟨x4,rfl⟩;have hg:g∈A:=(lN (cs:=cs) w.nd g).mp (by rw[he]; simp);obtain⟨jr,d,qr,hr⟩:=Fh P (n+2) 0 0 0 0 0 p cs A B (pre.filter λg=>decide (Sy cs A B g)) g C w hg;have hlp:(pre.filter λg=>decide (Sy cs A B g)).length<SL:=by
   have h1:=HW (λg=>decide (Sy cs A B g)) pre;rw[he] at h6;simp at h6;omega
  refine⟨_,dS rfl,?_⟩;have e2:∀b:Bool,decide (Sy cs A B g)=b->aL ((pre++[g]).filter λg=>decide (Sy cs A B g))=if b then aL (pre.filter λg=>decide (Sy cs A B g))++[.int g] else aL (pre.filter λg=>decide (Sy cs A B g)):=λb hb=>by
   rw[IR,JE,hb];cases b <;> simp[aL]
  have hr:cU false d=fB (decide (Sy cs A B g)):=by
   rw[hr];congr 1
   exact JC.mpr (EX w.nd he)
  rw[<-fV] at hlp;clear qo;generalize wrD (aK cs p A)=WA at qr ⊢;generalize wrD (aK cs p B)=WB at qr ⊢;generalize aL (pre.filter λg=>decide (Sy cs A B g))=LS at qr hlp e2 ⊢;cases hb:decide (Sy cs A B g) with
  | true=>
   rw[hb] at hr;refine Ou.iffT (j:=99) (by simp[-cU,P.f45,ny,qr,hr]) ?_;refine Ou.append (k:=0) (xs:=LS) (v:=(0,.int g)) rfl rfl hlp (Ou.nil (Ou.nil ⟨o0 (.int g),?_⟩));rw[e2 true hb];simp[frz,frz1]
  | false=>
   rw[hb] at hr;refine Ou.iffN (j:=99) (by simp[-cU,P.f45,ny,qr,hr]) (Ou.nil ⟨o0 (.int g),?_⟩);rw[e2 false hb];rfl
 .rintro a ⟨x4,rfl⟩;exact Ou.ret (x:=(0,.lst (aL ((tp cs A).filter λg=>decide (Sy cs A B g))))) rfl rfl
end Ip
end
section
namespace Ip
open PySem (Str)
open Classical
theorem ff:∀{es:af},(∀e∈es,e.length<=6)->es.flatten.length<=6 * es.length
 | [],_=>bC _
 | e::es,h=>by
  have ih:=ff λx hx=>h x (bM _ hx);have:=h e bN;rw[List.flatten_cons,HP,List.length_cons];omega
noncomputable def c7 (cs:ab)(Z Z':af):aj:=bu (sy cs Z Z') 0 (Z.map (tp cs))
noncomputable def de (cs:ab)(Z Z':af):ax:=L2.cN .non (L2.dW ((c7 cs Z Z').map λx=>((x.1:Int),(x.2:Int)))) ((c7 cs Z Z').map pairD)
def BX (xs:aj):gI (xs.map pairD)=none:=by cases xs <;> rfl
theorem vk:∀xs:aj,dU none (xs.map pairD)=some (xs.map λx=>((x.1:Int),(x.2:Int)))
 | []=>rfl
 | x::xs=>by
  rw[HQ,dU,vk xs];rfl
open PySem PySem.Spec PySem.W PyProof.Rows in
def qA (xs:List α):(L2.cN d c xs).Perm xs:=by
 unfold L2.cN;split
 .exact .refl _
 .have p:L2.Pm xs.length (L2.fh c (kas_sort xs.length)):=(L2.md (by omega)).post;have q:(L2.fh c (kas_sort xs.length)).toList.Perm (List.range xs.length):=by simpa using p.toList
  have e:(List.range xs.length).map (λi=>xs.getD i d)=xs:=by
   refine List.ext_getElem (by simp) λi h1 h2=>?_;simp[h2]
  have:=q.map λi=>xs.getD i d
  rwa [e] at this
def vB (x y:Nat×Nat):(pairD x).eq (pairD y)=true↔x=y:=by
 obtain⟨a,b⟩:=x;obtain⟨c,d⟩:=y;have h1:((a:Int)=c)↔a=c:=by omega
 have h2:((b:Int)=d)↔b=d:=by omega
 simp[pairD,D.eq,D.eqs,h1,h2]
def xK (f:α->D)(hf:∀x y,(f x).eq (f y)=true↔x=y)(x:α)(xs:List α):D.memb (f x) (xs.map f)=true↔x∈xs:=by
 simp only[D.memb,List.any_map,KI,Function.comp,hf];exact⟨λ⟨y,h1,h2⟩=>h2 ▸ h1,λh=>⟨x,h,rfl⟩⟩
section
variable {p:Nat}{cs:ab}{Z Z':af}
def uA (s:Sg cs Z)(q g:Nat):(q,g)∈c7 cs Z Z'↔sy cs Z Z' q g=true:=by
 rw[c7,iz];constructor
 .rintro⟨i,e,_,h2,_,h4⟩;exact h4
 .intro h;have hg:=(HY (show decide (Sy cs (Z.getD q []) (Z'.getD q []) g)=true from h)).lf;by_cases hq:q<Z.length
  .rw[HM,HI hq] at hg;exact⟨q,tp cs Z[q],by simp[hq],by simp,(lN (s.wn (Ii hq)).nd g).mpr hg,h⟩
  .rw[HM,Ik (by omega)] at hg;cases hg
def qR (s:Sg cs Z)(q g:Nat):D.memb (pairD (q,g)) (de cs Z Z')=sy cs Z Z' q g:=by
 have e:D.memb (pairD (q,g)) (de cs Z Z')=D.memb (pairD (q,g)) ((c7 cs Z Z').map pairD):=(qA _).any_eq;rw[e,IX,xK pairD vB,uA s]
def tW:(de cs Z Z').all (D.pur 60)=true:=by
 have e:(de cs Z Z').all (D.pur 60)=((c7 cs Z Z').map pairD).all (D.pur 60):=(qA _).all_eq;rw[e];simp[pairD]
def oN (C:Cv p cs)(s:Sg cs Z)(hl:Z.length<=3)(f:Nat->Nat->Bool)(q i:Nat):(bu f q ((Z.take i).map (tp cs))).length<=18:=by
 have h1:=q0 (f:=f) (q:=q) (es:=(Z.take i).map (tp cs));have h2:=ff (es:=(Z.take i).map (tp cs)) λe he=>by
  obtain⟨O,hO,rfl⟩:=bV he;have w:=s.wn (KP hO);rw[<-(gu (cs:=cs) w.nd).perm.length_eq];exact w.len C
 rw[HG,Ir] at h2;omega
end
variable {G:Pg}(P:Pm G)
include P
def AV (n k k1 k2 p:Nat)(cs:ab)(Z Z':af)(C:Cv p cs)(ok:∀c∈cs,OkC p c)(s:Sg cs Z)(hl:Z.length<=3)(hz:Z'.length=Z.length):∃j,run G (n+10) 47 [(k,wd p cs),(k1,aR p cs Z),(k2,aR p cs Z')]=.ret j (.lst (de cs Z Z')) []:=by
 have h100:100<=SL:=by decide
 refine Ou.rq P.f47 ?_;show Ou _ _ _ [o0 (wd p cs),o0 (aR p cs Z),o0 (aR p cs Z'),none,none,none,none] _ _ _;refine Ou.setK (x:=(99,.lst [])) rfl rfl ?_;refine Ou.low (a':=[o0 (wd p cs),o0 (aR p cs Z),o0 (aR p cs Z'),some (1,.lst []),none,none,none]) (.cons (.refl _) (.cons (.refl _) (.cons (.refl _) (.cons ⟨rfl,by decide⟩ (.refl _))))) ?_;refine Ou.each (λn:Nat=>D.tup [.int n,wrD (aK cs p (Z.getD n []))]) (List.range' 0 Z.length) (λpre a=>∃x4 x5 x6,a=[o0 (wd p cs),o0 (aR p cs Z),o0 (aR p cs Z'),some (1,.lst ((bu (sy cs Z Z') 0 ((Z.take pre.length).map (tp cs))).map pairD)),x4,x5,x6]) (vs:=[(0,aR p cs Z)]) rfl (yj p cs Z) (by simp; omega) ⟨none,none,none,rfl⟩ ?_ ?_
 .rintro pre q suf a he ⟨x4,x5,x6,rfl⟩;obtain⟨hq,hqZ⟩:=mq he;rw[HP,List.length_singleton,<-hq];have w:Wn cs (Z.getD q []):=by
   rw[HM,HI hqZ];exact s.wn (Ii hqZ)
  have ix:=gZ (p:=p) (cs:=cs) (Z:=Z') (i:=q) (O:=Z'.getD q []) (by rw[HM,HI (by omega)]; rfl);obtain⟨js,qs⟩:=Hs P n 0 0 0 p cs (Z.getD q []) (Z'.getD q []) C ok w;have hL:=oN C s hl (sy cs Z Z') 0 q;have hI:((tp cs (Z.getD q [])).filter (sy cs Z Z' q)).length<=6:=by
   refine bv (HW _ _) ?_;rw[<-(gu (cs:=cs) w.nd).perm.length_eq];exact w.len C
  have e1:bu (sy cs Z Z') 0 ((Z.take (q+1)).map (tp cs))=bu (sy cs Z Z') 0 ((Z.take q).map (tp cs))++((tp cs (Z.getD q [])).filter (sy cs Z Z' q)).map λg=>(q,g):=by
   have:=oY (f:=sy cs Z Z') (tp cs (Z.getD q [])) (q:=0) (es:=(Z.take q).map (tp cs));rw[sC hqZ,Ij];rw[show 0+((Z.take q).map (tp cs)).length=q by simp; omega] at this;exact this
  have qs:run G (n+9) 46 [(0,wd p cs),(0,wrD (aK cs p (Z.getD q []))),(0,wrD (aK cs p (Z'.getD q [])))]=.ret js (.lst (aL ((tp cs (Z.getD q [])).filter (sy cs Z Z' q)))) []:=qs;rw[e1];rw[<-HG (as:=bu (sy cs Z Z') 0 ((Z.take q).map (tp cs))) pairD] at hL;rw[Ij];generalize (bu (sy cs Z Z') 0 ((Z.take q).map (tp cs))).map pairD=L0 at hL ⊢;generalize (tp cs (Z.getD q [])).filter (sy cs Z Z' q)=gs at hI qs ⊢;generalize wrD (aK cs p (Z.getD q []))=WA at qs ⊢;generalize wrD (aK cs p (Z'.getD q []))=WB at qs ix;generalize aR p cs Z=SA;generalize aR p cs Z'=SB at ix ⊢;refine⟨_,i4 rfl,?_⟩;refine Ou.each (λu:Nat=>D.int u) gs (λpre a=>∃x6,a=[o0 (wd p cs),o0 SA,o0 SB,some (1,.lst (L0++(pre.map λg=>(q,g)).map pairD)),o0 (.int q),o0 WA,x6]) (vs:=[(js,.lst (aL gs))]) (by simp[-aS,bJ,ix,P.f46,tS,qs]) rfl (by omega) ⟨x6,by simp[bJ]⟩ ?_ ?_
  .rintro pr g su a he2 ⟨x6,rfl⟩;rw[he2] at hI;simp only[HP,List.length_cons] at hI;refine⟨_,dS rfl,?_⟩;refine Ou.append (k:=0) (xs:=L0++(pr.map λg=>(q,g)).map pairD) (v:=(aZ [(0,.int q),(0,.int g)]+1,pairD (q,g))) rfl (by simp[pairD]) (by simp; omega) (Ou.nil ⟨o0 (.int g),?_⟩);simp[frz,frz1]
  .rintro a ⟨x6,rfl⟩;exact Ou.nil ⟨_,_,_,rfl⟩
 .rintro a ⟨x4,x5,x6,rfl⟩;rw[Jr,JD];have hL:=oN C s hl (sy cs Z Z') 0 Z.length;rw[JD] at hL;have hm:=vk (c7 cs Z Z');show Ou _ _ _ [o0 (wd p cs),o0 (aR p cs Z),o0 (aR p cs Z'),some (1,.lst ((c7 cs Z Z').map pairD)),x4,x5,x6] _ _ _;have hlt:(c7 cs Z Z').length<64:=by unfold c7; omega
  refine Ou.ret (x:=(1,.lst (de cs Z Z'))) ?_ rfl;unfold de;generalize c7 cs Z Z'=prs at hm hlt ⊢;simp[fE,BX,hm,hlt]
end Ip
end
section
namespace Ip
open PySem (Str)
open Classical
noncomputable def db (cs:ab)(f:Nat->Nat->Bool)(Z:af):aj:=bu (λq g=>!f q g) 0 (Z.map (tp cs))
noncomputable def ck (cs:ab)(Z Z':af):List (Nat×Bool×Nat):=((db cs (sy cs Z Z') Z).reverse.map λx=>(x.1,false,x.2))++(db cs (sy cs Z Z') Z').map λx=>(x.1,true,x.2)
noncomputable def bo (ps:aH):D:=.lst (ps.map λx=>.tup [.int x.1,.int x.2])
noncomputable def gq (ps:aH)(x:Nat×Bool×Nat):Int:=if x.2.1 then (ps.getD x.2.2 (0,0)).1 else (ps.getD x.2.2 (0,0)).2
structure Pr (ps:aH):Prop where
 a:∀x∈ps,0<=x.1/\x.1<=1000000
 b:∀x∈ps,0<=x.2/\x.2<=1000000
def Pr.bd (h:Pr ps)(x:Nat×Bool×Nat):0<=gq ps x/\gq ps x<=1000000:=by
 unfold gq;by_cases hx:x.2.2<ps.length
 .rw[HM,HI hx];split
  .exact h.a _ (Ii hx)
  .exact h.b _ (Ii hx)
 .rw[HM,Ik (by omega)];simp
theorem kr:∀{xs:List α},(∀x∈xs,∃j,f (e x)=.ok (some (j,g x)))->∃ys:aw,aW f (xs.map e)=.ok ys/\ys.map (λx=>x.2)=xs.map g
 | [],_=>⟨[],rfl,rfl⟩
 | x::xs,h=>by
  obtain⟨j,q⟩:=h x bN;obtain⟨ys,e1,e2⟩:=kr λy hy=>h y (bM _ hy);refine⟨(j,g x)::ys,?_,by simp[e2]⟩;rw[HQ,aW,q,R.bind,e1]
def tN {α:Type}{f:α->Int}{xs:List α}(h:∀x∈xs,0<=f x/\f x<=1000000)(hl:xs.length<=1000):hY (xs.map λx=>.int (f x))=fI (xs.map f).sum:=by
 have e:xs.map (λx=>D.int (f x))=(xs.map f).map .int:=by simp
 rw[e,hY,uO,Option.bind_some,if_pos];refine⟨List.all_eq_true.mpr λi hi=>?_,by simpa using hl⟩;obtain⟨x,hx,rfl⟩:=bV hi;have:=h x hx;exact HS (by omega)
def xL {ps:aH}{g:Nat}(h:g<ps.length):aS (bo ps) (.int g)=o0 (.tup [.int (ps.getD g (0,0)).1,.int (ps.getD g (0,0)).2]):=by
 have h':(g:Int)<ps.length:=by omega
 simp[bo,aS,dB,h',h]
variable {G:Pg}(P:Pm G)
include P
def yb (n k k1 k2 p:Nat)(cs:ab)(Z:af)(L:ax)(f:Nat->Nat->Bool)(C:Cv p cs)(ok:∀c∈cs,OkC p c)(s:Sg cs Z)(hl:Z.length<=3)(hf:∀q g,D.memb (pairD (q,g)) L=f q g)(hp:L.all (D.pur 60)=true):∃j,run G (n+9) 49 [(k,wd p cs),(k1,aR p cs Z),(k2,.lst L)]=.ret j (.lst ((db cs f Z).map pairD)) []:=by
 have h100:100<=SL:=by decide
 refine Ou.rq P.f49 ?_;show Ou _ _ _ [o0 (wd p cs),o0 (aR p cs Z),o0 (.lst L),none,none,none,none] _ _ _;refine Ou.setK (x:=(99,.lst [])) rfl rfl ?_;refine Ou.low (a':=[o0 (wd p cs),o0 (aR p cs Z),o0 (.lst L),some (1,.lst []),none,none,none]) (.cons (.refl _) (.cons (.refl _) (.cons (.refl _) (.cons ⟨rfl,by decide⟩ (.refl _))))) ?_;refine Ou.each (λn:Nat=>D.tup [.int n,wrD (aK cs p (Z.getD n []))]) (List.range' 0 Z.length) (λpre a=>∃x4 x5 x6,a=[o0 (wd p cs),o0 (aR p cs Z),o0 (.lst L),some (1,.lst ((bu (λq g=>!f q g) 0 ((Z.take pre.length).map (tp cs))).map pairD)),x4,x5,x6]) (vs:=[(0,aR p cs Z)]) rfl (yj p cs Z) (by simp; omega) ⟨none,none,none,rfl⟩ ?_ ?_
 .rintro pre q suf a he ⟨x4,x5,x6,rfl⟩;obtain⟨hq,hqZ⟩:=mq he;rw[HP,List.length_singleton,<-hq];have w:Wn cs (Z.getD q []):=by
   rw[HM,HI hqZ];exact s.wn (Ii hqZ)
  obtain⟨jo,qo,_⟩:=xt P n 0 0 p cs (Z.getD q []) (tp cs (Z.getD q [])) C.p6 C.m6 ok w.nd w.lt (gu w.nd);have hL:=oN C s hl (λq g=>!f q g) 0 q;have hI:(tp cs (Z.getD q [])).length<=6:=by
   rw[<-(gu (cs:=cs) w.nd).perm.length_eq];exact w.len C
  have e1:bu (λq g=>!f q g) 0 ((Z.take (q+1)).map (tp cs))=bu (λq g=>!f q g) 0 ((Z.take q).map (tp cs))++((tp cs (Z.getD q [])).filter λg=>!f q g).map λg=>(q,g):=by
   have:=oY (f:=λq g=>!f q g) (tp cs (Z.getD q [])) (q:=0) (es:=(Z.take q).map (tp cs));rw[sC hqZ,Ij];rw[show 0+((Z.take q).map (tp cs)).length=q by simp; omega] at this;exact this
  rw[e1];rw[<-HG (as:=bu (λq g=>!f q g) 0 ((Z.take q).map (tp cs))) pairD] at hL;rw[Ij];generalize (bu (λq g=>!f q g) 0 ((Z.take q).map (tp cs))).map pairD=L0 at hL ⊢;generalize tp cs (Z.getD q [])=gs at hI qo ⊢;generalize wrD (aK cs p (Z.getD q []))=WA at qo ⊢;generalize aR p cs Z=SA;refine⟨_,i4 rfl,?_⟩;refine Ou.each (λu:Nat=>D.int u) gs (λpre a=>∃x6,a=[o0 (wd p cs),o0 SA,o0 (.lst L),some (1,.lst (L0++((pre.filter λg=>!f q g).map λg=>(q,g)).map pairD)),o0 (.int q),o0 WA,x6]) (vs:=[(0,.lst (aL gs))]) (by simp[bJ,P.f39,lH,qo,dB]) rfl (by omega) ⟨x6,by simp[bJ]⟩ ?_ ?_
  .rintro pr g su a he2 ⟨x6,rfl⟩;rw[he2] at hI;simp only[HP,List.length_cons] at hI;have hfl:=HW (λg=>!f q g) pr;refine⟨_,dS rfl,?_⟩;have hm:D.memb (.tup [.int q,.int g]) L=f q g:=hf q g;have ev:∀a:Fr,a=[o0 (wd p cs),o0 SA,o0 (.lst L),some (1,.lst (L0++((pr.filter λg=>!f q g).map λg=>(q,g)).map pairD)),o0 (.int q),o0 WA,o0 (.int g)]->eval G (run G (n+8)) a.sl (.op .nin [(.op .tup [(.var 4),(.var 6)]),(.var 2)])=.ok (99,.bl (!f q g)):=by
    rintro a rfl;simp[-List.all_eq_true,hp,hm]
   cases hb:f q g with
   | true=>
    rw[hb] at ev;refine Ou.iffN (j:=99) (ev _ rfl) (Ou.nil ⟨o0 (.int g),?_⟩);simp[hb]
   | false=>
    rw[hb] at ev;refine Ou.iffT (j:=99) (ev _ rfl) ?_;refine Ou.append (k:=0) (xs:=L0++((pr.filter λg=>!f q g).map λg=>(q,g)).map pairD) (v:=(aZ [(0,.int q),(0,.int g)]+1,pairD (q,g))) rfl (by simp[pairD]) (by simp only[HP,HG]; omega) (Ou.nil (Ou.nil ⟨o0 (.int g),?_⟩));simp[frz,frz1,hb]
  .rintro a ⟨x6,rfl⟩;exact Ou.nil ⟨_,_,_,rfl⟩
 .rintro a ⟨x4,x5,x6,rfl⟩;rw[Jr,JD];exact Ou.ret (x:=(0,.lst ((db cs f Z).map pairD))) (by simp[db]) rfl
omit P in
def lD (C:Cv p cs)(s:Sg cs Z)(hl:Z.length<=3)(f:Nat->Nat->Bool):(db cs f Z).length<=18:=by
 have:=oN C s hl (λq g=>!f q g) 0 Z.length
 rwa [JD] at this
def rG (n k k1 k2 p:Nat)(cs:ab)(Z Z':af)(C:Cv p cs)(ok:∀c∈cs,OkC p c)(s:Sg cs Z)(s':Sg cs Z')(hl:Z.length<=3)(hz:Z'.length=Z.length):∃j,run G (n+11) 50 [(k,wd p cs),(k1,aR p cs Z),(k2,aR p cs Z')]=.ret j (.lst ((ck cs Z Z').map dD)) []/\1<=j:=by
 have h100:100<=SL:=by decide
 obtain⟨jm,qm⟩:=AV P n 0 0 0 p cs Z Z' C ok s hl hz;obtain⟨j1,q1⟩:=yb P (n+1) 0 0 0 p cs Z (de cs Z Z') (sy cs Z Z') C ok s hl (qR s) tW;obtain⟨j2,q2⟩:=yb P (n+1) 0 0 0 p cs Z' (de cs Z Z') (sy cs Z Z') C ok s' (by omega) (qR s) tW;have l1:=lD C s hl (sy cs Z Z');have l2:=lD C s' (by omega) (sy cs Z Z');unfold ck;generalize db cs (sy cs Z Z') Z=N1 at *;generalize db cs (sy cs Z Z') Z'=N2 at *;generalize de cs Z Z'=M at *;generalize aR p cs Z=SA at *;generalize aR p cs Z'=SB at *;have key:Ou G (run G (n+10)) [] [o0 (wd p cs),o0 SA,o0 SB,none,none,none,none] kg.body.dropLast (λa=>∃k d,a[4]? = some (some (k+1,d))/\d=.lst (((N1.reverse.map λx=>(x.1,false,x.2))++N2.map λx=>(x.1,true,x.2)).map dD)) (λ_=>False):=by
  refine Ou.set (x:=(jm,.lst M)) (by simp[P.f47,qC,qm]) ?_;refine Ou.setK (x:=(99,.lst [])) rfl rfl ?_;refine Ou.low (a':=[o0 (wd p cs),o0 SA,o0 SB,o0 (.lst M),some (1,.lst []),none,none]) (.cons (.refl _) (.cons (.refl _) (.cons (.refl _) (.cons (.refl _) (.cons ⟨rfl,by decide⟩ (.refl _)))))) ?_;refine Ou.each pairD N1.reverse (λpre a=>∃x5 x6,a=[o0 (wd p cs),o0 SA,o0 SB,o0 (.lst M),some (1,.lst ((pre.map λx=>(x.1,false,x.2)).map dD)),x5,x6]) (vs:=[(j1,.lst (N1.map pairD))]) (by simp[P.f49,oP,q1]) (by rw[List.map_reverse]; rfl) (by simp; omega) ⟨none,none,by simp⟩ ?_ ?_
  .rintro pr x su a he ⟨x5,x6,rfl⟩;have hl:=congrArg List.length he;simp at hl;refine⟨_,i4 rfl,?_⟩;refine Ou.append (k:=0) (xs:=(pr.map λx=>(x.1,false,x.2)).map dD) (v:=(aZ [(0,.int x.1),(0,.str "off"),(0,.int x.2)]+1,dD (x.1,false,x.2))) rfl (by simp[bJ,dD]) (by simp; omega) (Ou.nil ⟨o0 (.int x.1),o0 (.int x.2),?_⟩);simp[bJ,frz,frz1]
  .rintro a ⟨x5,x6,rfl⟩;refine Ou.each pairD N2 (λpre a=>∃x5 x6,a=[o0 (wd p cs),o0 SA,o0 SB,o0 (.lst M),some (1,.lst (((N1.reverse.map λx=>(x.1,false,x.2))++pre.map λx=>(x.1,true,x.2)).map dD)),x5,x6]) (vs:=[(j2,.lst (N2.map pairD))]) (by simp[P.f49,oP,q2]) rfl (by omega) ⟨x5,x6,by simp⟩ ?_ ?_
   .rintro pr x su a he ⟨x5,x6,rfl⟩;have hl:=congrArg List.length he;simp at hl;refine⟨_,i4 rfl,?_⟩;refine Ou.append (k:=0) (xs:=((N1.reverse.map λx=>(x.1,false,x.2))++pr.map λx=>(x.1,true,x.2)).map dD) (v:=(aZ [(0,.int x.1),(0,.str "on"),(0,.int x.2)]+1,dD (x.1,true,x.2))) rfl (by simp[bJ,dD]) (by simp; omega) (Ou.nil ⟨o0 (.int x.1),o0 (.int x.2),?_⟩);simp[bJ,frz,frz1]
   .rintro a ⟨x5,x6,rfl⟩;exact Ou.nil ⟨0,_,rfl,rfl⟩
 obtain⟨j,d,e,hj,rfl⟩:=Ou.runV (n:=n+10) (i:=4) (vs:=[(k,wd p cs),(k1,SA),(k2,SB)]) (init:=kg.body.dropLast) (P:=λd=>d=.lst (((N1.reverse.map λx=>(x.1,false,x.2))++N2.map λx=>(x.1,true,x.2)).map dD)) P.f50 rfl rfl rfl key;exact⟨j,e,hj⟩
def zd (n k k1:Nat)(ps:aH)(x:Nat×Bool×Nat)(h:x.2.2<ps.length):∃j,run G (n+1) 51 [(k,bo ps),(k1,dD x)]=.ret j (.int (gq ps x)) []:=by
 have ix:=xL h;obtain⟨q,b,g⟩:=x;have op:=kO;have fp:=mJ;have oo:=pk;have fo:=sD;refine Ou.rq P.f51 ?_;show Ou _ _ _ [o0 (bo ps),o0 (dD (q,b,g)),none] _ _ _;unfold gq;simp only at ix ⊢;generalize ps.getD g (0,0)=pr at ix ⊢;generalize bo ps=PS at ix ⊢;refine Ou.set (x:=(0,.tup [.int pr.1,.int pr.2])) (by simp[-aS,show aS (dD (q,b,g)) (.int 2)=o0 (.int g) from rfl,ix]) ?_;cases b with
 | true=>
  refine Ou.ret (x:=(0,.int pr.1)) ?_ rfl;generalize hE:D.str "on" = E at op oo;simp[-aS,show aS (dD (q,true,g)) (.int 1)=o0 E from by rw[<-hE]; rfl,op,oo];rfl
 | false=>
  refine Ou.ret (x:=(0,.int pr.2)) ?_ rfl;generalize hE:D.str "on" = E at op fo;generalize hF:D.str "off" = F at fp fo;simp[-aS,show aS (dD (q,false,g)) (.int 1)=o0 F from by rw[<-hF]; rfl,op,fp,fo];rfl
def pD (n k k1:Nat)(ps:aH)(xs:List (Nat×Bool×Nat))(hp:Pr ps)(h:∀x∈xs,x.2.2<ps.length)(hl:xs.length<=1000):∃j,run G (n+2) 52 [(k,bo ps),(k1,.lst (xs.map dD))]=.ret j (.int (xs.map (gq ps)).sum) []:=by
 obtain⟨ys,c1,c2⟩:∃ys:aw,aW (compF G (run G (n+1)) [none,none,some (bo ps)] (.one 1) [] (.call 51 [(.var 2),(.var 1)])) (xs.map dD)=.ok ys/\ys.map (λx=>x.2)=xs.map λx=>D.int (gq ps x):=kr λx hx=>by
  obtain⟨j,q⟩:=zd P n 0 0 ps x (h x hx);exact⟨j,by simp[compF,P.f51,sg,q]⟩
 have hs:=tN (f:=gq ps) (xs:=xs) (λx _=>hp.bd x) hl;have hS:xs.length<=SL:=bv hl (by decide);generalize bo ps=PS at c1 ⊢;have hS2:(xs.map dD).length<=SL:=by simpa using hS
 generalize xs.map dD=L at c1 hS2 ⊢;refine Ou.rq P.f52 ?_;show Ou _ _ _ [o0 PS,o0 (.lst L)] _ _ _;refine Ou.ret (x:=(99,.int (xs.map (gq ps)).sum)) ?_ rfl;rw[<-c2] at hs;simp[c1,hS2,hs]
omit P in
def wq (C:Cv p cs)(s:Sg cs Z)(s':Sg cs Z')(hl:Z.length<=3)(hz:Z'.length=Z.length):(∀x∈ck cs Z Z',x.2.2<cs.length)/\(ck cs Z Z').length<=1000:=by
 have key:∀{Y:af} (s:Sg cs Y) (x:Nat×Nat),x∈db cs (sy cs Z Z') Y->x.2<cs.length:=λs x hx=>by
  obtain⟨i,e,h1,_,h3,_⟩:=iz.mp hx;rw[HR] at h1;obtain⟨O,h4,rfl⟩:=cA h1;have w:=s.wn (HL h4);exact w.lt _ ((lN w.nd _).mp h3)
 constructor
 .intro x hx;rcases cO hx with h | h
  .obtain⟨y,hy,rfl⟩:=bV h;exact key s y (J5.mp hy)
  .obtain⟨y,hy,rfl⟩:=bV h;exact key s' y hy
 .have l1:=lD C s hl (sy cs Z Z');have l2:=lD C s' (by omega) (sy cs Z Z');simp only[ck,HP,HG,J9];omega
def A7 (n k k0 k1 k2 p:Nat)(cs:ab)(ps:aH)(Z Z':af)(C:Cv p cs)(ok:∀c∈cs,OkC p c)(s:Sg cs Z)(s':Sg cs Z')(hl:Z.length<=3)(hz:Z'.length=Z.length)(hp:Pr ps)(hps:ps.length=cs.length):∃j,run G (n+12) 53 [(k,wd p cs),(k0,bo ps),(k1,aR p cs Z),(k2,aR p cs Z')]=.ret j (.int ((ck cs Z Z').map (gq ps)).sum) []:=by
 obtain⟨j1,q1,_⟩:=rG P n 0 0 0 p cs Z Z' C ok s s' hl hz;obtain⟨w1,w2⟩:=wq C s s' hl hz;obtain⟨j2,q2⟩:=pD P (n+9) 0 j1 ps (ck cs Z Z') hp (λx hx=>by rw[hps]; exact w1 x hx) w2;refine⟨j2,?_⟩;rw[run,P.f53];simp[oG,P.f50,kg,q1,P.f52,kU,q2]
end Ip
end
section
namespace Ip
open PySem (Str)
variable {G:Pg}(P:Pm G)
include P
def wO (n k k1 k2 p:Nat)(cs:ab)(Z:af)(cells:am)(C:Cv p cs)(s:Sg cs Z)(hl:1<=Z.length/\Z.length<=3)(hc:cells.length<=63) :
  ∃j xs Z',run G (n+3) 118 [(k,.lst (cells.map .int)),(k1,aR p cs Z),(k2,aM cs)]=.ret j (.tup [.lst (xs.map dD),aR p cs Z']) []/\Wy cs xs Z Z'/\xs.length<=63:=by
 have h100:100<=SL:=by decide
 have key:Ou G (run G (n+2)) [] [o0 (.lst (cells.map .int)),o0 (aR p cs Z),o0 (aM cs),none,none,none] mD.body (λ_=>False) (λd=>∃xs Z',d=.tup [.lst (xs.map dD),aR p cs Z']/\Wy cs xs Z Z'/\xs.length<=63):=by
  refine Ou.setK (x:=(99,.lst [])) rfl rfl ?_;refine Ou.low (a':=[o0 (.lst (cells.map .int)),o0 (aR p cs Z),o0 (aM cs),some (1,.lst []),none,none]) (.cons (.refl _) (.cons (.refl _) (.cons (.refl _) (.cons ⟨rfl,by decide⟩ (.refl _))))) ?_;refine Ou.each D.int cells (λpre a=>∃x4 x5 xs U,a=[o0 (.lst (cells.map .int)),o0 (aR p cs U),o0 (aM cs),some (1,.lst (xs.map dD)),x4,x5]/\Wy cs xs Z U/\xs.length<=pre.length) (vs:=[(0,.lst (cells.map .int))]) rfl rfl (by omega) ⟨none,none,[],Z,by simp,.nil,bC _⟩ ?_ ?_
  .rintro pre c suf a he ⟨x4,x5,xs,U,rfl,hw,hx⟩;have hL:=congrArg List.length he;simp at hL;obtain⟨sU,lU,_⟩:=hw.good s;obtain⟨jd,d,qd,hd⟩:=Eo P n 0 0 0 p c cs U C sU (by omega);refine⟨_,dS rfl,?_⟩;refine Ou.set (x:=(jd,d)) (by simp[P.f116,pI,qd]) ?_;rcases hd with rfl | ⟨U',hD⟩
   .exact Ou.iffN (j:=99) rfl (Ou.nil ⟨_,_,xs,U,rfl,hw,by simp; omega⟩)
   .obtain⟨j7,q7⟩:=uP P (n+1) 0 0 0 p cs U U' d C sU (by omega) hD;have hN:cU true d=fB true:=by cases hD <;> rfl
    obtain⟨x,rfl,hw'⟩:=hw.snoc hD;refine Ou.iffT (j:=99) (by simp[-cU,hN]) ?_;refine Ou.append (k:=0) (xs:=xs.map dD) (v:=(0,dD x)) rfl rfl (by simp; omega) ?_;refine Ou.set (x:=(j7,aR p cs U')) (by simp[frz,frz1,P.f117,pA,q7]) (Ou.nil (Ou.nil ⟨o0 (.int c),o0 (dD x),xs++[x],U',?_,hw',by simp; omega⟩));simp[frz,frz1]
  .rintro a ⟨x4,x5,xs,U,rfl,hw,hx⟩;exact Ou.retE (d:=.tup [.lst (xs.map dD),aR p cs U]) ⟨_,by simp; rfl⟩ ⟨xs,U,rfl,hw,by omega⟩
 obtain⟨j,d,e,xs,Z',rfl,h1,h2⟩:=Ou.rv (vs:=[(k,.lst (cells.map .int)),(k1,aR p cs Z),(k2,aM cs)]) P.f118 key;exact⟨j,xs,Z',e,h1,h2⟩
def GO (n k k1:Nat)(ns:am)(cs:ab)(hm:cs.length<=6) :
  ∃(j:Nat) (ps:aH),run G (n+2) 134 [(k,.lst (ns.map .int)),(k1,aM cs)]=.ret j (bo ps) []/\Pr ps/\ps.length=cs.length:=by
 have h100:100<=SL:=by decide
 have b10:cn 10=true:=dA.mpr (by decide);have b1:cn 48271=true:=dA.mpr (by decide);have b2:cn 69621=true:=dA.mpr (by decide);have lC:fJ (λxs=>some (99,D.int xs.length)) (aM cs)=some (99,.int cs.length):=by simp[aM]
 have rg:∀n:Nat,(List.range n).map (λn:Nat=>D.int n)=(List.range' 0 n).map λn:Nat=>D.int n:=λn=>by rw[Jf]
 have key:Ou G (run G (n+1)) [] [o0 (.lst (ns.map .int)),o0 (aM cs),none,none,none] o4.body (λ_=>False) (λd=>∃ps:aH,d=bo ps/\Pr ps/\ps.length=cs.length):=by
  generalize aM cs=K at lC ⊢;refine Ou.setK (x:=(99,.lst [])) rfl rfl ?_;refine Ou.low (a':=[o0 (.lst (ns.map .int)),o0 K,some (1,.lst []),none,none]) (.cons (.refl _) (.cons (.refl _) (.cons ⟨rfl,by decide⟩ (.refl _)))) ?_;refine Ou.each (λn:Nat=>D.int n) (List.range' 0 cs.length) (λpre a=>∃(x3 x4:az) (ps:aH),a=[o0 (.lst (ns.map .int)),o0 K,some (1,bo ps),x3,x4]/\Pr ps/\ps.length=pre.length) (vs:=[(99,.int cs.length)]) (by simp[-fJ,lC]) (by rw[wk_rng1 (by omega),rg]) (by simp; omega) ⟨none,none,[],by simp[bo],⟨by simp,by simp⟩,rfl⟩ ?_ ?_
  .rintro pre g suf a he ⟨x3,x4,ps,rfl,hp,hx⟩;obtain⟨hg0,hg⟩:=mq he;obtain⟨d2,q2⟩:=iw P.d n 0 99 ns (2+g);have e2:((2+g:Nat):Int)=2+(g:Int):=by omega
   rw[e2] at q2;generalize ns.getD (2+g) 0=c at q2;refine⟨_,dS rfl,?_⟩;refine Ou.set (x:=(d2,.int c)) (by simp[P.d.f98,eI,q2]) ?_;have fin:∀(e:Ex) (x y:Int),eval G (run G (n+1)) [some (.lst (ns.map .int)),some K,some (bo ps),some (.int g),some (.int c)] e=.ok (99,.tup [.int x,.int y])->frz e.names [o0 (.lst (ns.map .int)),o0 K,some (1,bo ps),o0 (.int g),o0 (.int c)]=[o0 (.lst (ns.map .int)),o0 K,some (1,bo ps),o0 (.int g),o0 (.int c)]->0<=x/\x<=1000000->0<=y/\y<=1000000->Ou G (run G (n+1)) [] [o0 (.lst (ns.map .int)),o0 K,some (1,bo ps),o0 (.int g),o0 (.int c)] [.mut 2 [] .append [e]] (λa=>∃(x3 x4:az) (ps:aH),a=[o0 (.lst (ns.map .int)),o0 K,some (1,bo ps),x3,x4]/\Pr ps/\ps.length=(pre++[g]).length) (λd=>∃ps:aH,d=bo ps/\Pr ps/\ps.length=cs.length):=by
    intro e x y ev fz hx1 hy1;refine Ou.append (k:=0) (xs:=ps.map λx=>.tup [.int x.1,.int x.2]) (v:=(99,.tup [.int x,.int y])) (by rw[fz]; rfl) ev (by simp; omega) (Ou.nil ⟨o0 (.int g),o0 (.int c),ps++[(x,y)],?_,⟨λz h=>?_,λz h=>?_⟩,by simp[hx]⟩)
    .rw[fz]; simp[bo]
    .rcases cO h with h | h
     .exact hp.a z h
     .rw[HN.mp h]; exact hx1
    .rcases cO h with h | h
     .exact hp.b z h
     .rw[HN.mp h]; exact hy1
   by_cases h:c > 10000000000000000000000000000000000000000
   .refine Ou.iffT (j:=99) (by simp[b10]; omega) ?_;exact (fin _ (c / 10000000000000000000000000000000000000000 % 1000001) (c / 100000000000000000000000000000000000000000000000 % 1000001) (by simp[b10]) rfl (by omega) (by omega)).mono (λ_ h=>Ou.nil h) (λ_ h=>h)
   .refine Ou.iffF (j:=99) (by simp[b10]; omega) ?_;obtain⟨m,hm,hr⟩:∃m:Int,aS (.lst [.int 3,.int 1000001]) (.int (c % 2))=o0 (.int m)/\0<m/\m<=1000001:=by
     have h1:c % 2=0\/c % 2=1:=by omega
     rcases h1 with h1 | h1 <;> rw[h1]
     .exact⟨3,rfl,by decide,by decide⟩
     .exact⟨1000001,rfl,by decide,by decide⟩
    have hy:=Kc (c * 69621) (b:=m) (by omega);have hy':=JL (c * 69621) hr.1;exact (fin _ (c * 48271 % 1000001) (c * 69621 % m) (by simp[-aS,b10,b1,b2,hm,hr.1]) rfl (by omega) (by omega)).mono (λ_ h=>Ou.nil h) (λ_ h=>h)
  .rintro a ⟨x3,x4,ps,rfl,hp,hx⟩;rw[Jr] at hx;exact Ou.ret (x:=(0,bo ps)) rfl ⟨ps,rfl,hp,hx⟩
 obtain⟨j,d,e,ps,rfl,h1,h2⟩:=Ou.rv (vs:=[(k,.lst (ns.map .int)),(k1,aM cs)]) P.f134 key;exact⟨j,ps,e,h1,h2⟩
end Ip
end
section
namespace Ip
open PySem (Str)
open PySem PySem.W PyProof.Rows in
section
noncomputable def kK (n:Nat):Nat->af
 | 0=>[[]]
 | k+1=>(kK n k).flatMap λl=>((List.range n).filter λx=>!l.contains x).map (·::l)
theorem ym:∀{l:ak},l.Nodup->(∀x∈l,x<n)->l∈kK n l.length
 | [],_,_=>by simp[kK]
 | x::l,h,k=>by
  obtain⟨h1,h2⟩:=HZ.mp h;have ih:=ym h2 λy hy=>k y (bM _ hy);rw[List.length_cons,kK,List.mem_flatMap];refine⟨l,ih,JF.mpr ⟨x,HK.mpr ⟨IB.mpr (k x bN),by simpa using h1⟩,rfl⟩⟩
noncomputable def BE (n:Nat)(π:ak):Bool:=((L2.fh (λi j=>Nat.blt (π.getD i 0) (π.getD j 0)) (kas_sort n)).toList.map λi=>π.getD i 0) == List.range n
theorem E2:((List.range 5).all λn=>(kK (n+2) (n+2)).all (BE (n+2)))=true:=by kernel_rfl
theorem vS (h:∀i j,i<N->j<N->c i j=c' i j):∀{t:KasT α},L2.KOk N Q t->L2.fh c t=L2.fh c' t
 | .ret _,_=>rfl
 | .ask i j k,o=>by
  show L2.fh c (k (c i j))=L2.fh c' (k (c' i j));rw[h i j o.1 o.2.1];exact vS h (o.2.2 _)
def xq {α:Type}{p q:α->Bool}{l:List α}{x:α}(h:∀z,p z=true->q z=true)(hx:x∈l)(h1:q x=true)(h2:p x=false):l.countP p<l.countP q:=by
 obtain⟨A,B,rfl⟩:=JM hx;have a:=List.countP_mono_left (l:=A) λz _=>h z;have b:=List.countP_mono_left (l:=B) λz _=>h z;rw[K5,K5,List.countP_cons,List.countP_cons,h1,h2];simp;omega
noncomputable def ltN (x y:Nat×Nat):Bool:=L2.kv (x.1,x.2) (y.1,y.2)
def fA:ltN x y=true↔x.1<y.1\/x.1=y.1/\x.2<y.2:=by
 unfold ltN L2.kv;rw[Ig];simp only;omega
noncomputable def rk (ks:aj)(x:Nat×Nat):Nat:=ks.countP λy=>ltN y x
def pP {ks:aj}{x y:Nat×Nat}(hx:x∈ks)(h:ltN x y=true):rk ks x<rk ks y:=by
 refine xq (λz hz=>?_) hx h ?_
 .have h:=fA.mp h;have hz:=fA.mp hz;exact fA.mpr (by omega)
 .rw[JW];intro z;have:=fA.mp z;omega
def wv (x y:Nat×Nat):ltN x y=true\/x=y\/ltN y x=true:=by
 obtain⟨a,b⟩:=x;obtain⟨c,d⟩:=y;rw[fA,fA,IZ];simp only;omega
def C9 (hx:x∈ks)(hy:y∈ks):Nat.blt (rk ks x) (rk ks y)=ltN x y:=by
 rw[IX,Nat.blt_eq];refine⟨λh=>?_,pP hx⟩;rcases wv x y with z | z | z
 .exact z
 .rw[z] at h; omega
 .have:=pP hy z; omega
def xI (hx:x∈ks)(hy:y∈ks)(h:rk ks x=rk ks y):x=y:=by
 rcases wv x y with z | z | z
 .have:=pP hx z; omega
 .exact z
 .have:=pP hy z; omega
def A5 {ks:aj}{x:Nat×Nat}(hx:x∈ks):rk ks x<ks.length:=by
 have:=xq (p:=λy=>ltN y x) (q:=λ_=>true) (l:=ks) (λ_ _=>rfl) hx rfl (by
  rw[JW];intro z;have:=fA.mp z;omega)
 rw[List.countP_true] at this;exact this
noncomputable def eD (ks:aj):aj:=L2.cN (0,0) (L2.dW (ks.map λx=>((x.1:Int),(x.2:Int)))) ks
def Ba (nd:ks.Nodup)(h6:ks.length<=6):(eD ks).map (rk ks)=List.range ks.length:=by
 unfold eD L2.cN;split
 .match ks,nd with
  | [],_=>rfl
  | [x],_=>
   have:ltN x x=false:=by
    rw[JW];intro z;have:=fA.mp z;omega
   simp[rk,this]
  | x::y::ks,_=>rename_i h; simp at h; omega
 .rename_i h2;have hN:0<ks.length:=by omega
  have getK:∀i (hi:i<ks.length),ks.getD i (0,0)=ks[i]:=λi hi=>by rw[HM,HI hi]; rfl
  have getR:∀i (hi:i<ks.length),(ks.map (rk ks)).getD i 0=rk ks ks[i]:=λi hi=>by rw[HM,HR,HI hi]; rfl
  have cc:∀i j,i<ks.length->j<ks.length->L2.dW (ks.map λx=>((x.1:Int),(x.2:Int))) i j=Nat.blt ((ks.map (rk ks)).getD i 0) ((ks.map (rk ks)).getD j 0):=λi j hi hj=>by
   rw[getR i hi,getR j hj,C9 (Ii hi) (Ii hj)];unfold L2.dW ltN;rw[HM,HR,HI hi,HM,HR,HI hj];rfl
  have key:=dQ E2 (ks.length - 2) (IB.mpr (by omega));rw[show ks.length - 2+2=ks.length by omega] at key;have mem:ks.map (rk ks)∈kK ks.length ks.length:=by
   have:=ym (n:=ks.length) (l:=ks.map (rk ks)) (JU.mpr (nd.imp_of_mem λhx hy hne e=>hne (xI hx hy e))) λx hx=>by
    obtain⟨y,hy,rfl⟩:=bV hx;exact A5 hy
   rwa [HG] at this
  have key:=dQ key _ mem;have key:((L2.fh (λi j=>Nat.blt ((ks.map (rk ks)).getD i 0) ((ks.map (rk ks)).getD j 0)) (kas_sort ks.length)).toList.map λi=>(ks.map (rk ks)).getD i 0)=List.range ks.length:=eq_of_beq key;rw[vS cc (L2.md hN),IW,<-key];refine Jl λi hi=>?_;have hi:=L2.og hN i hi;rw[Function.comp,getK i hi,getR i hi]
def yF (cs:ab)(Z Z':af):de cs Z Z'=(eD (c7 cs Z Z')).map pairD:=by
 unfold de eD;generalize c7 cs Z Z'=ks;unfold L2.cN;rw[HG];split
 .rfl
 .rename_i h;rw[IW];refine Jl λi hi=>?_;have hi:=L2.og (by omega) i hi;simp[hi]
end
end Ip
end
section
namespace Ip
open PySem (Str)
open Classical
def zZ {L:aj}(h:L.Pairwise λx y=>ltN x y=true):L.map (rk L)=List.range L.length:=by
 refine List.ext_getElem (by simp) λi h1 h2=>?_;rw[List.getElem_map,List.getElem_range];have hi:i<L.length:=by simpa using h1
 have e:L=L.take i++L[i]::L.drop (i+1):=by rw[<-IE hi,Jd]
 have h':=h;rw[e] at h';obtain⟨_,p2,p3⟩:=KQ.mp h';have p4:=(Kf.mp p2).1;have c1:(L.take i).countP (λy=>ltN y L[i])=i:=by
  rw[List.countP_eq_length.mpr λy hy=>p3 y hy _ IF,Ir];omega
 have as:∀{x y:Nat×Nat},ltN x y=true->ltN y x=false:=λhx=>by
  rw[JW];intro z;have:=fA.mp z;have:=fA.mp hx;omega
 have c2:(L.drop (i+1)).countP (λy=>ltN y L[i])=0:=List.countP_eq_zero.mpr λy hy=>by rw[as (p4 y hy)]; decide
 have c3:ltN L[i] L[i]=false:=by
  rw[JW];intro z;have:=fA.mp z;omega
 have c4:rk L L[i]=(L.take i++L[i]::L.drop (i+1)).countP λy=>ltN y L[i]:=by rw[<-e]; rfl
 rw[c4,K5,List.countP_cons,c1,c2,c3];simp
def sO (p:ks.Perm L)(h:L.Pairwise λx y=>ltN x y=true)(h6:L.length<=6):eD ks=L:=by
 have nd:L.Nodup:=h.imp λhx e=>by
  subst e;have:=fA.mp hx;omega
 have e1:=Ba (p.nodup_iff.mpr nd) (by rw[p.length_eq]; exact h6);have e2:=zZ h;have er:rk ks=rk L:=funext λx=>p.countP_eq _;rw[er,p.length_eq,<-e2] at e1;have m1:∀x∈eD ks,x∈L:=λx hx=>p.mem_iff.mp ((qA ks).mem_iff.mp hx);have inj:∀{l l':aj},(∀x∈l,x∈L)->(∀x∈l',x∈L)->l.map (rk L)=l'.map (rk L)->l=l':=by
  intro l;induction l with
  | nil=>intro l' _ _ e; simpa using e.symm
  | cons x l ih=>
   intro l' h1 h2 e;cases l' with
   | nil=>simp at e
   | cons y l'=>
    rw[HQ,HQ,IK] at e;rw[xI (h1 x IF) (h2 y IF) e.1,ih (λz hz=>h1 z (IP _ hz)) (λz hz=>h2 z (IP _ hz)) e.2]
 exact inj m1 (λ_ h=>h) e1
theorem pK:∀{q:Nat} {es:af},(∀e∈es,e.Pairwise (· < ·))->(bu f q es).Pairwise λx y=>ltN x y=true
 | q,[],_=>.nil
 | q,e::es,h=>by
  rw[bu,KQ];refine⟨JU.mpr (((h e bN).filter _).imp λ{x y} hx=>show ltN (q,x) (q,y)=true from fA.mpr (.inr ⟨rfl,hx⟩)),pK λe' he'=>h e' (bM _ he'),λa ha b hb=>?_⟩;obtain⟨g,_,rfl⟩:=bV ha;obtain⟨i,_,_,h2,_⟩:=iz.mp hb;exact fA.mpr (.inl (by simp only; omega))
theorem yw {f h:Nat->Nat->Bool}:∀{q:Nat} {es:af},(bu f q es).filter (λx=>h x.1 x.2)=bu (λq g=>f q g&&h q g) q es
 | q,[]=>rfl
 | q,e::es=>by
  rw[bu,bu,IR,yw,List.filter_map,II];congr 3
  funext g
  rw[KL];rfl
noncomputable def wl (Z:af):aj:=bu (λ_ _=>true) 0 (Z.map aV)
section
variable {p:Nat}{cs:ab}{Z Z':af}
def qP (f:Nat->Nat->Bool):((wl Z).filter λx=>f x.1 x.2)=bu f 0 (Z.map aV):=by
 unfold wl;rw[yw];rfl
def iV (C:Cv p cs)(s:Sg cs Z):x∈bu f 0 (Z.map aV)↔∃O,Z[x.1]? = some O/\x.2∈O/\f x.1 x.2=true:=by
 rw[iz];constructor
 .rintro⟨i,e,h1,h2,h3,h4⟩;rw[HR] at h1;obtain⟨O,h5,rfl⟩:=cA h1;rw[Kw] at h2;exact⟨O,h2 ▸ h5,((s.wn (HL h5)).mS C _).mp h3,h4⟩
 .rintro⟨O,h1,h2,h3⟩;exact⟨x.1,aV O,by rw[HR,h1]; rfl,by simp,((s.wn (HL h1)).mS C _).mpr h2,h3⟩
def kz (C:Cv p cs)(s:Sg cs Z)(f:Nat->Nat->Bool):(bu f 0 (Z.map aV)).length<=6:=by
 have nd:(bu f 0 (Z.map aV)).Nodup:=(pK λe he=>by obtain⟨O,_,rfl⟩:=bV he; exact l7 O).imp λhx e=>by
  subst e;have:=fA.mp hx;omega
 have h2:((bu f 0 (Z.map aV)).map (·.2)).Nodup:=JU.mpr (nd.imp_of_mem λ{x y} hx hy hne e=>hne (by
  obtain⟨O,h1,h2,_⟩:=(iV C s).mp hx;obtain⟨O',k1,k2,_⟩:=(iV C s).mp hy;have a:=mE s.nd h1 h2;have b:=mE s.nd k1 k2;rw[e,b] at a;cases x;cases y;simp only at e a;cases a;rw[e]))
 have:=gO h2 λg hg=>by
  obtain⟨x,hx,rfl⟩:=bV hg;obtain⟨O,h1,h2,_⟩:=(iV C s).mp hx;exact s.lt _ (mW h1 h2)
 rw[HG] at this;have:=C.m6;omega
noncomputable def dk (cs:ab)(Z Z':af):aj:=bu (sy cs Z Z') 0 (Z.map aV)
def zv (C:Cv p cs)(s:Sg cs Z):de cs Z Z'=(dk cs Z Z').map pairD:=by
 have pw:(dk cs Z Z').Pairwise λx y=>ltN x y=true:=pK λe he=>by obtain⟨O,_,rfl⟩:=bV he; exact l7 O
 have nd:(dk cs Z Z').Nodup:=pw.imp λhx e=>by
  subst e;have:=fA.mp hx;omega
 have nd2:(c7 cs Z Z').Nodup:=tQ λe he=>by
  obtain⟨O,hO,rfl⟩:=bV he;exact pS (s.wn hO).nd
 rw[yF,sO ((List.perm_ext_iff_of_nodup nd2 nd).mpr λx=>?_) pw (kz C s _)];obtain⟨q,g⟩:=x;rw[uA s,dk,iV C s];constructor
 .intro h;have hg:=(HY (show decide (Sy cs (Z.getD q []) (Z'.getD q []) g)=true from h)).lf;rw[HM] at hg;cases e:Z[q]? with
  | none=>rw[e] at hg; cases hg
  | some O=>rw[e] at hg; exact⟨O,rfl,hg,h⟩
 .rintro⟨_,_,_,h⟩;exact h
end
def Ep {f:Nat->Nat->Bool}{Z:af}{e:ak->ak}{q:Nat}(h:q<Z.length):bu f 0 ((Z.take (q+1)).map e)=bu f 0 ((Z.take q).map e)++((e (Z.getD q [])).filter (f q)).map λg=>(q,g):=by
 have:=oY (f:=f) (e (Z.getD q [])) (q:=0) (es:=(Z.take q).map e);rw[sC h,Ij];rw[show 0+((Z.take q).map e).length=q by simp; omega] at this;exact this
def DK {p:Nat}{cs:ab}{Z:af}(hl:Z.length<=3)(f:Nat->Nat->Bool)(i:Nat):(bu f 0 ((Z.take i).map aV)).length<=18:=by
 have h1:=q0 (f:=f) (q:=0) (es:=(Z.take i).map aV);have h2:=ff (es:=(Z.take i).map aV) λe he=>by
  obtain⟨O,hO,rfl⟩:=bV he;have:=HW (λk=>O.contains k) (List.range 6);simpa[aV] using this
 rw[HG,Ir] at h2;omega
variable {G:Pg}(P:Pm G)
include P
def rS (n k k1 p:Nat)(cs:ab)(Z:af)(C:Cv p cs)(s:Sg cs Z)(hl:Z.length<=3):∃j,run G (n+1) 124 [(k,aR p cs Z),(k1,aM cs)]=.ret j (.lst ((wl Z).map pairD)) []:=by
 have h100:100<=SL:=by decide
 have m6:=C.m6;have lZ:fJ (λxs=>some (99,D.int xs.length)) (aR p cs Z)=some (99,.int Z.length):=by simp[aR]
 have lC:fJ (λxs=>some (99,D.int xs.length)) (aM cs)=some (99,.int cs.length):=by simp[aM]
 have rg:∀n:Nat,(List.range n).map (λn:Nat=>D.int n)=(List.range' 0 n).map λn:Nat=>D.int n:=λn=>by rw[Jf]
 refine Ou.rq P.f124 ?_;show Ou _ _ _ [o0 (aR p cs Z),o0 (aM cs),none,none,none] _ _ _;have ixs:∀(q:Nat) O,Z[q]? = some O->aS (aR p cs Z) (.int q)=o0 (wrD (aK cs p O)):=λq O h=>gZ h;have ixc:∀g:Nat,g<cs.length->aS (aM cs) (.int g)=o0 (.lst ((covA cs g).map .int)):=λg h=>jX h;generalize aR p cs Z=SA at lZ ixs ⊢;generalize aM cs=K at lC ixc ⊢;refine Ou.setK (x:=(99,.lst [])) rfl rfl ?_;refine Ou.low (a':=[o0 SA,o0 K,some (1,.lst []),none,none]) (.cons (.refl _) (.cons (.refl _) (.cons ⟨rfl,by decide⟩ (.refl _)))) ?_;refine Ou.each (λn:Nat=>D.int n) (List.range' 0 Z.length) (λpre a=>∃x3 x4,a=[o0 SA,o0 K,some (1,.lst ((bu (λ_ _=>true) 0 ((Z.take pre.length).map aV)).map pairD)),x3,x4]) (vs:=[(99,.int Z.length)]) (by simp[-fJ,lZ]) (by rw[wk_rng1 (by omega),rg]) (by simp; omega) ⟨none,none,rfl⟩ ?_ ?_
 .rintro pre q suf a he ⟨x3,x4,rfl⟩;obtain⟨hq,hqZ⟩:=mq he;rw[HP,List.length_singleton,<-hq,Ep hqZ,Ij];have hL:=DK (p:=p) (cs:=cs) hl (λ_ _=>true) q;rw[<-HG (as:=bu (λ_ _=>true) 0 ((Z.take q).map aV)) pairD] at hL;generalize (bu (λ_ _=>true) 0 ((Z.take q).map aV)).map pairD=L0 at hL ⊢;have hO:Z[q]? = some (Z.getD q []):=by rw[HM,HI hqZ]; rfl
  have w:=s.wn (HL hO);generalize Z.getD q []=O at hO w ⊢;have ix1:=ixs q O hO;have eS:aV O=(List.range' 0 cs.length).filter λg=>decide (g∈O):=by
   unfold aV;have e6:List.range 6=List.range' 0 cs.length++List.range' cs.length (6 - cs.length):=by
    rw[Jf,show 6=cs.length+(6 - cs.length) by omega,<-List.range'_append_1,Kw];congr 2
    omega
   rw[e6,IR,Jn (l:=List.range' cs.length (6 - cs.length)) |>.mpr,IS]
   .exact Jj λg _=>by simp
   .intro g hg hc;have h1:=w.lt g (by simpa using hc);have h2:=List.mem_range'_1.mp hg;omega
  refine⟨_,dS rfl,?_⟩;refine Ou.each (λn:Nat=>D.int n) (List.range' 0 cs.length) (λpr a=>∃x4,a=[o0 SA,o0 K,some (1,.lst (L0++((pr.filter λg=>decide (g∈O)).map λg=>(q,g)).map pairD)),o0 (.int q),x4]) (vs:=[(99,.int cs.length)]) (by simp[-fJ,lC]) (by rw[wk_rng1 (by omega),rg]) (by simp; omega) ⟨x4,by simp⟩ ?_ ?_
  .rintro pr g su a he2 ⟨x4,rfl⟩;obtain⟨hg0,hg⟩:=mq he2;have ix2:=ixc g hg;obtain⟨i,c,ec⟩:∃i c,covA cs g=i::c:=by
    cases e:covA cs g with
    | nil=>exact absurd e (C.ne g hg)
    | cons i c=>exact⟨i,c,rfl⟩
   have hic:i∈covA cs g:=by rw[ec]; simp
   have ri:=C.rg g i hic;obtain⟨j,rfl⟩:∃j:Nat,i=(j:Int):=⟨i.toNat,by omega⟩
   have ix3:=gR (cs:=cs) (O:=O) (show j<p by omega);rw[ec] at ix2;have ix0:aS (.lst (((j:Int)::c).map D.int)) (.int 0)=o0 (.int j):=by simp[aS,dB]
   generalize D.lst (((j:Int)::c).map D.int)=CC at ix2 ix0;generalize wrD (aK cs p O)=WA at ix1 ix3;have pn:=k8 (aP cs j O);have hsq:(aQ (aP cs j O)).seq=some (aL (aP cs j O)):=rfl;have mf:g∈aP cs j O↔g∈O:=⟨λh=>(HK.mp h).1,λh=>iJ h hic⟩
   have mb:D.memb (.int g) (aL (aP cs j O))=decide (g∈O):=(ko g _).trans (JC.mpr mf);generalize aQ (aP cs j O)=RR at ix3 hsq;have hpl:=HW (λg=>decide (g∈O)) pr;refine⟨_,dS rfl,?_⟩;have ev:∀a:Fr,a=[o0 SA,o0 K,some (1,.lst (L0++((pr.filter λg=>decide (g∈O)).map λg=>(q,g)).map pairD)),o0 (.int q),o0 (.int g)]->eval G (run G n) a.sl (.op .isin [(.var 4),(.op .ix [(.op .ix [(.var 0),(.var 3)]),(.op .ix [(.op .ix [(.var 1),(.var 4)]),(.cst (.int (0)))])])])=.ok (99,.bl (decide (g∈O))):=by
    rintro a rfl;simp[-aS,-List.all_eq_true,-D.seq,ix1,ix2,ix0,ix3,hsq,mb,pn]
   by_cases hb:g∈O
   .rw[HS hb] at ev;refine Ou.iffT (j:=99) (ev _ rfl) ?_;refine Ou.append (k:=0) (xs:=L0++((pr.filter λg=>decide (g∈O)).map λg=>(q,g)).map pairD) (v:=(aZ [(0,.int q),(0,.int g)]+1,pairD (q,g))) rfl (by simp[pairD]) (by simp only[HP,HG]; omega) (Ou.nil (Ou.nil ⟨o0 (.int g),?_⟩));simp[frz,frz1,hb]
   .rw[Il hb] at ev;refine Ou.iffN (j:=99) (ev _ rfl) (Ou.nil ⟨o0 (.int g),?_⟩);simp[hb]
  .rintro a ⟨x4,rfl⟩;refine Ou.nil ⟨o0 (.int q),x4,?_⟩;rw[eS];simp
 .rintro a ⟨x3,x4,rfl⟩;rw[Jr,JD];exact Ou.ret (x:=(0,.lst ((wl Z).map pairD))) (by simp[wl]) rfl
end Ip
end
section
namespace Ip
open PySem (Str)
open Classical
section
variable {p:Nat}{cs:ab}{Z Z':af}
def gC {q:Nat}{O:ak}(h:Z[q]? = some O):Z.getD q []=O:=by rw[HM,h]; rfl
def o6 {q g:Nat}{O O':ak}(h:Z[q]? = some O)(h':Z'[q]? = some O'):sy cs Z Z' q g=decide (Sy cs O O' g):=by rw[sy,gC h,gC h']
end
theorem kS:∀{ds:ax},(∀d∈ds,d.eq d=true)->D.eqs ds ds=true
 | [],_=>rfl
 | d::ds,h=>by rw[D.eqs,h d IF,kS λy hy=>h y (IP _ hy)]; rfl
def En (h:g<cs.length):aS (aM cs) (.int (g:Nat))=o0 (.lst ((covA cs g).map .int)):=jX h
variable {G:Pg}(P:Pm G)
include P
def Fp (n k k1 k2 k3 k4 p q g j:Nat)(cs:ab)(Z Z':af)(O O':ak)(hO:Z[q]? = some O)(hO':Z'[q]? = some O')(hg:g∈O)(hj:(j:Int)∈covA cs g)(hjp:j<p):∃i,run G (n+1) 123 [(k,aR p cs Z),(k1,aR p cs Z'),(k2,.int q),(k3,.int g),(k4,.int j)]=.ret i (.bl (decide (g∈aP cs j O'/\pf g (aP cs j O)=pf g (aP cs j O')))) []:=by
 have ix1:=gZ (p:=p) (cs:=cs) hO;have ix2:=gZ (p:=p) (cs:=cs) hO';have ix3:=gR (cs:=cs) (O:=O) hjp;have ix4:=gR (cs:=cs) (O:=O') hjp;have hgA:=iJ hg hj;have ixe:ce (aQ (aP cs j O)) (.int g)=some (99,.int ((aP cs j O).idxOf g:Nat)):=by
  have sc:=kZ (aP cs j O);rw[aQ,kN,lR hgA,sc];rfl
 have hd:decide (g∈aP cs j O'/\pf g (aP cs j O)=pf g (aP cs j O'))=decide ((aP cs j O).take ((aP cs j O).idxOf g+1)=(aP cs j O').take ((aP cs j O).idxOf g+1)):=JC.mpr (xD hgA).symm;rw[hd];clear hd;generalize aP cs j O=ra at *;generalize aP cs j O'=rb at *;have t1:=l5 ra (ra.idxOf g+1);have t2:=l5 rb (ra.idxOf g+1);have e1:=pT (ra.take (ra.idxOf g+1)) (rb.take (ra.idxOf g+1));have p1:=oX (ra.take (ra.idxOf g+1));have p2:=oX (rb.take (ra.idxOf g+1));rw[Int.natCast_add,Int.cast_ofNat_Int] at t1 t2;generalize aR p cs Z=SA at *;generalize aR p cs Z'=SB at *;generalize wrD (aK cs p O)=WA at *;generalize wrD (aK cs p O')=WB at *;refine Ou.rq P.f123 ?_;show Ou _ _ _ [o0 SA,o0 SB,o0 (.int q),o0 (.int g),o0 (.int j),none,none] _ _ _;refine Ou.set (x:=(0,aQ ra)) (by simp[-aS,ix1,ix3]) ?_;generalize aQ ra=RA at *;generalize aQ rb=RB at *;refine Ou.set (x:=(99,.int ((ra.idxOf g:Nat)+1))) (by simp[ixe]) ?_;refine Ou.ret (x:=(99,.bl (decide (ra.take (ra.idxOf g+1)=rb.take (ra.idxOf g+1))))) ?_ rfl;generalize aQ (ra.take (ra.idxOf g+1))=R1 at *;generalize aQ (rb.take (ra.idxOf g+1))=R2 at *;simp[-aS,-cutOp,ix2,ix4,t1,t2,e1,p1,p2]
end Ip
end
section
namespace Ip
open PySem (Str)
open Classical
section
variable {G:Pg}{cl:Nat->aw->Run}{io:ak}{a:Fr}{ss:ay}{N:Fr->Prop}{V:D->Prop}
def Ou.putF (hx:(frz e.names a)[x]? = some (some (k+1,.lst xs)))(he:eval G cl a.sl e=.ok v)(hi:eval G cl a.sl i=.ok (j,.int n))(hn:0<=n/\n<xs.length)(h:Ou G cl io ((frz e.names a).set x (some (1,.lst (xs.set n.toNat v.2)))) ss N V):Ou G cl io a (.put x [] i e::ss) N V:=
 .step λA r=>by
  have r1:=r.settle e.names v;obtain⟨k',hA⟩:=r1.own hx;simp only[yk,List.isEmpty_nil,if_true,r.sl,he,hi,R.toO,hA,hG,hn,and_self];exact⟨_,r1.set (.refl _) x,h⟩
def Ou.setU (h:eval G cl a.sl e=.ok (j,.lst ds))(k:Ou G cl io (bJ (λd=>(0,d)) is ds (frz e.names a)) ss N V)(hi:(ds.length == is.length&&is.all λi=>!io.contains i&&Nat.blt i a.length)=true:=by rfl):Ou G cl io a (.setT is e::ss) N V:=
 .step λA r=>by
  obtain⟨hl,hi⟩:=qq hi;obtain⟨A',q1,q2⟩:=RelF.setFs (io:=io) (is:=is) (ds:=ds) (k:=0) (r.settle e.names (j,.lst ds)) hl λi hm=>⟨(hi i hm).1,by rw[<-(RelF.low e.names a).len]; exact (hi i hm).2⟩
  simp only[tf,r.sl,h,R.toO,ft,q1];exact⟨_,q2,k⟩
end
def rQ (xs:List α)(lo hi:Option Int):(cutD xs lo hi).length<=xs.length:=by
 simp only[cutD,Ir,KF];omega
noncomputable def bD (m:Nat):ab:=[0]::(List.range (m - 1)).map λn:Nat=>[(n:Int),1+(n:Int)]
def xJ (h:4<=m/\m<=6):(bD m).length=m/\∀c∈bD m,OkC m c:=by
 refine⟨by simp[bD]; omega,λc hc=>?_⟩;rcases bQ hc with rfl | hc
 .exact n0 (ns:=[0]) h.2 (by simp) (by simp; omega) (by simp)
 .obtain⟨n,hn,rfl⟩:=bV hc;have hn:=IB.mp hn;have e:[(n:Int),1+(n:Int)]=[n,n+1].map λn:Nat=>(n:Int):=by simp; omega
  rw[e];exact n0 h.2 (by simp) (by simp; omega) (by simp)
def uG {cs:ab}{m pl:Nat}{O:ak}(nd:O.Nodup)(lt:∀g∈O,g<cs.length):Sg cs ((List.replicate m []).set pl O):=by
 have fl:∀(m pl:Nat),(((List.replicate m ([]:ak)).set pl O).flatten=O\/((List.replicate m ([]:ak)).set pl O).flatten=[]):=by
  intro m;induction m with
  | zero=>intro pl; exact .inr rfl
  | succ m ih=>
   intro pl;rw[List.replicate_succ];cases pl with
   | zero=>exact .inl (by simp)
   | succ pl=>simpa using ih pl
 rcases fl m pl with e | e
 .exact⟨by rw[e]; exact nd,by rw[e]; exact lt⟩
 .exact⟨by rw[e]; exact .nil,by rw[e]; simp⟩
def zx {m a:Nat}{O:ak}(nd:O.Nodup)(lt:∀g∈O,g<m)(h:a+1<O.length):(O.take a++[O[a+1],O[a]]++O.drop (a+2)).Nodup/\∀g∈O.take a++[O[a+1],O[a]]++O.drop (a+2),g<m:=by
 have e:O=O.take a++[O[a],O[a+1]]++O.drop (a+2):=by
  rw[Jx]
  conv=>lhs; rw[<-Jd a O,IE (by omega),IE h]
  rfl
 have p:O.Perm (O.take a++[O[a+1],O[a]]++O.drop (a+2)):=by
  conv=>lhs; rw[e]
  exact List.Perm.append_right _ (List.Perm.append_left _ (List.Perm.swap _ _ _))
 exact⟨p.nodup_iff.mp nd,λg hg=>lt g (p.mem_iff.mpr hg)⟩
def AE {m r:Nat}{O:ak}(nd:O.Nodup)(lt:∀g∈O,g<m):(O.take r++O.drop (r+1)).Nodup/\∀g∈O.take r++O.drop (r+1),g<m:=by
 have sb:(O.take r++O.drop (r+1)).Sublist O:=by
  conv=>rhs; rw[<-Jd r O]
  refine List.Sublist.append (.refl _) ?_;rw[<-List.drop_drop];exact List.drop_sublist _ _
 exact⟨nd.sublist sb,λg hg=>lt g (sb.subset hg)⟩
variable {G:Pg}(P:Pm G)
include P
def Et (n k k1 k2 p:Nat)(cs:ab)(O:ak)(hp:p<=6)(hO:O.length<=6)(hg:∀g∈O,g<cs.length):∃i,run G (n+1) 127 [(k,aM cs),(k1,.int p),(k2,.lst (aL O))]=.ret i (wrD (aK cs p O)) []:=by
 have h100:100<=SL:=by decide
 have hpS:p<=SL:=by omega
 have lO:(aL O).length<=SL:=by rw[fV]; omega
 have ci:∀j:Nat,aW (compF G (run G n) [none,none,some (aM cs),some (.int j)] (.one 1) [(.op .isin [(.var 3),(.op .ix [(.var 2),(.var 1)])])] (.var 1)) (aL O)=.ok ((aP cs j O).map λg:Nat=>(0,.int g)):=λj=>by
  refine ml (e:=λu:Nat=>D.int (Int.ofNat u)) (p:=λg=>decide ((j:Int)∈covA cs g)) λg hgO=>?_;have ix:=jX (hg g hgO);have mb:=oz j (covA cs g);have pc:((covA cs g).map D.int).all (D.pur 60)=true:=by simp
  generalize aM cs=K at ix ⊢;generalize (covA cs g).map D.int=CG at *;by_cases h:(j:Int)∈covA cs g
  .rw[HS h] at mb; simp[-aS,-List.all_eq_true,compF,ix,mb,pc,h]
  .rw[Il h] at mb; simp[-aS,-List.all_eq_true,compF,ix,mb,pc,h]
 have co:aW (compF G (run G n) [none,none,some (aM cs),some (.lst (aL O))] (.one 1) [] (.op .tuple [(.comp [none,none,(some 2),(some 1)] (.one 1) .seq [(.var 3)] [(.op .isin [(.var 3),(.op .ix [(.var 2),(.var 1)])])] (.var 1))])) ((List.range p).map λj:Nat=>D.int j)=.ok ((List.range p).map λj=>(0,aQ (aP cs j O))):=by
  refine gN λj _=>?_;have ci:=ci j;generalize aM cs=K at ci ⊢;generalize aL O=NO at ci lO ⊢;simp[compF,lO,ci,Function.comp_def];rfl
 have e:wrD (aK cs p O)=.tup ((List.range p).map λj=>aQ (aP cs j O)):=by simp[wrD,aK]
 refine⟨0,?_⟩;rw[run,P.f127,e];have wr:=wk_rng1 (k:=0) hpS;generalize aM cs=K at co ⊢;generalize aL O=NO at co ⊢;simp[oE,wr,hpS,co,Function.comp_def]
end Ip
end
section
namespace Ip
open PySem (Str)
open Classical
def uD (O:ak)(a:Nat):cutOp none (some (a:Int)) (.lst (aL O))=some (1,.lst (aL (O.take a))):=by
 simp only[cutOp,kY];simp[aL]
def yi (O:ak)(a:Nat):cutOp (some (a:Int)) none (.lst (aL O))=some (1,.lst (aL (O.drop a))):=by
 simp only[cutOp,nN];simp[aL]
def qf {A B:ak}(h:A.length+B.length<=100):addD (.lst (aL A)) (.lst (aL B))=some (1,.lst (aL (A++B))):=by
 have:(aL A).length+(aL B).length<=SL:=by
  have:100<=SL:=by decide
  rw[fV,fV];omega
 simp only[addD];rw[if_pos this,rM]
def mB {O:ak}{a:Nat}(h:a<O.length):aS (.lst (aL O)) (.int (a:Nat))=o0 (.int (O[a]:Nat)):=by
 have h':(a:Int)<O.length:=by omega
 simp[aL,aS,dB,h',h]
def dN (c:Int){b:Int}(h:0<b):∃a:Nat,c % b=(a:Int)/\(a:Int)<b:=
 have e:=Iv (Kc c (Int.ne_of_gt h))
 ⟨(c % b).toNat,e.symm,e.symm ▸ JL c h⟩
def dK (k b:Nat)(c:Int)(h:0<b):∃p:Nat,(k:Int)+c % (b:Int)=(p:Int)/\k<=p/\p<k+b:=by
 obtain⟨a,e,l⟩:=dN c (Kx.mpr h);exact⟨k+a,by rw[e,Int.natCast_add],Nat.le_add_right k a,Nat.add_lt_add_left (Kx.mp l) k⟩
def gM {M:Nat}(h:4<=M/\M<=6):(0:Int)<(M:Int) - 1/\(1:Int)<M/\(-1000000:Int)<=M/\(M:Int)<=1000000:=by omega
def gA {a M:Nat}(h:(a:Int)<(M:Int) - 1):a+1<M:=by omega
def tM (M:Nat):((M:Int) - 1).toNat=M - 1:=by omega
def zN (O:ak)(a b c:Nat)(h:O.length<=6):(O.take a++[b,c]).length+(O.drop (a+2)).length<=100:=by
 simp;omega
variable {G:Pg}(P:Pm G)
include P
def Hw (n k k1:Nat)(ns:am)(m:Nat)(hm:1<=m/\m<=3):∃j M Z1 Z2,run G (n+2) 128 [(k,.lst (ns.map .int)),(k1,.int m)]=.ret j (.tup [aM (bD M),.int M,.lst [aR M (bD M) (List.replicate m []),aR M (bD M) Z1,aR M (bD M) Z2]]) []/\(4<=M/\M<=6)/\Sg (bD M) Z1/\Sg (bD M) Z2/\Z1.length=m/\Z2.length=m:=by
 have h100:100<=SL:=by decide
 obtain⟨d2,q2⟩:=iw P.d n 0 99 ns 2;obtain⟨d3,q3⟩:=iw P.d n 0 99 ns 3;obtain⟨d4,q4⟩:=iw P.d n 0 99 ns 4;obtain⟨d5,q5⟩:=iw P.d n 0 99 ns 5;have q2:run G (n+1) 98 [(0,.lst (ns.map .int)),(99,.int 2)]=.ret d2 (.int (ns.getD 2 0)) []:=q2;have q3:run G (n+1) 98 [(0,.lst (ns.map .int)),(99,.int 3)]=.ret d3 (.int (ns.getD 3 0)) []:=q3;have q4:run G (n+1) 98 [(0,.lst (ns.map .int)),(99,.int 4)]=.ret d4 (.int (ns.getD 4 0)) []:=q4;have q5:run G (n+1) 98 [(0,.lst (ns.map .int)),(99,.int 5)]=.ret d5 (.int (ns.getD 5 0)) []:=q5;generalize ns.getD 2 0=c2 at q2;generalize ns.getD 3 0=c3 at q3;generalize ns.getD 4 0=c4 at q4;generalize ns.getD 5 0=c5 at q5;obtain⟨M,eM,hM,hM'⟩:∃M:Nat,4+c2 % 3=(M:Int)/\4<=M/\M<7:=dK 4 3 c2 (by decide)
 replace hM:4<=M/\M<=6:=⟨hM,Kp hM'⟩
 obtain⟨i1,i3,mL,mS⟩:=gM hM;have m1:0<m:=hm.1;have m0:(0:Int)<(m:Int):=Kx.mpr m1;obtain⟨a,ea,ha⟩:=dN (c4 / 3) i1
 replace ha:=gA ha
 obtain⟨pl,epl,hpl⟩:=dN c5 m0
 replace hpl:pl<m:=Kx.mp hpl
 obtain⟨r,er,hr⟩:=dN c4 (b:=3) (by decide)
 replace hr:r<3:=Kx.mp hr
 obtain⟨lC,okC⟩:=xJ hM;have cv:aW (compF G (run G (n+1)) [none,none] (.one 1) [] (.op .lst [(.op .sub [(.var 1),(.cst (.int (1)))]),(.var 1)])) ((List.range ((M:Int) - 1).toNat).map λ(n:Nat)=>.int (1+n))=.ok ((List.range ((M:Int) - 1).toNat).map λn:Nat=>(99,.lst [.int n,.int (1+n)])):=gN λx _=>by simp[compF]; omega
 have wk2:cV .rng2 [(99,.int 1),(0,.int M)]=some ((List.range ((M:Int) - 1).toNat).map λ(n:Nat)=>.int (1+n)):=wk_rng2 (by decide) ⟨mL,mS⟩;have ecv:aM (bD M)=.lst ([.lst [.int 0]]++(List.range ((M:Int) - 1).toNat).map λn:Nat=>.lst [.int n,.int (1+n)]):=by
  rw[tM];simp[aM,bD]
 have acv:∀L:ax,L.length<=10->addD (.lst [.lst [.int 0]]) (.lst L)=some (1,.lst ([.lst [.int 0]]++L)):=λL hL=>by
  simp only[addD];rw[if_pos (by simp; omega)]
 have fin:∀(O W:ak),O.Nodup->(∀g∈O,g<M)->W.Nodup->(∀g∈W,g<M)->Ou G (run G (n+1)) [] [o0 (.lst (ns.map .int)),o0 (.int m),o0 (.int M),o0 (aM (bD M)),o0 (.lst (aL O)),o0 (.int c4),o0 (.int a),o0 (.lst (aL W)),none,none,none,none] (lu.body.drop 8) (λ_=>False) (λd=>∃Z1 Z2,d=.tup [aM (bD M),.int M,.lst [aR M (bD M) (List.replicate m []),aR M (bD M) Z1,aR M (bD M) Z2]]/\Sg (bD M) Z1/\Sg (bD M) Z2/\Z1.length=m/\Z2.length=m):=by
  intro O W nO lO nW lW;have hO6:=bv (gO nO lO) hM.2;have hW6:=bv (gO nW lW) hM.2;show Ou _ _ _ _ (.set 8 _::.set 9 _::.fo (.one 10) .seq _ _::_) _ _;refine Ou.set (x:=(99,.int pl)) (by simp[P.d.f98,eI,q5,epl,m1]) ?_;refine Ou.setK (x:=(99,.lst [])) (by simp) (by simp) ?_;refine Ou.low (a':=[o0 (.lst (ns.map .int)),o0 (.int m),o0 (.int M),o0 (aM (bD M)),o0 (.lst (aL O)),o0 (.int c4),o0 (.int a),o0 (.lst (aL W)),o0 (.int pl),some (1,.lst []),none,none]) (.cons (.refl _) (.cons (.refl _) (.cons (.refl _) (.cons (.refl _) (.cons (.refl _) (.cons (.refl _) (.cons (.refl _) (.cons (.refl _) (.cons (.refl _) (.cons ⟨rfl,by decide⟩ (.refl _))))))))))) ?_;refine Ou.each (λO:ak=>D.lst (aL O)) [[],O,W] (λpre a'=>∃x10 x11,a'=[o0 (.lst (ns.map .int)),o0 (.int m),o0 (.int M),o0 (aM (bD M)),o0 (.lst (aL O)),o0 (.int c4),o0 (.int a),o0 (.lst (aL W)),o0 (.int pl),some (1,.lst (pre.map λO=>aR M (bD M) ((List.replicate m []).set pl O))),x10,x11]) (vs:=[(aZ [(99,.lst []),(0,.lst (aL O)),(0,.lst (aL W))]+1,.lst [.lst (aL []),.lst (aL O),.lst (aL W)])]) ?_ rfl (by simp; omega) ⟨none,none,by simp⟩ ?_ ?_
  .simp[aL]
  .rintro pre U suf a' he ⟨x10,x11,rfl⟩;have hU:U.length<=6/\∀g∈U,g<M:=by
    have:U∈[[],O,W]:=by rw[he]; simp
    simp only[H0,Ib,or_false] at this;rcases this with rfl | rfl | rfl
    .simp
    .exact⟨hO6,lO⟩
    .exact⟨hW6,lW⟩
   have hp3:=congrArg List.length he;simp at hp3;have e11:D.lst ((List.replicate m (D.lst [])).set pl (.lst (aL U)))=.lst (((List.replicate m []).set pl U).map λO=>.lst (aL O)):=by
    rw[List.map_set,K4];rfl
   have hmu:dM (.lst [.lst []]) (.int m)=some (1,.lst (List.replicate m (.lst []))):=by
    simp only[dM];rw[if_pos ⟨by omega,dA.mpr (by omega),by simp; omega⟩,Int.toNat_natCast,tK]
   obtain⟨ys,cy,ey⟩:∃ys:aw,aW (compF G (run G (n+1)) [none,none,some (aM (bD M)),some (.int M)] (.one 1) [] (.call 127 [(.var 2),(.var 3),(.var 1)])) (((List.replicate m []).set pl U).map λO=>D.lst (aL O))=.ok ys/\ys.map (λx=>x.2)=((List.replicate m []).set pl U).map λO=>wrD (aK (bD M) M O):=kr λR hR=>by
    have hR':R.length<=6/\∀g∈R,g<(bD M).length:=by
     rw[lC];rcases List.mem_or_eq_of_mem_set hR with h | h
     .rw[(List.mem_replicate.mp h).2]; simp
     .rw[h]; exact hU
    obtain⟨i,q⟩:=Et P n 0 0 0 M (bD M) R hM.2 hR'.1 hR'.2;exact⟨i,by simp[compF,P.f127,oE,q]⟩
   refine⟨_,dS rfl,?_⟩;refine Ou.setD (j:=1) (x:=(1,.lst (List.replicate m (.lst [])))) (by simp[-dM,hmu]) (bC _) ?_;refine Ou.putF (k:=0) (j:=0) (xs:=List.replicate m (.lst [])) (v:=(0,.lst (aL U))) (n:=pl) (by simp[frz,frz1]) (by simp) (by simp) ⟨by omega,by simp; omega⟩ ?_;refine Ou.low (a':=[o0 (.lst (ns.map .int)),o0 (.int m),o0 (.int M),o0 (aM (bD M)),o0 (.lst (aL O)),o0 (.int c4),o0 (.int a),o0 (.lst (aL W)),o0 (.int pl),some (1,.lst (pre.map λO=>aR M (bD M) ((List.replicate m []).set pl O))),o0 (.lst (aL U)),some (1,.lst (((List.replicate m []).set pl U).map λO=>.lst (aL O)))]) (.of_eq (by rw[<-e11]; simp[frz,frz1])) ?_;have lset:(((List.replicate m ([]:ak)).set pl U).map λO=>D.lst (aL O)).length<=SL:=by simp; exact bv hm.2 (by decide)
   refine Ou.append (k:=0) (xs:=pre.map λO=>aR M (bD M) ((List.replicate m []).set pl O)) (v:=(0,aR M (bD M) ((List.replicate m []).set pl U))) (by simp[frz,frz1]) ?_ (by simp; omega) (Ou.nil ⟨o0 (.lst (aL U)),o0 (.lst (((List.replicate m []).set pl U).map λO=>.lst (aL O))),?_⟩)
   .generalize ((List.replicate m ([]:ak)).set pl U).map (λO=>D.lst (aL O))=L at cy lset ⊢;generalize aM (bD M)=K at cy ⊢;simp[lset,cy,ey,aR]
   .simp[frz,frz1]
  .rintro a' ⟨x10,x11,rfl⟩;refine Ou.retE (d:=.tup [aM (bD M),.int M,.lst [aR M (bD M) (List.replicate m []),aR M (bD M) ((List.replicate m []).set pl O),aR M (bD M) ((List.replicate m []).set pl W)]]) ?_ ⟨_,_,rfl,uG nO (by rw[lC]; exact lO),uG nW (by rw[lC]; exact lW),by simp,by simp⟩;have e0:(List.replicate m ([]:ak)).set pl []=List.replicate m []:=by
    refine List.ext_getElem (by simp) λi h1 h2=>?_;rw[List.getElem_set];split <;> simp
   have e3:([[],O,W]:af).map (λO=>aR M (bD M) ((List.replicate m []).set pl O))=[aR M (bD M) (List.replicate m []),aR M (bD M) ((List.replicate m []).set pl O),aR M (bD M) ((List.replicate m []).set pl W)]:=by
    rw[HQ,e0]; rfl
   rw[e3];exact⟨_,by simp; rfl⟩
 have key:Ou G (run G (n+1)) [] [o0 (.lst (ns.map .int)),o0 (.int m),none,none,none,none,none,none,none,none,none,none] lu.body (λ_=>False) (λd=>∃Z1 Z2,d=.tup [aM (bD M),.int M,.lst [aR M (bD M) (List.replicate m []),aR M (bD M) Z1,aR M (bD M) Z2]]/\Sg (bD M) Z1/\Sg (bD M) Z2/\Z1.length=m/\Z2.length=m):=by
  refine Ou.set (x:=(99,.int M)) (by simp[P.d.f98,eI,q2,eM]) ?_;refine Ou.setE (d:=aM (bD M)) ?_ ?_
  .rw[ecv];have ac:=acv ((List.range ((M:Int) - 1).toNat).map λn:Nat=>.lst [.int n,.int (1+n)]) (by simp; omega);have lr:(List.range ((M:Int) - 1).toNat).length<=SL:=by simp; omega
   generalize List.range ((M:Int) - 1).toNat=R at *;exact⟨_,by simp[-addD,wk2,lr,cv,Function.comp_def,ac]; rfl⟩
  refine Ou.set (x:=(1,.lst (aL (List.range M)))) (by simp[mS]) ?_;have nx:∀O:ak,O.Nodup->(∀g∈O,g<M)->O.length=M->Ou G (run G (n+1)) [] [o0 (.lst (ns.map .int)),o0 (.int m),o0 (.int M),o0 (aM (bD M)),o0 (.lst (aL O)),none,none,none,none,none,none,none] (lu.body.drop 4) (λ_=>False) (λd=>∃Z1 Z2,d=.tup [aM (bD M),.int M,.lst [aR M (bD M) (List.replicate m []),aR M (bD M) Z1,aR M (bD M) Z2]]/\Sg (bD M) Z1/\Sg (bD M) Z2/\Z1.length=m/\Z2.length=m):=by
   intro O nO lO eO;show Ou _ _ _ _ (.set 5 _::.set 6 _::.set 7 _::.iff _ _ _::_) _ _;refine Ou.set (x:=(d4,.int c4)) (by simp[P.d.f98,eI,q4]) ?_;refine Ou.set (x:=(99,.int a)) (by simp[i3,ea]) ?_;have h1:a+1<O.length:=by rw[eO]; exact ha
   have t1:=uD O a;have t2:=yi O (a+2);have x1:=mB h1;have x2:=mB (Nat.lt_of_succ_lt h1);have a1:=qf (A:=O.take a) (B:=[O[a+1],O[a]]) (by simp; omega);have a2:=qf (A:=O.take a++[O[a+1],O[a]]) (B:=O.drop (a+2)) (zN O a _ _ (eO ▸ hM.2));have sw:=zx nO lO h1;have b1:aL [O[a+1],O[a]]=[.int (O[a+1]:Nat),.int (O[a]:Nat)]:=rfl;rw[b1] at a1;rw[Int.natCast_add,Int.cast_ofNat_Int] at t2;rw[Int.natCast_add,Int.cast_ofNat_Int] at x1;generalize O.take a++[O[a+1],O[a]]++O.drop (a+2)=W1 at a2 sw;refine Ou.set (x:=(1,.lst (aL W1))) ?_ ?_
   .generalize (O[a+1]:Nat)=oa at *;generalize (O[a]'(by omega):Nat)=ob at *;generalize aL (O.take a)=N1 at *;generalize aL (O.take a++[oa,ob])=N2 at *;generalize aL (O.drop (a+2))=N3 at *;generalize aL O=NO at *;simp[-addD,-cutOp,-aS,show ∀i j:Int,addD (.int i) (.int j)=some (99,.int (i+j)) from λ_ _=>rfl,t1,t2,x1,x2,a1,a2]
   refine Ou.low (a':=[o0 (.lst (ns.map .int)),o0 (.int m),o0 (.int M),o0 (aM (bD M)),o0 (.lst (aL O)),o0 (.int c4),o0 (.int a),o0 (.lst (aL W1)),none,none,none,none]) (.of_eq (by simp)) ?_;by_cases hr2:r<2
   .have e2:c4 % 3<2:=by omega
    refine Ou.iffT (j:=99) (by simp[e2]) ?_;have u1:=uD O r;have u2:=yi O (r+1);have u3:=qf (A:=O.take r) (B:=O.drop (r+1)) (by simp; omega);have dr:=AE (r:=r) nO lO;rw[Int.natCast_add,Int.cast_ofNat_Int] at u2;generalize O.take r++O.drop (r+1)=W2 at u3 dr;refine Ou.set (x:=(1,.lst (aL W2))) ?_ (Ou.nil ?_)
    .generalize aL (O.take r)=N1 at *;generalize aL (O.drop (r+1))=N3 at *;generalize aL O=NO at *;simp[-addD,-cutOp,show ∀i j:Int,addD (.int i) (.int j)=some (99,.int (i+j)) from λ_ _=>rfl,er,u1,u2,u3]
    exact fin O W2 nO lO dr.1 dr.2
   .have e2:¬c4 % 3<2:=by omega
    exact Ou.iffN (j:=99) (by simp[e2]) (fin O W1 nO lO sw.1 sw.2)
  have rN:(List.range M).Nodup:=List.nodup_range;have rL:∀g∈List.range M,g<M:=λg h=>IB.mp h;by_cases h3:c3 % 3=1
  .refine Ou.iffT (j:=99) (by simp[P.d.f98,eI,q3,D.eq,h3]) ?_;refine Ou.set (x:=(1,.lst (aL (List.range M).reverse))) (by simp[aL]) (Ou.nil ?_);exact nx _ ((Ky _).nodup_iff.mpr rN) (λg h=>rL g (J5.mp h)) (by simp)
  .exact Ou.iffN (j:=99) (by simp[P.d.f98,eI,q3,D.eq,h3]) (nx _ rN rL (by simp))
 obtain⟨j,d,e,Z1,Z2,rfl,h1,h2,h3,h4⟩:=Ou.rv (vs:=[(k,.lst (ns.map .int)),(k1,.int m)]) P.f128 key;exact⟨j,M,Z1,Z2,e,hM,h1,h2,h3,h4⟩
end Ip
end
section
namespace Ip
open PySem (Str)
open Classical
section
variable {G:Pg}(P:Pm G)
include P
def qE:cD G 17 2=some (18,k7,.ins 17 []):=by
 simp[cD,P.v.a.c17,P.v.a.f18,k7]
def F5 (n k:Nat)(ns:am)(hl:ns.length<=63):∃j p cs m Z1 Z2,run G (n+4) 129 [(k,.lst (ns.map .int))]=.ret j (.tup [aM cs,.int (p:Nat),.lst [aR p cs (List.replicate m []),aR p cs Z1,aR p cs Z2]]) []/\(1<=p/\p<=6)/\cs.length<=6/\(∀c∈cs,OkC p c)/\Sg cs Z1/\Sg cs Z2/\m<=3/\Z1.length=m/\Z2.length=m:=by
 obtain⟨d1,q1⟩:=iw P.d (n+2) 0 99 ns 0;obtain⟨p,ep,hp,hp'⟩:∃p:Nat,1+ns.getD 0 0 % 6=(p:Int)/\1<=p/\p<7:=dK 1 6 _ (by decide)
 replace hp:1<=p/\p<=6:=⟨hp,Kp hp'⟩
 obtain⟨jc,cs,qc,hm,ok⟩:=yB P.d (n+1) 0 0 ns p hp;obtain⟨d8,q8⟩:=iw P.d (n+2) 0 99 ns 8;obtain⟨m,em,hk,hk'⟩:∃m:Nat,1+ns.getD 8 0 % 3=(m:Int)/\1<=m/\m<4:=dK 1 3 _ (by decide)
 replace hk:1<=m/\m<=3:=⟨hk,Kp hk'⟩
 have q1':run G (n+3) 98 [(0,.lst (ns.map .int)),(99,.int 0)]=.ret d1 (.int (ns.getD 0 0)) []:=q1;have q8':run G (n+3) 98 [(0,.lst (ns.map .int)),(99,.int 8)]=.ret d8 (.int (ns.getD 8 0)) []:=q8;clear q1 q8;generalize ns.getD 0 0=c0 at q1' ep;generalize ns.getD 8 0=c8 at q8' em;obtain⟨f1,f2⟩:=yK cs hp (m:=m) ⟨hk.1,bv hk.2 (by decide)⟩;have C:=xo hp hm ok;have sF:Sg cs (List.replicate m []):=⟨by simp,by simp⟩
 have lF:(List.replicate m ([]:ak)).length=m:=by simp
 obtain⟨jh,M,W1,W2,qh,hM,t1,t2,t3,t4⟩:=Hw P (n+1) 0 0 ns m hk;obtain⟨lC,okC⟩:=xJ hM;have V0:∀d:D,d=.tup [aM (bD M),.int M,.lst [aR M (bD M) (List.replicate m []),aR M (bD M) W1,aR M (bD M) W2]]->∃(p:Nat) (cs:ab) (m:Nat) (Z1 Z2:af),d=.tup [aM cs,.int p,.lst [aR p cs (List.replicate m []),aR p cs Z1,aR p cs Z2]]/\(1<=p/\p<=6)/\cs.length<=6/\(∀c∈cs,OkC p c)/\Sg cs Z1/\Sg cs Z2/\m<=3/\Z1.length=m/\Z2.length=m:=λd e=>⟨M,bD M,_,W1,W2,e,⟨bv (by decide) hM.1,hM.2⟩,lC.symm ▸ hM.2,okC,t1,t2,hk.2,t3,t4⟩
 generalize hF:List.replicate m ([]:ak)=F at *;have mix:∀M:Int,0<M->∃(v:Nat) (j:Nat),run G (n+3) 71 [(d1,.int c0),(99,.int 34),(99,.int M)]=.ret j (.int v) []:=λM hM=>by
  obtain⟨v,j,q,h0,_⟩:=kX P.d (n+2) d1 99 99 c0 34 M hM (by decide);exact⟨v.toNat,j,by rw[q,Iv h0]⟩
 have cut:∃v:Nat,eval G (run G (n+3)) [some (.lst (ns.map .int)),some (.int p),some (.int m),some (aM cs),some (aR p cs F),none,none,none] (.op .add [(.cst (.int (9))),(.call 71 [(.call 98 [(.var 0),(.cst (.int (0)))]),(.cst (.int (34))),(.op .max2 [(.cst (.int (1))),(.op .sub [(.op .len [(.var 0)]),(.cst (.int (9)))])])])])=.ok (99,.int (9+(v:Int))):=by
  by_cases h2:1<(ns.length:Int) - 9
  .obtain⟨v,j,q⟩:=mix ((ns.length:Int) - 9) (Int.lt_trans (by decide) h2);exact⟨v,by simp[P.d.f98,eI,q1',P.d.f71,gK,h2,q]⟩
  .obtain⟨v,j,q⟩:=mix 1 (by decide);exact⟨v,by simp[P.d.f98,eI,q1',P.d.f71,gK,h2,q]⟩
 obtain⟨v,e5⟩:=cut;have cut1:cutD (ns.map D.int) (some 9) (some 63)=(cutD ns (some 9) (some 63)).map .int:=rC _ _ _ _;have cut2:cutD ((cutD ns (some 9) (some 63)).map D.int) none (some (9+(v:Int) - 9))=(cutD (cutD ns (some 9) (some 63)) none (some (9+(v:Int) - 9))).map .int:=rC _ _ _ _;have cut3:cutD (ns.map D.int) (some (9+(v:Int))) (some 63)=(cutD ns (some (9+(v:Int))) (some 63)).map .int:=rC _ _ _ _;have l1:=rQ ns (some 9) (some 63);have l2:=rQ (cutD ns (some 9) (some 63)) none (some (9+(v:Int) - 9));have l3:=rQ ns (some (9+(v:Int))) (some 63);obtain⟨j1,xs0,Z,qz,hw0,_⟩:=wO P n 1 0 0 p cs F (cutD (cutD ns (some 9) (some 63)) none (some (9+(v:Int) - 9))) C sF (lF.symm ▸ hk) (bv l2 (bv l1 hl));obtain⟨s,lZ,_⟩:=hw0.good sF;generalize cutD (cutD ns (some 9) (some 63)) none (some (9+(v:Int) - 9))=cells1 at cut2 qz;generalize cutD ns (some (9+(v:Int))) (some 63)=cells2 at cut3 l3;generalize cutD ns (some 9) (some 63)=cells at cut1 cut2;obtain⟨B,iB,sB,lB⟩:∃B:af,aS (.lst [aR p cs Z,aR p cs Z,aR p cs F]) (.int (c8 / 3 % 3))=o0 (aR p cs B)/\Sg cs B/\B.length=m:=by
  obtain⟨r,h,hr⟩:=dN (c8 / 3) (b:=3) (by decide);rw[h];match r,(Kx.mp hr:r<3) with
  | 0,_=>exact⟨Z,rfl,s,lZ.trans lF⟩
  | 1,_=>exact⟨Z,rfl,s,lZ.trans lF⟩
  | 2,_=>exact⟨F,rfl,sF,lF⟩
 obtain⟨j2,xs,Z',qz2,hw,_⟩:=wO P n 1 0 0 p cs B cells2 C sB (lB.symm ▸ hk) (bv l3 hl);obtain⟨s',lZ',_⟩:=hw.good sB;have key:Ou G (run G (n+3)) [] [o0 (.lst (ns.map .int)),none,none,none,none,none,none,none] oQ.body (λ_=>False) (λd=>∃(p:Nat) (cs:ab) (m:Nat) (Z1 Z2:af),d=.tup [aM cs,.int p,.lst [aR p cs (List.replicate m []),aR p cs Z1,aR p cs Z2]]/\(1<=p/\p<=6)/\cs.length<=6/\(∀c∈cs,OkC p c)/\Sg cs Z1/\Sg cs Z2/\m<=3/\Z1.length=m/\Z2.length=m):=by
  refine Ou.set (x:=(99,.int p)) (by simp[P.d.f98,eI,q1',ep]) ?_;refine Ou.set (x:=(99,.int m)) (by simp[P.d.f98,eI,q8',em]) ?_;by_cases hb:c0 / 6 % 3=1
  .refine Ou.iffT (j:=99) (by simp[P.d.f98,eI,q1',D.eq,hb]) ?_;exact Ou.ret (x:=(jh,_)) (by simp[P.f128,lu,qh]) (V0 _ rfl)
  refine Ou.iffN (j:=99) (by simp[P.d.f98,eI,q1',D.eq,hb]) ?_;refine Ou.set (x:=(jc,aM cs)) (by simp[P.d.f99,oJ,qc]) ?_;refine Ou.set (x:=(0,aR p cs F)) (by simp[-dM,f1,f2]) ?_;show Ou _ _ _ [o0 (.lst (ns.map .int)),o0 (.int p),o0 (.int m),o0 (aM cs),o0 (aR p cs F),none,none,none] _ _ _;refine Ou.set (x:=(99,.int (9+(v:Int)))) e5 ?_;refine Ou.set (x:=(0,aR p cs Z)) ?_ ?_
  .generalize aR p cs F=SF at qz ⊢;generalize aR p cs Z=SZ at qz ⊢;generalize aM cs=K at qz ⊢;simp[cut1,cut2,P.f118,mD,qz,dB]
  refine Ou.set (x:=(0,aR p cs Z')) ?_ ?_
  .generalize aR p cs F=SF at *;generalize aR p cs Z=SZ at *;generalize aR p cs Z'=SY at *;generalize aR p cs B=SB at *;generalize aM cs=K at *;have i1:aS (.tup [.lst (xs.map dD),SY]) (.int 1)=o0 SY:=rfl;generalize D.tup [.lst (xs.map dD),SY]=TT at *;simp[-aS,cut3,P.d.f98,eI,q8',iB,P.f118,mD,qz2,i1]
  refine Ou.retE (d:=.tup [aM cs,.int p,.lst [aR p cs F,aR p cs Z,aR p cs Z']]) ⟨_,by simp; rfl⟩ ⟨p,cs,m,Z,Z',by rw[hF],hp,hm,ok,s,s',hk.2,lZ.trans lF,lZ'.trans lB⟩
 obtain⟨j,d,e,p,cs,m,Z1,Z2,rfl,h⟩:=Ou.rv (vs:=[(k,.lst (ns.map .int))]) P.f129 key;exact⟨j,p,cs,m,Z1,Z2,e,h⟩
end
def oS (n:h≠a):pf h (a::l)=a::pf h l:=by
 unfold pf;rw[List.idxOf_cons,beq_false_of_ne (JG n)];rfl
theorem wH {S:Nat->Bool}:∀{R' R:ak},R.Nodup->R'.Nodup->(∀h∈R,S h=true->h∈R'/\pf h R=pf h R')->(∀h∈R',S h=true->h∈R/\∀u∈pf h R',S u=true)->R.filter S++R'.filter (λg=>!S g)=R'
 | [],R,_,_,h1,_=>by
  rw[Jn.mpr λa ha hs=>nomatch (h1 a ha hs).1];rfl
 | a::R',R,n1,n2,h1,h2=>by
  by_cases hS:S a=true
  .obtain⟨k1,_⟩:=h2 a bN hS;obtain⟨A,B,e,hA⟩:=Iu k1;have k2:=(h1 a k1 hS).2;rw[e,h8 hA] at k2;have e0:pf a (a::R')=[]:=by simp[pf]
   rw[e0] at k2;subst k2;subst e;obtain⟨a1,n1⟩:=HZ.mp n1;obtain⟨a2,n2⟩:=HZ.mp n2;rw[List.nil_append,List.filter_cons_of_pos hS,List.filter_cons_of_neg (by simp[hS]),List.cons_append,wH n1 n2 (λh hh hs=>?_) λh hh hs=>?_]
   .have hn:h≠a:=λz=>a1 (z ▸ hh);obtain⟨m1,m2⟩:=h1 h (bM _ hh) hs;rw[oS hn,List.nil_append,oS hn] at m2;exact⟨(bQ m1).resolve_left hn,(List.cons.inj m2).2⟩
   .have hn:h≠a:=λz=>a2 (z ▸ hh);obtain⟨m1,m2⟩:=h2 h (bM _ hh) hs;refine⟨(bQ m1).resolve_left hn,λu hu=>m2 u ?_⟩;rw[oS hn];exact bM _ hu
  .have no:∀h∈a::R',¬S h=true:=λh hh hs=>by
    by_cases e:h=a
    .exact hS (e ▸ hs)
    .refine hS ((h2 h hh hs).2 a ?_);rw[oS e];exact bN
   rw[Jn.mpr λx hx hs=>no x (h1 x hx hs).1 hs,List.nil_append,Jc.mpr λx hx=>by simpa using no x hx]
section
variable {p:Nat}{cs:ab}{O O':ak}
def w8 (S:Nat->Bool)(j:Nat)(O:ak):aP cs j (O.filter S)=(aP cs j O).filter S:=by
 unfold aP; rw[II,II]; congr 1; funext x; rw[KL]
def yZ (C:Cv p cs)(w:Wn cs O)(w':Wn cs O')(j:Nat):aP cs j (O.filter (λg=>decide (Sy cs O O' g))++(tp cs O').filter λg=>!decide (Sy cs O O' g))=aP cs j O':=by
 rw[gz,w8,w8,(gu (cs:=cs) w'.nd).rows j];refine wH (w.nd.filter _) (w'.nd.filter _) (λh hh hs=>?_) λh hh hs=>?_
 .have hj:=HY (HK.mp hh).2;cases HY hs with
  | mk _ h1 _=>exact h1 j hj
 .have hj:=HY (HK.mp hh).2;cases HY hs with
  | mk hg h1 h2=>exact⟨iJ hg hj,λu hu=>HS (h2 j hj u (by rw[(h1 j hj).2]; exact hu))⟩
def Over (cs:ab)(O:ak)(h g:Nat):Prop:=∃j:Nat,(j:Int)∈covA cs g/\h∈aP cs j O/\g∈pf h (aP cs j O)
def Cr (C:Cv p cs)(w:O.Nodup)(hg:g∈O)(h:ki cs O g≠[]):∃k,Over cs O k g:=by
 obtain⟨k,hk⟩:=List.exists_mem_of_ne_nil _ h;obtain⟨l,hl,hx⟩:=Iw.mp hk;obtain⟨i,hi,rfl⟩:=bV hl;have ei:((i.toNat:Nat):Int)=i:=Iv (C.rg g i hi).1;refine⟨k,i.toNat,ei.symm ▸ hi,?_⟩;have hgf:g∈aP cs i.toNat O:=iJ hg (ei.symm ▸ hi);have nd:(aP cs i.toNat O).Nodup:=w.filter _;unfold k9 at hx;obtain⟨A,B,e,hA⟩:=Iu hgf;rw[e,uq hA] at hx;rw[e] at nd ⊢;cases B with
 | nil=>cases hx
 | cons b B=>
  obtain rfl:k=b:=by simpa using hx
  have e2:A++g::k::B=(A++[g])++k::B:=by simp
  rw[e2] at nd ⊢;have hk:k∉A++[g]:=λz=>(HV.mp nd).2.2 k z k (by simp) rfl;rw[h8 hk];simp
def Over.mem (o:Over cs O h g):h∈O/\g∈O/\h≠g:=by
 obtain⟨j,_,h1,h2⟩:=o;refine⟨(HK.mp h1).1,(HK.mp (wL h2)).1,λe=>?_⟩;obtain⟨A,B,e2,hA⟩:=Iu h1;rw[e2,h8 hA] at h2;exact hA (e ▸ h2)
theorem Over.rmv (o:Over cs (rmv k O) h g):Over cs O h g:=by
 obtain⟨j,hj,h1,h2⟩:=o;rw[GW] at h1 h2;obtain⟨h3,h4⟩:=HK.mp h1;refine⟨j,hj,h3,?_⟩;obtain⟨A,B,e,hA⟩:=Iu h3;rw[e] at h2 ⊢;rw[h8 hA];have e2:Ip.rmv k (A++h::B)=Ip.rmv k A++h::Ip.rmv k B:=by
  unfold Ip.rmv;rw[IR,List.filter_cons_of_pos (p:=λx=>decide (x≠k)) h4]
 have hA':h∉Ip.rmv k A:=λz=>hA (HK.mp z).1;rw[e2,h8 hA'] at h2;exact (HK.mp h2).1
def Wy.app (h:Wy cs ds U V)(k:Wy cs ds' V W):Wy cs (ds++ds') U W:=by
 induction h with
 | nil=>exact k
 | on hO hg h t ih=>exact .on hO hg h (ih k)
 | off hO h e t ih=>exact .off hO h e (ih k)
theorem yy {R:Nat->Nat->Nat->Prop}(C:Cv p cs):∀(L:aj) (U:af),Sg cs U->L.Nodup->(L.Pairwise λx y=>x.1=y.1->¬R x.1 y.2 x.2)->(∀x∈L,∃O,U[x.1]? = some O/\x.2∈O/\∀h,Over cs O h x.2->R x.1 h x.2/\(x.1,h)∈L)->∃U',Wy cs (L.map λx=>(x.1,false,x.2)) U U'/\Sg cs U'/\U'.length=U.length/\∀(q:Nat) (O:ak),U[q]? = some O->U'[q]? = some (O.filter λg=>decide ((q,g)∉L))
 | [],U,s,_,_,_=>⟨U,.nil,s,rfl,λq O h=>by rw[h,Jc.mpr λ_ _=>by simp]⟩
 | (q,g)::L,U,s,nd,pw,hL=>by
  obtain⟨O,hO,hg,ho⟩:=hL (q,g) bN;obtain⟨n1,n2⟩:=HZ.mp nd;obtain⟨p1,p2⟩:=Kf.mp pw;have w:=s.wn (HL hO);have e0:ki cs O g=[]:=Decidable.byContradiction λz=>by
   obtain⟨k,hk⟩:=Cr C w.nd hg z;obtain⟨r,m⟩:=ho k hk;rcases bQ m with m | m
   .exact hk.mem.2.2 (congrArg (λx=>x.2) m)
   .exact p1 _ m rfl r
  have hq:=(dg hO).1;obtain⟨U',h1,h2,h3,h4⟩:=yy C L (U.set q (rmv g O)) (s.off hO) n2 p2 λx hx=>by
   obtain⟨O',hO',hg',ho'⟩:=hL x (bM _ hx);rcases qH (O':=rmv g O) hO hO' with ⟨e1,e2,e3⟩ | ⟨e1,e3⟩
   .subst e2;refine⟨_,e3,HK.mpr ⟨hg',HS λe=>n1 ?_⟩,λh hh=>?_⟩
    .obtain⟨a,b⟩:=x;cases e1;cases e;exact hx
    .obtain⟨r,m⟩:=ho' h hh.rmv;refine⟨r,(bQ m).resolve_left λe=>?_⟩;have:=HY (HK.mp hh.mem.1).2;exact this (congrArg (λx=>x.2) e)
   .refine⟨O',e3,hg',λh hh=>?_⟩;obtain⟨r,m⟩:=ho' h hh;exact⟨r,(bQ m).resolve_left λe=>e1 (congrArg (λx=>x.1) e).symm⟩
  refine⟨U',.off hO hg e0 h1,h2,by rw[h3,Io],λq' O' hO'=>?_⟩;rcases qH (O':=rmv g O) hO hO' with ⟨e1,e2,e3⟩ | ⟨e1,e3⟩
  .subst e1;subst e2;rw[h4 q _ e3];unfold rmv;rw[II];congr 2
   funext x
   simp[H0,not_or,Prod.ext_iff,KL]
  .rw[h4 q' _ e3];congr 2
   funext x
   simp[H0,Prod.ext_iff,JG e1]
theorem wE:∀(L:aj) (U:af),Sg cs U->(L.map λx=>x.2).Nodup->(∀x∈L,x.1<U.length/\x.2<cs.length/\x.2∉U.flatten)->∃U',Wy cs (L.map λx=>(x.1,true,x.2)) U U'/\U'.length=U.length/\∀(q:Nat) (O:ak),U[q]? = some O->U'[q]? = some (O++(L.filter λx=>decide (x.1=q)).map λx=>x.2)
 | [],U,s,_,_=>⟨U,.nil,rfl,λq O h=>by simpa using h⟩
 | (q,g)::L,U,s,nd,hL=>by
  obtain⟨hq,hg,hn⟩:=hL (q,g) bN;have hO:U[q]? = some U[q]:=HI hq;obtain⟨n1,n2⟩:=HZ.mp nd;obtain⟨U',h1,h3,h4⟩:=wE L (U.set q (U[q]++[g])) (s.on hO hg (oU.mpr hn)) n2 λx hx=>by
   obtain⟨a,b,c⟩:=hL x (bM _ hx);refine⟨by rw[Io]; exact a,b,λz=>?_⟩;obtain⟨A,B,e1,e2⟩:=rR (O':=U[q]++[g]) hO;rw[e2] at z;rw[e1] at c;have hx2:x.2≠g:=λe=>n1 (e ▸ JF.mpr ⟨x,hx,rfl⟩);apply c;simp only[Ka,List.flatten_cons,IA] at z ⊢;rcases z with z | (z | z) | z
   .exact .inl z
   .exact .inr (.inl z)
   .exact absurd (by simpa using z) hx2
   .exact .inr (.inr z)
  refine⟨U',.on hO hg (oU.mpr hn) h1,by rw[h3,Io],λq' O' hO'=>?_⟩;rcases qH (O':=U[q]++[g]) hO hO' with ⟨e1,e2,e3⟩ | ⟨e1,e3⟩
  .subst e1;rw[h4 q _ e3,<-e2];simp
  .rw[h4 q' _ e3];simp[e1]
theorem wB {α:Type}{R:α->α->Prop}:∀{l:List α},(∀P y S,l=P++y::S->∀x∈S,R y x)->l.Pairwise R
 | [],_=>.nil
 | a::l,h=>.cons (h [] a l rfl) (wB λP y S e=>h (a::P) y S (by rw[e]; rfl))
theorem xU {f:Nat->Nat->Bool}{R:Nat×Nat->Nat×Nat->Prop}(hR:∀x y,x.1≠y.1->R x y):∀{q:Nat} {es:af},(∀(i:Nat) (e:ak),es[i]? = some e->e.Pairwise λa b=>R (q+i,a) (q+i,b))->(bu f q es).Pairwise R
 | q,[],_=>.nil
 | q,e::es,h=>by
  rw[bu,KQ];refine⟨JU.mpr ((h 0 e rfl).sublist KU),xU hR λi e he=>?_,λx hx y hy=>hR x y ?_⟩
  .have:=h (i+1) e he
   rwa [show q+(i+1)=q+1+i by omega] at this
  .obtain⟨g,_,rfl⟩:=bV hx;obtain⟨i,e',_,h2,_⟩:=iz.mp hy;show q≠y.1;omega
theorem vp:∀{q:Nat} {es:af} (i:Nat) {e:ak},es[i]? = some e->(((bu f q es).filter λx=>decide (x.1=q+i)).map λx=>x.2)=e.filter (f (q+i))
 | q,[],i,e,h=>by cases h
 | q,a::es,0,e,h=>by
  obtain rfl:a=e:=cQ h;have h1:((a.filter (f q)).map λg=>(q,g)).filter (λx=>decide (x.1=q+0))=(a.filter (f q)).map λg=>(q,g):=Jc.mpr λx hx=>by
   obtain⟨g,_,rfl⟩:=bV hx;simp
  have h2:(bu f (q+1) es).filter (λx=>decide (x.1=q+0))=[]:=Jn.mpr λx hx=>by
   obtain⟨i,e',_,h2,_⟩:=iz.mp hx;simp;omega
  rw[bu,IR,h1,h2,IS,IW];exact List.map_id' _
 | q,a::es,i+1,e,h=>by
  have h1:((a.filter (f q)).map λg=>(q,g)).filter (λx=>decide (x.1=q+(i+1)))=[]:=Jn.mpr λx hx=>by
   obtain⟨g,_,rfl⟩:=bV hx;simp
  rw[bu,IR,h1,List.nil_append,show q+(i+1)=q+1+i by omega];exact vp i h
theorem u6:∀{q:Nat} {es:af},((bu f q es).map λx=>x.2).Sublist es.flatten
 | q,[]=>.slnil
 | q,e::es=>by
  rw[bu,Ij,IW,List.flatten_cons];refine .append ?_ u6;have:((λx:Nat×Nat=>x.2) ∘ λg=>(q,g))=id:=rfl;rw[this,List.map_id];exact KU
variable {Z Z':af}
def Ak (s:Sg cs Z):(Z.map (tp cs)).flatten.Nodup:=by
 have key:∀{Z:af},Z.flatten.Nodup->(Z.map (tp cs)).flatten.Perm Z.flatten:=by
  intro Z;induction Z with
  | nil=>intro _; exact .refl _
  | cons O Z ih=>
   intro nd;rw[List.flatten_cons] at nd;obtain⟨n1,n2,_⟩:=HV.mp nd;rw[HQ,List.flatten_cons,List.flatten_cons];exact .append (gu n1).perm.symm (ih n2)
 exact (key s.nd).nodup_iff.mpr s.nd
def lE (s:Sg cs Z):x∈db cs f Z↔∃O,Z[x.1]? = some O/\x.2∈O/\f x.1 x.2=false:=by
 unfold db;rw[iz];constructor
 .rintro⟨i,e,h1,h2,h3,h4⟩;rw[HR] at h1;obtain⟨O,h5,rfl⟩:=cA h1;rw[Kw] at h2;subst h2;exact⟨O,h5,(lN (s.wn (HL h5)).nd _).mp h3,by simpa using h4⟩
 .rintro⟨O,h1,h2,h3⟩;exact⟨x.1,tp cs O,by rw[HR,h1]; rfl,by omega,(lN (s.wn (HL h1)).nd _).mpr h2,by simpa using h3⟩
def wx (s:Sg cs Z)(f:Nat->Nat->Bool):(db cs f Z).Nodup:=tQ λe he=>by
 obtain⟨O,hO,rfl⟩:=bV he;exact pS (s.wn hO).nd
def AJ (C:Cv p cs)(s:Sg cs Z)(s':Sg cs Z')(hz:Z'.length=Z.length):∃U,Wy cs (ck cs Z Z') Z U/\aR p cs U=aR p cs Z':=by
 obtain⟨U,h1,h2,h3,h4⟩:=yy (R:=λq h g=>Over cs (Z.getD q []) h g) C (db cs (sy cs Z Z') Z).reverse Z s ((Ky _).nodup_iff.mpr (wx s _)) (by
  rw[List.pairwise_reverse];refine xU (λx y hn e=>absurd e.symm hn) λi e he=>?_;rw[HR] at he;obtain⟨O,h1,rfl⟩:=cA he;rw[Kw];have w:=s.wn (HL h1);have nd:=pS (cs:=cs) w.nd;refine wB λP y S e x hx _ o=>?_;obtain⟨j,hj,m1,m2⟩:=o;rw[gC h1,<-(gu (cs:=cs) w.nd).rows j,e] at m1 m2;have hy:y∉P:=λz=>by
   rw[e] at nd;exact (HV.mp nd).2.2 y z y (by simp) rfl
  rw[oB hy (HY (HK.mp m1).2)] at m2;rw[e] at nd;exact (HV.mp nd).2.2 x (HK.mp m2).1 x (by simp[hx]) rfl) λx hx=>by
  obtain⟨O,hO,hg,hf⟩:=(lE s).mp (J5.mp hx);refine⟨O,hO,hg,λh o=>⟨?_,J5.mpr ((lE s).mpr ⟨O,hO,o.mem.1,?_⟩)⟩⟩
  .show Over cs (Z.getD x.1 []) h x.2;rw[gC hO];exact o
  .obtain⟨O',hO'⟩:∃O',Z'[x.1]? = some O':=⟨_,HI (by have:=(dg hO).1; omega)⟩
   show sy cs Z Z' x.1 h=false;rw[o6 hO hO'] at hf ⊢;refine Il λz=>of_decide_eq_false hf ?_;obtain⟨j,hj,m1,m2⟩:=o;cases z with
   | mk _ _ k2=>exact k2 j (HY (HK.mp m1).2) _ m2
 have hU:∀(q:Nat) (O:ak),Z[q]? = some O->U[q]? = some (O.filter (sy cs Z Z' q)):=λq O hO=>by
  rw[h4 q O hO];congr 1
  refine Jj λg hg=>?_;have:(q,g)∈(db cs (sy cs Z Z') Z).reverse↔sy cs Z Z' q g=false:=by
   rw[J5,lE s];constructor
   .rintro⟨_,_,_,h⟩; exact h
   .intro h; exact⟨O,hO,hg,h⟩
  rw[IX,Ig,this,Bool.not_eq_false]
 obtain⟨U',k1,k2,k3⟩:=wE (db cs (sy cs Z Z') Z') U h2 ((Ak s').sublist u6) λx hx=>by
  obtain⟨O',hO',hg,hf⟩:=(lE s').mp hx;have hq:=(dg hO').1;refine⟨by omega,s'.lt _ (mW hO' hg),λz=>?_⟩;obtain⟨V,hV,hgV⟩:=Iw.mp z;obtain⟨i,hi,rfl⟩:=List.mem_iff_getElem.mp hV;have hO:Z[i]? = some Z[i]:=HI (by omega);have e2:=hU i _ hO;rw[HI hi] at e2;rw[Option.some.inj e2] at hgV;obtain⟨a1,a2⟩:=HK.mp hgV;have hi':Z'[i]? = some Z'[i]:=HI (by omega);have a3:=a2;rw[o6 hO hi'] at a3;have a4:=(HY a3).rt C (s.wn (HL hO));have u1:=mE s'.nd hi' a4;rw[mE s'.nd hO' hg] at u1;cases u1;rw[a2] at hf;cases hf
 refine⟨U',h1.app k1,?_⟩;unfold aR;congr 1
 refine Ji λq=>?_;rw[HR,HR];by_cases hq:q<Z.length
 .have hO:Z[q]? = some Z[q]:=HI hq;have hO':Z'[q]? = some Z'[q]:=HI (by omega);have pa:=vp (f:=λq g=>!sy cs Z Z' q g) (q:=0) (es:=Z'.map (tp cs)) q (e:=tp cs Z'[q]) (by rw[HR,hO']; rfl);rw[Kw] at pa;rw[k3 q _ (hU q _ hO),hO'];simp only[Option.map_some];congr 2
  unfold aK;refine Jl λj _=>?_;unfold db;rw[pa];have:=yZ C (s.wn (HL hO)) (s'.wn (HL hO')) j;have es:∀g,sy cs Z Z' q g=decide (Sy cs Z[q] Z'[q] g):=λg=>o6 hO hO';simp only[funext es];exact this
 .rw[Ik (by omega),Ik (by omega)]
end
def Stg (cs:ab)(Z Z':af):Nat->Nat×Nat->Prop
 | 0,x=>∀j:Nat,(j:Int)∈covA cs x.2->x.2∈aP cs j (Z'.getD x.1 [])/\pf x.2 (aP cs j (Z.getD x.1 []))=pf x.2 (aP cs j (Z'.getD x.1 []))
 | k+1,x=>Stg cs Z Z' k x/\∀j:Nat,(j:Int)∈covA cs x.2->∀u∈pf x.2 (aP cs j (Z.getD x.1 [])),Stg cs Z Z' k (x.1,u)
noncomputable def cP (cs:ab)(Z Z':af)(k:Nat)(x:Nat×Nat):Bool:=decide (Stg cs Z Z' k x)
section
variable {p:Nat}{cs:ab}{Z Z':af}
theorem Stg.base:∀{k:Nat},Stg cs Z Z' k x->Stg cs Z Z' 0 x
 | 0,h=>h
 | k+1,h=>Stg.base h.1
theorem vC:∀(k g:Nat),g∈Z.getD q []->(Z.getD q []).idxOf g<k->Stg cs Z Z' k (q,g)->Sy cs (Z.getD q []) (Z'.getD q []) g
 | 0,g,_,h,_=>absurd h (Nat.not_lt_zero _)
 | k+1,g,hg,hk,h=>by
  refine .mk hg h.base λj hj u hu=>?_;have h2:=h.2 j hj u hu;obtain⟨P,R,e,hP⟩:=Iu hg;have hu':=hu;rw[e,oB hP hj] at hu';have hu2:=(HK.mp hu').1;refine vC k u (by rw[e]; exact eY _ hu2) ?_ h2;rw[e,kl hP] at hk;rw[e,K9,if_pos hu2];have:=JV hu2;omega
theorem qJ:∀(k g:Nat),Sy cs (Z.getD q []) (Z'.getD q []) g->Stg cs Z Z' k (q,g)
 | 0,g,h=>by
  cases h with
  | mk _ h1 _=>exact h1
 | k+1,g,h=>by
  refine⟨qJ k g h,λj hj u hu=>qJ k u ?_⟩;cases h with
  | mk _ _ h2=>exact h2 j hj u hu
def rf (C:Cv p cs)(s:Sg cs Z):x∈wl Z↔∃O,Z[x.1]? = some O/\x.2∈O:=by
 unfold wl;rw[iV C s];simp
def Cj (C:Cv p cs)(s:Sg cs Z):(wl Z).filter (cP cs Z Z' 6)=dk cs Z Z':=by
 rw[<-show ((wl Z).filter λx=>sy cs Z Z' x.1 x.2)=dk cs Z Z' from qP _];refine Jj λx hx=>?_;obtain⟨q,g⟩:=x;obtain⟨O,h1,h2⟩:=(rf C s).mp hx;have w:=s.wn (HL h1);refine JC.mpr ⟨λh=>vC 6 g ?_ ?_ h,qJ 6 g⟩
 .rw[gC h1]; exact h2
 .rw[gC h1];have:O.idxOf g<O.length:=JV h2;have:=w.len C;omega
end
noncomputable def fe (cs:ab)(O:ak)(g:Nat)(c:am):ak:=(c.map λi=>pf g (aP cs i.toNat O)).flatten
def uC (g:Nat)(l:ak):(pf g l).length<=l.length:=by unfold pf; rw[Ir]; omega
variable {G:Pg}(P:Pm G)
include P
def EH (n k k1 k2 k3 p q g:Nat)(cs:ab)(Z:af)(O:ak)(C:Cv p cs)(s:Sg cs Z)(hO:Z[q]? = some O)(hg:g∈O):∃j,run G (n+1) 130 [(k,aR p cs Z),(k1,aM cs),(k2,.int q),(k3,.int g)]=.ret j (.lst ((fe cs O g (covA cs g)).map λu=>pairD (q,u))) []:=by
 have h100:100<=SL:=by decide
 have w:=s.wn (HL hO);have ixs:=gZ (p:=p) (cs:=cs) hO;have ixg:=En (w.lt g hg);have bl:∀c:am,(fe cs O g c).length<=6 * c.length:=λc=>by
  have:=ff (es:=c.map λi=>pf g (aP cs i.toNat O)) λe he=>by
   obtain⟨i,_,rfl⟩:=bV he;refine bv (uC _ _) (bv (HW _ _) (w.len C))
  rwa [HG] at this
 refine Ou.rq P.f130 ?_;show Ou _ _ _ [o0 (aR p cs Z),o0 (aM cs),o0 (.int q),o0 (.int g),none,none,none] _ _ _;generalize aR p cs Z=SA at *;generalize aM cs=K at *;refine Ou.set (x:=(99,.lst [])) rfl ?_;refine Ou.each D.int (covA cs g) (λpre a=>∃x5 x6,a=[o0 SA,o0 K,o0 (.int q),o0 (.int g),o0 (.lst ((fe cs O g pre).map λu=>pairD (q,u))),x5,x6]) (vs:=[(0,.lst ((covA cs g).map .int))]) (by simp[-aS,ixg]) rfl (bv (C.ln g) (by decide)) ⟨none,none,by simp[fe]⟩ ?_ ?_
 .rintro pre sI su a he ⟨x5,x6,rfl⟩;have hsc:sI∈covA cs g:=by rw[he]; simp
  have rg:=C.rg g sI hsc;have ln:=C.ln g;rw[he,HP,List.length_cons] at ln;obtain⟨j,rfl⟩:∃j:Nat,sI=(j:Int):=⟨sI.toNat,by omega⟩
  have hjp:j<p:=by omega
  have ixr:=gR (cs:=cs) (O:=O) hjp;have hgA:=iJ hg hsc;have ixe:ce (aQ (aP cs j O)) (.int g)=some (99,.int ((aP cs j O).idxOf g:Nat)):=by
   have sc:=kZ (aP cs j O);rw[aQ,kN,lR hgA,sc];rfl
  have t3:=l5 (aP cs j O) ((aP cs j O).idxOf g);have b1:=bl pre;have eb:fe cs O g (pre++[(j:Int)])=fe cs O g pre++(aP cs j O).take ((aP cs j O).idxOf g):=by
   unfold fe pf;rw[Ij,Ka];simp
  have lr:((aP cs j O).take ((aP cs j O).idxOf g)).length<=6:=by
   have k1:(aP cs j O).length<=O.length:=HW _ _;have k2:=w.len C;rw[Ir];omega
  have hsq:(aQ ((aP cs j O).take ((aP cs j O).idxOf g))).seq=some (aL ((aP cs j O).take ((aP cs j O).idxOf g))):=rfl;rw[eb,Ij];generalize aP cs j O=ra at *;generalize ra.take (ra.idxOf g)=ru at *;obtain⟨ys,cy,ey⟩:=kr (f:=compF G (run G n) [none,none,some (.int q)] (.one 1) [] (.op .tup [(.var 2),(.var 1)])) (e:=λu:Nat=>D.int (Int.ofNat u)) (g:=λu=>pairD (q,u)) (xs:=ru) λu _=>⟨_,by simp[compF,pairD]; rfl⟩
  have cy:aW (compF G (run G n) [none,none,some (.int q)] (.one 1) [] (.op .tup [(.var 2),(.var 1)])) (aL ru)=.ok ys:=cy;have lm:((fe cs O g pre).map λu=>pairD (q,u)).length<=36:=by rw[HG]; omega
  generalize (fe cs O g pre).map (λu=>pairD (q,u))=L0 at lm ⊢;have l2:(ru.map λu=>pairD (q,u)).length<=6:=by rw[HG]; exact lr
  have ad:addD (.lst L0) (.lst (ru.map λu=>pairD (q,u)))=some (1,.lst (L0++ru.map λu=>pairD (q,u))):=by
   simp only[addD];rw[if_pos (by omega)]
  generalize wrD (aK cs p O)=WA at *;refine⟨_,dS rfl,?_⟩;refine Ou.set (x:=(0,aQ ra)) (by simp[-aS,ixs,ixr]) ?_;generalize aQ ra=RA at *;generalize aQ ru=RU at *;have lr':ru.length<=SL:=by omega
  refine Ou.set (x:=(1,.lst (L0++ru.map λu=>pairD (q,u)))) (by simp[-addD,-cutOp,-D.seq,ixe,t3,hsq,lr',fV,cy,ey,ad]) (Ou.nil ⟨_,_,by simp; exact⟨rfl,rfl⟩⟩)
 .rintro a ⟨x5,x6,rfl⟩;exact Ou.ret (x:=(0,.lst ((fe cs O g (covA cs g)).map λu=>pairD (q,u)))) rfl rfl
end Ip
end
section
namespace Ip
open PySem (Str)
open Classical
def HD (C:Cv p cs)(s:Sg cs Z)(f:Nat×Nat->Bool):((wl Z).filter f).length<=6:=bv (HW _ _) (kz C s λ_ _=>true)
def GC (ks:aj):(ks.map pairD).all (D.pur 60)=true:=by simp[pairD]
variable {G:Pg}(P:Pm G)
include P
def Gb (n k k1 k2 p:Nat)(cs:ab)(Z Z':af)(C:Cv p cs)(s:Sg cs Z)(hl:Z.length<=3)(hz:Z'.length=Z.length):∃j,run G (n+2) 131 [(k,aR p cs Z),(k1,aR p cs Z'),(k2,aM cs)]=.ret j (.lst ((dk cs Z Z').map pairD)) []:=by
 have h100:100<=SL:=by decide
 obtain⟨jw,qw⟩:=rS P n 0 0 p cs Z C s hl;have w6:=kz C s (λ_ _=>true);have wm:∀x∈wl Z,∃O O',Z[x.1]? = some O/\Z'[x.1]? = some O'/\x.2∈O:=λx hx=>by
  obtain⟨O,h1,h2⟩:=(rf C s).mp hx;have:=(dg h1).1;exact⟨O,_,h1,HI (by omega),h2⟩
 have wb:=λq g O (hO:Z[q]? = some O) (hg:g∈O)=>EH P n 0 0 0 0 p q g cs Z O C s hO hg;have sam:=λq g j O O' hO hO' hg hj hjp=>Fp P n 0 0 0 0 0 p q g j cs Z Z' O O' hO hO' hg hj hjp;have ixc:∀g:Nat,g<cs.length->aS (aM cs) (.int g)=o0 (.lst ((covA cs g).map .int)):=λg h=>jX h;refine Ou.rq P.f131 ?_;show Ou _ _ _ [o0 (aR p cs Z),o0 (aR p cs Z'),o0 (aM cs),none,none,none,none] _ _ _;generalize aR p cs Z=SA at *;generalize aR p cs Z'=SB at *;generalize aM cs=K at *;refine Ou.setK (x:=(99,.lst [])) rfl rfl ?_;refine Ou.low (a':=[o0 SA,o0 SB,o0 K,some (1,.lst []),none,none,none]) (.cons (.refl _) (.cons (.refl _) (.cons (.refl _) (.cons ⟨rfl,by decide⟩ (.refl _))))) ?_;refine Ou.each pairD (wl Z) (λpre a=>∃x4 x5 x6,a=[o0 SA,o0 SB,o0 K,some (1,.lst ((pre.filter (cP cs Z Z' 0)).map pairD)),x4,x5,x6]) (vs:=[(jw,.lst ((wl Z).map pairD))]) (by simp[P.f124,mX,qw]) rfl (by unfold wl; omega) ⟨none,none,none,by simp⟩ ?_ ?_
 .rintro pre x suf a he ⟨x4,x5,x6,rfl⟩;obtain⟨O,O',hO,hO',hg⟩:=wm x (by rw[he]; simp);obtain⟨q,g⟩:=x;simp only at hO hO' hg;have w:=s.wn (HL hO);have ixg:=ixc g (w.lt g hg);have lp:pre.length<=6:=by
   have:=congrArg List.length he;rw[HP] at this;unfold wl at this;omega
  have lf:=HW (cP cs Z Z' 0) pre;obtain⟨f,hf⟩:∃f:Int->Bool,f=λi:Int=>decide (g∈aP cs i.toNat O'/\pf g (aP cs i.toNat O)=pf g (aP cs i.toNat O')):=⟨_,rfl⟩
  obtain⟨ys,cc,ec⟩:=kr (f:=compF G (run G (n+1)) [none,none,some (.int g),some SA,some SB,some (.int q)] (.one 1) [] (.call 123 [(.var 3),(.var 4),(.var 5),(.var 2),(.var 1)])) (e:=D.int) (g:=λi=>D.bl (f i)) (xs:=covA cs g) λi hi=>by
   have rg:=C.rg g i hi;obtain⟨j,rfl⟩:∃j:Nat,i=(j:Int):=⟨i.toNat,by omega⟩
   obtain⟨e1,e2⟩:=sam q g j O O' hO hO' hg hi (by omega);have e3:decide (g∈aP cs j O'/\pf g (aP cs j O)=pf g (aP cs j O'))=f (j:Int):=by rw[hf]; simp
   rw[e3] at e2;exact⟨e1,by simp[compF,P.f123,pU,e2]⟩
  have al:=m8 f (covA cs g);have ea:(covA cs g).all f=cP cs Z Z' 0 (q,g):=by
   rw[IX,List.all_eq_true,cP,Ig,hf];constructor
   .intro h j hj;have:=HY (h j hj);show g∈aP cs j (Z'.getD q [])/\pf g (aP cs j (Z.getD q []))=pf g (aP cs j (Z'.getD q []));rw[gC hO,gC hO'];simpa using this
   .intro h i hi;have rg:=C.rg g i hi;obtain⟨j,rfl⟩:∃j:Nat,i=(j:Int):=⟨i.toNat,by omega⟩
    have:=h j hi;simp only at this;rw[gC hO,gC hO'] at this;simpa using this
  rw[ea] at al;clear hf ea;have lc:((covA cs g).map D.int).length<=SL:=by rw[HG]; exact bv (C.ln g) (by decide)
  refine⟨_,i4 rfl,?_⟩;have ev:∀a:Fr,a=[o0 SA,o0 SB,o0 K,some (1,.lst ((pre.filter (cP cs Z Z' 0)).map pairD)),o0 (.int q),o0 (.int g),x6]->eval G (run G (n+1)) a.sl (.op .all [(.comp [none,none,(some 5),(some 0),(some 1),(some 4)] (.one 1) .seq [(.op .ix [(.var 2),(.var 5)])] [] (.call 123 [(.var 3),(.var 4),(.var 5),(.var 2),(.var 1)]))])=.ok (99,.bl (cP cs Z Z' 0 (q,g))):=by
   rintro a rfl;generalize (covA cs g).map D.int=CL at *;simp[-aS,ixg,lc,cc,ec,al]
  rw[IR,JE,List.filter_nil];cases hb:cP cs Z Z' 0 (q,g) with
  | true=>
   rw[hb] at ev;refine Ou.iffT (j:=99) (ev _ rfl) ?_;refine Ou.append (k:=0) (xs:=(pre.filter (cP cs Z Z' 0)).map pairD) (v:=(aZ [(0,.int q),(0,.int g)]+1,pairD (q,g))) rfl (by simp[pairD]) (by rw[HG]; omega) (Ou.nil (Ou.nil ⟨o0 (.int q),o0 (.int g),x6,?_⟩));simp[frz,frz1]
  | false=>
   rw[hb] at ev;refine Ou.iffN (j:=99) (ev _ rfl) (Ou.nil ⟨o0 (.int q),o0 (.int g),x6,?_⟩);simp
 .rintro a ⟨x4,x5,x6,rfl⟩;have rg:(List.range 6).map (λn:Nat=>D.int n)=(List.range' 0 6).map λn:Nat=>D.int n:=by rw[Jf]
  refine Ou.each (λn:Nat=>D.int n) (List.range' 0 6) (λpre a=>∃y x6,a=[o0 SA,o0 SB,o0 K,some (y,.lst (((wl Z).filter (cP cs Z Z' pre.length)).map pairD)),x4,x5,x6]) (vs:=[(99,.int 6)]) rfl (by rw[show (6:Int)=((6:Nat):Int) from rfl,wk_rng1 (by omega),rg]) (by simp; omega) ⟨1,x6,by simp⟩ ?_ ?_
  .rintro pre t suf a he ⟨y,x6,rfl⟩;rw[HP,List.length_singleton];generalize pre.length=m;have lM:=HD C s (cP cs Z Z' m);have pM:=GC ((wl Z).filter (cP cs Z Z' m));have cc:aW (compF G (run G (n+1)) [none,none,some K,some (.lst (((wl Z).filter (cP cs Z Z' m)).map pairD)),some SA] (.one 1) [(.op .all [(.comp [none,none,(some 3)] (.one 1) .seq [(.call 130 [(.var 4),(.var 2),(.op .ix [(.var 1),(.cst (.int (0)))]),(.op .ix [(.var 1),(.cst (.int (1)))])])] [] (.op .isin [(.var 1),(.var 2)]))])] (.var 1)) (((wl Z).filter (cP cs Z Z' m)).map pairD)=.ok ((((wl Z).filter (cP cs Z Z' m)).filter (cP cs Z Z' (m+1))).map λx=>(0,pairD x)):=by
    refine ml λx hx=>?_;obtain⟨O,O',hO,hO',hg⟩:=wm x (HK.mp hx).1;have hm:=(HK.mp hx).2;obtain⟨q,g⟩:=x;simp only at hO hO' hg;have w:=s.wn (HL hO);obtain⟨jb,qb⟩:=wb q g O hO hg;obtain⟨f,hf⟩:∃f:Nat->Bool,f=λu:Nat=>decide ((q,u)∈(wl Z).filter (cP cs Z Z' m)):=⟨_,rfl⟩
    have mm:∀u,D.memb (pairD (q,u)) (((wl Z).filter (cP cs Z Z' m)).map pairD)=f u:=λu=>by
     rw[hf,IX,Ig];exact xK pairD vB _ _
    have ci:aW (compF G (run G (n+1)) [none,none,some (.lst (((wl Z).filter (cP cs Z Z' m)).map pairD))] (.one 1) [] (.op .isin [(.var 1),(.var 2)])) ((fe cs O g (covA cs g)).map λu=>pairD (q,u))=.ok ((fe cs O g (covA cs g)).map λu=>(99,.bl (f u))):=by
     refine gN λu _=>?_;have m1:=mm u;have pp:(pairD (q,u)).pur 60=true:=by simp[pairD]
     generalize ((wl Z).filter (cP cs Z Z' m)).map pairD=M at *;generalize pairD (q,u)=px at *;simp[-List.all_eq_true,compF,m1,pM,pp]
    have al:=m8 f (fe cs O g (covA cs g));have ea:(fe cs O g (covA cs g)).all f=cP cs Z Z' (m+1) (q,g):=by
     rw[IX,List.all_eq_true,cP,Ig,hf];constructor
     .intro h;refine⟨HY hm,λj hj u hu=>?_⟩;have hu':u∈pf g (aP cs j (Z.getD q [])):=hu;rw[gC hO] at hu';have:=HY (h u (Iw.mpr ⟨_,JF.mpr ⟨(j:Int),hj,rfl⟩,by rw[Int.toNat_natCast]; exact hu'⟩));exact HY (HK.mp this).2
     .intro h u hu;obtain⟨l,hl,hul⟩:=Iw.mp hu;obtain⟨i,hi,rfl⟩:=bV hl;have rg:=C.rg g i hi;obtain⟨j,rfl⟩:∃j:Nat,i=(j:Int):=⟨i.toNat,by omega⟩
      rw[Int.toNat_natCast] at hul;refine HS (HK.mpr ⟨(rf C s).mpr ⟨O,hO,(HK.mp (wL hul)).1⟩,HS (h.2 j hi u ?_)⟩);show u∈pf g (aP cs j (Z.getD q []));rw[gC hO];exact hul
    rw[ea] at al;clear hf ea;have lb:((fe cs O g (covA cs g)).map λu=>pairD (q,u)).length<=SL:=by
     have:=ff (es:=(covA cs g).map λi=>pf g (aP cs i.toNat O)) λe he=>by
      obtain⟨i,_,rfl⟩:=bV he;refine bv (uC _ _) (bv (HW _ _) (w.len C))
     have l2:=C.ln g;rw[HG] at this ⊢;unfold fe;omega
    have i0:aS (pairD (q,g)) (.int 0)=o0 (.int q):=rfl;have i1:aS (pairD (q,g)) (.int 1)=o0 (.int g):=rfl;generalize ((wl Z).filter (cP cs Z Z' m)).map pairD=M at *;generalize pairD (q,g)=px at *;generalize (fe cs O g (covA cs g)).map (λu=>pairD (q,u))=BL at *;cases hb:cP cs Z Z' (m+1) (q,g) with
    | false=>rw[hb] at al; simp[-aS,-List.all_eq_true,compF,i0,i1,P.f130,pO,qb,lb,ci,al,Function.comp_def]
    | true=>rw[hb] at al; simp[-aS,-List.all_eq_true,compF,i0,i1,P.f130,pO,qb,lb,ci,al,Function.comp_def]
   have ef:((wl Z).filter (cP cs Z Z' m)).filter (cP cs Z Z' (m+1))=(wl Z).filter (cP cs Z Z' (m+1)):=by
    rw[II];refine Jj λx _=>?_;rw[IX,HF];exact⟨λh=>h.1,λh=>⟨h,HS (HY h).1⟩⟩
   rw[ef] at cc;have lM':(((wl Z).filter (cP cs Z Z' m)).map pairD).length<=SL:=by rw[HG]; omega
   refine⟨_,dS rfl,?_⟩;generalize ((wl Z).filter (cP cs Z Z' m)).map pairD=M at *;generalize (wl Z).filter (cP cs Z Z' (m+1))=M2 at *;refine Ou.setE (d:=.lst (M2.map pairD)) ⟨_,by simp[lM',cc,Function.comp_def]; rfl⟩ (Ou.nil ⟨0,o0 (.int t),by simp⟩)
  .rintro a ⟨y,x6,rfl⟩;rw[Jr,Cj C s];exact Ou.retE (d:=.lst ((dk cs Z Z').map pairD)) ⟨_,by simp; rfl⟩ rfl
end Ip
end
section
namespace Ip
open PySem (Str)
open Classical
def y0:D.memb (.str "on") [.str "on",.str "off"]=true/\D.memb (.str "off") [.str "on",.str "off"]=true:=by decide +kernel
variable {G:Pg}(P:Pm G)
include P
def Di (n k k' k'' p:Nat)(cs:ab)(Z Z':af)(d:D)(C:Cv p cs)(s:Sg cs Z)(hl:Z.length<=3)(h:Dd cs Z d Z'):∃j,run G (n+2) 132 [(k,aR p cs Z),(k',d),(k'',aM cs)]=.ret j (.bl true) []:=by
 have lZ:fJ (λxs=>some (99,D.int xs.length)) (aR p cs Z)=some (99,.int Z.length):=by simp[aR]
 have lC:fJ (λxs=>some (99,D.int xs.length)) (aM cs)=some (99,.int cs.length):=by simp[aM]
 have hW:=λk x=>vO P n k x;obtain⟨m1,m2⟩:=y0;obtain⟨q,w,g,rfl,hq,hg,hw⟩:∃(q:Nat) (w:Str) (g:Nat),d=.tup [.int q,.str w,.int g]/\q<Z.length/\g<cs.length/\D.memb (.str w) [.str "on",.str "off"]=true/\(D.str w).pur 60=true:=by
  cases h with
  | on hO hg h=>exact⟨_,_,_,rfl,(dg hO).1,hg,m1,kO⟩
  | off hO h e=>exact⟨_,_,_,rfl,(dg hO).1,(s.wn (HL hO)).lt _ h,m2,mJ⟩
 obtain⟨jw,qw⟩:=vg P n 0 0 p cs Z g C s hl;refine Ou.rq P.f132 ?_;show Ou _ _ _ [o0 (aR p cs Z),o0 (.tup [.int q,.str w,.int g]),o0 (aM cs),none,none,none] _ _ _;have ix2:=jX hg;refine Ou.iffN (j:=99) (by simp[P.f73,lG,hW,D.eq,dB]) ?_;refine Ou.setT (j:=0) (ds:=[.int q,.str w,.int g]) rfl ?_;have hq':(q:Int)<Z.length:=by omega
 have hg':(g:Int)<cs.length:=by omega
 refine Ou.iffN (j:=99) (by simp[-fJ,-D.memb,-jf,lZ,lC,hq',hg',hw.1,hw.2,kO,mJ]) ?_;cases h with
 | on hO hg2 h=>
  refine Ou.iffT (j:=99) (by simp[-jf,pk,kO]) ?_;have e:dC Z g=.non:=by unfold dC; rw[h]
  rw[e] at qw;exact Ou.ret (x:=(99,.bl true)) (by simp[P.f115,nE,qw]) rfl
 | @off _ _ O hO hb e=>
  refine Ou.iffN (j:=99) (by simp[-jf,sD,kO,mJ]) ?_;have w:=s.wn (HL hO);have e1:dC Z g=.int q:=by unfold dC; rw[mE s.nd hO hb]
  rw[e1] at qw;have ix1:=gZ (p:=p) (cs:=cs) hO;have hcS:(covA cs g).length<=SL:=bv (C.ln g) (by decide);refine Ou.iffN (j:=99) (by simp[P.f115,nE,qw,D.eq]) ?_;have cc:aW (compF G (run G (n+1)) [none,none,some (.int g),some (.int q),some (aR p cs Z)] (.one 1) [] (.op .eq [(.op .ix [(.op .ix [(.op .ix [(.var 4),(.var 3)]),(.var 1)]),(.op .neg [(.cst (.int (1)))])]),(.var 2)])) ((covA cs g).map .int)=.ok ((covA cs g).map λ_=>(99,.bl true)):=by
   refine gN λx hx=>?_;have hr:=C.rg g x hx;obtain⟨j,rfl⟩:∃j:Nat,x=(j:Int):=⟨x.toNat,by omega⟩
   obtain⟨r,er,_⟩:=wP w.nd hb e hx;have ix3:=gR (cs:=cs) (O:=O) (show j<p by omega);rw[er] at ix3;have ix4:=xS (r:=r) (x:=g);generalize aQ (r++[g])=R at ix3 ix4;generalize aR p cs Z=T at ix1;generalize wrD (aK cs p O)=Y at ix1 ix3;simp[-aS,compF,ix1,ix3,ix4,D.eq]
  have al:=m8 (λ_=>true) (covA cs g);generalize aR p cs Z=T at cc ⊢;generalize aM cs=K at ix2 ⊢;exact Ou.ret (x:=(99,.bl true)) (by simp[-aS,ix2,cc,hcS,Function.comp_def,al]) rfl
def ED (n k k1 k2 k3 p:Nat)(cs:ab)(xs:List (Nat×Bool×Nat))(Z U:af)(E:D)(C:Cv p cs)(s:Sg cs Z)(hl:Z.length<=3)(hx:xs.length<=1000)(h:Wy cs xs Z U)(he:aR p cs U=E):∃j,run G (n+3) 133 [(k,.lst (xs.map dD)),(k1,aR p cs Z),(k2,E),(k3,aM cs)]=.ret j (.bl true) []:=by
 subst he;have pe:(aR p cs U).pur 60=true/\(aR p cs U).eq (aR p cs U)=true:=by
  constructor
  .simp[aR,wrD,aQ,aL]
  .simp only[aR,D.eq];refine kS λd hd=>?_;obtain⟨O,_,rfl⟩:=bV hd;simp only[wrD,D.eq];refine kS λd hd=>?_;obtain⟨r,_,rfl⟩:=bV hd;rw[pT,HS rfl]
 refine Ou.rq P.f133 ?_;show Ou _ _ _ [o0 (.lst (xs.map dD)),o0 (aR p cs Z),o0 (aR p cs U),o0 (aM cs),none,none] _ _ _;refine Ou.set (x:=(0,aR p cs Z)) rfl ?_;refine Ou.each dD xs (λpre a=>∃x5 V,a=[o0 (.lst (xs.map dD)),o0 (aR p cs Z),o0 (aR p cs U),o0 (aM cs),o0 (aR p cs V),x5]/\Sg cs V/\V.length<=3/\Wy cs (xs.drop pre.length) V U) (vs:=[(0,.lst (xs.map dD))]) rfl rfl (bv hx (by decide)) ⟨none,Z,by simp,s,hl,h⟩ ?_ ?_
 .rintro pre x suf a hx ⟨x5,V,rfl,sV,lV,hV⟩;rw[hx,K3] at hV;obtain⟨V',hD,hV'⟩:∃V',Dd cs V (dD x) V'/\Wy cs suf V' U:=by
   cases hV with
   | on hO hg h t=>exact⟨_,.on hO hg h,t⟩
   | off hO h e t=>exact⟨_,.off hO h e,t⟩
  obtain⟨j1,q1⟩:=Di P n 0 0 0 p cs V V' _ C sV lV hD;obtain⟨j2,q2⟩:=uP P (n+1) 0 0 0 p cs V V' _ C sV lV hD;obtain⟨sV',lV'⟩:=hD.good sV;refine⟨_,dS rfl,?_⟩;refine Ou.iffN (j:=99) (by simp[P.f132,rc,q1]) ?_;refine Ou.set (x:=(j2,aR p cs V')) (by simp[P.f117,pA,q2]) (Ou.nil ⟨o0 (dD x),V',by simp,sV',by omega,?_⟩);rw[HP,List.length_singleton,hx];have:pre++x::suf=(pre++[x])++suf:=by simp
  rw[this,show pre.length+1=(pre++[x]).length by simp,K3];exact hV'
 .rintro a ⟨x5,V,rfl,_,_,hV⟩;rw[List.drop_length] at hV;cases hV;obtain⟨p1,p2⟩:=pe;generalize aR p cs U=SV at *;exact Ou.ret (x:=(99,.bl true)) (by simp[p1,p2]) rfl
end Ip
end
section
namespace Ip
open PySem (Str)
open Classical
noncomputable def tD (w:Bool)(x:Nat×Nat):D:=dD (x.1,w,x.2)
def ye (w:Bool)(ks:aj)(h:ks.length<64):fE (ks.map (tD w))=some (1,.lst ((eD ks).map (tD w))):=by
 have hm:dU (gI (ks.map (tD w))) (ks.map (tD w))=some (ks.map λx=>((x.1:Int),(x.2:Int))):=by
  cases ks with
  | nil=>rfl
  | cons x l=>
   rw[show gI ((x::l).map (tD w))=some ((if w then "on" else "off"):Str) from by cases w <;> rfl];have:∀l:List (Nat×Nat),dU (some ((if w then "on" else "off"):Str)) (l.map (tD w))=some (l.map λx=>((x.1:Int),(x.2:Int))):=by
    intro l;induction l with
    | nil=>rfl
    | cons y l ih=>
     rw[HQ,dU,ih];simp[p5,dZ,nV,tD,dD]
   exact this _
 have hs:L2.cN .non (L2.dW (ks.map λx=>((x.1:Int),(x.2:Int)))) (ks.map (tD w))=(eD ks).map (tD w):=by
  unfold eD;unfold L2.cN;rw[HG];split
  .rfl
  .rename_i h;rw[IW];refine Jl λi hi=>?_;have hi:=L2.og (by omega) i hi;simp[hi]
 unfold fE;rw[hm,Option.bind_some,HG,if_pos h,hs]
def vP {l l':am}(p:l.Perm l'):l.sum=l'.sum:=by
 induction p with
 | nil=>rfl
 | cons x _ ih=>rw[List.sum_cons,List.sum_cons,ih]
 | swap x y l=>simp only[List.sum_cons]; omega
 | trans _ _ h1 h2=>exact h1.trans h2
def vz (x:Nat×Bool×Nat)(n:Nat):(dD x).pur (n+1)=true/\(dD x).eq (dD x)=true:=by
 obtain⟨q,w,g⟩:=x;have k1:∀n,(D.str "on").pur n=true:=λn=>by rw[jf]; decide +kernel
 have k2:∀n,(D.str "off").pur n=true:=λn=>by rw[jf]; decide +kernel
 have k3:=pk;have k4:(D.str "off").eq (.str "off")=true:=by decide +kernel
 cases w with
 | true=>
  refine⟨?_,?_⟩
  .simp[-jf,dD,k1]
  .have:(dD (q,true,g)).eq (dD (q,true,g))=D.eqs [.int q,.str "on",.int g] [.int q,.str "on",.int g]:=rfl;rw[this];refine kS λd hd=>?_;rcases bQ hd with rfl | hd
   .simp[D.eq]
   .rcases bQ hd with rfl | hd
    .exact k3
    .obtain rfl:d=.int g:=by simpa using hd
     simp[D.eq]
 | false=>
  refine⟨?_,?_⟩
  .simp[-jf,dD,k2]
  .have:(dD (q,false,g)).eq (dD (q,false,g))=D.eqs [.int q,.str "off",.int g] [.int q,.str "off",.int g]:=rfl;rw[this];refine kS λd hd=>?_;rcases bQ hd with rfl | hd
   .simp[D.eq]
   .rcases bQ hd with rfl | hd
    .exact k4
    .obtain rfl:d=.int g:=by simpa using hd
     simp[D.eq]
def o7 (h:∀d∈xs,d.pur n=true/\d.eq d=true):(D.lst xs).pur (n+1)=true/\(D.lst xs).eq (.lst xs)=true:=by
 constructor
 .rw[rz,List.all_eq_true];exact λd hd=>(h d hd).1
 .rw[D.eq];exact kS λd hd=>(h d hd).2
section
variable {p:Nat}{cs:ab}{Z Z':af}
def pR (C:Cv p cs)(s:Sg cs Z)(f:Nat->Nat->Bool):(db cs f Z).Perm (bu (λq g=>!f q g) 0 (Z.map aV))/\(bu (λq g=>!f q g) 0 (Z.map aV)).Pairwise (λx y=>ltN x y=true):=by
 have pw:(bu (λq g=>!f q g) 0 (Z.map aV)).Pairwise λx y=>ltN x y=true:=pK λe he=>by obtain⟨O,_,rfl⟩:=bV he; exact l7 O
 have nd:(bu (λq g=>!f q g) 0 (Z.map aV)).Nodup:=pw.imp λhx e=>by
  subst e;have:=fA.mp hx;omega
 refine⟨(List.perm_ext_iff_of_nodup (wx s f) nd).mpr λx=>?_,pw⟩;rw[lE s,iV C s];simp
def GB:(ck cs Z Z').map dD=(db cs (sy cs Z Z') Z).reverse.map (tD false)++(db cs (sy cs Z Z') Z').map (tD true):=by
 unfold ck;rw[Ij,IW,IW];rfl
def DX (C:Cv p cs)(s:Sg cs Z)(s':Sg cs Z')(ps:aH):((ck cs Z Z').map (gq ps)).sum=((bu (λq g=>!sy cs Z Z' q g) 0 (Z.map aV)).map λx=>(ps.getD x.2 (0,0)).2).sum+((bu (λq g=>!sy cs Z Z' q g) 0 (Z'.map aV)).map λx=>(ps.getD x.2 (0,0)).1).sum:=by
 rw[<-vP (((Ky _).trans (pR C s (sy cs Z Z')).1).map λx=>(ps.getD x.2 (0,0)).2),<-vP ((pR C s' (sy cs Z Z')).1.map λx=>(ps.getD x.2 (0,0)).1)];unfold ck;rw[Ij,List.sum_append,IW,IW];rfl
end
variable {G:Pg}(P:Pm G)
include P
def Cz (n k k1 k2 k3 k4 p:Nat)(cs:ab)(ps:aH)(Z Z':af)(C:Cv p cs)(ok:∀c∈cs,OkC p c)(s:Sg cs Z)(s':Sg cs Z')(hl:Z.length<=3)(hz:Z'.length=Z.length)(hp:Pr ps)(hps:ps.length=cs.length):∃i,run G (n+13) 113 [(k,wd p cs),(k1,aR p cs Z),(k2,aR p cs Z'),(k3,aM cs),(k4,bo ps)]=.ret i (.bl true) []:=by
 have h100:1000<=SL:=by decide
 obtain⟨jy,qy,hj⟩:=rG P (n+1) 0 0 0 p cs Z Z' C ok s s' hl hz;obtain⟨js,qs⟩:=Gb P (n+10) 0 0 0 p cs Z Z' C s hl hz;obtain⟨jw,qw⟩:=rS P (n+11) 0 0 p cs Z C s hl;obtain⟨jv,qv⟩:=rS P (n+11) 0 0 p cs Z' C s' (by omega);obtain⟨U,wy,eU⟩:=AJ C s s' hz;obtain⟨wl1,wl2⟩:=wq C s s' hl hz;obtain⟨jd,qd⟩:=ED P (n+9) 0 0 0 0 p cs (ck cs Z Z') Z U _ C s hl wl2 wy eU;obtain⟨jt,qt⟩:=pD P (n+10) 0 0 ps (ck cs Z Z') hp (λx hx=>by rw[hps]; exact wl1 x hx) wl2;have l1:=lD C s hl (sy cs Z Z');have l2:=lD C s' (by omega) (sy cs Z Z');have wl3:(ck cs Z Z').length<=36:=by unfold ck; simp; omega
 obtain⟨j2,q2⟩:=pD P (n+10) 0 1 ps (ck cs Z Z'++ck cs Z Z') hp (λx hx=>by rw[hps]; exact wl1 x ((cO hx).elim id id)) (by rw[HP]; omega);obtain⟨jl,ql⟩:=A7 P n 0 0 0 0 p cs ps Z Z' C ok s s' hl hz hp hps;have mM:=qR (cs:=cs) (Z:=Z) (Z':=Z') s;have mP:=tW (cs:=cs) (Z:=Z) (Z':=Z');have eS:=zv (Z':=Z') C s;rw[eS] at mP mM;have w6:(wl Z).length<=SL:=by have:=kz C s (λ_ _=>true); unfold wl; omega
 have w6':(wl Z').length<=SL:=by have:=kz C s' (λ_ _=>true); unfold wl; omega
 have k6:=kz C s (λq g=>!sy cs Z Z' q g);have k6':=kz C s' (λq g=>!sy cs Z Z' q g);obtain⟨p1,o1⟩:=pR C s (sy cs Z Z');obtain⟨p2,o2⟩:=pR C s' (sy cs Z Z');have t1:=sO ((Ky _).trans p1) o1 k6;have t2:=sO p2 o2 k6';have sm:=DX C s s' ps;have wm:=GB (cs:=cs) (Z:=Z) (Z':=Z');have cc:∀(w:Bool) (l:aj),∃ys:aw,aW (compF G (run G (n+12)) [none,none,none,some (.lst ((dk cs Z Z').map pairD))] (.many [1,2]) [(.op .nin [(.op .tup [(.var 1),(.var 2)]),(.var 3)])] (.op .tup [(.var 1),(.cst (.str (if w then "on" else "off"))),(.var 2)])) (l.map pairD)=.ok ys/\ys.map (λx=>x.2)=(l.filter λx=>!sy cs Z Z' x.1 x.2).map (tD w):=λw l=>by
  refine⟨_,ml (p:=λx:Nat×Nat=>!sy cs Z Z' x.1 x.2) (g:=λx=>(99,tD w x)) λx _=>?_,?_⟩
  .have m:=mM x.1 x.2;have m:D.memb (.tup [.int x.1,.int x.2]) ((dk cs Z Z').map pairD)=sy cs Z Z' x.1 x.2:=m;generalize (dk cs Z Z').map pairD=ML at *;cases h:sy cs Z Z' x.1 x.2 with
   | false=>rw[h] at m; simp[-List.all_eq_true,compF,pairD,m,mP,tD,dD]
   | true=>rw[h] at m; simp[-List.all_eq_true,compF,pairD,m,mP]
  .simp
 have lk:∀x∈bu (λq g=>!sy cs Z Z' q g) 0 (Z.map aV),x.2<ps.length:=λx hx=>by
  obtain⟨O,h1,h2,_⟩:=(iV C s).mp hx;rw[hps]; exact s.lt _ (mW h1 h2)
 have lk':∀x∈bu (λq g=>!sy cs Z Z' q g) 0 (Z'.map aV),x.2<ps.length:=λx hx=>by
  obtain⟨O,h1,h2,_⟩:=(iV C s').mp hx;rw[hps]; exact s'.lt _ (mW h1 h2)
 obtain⟨y1,c1,e1⟩:=cc false (wl Z);obtain⟨y2,c2,e2⟩:=cc true (wl Z');rw[show ((wl Z).filter λx=>!sy cs Z Z' x.1 x.2)=_ from qP λq g=>!sy cs Z Z' q g] at e1;rw[show ((wl Z').filter λx=>!sy cs Z Z' x.1 x.2)=_ from qP λq g=>!sy cs Z Z' q g] at e2;clear cc mM mP eS;have a1:=ye false (db cs (sy cs Z Z') Z).reverse (by rw[J9]; omega);have a2:=ye true (db cs (sy cs Z Z') Z') (by omega);rw[t1] at a1;rw[t2] at a2;have le:((db cs (sy cs Z Z') Z).reverse.map (tD false)).length=(bu (λq g=>!sy cs Z Z' q g) 0 (Z.map aV)).length:=by rw[HG,J9,p1.length_eq]
 have hS:∀l:List (Nat×Bool×Nat),(D.lst (l.map dD)).pur 59=true/\(D.lst (l.map dD)).eq (.lst (l.map dD))=true:=λl=>o7 λd hd=>by
  obtain⟨x,_,rfl⟩:=bV hd;exact vz x 57
 have hT:∀(w:Bool) (l:aj),(D.lst (l.map (tD w))).pur 60=true/\(D.lst (l.map (tD w))).eq (.lst (l.map (tD w)))=true:=λw l=>o7 λd hd=>by
  obtain⟨x,_,rfl⟩:=bV hd;exact vz (x.1,w,x.2) 58
 have hD:=hS (ck cs Z Z');have hP:(bo ps).pur 59=true/\(bo ps).eq (bo ps)=true:=o7 λd hd=>by
  obtain⟨x,_,rfl⟩:=bV hd;exact⟨by simp,by simp[D.eq,D.eqs]⟩
 obtain⟨PL,hPL⟩:∃PL,bo ps=.lst PL:=⟨_,rfl⟩
 have ixp:∀x:Nat×Nat,x.2<ps.length->aS (bo ps) (.int (x.2:Nat))=o0 (.tup [.int (ps.getD x.2 (0,0)).1,.int (ps.getD x.2 (0,0)).2]):=λx h=>xL h;have b1:∀x:Nat×Nat,0<=(ps.getD x.2 (0,0)).2/\(ps.getD x.2 (0,0)).2<=1000000:=λx=>hp.bd (x.1,false,x.2);have b2:∀x:Nat×Nat,0<=(ps.getD x.2 (0,0)).1/\(ps.getD x.2 (0,0)).1<=1000000:=λx=>hp.bd (x.1,true,x.2);have ad:addD (.lst ((ck cs Z Z').map dD)) (.lst ((ck cs Z Z').map dD))=some (1,.lst ((ck cs Z Z'++ck cs Z Z').map dD)):=by
  simp only[addD];rw[if_pos (by rw[HG]; omega),Ij]
 have s2:((ck cs Z Z'++ck cs Z Z').map (gq ps)).sum=2 * ((ck cs Z Z').map (gq ps)).sum:=by rw[Ij,List.sum_append]; omega
 rw[s2] at q2;rw[sm] at qt q2 ql;have ct1:cutOp none (some ((bu (λq g=>!sy cs Z Z' q g) 0 (Z.map aV)).length:Int)) (.lst ((ck cs Z Z').map dD))=some (1,.lst ((db cs (sy cs Z Z') Z).reverse.map (tD false))):=by
  rw[wm,<-le];simp only[cutOp,kY,List.take_left]
 have ct2:cutOp (some ((bu (λq g=>!sy cs Z Z' q g) 0 (Z.map aV)).length:Int)) none (.lst ((ck cs Z Z').map dD))=some (1,.lst ((db cs (sy cs Z Z') Z').map (tD true))):=by
  rw[wm,<-le];simp only[cutOp,nN,K3]
 clear wm le t1 t2 p1 p2 o1 o2 sm s2;have fl:(((ck cs Z Z').map dD).all λx=>x.flat)=true:=by
  rw[List.all_eq_true];intro d hd;obtain⟨x,_,rfl⟩:=bV hd;simp[dD]
 have fp:(PL.all λx=>x.flat)=true:=by
  cases hPL;rw[List.all_eq_true];intro d hd;obtain⟨x,_,rfl⟩:=bV hd;simp
 have lw:((ck cs Z Z').map dD).length<=36:=by rw[HG]; exact wl3
 generalize db cs (sy cs Z Z') Z=N1 at *;generalize db cs (sy cs Z Z') Z'=N2 at *;generalize bu (λq g=>!sy cs Z Z' q g) 0 (Z.map aV)=KO at *;generalize bu (λq g=>!sy cs Z Z' q g) 0 (Z'.map aV)=KN at *;generalize (ck cs Z Z'++ck cs Z Z').map dD=W2 at *;generalize (ck cs Z Z').map dD=DW at *;generalize (dk cs Z Z').map pairD=ML at *;obtain⟨y3,c3,e3⟩:=kr (f:=compF G (run G (n+12)) [none,none,some (bo ps)] (.one 1) [] (.op .ix [(.op .ix [(.var 2),(.op .ix [(.var 1),(.cst (.int (2)))])]),(.cst (.int (1)))])) (e:=tD false) (g:=λx:Nat×Nat=>D.int (ps.getD x.2 (0,0)).2) (xs:=KO) λx hx=>by
  have i1:=ixp x (lk x hx);have i2:aS (tD false x) (.int 2)=o0 (.int (x.2:Nat)):=rfl;generalize bo ps=PS at *;generalize tD false x=tx at *;exact⟨0,by simp[-aS,compF,i1,i2]; simp[dB]⟩
 obtain⟨y4,c4,e4⟩:=kr (f:=compF G (run G (n+12)) [none,none,some (bo ps)] (.one 1) [] (.op .ix [(.op .ix [(.var 2),(.op .ix [(.var 1),(.cst (.int (2)))])]),(.cst (.int (0)))])) (e:=tD true) (g:=λx:Nat×Nat=>D.int (ps.getD x.2 (0,0)).1) (xs:=KN) λx hx=>by
  have i1:=ixp x (lk' x hx);have i2:aS (tD true x) (.int 2)=o0 (.int (x.2:Nat)):=rfl;generalize bo ps=PS at *;generalize tD true x=tx at *;exact⟨0,by simp[-aS,compF,i1,i2]; simp[dB]⟩
 have z1:=tN (xs:=KO) (f:=λx=>(ps.getD x.2 (0,0)).2) (λx _=>b1 x) (by omega);have z2:=tN (xs:=KN) (f:=λx=>(ps.getD x.2 (0,0)).1) (λx _=>b2 x) (by omega);obtain⟨u1,v1⟩:=hT false KO;obtain⟨u2,v2⟩:=hT true KN;have lO:(KO.map (tD false)).length=KO.length:=HG _;have lO':(KO.map (tD false)).length<=SL:=by omega
 have lN':(KN.map (tD true)).length<=SL:=by rw[HG]; omega
 generalize KO.map (tD false)=TO at *;generalize KN.map (tD true)=TN at *;generalize (KO.map λx=>(ps.getD x.2 (0,0)).2).sum=S1 at *;generalize (KN.map λx=>(ps.getD x.2 (0,0)).1).sum=S2 at *;generalize KO.map (λx=>D.int (ps.getD x.2 (0,0)).2)=I1 at *;generalize KN.map (λx=>D.int (ps.getD x.2 (0,0)).1)=I2 at *;have hW:=λk x=>vO P (n+11) k x;have c1':aW (compF G (run G (n+12)) [none,none,none,some (.lst ML)] (.many [1,2]) [(.op .nin [(.op .tup [(.var 1),(.var 2)]),(.var 3)])] (.op .tup [(.var 1),(.cst (.str "off")),(.var 2)])) ((wl Z).map pairD)=.ok y1:=c1;have c2':aW (compF G (run G (n+12)) [none,none,none,some (.lst ML)] (.many [1,2]) [(.op .nin [(.op .tup [(.var 1),(.var 2)]),(.var 3)])] (.op .tup [(.var 1),(.cst (.str "on")),(.var 2)])) ((wl Z').map pairD)=.ok y2:=c2;refine Ou.rq P.f113 ?_;show Ou _ _ _ [o0 (wd p cs),o0 (aR p cs Z),o0 (aR p cs Z'),o0 (aM cs),o0 (bo ps),none,none,none,none,none,none,none,none] _ _ _;generalize wd p cs=WD at *;generalize aR p cs Z=SA at *;generalize aR p cs Z'=SB at *;generalize aM cs=K at *;generalize hPS:bo ps=PS at *;refine Ou.setD (j:=1) (x:=(jy,.lst DW)) (by simp[P.f50,kg,qy]) hj ?_;show Ou _ _ _ [o0 WD,o0 SA,o0 SB,o0 K,o0 PS,some (1,.lst DW),none,none,none,none,none,none,none] _ _ _;refine Ou.set (x:=(js,.lst ML)) (by simp[P.f131,sN,qs]) ?_;refine Ou.setE (d:=.lst TO) ⟨_,by simp[P.f124,mX,qw,w6]; rw[c1']; simp[e1]; rfl⟩ ?_;show Ou _ _ _ [o0 WD,o0 SA,o0 SB,o0 K,o0 PS,some (1,.lst DW),o0 (.lst ML),o0 (.lst TO),none,none,none,none,none] _ _ _;refine Ou.setE (d:=.lst TN) ⟨_,by simp[P.f124,mX,qv,w6']; rw[c2']; simp[e2]; rfl⟩ ?_;show Ou _ _ _ [o0 WD,o0 SA,o0 SB,o0 K,o0 PS,some (1,.lst DW),o0 (.lst ML),o0 (.lst TO),o0 (.lst TN),none,none,none,none] _ _ _;have hty:bq G (.lst DW) .list=true:=rfl;refine Ou.iffN (j:=99) (by simp[hty,P.f133,qQ,qd]) ?_;refine Ou.iffN (j:=99) ?_ ?_
 .rw[<-lO] at ct1 ct2;generalize N1.reverse.map (tD false)=TA at *;generalize N2.map (tD true)=TB at *;simp[-cutOp,-rz,-D.eq,ct1,ct2,a1,a2,u1,v1,u2,v2]
 refine Ou.setE (d:=.int (S1+S2)) ⟨_,by simp[lO',lN',c3,e3,c4,e4,z1,z2]; rfl⟩ ?_;show Ou _ _ _ [o0 WD,o0 SA,o0 SB,o0 K,o0 PS,some (1,.lst DW),o0 (.lst ML),o0 (.lst TO),o0 (.lst TN),o0 (.int (S1+S2)),none,none,none] _ _ _;subst hPL;have fb2:D.fb 2 (.lst [.lst PL,.lst DW])=true:=by simp only[D.fb,List.all_cons,List.all_nil,fl,fp]; rfl
 have ep:(D.lst [.lst PL,.lst DW]).pur 60=true/\(D.lst [.lst PL,.lst DW]).eq (.lst [.lst PL,.lst DW])=true:=o7 λd hd=>by
  rcases bQ hd with rfl | hd
  .exact hP
  .obtain rfl:d=.lst DW:=by simpa using hd
   exact hD
 refine Ou.setK (x:=(2,.lst [.lst PL,.lst DW])) (by simp[aZ,br]) fb2 ?_;have i0:aS (.lst [.lst PL,.lst DW]) (.int 0)=o0 (.lst PL):=rfl;have i1:aS (.lst [.lst PL,.lst DW]) (.int 1)=o0 (.lst DW):=rfl;generalize hH:D.lst [.lst PL,.lst DW]=HH at *;refine Ou.setE (d:=.lst [.int (S1+S2),.int (S1+S2)]) ⟨_,by simp[-aS,i0,i1,P.f52,kU,qt,P.f53,oG,ql]; rfl⟩ ?_;refine Ou.setK (x:=(j2,.int (2 * (S1+S2)))) (by simp[-aS,-addD,i0,ad,P.f52,kU,q2]) (by cases j2 <;> rfl) ?_;have n2:cn 2=true:=dA.mpr (by decide);refine Ou.iffN (j:=99) (by simp[-rz,hH,ep.1,ep.2,P.f73,lG,hW,n2,D.eq]) ?_;refine Ou.append (k:=0) (xs:=DW) (v:=(99,.tup [.int 0,.str "on",.int 0])) (by simp[frz,frz1]) (by simp) (by omega) ?_;have cz:aW (compF G (run G (n+12)) [none,none,some (.int (S1+S2))] (.one 1) [] (.and (.call 73 [(.var 1)]) (.op .eq [(.var 1),(.var 2)]))) ([S1+S2,S1+S2].map .int)=.ok ([S1+S2,S1+S2].map λ_=>(99,.bl true)):=gN λy hy=>by
  obtain rfl:y=S1+S2:=by simpa using hy
  simp[compF,P.f73,lG,hW,D.eq]
 have cz:aW (compF G (run G (n+12)) [none,none,some (.int (S1+S2))] (.one 1) [] (.and (.call 73 [(.var 1)]) (.op .eq [(.var 1),(.var 2)]))) [.int (S1+S2),.int (S1+S2)]=.ok [(99,.bl true),(99,.bl true)]:=cz;have l3:allB [.bl true,.bl true]=some true:=rfl;have h2:2<=SL:=by omega
 exact Ou.ret (x:=(99,.bl true)) (by simp[frz,frz1,cz,l3,h2]) rfl
end Ip
end
section
namespace Ip
open PySem (Str)
open Classical
def Hk {p:Nat}{cs:ab}{Z:af}(s:Sg cs Z):ck cs Z Z=[]:=by
 have:db cs (sy cs Z Z) Z=[]:=List.eq_nil_iff_forall_not_mem.mpr λx hx=>by
  obtain⟨O,h1,h2,h3⟩:=(lE s).mp hx;rw[o6 h1 h1,HS (Sy.self h2)] at h3;cases h3
 unfold ck;rw[this];rfl
section
variable {G:Pg}(P:Pm G)
include P
def As (n k:Nat)(ns:am)(hl:ns.length<=63):∃kk,run G (n+14) 69 [(k,.lst (ns.map .int))]=.ret kk (.bl true) []:=by
 obtain⟨jd,p,cs,m,Z,Z',qd,hp,hm,ok,s,s',l0,l1,l2⟩:=F5 P (n+9) 0 ns hl;have C:=xo hp hm ok;have hCS:cs.length<=SL:=bv hm (by decide);have hcv:aM cs=.lst (cs.map λc=>D.lst (c.map .int)):=rfl;have sB:Sg cs (List.replicate m []):=⟨by simp,by simp⟩
 have lB:(List.replicate m ([]:ak)).length=m:=by simp
 have c5:aW (compF G (run G (n+13)) [none,none] (.one 1) [] (.op .list [.var 1])) (cs.map λc=>D.lst (c.map .int))=.ok (cs.map λc=>(1,.lst (c.map .int))):=
  gN λc _=>by simp[compF]
 have qw:∀k,run G (n+13) 18 [(1,.ins 17 []),(0,.int p),(k,aM cs)]=.ret 99 .non [(100,wd p cs)]:=λk=>zy P.v.a (n+9) 0 k p cs (by omega) hm (λc hc=>(ok c hc).gd) λc hc=>bv (ok c hc).ln (by decide);obtain⟨jp,ps,qp,hps,lps⟩:=GO P (n+11) 0 0 ns cs hm;have rr:∀A B:af,Sg cs A->Sg cs B->A.length=m->B.length=m->∃i,run G (n+13) 113 [(0,wd p cs),(0,aR p cs A),(0,aR p cs B),(0,aM cs),(0,bo ps)]=.ret i (.bl true) []:=λA B sA sB lA lB=>Cz P n 0 0 0 0 0 p cs ps A B C ok sA sB (by omega) (by omega) hps lps;obtain⟨jw,qy,_⟩:=rG P (n+2) 0 0 0 p cs Z Z C ok s s (by omega) rfl;rw[Hk (p:=p) s] at qy;have qy:run G (n+13) 50 [(0,wd p cs),(0,aR p cs Z),(0,aR p cs Z)]=.ret jw (.lst []) []:=qy;obtain⟨jt,qt⟩:=pD P (n+11) 0 99 ps [] hps (λ_ h=>nomatch h) (ID _);have qt:run G (n+13) 52 [(0,bo ps),(99,.lst [])]=.ret jt (.int 0) []:=qt;have all:∀x∈[(Z,Z'),(Z',Z),(Z,Z),(List.replicate m [],Z'),(Z,Z')],∃i,run G (n+13) 113 [(0,wd p cs),(0,aR p cs x.1),(0,aR p cs x.2),(0,aM cs),(0,bo ps)]=.ret i (.bl true) []:=by
  intro x hx;rcases bQ hx with rfl | hx
  .exact rr _ _ s s' l1 l2
  rcases bQ hx with rfl | hx
  .exact rr _ _ s' s l2 l1
  rcases bQ hx with rfl | hx
  .exact rr _ _ s s l1 l1
  rcases bQ hx with rfl | hx
  .exact rr _ _ sB s' lB l2
  obtain rfl:x=(Z,Z'):=by simpa using hx
  exact rr _ _ s s' l1 l2
 clear rr;generalize List.replicate m ([]:ak)=B at *;refine Ou.rq P.f69 ?_;show Ou _ _ _ [o0 (.lst (ns.map .int)),none,none,none,none,none,none,none,none,none,none] _ _ _;refine Ou.setT (j:=jd) (ds:=[aM cs,.int p,.lst [aR p cs B,aR p cs Z,aR p cs Z']]) (by simp[P.f129,oQ,qd]) ?_;refine Ou.setE (d:=wd p cs) (by simp[hcv,hCS,c5,qE P,k7,Function.comp_def]; rw[<-hcv]; simp[qw]) ?_;refine Ou.setU (j:=0) (ds:=[aR p cs B,aR p cs Z,aR p cs Z']) rfl ?_;refine Ou.set (x:=(jp,bo ps)) (by simp[P.f134,o4,qp]) ?_;refine Ou.each (λx:List ak×af=>D.tup [aR p cs x.1,aR p cs x.2]) [(Z,Z'),(Z',Z),(Z,Z),(B,Z'),(Z,Z')] (λ_ a=>∃x9 x10,a=[o0 (.lst (ns.map .int)),o0 (aM cs),o0 (.int p),o0 (.lst [aR p cs B,aR p cs Z,aR p cs Z']),o0 (wd p cs),o0 (aR p cs B),o0 (aR p cs Z),o0 (aR p cs Z'),o0 (bo ps),x9,x10]) (h:=by simp; rfl) rfl (show 5<=SL by decide) ⟨none,none,by simp⟩ ?_ ?_
 .rintro pre x suf a he ⟨x9,x10,rfl⟩;obtain⟨i,q⟩:=all x (by rw[he]; simp);refine⟨_,i4 rfl,?_⟩;exact Ou.iffN (j:=99) (by simp[bJ,P.f113,p9,q]) (Ou.nil ⟨_,_,rfl⟩)
 .rintro a ⟨x9,x10,rfl⟩;exact Ou.ret (x:=(99,.bl true)) (by simp[P.f50,kg,qy,P.f52,kU,qt,D.eq,D.eqs]) rfl
end
def zF:Pm G_k24:=⟨⟨⟨rfl,rfl,rfl,rfl,rfl,rfl,rfl,rfl,rfl⟩,rfl⟩,⟨rfl,rfl,rfl⟩,rfl,rfl,rfl,rfl,rfl,rfl,rfl,rfl,rfl,rfl,rfl,rfl,rfl,rfl,rfl,rfl,rfl,rfl,rfl,rfl,rfl,rfl,rfl,rfl,rfl,rfl,rfl,rfl,rfl,rfl⟩
def Bu (ns:am)(hl:ns.length<=63):∃kk,run G_k24 14 69 [(0,.lst (ns.map .int))]=.ret kk (.bl true) []:=As zF 0 0 ns hl
end Ip
end
section
namespace Ek24
open PySem PySem.Spec PyProof.Rows L2
noncomputable abbrev Pw:=PySem.Challenge.pw_quickchange_k24_a_way_between
noncomputable def sT (n:Nat):Stmt:=Pw.main.body.getD n (.Pass ⟨0,0,0,0⟩)
noncomputable def nA:Stmt:=sT 56
noncomputable def v8:Hd.Fd:=⟨"law", "law",69,397,nA,none⟩
def Gy:FnScope (Ip.gc (aY nA) (cC nA)) ["_law_script"] (cC nA):=(Hd.yh (by kernel_rfl))
theorem EM:Ip.cF Ip.T_k24 [] nA=some Ip.qX:=by kernel_rfl
end Ek24
end
section
namespace Ek24
open PySem PySem.Spec PySem.W PySem.Calls PyProof.Rows L2 Hd
set_option maxHeartbeats 0
noncomputable def B:Tl:=⟨[⟨"is_whole", "is_whole",0,28,sT 3,none⟩,⟨"is_below", "is_below",1,35,sT 4,none⟩,⟨"is_rising", "is_rising",15,117,sT 14,none⟩,⟨"are_places", "are_places",16,122,sT 15,none⟩,⟨"check_garment", "check_garment",17,129,sT 16,none⟩,⟨"worn_in", "worn_in",24,183,sT 19,none⟩,⟨"may_lie", "may_lie",34,190,sT 21,none⟩,⟨"check_things", "check_things",35,197,sT 22,none⟩,⟨"check_lacking", "check_lacking",36,204,sT 23,none⟩,⟨"still_under", "still_under",37,211,sT 24,none⟩,⟨"order_of", "order_of",39,223,sT 26,none⟩,⟨"reason_against", "reason_against",45,230,sT 28,none⟩,⟨"staying_on", "staying_on",46,237,sT 29,none⟩,⟨"may_stay", "may_stay",47,244,sT 30,none⟩,⟨"not_staying", "not_staying",49,251,sT 31,none⟩,⟨"way_between", "way_between",50,258,sT 32,none⟩,⟨"price_of", "price_of",51,265,sT 33,none⟩,⟨"trouble_of", "trouble_of",52,270,sT 34,none⟩,⟨"least_trouble", "least_trouble",53,277,sT 35,none⟩,⟨"_law_cell", "_law_cell",98,284,sT 37,none⟩,⟨"_law_mix", "_law_mix",71,291,sT 38,none⟩,⟨"_law_whole", "_law_whole",73,298,sT 39,none⟩,⟨"_law_covers", "_law_covers",99,303,sT 40,none⟩,⟨"_law_wears", "_law_wears",115,308,sT 41,none⟩,⟨"_law_deed", "_law_deed",116,313,sT 42,none⟩,⟨"_law_moved", "_law_moved",117,320,sT 43,none⟩,⟨"_law_walk", "_law_walk",118,327,sT 44,none⟩,⟨"_law_same_to", "_law_same_to",123,334,sT 45,none⟩,⟨"_law_worn", "_law_worn",124,341,sT 46,none⟩,⟨"_law_beneath", "_law_beneath",130,346,sT 47,none⟩,⟨"_law_stays", "_law_stays",131,351,sT 48,none⟩,⟨"_law_lets", "_law_lets",132,356,sT 49,none⟩,⟨"_law_leads", "_law_leads",133,363,sT 50,none⟩,⟨"_law_prices", "_law_prices",134,370,sT 51,none⟩,⟨"_law_right", "_law_right",113,375,sT 52,none⟩,⟨"_law_laid", "_law_laid",127,380,sT 53,none⟩,⟨"_law_chain", "_law_chain",128,385,sT 54,none⟩,⟨"_law_drawn", "_law_drawn",129,392,sT 55,none⟩,v8],[⟨"Wardrobe",17,172,⟨"__init__", "Wardrobe.__init__",18,141,eT (sT 17) 0,none⟩⟩],[],[(172,⟨"many", "Wardrobe.many",20,155,eT (sT 17) 2,none⟩),(172,⟨"covers", "Wardrobe.covers",21,162,eT (sT 17) 3,none⟩)],[("DEEPEST",100,196),("MOST_PLACES",6,321),("MOST_GARMENTS",6,323)],[]⟩
noncomputable def kI:ar:=rZ Ip.T_k24.fl Ip.T_k24.att
def facts {w:World}{K:Frag}{mg:Str->aA}{fa:Addr}{h:Heap}(hq:B.q kI K=B.a kI Ip.G_k24)(KX:K.In h)(Gl:h.Ns mainGlobals mg)(hmg:mg "law" = some (.ref fa)) :
  ∃fd:FuncData,(∀(s:Shared) (u:Value),BindsTo s fd ⟨[u],[]⟩ [("_law_script",u)])/\∀base:Heap,K.In base->base.Ns mainGlobals mg->FnOk Pw w K mg base (fY Pw w) (rm 14) fa fd ["_law_script"] (ga K):=by
 have A:=GQ hq;have g0:=zt (T:=Ip.T_k24) Ip.clL_k24 KX Gl A (λ_=>rfl) rfl (by decide +kernel) (by decide +kernel) rfl (by decide +kernel) (by decide +kernel)
  (Cn ⟨_,rfl,λh=>Hd.bY (ps:=["value"]) (io:=[]) h⟩ <| Cn ⟨_,rfl,λh=>Hd.bY (ps:=["value", "bound"]) (io:=[]) h⟩ <| Cn ⟨_,rfl,λh=>Hd.bY (ps:=["numbers"]) (io:=[]) h⟩ <| Cn ⟨_,rfl,λh=>Hd.bY (ps:=["told", "spots"]) (io:=[]) h⟩ <| Cn ⟨_,rfl,λh=>Hd.bY (ps:=["wardrobe", "garment"]) (io:=[]) h⟩ <| Cn ⟨_,rfl,λh=>Hd.bY (ps:=["wearing"]) (io:=[]) h⟩ <| Cn ⟨_,rfl,λh=>Hd.bY (ps:=["wardrobe", "place", "thing"]) (io:=[]) h⟩ <| Cn ⟨_,rfl,λh=>Hd.bY (ps:=["wardrobe", "rows"]) (io:=[]) h⟩ <| Cn ⟨_,rfl,λh=>Hd.bY (ps:=["wardrobe", "rows"]) (io:=[]) h⟩ <| Cn ⟨_,rfl,λh=>Hd.bY (ps:=["wardrobe", "rows", "garment", "left"]) (io:=[]) h⟩ <| Cn ⟨_,rfl,λh=>Hd.bY (ps:=["wardrobe", "rows"]) (io:=[]) h⟩ <| Cn ⟨_,rfl,λh=>Hd.bY (ps:=["wardrobe", "wearing", "goal", "staying", "garment"]) (io:=[]) h⟩ <| Cn ⟨_,rfl,λh=>Hd.bY (ps:=["wardrobe", "wearing", "goal"]) (io:=[]) h⟩ <| Cn ⟨_,rfl,λh=>Hd.bY (ps:=["wardrobe", "one", "other"]) (io:=[]) h⟩ <| Cn ⟨_,rfl,λh=>Hd.bY (ps:=["wardrobe", "standing", "staying"]) (io:=[]) h⟩ <| Cn ⟨_,rfl,λh=>Hd.bY (ps:=["wardrobe", "one", "other"]) (io:=[]) h⟩ <| Cn ⟨_,rfl,λh=>Hd.bY (ps:=["prices", "deed"]) (io:=[]) h⟩ <| Cn ⟨_,rfl,λh=>Hd.bY (ps:=["prices", "deeds"]) (io:=[]) h⟩ <| Cn ⟨_,rfl,λh=>Hd.bY (ps:=["wardrobe", "prices", "one", "other"]) (io:=[]) h⟩ <| Cn ⟨_,rfl,λh=>Hd.bY (ps:=["_law_script", "_law_k"]) (io:=[]) h⟩ <| Cn ⟨_,rfl,λh=>Hd.bY (ps:=["_law_cell_here", "_law_salt", "_law_many"]) (io:=[]) h⟩ <| Cn ⟨_,rfl,λh=>Hd.bY (ps:=["_law_thing"]) (io:=[]) h⟩ <| Cn ⟨_,rfl,λh=>Hd.bY (ps:=["_law_script", "_law_places"]) (io:=[]) h⟩ <| Cn ⟨_,rfl,λh=>Hd.bY (ps:=["_law_standing", "_law_garment"]) (io:=[]) h⟩ <| Cn ⟨_,rfl,λh=>Hd.bY (ps:=["_law_cell_here", "_law_standing", "_law_covers_here"]) (io:=[]) h⟩ <| Cn ⟨_,rfl,λh=>Hd.bY (ps:=["_law_standing", "_law_deed_here", "_law_covers_here"]) (io:=[]) h⟩ <| Cn ⟨_,rfl,λh=>Hd.bY (ps:=["_law_cells", "_law_standing", "_law_covers_here"]) (io:=[]) h⟩ <| Cn ⟨_,rfl,λh=>Hd.bY (ps:=["_law_one", "_law_other", "_law_player", "_law_garment", "_law_place"]) (io:=[]) h⟩ <| Cn ⟨_,rfl,λh=>Hd.bY (ps:=["_law_standing", "_law_covers_here"]) (io:=[]) h⟩ <| Cn ⟨_,rfl,λh=>Hd.bY (ps:=["_law_one", "_law_covers_here", "_law_player", "_law_garment"]) (io:=[]) h⟩ <| Cn ⟨_,rfl,λh=>Hd.bY (ps:=["_law_one", "_law_other", "_law_covers_here"]) (io:=[]) h⟩ <| Cn ⟨_,rfl,λh=>Hd.bY (ps:=["_law_standing", "_law_deed_here", "_law_covers_here"]) (io:=[]) h⟩ <| Cn ⟨_,rfl,λh=>Hd.bY (ps:=["_law_deeds", "_law_one", "_law_other", "_law_covers_here"]) (io:=[]) h⟩ <| Cn ⟨_,rfl,λh=>Hd.bY (ps:=["_law_script", "_law_covers_here"]) (io:=[]) h⟩ <| Cn ⟨_,rfl,λh=>Hd.bY (ps:=["_law_wardrobe", "_law_one", "_law_other", "_law_covers_here", "_law_prices_here"]) (io:=[]) h⟩ <| Cn ⟨_,rfl,λh=>Hd.bY (ps:=["_law_covers_here", "_law_places", "_law_order"]) (io:=[]) h⟩ <| Cn ⟨_,rfl,λh=>Hd.bY (ps:=["_law_script", "_law_players"]) (io:=[]) h⟩ <| Cn ⟨_,rfl,λh=>Hd.bY (ps:=["_law_script"]) (io:=[]) h⟩ <| Cn ⟨_,rfl,λh=>Hd.bY (ps:=["_law_script"]) (io:=[]) h⟩ <| Nl)
  (Cn ⟨⟨_,rfl,λh=>Hd.bY (ps:=["self", "places", "covers"]) (io:=[0]) h⟩,rfl,_,rfl,rfl,rfl⟩ <| Nl)
  (Nl)
  (Cn ⟨_,rfl,λh=>Hd.bY (ps:=["self"]) (io:=[]) h⟩ <| Cn ⟨_,rfl,λh=>Hd.bY (ps:=["self", "garment"]) (io:=[]) h⟩ <| Nl) (by decide +kernel)
 obtain⟨a1,_,a3⟩:=A.f v8 (by simp[B]);have e:=hmg.symm.trans (mg_of KX Gl a1);cases e;exact Hg (n:=14) g0 A.l rfl rfl (xl (K7 a3).1) Gy EM rfl (λ_ _ _ _ _ _ _=>rfl) Ip.Bu
noncomputable def T0 (P:Params):BT:=(.node (boot_o_0 P) (.node (boot_o_1 P) (.node (boot_o_3 P) (.node (boot_o_7 P) .nil .nil) .nil) (.node (boot_o_5 P) (.node (boot_o_9 P) .nil .nil) .nil)) (.node (boot_o_2 P) (.node (boot_o_4 P) (.node (boot_o_8 P) .nil .nil) .nil) (.node (boot_o_6 P) (.node (boot_o_10 P) .nil .nil) .nil)))
noncomputable def xx:ao:=[2,3,15,17,18,20,21,22,24,25,27,28,29,31,32,34,35,36,37,40,41,42,49,50,51,52,55,62,63,65,66,68,69,70,71,72,75,82,84,85,87,88,89,90,91,94,101,103,104,106,107,108,109,110,113,116,117,118,121,122,123,125,126,128,129,137,140,141,142,144,145,147,148,149,151,152,154,155,156,158,159,161,162,163,165,166,168,169,170,171,172,173,174,177,179,180,182,183,184,186,187,189,190,191,193,194,196,197,198,200,201,203,204,205,207,208,210,211,212,214,215,217,218,219,222,223,224,226,227,229,230,231,233,234,236,237,238,240,241,243,244,245,247,248,250,251,252,254,255,257,258,259,261,262,264,265,266,269,270,271,273,274,276,277,278,280,281,283,284,285,287,288,290,291,292,294,295,297,298,299,302,303,304,307,308,309,312,313,314,316,317,319,320,321,323,324,326,327,328,330,331,333,334,335,337,338,340,341,342,345,346,347,350,351,352,355,356,357,359,360,362,363,364,366,367,369,370,371,374,375,376,379,380,381,384,385,386,388,389,391,392,393,396,397]
noncomputable def looseL:List Str:=(["_wall", "DEEPEST", "is_whole", "is_below", "copied", "WardrobeError", "TooMuch", "NoGarment", "NoLook", "MOST_PLACES", "MOST_GARMENTS", "is_rising", "are_places", "check_garment", "Wardrobe", "worn_in", "may_lie", "check_things", "check_lacking", "still_under", "ring_among", "order_of", "reason_against", "staying_on", "may_stay", "not_staying", "way_between", "price_of", "trouble_of", "least_trouble", "_law_cell", "_law_mix", "_law_whole", "_law_covers", "_law_wears", "_law_deed", "_law_moved", "_law_walk", "_law_same_to", "_law_worn", "_law_beneath", "_law_stays", "_law_lets", "_law_leads", "_law_prices", "_law_right", "_law_laid", "_law_chain", "_law_drawn"]:List String).map Str.ofString
noncomputable abbrev hk:Hook:=iR xx (B.q kI) (B.a kI Ip.G_k24)
noncomputable abbrev Xt (s:Shared):Bool:=xlAt (view Pw [56]) [] s&&recOk (PySem.Challenge.rw_quickchange_k24_a_way_between.row.toRowW).records s
noncomputable def tF:Thread:=⟨do let code <-moduleCode Pw.main
                                       let frame <-newBodyFrame code mainNs mainNs
                                       let _ <-run (.body (behindTheImports Pw) { scope:=Pw.main.scope,locals:=mainNs,globals:=mainNs,cells:=[],code,frame:=some frame })
                                       ret .none,
   .builtin "claim.caller" {},default,[]⟩
noncomputable def runAll (w:World)(os:OsState):=(gP through (stepOk 11 (some (.ref 6))) (stepT (denote treeTable) Pw w) 2714 ⟨T0 w.params,11,(boot_heap w.params).life,Array.mk [],boot_drawn,boot_toks,os⟩ tF).map
 (lookG (importedModules Pw.main.body) (staticsOk (importedModules Pw.main.body)) laidKept (namesBound Pw) (openSeen (view Pw [56]) looseL (importedModules Pw.main.body) Xt true) (λs=>B.q kI (o5 xx s.heap)) (boot_heap w.params))
noncomputable def _root_.PySem.W.Fast.tw13960479302737416800:Program:=PySem.Challenge.pw_quickchange_k24_a_way_between
theorem _root_.PySem.W.Fast.te13960479302737416800:PySem.Challenge.pw_quickchange_k24_a_way_between=PySem.W.Fast.tw13960479302737416800:=rfl
noncomputable def dum {α:Type}(_:α):Bool:=true
def mk:dum runAll=true:=by k_qdec
theorem t0 (P:Params):absHeap (T0 P) 11 (boot_heap P).life=boot_heap P:=by kernel_rfl
def zJ (w:World)(os:OsState):runAll w os=some (true,openGood (view Pw [56]) looseL,B.a kI Ip.G_k24):=by
 rw[PySem.W.Fast.te3780585175805154948];kernel_rfl
def left:LeftO Pw (view Pw [56]) looseL Xt (Hook.obs hk) (Hook.val hk) 2714:=
 DO (T0:=T0) (m₀:=11) (ann:=some (.ref 6)) (life:=λP=>(boot_heap P).life) (by kernel_rfl) (by decide) (λs=>rfl) (λw=>by kernel_rfl) t0 zJ
end Ek24
open PySem PySem.W PyProof.Rows L2 Hd in
set_option maxRecDepth 100000 in
set_option maxHeartbeats 0 in
theorem PySem.Challenge.cw_quickchange_k24_a_way_between_holds : PySem.Challenge.rw_quickchange_k24_a_way_between.Holds := by
 w_on; o_law
 refine holds_open (r:=PySem.Challenge.rw_quickchange_k24_a_way_between.row) (q:=view Ek24.Pw [56]) (loose:=Ek24.looseL) (Xt:=Ek24.Xt) (XP:=XL (view Ek24.Pw [56]) []) (Yf:=Hook.obs Ek24.hk) (Ya:=Hook.val Ek24.hk) (YP:=Hook.says Ek24.hk) (N:=2714) Ek24.left (Hook.of Ek24.hk) (Hook.keeps Ek24.hk) (λs e=>xl_of s (Bool.and_eq_true_iff.mp e).1) XL.keeps (by rfl) (by rfl) (by rfl) (λs e=>recFacts_of (Bool.and_eq_true_iff.mp e).2) (by rfl) (by first | assumption | decide +kernel) (by decide +kernel) ⟨rfl,rfl,rfl,rfl,rfl,by decide +kernel⟩ ?hw ?hc
 case hw=>w_witness2
 case hc=>
  refine yP (l:=PySem.Challenge.rw_quickchange_k24_a_way_between) (n:=63) (k:=L2.rm 14) (x := "_law_script") (CX:=λw=>L2.fY PySem.Challenge.pw_quickchange_k24_a_way_between w) (sp:=λ_ K=>L2.ga K) rfl (by decide) rfl ⟨rfl,by decide,by decide⟩ ?F ?S ?C
  case F=>exact λw K mg fa h hq KX G hmg=>Ek24.facts hq KX G hmg
  case S=>exact λw K H a ns hl _ hS=>⟨a,ns,rfl,hS,hl,λ_=>rfl⟩
  case C=>
   rintro w H s e s' ⟨_,_,_,_,_,_,_,_,_,_,_,_,_,_,z⟩;exact z
#print axioms PySem.Challenge.cw_quickchange_k24_a_way_between_holds
end
