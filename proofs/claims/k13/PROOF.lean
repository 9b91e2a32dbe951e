import PyProof.Rows.All
import Wide.All
import OpenK.AllK
import Wide.FinOn
import PyProof.EqAt
import PyProof.EqKinds
import PyProof.TupleCall
import Lean
import PyProof.Rows.SetFrom
import PyProof.Rows.SortWalk
import KE.KDictList
import KE.KSortedM
import PyProof.WalkInts
import KE.KSortTup
import KE.KRevIter
import KE.KUnpack
import PySem.Challenge.RW_quickchange_k13_orders_refused
set_option Elab.async false
set_option linter.all false
set_option maxRecDepth 100000
set_option compiler.extract_closed false
set_option genSizeOf false
set_option bootstrap.genMatcherCode false
def tw:=@Bool.and_eq_true
def Gx:=@List.mem_singleton
def Gy:=@List.size_toArray
def Gz:=@List.getElem?_set_ne
def GA:=@List.length_map
def GB:=@List.map_cons
def GC:=@beq_iff_eq
def GD:=@List.getElem?_set_self
def GE:=@Bool.false_eq_true
def GH:=@PySem.wpAny_loadPart_at
def GI:=@PySem.Heap.size_push
def GJ:=@List.length_append
def GK:=@List.getElem?_map
def GL:=@List.mem_cons
def GM:=@List.getElem?_eq_getElem
def GN:=@List.nodup_cons
def GO:=@List.length_set
def GP:=@List.nodup_append
def GQ:=@List.mem_map_of_mem
def GR:=@decide_eq_true_eq
def GS:=@List.contains_iff_mem
def GU:=@List.mem_append
def GV:=@List.getElem_mem
def GW:=@PySem.wpAny_newObj_type
def GX:=@Bool.false_ne_true
def GY:=@PySem.wpAny_Call_Name_kw
def GZ:=@PySem.wpAny_field
def G0:=@List.not_mem_nil
def G1:=@List.mem_range
def G2:=@PySem.wpAny_setState_of
def G3:=@List.map_inj_left
def G4:=@PyProof.Rows.callWith_type1
def G5:=@PyProof.Rows.slot_tuple_getitem
def G6:=@PySem.Heap.SameBut.update
def G7:=@PySem.W.kia_one
def G8:=@Bool.or_eq_true
def G9:=@PySem.wpAny_call_entry
def Ha:=@PySem.wpAny_mono
def Hb:=@List.cons.injEq
def He:=@Prod.mk.injEq
def Hf:=@beq_eq_false_iff_ne
def Hg:=@PySem.mem_of_lookup
def Hh:=@PySem.wpAny_isSubtype_exc
def Hi:=@PySem.wpAny_truthy_bool
def Hj:=@Option.some.injEq
def Hk:=@List.mem_cons_of_mem
def Hl:=@List.mem_cons_self
def Hm:=@Array.getElem?_eq_some_iff
def Hn:=@List.mem_filter
def Ho:=@PySem.wpAny_holding
def Hq:=@Nat.ne_of_gt
def Hr:=@Nat.zero_le
def Ht:=@PySem.Heap.get?_update_self
def Hu:=@List.getElem?_eq_none
def Hv:=@PySem.wpAny_setField_rec
def Hw:=@List.findIdx?_eq_some_iff_getElem
def Hx:=@List.length_eq_one_iff
def Hy:=@decide_eq_false
def Hz:=@PyProof.Rows.callWith_builtin1
def HA:=@Nat.lt_irrefl
def HB:=@Nat.le_succ
def HC:=@List.mem_of_getElem?
def HD:=@List.getElem?_mapIdx
def HE:=@bne_self_eq_false
def HF:=@Nat.lt_succ_of_lt
def HG:=@List.ext_getElem?
def HI:=@PySem.F.plainAttrs_list
def HJ:=@List.append_nil
def HK:=@PySem.wpAny_ite_split
def HL:=@Nat.le_of_lt
def HM:=@PySem.Heap.get?_update_other
def HN:=@List.length_take
def HP:=@decide_eq_true
def HQ:=@PySem.F.excBase_ValueError
def HR:=@PySem.wpAny_seqItems
def HS:=@Nat.le_of_ble_eq_true
def HU:=@List.drop_eq_getElem_cons
def HV:=@Ne.symm
def HW:=@PySem.codeAny_call_builtin
def HX:=@PySem.wpAny_storeSet_of
def HY:=@PySem.Around.under_plainId
def HZ:=@List.map_map
def H0:=@List.map_congr_left
def Ia:=@Nat.lt_succ_self
def Ib:=@List.length_drop
def Ie:=@List.isEmpty_iff
def Ig:=@List.mem_filterMap
def Ih:=@PySem.Calls.spliced_cons
def Ii:=@List.contains_cons
def Ij:=@PySem.W.looks_findIn
def Ik:=@PySem.F.called_set
def Il:=@List.take_of_length_le
def Io:=@List.drop_of_length_le
def Ir:=@List.map_append
def Iu:=@PySem.codeAny_builtin
def Iv:=@PySem.W.methodCall_KW
def Iw:=@List.length_filter_le
def Ix:=@PySem.Calls.spliced_nil
def Iy:=@Bool.not_eq_true'
def Iz:=@PySem.Heap.get?_none_of_le
def IA:=@True.intro
def IB:=@List.contains_append
def IC:=@List.getD_eq_getElem?_getD
def ID:=@List.mem_of_mem_take
def IE:=@Prod.mk.inj
def IF:=@PySem.codeAny_mono
def IG:=@Array.toList_inj
def II:=@PySem.wpAny_isInstance
def IJ:=@List.perm_middle
def IK:=@List.getElem?_append_left
def IL:=@List.getElem?_zip_eq_some
def IM:=@Array.getElem?_eq_getElem
def IN:=@PySem.W.callWith_K0
def IP:=@Int.toNat_of_nonneg
def IQ:=@PySem.F.args_tuple_add_2
def IR:=@Bool.not_true
def IS:=@List.map_take
def IT:=@PySem.wpAny_passesOwn
def IU:=@PySem.W.callWith_K
def IV:=@List.findIdx?_cons
def IW:=@Int.natCast_nonneg
def IX:=@PySem.F.entry_tuple_add
def IY:=@PySem.wpAny_of_eq
def IZ:=@List.length_eq_zero_iff
def I0:=@PyProof.Rows.F.plain_set_update_loop
def Ja:=@Nat.ne_of_lt
def Jb:=@PySem.wpAny_pyIter_list
def Jc:=@PySem.F.slot_tuple_add
def Jd:=@Bool.or_true
def Je:=@PySem.Heap.SameBut.refl
def Jf:=@PySem.wpAny_setEpoch_of
def Jh:=@List.append_assoc
def Ji:=@Array.getElem?_eq_none
def Jj:=@PySem.F.slot_tuple_iterator_next
def Jk:=@Array.getElem?_setIfInBounds_ne
def Jl:=@List.length_replicate
def Jm:=@PySem.Obj.isFreed_of_fields
def Jn:=@PySem.builtinLookup_eq_fast
def Jo:=@Array.getElem?_toList
def Jp:=@Nat.ble_eq_true_of_le
def Jq:=@List.eq_replicate_iff
def Jr:=@PySem.wpAny_askSetting
def Js:=@PySem.wpAny_onRaise
def Jt:=@PySem.wpAny_standAt
def Ju:=@List.map_drop
def Jv:=@List.mem_of_mem_drop
def Jw:=@PySem.wpAny_updateSeq_pair
def Jx:=@PySem.wpAny_execs_nil
def Jz:=@Bool.eq_iff_iff
def JA:=@PySem.F.slot_zip_next
def JB:=@PySem.W.plainGet_of
def JC:=@PySem.wpAny_setEntries_of
def JD:=@List.getElem?_range
def JE:=@Nat.le_of_eq
def JF:=@PySem.wpAny_typeOf
def JG:=@PySem.W.kitx_tuple
def JH:=@PySem.wpAny_call
def JI:=@PySem.wpAny_setField
def JJ:=@PySem.Obj.data_mapFields
def JK:=@PySem.Code.quiet_builtin
def JL:=@PySem.isSubtype_type
def JM:=@PySem.intKind_is
def JN:=@PySem.wpAny_rule
def JO:=@List.length_mapIdx
def JP:=@Int.emod_lt_of_pos
def JQ:=@PySem.W.kitx_list
def JR:=@Array.toList_push
def JS:=@List.filter_congr
def JT:=@List.getElem?_set
def JU:=@Bool.false_or
def JV:=@PySem.wpAny_attempt
def JW:=@PySem.call_meets
def bQ:=@Hk
def bZ:=@Hl
def cP:=@List.mem_append_right
def fj:=@List.mem_append_left
def bH:=@PySem.Heap.get?_push_of_some
def dm:=@PySem.Heap.get?_push_size
def bO:=@PySem.Heap.lt_size
def bI:=@Nat.le_refl
def ce:=@Nat.le_trans
def d6:=@Nat.lt_of_lt_of_le
def di:=@Ja
def cG:=@Option.some.inj
def aM:=@PySem.wpAny_bind
def aV:=@PySem.wpAny_pure
theorem cH{α:Type}{a b:α}{l:List α}:a∈b::l->a=b\/a∈l:=GL.mp
theorem dN{α:Type}{a:α}{s t:List α}:a∈s++t->a∈s\/a∈t:=GU.mp
theorem cX{α β:Type}{b:β}{x:Option α}{f:α->Option β}:x.bind f=some b->∃a,x=some a/\f a=some b:=Option.bind_eq_some_iff.mp
theorem dO{α β:Type}{b:β}{x:Option α}{f:α->β}:x.map f=some b->∃a,x=some a/\f a=b:=Option.map_eq_some_iff.mp
theorem eQ{α:Type}{i:Nat}{a:α}{l:List α}:l[i]?=some a->∃h:i<l.length,l[i]=a:=List.getElem?_eq_some_iff.mp
theorem eB{α:Type}{p:α->Bool}{l:List α}:l.all p=true->∀x∈l,p x=true:=List.all_eq_true.mp
theorem fH{α β:Type}{b:β}{l:List α}{f:α->β}:b∈l.map f->∃a,a∈l/\f a=b:=List.mem_map.mp
abbrev bo:=PySem.W.Frag
section
abbrev _root_.aJ:=Option PySem.Expr
abbrev _root_.aH:=List PySem.Stmt
abbrev _root_.aF:=Option PySem.Addr
abbrev _root_.aE:=Option Nat
abbrev _root_.aC:=Array PySem.Value
abbrev _root_.aB:=Option PySem.Value
abbrev _root_.av:=List PySem.Expr
abbrev _root_.au:=List PySem.Str
abbrev _root_.ar:=List PySem.Value
abbrev _root_.ao:=List PySem.Addr
abbrev _root_.al:=List Int
abbrev _root_.ak:=List Nat
abbrev _root_.aj:=List (PySem.Str×PySem.Value)
abbrev _root_.ai:=List (PySem.Str×PySem.Addr)
abbrev _root_.ah:=List (PySem.Addr×PySem.Obj)
abbrev _root_.af:=List ak
abbrev _root_.ac:=List al
namespace L2
open PySem PySem.Spec PyProof.Rows
noncomputable abbrev ft:=Sum Int Str
noncomputable def jV:ft->Value->Bool
 | .inl k,v=>Value.isInt k v
 | .inr x,v=>Value.isStrOf x v
noncomputable def qP (w:World):ft->Int
 | .inl k=>hashInt k
 | .inr x=>hashStr w x
theorem iG:∀{k:ft} {v:Value},jV k v=true->(∃i t,k=Sum.inl i/\v=Value.int i t)\/(∃x t,k=Sum.inr x/\v=Value.str x t)
 | .inl i,v,h=>by
  obtain⟨t,e⟩:=Value.isInt_shape (k:=i) (v:=v) h;exact .inl ⟨i,t,rfl,e⟩
 | .inr x,v,h=>by
  obtain⟨t,e⟩:=Value.isStrOf_shape (x:=x) (v:=v) h;exact .inr ⟨x,t,rfl,e⟩
def EJ (a b:Int):decide ((Sum.inl a:ft)=Sum.inl b)=(a == b):=by
 by_cases e:a=b
 .subst e; simp
 .have h:¬(Sum.inl a:ft)=Sum.inl b:=λq=>e (Sum.inl.inj q);rw[Hy h];exact (Hf.mpr e).symm
def FD (a b:Str):decide ((Sum.inr a:ft)=Sum.inr b)=decide (a=b):=by
 by_cases e:a=b
 .subst e; simp
 .have h:¬(Sum.inr a:ft)=Sum.inr b:=λq=>e (Sum.inr.inj q);rw[Hy h,Hy e]
def Cd (a:Int)(b:Str):decide ((Sum.inl a:ft)=Sum.inr b)=false:=Hy (λq=>nomatch q)
def yh (a:Str)(b:Int):decide ((Sum.inr a:ft)=Sum.inl b)=false:=Hy (λq=>nomatch q)
noncomputable def gv (prog:Program)(w:World):PySem.KeyKind prog w ft where
 is:=jV
 hash:=qP w
 inj:=λv a b ha hb=>by
  rcases iG ha with ⟨i,t,rfl,rfl⟩ | ⟨x,t,rfl,rfl⟩
  .rcases iG hb with ⟨j,u,rfl,e⟩ | ⟨y,u,rfl,e⟩
   .injection e with e1 _; rw[e1]
   .exact nomatch e
  .rcases iG hb with ⟨j,u,rfl,e⟩ | ⟨y,u,rfl,e⟩
   .exact nomatch e
   .injection e with e1 _; rw[e1]
 byValue:=λk v h=>by
  rcases iG h with ⟨i,t,rfl,rfl⟩ | ⟨x,t,rfl,rfl⟩ <;> rfl
 pyHash:=λhv h=>by
  rcases iG hv with ⟨i,t,rfl,rfl⟩ | ⟨x,t,rfl,rfl⟩
  .exact wpAny_pyHash_int h
  .exact wpAny_pyHash_str h
 eqBool:=λhu hv h=>by
  rcases iG hu with ⟨i,t,rfl,rfl⟩ | ⟨x,t,rfl,rfl⟩
  .rcases iG hv with ⟨j,u,rfl,rfl⟩ | ⟨y,u,rfl,rfl⟩
   .rw[EJ] at h; exact wpAny_eqBool_int h
   .rw[Cd] at h; exact SeqAt.EqAt.int_str i t y u _ _ _ _ h
  .rcases iG hv with ⟨j,u,rfl,rfl⟩ | ⟨y,u,rfl,rfl⟩
   .rw[yh] at h; exact SeqAt.EqAt.str_int x t j u _ _ _ _ h
   .rw[FD] at h; exact wpAny_eqBool_str h
 «strs»:=λk x t v h=>by
  rcases iG h with ⟨i,u,rfl,e⟩ | ⟨y,u,rfl,e⟩
  .exact nomatch e
  .injection e with e1 _;subst e1;cases v <;> rfl
end L2
namespace L2
open PySem PySem.Spec PyProof.Rows
inductive V where
 | non | bl (b:Bool) | int (i:Int) | str (x:Str) | byt (b:Array UInt8) | flt (b:UInt64) | ref (a:Addr) | ty (n:String)
 deriving DecidableEq
abbrev _root_.aw:=List V
noncomputable def RelV:V->Value->Prop
 | .non,u=>u=Value.none
 | .bl b,u=>u=Value.bool b
 | .int i,u=>∃t,u=Value.int i t
 | .str x,u=>∃t,u=Value.str x t
 | .byt b,u=>∃t,u=Value.bytes b t
 | .flt b,u=>∃t,u=Value.float b t
 | .ref a,u=>u=Value.ref a
 | .ty n,u=>u=Value.type n
abbrev Vals:aw->ar->Prop:=Paired RelV
theorem Vals.length {xs:aw}{us:ar}(r:Vals xs us):xs.length=us.length:=Paired.length r
theorem Vals.get:∀{xs:aw} {us:ar} {i:Nat} {x:V},Vals xs us->xs[i]? = some x->∃u,us[i]? = some u/\RelV x u
 | _,_,_,_,.nil,e=>by simp at e
 | _,_,0,_,.cons r _,e=>by simp at e; subst e; exact⟨_,rfl,r⟩
 | _,_,i+1,x,.cons _ t,e=>by
  obtain⟨u,h1,h2⟩:=Vals.get (i:=i) (x:=x) t (by simpa using e);exact⟨u,by simpa using h1,h2⟩
theorem Vals.set {x:V}{u:Value}(r:RelV x u):∀{xs:aw} {us:ar} (i:Nat),Vals xs us->Vals (xs.set i x) (us.set i u)
 | _,_,_,.nil=>.nil
 | _,_,0,.cons _ t=>.cons r t
 | _,_,i+1,.cons q t=>.cons q (Vals.set r i t)
theorem Vals.append:∀{xs ys:aw} {us ws:ar},Vals xs us->Vals ys ws->Vals (xs++ys) (us++ws)
 | _,_,_,_,.nil,s=>s
 | _,_,_,_,.cons r t,s=>.cons r (Vals.append t s)
theorem Vals.take:∀{xs:aw} {us:ar} (n:Nat),Vals xs us->Vals (xs.take n) (us.take n)
 | _,_,0,_=>.nil
 | _,_,_+1,.nil=>.nil
 | _,_,n+1,.cons r t=>.cons r (Vals.take n t)
theorem Vals.drop:∀{xs:aw} {us:ar} (n:Nat),Vals xs us->Vals (xs.drop n) (us.drop n)
 | _,_,0,r=>r
 | _,_,_+1,.nil=>.nil
 | _,_,n+1,.cons _ t=>Vals.drop n t
noncomputable def RelO:Option V->aB->Prop
 | some v,some u=>RelV v u
 | none,none=>True
 | _,_=>False
def KV {κ:Type}:List (κ×V)->List (κ×Value)->Prop:=Paired λ(p:κ×V) (q:κ×Value)=>p.1=q.1/\RelV p.2 q.2
noncomputable def kV:ft->V
 | .inl i=>.int i
 | .inr x=>.str x
inductive HO where
 | lst (xs:aw)
 | tup (xs:aw)
 | dK (kvs:List (ft×V)) | dT (kvs:List (List ft×V))
 | set (S:Int->Bool) (n:Nat)
 | ins (C dx:Addr) (fs:List (Str×V))
 | own (x:Addr)
 | exc (C:Addr) (nw:Bool) (fs:List (Str×V))
 | xd (fs:List (Str×V))
 | met (f x:Addr)
 | rng (lo hi:Int)
 | frz (o:Obj) (u:HO)
 | tbl (ps:aC)
 | ext (φ:Heap->Prop)
noncomputable abbrev Hp:=Addr->Option HO
noncomputable def upd (H:Hp)(a:Addr)(o:HO):Hp:=λb=>if b=a then some o else H b
def cm {H:Hp}{a:Addr}{o:HO}:upd H a o a=some o:=by unfold upd; rw[if_pos rfl]
def bP {H:Hp}{a b:Addr}{o:HO}(h:b≠a):upd H a o b=H b:=by unfold upd; rw[if_neg h]
def zp {H:Hp}{a:Addr}{o u:HO}:upd (upd H a o) a u=upd H a u:=by
 funext b; unfold upd; split <;> rfl
def mw {H:Hp}{a b:Addr}{o:HO}(h:H a=some o)(h':H b=none):a≠b:=by
 intro e; subst e; rw[h] at h'; cases h'
section
variable (P:Program)(w:World)
def TupN (h:Heap)(a:Addr)(items:aC):Prop:=∃o,h.get? a=some o/\o.cls=.type "tuple" /\ (∃n,o.data=.seq items n)/\o.dict=none
def TupN.tup {h:Heap}{a:Addr}{items:aC}(x:TupN h a items):IsTup h a items:=let ⟨o,e,c,d,_⟩:=x; ⟨o,e,c,d⟩
def TupN.new (h:Heap)(items:aC):TupN (h.push { cls:=.type "tuple",data:=.seq items }) h.objs.size items:=⟨_,dm _ rfl,rfl,⟨_,rfl⟩,rfl⟩
noncomputable def ObjOk (H:Hp)(h:Heap)(a:Addr):HO->Prop
 | .lst xs=>xs.length<=sizeLine/\∃(its:ar) (n:Nat),Vals xs its/\h.get? a=some { cls:=.type "list",data:=.seq its.toArray n }
 | .tup xs=>xs.length<=sizeLine/\∃its:ar,Vals xs its/\TupN h a its.toArray
 | .dK kvs=>kvs.length<=sizeLine/\(a == sysModules)=false/\∃vs,KV kvs vs/\h.DictOf (gv P w) a vs
 | .dT kvs=>kvs.length<=sizeLine/\(a == sysModules)=false/\∃xs:List (List ft×Addr×Value),
   Paired (λ(p:List ft×V) (q:List ft×Addr×Value)=>p.1=q.1/\H q.2.1=some (.tup (p.1.map kV))/\RelV p.2 q.2.2) kvs xs /\
   ∃o es ep,h.get? a=some o/\o.ExactDict/\o.data=.dict es ep/\es.toList=xs.map (entryOfKey (tupleKind (gv P w)))/\(xs.map (·.1)).Nodup
 | .set S n=>h.SetOf (intKind P w) a S n
 | .ins C dx fs=>H dx=some (.own a)/\fs.length<=1000/\dx≠a/\h.get? a=some (PySem.W.instObj C dx) /\
   ∃mA,h.Ns1 dx mA/\(∀f,RelO (fs.lookup f) (mA f))/\PySem.Within mA (fs.map (·.1))
 | .own _=>∃o,h.get? a=some o
 | .exc C nw fs=>fs.length<=1000/\∃(o:Obj) (vs:aC),h.get? a=some o/\o.cls=.ref C/\o.data=.fields vs/\vs.size=6/\(nw=true->vs[1]? = some Value.none) /\
   ((o.dict=none/\fs=[])\/∃dx,o.dict=some dx/\H dx=some (.own a)/\dx≠a/\∃mA,h.Ns1 dx mA/\(∀f,RelO (fs.lookup f) (mA f))/\PySem.Within mA (fs.map (·.1)))
 | .xd fs=>∃mA,h.Ns1 a mA/\∀f,RelO (fs.lookup f) (mA f)
 | .rng lo hi=>∃t u v,h.get? a=some { cls:=.type "range",data:=.fields #[.int lo t,.int hi u,.int 1 v] }
 | .frz o u=>h.get? a=some o/\ObjOk H h a u
 | .tbl ps=>h.get? a=some { cls:=.none,data:=.fields ps }
 | .met f x=>h.get? a=some (PySem.W.methodObj (.ref f) (.ref x))
 | .ext φ=>φ h/\(∃o,h.get? a=some o)/\∀h1 h2:Heap,φ h1->(∀o,h1.get? a=some o->h2.get? a=some o)->φ h2
def HOk (H:Hp)(h:Heap):Prop:=∀a o,H a=some o->ObjOk P w H h a o
end
section
variable {P:Program}{w:World}{H H':Hp}{h h':Heap}{a:Addr}{o:HO}
theorem ObjOk.lt (x:ObjOk P w H h a o):a<h.objs.size:=by
 cases o with
 | lst xs=>obtain⟨_,_,_,_,e⟩:=x; exact bO e
 | tup xs=>obtain⟨_,_,_,p⟩:=x; exact p.tup.lt
 | dK kvs=>obtain⟨_,_,_,_,o,_,_,e,_⟩:=x; exact bO e
 | dT kvs=>obtain⟨_,_,_,_,o,_,_,e,_⟩:=x; exact bO e
 | set S n=>obtain⟨o,_,_,_,e,_⟩:=x; exact bO e
 | ins C dx fs=>obtain⟨_,_,_,e,_⟩:=x; exact bO e
 | own y=>obtain⟨_,e⟩:=x; exact bO e
 | exc C nw fs=>obtain⟨_,_,_,e,_⟩:=x; exact bO e
 | xd fs=>obtain⟨_,⟨_,_,_,e,_⟩,_⟩:=x; exact bO e
 | rng lo hi=>obtain⟨_,_,_,e⟩:=x; exact bO e
 | frz ob u=>obtain⟨e,_⟩:=x; exact bO e
 | tbl ps=>exact bO (show h.get? a=some _ from x)
 | met f y=>exact bO (show h.get? a=some _ from x)
 | ext φ=>obtain⟨_,⟨_,e⟩,_⟩:=x; exact bO e
theorem Paired.mapP {α β:Type}{F G:α->β->Prop}:∀{l₁:List α} {l₂:List β},Paired F l₁ l₂->(∀a b,F a b->G a b)->Paired G l₁ l₂
 | _,_,.nil,_=>.nil
 | _,_,.cons r t,f=>.cons (f _ _ r) (Paired.mapP t f)
def ObjOk.stay (x:ObjOk P w H h a o)(k:∀b u,(b=a\/H b=some (.own a))->h.get? b=some u->h'.get? b=some u)
  (ho:∀b,H b=some (.own a)->H' b=some (.own a))(ht:∀b xs,H b=some (.tup xs)->H' b=some (.tup xs)):ObjOk P w H' h' a o:=by
 induction o with
 | lst xs=>obtain⟨z,its,n,r,e⟩:=x; exact⟨z,its,n,r,k _ _ (.inl rfl) e⟩
 | tup xs=>obtain⟨z,its,r,ob,e,c⟩:=x; exact⟨z,its,r,ob,k _ _ (.inl rfl) e,c⟩
 | dK kvs=>obtain⟨z,y,vs,r,ob,es,ep,e,c⟩:=x; exact⟨z,y,vs,r,ob,es,ep,k _ _ (.inl rfl) e,c⟩
 | dT kvs=>
  obtain⟨z,y,xs,r,ob,es,ep,e,c⟩:=x;exact⟨z,y,xs,Paired.mapP r λp q z=>⟨z.1,ht _ _ z.2.1,z.2.2⟩,ob,es,ep,k _ _ (.inl rfl) e,c⟩
 | set S n=>obtain⟨ob,es,ep,t,e,c⟩:=x; exact⟨ob,es,ep,t,k _ _ (.inl rfl) e,c⟩
 | ins C dx fs=>
  obtain⟨d,z,ne,e,mA,⟨od,es,ep,e2,c⟩,r⟩:=x;exact⟨ho _ d,z,ne,k _ _ (.inl rfl) e,mA,⟨od,es,ep,k _ _ (.inr d) e2,c⟩,r⟩
 | own y=>obtain⟨ob,e⟩:=x; exact⟨ob,k _ _ (.inl rfl) e⟩
 | exc C nw fs=>
  obtain⟨z,o,vs,e,c1,c2,c3,c4,q⟩:=x;refine⟨z,o,vs,k _ _ (.inl rfl) e,c1,c2,c3,c4,?_⟩;rcases q with q | ⟨dx,d1,d2,d3,mA,⟨od,es,ep,e2,c⟩,r⟩
  .exact .inl q
  .exact .inr ⟨dx,d1,ho _ d2,d3,mA,⟨od,es,ep,k _ _ (.inr d2) e2,c⟩,r⟩
 | xd fs=>obtain⟨mA,⟨od,es,ep,e,c⟩,r⟩:=x; exact⟨mA,⟨od,es,ep,k _ _ (.inl rfl) e,c⟩,r⟩
 | rng lo hi=>obtain⟨t,u,v,e⟩:=x; exact⟨t,u,v,k _ _ (.inl rfl) e⟩
 | frz ob u ih=>obtain⟨e,q⟩:=x; exact⟨k _ _ (.inl rfl) e,ih q⟩
 | tbl ps=>
  have e:h.get? a=some { cls:=.none,data:=.fields ps }:=x;show h'.get? a=some { cls:=.none,data:=.fields ps };exact k a _ (.inl rfl) e
 | met f y=>
  have e:h.get? a=some (PySem.W.methodObj (.ref f) (.ref y)):=x;show h'.get? a=some (PySem.W.methodObj (.ref f) (.ref y));exact k a _ (.inl rfl) e
 | ext φ=>obtain⟨p,⟨o,e⟩,st⟩:=x; exact⟨st _ _ p λo q=>k _ _ (.inl rfl) q,⟨o,k _ _ (.inl rfl) e⟩,st⟩
theorem HOk.lt (x:HOk P w H h)(e:H a=some o):a<h.objs.size:=(x a o e).lt
def HOk.fresh (x:HOk P w H h)(e:h.objs.size<=a):H a=none:=by
 cases q:H a with
 | none=>rfl
 | some u=>exact absurd (d6 (x.lt q) e) (HA _)
def HOk.kept (x:HOk P w H h)(k:∀b u,h.get? b=some u->h'.get? b=some u):HOk P w H h':=λa o e=>
 (x a o e).stay (λb u _ q=>k b u q) (λ_ q=>q) λ_ _ q=>q
def HOk.laid (x:HOk P w H h)(k:∀b u,h.get? b=some u->h'.get? b=some u)(hp:h.objs.size<=a)(new:ObjOk P w (upd H a o) h' a o):HOk P w (upd H a o) h':=λb u e=>by
 have hn:=x.fresh hp;by_cases hb:b=a
 .subst hb; rw[cm] at e; cases e; exact new
 .rw[bP hb] at e;exact (x b u e).stay (λc v _ q=>k c v q) (λc q=>by rw[bP (mw q hn)]; exact q) λc xs q=>by rw[bP (mw q hn)]; exact q
end
def Rd (H:Hp)(a:Addr)(u:HO):Prop:=H a=some u\/∃o,H a=some (.frz o u)
def Rd.ok {P:Program}{w:World}{H:Hp}{h:Heap}{a:Addr}{u:HO}(r:Rd H a u)(x:HOk P w H h):ObjOk P w H h a u:=by
 rcases r with r | ⟨o,r⟩
 .exact x a u r
 .obtain⟨_,q⟩:=x a _ r;exact q
noncomputable def oB:Option HO->Prop
 | some (.lst _)=>True
 | some (.dK _)=>True
 | some (.dT _)=>True
 | some (.set _ _)=>True
 | some (.ins _ _ _)=>True
 | some (.exc _ _ _)=>True
 | some (.ext _)=>True
 | _=>False
section
variable {P:Program}{w:World}{H:Hp}{h h':Heap}{x e:Addr}{o':HO}
def HOk.write (ok:HOk P w H h)(mu:oB (H x))(he:e=x\/H e=some (.own x))(k:∀b u,b≠e->h.get? b=some u->h'.get? b=some u)(heo:∃u,h'.get? e=some u)
  (new:ObjOk P w (upd H x o') h' x o'):HOk P w (upd H x o') h':=λb u q=>by
 have nown:∀c y,H c=some (.own y)->c≠x:=λc y r z=>by subst z; rw[r] at mu; exact mu
 have ntup:∀c xs,H c=some (.tup xs)->c≠x:=λc xs r z=>by subst z; rw[r] at mu; exact mu
 by_cases hb:b=x
 .subst hb; rw[cm] at q; cases q; exact new
 .rw[bP hb] at q;by_cases hbe:b=e
  .have q':H b=some (.own x):=by
    rcases he with z | z
    .exact absurd (hbe.trans z) hb
    .rw[hbe]; exact z
   rw[q] at q'; cases q';obtain⟨v,hv⟩:=heo;exact⟨v,by rw[hbe]; exact hv⟩
  .refine (ok b u q).stay (λc v hc r=>k c v ?_ r) (λc r=>by rw[bP (nown c b r)]; exact r) λc xs r=>by rw[bP (ntup c xs r)]; exact r
   rcases hc with rfl | hc
   .exact hbe
   .rintro rfl;rcases he with z | z
    .exact nown c b hc z
    .rw[hc] at z; cases z; exact hb rfl
end
structure Un (fs ex:ao)(H H':Hp)(h h':Heap):Prop where
 keep:∀b o,h.get? b=some o->H b=none->b∉fs->b∉ex->h'.get? b=some o
 slot:∀b o,h.get? b=some o->H b=none->b∈fs->b∉ex->∃sl,h'.get? b=some { o with slots:=sl }
 free:∀b o,h.get? b=some o->H b=none->b∉ex->H' b=none
 there:∀b o,h.get? b=some o->b∉ex->∃o',h'.get? b=some o'
 tups:∀b xs,H b=some (.tup xs)->H' b=some (.tup xs)
 frzs:∀b o u,H b=some (.frz o u)->H' b=some (.frz o u)
 tbls:∀b ps,H b=some (.tbl ps)->∃more,H' b=some (.tbl (ps++more))
section
variable {fs fs' ex ex':ao}{H H1 H2:Hp}{h h1 h2 h':Heap}{a x e:Addr}{o:HO}
def Un.any (u:Un fs ex H H1 h h1){b:Addr}{ob:Obj}(q:h.get? b=some ob)(n:H b=none)(hx:b∉ex):∃sl,h1.get? b=some { ob with slots:=sl }:=by
 by_cases hb:b∈fs
 .exact u.slot b ob q n hb hx
 .exact⟨ob.slots,u.keep b ob q n hb hx⟩
def Un.trans (a:Un fs ex H H1 h h1)(b:Un fs ex H1 H2 h1 h2):Un fs ex H H2 h h2 where
 keep:=λc ob q n hc hx=>b.keep c ob (a.keep c ob q n hc hx) (a.free c ob q n hx) hc hx
 slot:=λc ob q n hc hx=>by
  obtain⟨sl,e1⟩:=a.slot c ob q n hc hx;obtain⟨sl',e2⟩:=b.slot c _ e1 (a.free c ob q n hx) hc hx;exact⟨sl',e2⟩
 free:=λc ob q n hx=>by
  obtain⟨o',e1⟩:=a.there c ob q hx;exact b.free c o' e1 (a.free c ob q n hx) hx
 there:=λc ob q hx=>by
  obtain⟨o',e1⟩:=a.there c ob q hx;exact b.there c o' e1 hx
 tups:=λc xs q=>b.tups c xs (a.tups c xs q)
 frzs:=λc ob xs q=>b.frzs c ob xs (a.frzs c ob xs q)
 tbls:=λc ps q=>by
  obtain⟨m1,e1⟩:=a.tbls c ps q;obtain⟨m2,e2⟩:=b.tbls c _ e1;exact⟨m1++m2,by rw[e2,Array.append_assoc]⟩
def Un.kept (k:∀b u,h.get? b=some u->h'.get? b=some u):Un fs ex H H h h':=
 ⟨λb ob q _ _ _=>k b ob q,λb ob q _ _ _=>⟨ob.slots,k b ob q⟩,λ_ _ _ n _=>n,λb ob q _=>⟨ob,k b ob q⟩,λ_ _ q=>q,λ_ _ _ q=>q,λ_ ps q=>⟨#[],by rw[q]; simp⟩⟩
def Un.refl:Un fs ex H H h h:=Un.kept λ_ _ q=>q
def Un.laid (k:∀b u,h.get? b=some u->h'.get? b=some u)(hp:h.objs.size<=a)(hn:H a=none):Un fs ex H (upd H a o) h h' where
 keep:=λb u q _ _ _=>k b u q
 slot:=λb u q _ _ _=>⟨u.slots,k b u q⟩
 free:=λb u q n _=>by rw[bP (Ja (Nat.lt_of_lt_of_le (Heap.lt_size q) hp))]; exact n
 there:=λb u q _=>⟨u,k b u q⟩
 tups:=λb xs q=>by rw[bP (mw q hn)]; exact q
 frzs:=λb u xs q=>by rw[bP (mw q hn)]; exact q
 tbls:=λb ps q=>⟨#[],by rw[bP (mw q hn),q]; simp⟩
def Un.write (mu:oB (H x))(he:e=x\/H e=some (.own x))(k:∀b u,b≠e->h.get? b=some u->h'.get? b=some u)(heo:∃u,h'.get? e=some u):Un fs ex H (upd H x o) h h':=by
 have hx:∀b,H b=none->b≠x:=λb n z=>by subst z; rw[n] at mu; exact mu
 have hb:∀b,H b=none->b≠e:=λb n z=>by
  subst z;rcases he with r | r
  .exact hx b n r
  .rw[n] at r; cases r
 have hm:∀b u,H b=some u->¬oB (some u)->b≠x:=λb u q nm z=>by subst z; rw[q] at mu; exact nm mu
 refine⟨λb u q n _ _=>k b u (hb b n) q,λb u q n _ _=>⟨u.slots,k b u (hb b n) q⟩,λb u q n _=>by rw[bP (hx b n)]; exact n,λb u q _=>?_,
  λb xs q=>by rw[bP (hm b _ q λz=>z)]; exact q,λb u xs q=>by rw[bP (hm b _ q λz=>z)]; exact q,λb ps q=>⟨#[],by rw[bP (hm b _ q λz=>z),q]; simp⟩⟩
 by_cases hbe:b=e
 .subst hbe; exact heo
 .exact⟨u,k b u hbe q⟩
end
noncomputable def oM (h:Heap)(H:Hp):ao:=(List.range h.objs.size).filter λa=>(H a).isSome
noncomputable def fg (h:Heap)(H:Hp):Heap:=PySem.W.hideAll h (oM h H)
def BD (h:Heap)(H:Hp):(fg h H).objs.size=h.objs.size:=PySem.W.hideAll_size _ _
def FM {h:Heap}{H:Hp}{b:Addr}{o:Obj}(e:h.get? b=some o)(n:H b=none):(fg h H).get? b=some o:=
 PySem.W.hideAll_get _ e λhm=>by
  have q:(H b).isSome=true:=(Hn.mp hm).2;rw[n] at q; simp at q
def FP {h:Heap}{H:Hp}{b:Addr}{o:Obj}(e:(fg h H).get? b=some o):h.get? b=some o/\H b=none:=by
 have e':h.get? b=some o:=PySem.W.of_hideAll (oM h H) e;refine⟨e',?_⟩;cases q:H b with
 | none=>rfl
 | some x=>
  have hm:b∈oM h H:=Hn.mpr ⟨G1.mpr (bO e'),by simp[q]⟩;have z:(fg h H).get? b=none:=PySem.W.hideAll_none (oM h H) hm;rw[z] at e; cases e
noncomputable def iH (g h:Heap)(L:Addr):ah:=(List.range h.objs.size).filterMap λa=>if a=L\/(g.get? a).isSome=true then none else (h.get? a).map λo=>(a,o)
noncomputable def rest (g h:Heap)(L d:Addr):ah:=(iH g h L).filter λp=>decide (p.1≠d)
end L2
namespace L2
open PySem PySem.Spec PyProof.Rows
structure Mod (K:bo)(mg:Str->aB)(base:Heap):Prop where
 kin:K.In base
 glob:base.Ns mainGlobals mg
 blt:∃mb,base.Ns builtinsNs mb/\∀x:Str,x ≠ "__name__" -> mb x=bootBuiltins x
 nolimit:base.NoLimit
structure Cx where
 prog:Program
 w:World
 K:bo
 mg:Str->aB
 base:Heap
 A:Around
 N:au
 s₀:Shared
 H₀:Hp
 env:Env
 outer:List Env
 stack:List Env
 ex:ao
 fn:Str->Bool
 calm:Bool
 pn:ah
 xe:Value->Shared->Prop
noncomputable def f9 (l:List Env):ao:=l.filterMap (·.frame)
noncomputable abbrev Cx.fs (X:Cx):ao:=f9 X.outer
def pF (sc:Scope)(x:Str):Prop:=sc.names.lookup x=some .local\/sc.names.lookup x=some .cell\/sc.names.lookup x=some .free
def Loc (sc:Scope)(x:Str):Prop:=sc.names.lookup x=some .local\/sc.names.lookup x=some .cell
def Look (env:Env)(h:Heap)(m:Str->aB)(x:Str)(u:Value):Prop:=
 (env.kindOf x=some .local/\m x=some u)\/((env.kindOf x=some .cell\/env.kindOf x=some .free)/\∃c,env.cells.lookup x=some c/\h.IsCell c (some u))
structure Cx.Ok (X:Cx):Prop where
 mod:Mod X.K X.mg X.base
 kind:X.env.scope.kind=.function
 glob:X.env.globals=mainGlobals
 blt:X.env.builtins=builtinsNs
 above:X.s₀.heap.objs.size<=X.env.locals
 inj:∀x y c,X.env.cells.lookup x=some c->X.env.cells.lookup y=some c->x=y
 has:∀x,(X.env.kindOf x=some .cell\/X.env.kindOf x=some .free)->∃c,X.env.cells.lookup x=some c
 cab:∀x c,X.fn x=true->X.env.cells.lookup x=some c->X.s₀.heap.objs.size<=c
 hd:X.calm=true->X.A.handled=none
 frames:X.A.frames=some X.stack
 stk:X.stack=X.outer\/(X.stack=X.env::X.outer/\X.env.frame=some X.env.locals)
 exf:∀b∈X.ex,b≠X.env.locals/\∀x c,X.env.cells.lookup x=some c->c≠b
 bs:∀b o,X.base.get? b=some o->X.s₀.heap.get? b=some o/\X.H₀ b=none
 bsz:X.base.objs.size<=X.s₀.heap.objs.size
 noex:∀b o,X.base.get? b=some o->b∉X.ex
 exfs:∀b∈X.ex,b∉X.fs
 funs:X.s₀.heap.FunFrames X.base X.outer
 frf:∀b∈X.fs,X.H₀ b=none
structure Inv (X:Cx)(pins:ah)(σ:List (Option V))(H:Hp)(s:Shared):Prop where
 ok:X.Ok
 os:s.os=X.s₀.os
 bare:AllBare s.gens
 base:Un X.fs X.ex X.H₀ H X.s₀.heap s.heap
 loc:∃m,s.heap.Ns X.env.locals m/\∀(i:Nat) (x:Str) (v:V),X.N[i]? = some x->σ[i]? = some (some v)->pF X.env.scope x->∃u,RelV v u/\Look X.env s.heap m x u
 cell:∀x c,X.env.cells.lookup x=some c->∃v,s.heap.IsCell c v
 free:H X.env.locals=none
 freeC:∀x c,X.env.cells.lookup x=some c->H c=none
 pin:∀p∈X.pn++pins,s.heap.get? p.1=some p.2/\H p.1=none/\p.1≠X.env.locals/\p.1∉X.fs/\∀v,p.2.data≠.cell v
 hok:HOk X.prog X.w H s.heap
 len:σ.length=X.N.length
section
variable {X:Cx}{pins:ah}{σ:List (Option V)}{H H':Hp}{s:Shared}{h':Heap}
def Cx.Ok.nofr (ok:X.Ok){b:Addr}{o:Obj}(e:X.base.get? b=some o):b∉X.fs:=λhb=>by
 have:=(ok.funs.mem hb).1;rw[e] at this; cases this
theorem Inv.bs (I:Inv X pins σ H s):∀b o,X.base.get? b=some o->s.heap.get? b=some o/\H b=none:=λb o e=>
 ⟨I.base.keep b o (I.ok.bs b o e).1 (I.ok.bs b o e).2 (I.ok.nofr e) (I.ok.noex b o e),I.base.free b o (I.ok.bs b o e).1 (I.ok.bs b o e).2 (I.ok.noex b o e)⟩
def Inv.bk (I:Inv X pins σ H s):∀b o,X.base.get? b=some o->s.heap.get? b=some o:=λb o e=>(I.bs b o e).1
theorem Inv.mod (I:Inv X pins σ H s):Mod X.K X.mg X.base:=I.ok.mod
def Inv.kIn (I:Inv X pins σ H s):X.K.In s.heap:=I.ok.mod.kin.keeps I.bk
theorem Inv.nolimit (I:Inv X pins σ H s):s.heap.NoLimit:=I.ok.mod.nolimit.keeps I.bk
theorem Inv.lt (I:Inv X pins σ H s):X.env.locals<s.heap.objs.size:=let ⟨_,hn,_⟩:=I.loc; hn.lt
def Inv.sz (I:Inv X pins σ H s):X.s₀.heap.objs.size<=s.heap.objs.size:=ce I.ok.above (HL I.lt)
def Inv.nofs (I:Inv X pins σ H s){a:Addr}(h:s.heap.objs.size<=a):a∉X.fs:=λhb=>by
 obtain⟨_,o,ho,_⟩:=I.ok.funs.mem hb;exact absurd (d6 (bO ho) (ce I.sz h)) (HA _)
def Inv.cne (I:Inv X pins σ H s):∀x c,X.env.cells.lookup x=some c->c≠X.env.locals:=λx c e z=>by
 obtain⟨v,o,ho,hd⟩:=I.cell x c e;obtain⟨m,⟨o',es,ep,ho',hd',_⟩,_⟩:=I.loc;rw[z,ho'] at ho; cases ho; rw[hd'] at hd; cases hd
theorem Inv.funs (I:Inv X pins σ H s):s.heap.FunFrames X.base X.outer:=by
 have all:∀(l:List Env),(∀b∈f9 l,b∈X.fs)->X.s₀.heap.FunFrames X.base l->s.heap.FunFrames X.base l:=by
  intro l;induction l with
  | nil=>intro _ _; trivial
  | cons env r ih=>
   intro hs hl;obtain⟨hk,⟨L,o,hf,hn,ho,hd⟩,hr⟩:=hl;have hL:L∈X.fs:=hs L (by unfold f9; rw[List.filterMap_cons,hf]; exact bZ);obtain⟨sl,e⟩:=I.base.slot L o ho (I.ok.frf L hL) hL λz=>I.ok.exfs L z hL;exact⟨hk,⟨L,_,hf,hn,e,hd⟩,ih (λb hb=>hs b (by unfold f9; rw[List.filterMap_cons,hf]; exact bQ _ hb)) hr⟩
 exact all X.outer (λ_ hb=>hb) I.ok.funs
theorem Inv.stack (I:Inv X pins σ H s):s.heap.FunFrames X.base X.stack:=by
 rcases I.ok.stk with e | ⟨e,hf⟩
 .rw[e]; exact I.funs
 .rw[e];obtain⟨m,hn,_⟩:=I.loc;refine .cons (by rw[I.ok.kind]; decide) hf hn ?_ I.funs;exact Iz (ce I.ok.bsz I.ok.above)
def Inv.stkSub (I:Inv X pins σ H s):∀b∈f9 X.stack,b∈X.env.locals::X.fs:=λb hb=>by
 rcases I.ok.stk with e | ⟨e,hf⟩
 .rw[e] at hb; exact bQ _ hb
 .rw[e] at hb;unfold f9 at hb;rw[List.filterMap_cons,hf] at hb;exact hb
def Inv.stkFree (I:Inv X pins σ H s):∀b∈f9 X.stack,H b=none:=λb hb=>by
 rcases cH (I.stkSub b hb) with e | hb
 .rw[e]; exact I.free
 .obtain⟨_,o,ho,_⟩:=I.ok.funs.mem hb;exact I.base.free b o ho (I.ok.frf b hb) λz=>I.ok.exfs b z hb
def Inv.step {g':Array GenState}{t':Nat}{d':Drawn}{ch:ao}(I:Inv X pins σ H s)
  (hch:∀b∈ch,(b∈X.ex\/X.s₀.heap.objs.size<=b)/\b≠X.env.locals/\(∀x c,X.env.cells.lookup x=some c->c≠b)/\∀p∈X.pn++pins,p.1≠b)
  (keep:∀b o,b≠X.env.locals->b∉X.fs->b∉ch->s.heap.get? b=some o->H b=none->h'.get? b=some o)
  (slot:∀b o,b≠X.env.locals->b∈X.fs->b∉ch->s.heap.get? b=some o->H b=none->∃sl,h'.get? b=some { o with slots:=sl })(free:∀b o,b∉ch->s.heap.get? b=some o->H b=none->H' b=none)
  (there:∀b o,b∉ch->s.heap.get? b=some o->∃o',h'.get? b=some o')
  (tups:∀b xs,H b=some (.tup xs)->H' b=some (.tup xs))(frzs:∀b o u,H b=some (.frz o u)->H' b=some (.frz o u))(tbls:∀b ps,H b=some (.tbl ps)->∃more,H' b=some (.tbl (ps++more)))
  (ns:∀m,s.heap.Ns X.env.locals m->h'.Ns X.env.locals m)(hok:HOk X.prog X.w H' h')(hg:AllBare g') :
  Inv X pins σ H' { s with heap:=h',gens:=g',drawn:=d',toks:=t' }:=by
 have neL:∀b o,X.s₀.heap.get? b=some o->b≠X.env.locals:=λb o e=>di (d6 (bO e) I.ok.above);have neC:∀b o,X.s₀.heap.get? b=some o->b∉X.ex->b∉ch:=λb o e hx hb=>by
  rcases (hch b hb).1 with z | z
  .exact hx z
  .exact absurd (d6 (bO e) z) (HA _)
 have cellK:∀x c,X.env.cells.lookup x=some c->∀v,s.heap.IsCell c v->h'.IsCell c v:=λx c e v ⟨o,ho,hd⟩=>by
  have nch:c∉ch:=λz=>(hch c z).2.2.1 x c e rfl;by_cases hc:c∈X.fs
  .obtain⟨sl,q⟩:=slot c o (I.cne x c e) hc nch ho (I.freeC x c e);exact⟨_,q,hd⟩
  .exact⟨o,keep c o (I.cne x c e) hc nch ho (I.freeC x c e),hd⟩
 refine⟨I.ok,I.os,hg,⟨λb o e n hb hx=>?_,λb o e n hb hx=>?_,λb o e n hx=>?_,λb o e hx=>?_,λb xs e=>tups b xs (I.base.tups b xs e),λb o xs e=>frzs b o xs (I.base.frzs b o xs e),λb ps e=>?_⟩,?_,λx c e=>?_,?_,λx c e=>?_,λp hp=>?_,hok,I.len⟩
 .exact keep b o (neL b o e) hb (neC b o e hx) (I.base.keep b o e n hb hx) (I.base.free b o e n hx)
 .obtain⟨sl,e1⟩:=I.base.slot b o e n hb hx;obtain⟨sl',e2⟩:=slot b _ (neL b o e) hb (neC b o e hx) e1 (I.base.free b o e n hx);exact⟨sl',e2⟩
 .obtain⟨o',e1⟩:=I.base.there b o e hx;exact free b o' (neC b o e hx) e1 (I.base.free b o e n hx)
 .obtain⟨o',e1⟩:=I.base.there b o e hx;exact there b o' (neC b o e hx) e1
 .obtain⟨m1,e1⟩:=I.base.tbls b ps e;obtain⟨m2,e2⟩:=tbls b _ e1;exact⟨m1++m2,by rw[e2,Array.append_assoc]⟩
 .obtain⟨m,hn,hl⟩:=I.loc;refine⟨m,ns m hn,λi x v e1 e2 e3=>?_⟩;obtain⟨u,r,l⟩:=hl i x v e1 e2 e3;refine⟨u,r,?_⟩;rcases l with l | ⟨k,c,e,z⟩
  .exact .inl l
  .exact .inr ⟨k,c,e,cellK x c e _ z⟩
 .obtain⟨v,z⟩:=I.cell x c e;exact⟨v,cellK x c e v z⟩
 .obtain⟨m,⟨o,_,_,ho,_⟩,_⟩:=I.loc;exact free _ o (λz=>(hch _ z).2.1 rfl) ho I.free
 .obtain⟨v,o,ho,hd⟩:=I.cell x c e;exact free c o (λz=>(hch c z).2.2.1 x c e rfl) ho (I.freeC x c e)
 .obtain⟨e,n,ne,nf,d⟩:=I.pin p hp;have nch:p.1∉ch:=λz=>(hch p.1 z).2.2.2 p hp rfl;exact⟨keep p.1 p.2 ne nf nch e n,free p.1 p.2 nch e n,ne,nf,d⟩
def Inv.un {t':Nat}(I:Inv X pins σ H s)(u:Un X.fs [] H H' s.heap h')(hok:HOk X.prog X.w H' h'):Inv X pins σ H' { s with heap:=h',toks:=t' }:=by
 obtain⟨m,⟨o,es,ep,ho,r⟩,_⟩:=id I.loc;obtain⟨sl,hL⟩:=u.any ho I.free (by simp);exact I.step (g':=s.gens) (d':=s.drawn) (ch:=[]) (λ_ z=>nomatch z) (λb o _ hb _ e n=>u.keep b o e n hb (by simp)) (λb o _ hb _ e n=>u.slot b o e n hb (by simp)) (λb o _ e n=>u.free b o e n (by simp)) (λb o _ e=>u.there b o e (by simp)) u.tups u.frzs u.tbls (λm' hm=>by
  obtain⟨o',es',ep',ho',r'⟩:=hm;rw[ho] at ho'; cases ho';exact⟨_,es',ep',hL,r'⟩) hok I.bare
def Inv.call {g':Array GenState}{t':Nat}{d':Drawn}{ch:ao}(I:Inv X pins σ H s)(u:Un (f9 X.stack) ch H H' s.heap h')(hok:HOk X.prog X.w H' h')(hg:AllBare g')
  (hch:∀b∈ch,(b∈X.ex\/X.s₀.heap.objs.size<=b)/\b≠X.env.locals/\(∀x c,X.env.cells.lookup x=some c->c≠b)/\∀p∈X.pn++pins,p.1≠b) :
  Inv X pins σ H' { s with heap:=h',gens:=g',drawn:=d',toks:=t' }:=by
 obtain⟨m,⟨o,es,ep,ho,r⟩,_⟩:=id I.loc;obtain⟨sl,hL⟩:=u.any ho I.free λz=>(hch _ z).2.1 rfl;exact I.step (ch:=ch) hch (λb o hL hb hc e n=>u.keep b o e n (λz=>(cH (I.stkSub b z)).elim hL hb) hc) (λb o _ _ hc e n=>u.any e n hc) (λb o hc e n=>u.free b o e n hc) (λb o hc e=>u.there b o e hc) u.tups u.frzs u.tbls (λm' hm=>by
  obtain⟨o',es',ep',ho',r'⟩:=hm;rw[ho] at ho'; cases ho';exact⟨_,es',ep',hL,r'⟩) hok hg
def Inv.turned {t':Nat}{it:Addr}(I:Inv X pins σ H s)(k:∀b o,b≠it->s.heap.get? b=some o->h'.get? b=some o)(hn:H it=none)(hL:it≠X.env.locals)
  (h1:it∈X.ex\/X.s₀.heap.objs.size<=it)(h2:∀x c,X.env.cells.lookup x=some c->c≠it)(h3:∀p∈X.pn++pins,p.1≠it):Inv X pins σ H { s with heap:=h',toks:=t' }:=by
 have nit:∀b u,H b=some u->b≠it:=λb u e z=>by rw[z,hn] at e; cases e
 refine I.step (g':=s.gens) (d':=s.drawn) (ch:=[it]) (λb hb=>?_) (λb o _ _ hc e _=>k b o (λz=>hc (by simp[z])) e) (λb o _ _ hc e _=>⟨o.slots,k b o (λz=>hc (by simp[z])) e⟩) (λ_ _ _ _ n=>n)
  (λb o hc e=>⟨o,k b o (λz=>hc (by simp[z])) e⟩) (λ_ _ e=>e) (λ_ _ _ e=>e) (λb ps e=>⟨#[],by rw[e]; simp⟩) (λm hm=>?_) (λb u e=>?_) I.bare
 .have e:b=it:=by simpa using hb
  subst e;exact⟨h1,hL,h2,h3⟩
 .obtain⟨o,es,ep,ho,r⟩:=hm;exact⟨o,es,ep,k _ o (HV hL) ho,r⟩
 .refine (I.hok b u e).stay (λc v hc q=>k c v ?_ q) (λ_ q=>q) λ_ _ q=>q;rcases hc with z | z
  .rw[z]; exact nit b u e
  .exact nit c _ z
def Inv.tok (I:Inv X pins σ H s)(t:Nat):Inv X pins σ H { s with toks:=t }:=I.un (h':=s.heap) (t':=t) Un.refl I.hok
theorem Inv.kept {t':Nat}(I:Inv X pins σ H s)(k:∀b u,s.heap.get? b=some u->h'.get? b=some u):Inv X pins σ H { s with heap:=h',toks:=t' }:=I.un (Un.kept k) (I.hok.kept k)
theorem Inv.laid {a:Addr}{o:HO}{t':Nat}(I:Inv X pins σ H s)(k:∀b u,s.heap.get? b=some u->h'.get? b=some u)(hp:s.heap.objs.size<=a)(new:ObjOk X.prog X.w (upd H a o) h' a o) :
  Inv X pins σ (upd H a o) { s with heap:=h',toks:=t' }:=I.un (Un.laid k hp (I.hok.fresh hp)) (I.hok.laid k hp new)
theorem Inv.write {x e:Addr}{o:HO}{t':Nat}(I:Inv X pins σ H s)(mu:oB (H x))(he:e=x\/H e=some (.own x))(k:∀b u,b≠e->s.heap.get? b=some u->h'.get? b=some u)(heo:∃u,h'.get? e=some u)
  (new:ObjOk X.prog X.w (upd H x o) h' x o):Inv X pins σ (upd H x o) { s with heap:=h',toks:=t' }:=I.un (Un.write mu he k heo) (I.hok.write mu he k heo new)
def Inv.pins_of {pins':ah}(I:Inv X pins σ H s)(h:∀p∈pins',s.heap.get? p.1=some p.2/\H p.1=none/\p.1≠X.env.locals/\p.1∉X.fs/\∀v,p.2.data≠.cell v):Inv X pins' σ H s:=
 ⟨I.ok,I.os,I.bare,I.base,I.loc,I.cell,I.free,I.freeC,λp hp=>(dN hp).elim (λz=>I.pin p (fj _ z)) (h p),I.hok,I.len⟩
def nX {N:au}(hN:N.Nodup){i j:Nat}{x:Str}(a:N[i]? = some x)(b:N[j]? = some x):i=j:=by
 obtain⟨h1,e1⟩:=eQ a;obtain⟨h2,e2⟩:=eQ b;exact (List.getElem_inj hN).mp (e1.trans e2.symm)
def zv {M:Model}{A:Around}{E:Value->Shared->Prop}{i:Nat}{x:Str}{v:V}{u:Value}{Q:Unit->Shared->Prop}(I:Inv X pins σ H s)(hN:X.N.Nodup)(hi:X.N[i]? = some x)(hx:Loc X.env.scope x)(r:RelV v u)
  (h:∀s',Inv X pins (σ.set i (some v)) H s'->(∃a,Heap.SameBut a s.heap s'.heap/\(a=X.env.locals\/X.env.cells.lookup x=some a))->Q () s')(hf:X.fn x=true\/X.env.scope.names.lookup x=some .local:=by first | exact .inl rfl | exact .inr rfl | assumption):wpAny M A (storeName X.env x u) Q E s:=by
 obtain⟨m,hn,hl⟩:=id I.loc;have hcls:(X.env.scope.kind == .class||(X.env.scope.kind == .module&&X.env.locals != X.env.globals))=false:=by rw[I.ok.kind]; rfl
 have hiσ:i < σ.length:=by rw[I.len]; exact (eQ hi).1
 have cne:=I.cne;have tracked:∀{a:Addr} {h':Heap},(∃o,s.heap.get? a=some o/\H a=none)->Heap.SameBut a s.heap h'->HOk X.prog X.w H h':=λ{a h'} ha hs b ob e=>by
  obtain⟨_,_,hfree⟩:=ha;refine (I.hok b ob e).stay (λc w' hc q=>(hs.2 c ?_).trans q) (λ_ q=>q) λ_ _ q=>q;rintro rfl;rcases hc with rfl | hc
  .rw[hfree] at e; cases e
  .rw[hfree] at hc; cases hc
 rcases hx with hk | hk
 .refine wpAny_storeName_local hk hn (λh' hn' hs=>?_) hcls;obtain⟨oL,_,_,hoL,_⟩:=id hn;refine h _ ⟨I.ok,I.os,I.bare,⟨λb o e n hb hx=>?_,λb o e n hb hx=>?_,I.base.free,λb o e hx=>?_,I.base.tups,I.base.frzs,I.base.tbls⟩,⟨_,hn',λj y v' e1 e2 e3=>?_⟩,λy c e=>?_,I.free,I.freeC,λp hp=>?_,tracked ⟨oL,hoL,I.free⟩ hs,by simpa using I.len⟩ ⟨_,hs,.inl rfl⟩
  .exact (hs.2 b (di (d6 (bO e) I.ok.above))).trans (I.base.keep b o e n hb hx)
  .obtain⟨sl,e1⟩:=I.base.slot b o e n hb hx;exact⟨sl,(hs.2 b (di (d6 (bO e) I.ok.above))).trans e1⟩
  .obtain⟨o',e1⟩:=I.base.there b o e hx;exact⟨o',(hs.2 b (di (d6 (bO e) I.ok.above))).trans e1⟩
  .by_cases hj:j=i
   .subst hj;rw[hi] at e1; cases e1;rw[GD hiσ] at e2;cases e2;exact⟨u,r,.inl ⟨hk,by simp⟩⟩
   .rw[Gz (HV hj)] at e2;obtain⟨u',r',q⟩:=hl j y v' e1 e2 e3;refine⟨u',r',?_⟩;rcases q with ⟨k,e⟩ | ⟨k,c,e,z⟩
    .refine .inl ⟨k,?_⟩;have:y≠x:=λe=>hj (nX hN e1 (e ▸ hi));simp[this,e]
    .exact .inr ⟨k,c,e,z.sameBut hs (cne y c e)⟩
  .obtain⟨w',z⟩:=I.cell y c e;exact⟨w',z.sameBut hs (cne y c e)⟩
  .obtain⟨e,n,ne,nf,d⟩:=I.pin p hp;exact⟨(hs.2 p.1 ne).trans e,n,ne,nf,d⟩
 .have hfn:X.fn x=true:=by
   rcases hf with z | z
   .exact z
   .rw[z] at hk; cases hk
  obtain⟨c,hc⟩:=I.ok.has x (.inl hk);obtain⟨w',z⟩:=I.cell x c hc;refine wpAny_storeName_cell I.ok.kind hk hc z (λh' hc' hs=>?_);obtain⟨oc,hoc,hocd⟩:=id z;refine h { s with heap:=h' } ⟨I.ok,I.os,I.bare,⟨λb o e n hb hx=>?_,λb o e n hb hx=>?_,I.base.free,λb o e hx=>?_,I.base.tups,I.base.frzs,I.base.tbls⟩,⟨m,hn.sameBut hs (HV (cne x c hc)),λj y v' e1 e2 e3=>?_⟩,λy c' e=>?_,I.free,I.freeC,λp hp=>?_,tracked ⟨oc,hoc,I.freeC x c hc⟩ hs,by simpa using I.len⟩ ⟨c,hs,.inr hc⟩
  .exact (hs.2 b (di (d6 (bO e) (I.ok.cab x c hfn hc)))).trans (I.base.keep b o e n hb hx)
  .obtain⟨sl,e1⟩:=I.base.slot b o e n hb hx;exact⟨sl,(hs.2 b (di (d6 (bO e) (I.ok.cab x c hfn hc)))).trans e1⟩
  .obtain⟨o',e1⟩:=I.base.there b o e hx;exact⟨o',(hs.2 b (di (d6 (bO e) (I.ok.cab x c hfn hc)))).trans e1⟩
  .by_cases hj:j=i
   .subst hj;rw[hi] at e1; cases e1;rw[GD hiσ] at e2;cases e2;exact⟨u,r,.inr ⟨.inl hk,c,hc,hc'⟩⟩
   .rw[Gz (HV hj)] at e2;obtain⟨u',r',q⟩:=hl j y v' e1 e2 e3;refine⟨u',r',?_⟩;rcases q with q | ⟨k,c',e,z'⟩
    .exact .inl q
    .refine .inr ⟨k,c',e,z'.sameBut hs ?_⟩;rintro rfl;exact hj (nX hN e1 (I.ok.inj _ _ _ e hc ▸ hi))
  .by_cases hcc:c'=c
   .subst hcc; exact⟨_,hc'⟩
   .obtain⟨w2,z2⟩:=I.cell y c' e;exact⟨w2,z2.sameBut hs hcc⟩
  .obtain⟨e,n,ne,nf,d⟩:=I.pin p hp;refine⟨(hs.2 p.1 ?_).trans e,n,ne,nf,d⟩;intro q;rw[q,hoc] at e;have q':oc=p.2:=cG e;exact d w' (by rw[<-q']; exact hocd)
def rS {M:Model}{A:Around}{E:Value->Shared->Prop}{i:Nat}{x:Str}{v:V}{u:Value}{Q:Unit->Shared->Prop}(I:Inv X pins σ H s)(hN:X.N.Nodup)(hi:X.N[i]? = some x)(hx:Loc X.env.scope x)(r:RelV v u)
  (h:∀s',Inv X pins (σ.set i (some v)) H s'->Q () s')(hf:X.fn x=true\/X.env.scope.names.lookup x=some .local:=by first | exact .inl rfl | exact .inr rfl | assumption):wpAny M A (storeName X.env x u) Q E s:=
 zv I hN hi hx r (λs' I' _=>h s' I') hf
def Inv.call' {s':Shared}{ch:ao}(I:Inv X pins σ H s)(ho:s'.os=s.os)(u:Un (f9 X.stack) ch H H' s.heap s'.heap)(hok:HOk X.prog X.w H' s'.heap)(hg:AllBare s'.gens)
  (hch:∀b∈ch,(b∈X.ex\/X.s₀.heap.objs.size<=b)/\b≠X.env.locals/\(∀x c,X.env.cells.lookup x=some c->c≠b)/\∀p∈X.pn++pins,p.1≠b):Inv X pins σ H' s':=by
 obtain⟨h',g',d',t',o'⟩:=s';have e:o'=s.os:=ho;subst e;exact I.call (g':=g') (t':=t') (d':=d') u hok hg hch
end
abbrev XK:=Value->aF->Hp->Prop
noncomputable abbrev St:=List (Option V)
abbrev VK:=V->Hp->Prop
abbrev TE:=St->Hp->VK->Prop
abbrev TT:=St->Hp->(Bool->Hp->Prop)->Prop
abbrev TA:=St->Hp->(aw->Hp->Prop)->Prop
structure Ends where
 nx:St->Hp->Prop
 rt:VK
 bk:St->Hp->Prop:=λ_ _=>False
 ct:St->Hp->Prop:=λ_ _=>False
abbrev TS:=Ends->St->Hp->Prop
def EP (X:Cx)(pins:ah)(σ:St)(Q:VK)(u:Value)(s':Shared):Prop:=∃v H',Inv X pins σ H' s'/\RelV v u/\Q v H'
def TP (X:Cx)(pins:ah)(σ:St)(Q:Bool->Hp->Prop)(b:Bool)(s':Shared):Prop:=∃H',Inv X pins σ H' s'/\Q b H'
def AP (X:Cx)(pins:ah)(σ:St)(Q:aw->Hp->Prop)(us:ar)(s':Shared):Prop:=∃vs H',Inv X pins σ H' s'/\Vals vs us/\Q vs H'
def SP (X:Cx)(pins:ah)(D:Ends)(f:Flow)(s':Shared):Prop:=
 match f with
 | .next=>∃σ' H',Inv X pins σ' H' s'/\D.nx σ' H'
 | .brk=>∃σ' H',Inv X pins σ' H' s'/\D.bk σ' H'
 | .cont=>∃σ' H',Inv X pins σ' H' s'/\D.ct σ' H'
 | .ret u=>∃v σ' H',Inv X pins σ' H' s'/\RelV v u/\D.rt v H'
def PE (X:Cx)(e:Expr)(t:TE):Prop:=
 ∀(pins:ah) (s:Shared) (σ:St) (H:Hp) (Q:VK),Inv X pins σ H s->t σ H Q->wpAny (model X.prog X.w) X.A (eval e X.env) (EP X pins σ Q) X.xe s
def PT (X:Cx)(e:Expr)(t:TT):Prop:=
 ∀(pins:ah) (s:Shared) (σ:St) (H:Hp) (Q:Bool->Hp->Prop),Inv X pins σ H s->t σ H Q->wpAny (model X.prog X.w) X.A (isTrue e X.env (eval e X.env)) (TP X pins σ Q) X.xe s
def PW (X:Cx)(e:Expr)(t:TT):Prop:=
 ∀(whole:Sem Value) (pins:ah) (s:Shared) (σ:St) (H:Hp) (Q:Bool->Hp->Prop),Inv X pins σ H s->t σ H Q->wpAny (model X.prog X.w) X.A (isTrue e X.env whole) (TP X pins σ Q) X.xe s
def PW.pt {X:Cx}{e:Expr}{t:TT}(h:PW X e t):PT X e t:=h _
def PA (X:Cx)(es:av)(t:TA):Prop:=
 ∀(pos:Pos) (pins:ah) (s:Shared) (σ:St) (H:Hp) (Q:aw->Hp->Prop),Inv X pins σ H s->t σ H Q->wpAny (model X.prog X.w) X.A (spliced (backTo pos (starEach es X.env))) (AP X pins σ Q) X.xe s
def PS (X:Cx)(st:Stmt)(t:TS):Prop:=
 ∀(pins:ah) (s:Shared) (σ:St) (H:Hp) (D:Ends),Inv X pins σ H s->t D σ H->wpAny (model X.prog X.w) X.A (exec st X.env) (SP X pins D) X.xe s
def PSs (X:Cx)(st:aH)(t:TS):Prop:=
 ∀(pins:ah) (s:Shared) (σ:St) (H:Hp) (D:Ends),Inv X pins σ H s->t D σ H->wpAny (model X.prog X.w) X.A (execs st X.env) (SP X pins D) X.xe s
def bj {α:Type}{t:Sem α}{Q Q':α->Shared->Prop}{M:Model}{A:Around}{E:Value->Shared->Prop}{s:Shared}(h:wpAny M A t Q E s)(hQ:∀a s,Q a s->Q' a s):wpAny M A t Q' E s:=Ha h hQ λ_ _ x=>x
end L2
namespace L2
open PySem PySem.Spec PyProof.Rows
section
variable {X:Cx}
def c8 (i:Nat):TE:=λσ H Q=>∃v,σ[i]? = some (some v)/\Q v H
def tC (v:V):TE:=λ_ H Q=>Q v H
def oK {i:Nat}{x:Str}{pos:Pos}(hN:X.N[i]? = some x)(hv:pF X.env.scope x)(hd:(x == ("__debug__" : Str))=false:=by decide)(hcd:(x == ("__classdict__" : Str))=false:=by decide):PE X (.Name x pos) (c8 i):=by
 intro pins s σ H Q I h;obtain⟨v,e,h⟩:=h;obtain⟨m,hn,hl⟩:=I.loc;obtain⟨u,r,l⟩:=hl i x v hN e hv;have fin:EP X pins σ Q u s:=⟨v,H,I,r,h⟩
 rcases l with ⟨hk,hm⟩ | ⟨hk,c,hc,hcell⟩
 .exact wpAny_Name (wpAny_loadName_local I.ok.kind hk hn hm fin) hd
 .rcases hk with hk | hk
  .exact wpAny_Name (wpAny_loadName_cell I.ok.kind hk hc hcell fin) hd
  .exact wpAny_Name (wpAny_loadName_free I.ok.kind hk hc hcell fin hcd) hd
def y9 {i j pos}:PE X (.Constant (.int i) j pos) (tC (.int i)):=λ_ _ _ H _ I h=>wpAny_Constant_int ⟨.int i,H,I.tok _,⟨_,rfl⟩,h⟩
def Bd {b j pos}:PE X (.Constant (.bool b) j pos) (tC (.bl b)):=λ_ _ _ H _ I h=>Constant_bool ⟨.bl b,H,I,rfl,h⟩
def FT {j pos}:PE X (.Constant .none j pos) (tC .non):=λ_ _ _ H _ I h=>Constant_none ⟨.non,H,I,rfl,h⟩
def zz {x j pos}:PE X (.Constant (.str x) j pos) (tC (.str x)):=λ_ _ _ H _ I h=>Calls.Constant_str ⟨.str x,H,I.tok _,⟨_,rfl⟩,h⟩
def Gl (X:Cx)(x:Str):Prop:=X.env.kindOf x=some .globalImplicit
def i8 {E:Value->Shared->Prop}{pins:ah}{s:Shared}{σ:St}{H:Hp}{x:Str}{u:Value}{pos:Pos}{Q:Value->Shared->Prop}(I:Inv X pins σ H s)(hg:Gl X x)(hm:X.mg x=some u)(h:Q u s)
  (hd:(x == ("__debug__" : Str))=false:=by decide):wpAny (model X.prog X.w) X.A (eval (.Name x pos) X.env) Q E s:=
 Calls.Name_function_global I.ok.kind hg (Calls.loadGlobal_global (by rw[I.ok.glob]; exact I.mod.glob.keeps I.bk) hm h) hd
def ig {E:Value->Shared->Prop}{pins:ah}{s:Shared}{σ:St}{H:Hp}{x:Str}{u:Value}{pos:Pos}{Q:Value->Shared->Prop}(I:Inv X pins σ H s)(hg:Gl X x)(hm:X.mg x=none)(hv:bootBuiltins x=some u)(h:Q u s)
  (hn:x ≠ "__name__":=by decide)(hd:(x == ("__debug__" : Str))=false:=by decide):wpAny (model X.prog X.w) X.A (eval (.Name x pos) X.env) Q E s:=by
 obtain⟨mb,h1,h2⟩:=I.mod.blt;exact Calls.Name_function_global I.ok.kind hg (Calls.loadGlobal_builtin (by rw[I.ok.glob]; exact I.mod.glob.keeps I.bk) hm (by rw[I.ok.blt]; exact h1.keeps I.bk) ((h2 x hn).trans hv) h) hd
def uL {x:Str}{v:V}{u:Value}{pos:Pos}(hg:Gl X x)(hm:X.mg x=some u)(r:RelV v u)(hd:(x == ("__debug__" : Str))=false:=by decide):PE X (.Name x pos) (tC v):=
 λ_ _ _ H _ I h=>i8 I hg hm ⟨v,H,I,r,h⟩ hd
def Bv {x:Str}{v:V}{u:Value}{pos:Pos}(hg:Gl X x)(hm:X.mg x=none)(hv:bootBuiltins x=some u)(r:RelV v u)(hn:x ≠ "__name__":=by decide)(hd:(x == ("__debug__" : Str))=false:=by decide):PE X (.Name x pos) (tC v):=
 λ_ _ _ H _ I h=>ig I hg hm hv ⟨v,H,I,r,h⟩ hn hd
variable {a b:Expr}{ta tb:TE}{pos:Pos}
def PC (X:Cx)(op:CmpOp)(a b:Expr)(t:TE):Prop:=
 ∀(pins:ah) (s:Shared) (σ:St) (H:Hp) (Q:VK),Inv X pins σ H s->t σ H Q ->
  wpAny (model X.prog X.w) X.A (eval a X.env) (λv s₁=>wpAny (model X.prog X.w) X.A (eval b X.env) (λu s₂=>wpAny (model X.prog X.w) X.A (compareOp op v u) (EP X pins σ Q) X.xe s₂) X.xe s₁) X.xe s
def vS (b:Expr){op:CmpOp}(h:op≠.In)(h2:op≠.NotIn):behindInMarks op b=false:=by
 have e1:(op == CmpOp.In)=false:=by cases op <;> first | rfl | exact absurd rfl h
 have e2:(op == CmpOp.NotIn)=false:=by cases op <;> first | rfl | exact absurd rfl h2
 cases b <;> simp[behindInMarks,e1,e2]
def qo (ta:TE):TE:=λσ H Q=>ta σ H λx H1=>Q (.bl (decide (x=.non))) H1
def nK (ta:TE):TE:=λσ H Q=>ta σ H λx H1=>Q (.bl (!decide (x=.non))) H1
def RelV.none_iff {x:V}{v:Value}(r:RelV x v):(v == Value.none)=decide (x=.non):=by
 cases x with
 | non=>cases r; rfl
 | bl _=>cases r; rfl
 | int _=>obtain⟨t,rfl⟩:=r; rfl
 | str _=>obtain⟨t,rfl⟩:=r; rfl
 | byt _=>obtain⟨t,rfl⟩:=r; rfl
 | flt _=>obtain⟨t,rfl⟩:=r; rfl
 | ref _=>cases r; rfl
 | ty _=>cases r; rfl
def wO {j pos'}(ha:PE X a ta):PC X .Is a (.Constant .none j pos') (qo ta):=by
 intro pins s σ H Q I h;refine bj (ha pins s σ H _ I h) λv s1 hZz=>?_;obtain⟨x,H1,I1,r1,q1⟩:=hZz;exact Constant_none (is_none_gen ⟨.bl _,H1,I1,by rw[r1.none_iff]; rfl,q1⟩)
def wF {j pos'}(ha:PE X a ta):PC X .IsNot a (.Constant .none j pos') (nK ta):=by
 intro pins s σ H Q I h;refine bj (ha pins s σ H _ I h) λv s1 hZz=>?_;obtain⟨x,H1,I1,r1,q1⟩:=hZz;exact Constant_none (isnot_none_gen ⟨.bl _,H1,I1,by rw[r1.none_iff]; rfl,q1⟩)
def tB (t:TE):TT:=λσ H Q=>t σ H λx H1=>∃c,x=.bl c/\Q c H1
def uf {op:CmpOp}{t:TE}(h:PC X op a b t)(h1:behindInMarks op b=false:=by first | exact vS _ (by decide) (by decide) | rfl):PE X (.Compare a [op] [b] pos) t:=λpins s σ H Q I hw=>wpAny_Compare1 (h pins s σ H Q I hw) h1
def tZ {op:CmpOp}{t:TE}(h:PC X op a b t)(h1:behindInMarks op b=false:=by first | exact vS _ (by decide) (by decide) | rfl):PT X (.Compare a [op] [b] pos) (tB t):=by
 intro pins s σ H Q I hw;refine wpAny_isTrue_Compare1 (bj (h pins s σ H _ I hw) λv s1 h1=>bj h1 λu s2 h2=>bj h2 λc s3 hZz=>?_) h1;obtain⟨x,H1,I1,r1,q1⟩:=hZz;obtain⟨d,rfl,q⟩:=q1;cases r1;exact Hi ⟨H1,I1,q⟩
def Ad {e:Expr}{t:TE}(h:PE X e t)(he:∀whole,isTrue e X.env whole=(do let v <-whole; standAt e.pos; holding [v] (truthy v)):=by intro _; rfl):PT X e (tB t):=by
 intro pins s σ H Q I hw;refine isTrue_plain (bj (h pins s σ H _ I hw) λv s1 hZz=>?_) (he _);obtain⟨x,H1,I1,r1,q1⟩:=hZz;obtain⟨d,rfl,q⟩:=q1;cases r1;exact Hi ⟨H1,I1,q⟩
variable {tA tB':TT}{rest:av}
def kH (t u:TT):TT:=λσ H Q=>t σ H λc H1=>if c=true then u σ H1 Q else Q false H1
def sv (t u:TT):TT:=λσ H Q=>t σ H λc H1=>if c=true then Q true H1 else u σ H1 Q
def k9 (t:TT):TT:=λσ H Q=>t σ H λc H1=>Q (!c) H1
def Dy (ha:PT X a tA):PW X (.BoolOp .And [a] pos) tA:=by
 intro wh pins s σ H Q I h;refine isTrue_and (bj (ha pins s σ H Q I h) λc s1 e=>?_);cases c with
 | true=>exact isTrue_and_nil e
 | false=>exact e
def yj (ha:PT X a tA):PW X (.BoolOp .Or [a] pos) tA:=by
 intro wh pins s σ H Q I h;refine isTrue_or (bj (ha pins s σ H Q I h) λc s1 e=>?_);cases c with
 | false=>exact isTrue_or_nil e
 | true=>exact e
def Cc (ha:PT X a tA)(hb:PW X (.BoolOp .And (b::rest) pos) tB'):PW X (.BoolOp .And (a::b::rest) pos) (kH tA tB'):=by
 intro wh pins s σ H Q I h;refine isTrue_and (bj (ha pins s σ H _ I h) λc s1 hZz=>?_);obtain⟨H1,I1,q1⟩:=hZz;cases c with
 | true=>exact hb wh pins s1 σ H1 Q I1 q1
 | false=>exact⟨H1,I1,q1⟩
def Fp (ha:PT X a tA)(hb:PW X (.BoolOp .Or (b::rest) pos) tB'):PW X (.BoolOp .Or (a::b::rest) pos) (sv tA tB'):=by
 intro wh pins s σ H Q I h;refine isTrue_or (bj (ha pins s σ H _ I h) λc s1 hZz=>?_);obtain⟨H1,I1,q1⟩:=hZz;cases c with
 | true=>exact⟨H1,I1,q1⟩
 | false=>exact hb wh pins s1 σ H1 Q I1 q1
def EU (ha:PT X a tA):PT X (.UnaryOp .Not a pos) (k9 tA):=by
 intro pins s σ H Q I h;exact isTrue_not (ha pins s σ H (λc H1=>Q (!c) H1) I h)
def ik (ta tb:TE):TE:=λσ H Q=>ta σ H λx H1=>∃c,x=.bl c/\if c=true then tb σ H1 Q else Q (.bl false) H1
def lu (ta tb:TE):TE:=λσ H Q=>ta σ H λx H1=>∃c,x=.bl c/\if c=true then Q (.bl true) H1 else tb σ H1 Q
def nu (ta:TE):TE:=λσ H Q=>ta σ H λx H1=>∃c,x=.bl c/\Q (.bl (!c)) H1
def Fl {op}{t:TE}(h:PE X a t):PE X (.BoolOp op [a] pos) t:=λpins s σ H Q I hw=>BoolOp_one (h pins s σ H Q I hw)
def Cb (ha:PE X a ta)(hb:PE X (.BoolOp .And (b::rest) pos) tb):PE X (.BoolOp .And (a::b::rest) pos) (ik ta tb):=by
 intro pins s σ H Q I h;refine BoolOp_and (bj (ha pins s σ H _ I h) λv s1 hZz=>?_);obtain⟨x,H1,I1,r1,q1⟩:=hZz;obtain⟨c,rfl,q1⟩:=q1;cases r1;refine Hi ?_;cases c with
 | true=>exact hb pins s1 σ H1 Q I1 q1
 | false=>exact⟨.bl false,H1,I1,rfl,q1⟩
def Bb (ha:PE X a ta)(hb:PE X (.BoolOp .Or (b::rest) pos) tb):PE X (.BoolOp .Or (a::b::rest) pos) (lu ta tb):=by
 intro pins s σ H Q I h;refine BoolOp_or (bj (ha pins s σ H _ I h) λv s1 hZz=>?_);obtain⟨x,H1,I1,r1,q1⟩:=hZz;obtain⟨c,rfl,q1⟩:=q1;cases r1;refine Hi ?_;cases c with
 | false=>exact hb pins s1 σ H1 Q I1 q1
 | true=>exact⟨.bl true,H1,I1,rfl,q1⟩
def zA (ha:PE X a ta):PE X (.UnaryOp .Not a pos) (nu ta):=by
 intro pins s σ H Q I h;refine UnaryOp_ (bj (ha pins s σ H _ I h) λv s1 hZz=>?_);obtain⟨x,H1,I1,r1,q1⟩:=hZz;obtain⟨c,rfl,q1⟩:=q1;cases r1;exact not_of (Hi ⟨.bl (!c),H1,I1,rfl,q1⟩)
end
end L2
namespace L2
open PySem PySem.Spec PyProof.Rows
def SqL (K:bo)(H:Hp)(a:Addr)(xs:aw):Prop:=
 Rd H a (.lst xs) \/
  ∃(o:Obj) (its:aC) (n:Nat),K.lookup a=some o/\o.cls=.type "list" /\ o.dict=none/\o.data=.seq its n/\its.size<=sizeLine/\Vals xs its.toList
def SqT (K:bo)(H:Hp)(a:Addr)(xs:aw):Prop:=
 Rd H a (.tup xs) \/
  ∃(o:Obj) (its:aC) (n:Nat),K.lookup a=some o/\o.cls=.type "tuple" /\ o.dict=none/\o.data=.seq its n/\its.size<=sizeLine/\Vals xs its.toList
noncomputable def r9:Value->Option V
 | .none=>some .non
 | .bool b=>some (.bl b)
 | .int i _=>some (.int i)
 | .str x _=>some (.str x)
 | .bytes b _=>some (.byt b)
 | .float b _=>some (.flt b)
 | .ref a=>some (.ref a)
 | .type n=>some (.ty n)
 | _=>none
def RelV.abs {x:V}{u:Value}(r:RelV x u):r9 u=some x:=by
 cases x with
 | non=>cases r; rfl
 | bl _=>cases r; rfl
 | int _=>obtain⟨t,rfl⟩:=r; rfl
 | str _=>obtain⟨t,rfl⟩:=r; rfl
 | byt _=>obtain⟨t,rfl⟩:=r; rfl
 | flt _=>obtain⟨t,rfl⟩:=r; rfl
 | ref _=>cases r; rfl
 | ty _=>cases r; rfl
theorem RelV.inj {x y:V}{u:Value}(r:RelV x u)(q:RelV y u):x=y:=cG (r.abs.symm.trans q.abs)
theorem Vals.inj:∀{xs ys:aw} {us:ar},Vals xs us->Vals ys us->xs=ys
 | _,_,_,.nil,.nil=>rfl
 | _,_,_,.cons r t,.cons r' t'=>by rw[r.inj r',Vals.inj t t']
section
variable {X:Cx}{pins:ah}{σ:St}{H:Hp}{s:Shared}{a:Addr}{xs ys:aw}
def SqT.of {K:bo}(h:H a=some (.tup xs)):SqT K H a xs:=.inl (.inl h)
def Inv.list (I:Inv X pins σ H s)(h:SqL X.K H a xs):∃its:ar,Vals xs its/\PlainL s.heap a its.toArray/\xs.length<=sizeLine:=by
 rcases h with h | ⟨o,its,n,hk,hc,hd,hs,hz,r⟩
 .obtain⟨z,its,n,r,e⟩:=h.ok I.hok;exact⟨its,r,⟨_,n,e,rfl,rfl,rfl⟩,z⟩
 .refine⟨its.toList,r,⟨o,n,I.kIn a o hk,hc,hd,by simpa using hs⟩,?_⟩;have e:=r.length;simp only[Array.length_toList] at e;omega
def Inv.tupN (I:Inv X pins σ H s)(h:SqT X.K H a xs):∃its:ar,Vals xs its/\TupN s.heap a its.toArray/\xs.length<=sizeLine:=by
 rcases h with h | ⟨o,its,n,hk,hc,hn,hs,hz,r⟩
 .obtain⟨z,its,r,p⟩:=h.ok I.hok;exact⟨its,r,p,z⟩
 .refine⟨its.toList,r,⟨o,I.kIn a o hk,hc,⟨n,by simpa using hs⟩,hn⟩,?_⟩;have e:=r.length;simp only[Array.length_toList] at e;omega
def Inv.tuple (I:Inv X pins σ H s)(h:SqT X.K H a xs):∃its:ar,Vals xs its/\IsTup s.heap a its.toArray/\xs.length<=sizeLine:=
 let ⟨its,r,p,z⟩:=I.tupN h
 ⟨its,r,p.tup,z⟩
def Inv.list_inj (I:Inv X pins σ H s)(h:SqL X.K H a xs)(h':SqL X.K H a ys):xs=ys:=by
 obtain⟨its,r,⟨o,n,e,_,_,d⟩,_⟩:=I.list h;obtain⟨its',r',⟨o',n',e',_,_,d'⟩,_⟩:=I.list h';rw[e] at e'; cases e';rw[d] at d';injection d' with d1 _;have:its=its':=by simpa using congrArg Array.toList d1
 subst this;exact r.inj r'
def Inv.tuple_inj (I:Inv X pins σ H s)(h:SqT X.K H a xs)(h':SqT X.K H a ys):xs=ys:=by
 obtain⟨its,r,⟨o,e,_,n,d⟩,_⟩:=I.tuple h;obtain⟨its',r',⟨o',e',_,n',d'⟩,_⟩:=I.tuple h';rw[e] at e'; cases e';rw[d] at d';injection d' with d1 _;have:its=its':=by simpa using congrArg Array.toList d1
 subst this;exact r.inj r'
end
noncomputable abbrev Cx.wish (X:Cx)(E:Value->Shared->Prop):Cx:={ X with xe:=E }
noncomputable abbrev Cx.nox (X:Cx):Cx:=X.wish λ_ _=>False
theorem Cx.Ok.wish {X:Cx}(ok:X.Ok)(E:Value->Shared->Prop):(X.wish E).Ok:=
 ⟨ok.mod,ok.kind,ok.glob,ok.blt,ok.above,ok.inj,ok.has,ok.cab,ok.hd,ok.frames,ok.stk,ok.exf,ok.bs,ok.bsz,ok.noex,ok.exfs,ok.funs,ok.frf⟩
def Cx.Ok.unwish {X:Cx}{E:Value->Shared->Prop}(ok:(X.wish E).Ok):X.Ok:=
 ⟨ok.mod,ok.kind,ok.glob,ok.blt,ok.above,ok.inj,ok.has,ok.cab,ok.hd,ok.frames,ok.stk,ok.exf,ok.bs,ok.bsz,ok.noex,ok.exfs,ok.funs,ok.frf⟩
section
variable {X:Cx}{pins:ah}{σ:St}{H:Hp}{s:Shared}{E:Value->Shared->Prop}
theorem Inv.wish (I:Inv X pins σ H s)(E:Value->Shared->Prop):Inv (X.wish E) pins σ H s:=⟨I.ok.wish E,I.os,I.bare,I.base,I.loc,I.cell,I.free,I.freeC,I.pin,I.hok,I.len⟩
theorem Inv.unwish (I:Inv (X.wish E) pins σ H s):Inv X pins σ H s:=⟨I.ok.unwish,I.os,I.bare,I.base,I.loc,I.cell,I.free,I.freeC,I.pin,I.hok,I.len⟩
theorem SP.unwish {D:Ends}{f:Flow}{s':Shared}(h:SP (X.wish E) pins D f s'):SP X pins D f s':=by
 cases f with
 | next=>obtain⟨σ',H',I,q⟩:=h; exact⟨σ',H',I.unwish,q⟩
 | brk=>obtain⟨σ',H',I,q⟩:=h; exact⟨σ',H',I.unwish,q⟩
 | cont=>obtain⟨σ',H',I,q⟩:=h; exact⟨σ',H',I.unwish,q⟩
 | ret u=>obtain⟨v,σ',H',I,r,q⟩:=h; exact⟨v,σ',H',I.unwish,r,q⟩
theorem PE.nox {e:Expr}{t:TE}(h:PE X.nox e t):PE X e t:=λpins s σ H Q I hw=>
 Ha (h pins s σ H Q (I.wish _) hw) (λ_ _ ⟨v,H',I',r,q⟩=>⟨v,H',I'.unwish,r,q⟩) λ_ _ z=>False.elim z
theorem PT.nox {e:Expr}{t:TT}(h:PT X.nox e t):PT X e t:=λpins s σ H Q I hw=>
 Ha (h pins s σ H Q (I.wish _) hw) (λ_ _ ⟨H',I',q⟩=>⟨H',I'.unwish,q⟩) λ_ _ z=>False.elim z
theorem PSs.nox {st:aH}{t:TS}(h:PSs X.nox st t):PSs X st t:=λpins s σ H D I hw=>
 Ha (h pins s σ H D (I.wish _) hw) (λ_ _ q=>q.unwish) λ_ _ z=>False.elim z
end
section
variable {X:Cx}{st:Stmt}{rest:aH}{t u:TS}{e:Expr}{te:TE}{pos:Pos}
def nk:TS:=λD σ H=>D.nx σ H
def pG (t u:TS):TS:=λD σ H=>t { D with nx:=u D } σ H
def CU:PSs X [] nk:=λ_ _ σ H _ I h=>Jx ⟨σ,H,I,h⟩
def DZ (h1:PS X st t)(h2:PSs X rest u):PSs X (st::rest) (pG t u):=by
 intro pins s σ H D I h;refine wpAny_execs_cons (bj (h1 pins s σ H { D with nx:=u D } I h) λf s1 q=>?_);cases f with
 | next=>
  obtain⟨σ',H',I',q⟩:=q;exact h2 pins s1 σ' H' D I' q
 | ret v=>exact q
 | brk=>exact q
 | cont=>exact q
def Ac (h1:PS X st t):PSs X [st] t:=by
 intro pins s σ H D I h;refine wpAny_execs_cons (bj (h1 pins s σ H D I h) λf s1 q=>?_);cases f with
 | next=>exact Jx q
 | ret v=>exact q
 | brk=>exact q
 | cont=>exact q
def Inv.quiet {pins:ah}{σ:St}{H:Hp}{s:Shared}(I:Inv X pins σ H s):interactive X.env=false:=by simp[interactive,I.ok.kind]
def cM (te:TE):TS:=λD σ H=>te σ H λ_ H1=>D.nx σ H1
def lZ (he:PE X e te)(hs:swapsWith e none pos.line X.env=pure false:=by rfl):PS X (.Expr e pos) (cM te):=by
 intro pins s σ H D I h;exact wpAny_Expr_any (bj (he pins s σ H _ I h) λv s1 ⟨x,H1,I1,r1,q1⟩=>⟨σ,H1,I1,q1⟩) I.quiet hs
def rJ (te:TE):TS:=λD σ H=>te σ H D.rt
def xl (he:PE X e te):PS X (.Return (some e) pos) (rJ te):=by
 intro pins s σ H D I h;exact wpAny_Return_some (bj (he pins s σ H _ I h) λv s1 ⟨x,H1,I1,r1,q1⟩=>⟨x,σ,H1,I1,r1,q1⟩)
def mI:TS:=λD _ H=>D.rt .non H
def FC:PS X (.Return none pos) mI:=λ_ _ σ H _ I h=>wpAny_Return_none ⟨.non,σ,H,I,rfl,h⟩
def kc (c:TT)(t u:TS):TS:=λD σ H=>c σ H λb H1=>if b=true then t D σ H1 else u D σ H1
def FZ {c:Expr}{a b:aH}{tc:TT}(hc:PT X c tc)(ha:PSs X a t)(hb:PSs X b u):PS X (.If c a b pos) (kc tc t u):=by
 intro pins s σ H D I h;refine wpAny_If (bj (hc pins s σ H _ I h) λd s1 hZz=>?_);obtain⟨H1,I1,q1⟩:=hZz;cases d with
 | true=>exact ha pins s1 σ H1 D I1 q1
 | false=>exact hb pins s1 σ H1 D I1 q1
end
abbrev TG:=V->St->Hp->(St->Hp->Prop)->Prop
abbrev iE:=aw->St->Hp->(St->Hp->Prop)->Prop
def PG (X:Cx)(target:Expr)(t:TG):Prop:=
 ∀(pins:ah) (s:Shared) (σ:St) (H:Hp) (v:V) (u:Value) (Q:St->Hp->Prop),Inv X pins σ H s->RelV v u->t v σ H Q ->
  wpAny (model X.prog X.w) X.A (assign target X.env u) (λ_ s'=>∃σ' H',Inv X pins σ' H' s'/\Q σ' H') X.xe s
def lY (X:Cx)(ts:av)(t:iE):Prop:=
 ∀(pins:ah) (s:Shared) (σ:St) (H:Hp) (vs:aw) (us:ar) (Q:St->Hp->Prop),Inv X pins σ H s->Vals vs us->t vs σ H Q ->
  wpAny (model X.prog X.w) X.A (assignInOrder ((assignEach ts X.env).map (·.2)) us) (λ_ s'=>∃σ' H',Inv X pins σ' H' s'/\Q σ' H') X.xe s
noncomputable abbrev sk:=V->V->V->Hp->(Hp->Prop)->Prop
def sF (X:Cx)(t:sk):Prop:=
 ∀(pins:ah) (s:Shared) (σ:St) (H:Hp) (o i v:V) (ov iv u:Value) (Q:Hp->Prop),Inv X pins σ H s->RelV o ov->RelV i iv->RelV v u->t o i v H Q ->
  wpAny (model X.prog X.w) X.A (setItem ov iv u) (λ_ s'=>∃H',Inv X pins σ H' s'/\Q H') X.xe s
section
variable {X:Cx}{pos:Pos}
def d8 (i:Nat):TG:=λv σ H Q=>Q (σ.set i (some v)) H
def pM {i:Nat}{x:Str}(hN:X.N.Nodup)(hi:X.N[i]? = some x)(hx:Loc X.env.scope x)(hf:X.fn x=true\/X.env.scope.names.lookup x=some .local:=by first | exact .inl rfl | exact .inr rfl | assumption):PG X (.Name x pos) (d8 i):=by
 intro pins s σ H v u Q I r h;exact wpAny_assign_Name (rS I hN hi hx r (λs' I'=>⟨_,H,I',h⟩) hf)
def mX:iE:=λvs σ H Q=>vs=[]/\Q σ H
def jq (t:TG)(u:iE):iE:=λvs σ H Q=>∃v r,vs=v::r/\t v σ H λσ' H'=>u r σ' H' Q
def Gi:lY X [] mX:=by
 intro pins s σ H vs us Q I r h;obtain⟨e,h⟩:=h;subst e;cases r;exact assignInOrder_nil ⟨σ,H,I,h⟩
def AE {e:Expr}{es:av}{t:TG}{u:iE}(h1:PG X e t)(h2:lY X es u)
  (hs:(assignEach (e::es) X.env).map (·.2)=assign e X.env::(assignEach es X.env).map (·.2):=by rfl):lY X (e::es) (jq t u):=by
 intro pins s σ H vs us Q I r h;obtain⟨v,vr,e1,h⟩:=h;subst e1;cases r with
 | cons r rr=>
  rw[hs];refine assignInOrder_cons (bj (h1 pins s σ H _ _ _ I r h) λ_ s1 hZz=>?_);obtain⟨σ1,H1,I1,q1⟩:=hZz;exact h2 pins s1 σ1 H1 _ _ Q I1 rr q1
def mP (K:bo)(n:Nat)(t:iE):TG:=λv σ H Q=>∃a xs,v=.ref a/\SqT K H a xs/\xs.length=n/\t xs σ H Q
def EK {es:av}{k:Nat}{t:iE}{n:Nat}(hc:X.calm=true)(h:lY X es t)
  (hn:(assignEach es X.env).length=n:=by rfl)(hst:(assignEach es X.env).findIdx? (·.1)=none:=by rfl):PG X (.Tuple es k pos) (mP X.K n t):=by
 intro pins s σ H v u Q I r hw;obtain⟨a,xs,e1,hq,hl,hw⟩:=hw;subst e1;cases r;obtain⟨its,rv,ht,hz⟩:=I.tuple hq;refine assign_Tuple_tuple (I.ok.hd hc) ht (by simp[hn,<-hl,rv.length]) hst λh' hx=>?_;have I1:Inv X pins σ H { s with heap:=h' }:=I.kept (t':=s.toks) λb o e=>hx b o (di (bO e)) e;exact h pins _ σ H xs _ Q I1 (by simpa using rv) hw
def hU (te:TE)(g:TG):TS:=λD σ H=>te σ H λx H1=>g x σ H1 D.nx
def va {tg e:Expr}{te:TE}{g:TG}(he:PE X e te)(hg:PG X tg g)(hs:swapsWithSole [tg] e pos.line X.env=pure false:=by rfl)(hw:swappedStores [tg] e X.env=pure none:=by rfl)
  (h1:(assignEach [tg] X.env).map (·.2)=[assign tg X.env]:=by rfl):PS X (.Assign [tg] e pos) (hU te g):=by
 intro pins s σ H D I h;refine wpAny_Assign_stores (bj (he pins s σ H _ I h) λv s1 hZz=>?_) hs hw;obtain⟨x,H1,I1,r1,q1⟩:=hZz;rw[h1];exact bj (hg pins s1 σ H1 x v _ I1 r1 q1) λ_ s2 q=>q
def ph {i:Nat}{x:Str}{e:Expr}{te:TE}{pos':Pos}(hN:X.N.Nodup)(hi:X.N[i]? = some x)(hx:Loc X.env.scope x)(he:PE X e te)(hs:swapsWith e (some (.Name x pos')) pos.line X.env=pure false:=by rfl)(hf:X.fn x=true\/X.env.scope.names.lookup x=some .local:=by first | exact .inl rfl | exact .inr rfl | assumption) :
  PS X (.Assign [.Name x pos'] e pos) (hU te (d8 i)):=by
 intro pins s σ H D I h;refine wpAny_Assign_Name (bj (he pins s σ H _ I h) λv s1 hZz=>?_) hs;obtain⟨y,H1,I1,r1,q1⟩:=hZz;exact rS I1 hN hi hx r1 (λs2 I2=>⟨_,H1,I2,q1⟩) hf
end
section
variable {X:Cx}{pos:Pos}
end
structure It where
 go:Nat->Hp->Prop
 yld:Nat->Hp->V->Hp->Prop
 stop:Nat->Hp->Prop
def dE (X:Cx)(pins:ah)(H:Hp)(b:Addr):Prop:=
 H b=none/\b≠X.env.locals/\b∉X.fs/\(b∈X.ex\/X.s₀.heap.objs.size<=b)/\(∀x c,X.env.cells.lookup x=some c->c≠b)/\∀p∈X.pn++pins,p.1≠b
def Inv.fpOk {X:Cx}{pins:ah}{σ:St}{H H':Hp}{s:Shared}{b:Addr}(I:Inv X pins σ H s)(hb:s.heap.objs.size<=b)(hn:H' b=none):dE X pins H' b:=by
 refine⟨hn,Hq (d6 I.lt hb),I.nofs hb,.inr (ce I.sz hb),λx c e z=>?_,λp hp z=>?_⟩
 .obtain⟨v,q⟩:=I.cell x c e;exact absurd (d6 q.lt (by rw[z]; exact hb)) (HA _)
 .exact absurd (d6 (bO (I.pin p hp).1) (by rw[z]; exact hb)) (HA _)
structure Turn (P:Program)(w:World)(K:bo)(tg:Expr)(J:It)(fp:ao)(it:Addr)(tn:Nat->Heap->Prop):Prop where
 mem:it∈fp
 obj:∀i h,tn i h->∀b∈fp,∃o,h.get? b=some o/\∀v,o.data≠.cell v
 keep:∀i h h',tn i h->(∀b∈fp,∀o,h.get? b=some o->h'.get? b=some o)->tn i h'
 item:∀(X:Cx),X.prog=P->X.w=w->X.K=K->X.calm=true->∀(i:Nat) (pins:ah) (s:Shared) (σ:St) (H:Hp) (E:Value->Shared->Prop),Inv X pins σ H s->(∀b∈fp,dE X pins H b)->tn i s.heap->J.go i H ->
  wpAny (model P w) X.A (pyNext (.ref it)) (λr s1=>∃u,r=some u /\
   wpAny (model P w) X.A (letOwnedTupleGo tg (.ref it) u) (λ_ s2=>∃x H',Inv X pins σ H' s2/\RelV x u/\J.yld i H x H'/\tn (i+1) s2.heap/\∀b∈fp,H' b=none) E s1) E s
 done:∀(X:Cx),X.prog=P->X.w=w->X.K=K->X.calm=true->∀(i:Nat) (pins:ah) (s:Shared) (σ:St) (H:Hp) (E:Value->Shared->Prop),Inv X pins σ H s->(∀b∈fp,dE X pins H b)->tn i s.heap->J.stop i H ->
  wpAny (model P w) X.A (pyNext (.ref it)) (λr s1=>r=none/\Inv X pins σ H s1) E s
 self:∀(A:Around) (i:Nat) (s:Shared) (Q:Value->Shared->Prop) (E:Value->Shared->Prop),tn i s.heap->Q (.ref it) s->wpAny (model P w) A (pyIter (.ref it)) Q E s
abbrev TI:=St->Hp->(It->Hp->Prop)->Prop
def si (X:Cx)(pins:ah)(σ:St)(tg:Expr)(R:It->Hp->Prop)(itv:Value)(s2:Shared):Prop:=
 ∃(it:Addr) (fp:ao) (tn:Nat->Heap->Prop) (J:It) (H':Hp),itv=.ref it/\Inv X pins σ H' s2/\Turn X.prog X.w X.K tg J fp it tn/\tn 0 s2.heap/\(∀b∈fp,dE X pins H' b)/\R J H'
def PI (X:Cx)(tg iter:Expr)(wi:TI):Prop:=
 ∀(pins:ah) (s:Shared) (σ:St) (H:Hp) (R:It->Hp->Prop),Inv X pins σ H s->wi σ H R ->
  wpAny (model X.prog X.w) X.A (eval iter X.env) (λv s1=>wpAny (model X.prog X.w) X.A (pyIter v) (si X pins σ tg R) X.xe s1) X.xe s
def pE {M:Model}{A:Around}{E:Value->Shared->Prop}{s:Shared}{tg:Expr}{it:Addr}{u:Value}{o:Obj}{n:String}{vs:aC}{Q:Unit->Shared->Prop}(ho:s.heap.get? it=some o)(hc:o.cls=.type n)(hd:o.data=.fields vs)
    (hn:["enumerate", "zip", "dict_itemiterator", "dict_reverseitemiterator", "odict_iterator", "itertools.zip_longest", "itertools.pairwise"].contains n=false)(hQ:Q () s):wpAny M A (letOwnedTupleGo tg (.ref it) u) Q E s:=by
  unfold letOwnedTupleGo;cases tg <;> first
    | exact aV hQ
    | (cases u <;> first
        | exact aV hQ
        | (refine aM (wpAny_load ho ?_)
           rw[hc,hd];show wpAny M A (if (["enumerate", "zip", "dict_itemiterator", "dict_reverseitemiterator", "odict_iterator", "itertools.zip_longest", "itertools.pairwise"].contains n&&vs[0]? == some (rawInt _))=true then _ else _) Q E s;rw[if_neg (by intro h; rw[hn,Bool.false_and] at h; cases h)];exact aV hQ))
noncomputable def rH (K:bo)(a:Addr):It:=
 ⟨λi H=>∃xs x,SqL K H a xs/\xs[i]? = some x,λi H x H'=>H'=H/\∀xs,SqL K H a xs->xs[i]? = some x,λi H=>∃xs,SqL K H a xs/\xs.length<=i⟩
noncomputable def rK (K:bo)(a:Addr):It:=
 ⟨λi H=>∃xs x,SqT K H a xs/\xs[i]? = some x,λi H x H'=>H'=H/\∀xs,SqT K H a xs->xs[i]? = some x,λi H=>∃xs,SqT K H a xs/\xs.length<=i⟩
noncomputable def mE (lo:Int)(n:Nat):It:=⟨λi _=>i<n,λi H x H'=>H'=H/\x=.int (lo+i),λi _=>n<=i⟩
def EX {P:Program}{w:World}{K:bo}{tg:Expr}(a it:Addr):Turn P w K tg (rH K a) [it] it (λi h=>h.IsListIter it a i) where
 mem:=by simp
 obj:=λi h st b hb=>by
  have e:b=it:=by simpa using hb
  subst e;obtain⟨o,e,c,d⟩:=st;exact⟨o,e,λv z=>by rw[d] at z; cases z⟩
 keep:=λi h h' st k=>st.at λo e=>k it (by simp) o e
 item:=by
  intro X hP hw hK hc i pins s σ H E I hf st hg;subst hP hw hK;obtain⟨xs,x,hq,hx⟩:=hg;obtain⟨its,rv,p,hz⟩:=I.list hq;obtain⟨u,hu,ru⟩:=rv.get hx;obtain⟨f0,f1,f2,f3,f4,f5⟩:=hf it (by simp);refine wpAny_pyNext_list_item st p.isList (x:=u) (by simpa using hu) λh' st' sb=>?_;have I1:Inv X pins σ H { s with heap:=h' }:=I.turned (t':=s.toks) (λb o hb e=>(sb.2 b hb).trans e) f0 f1 f3 f4 f5;obtain⟨o,e,c,d⟩:=id st';exact⟨u,rfl,pE (s:={ s with heap:=h' }) e c d (by decide) ⟨x,H,I1,ru,⟨rfl,λys hy=>by rw[I.list_inj hy hq]; exact hx⟩,st',λb hb=>(hf b hb).1⟩⟩
 done:=by
  intro X hP hw hK hc i pins s σ H E I hf st hg;subst hP hw hK;obtain⟨xs,hq,hx⟩:=hg;obtain⟨its,rv,p,hz⟩:=I.list hq;obtain⟨f0,f1,f2,f3,f4,f5⟩:=hf it (by simp);have hl:=rv.length;exact wpAny_pyNext_list_end (I.ok.hd hc) st p.isList (by simp; omega) λh' eb=>⟨rfl,I.turned (t':=s.toks) (λb o hb e=>eb b o hb e) f0 f1 f3 f4 f5⟩
 self:=λ_ _ _ _ _ st h=>wpAny_pyIter_listiter st h
def zJ {P:Program}{w:World}{K:bo}{tg:Expr}(a it:Addr):Turn P w K tg (rK K a) [it] it (λi h=>h.IsTupleIter it a i) where
 mem:=by simp
 obj:=λi h st b hb=>by
  have e:b=it:=by simpa using hb
  subst e;obtain⟨o,e,c,d⟩:=st;exact⟨o,e,λv z=>by rw[d] at z; cases z⟩
 keep:=λi h h' st k=>st.at λo e=>k it (by simp) o e
 item:=by
  intro X hP hw hK hc i pins s σ H E I hf st hg;subst hP hw hK;obtain⟨xs,x,hq,hx⟩:=hg;obtain⟨its,rv,p,hz⟩:=I.tuple hq;obtain⟨u,hu,ru⟩:=rv.get hx;obtain⟨f0,f1,f2,f3,f4,f5⟩:=hf it (by simp);refine wpAny_pyNext_tuple_item st (show s.heap.IsTuple a its.toArray from p) (x:=u) (by simpa using hu) λh' st' sb=>?_;have I1:Inv X pins σ H { s with heap:=h' }:=I.turned (t':=s.toks) (λb o hb e=>(sb.2 b hb).trans e) f0 f1 f3 f4 f5;obtain⟨o,e,c,d⟩:=id st';exact⟨u,rfl,pE (s:={ s with heap:=h' }) e c d (by decide) ⟨x,H,I1,ru,⟨rfl,λys hy=>by rw[I.tuple_inj hy hq]; exact hx⟩,st',λb hb=>(hf b hb).1⟩⟩
 done:=by
  intro X hP hw hK hc i pins s σ H E I hf st hg;subst hP hw hK;obtain⟨xs,hq,hx⟩:=hg;obtain⟨its,rv,p,hz⟩:=I.tuple hq;obtain⟨f0,f1,f2,f3,f4,f5⟩:=hf it (by simp);have hl:=rv.length;exact wpAny_pyNext_tuple_end (I.ok.hd hc) st (show s.heap.IsTuple a its.toArray from p) (by simp; omega) λh' eb=>⟨rfl,I.turned (t':=s.toks) (λb o hb e=>eb b o hb e) f0 f1 f3 f4 f5⟩
 self:=λ_ _ _ _ _ st h=>wpAny_pyIter_tupleiter st h
def CQ {P:Program}{w:World}{K:bo}{tg:Expr}(it:Addr)(lo:Int)(n:Nat):Turn P w K tg (mE lo n) [it] it (λi h=>IsRangeIter h it (lo+(i:Nat) * 1) ((n:Int) - (i:Nat)) 1) where
 mem:=by simp
 obj:=λi h st b hb=>by
  have e:b=it:=by simpa using hb
  subst e;exact⟨_,st,λv z=>by
   have z':Data.fields _=Data.cell v:=z;cases z'⟩
 keep:=λi h h' st k=>k it (by simp) _ st
 item:=by
  intro X hP hw hK hc i pins s σ H E I hf st hg;subst hP hw hK;obtain⟨f0,f1,f2,f3,f4,f5⟩:=hf it (by simp);have W:=Walks.range (prog:=X.prog) (w:=X.w) (I.ok.hd hc) it lo 1 n;refine W.item i s _ _ hg st λv h' tk hv st' kk=>?_;obtain⟨t,rfl⟩:=hv;have I1:Inv X pins σ H { s with heap:=h',toks:=tk }:=I.turned (λb o hb e=>kk b o (by simpa using hb) e) f0 f1 f3 f4 f5;refine⟨_,rfl,pE (s:={ s with heap:=h',toks:=tk }) (n := "range_iterator") st' rfl rfl (by decide) ⟨.int (lo+i),H,I1,⟨t,?_⟩,⟨rfl,rfl⟩,st',λb hb=>(hf b hb).1⟩⟩;rw[Int.mul_one]
 done:=by
  intro X hP hw hK hc i pins s σ H E I hf st hg;subst hP hw hK;obtain⟨f0,f1,f2,f3,f4,f5⟩:=hf it (by simp);exact wpAny_pyNext_range_end (I.ok.hd hc) st (by have:n<=i:=hg; omega) λh' eb=>⟨rfl,I.turned (t':=s.toks) (λb o hb e=>eb b o hb e) f0 f1 f3 f4 f5⟩
 self:=λ_ _ _ _ _ st h=>wpAny_pyIter_rangeiter st h
end L2
namespace L2
open PySem PySem.Spec PyProof.Rows
section
variable {X:Cx}{tg:Expr}
def ny (K:bo)(tl:TE):TI:=λσ H R=>tl σ H λx H1=>∃a,x=.ref a/\(∃xs,SqL K H1 a xs)/\R (rH K a) H1
def ql (K:bo)(tl:TE):TI:=λσ H R=>tl σ H λx H1=>∃a,x=.ref a/\(∃xs,SqT K H1 a xs)/\R (rK K a) H1
def uV {l:Expr}{tl:TE}(hl:PE X l tl):PI X tg l (ny X.K tl):=by
 intro pins s σ H R I h;refine bj (hl pins s σ H _ I h) λv s1 hZz=>?_;obtain⟨x,H1,I1,r1,q1⟩:=hZz;obtain⟨a,e,⟨xs,hq⟩,q⟩:=q1;subst e;cases r1;obtain⟨its,rv,p,hz⟩:=I1.list hq;refine Jb p.isList ?_;refine⟨s1.heap.objs.size,[s1.heap.objs.size],_,_,H1,rfl,I1.kept (t':=s1.toks) λb o e=>bH _ e,EX a _,⟨_,dm _ rfl,rfl,rfl⟩,λb hb=>?_,q⟩;have e:b=s1.heap.objs.size:=by simpa using hb
 subst e;exact I1.fpOk (bI _) (I1.hok.fresh (bI _))
def C2 {l:Expr}{tl:TE}(hl:PE X l tl):PI X tg l (ql X.K tl):=by
 intro pins s σ H R I h;refine bj (hl pins s σ H _ I h) λv s1 hZz=>?_;obtain⟨x,H1,I1,r1,q1⟩:=hZz;obtain⟨a,e,⟨xs,hq⟩,q⟩:=q1;subst e;cases r1;obtain⟨its,rv,p,hz⟩:=I1.tuple hq;refine wpAny_pyIter_tuple (show s1.heap.IsTuple a its.toArray from p) ?_;refine⟨s1.heap.objs.size,[s1.heap.objs.size],_,_,H1,rfl,I1.kept (t':=s1.toks) λb o e=>bH _ e,zJ a _,⟨_,dm _ rfl,rfl,rfl⟩,λb hb=>?_,q⟩;have e:b=s1.heap.objs.size:=by simpa using hb
 subst e;exact I1.fpOk (bI _) (I1.hok.fresh (bI _))
def A3 {pins:ah}{σ:St}{H:Hp}{s:Shared}{R:It->Hp->Prop}{E:Value->Shared->Prop}{lo hi:Int}{t u v:Tok}{tk:Nat}(I:Inv X pins σ H s)(h1 : -(2 ^ 62)<=lo)(h2:lo<2 ^ 62)(h3 : -(2 ^ 62)<=hi)(h4:hi<2 ^ 62)
  (q:R (mE lo (hi - lo).toNat) H):wpAny (model X.prog X.w) X.A (pyIter (.ref s.heap.objs.size)) (si X pins σ tg R) E { s with heap:=s.heap.push { cls:=.type "range",data:=.fields #[.int lo t,.int hi u,.int 1 v] },toks:=tk }:=by
 refine wpAny_pyIter_range (IsRange.new ..) (small_one h1 h2 h3 h4) ?_;have I1:Inv X pins σ H { s with heap:=s.heap.push { cls:=.type "range",data:=.fields #[.int lo t,.int hi u,.int 1 v] },toks:=tk }:=I.kept λb o e=>bH _ e;refine⟨(s.heap.push { cls:=.type "range",data:=.fields #[.int lo t,.int hi u,.int 1 v] }).objs.size,[(s.heap.push { cls:=.type "range",data:=.fields #[.int lo t,.int hi u,.int 1 v] }).objs.size],_,_,H,rfl,
  I1.kept (t':=tk) λb o e=>bH _ e,CQ _ lo (hi - lo).toNat,?_,λb hb=>?_,q⟩
 .have e1:lo+((0:Nat):Int) * 1=lo:=by simp
  have e2:(((hi - lo).toNat:Nat):Int) - ((0:Nat):Int)=Builtin.Range.rangeSize lo hi 1:=by rw[rangeSize_one]; split <;> omega
  show IsRangeIter _ _ (lo+((0:Nat):Int) * 1) ((((hi - lo).toNat:Nat):Int) - ((0:Nat):Int)) 1;rw[e1,e2];exact dm _ rfl
 .have e:b=(s.heap.push { cls:=.type "range",data:=.fields #[.int lo t,.int hi u,.int 1 v] }).objs.size:=by simpa using hb
  subst e;exact I1.fpOk (bI _) (I1.hok.fresh (bI _))
def mn (ta:TA):TI:=λσ H R=>ta σ H λvs H1=>∃j:Int,vs=[.int j] /\ -(2 ^ 62)<=j/\j<2 ^ 62/\R (mE 0 j.toNat) H1
def zf {a:Expr}{ta:TA}{p pos:Pos}(hg:Gl X "range")(hm:X.mg "range" = none)(ha:PA X [a] ta)(hs:starEach [a] X.env=[(false,eval a X.env)]:=by rfl):PI X tg (.Call (.Name "range" p) [a] [] pos) (mn ta):=by
 intro pins s σ H R I h;refine Call_ (ig I hg hm boot_range (G4 (bj (ha pos pins s σ H _ I h) λus s1 hZz=>?_) hs rfl));obtain⟨vs,H1,I1,r1,q1⟩:=hZz;obtain⟨j,e,q1,q2,q⟩:=q1;subst e;cases r1 with
 | cons r rr=>
  cases rr;obtain⟨t,rfl⟩:=r;exact call_range_1 (A3 I1 (by omega) (by omega) q1 q2 (by simpa using q))
def lr (wi:TI)(g:TG)(tb:TS):TS:=λD σ H=>wi σ H λJ H1=>∃W:Nat->Nat->St->Hp->Prop,(∃m,W 0 m σ H1)/\∀i m σ H,W i m σ H ->
 (J.stop i H/\D.nx σ H)\/(J.go i H/\∃N:St->Hp->Prop,(∀σ' H',N σ' H'->∃m',m'<m/\W (i+1) m' σ' H')/\∀x H',J.yld i H x H'->g x σ H' λσ2 H2=>tb { D with nx:=N,ct:=N,bk:=D.nx } σ2 H2)
noncomputable def dG (fp:ao)(h:Heap):ah:=fp.filterMap λb=>(h.get? b).map λo=>(b,o)
def lR {fp:ao}{h:Heap}{b:Addr}{o:Obj}(hb:b∈fp)(e:h.get? b=some o):(b,o)∈dG fp h:=Ig.mpr ⟨b,hb,by rw[e]; rfl⟩
def zn {fp:ao}{h:Heap}{p:Addr×Obj}(hp:p∈dG fp h):p.1∈fp/\h.get? p.1=some p.2:=by
 obtain⟨b,hb,e⟩:=Ig.mp hp;cases q:h.get? b with
 | none=>rw[q] at e; cases e
 | some o=>
  rw[q] at e;have e':(b,o)=p:=cG e;subst e';exact⟨hb,q⟩
def Inv.pinned {pins:ah}{σ:St}{H:Hp}{s:Shared}{fp:ao}(I:Inv X pins σ H s)(hf:∀b∈fp,dE X pins H b)(ho:∀b∈fp,∃o,s.heap.get? b=some o/\∀v,o.data≠.cell v):Inv X (pins++dG fp s.heap) σ H s:=
 I.pins_of λp hp=>(dN hp).elim (λz=>I.pin p (cP _ z)) λz=>by
  obtain⟨hb,e⟩:=zn z;obtain⟨f0,f1,f2,_⟩:=hf p.1 hb;obtain⟨o,e',d⟩:=ho p.1 hb;rw[e] at e'; cases e';exact⟨e,f0,f1,f2,d⟩
def Inv.unpinned {pins pl:ah}{σ:St}{H:Hp}{s:Shared}(I:Inv X (pins++pl) σ H s):Inv X pins σ H s:=I.pins_of λp hp=>I.pin p (cP _ (fj _ hp))
def yN {iter:Expr}{body:aH}{wi:TI}{g:TG}{tb:TS}{pos:Pos}(hp:PassesOwn (model X.prog X.w) X.A X.env X.xe)(hc:X.calm=true)(hi:PI X tg iter wi)(hg:PG X tg g)(hb:PSs X body tb)
  (hs:∀x,foldedSetIterable iter X.env x=pure x:=by intro _; rfl):PS X (.For tg iter body [] pos) (lr wi g tb):=by
 intro pins s σ H D I h;refine wpAny_For (bj (hi pins s σ H _ I h) λv s1 h1=>bj h1 λitv s2 h2=>?_) hs;obtain⟨it,fp,tn,J,H2,e,I2,T,st2,f2,W,⟨m0,w0⟩,turn⟩:=h2;subst e;have stat:∀{H':Hp},(∀b∈fp,H' b=none)->∀b∈fp,dE X pins H' b:=λhn b hb=>⟨hn b hb,(f2 b hb).2⟩
 refine codeAny_forLoop_any (λn s'=>∃i σ' H',Inv X pins σ' H' s'/\tn i s'.heap/\(∀b∈fp,H' b=none)/\W i n σ' H') ?_ m0 ⟨0,σ,H2,I2,st2,λb hb=>(f2 b hb).1,w0⟩;rintro n s3 ⟨i,σ3,H3,I3,st3,fr3,w3⟩;rcases turn i n σ3 H3 w3 with ⟨stop,qn⟩ | ⟨go,N,hN,step⟩
 .refine IT hp (bj (T.done X rfl rfl rfl hc i pins s3 σ3 H3 X.xe I3 (stat fr3) st3 stop) λr s4 hZz=>?_);obtain⟨hr,I4⟩:=hZz;subst hr;exact Jx ⟨σ3,H3,I4,qn⟩
 .refine IT hp (bj (T.item X rfl rfl rfl hc i pins s3 σ3 H3 X.xe I3 (stat fr3) st3 go) λr s4 hZz=>?_);obtain⟨u,hr,h4⟩:=hZz;subst hr;refine IT hp (bj h4 λ_ s5 hZz=>?_);obtain⟨x,H5,I5,r5,y5,st5,fr5⟩:=hZz;have I5':=I5.pinned (stat fr5) (T.obj _ _ st5);refine IT hp (bj (hg _ s5 σ3 H5 x u _ I5' r5 (step x H5 y5)) λ_ s6 hZz=>?_);obtain⟨σ6,H6,I6,q6⟩:=hZz;refine IT hp (bj (hb _ s6 σ6 H6 _ I6 q6) λf s7 q7=>?_);have again:∀{σ7:St} {H7:Hp},Inv X (pins++dG fp s5.heap) σ7 H7 s7->N σ7 H7->∃m,m<n/\∃i σ' H',Inv X pins σ' H' s7/\tn i s7.heap/\(∀b∈fp,H' b=none)/\W i m σ' H':=λ{σ7 H7} I7 n7=>by
   obtain⟨m',hm,w7⟩:=hN σ7 H7 n7;refine⟨m',hm,i+1,σ7,H7,I7.unpinned,T.keep _ _ _ st5 λb hb o e=>(I7.pin (b,o) (cP _ (cP _ (lR hb e)))).1,λb hb=>?_,w7⟩;obtain⟨o,e,d⟩:=T.obj _ _ st5 b hb;exact (I7.pin (b,o) (cP _ (cP _ (lR hb e)))).2.1
  cases f with
  | next=>obtain⟨σ7,H7,I7,n7⟩:=q7; exact again I7 n7
  | cont=>obtain⟨σ7,H7,I7,n7⟩:=q7; exact again I7 n7
  | brk=>obtain⟨σ7,H7,I7,q7⟩:=q7; exact⟨σ7,H7,I7.unpinned,q7⟩
  | ret v=>obtain⟨x7,σ7,H7,I7,r7,q7⟩:=q7; exact⟨x7,σ7,H7,I7.unpinned,r7,q7⟩
end
end L2
namespace L2
open PySem PySem.Spec PyProof.Rows
abbrev R2:=V->V->Hp->VK->Prop
def OpR (X:Cx)(f:Value->Value->Sem Value)(r:R2):Prop:=
 ∀(pins:ah) (s:Shared) (σ:St) (H:Hp) (x y:V) (v u:Value) (Q:VK),Inv X pins σ H s->RelV x v->RelV y u->r x y H Q ->
  wpAny (model X.prog X.w) X.A (f v u) (EP X pins σ Q) X.xe s
def rR (X:Cx)(f:Value->Sem Value)(r:V->Hp->VK->Prop):Prop:=
 ∀(pins:ah) (s:Shared) (σ:St) (H:Hp) (x:V) (v:Value) (Q:VK),Inv X pins σ H s->RelV x v->r x H Q ->
  wpAny (model X.prog X.w) X.A (f v) (EP X pins σ Q) X.xe s
def CallR (X:Cx)(f:Value)(r:aw->Hp->VK->Prop):Prop:=
 ∀(pins:ah) (s:Shared) (σ:St) (H:Hp) (xs:aw) (us:ar) (Q:VK),Inv X pins σ H s->Vals xs us->r xs H Q ->
  wpAny (model X.prog X.w) X.A (call f us) (EP X pins σ Q) X.xe s
def kX (r:R2)(ta tb:TE):TE:=λσ H Q=>ta σ H λx H1=>tb σ H1 λy H2=>r x y H2 Q
def qe (r:V->Hp->VK->Prop)(ta:TE):TE:=λσ H Q=>ta σ H λx H1=>r x H1 Q
def rI (C:Int->Int->Prop)(g:Int->Int->V):R2:=λx y H Q=>∃i j,x=.int i/\y=.int j/\C i j/\Q (g i j) H
def jw (g:Int->Int->V):R2:=λx y H Q=>∃i j,x=.int i/\y=.int j/\Q (g i j) H
def rU (g:Int->V):V->Hp->VK->Prop:=λx H Q=>∃i,x=.int i/\Q (g i) H
section
variable {X:Cx}{a b c:Expr}{ta tb tc:TE}{pos:Pos}
def lv (ha:PE X a ta)(hb:PE X b tb){pins:ah}{s:Shared}{σ:St}{H:Hp}{R:V->V->Hp->Prop}(I:Inv X pins σ H s)
  (h:ta σ H λx H1=>tb σ H1 λy H2=>R x y H2){Q:Value->Shared->Prop}{f:Value->Value->Sem Value}
  (hf:∀v u s2 x y H2,Inv X pins σ H2 s2->RelV x v->RelV y u->R x y H2->wpAny (model X.prog X.w) X.A (f v u) Q X.xe s2) :
  wpAny (model X.prog X.w) X.A (eval a X.env) (λv s₁=>wpAny (model X.prog X.w) X.A (eval b X.env) (λu s₂=>wpAny (model X.prog X.w) X.A (f v u) Q X.xe s₂) X.xe s₁) X.xe s:=by
 refine bj (ha pins s σ H _ I h) λv s1 hZz=>?_;obtain⟨x,H1,I1,r1,q1⟩:=hZz;refine bj (hb pins s1 σ H1 _ I1 q1) λu s2 hZz=>?_;obtain⟨y,H2,I2,r2,q2⟩:=hZz;exact hf v u s2 x y H2 I2 r1 r2 q2
def l5 {op:Operator}{r:R2}(ho:OpR X (binaryOp op) r)(ha:PE X a ta)(hb:PE X b tb):PE X (.BinOp a op b pos) (kX r ta tb):=by
 intro pins s σ H Q I h;exact wpAny_BinOp (lv ha hb I h λv u s2 x y H2 I2 rx ry q=>ho pins s2 σ H2 x y v u Q I2 rx ry q)
def AW {op:UnaryOp}{r:V->Hp->VK->Prop}(ho:rR X (unaryOp op) r)(ha:PE X a ta):PE X (.UnaryOp op a pos) (qe r ta):=by
 intro pins s σ H Q I h;exact UnaryOp_ (bj (ha pins s σ H _ I h) λv s1 ⟨x,H1,I1,r1,q1⟩=>ho pins s1 σ H1 x v Q I1 r1 q1)
def pk {f:Value->Value->Sem Value}{C:Int->Int->Prop}{g:Int->Int->Int}
  (rule:∀(i j:Int) (t u:Tok) (s:Shared) (Q:Value->Shared->Prop) (E:Value->Shared->Prop),C i j->Q (.int (g i j) s.toks) { s with toks:=s.toks+1 }->wpAny (model X.prog X.w) X.A (f (.int i t) (.int j u)) Q E s) :
  OpR X f (rI C λi j=>.int (g i j)):=by
 intro pins s σ H x y v u Q I rx ry h;obtain⟨i,j,rfl,rfl,hc,q⟩:=h;obtain⟨t,rfl⟩:=rx;obtain⟨t',rfl⟩:=ry;exact rule i j t t' s _ _ hc ⟨.int (g i j),H,I.tok _,⟨_,rfl⟩,q⟩
def mx {f:Value->Value->Sem Value}{g:Int->Int->Int}
  (rule:∀(i j:Int) (t u:Tok) (s:Shared) (Q:Value->Shared->Prop) (E:Value->Shared->Prop),Q (.int (g i j) s.toks) { s with toks:=s.toks+1 }->wpAny (model X.prog X.w) X.A (f (.int i t) (.int j u)) Q E s) :
  OpR X f (jw λi j=>.int (g i j)):=by
 intro pins s σ H x y v u Q I rx ry h;obtain⟨i,j,rfl,rfl,q⟩:=h;obtain⟨t,rfl⟩:=rx;obtain⟨t',rfl⟩:=ry;exact rule i j t t' s _ _ ⟨.int (g i j),H,I.tok _,⟨_,rfl⟩,q⟩
def iI {f:Value->Value->Sem Value}{g:Int->Int->Bool}
  (rule:∀(i j:Int) (t u:Tok) (s:Shared) (Q:Value->Shared->Prop) (E:Value->Shared->Prop),Q (.bool (g i j)) s->wpAny (model X.prog X.w) X.A (f (.int i t) (.int j u)) Q E s) :
  OpR X f (jw λi j=>.bl (g i j)):=by
 intro pins s σ H x y v u Q I rx ry h;obtain⟨i,j,rfl,rfl,q⟩:=h;obtain⟨t,rfl⟩:=rx;obtain⟨t',rfl⟩:=ry;exact rule i j t t' s _ _ ⟨.bl (g i j),H,I,rfl,q⟩
def sE (i j:Int):Prop:=0<=j/\j<=1000000/\i.natAbs<2 ^ 64
def CMul (i j:Int):Prop:=(-(2 ^ 64)<i/\i<2 ^ 64)\/(-(2 ^ 64)<j/\j<2 ^ 64)
def CMul.ok {i j:Int}(h:CMul i j):IntMulOk i j:=by
 rcases h with ⟨h1,h2⟩ | ⟨h1,h2⟩
 .exact .of_left (intBits_le_64 h1 h2)
 .exact .of_right (intBits_le_64 h1 h2)
def BU:OpR X (binaryOp .Add) (jw λi j=>.int (i+j)):=mx λ_ _ _ _ _ _ _ q=>add_int q
def Go:OpR X (binaryOp .Sub) (jw λi j=>.int (i - j)):=mx λ_ _ _ _ _ _ _ q=>sub_int q
def AJ:OpR X (binaryOp .Mult) (rI CMul λi j=>.int (i * j)):=pk λ_ _ _ _ _ _ _ hc q=>mul_int q hc.ok
def Bx:OpR X (binaryOp .Mod) (rI (λ_ j=>0<j) λi j=>.int (i % j)):=pk λi j _ _ _ _ _ hc q=>by
 have h1:(0:Int)<j:=hc;exact mod_int' (by omega) (by rw[Int.fmod_eq_emod_of_nonneg i (by omega)]; exact q)
def zc:OpR X (binaryOp .Pow) (rI sE λi j=>.int (i ^ j.toNat)):=pk λ_ _ _ _ _ _ _ hc q=>pow_int_small hc.1 hc.2.1 hc.2.2 q
def FK {f:Value->Sem Value}{g:Int->Int}
  (rule:∀(i:Int) (t:Tok) (s:Shared) (Q:Value->Shared->Prop) (E:Value->Shared->Prop),Q (.int (g i) s.toks) { s with toks:=s.toks+1 }->wpAny (model X.prog X.w) X.A (f (.int i t)) Q E s) :
  rR X f (rU λi=>.int (g i)):=by
 intro pins s σ H x v Q I rx h;obtain⟨i,rfl,q⟩:=h;obtain⟨t,rfl⟩:=rx;exact rule i t s _ _ ⟨.int (g i),H,I.tok _,⟨_,rfl⟩,q⟩
def AX:rR X (unaryOp .USub) (rU λi=>.int (-i)):=FK λ_ _ _ _ _ q=>neg_int q
end
noncomputable def scal:V->V->Bool
 | .non,.non=>true | .non,.int _=>true | .int _,.non=>true | .non,.bl _=>true | .bl _,.non=>true | .non,.str _=>true | .str _,.non=>true
 | .int _,.int _=>true | .bl _,.bl _=>true | .str _,.str _=>true | .byt _,.byt _=>true
 | .int _,.str _=>true | .str _,.int _=>true | .bl _,.str _=>true | .str _,.bl _=>true
 | _,_=>false
section
variable {X:Cx}{a b c:Expr}{ta tb tc:TE}{pos:Pos}
def y3:OpR X (compareOp .Lt) (jw λi j=>.bl (decide (i<j))):=iI λ_ _ _ _ _ _ _ q=>lt_int q
def DE:OpR X (compareOp .LtE) (jw λi j=>.bl (decide (i<=j))):=iI λ_ _ _ _ _ _ _ q=>le_int q
def FS:OpR X (compareOp .Gt) (jw λi j=>.bl (decide (j<i))):=iI λ_ _ _ _ _ _ _ q=>gt_int q
def Cf:OpR X (compareOp .GtE) (jw λi j=>.bl (decide (j<=i))):=iI λ_ _ _ _ _ _ _ q=>ge_int q
def OpR.or {f:Value->Value->Sem Value}{r r':R2}(h:OpR X f r)(h':OpR X f r'):OpR X f (λx y H Q=>r x y H Q\/r' x y H Q):=by
 intro pins s σ H x y v u Q I rx ry q;rcases q with q | q
 .exact h pins s σ H x y v u Q I rx ry q
 .exact h' pins s σ H x y v u Q I rx ry q
def kv (b:Expr){op:CmpOp}(h:op≠.In:=by decide)(h2:op≠.NotIn:=by decide):behindInMarks op b=false:=by
 have e1:(op == CmpOp.In)=false:=by cases op <;> first | rfl | exact absurd rfl h
 have e2:(op == CmpOp.NotIn)=false:=by cases op <;> first | rfl | exact absurd rfl h2
 cases b <;> simp[behindInMarks,e1,e2]
def Gr {op:CmpOp}{r:R2}(ho:OpR X (compareOp op) r)(ha:PE X a ta)(hb:PE X b tb)(hm:behindInMarks op b=false):PE X (.Compare a [op] [b] pos) (kX r ta tb):=by
 intro pins s σ H Q I h;exact wpAny_Compare1 (lv ha hb I h λv u s2 x y H2 I2 rx ry q=>ho pins s2 σ H2 x y v u Q I2 rx ry q) hm
def jT (t:TE):TT:=λσ H Q=>t σ H λx H'=>∃k,x=.bl k/\Q k H'
def BM {op:CmpOp}{r:R2}(ho:OpR X (compareOp op) r)(ha:PE X a ta)(hb:PE X b tb)(hm:behindInMarks op b=false):PT X (.Compare a [op] [b] pos) (jT (kX r ta tb)):=by
 intro pins s σ H Q I h;refine wpAny_isTrue_Compare1 (bj (ha pins s σ H _ I h) λv s1 ⟨x,H1,I1,r1,q1⟩=>bj (hb pins s1 σ H1 _ I1 q1) λu s2 ⟨y,H2,I2,r2,q2⟩=>
  bj (ho pins s2 σ H2 x y v u _ I2 r1 r2 q2) λc s3 ⟨z,H3,I3,r3,k,e,q3⟩=>?_) hm
 subst e;cases r3;exact Hi ⟨H3,I3,q3⟩
def eU (r r':R2)(ta tb tc:TE):TE:=λσ H Q=>ta σ H λx H1=>tb σ H1 λy H2=>r x y H2 λz H3=>∃k,z=.bl k /\
 (if k=true then tc σ H3 λw' H4=>r' y w' H4 Q else Q (.bl false) H3)
def FE {op op':CmpOp}{r r':R2}(ho:OpR X (compareOp op) r)(ho':OpR X (compareOp op') r')(ha:PE X a ta)(hb:PE X b tb)(hc:PE X c tc)
  (hm:lastMarks [op,op'] [b,c]=false:=by with_unfolding_all rfl):PE X (.Compare a [op,op'] [b,c] pos) (eU r r' ta tb tc):=by
 intro pins s σ H Q I h;refine Compare_chain (bj (ha pins s σ H _ I h) λv s1 ⟨x,H1,I1,r1,q1⟩=>chain_link (bj (hb pins s1 σ H1 _ I1 q1) λu s2 ⟨y,H2,I2,r2,q2⟩=>
  bj (ho pins s2 σ H2 x y v u _ I2 r1 r2 q2) λd s3 ⟨z,H3,I3,r3,k,e,q3⟩=>?_)) hm
 subst e;cases r3;refine Hi ?_;cases k with
 | false=>exact ite_ff ⟨.bl false,H3,I3,rfl,q3⟩
 | true=>exact ite_tt (chain_last (bj (hc pins s3 σ H3 _ I3 q3) λw' s4 ⟨z',H4,I4,r4,q4⟩=>ho' pins s4 σ H4 y z' u w' Q I4 r2 r4 q4))
def Ey {op op':CmpOp}{r r':R2}(ho:OpR X (compareOp op) r)(ho':OpR X (compareOp op') r')(ha:PE X a ta)(hb:PE X b tb)(hc:PE X c tc)
  (hm:lastMarks [op,op'] [b,c]=false:=by with_unfolding_all rfl):PT X (.Compare a [op,op'] [b,c] pos) (jT (eU r r' ta tb tc)):=by
 intro pins s σ H Q I h;refine isTrue_chain (bj (ha pins s σ H _ I h) λv s1 ⟨x,H1,I1,r1,q1⟩=>test_link (bj (hb pins s1 σ H1 _ I1 q1) λu s2 ⟨y,H2,I2,r2,q2⟩=>
  bj (ho pins s2 σ H2 x y v u _ I2 r1 r2 q2) λd s3 ⟨z,H3,I3,r3,k,e,q3⟩=>?_)) hm
 subst e;cases r3;refine Hi ?_;cases k with
 | false=>
  obtain⟨k',e',q'⟩:=q3;cases e';exact ite_ff ⟨H3,I3,q'⟩
 | true=>
  refine ite_tt (test_last (bj (hc pins s3 σ H3 _ I3 q3) λw' s4 ⟨z',H4,I4,r4,q4⟩=>bj (ho' pins s4 σ H4 y z' u w' _ I4 r2 r4 q4) λd' s5 hZz=>?_));obtain⟨z2,H5,I5,r5,k2,e2,q5⟩:=hZz;subst e2;cases r5;exact Hi ⟨H5,I5,q5⟩
def ff:(sizeLine:Nat)<2 ^ 63:=by rw[sizeLine_eq]; decide
def vals1 {x:V}{us:ar}(r:Vals [x] us):∃u,us=[u]/\RelV x u:=by
 cases r with
 | cons r1 r2=>cases r2; exact⟨_,rfl,r1⟩
def vals2 {x y:V}{us:ar}(r:Vals [x,y] us):∃u w',us=[u,w']/\RelV x u/\RelV y w':=by
 cases r with
 | cons r1 r2=>
  cases r2 with
  | cons r3 r4=>cases r4; exact⟨_,_,rfl,r1,r3⟩
end
end L2
namespace L2
open PySem PySem.Spec PyProof.Rows
structure ObjM (h:Heap)(x dx C:Addr)(mA:Str->aB):Prop where
 obj:h.get? x=some (PySem.W.instObj C dx)
 ns:h.Ns1 dx mA
 ne:dx≠x
def Dh {h:Heap}{dx:Addr}{mA:Str->aB}(n:h.Ns1 dx mA):∃od,h.get? dx=some od/\∀name,PySem.W.lookIn name od=some (mA name):=by
 obtain⟨o,es,ep,ho,hd,hk,_,hm⟩:=n;refine⟨o,ho,λname=>?_⟩;have e:=hm name;unfold nsFind findBy at e;rw[<-Array.find?_toList] at e;unfold PySem.W.lookIn;rw[hd];dsimp only;split
 .rename_i y q;rw[q] at e;exact congrArg some e
 .rename_i q;rw[q] at e;have a:es.toList.any (·.refKey)=false:=by
   rw[List.any_eq_false];intro y hy;obtain⟨z,t,hkey⟩:=hk y (Array.mem_toList_iff.mp hy);simp[DictEntry.refKey,hkey]
  have a':¬es.toList.any (·.refKey)=true:=by rw[a]; exact GX
  rw[if_neg a'];exact congrArg some e
def ObjM.look {h:Heap}{x dx C:Addr}{mA:Str->aB}(I:ObjM h x dx C mA):∃od,PySem.W.InstAt h x (PySem.W.instObj C dx) C (some od)/\∀name,PySem.W.lookIn name od=some (mA name):=
 let ⟨od,ho,hl⟩:=Dh I.ns
 ⟨od,⟨I.obj,rfl,rfl,ho⟩,hl⟩
section
variable {prog:Program}{w:World}{A:Around}{E:Value->Shared->Prop}{s:Shared}{K:bo}{x dx C f:Addr}{mA:Str->aB}{name:Str}{v:Value}
def yC {expr:Bool}{Q:Value->Shared->Prop}(X:K.In s.heap)(I:ObjM s.heap x dx C mA)(hg:PySem.W.plainGet K C name=true)(hh:PySem.W.hasDictIn K C=true)
  (ha:PySem.W.findIn K (.ref C) name=some none)(hv:mA name=some v)(hv':PySem.W.handedIn v=true)(h:Q v { s with toks:=s.toks+1 }) :
  wpAny (model prog w) A (getAttr (.ref x) name expr) Q E s:=by
 obtain⟨od,J,hl⟩:=I.look;exact PySem.W.get_value X J (JB hg).1 (PySem.W.findObj_own hh ha rfl (by rw[hl,hv])) hv' h
def CD {pl:Sem Bool}{Q:Value×ar->Shared->Prop}(X:K.In s.heap)(I:ObjM s.heap x dx C mA)(hg:PySem.W.plainGet K C name=true)
  (hf:PySem.W.findIn K (.ref C) name=some (some (.ref f)))(ht:PySem.W.isFn K (.ref f)=true)(hv:mA name=none)(h:Q (.ref f,[.ref x]) s) :
  wpAny (model prog w) A (getMethod (.ref x) name pl) Q E s:=by
 obtain⟨od,J,hl⟩:=I.look;exact PySem.W.method_fn X J (JB hg).1 (JB hg).2 hf (GC.mp ht) (by show (PySem.W.lookIn name od).map (·.isSome)=some false; rw[hl,hv]; rfl) h
def BR {ns:au}{Q:Unit->Shared->Prop}(X:K.In s.heap)(I:ObjM s.heap x dx C mA)
  (hs:PySem.W.findIn K (.ref C) "__setattr__" = some (some (.builtin "object.__setattr__")))(hp:PySem.W.plainOver K C=true)(ht:PySem.W.takerIn K C name=some none)(hh:PySem.W.hasDictIn K C=true)
  (hw:PySem.Within mA ns)(hsz:ns.length<=sizeLine)
  (h:∀h',ObjM h' x dx C (λy=>if y=name then some v else mA y)->Heap.SameBut dx s.heap h'->Q () { s with heap:=h',toks:=s.toks+2 }) :
  wpAny (model prog w) A (setAttr (.ref x) name v) Q E s:=by
 obtain⟨od,J,hl⟩:=I.look;refine PySem.W.set_plain X J hs (PySem.W.osa_open (s:={ s with toks:=s.toks+1 }) (r:=none) X J hp ht λb=>?_);obtain⟨cd,hc,hd'⟩:=PySem.W.any_some hh;have hx:s.heap.get? x=some ⟨.ref C,some dx,.plain,#[]⟩:=I.obj;refine aM (aV (aM (aM (wpAny_loadPart hx (aM (PySem.W.Looks.here (s:={ s with toks:=s.toks+1 }) (PySem.W.looks_clsIn X hc) ?_))))));rw[hd'];refine aV (a:=some dx) (aM (aV (aM ?_)));refine wpAny_nsSet1 (s:={ s with toks:=s.toks+1 }) I.ns λh' hn2 hs2=>?_;obtain⟨oD,esD,epD,hoD,hdD,hcD⟩:=hn2.count (PySem.Within.cons name v hw);refine aM (wpAny_lookBehind hoD (by rw[hdD]; exact pastItsLine_dict (ce hcD (by rw[List.length_cons]; omega))) ?_);exact aV (h _ ⟨(hs2.2 _ (HV I.ne)).trans I.obj,hn2,I.ne⟩ hs2)
def BH {R:Result->Shared->Prop}{vs:ar}{kw:aj}(X:K.In s.heap)(hm:PySem.W.makesIn K C=true)
  (hi:PySem.W.findIn K (.ref C) "__init__" = some (some (.ref f)))(hf:PySem.W.typeIn K (.ref f)=some (.type "function"))
  (h:codeAny (model prog w) (A.under (.builtin "type.__call__" ⟨.ref C::vs,kw⟩)) (.call (.ref f) ⟨.ref (s.heap.objs.size+1)::vs,kw⟩) (PySem.W.InitBack (s.heap.objs.size+1) R)
   { s with heap:=(s.heap.push PySem.W.emptyDict).push (PySem.W.instObj C s.heap.objs.size) }) :
  codeAny (model prog w) A (.call (.ref C) ⟨vs,kw⟩) R s:=by
 obtain⟨hh,g,d,t,os⟩:=s;exact PySem.W.make_core (PySem.W.makes_of X hm) (PySem.W.looks_findIn X hi) (λself=>PySem.W.bind_fn X self hf) (.inl rfl) h
end
noncomputable def putF (f:Str)(v:V):List (Str×V)->List (Str×V)
 | []=>[(f,v)]
 | (g,x)::r=>if g=f then (g,v)::r else (g,x)::putF f v r
theorem sG (f g:Str)(v:V):∀fs:List (Str×V),(putF f v fs).lookup g=if g=f then some v else fs.lookup g
 | []=>by
  show List.lookup g [(f,v)]=_;by_cases h:g=f
  .have hb:(g == f)=true:=GC.mpr h;simp only[List.lookup,hb,if_pos h]
  .have hb:(g == f)=false:=Hf.mpr h;simp only[List.lookup,hb,if_neg h]
 | (k,x)::r=>by
  have ih:=sG f g v r;rw[show putF f v ((k,x)::r)=(if k=f then (k,v)::r else (k,x)::putF f v r) from rfl];by_cases hk:k=f
  .rw[if_pos hk];by_cases h:g=k
   .have hb:(g == k)=true:=GC.mpr h;simp only[List.lookup,hb,if_pos (h.trans hk)]
   .have hb:(g == k)=false:=Hf.mpr h;simp only[List.lookup,hb,if_neg (λe:g=f=>h (e.trans hk.symm))]
  .rw[if_neg hk];by_cases h:g=k
   .have hb:(g == k)=true:=GC.mpr h;simp only[List.lookup,hb,if_neg (λe:g=f=>hk (h.symm.trans e))]
   .have hb:(g == k)=false:=Hf.mpr h;simp only[List.lookup,hb];exact ih
theorem nO (f:Str)(v:V):∀fs:List (Str×V),f∈(putF f v fs).map (·.1)/\∀g,g∈fs.map (·.1)->g∈(putF f v fs).map (·.1)
 | []=>⟨by simp[putF],λg h=>by simp at h⟩
 | (k,x)::r=>by
  obtain⟨i1,i2⟩:=nO f v r;rw[show putF f v ((k,x)::r)=(if k=f then (k,v)::r else (k,x)::putF f v r) from rfl];by_cases hk:k=f
  .rw[if_pos hk];subst hk;exact⟨by simp,λg h=>by simpa using h⟩
  .rw[if_neg hk];refine⟨?_,λg h=>?_⟩
   .rw[GB];exact bQ _ i1
   .rw[GB] at h ⊢;rcases cH h with e | e
    .exact GL.mpr (.inl e)
    .exact bQ _ (i2 g e)
theorem pR (f:Str)(v:V):∀fs:List (Str×V),(putF f v fs).length<=fs.length+1
 | []=>by simp[putF]
 | (k,x)::r=>by
  have ih:=pR f v r;rw[show putF f v ((k,x)::r)=(if k=f then (k,v)::r else (k,x)::putF f v r) from rfl];by_cases hk:k=f
  .rw[if_pos hk,List.length_cons,List.length_cons]; omega
  .rw[if_neg hk,List.length_cons,List.length_cons]; omega
def RelO.some_of {v:V}{o:aB}(r:RelO (some v) o):∃u,o=some u/\RelV v u:=by
 cases o with
 | none=>exact (show False from r).elim
 | some u=>exact⟨u,rfl,r⟩
def RelO.none_of {o:aB}(r:RelO none o):o=none:=by
 cases o with
 | none=>rfl
 | some u=>exact (show False from r).elim
def uM {v:V}{u:Value}(r:RelV v u):PySem.W.handedIn u=true:=by
 cases v with
 | non=>cases (show u=Value.none from r); rfl
 | bl b=>cases (show u=Value.bool b from r); rfl
 | int i=>obtain⟨t,e⟩:=(show ∃t,u=Value.int i t from r); cases e; rfl
 | str x=>obtain⟨t,e⟩:=(show ∃t,u=Value.str x t from r); cases e; rfl
 | byt b=>obtain⟨t,e⟩:=(show ∃t,u=Value.bytes b t from r); cases e; rfl
 | flt b=>obtain⟨t,e⟩:=(show ∃t,u=Value.float b t from r); cases e; rfl
 | ref a=>cases (show u=Value.ref a from r); rfl
 | ty n=>cases (show u=Value.type n from r); rfl
section
variable {P:Program}{w:World}{H H':Hp}{h h':Heap}{a C dx:Addr}{fs fs':List (Str×V)}
def nD (hok:HOk P w H h)(e:H a=some (.ins C dx fs)):∃mA,ObjM h a dx C mA/\(∀f,RelO (fs.lookup f) (mA f))/\PySem.Within mA (fs.map (·.1))/\fs.length<=1000/\H dx=some (.own a):=by
 obtain⟨d,z,ne,ob,mA,n,r,q⟩:=(show ObjOk P w H h a (.ins C dx fs) from hok a _ e)
 exact⟨mA,⟨ob,n,ne⟩,r,q,z,d⟩
end
structure Cls (K:bo)(C:Addr):Prop where
 pg:PySem.W.plainGet K C Str.empty=true
 hd:PySem.W.hasDictIn K C=true
 po:PySem.W.plainOver K C=true
 sa:PySem.W.findIn K (.ref C) "__setattr__" = some (some (.builtin "object.__setattr__"))
def Cls.get {K:bo}{C:Addr}(c:Cls K C)(f:Str):PySem.W.plainGet K C f=true:=c.pg
def NoAttr (K:bo)(C:Addr)(f:Str):Prop:=PySem.W.findIn K (.ref C) f=some none
def NoAttr.taker {K:bo}{C:Addr}{f:Str}(n:NoAttr K C f):PySem.W.takerIn K C f=some none:=by
 unfold PySem.W.takerIn;rw[show PySem.W.findIn K (.ref C) f=some none from n];rfl
structure Meth (K:bo)(C:Addr)(m:Str)(f:Addr):Prop where
 at_:PySem.W.findIn K (.ref C) m=some (some (.ref f))
 fn:PySem.W.isFn K (.ref f)=true
 kp:PySem.W.keepIn K (.ref f)=true
section
variable {X:Cx}{pins:ah}{σ:St}{H:Hp}{s:Shared}{a C dx:Addr}{fs:List (Str×V)}{f:Str}{v:V}{A:Around}{E:Value->Shared->Prop}
def B2 {b:Bool}{Q:Value->Shared->Prop}(I:Inv X pins σ H s)(e:H a=some (.ins C dx fs))(c:Cls X.K C)(n:NoAttr X.K C f)(l:fs.lookup f=some v)
  (h:∀u s',Inv X pins σ H s'->RelV v u->Q u s'):wpAny (model X.prog X.w) A (getAttr (.ref a) f b) Q E s:=by
 obtain⟨mA,O,r,_,_,_⟩:=nD I.hok e;obtain⟨u,hu,ru⟩:=RelO.some_of (v:=v) (o:=mA f) (by rw[<-l]; exact r f);exact yC I.kIn O (c.get f) c.hd n hu (uM ru) (h u _ (I.tok _) ru)
def tF {m:Str}{g:Addr}{pl:Sem Bool}{Q:Value×ar->Shared->Prop}(I:Inv X pins σ H s)(e:H a=some (.ins C dx fs))(c:Cls X.K C)(k:Meth X.K C m g)(l:fs.lookup m=none)
  (h:Q (.ref g,[.ref a]) s):wpAny (model X.prog X.w) A (getMethod (.ref a) m pl) Q E s:=by
 obtain⟨mA,O,r,_,_,_⟩:=nD I.hok e;have hn:mA m=none:=RelO.none_of (by rw[<-l]; exact r m);exact CD I.kIn O (c.get m) k.at_ k.fn hn h
def Aj {y:V}{u:Value}{Q:Unit->Shared->Prop}(I:Inv X pins σ H s)(e:H a=some (.ins C dx fs))(c:Cls X.K C)(n:NoAttr X.K C f)(hl:fs.length<1000)(ry:RelV y u)
  (h:∀s',Inv X pins σ (upd H a (.ins C dx (putF f y fs))) s'->Q () s'):wpAny (model X.prog X.w) A (setAttr (.ref a) f u) Q E s:=by
 obtain⟨mA,O,r,wi,_,ho⟩:=nD I.hok e;have hz:(fs.map (·.1)).length<=sizeLine:=by rw[GA,sizeLine_eq]; omega
 refine BR I.kIn O c.sa c.po n.taker c.hd wi hz λh' O' sb=>h _ ?_;have hd:∃o,h'.get? dx=some o:=let ⟨o,_,_,e',_⟩:=O'.ns; ⟨o,e'⟩
 refine I.write (x:=a) (e:=dx) (by rw[e]; exact IA) (.inr ho) (λb q hb z=>(sb.2 b hb).trans z) hd ?_;refine⟨by rw[bP O.ne]; exact ho,?_,O.ne,O'.obj,_,O'.ns,λg=>?_,λg hg=>?_⟩
 .have:=pR f y fs; omega
 .show RelO ((putF f y fs).lookup g) (if g=f then some u else mA g);rw[sG];by_cases q:g=f
  .rw[if_pos q,if_pos q]; exact ry
  .rw[if_neg q,if_neg q]; exact r g
 .by_cases q:g=f
  .rw[q]; exact (nO f y fs).1
  .refine (nO f y fs).2 g (wi g λz=>hg ?_);show (if g=f then some u else mA g)=none;rw[if_neg q]; exact z
def Inv.made (I:Inv X pins σ H s):Inv X pins σ (upd (upd H s.heap.objs.size (.own (s.heap.objs.size+1))) (s.heap.objs.size+1) (.ins C s.heap.objs.size []))
  { s with heap:=(s.heap.push PySem.W.emptyDict).push (PySem.W.instObj C s.heap.objs.size) }:=by
 have e1:(s.heap.push PySem.W.emptyDict).get? s.heap.objs.size=some PySem.W.emptyDict:=dm s.heap rfl;have e2:((s.heap.push PySem.W.emptyDict).push (PySem.W.instObj C s.heap.objs.size)).get? (s.heap.objs.size+1)=some (PySem.W.instObj C s.heap.objs.size):=by
  have:=dm (s.heap.push PySem.W.emptyDict) (o:=PySem.W.instObj C s.heap.objs.size) rfl
  rwa [GI] at this
 have e3:(s.heap.push PySem.W.emptyDict).Ns s.heap.objs.size (λ_=>none):=⟨PySem.W.emptyDict,#[],_,e1,rfl,(λe he=>absurd he (by simp)),λ_=>rfl⟩
 have I1:=I.laid (a:=s.heap.objs.size) (o:=.own (s.heap.objs.size+1)) (h':=s.heap.push PySem.W.emptyDict) (t':=s.toks) (λb u q=>bH _ q) (bI _) ⟨_,e1⟩;refine I1.laid (a:=s.heap.objs.size+1) (o:=.ins C s.heap.objs.size []) (t':=s.toks) (λb u q=>bH _ q) (JE (GI _ _)) ?_;have ne:s.heap.objs.size≠s.heap.objs.size+1:=di (Ia _);refine⟨by rw[bP ne,cm],Hr _,ne,e2,λ_=>none,(Heap.Ns1.of_empty e3).at λo q=>bH _ q,λ_=>IA,λy hy=>absurd rfl hy⟩
def vv {prog:Program}{w:World}{env:Env}{e:Expr}{f:Str}{pos:Pos}{s:Shared}{Q:Value->Shared->Prop}(hb:attributeBase e f env (eval e env)=eval e env)
  (h:wpAny (model prog w) A (eval e env) (λo s₁=>wpAny (model prog w) A (getAttr o f true) Q E s₁) E s):wpAny (model prog w) A (eval (.Attribute e f pos) env) Q E s:=
 Attribute_any_ h (by rw[arm_eval_Attribute,hb])
end
def qA (K:bo)(ta:TE)(f:Str):TE:=λσ H Q=>ta σ H λx H1=>∃a C dx fs v,x=.ref a/\H1 a=some (.ins C dx fs)/\Cls K C/\NoAttr K C f/\fs.lookup f=some v/\Q v H1
def iP (K:bo)(ta tv:TE)(f:Str):TS:=λD σ H=>tv σ H λy H1=>ta σ H1 λx H2=>∃a C dx fs,x=.ref a/\H2 a=some (.ins C dx fs)/\Cls K C/\NoAttr K C f/\fs.length<1000 /\
 D.nx σ (upd H2 a (.ins C dx (putF f y fs)))
section
variable {X:Cx}{o e value:Expr}{f:Str}{pos pos' tpos:Pos}{ta tv:TE}
def BA (he:PE X e ta)(hb:attributeBase e f X.env (eval e X.env)=eval e X.env):PE X (.Attribute e f pos) (qA X.K ta f):=by
 intro pins s σ H Q I h;refine vv hb (bj (he pins s σ H _ I h) λu s1 hZz=>?_);obtain⟨x,H1,I1,rx,a,C,dx,fs,v,ex,ea,c,n,l,q⟩:=hZz;subst ex;obtain rfl:u=Value.ref a:=rx;exact B2 I1 ea c n l λu' s2 I2 ru=>⟨v,H1,I2,ru,q⟩
def AD (ha:PE X o ta)(hv:PE X value tv)(hs:swapsWith value (some (.Attribute o f pos')) pos.line X.env=pure false):PS X (.Assign [.Attribute o f pos'] value pos) (iP X.K ta tv f):=by
 intro pins s σ H D I h;refine plainObj_wpAny_Assign_Attribute (bj (hv pins s σ H _ I h) λu s1 ⟨y,H1,I1,ry,q⟩=>bj (ha pins s1 σ H1 _ I1 q) λov s2 hZz=>?_) hs;obtain⟨x,H2,I2,rx,a,C,dx,fs,ex,ea,c,n,l,q2⟩:=hZz;subst ex;obtain rfl:ov=Value.ref a:=rx;exact Aj I2 ea c n l ry λs3 I3=>⟨σ,_,I3,q2⟩
end
section
variable {X:Cx}{pins:ah}{σ:St}{H:Hp}{s:Shared}{A:Around}{E:Value->Shared->Prop}{Q:Value->Shared->Prop}{c:Value}{b:Bool}
inductive TyOf (K:bo) (H:Hp):V->Value->Prop where
 | non:TyOf K H .non (.type "NoneType")
 | bl (x:Bool):TyOf K H (.bl x) (.type "bool")
 | int (i:Int):TyOf K H (.int i) (.type "int")
 | str (x:Str):TyOf K H (.str x) (.type "str")
 | flt (x:UInt64):TyOf K H (.flt x) (.type "float")
 | lst {a:Addr} {xs:aw} (e:H a=some (.lst xs)):TyOf K H (.ref a) (.type "list")
 | frz {a:Addr} {o:Obj} {xs:aw} (e:H a=some (.frz o (.lst xs))):TyOf K H (.ref a) (.type "list")
 | tup {a:Addr} {xs:aw} (e:H a=some (.tup xs)):TyOf K H (.ref a) (.type "tuple")
 | dK {a:Addr} {kvs:List (ft×V)} (e:H a=some (.dK kvs)):TyOf K H (.ref a) (.type "dict")
 | dT {a:Addr} {kvs:List (List ft×V)} (e:H a=some (.dT kvs)):TyOf K H (.ref a) (.type "dict")
 | ins {a C dx:Addr} {fs:List (Str×V)} (e:H a=some (.ins C dx fs)) (cl:Cls K C) (ha:PySem.W.findIn K (.ref C) "__class__" = some (some (.builtin "object.__class__")))
   (hn:PySem.W.specialIn K (.builtin "object.__class__") "__get__" = some (some (.builtin "getset_descriptor.__get__"))) (htk:PySem.W.takesIn K (.builtin "object.__class__")=some true)
   (hm:PySem.W.mroIn K C (.type "object")=some true):TyOf K H (.ref a) (.ref C)
def jH {x:V}{u t:Value}(I:Inv X pins σ H s)(rx:RelV x u)(ty:TyOf X.K H x t)(e:PySem.W.kitOne X.K t c=some b)(h:∀tk,Q (.bool b) { s with toks:=tk }) :
  wpAny (model X.prog X.w) A (call (.builtin "isinstance") [u,c]) Q E s:=by
 cases ty with
 | non=>cases (show u=Value.none from rx); exact G7 PySem.W.kitx_none I.kIn IA e (λz=>nomatch z) h
 | bl y=>cases (show u=Value.bool y from rx); exact G7 PySem.W.kitx_bool I.kIn IA e (λz=>nomatch z) h
 | int i=>obtain⟨t,q⟩:=(show ∃t,u=Value.int i t from rx); cases q; exact G7 PySem.W.kitx_int I.kIn IA e (λz=>nomatch z) h
 | str y=>obtain⟨t,q⟩:=(show ∃t,u=Value.str y t from rx); cases q; exact G7 PySem.W.kitx_str I.kIn IA e (λz=>nomatch z) h
 | flt y=>obtain⟨t,q⟩:=(show ∃t,u=Value.float y t from rx); cases q; exact G7 PySem.W.kitx_float I.kIn IA e (λz=>nomatch z) h
 | @lst a xs ea=>
  cases (show u=Value.ref a from rx);obtain⟨_,_,n,_,h1⟩:=(show ObjOk X.prog X.w H s.heap a (.lst xs) from I.hok a _ ea)
  exact G7 JQ I.kIn ⟨_,h1,rfl⟩ e (λz=>nomatch z) h
 | @frz a ob xs ea=>
  cases (show u=Value.ref a from rx);obtain⟨_,_,_,n,_,h1⟩:=(show ObjOk X.prog X.w H s.heap a (.frz ob (.lst xs)) from I.hok a _ ea)
  exact G7 JQ I.kIn ⟨_,h1,rfl⟩ e (λz=>nomatch z) h
 | @tup a xs ea=>
  cases (show u=Value.ref a from rx);obtain⟨_,_,_,p⟩:=(show ObjOk X.prog X.w H s.heap a (.tup xs) from I.hok a _ ea)
  obtain⟨o,h1,h2,_⟩:=p;exact G7 JG I.kIn ⟨o,h1,h2⟩ e (λz=>nomatch z) h
 | @dK a kvs ea=>
  cases (show u=Value.ref a from rx);obtain⟨_,_,vs,_,p⟩:=(show ObjOk X.prog X.w H s.heap a (.dK kvs) from I.hok a _ ea)
  obtain⟨o,es,ep,h1,h2,_⟩:=p;exact G7 PySem.W.kitx_dict I.kIn ⟨o,h1,h2.1⟩ e (λz=>nomatch z) h
 | @dT a kvs ea=>
  cases (show u=Value.ref a from rx);obtain⟨_,_,xs,_,o,es,ep,h1,h2,_⟩:=(show ObjOk X.prog X.w H s.heap a (.dT kvs) from I.hok a _ ea)
  exact G7 PySem.W.kitx_dict I.kIn ⟨o,h1,h2.1⟩ e (λz=>nomatch z) h
 | @ins a C dx fs ea cl ha hn htk hm=>
  cases (show u=Value.ref a from rx);obtain⟨mA,O,_⟩:=nD I.hok ea;obtain⟨od,J,_⟩:=O.look;exact G7 (PySem.W.kitx_own (cl.get _) cl.hd ha hn htk hm) I.kIn J e (λz=>nomatch z) h
end
end L2
namespace L2
open PySem PySem.Spec PyProof.Rows
structure Room (k:Nat)(A:Around):Prop where
 hd:A.handled=none
 dp:A.depth+3 * k+5<recursionLimit
 un:A.units+16 * k+200<cLine
def Room.mono {j k:Nat}{A:Around}(r:Room k A)(h:j<=k):Room j A:=⟨r.hd,by have:=r.dp; omega,by have:=r.un; omega⟩
theorem Room.deeper {k:Nat}{A:Around}(r:Room (k+1) A)(env:Env):Room k (A.deeper env):=
 ⟨r.hd,by have:=r.dp; show A.depth+1+3 * k+5<_; omega,by have:=r.un; show A.units+3+16 * k+200<_; omega⟩
def Cy {A:Around}{C:Addr}{us:ar}{kw:aj}:(A.under (.builtin "type.__call__" ⟨.ref C::us,kw⟩)).depth=A.depth+1:=by
 first | rfl | simp[Around.under,Code.weight,Code.isCreation,Code.isGuard,Code.isCaller,Code.frames,Code.isFrame,guardIds]
def FJ {A:Around}{C:Addr}{us:ar}{kw:aj}:(A.under (.builtin "type.__call__" ⟨.ref C::us,kw⟩)).units=A.units+1:=by
 first | rfl | simp[Around.under,Code.cUnits,Code.frames,Code.isFrame]
def Room.make {k:Nat}{A:Around}(r:Room (k+1) A)(C:Addr)(us:ar)(kw:aj):Room k (A.under (.builtin "type.__call__" ⟨.ref C::us,kw⟩)):=
 ⟨r.hd,by have:=r.dp; rw[Cy]; omega,by have:=r.un; rw[FJ]; omega⟩
theorem Room.depth {k:Nat}{A:Around}(r:Room k A):A.depth<recursionLimit:=by have:=r.dp; omega
theorem Room.units {k:Nat}{A:Around}(r:Room k A):A.units+64<cLine:=by have:=r.un; omega
def eH:TA:=λ_ H Q=>Q [] H
def cC (ta:TE)(tr:TA):TA:=λσ H Q=>ta σ H λx H1=>tr σ H1 λxs H2=>Q (x::xs) H2
section
variable {X:Cx}{e:Expr}{es:av}{te:TE}{t:TA}{pos:Pos}
def jx:PA X [] eH:=λ_ _ _ _ H Q I h=>Ix ⟨[],H,I,.nil,h⟩
def hV (ha:PE X e te)(hr:PA X es t)(hs:starEach (e::es) X.env=(false,eval e X.env)::starEach es X.env:=by rfl):PA X (e::es) (cC te t):=by
 intro pos pins s σ H Q I h;rw[hs];show wpAny _ _ (spliced ((false,eval e X.env)::backTo pos (starEach es X.env))) _ _ s;refine Ih (bj (ha pins s σ H _ I h) λu s1 hZz=>?_);obtain⟨x,H1,I1,r1,q1⟩:=hZz;exact bj (hr pos pins s1 σ H1 _ I1 q1) λus s2 ⟨xs,H2,I2,r2,q2⟩=>⟨x::xs,H2,I2,.cons r1 r2,q2⟩
def sB (t:TA):TE:=λσ H Q=>t σ H λxs H1=>xs.length<=sizeLine/\∀p,H1 p=none->Q (.ref p) (upd H1 p (.tup xs))
def sH (t:TA):TE:=λσ H Q=>t σ H λxs H1=>xs.length<=sizeLine/\∀p,H1 p=none->Q (.ref p) (upd H1 p (.lst xs))
def wK {x1}(h:PA X es t):PE X (.Tuple es x1 pos) (sB t):=by
 intro pins s σ H Q I hq;refine wpAny_Tuple_spliced (bj (h pos pins s σ H _ I hq) λus s1 ⟨xs,H1,I1,r,z,q⟩=>⟨by rw[<-r.length]; exact z,?_⟩);have hf:H1 s1.heap.objs.size=none:=I1.hok.fresh (bI _);refine⟨.ref s1.heap.objs.size,upd H1 s1.heap.objs.size (.tup xs),I1.laid (t':=s1.toks) (λb u e=>bH _ e) (bI _) ?_,rfl,q _ hf⟩;exact⟨z,us,r,⟨_,dm _ rfl,rfl,⟨_,rfl⟩,rfl⟩⟩
def CC (h:PA X es t):PE X (.List es pos) (sH t):=by
 intro pins s σ H Q I hq;refine wpAny_List_spliced (bj (h pos pins s σ H _ I hq) λus s1 ⟨xs,H1,I1,r,z,q⟩=>⟨by rw[<-r.length]; exact z,?_⟩);have hf:H1 s1.heap.objs.size=none:=I1.hok.fresh (bI _);refine⟨.ref s1.heap.objs.size,upd H1 s1.heap.objs.size (.lst xs),I1.laid (t':=s1.toks) (λb u e=>bH _ e) (bI _) ?_,rfl,q _ hf⟩;exact⟨z,us,0,r,dm _ rfl⟩
end
abbrev Sp:=aw->Hp->VK->XK->Prop
noncomputable abbrev gG:=List Env->Hp->Shared->XK->Value->Shared->Prop
structure Env0 (P:Program)(w:World)(K:bo)(mg:Str->aB)(base:Heap)(A:Around)(outer:List Env)(s:Shared)(H:Hp):Prop where
 frames:A.frames=some outer
 mod:Mod K mg base
 bs:∀b o,base.get? b=some o->s.heap.get? b=some o/\H b=none
 bsz:base.objs.size<=s.heap.objs.size
 funs:s.heap.FunFrames base outer
 frf:∀b∈f9 outer,H b=none
 hok:HOk P w H s.heap
 bare:AllBare s.gens
def CE (outer:List Env)(P:Program)(w:World)(H:Hp)(s:Shared)(Q:VK)(u:Value)(s':Shared):Prop:=
 ∃v H',s'.os=s.os/\AllBare s'.gens/\Un (f9 outer) [] H H' s.heap s'.heap/\HOk P w H' s'.heap/\RelV v u/\Q v H'
def CR (CX:gG)(outer:List Env)(P:Program)(w:World)(H:Hp)(s:Shared)(Q:VK)(E:XK)(r:Result)(s':Shared):Prop:=
 match r with
 | .ok (.ret u)=>CE outer P w H s Q u s'
 | .ok _=>False
 | .error e=>CX outer H s E e s'
structure FnOk (P:Program)(w:World)(K:bo)(mg:Str->aB)(base:Heap)(CX:gG)(k:Nat)(f:Addr)(fd:FuncData)(ps:au)(sp:Sp):Prop where
 len:∀vs H Q E,sp vs H Q E->vs.length=ps.length
 run:∀(A:Around) (outer:List Env) (s:Shared) (H:Hp) (args:Args) (us:ar) (vs:aw) (Q:VK) (E:XK),Room k A->Env0 P w K mg base A outer s H->BindsTo s fd args (ps.zip us)->Vals vs us->sp vs H Q E ->
  codeAny (model P w) A (.call (.ref f) args) (CR CX outer P w H s Q E) s
def FnOk.imp {P:Program}{w:World}{K:bo}{mg:Str->aB}{base:Heap}{CX:gG}{k:Nat}{f:Addr}{fd:FuncData}{ps:au}{sp sp':Sp}(F:FnOk P w K mg base CX k f fd ps sp)
  (h:∀vs H Q E,sp' vs H Q E->sp vs H Q E):FnOk P w K mg base CX k f fd ps sp':=
 ⟨λvs H Q E q=>F.len vs H Q E (h _ _ _ _ q),λA outer s H args us vs Q E hr he hb hv hs=>F.run A outer s H args us vs Q E hr he hb hv (h _ _ _ _ hs)⟩
def Env0.make {P:Program}{w:World}{K:bo}{mg:Str->aB}{base:Heap}{A:Around}{outer:List Env}{s:Shared}{H:Hp}(e:Env0 P w K mg base A outer s H)(C:Addr)(us:ar)(kw:aj) :
  Env0 P w K mg base (A.under (.builtin "type.__call__" ⟨.ref C::us,kw⟩)) outer s H:=⟨by first | exact e.frames | (simpa[Around.under,Code.envs,Code.isFrame,pushEnvs] using e.frames),e.mod,e.bs,e.bsz,e.funs,e.frf,e.hok,e.bare⟩
section
variable {X:Cx}{pins:ah}{σ:St}{H:Hp}{s s':Shared}
def Inv.env0 (I:Inv X pins σ H s):Env0 X.prog X.w X.K X.mg X.base X.A X.stack s H:=
 ⟨I.ok.frames,I.ok.mod,I.bs,ce I.ok.bsz I.sz,I.stack,I.stkFree,I.hok,I.bare⟩
def Inv.after {Q:VK}{u:Value}(I:Inv X pins σ H s)(h:CE X.stack X.prog X.w H s Q u s'):EP X pins σ Q u s':=by
 obtain⟨v,H',os,bare,un,hok,r,q⟩:=h;obtain⟨hh,g,d,t,os'⟩:=s';obtain rfl:os'=s.os:=os;exact⟨v,H',I.call (h':=hh) (g':=g) (d':=d) (t':=t) (ch:=[]) un hok bare (λb z=>absurd z (by simp)),r,q⟩
end
def gC (sp:Sp)(dvs:aw)(E:St->XK)(t:TA):TE:=λσ H Q=>t σ H λvs H1=>sp (vs++dvs) H1 Q (E σ)
def fJ (C:Addr)(m:Str)(sp:Sp)(dvs:aw)(E:St->XK)(ta:TE)(t:TA):TE:=λσ H Q=>ta σ H λx H1=>∃a dx fs,x=.ref a/\H1 a=some (.ins C dx fs)/\fs.lookup m=none /\
 t σ H1 λvs H2=>sp (x::(vs++dvs)) H2 Q (E σ)
def gr (C:Addr)(sp:Sp)(dvs:aw)(E:St->XK)(t:TA):TE:=λσ H Q=>t σ H λvs H1=>∀x dx,H1 x=none->H1 dx=none->dx≠x ->
 sp (.ref x::(vs++dvs)) (upd (upd H1 dx (.own x)) x (.ins C dx [])) (λv H2=>v=.non/\Q (.ref x) H2) (E σ)
def Binds (K:bo)(fd:FuncData)(ps:au)(ds:ar):Prop:=
 ∀(s:Shared) (us:ar),K.In s.heap->(us++ds).length=ps.length->BindsTo s fd ⟨us,[]⟩ (ps.zip (us++ds))
def Binds.all {K:bo}{fd:FuncData}{ps:au}(h:∀us:ar,us.length=ps.length->bindArgs fd ⟨us,[]⟩=pure (ps.zip us)):Binds K fd ps []:=λs us _ hl=>by
 rw[HJ] at hl ⊢;exact .of_eq (h us hl)
def bz (CX:gG)(X:Cx)(E:St->XK):Prop:=∀(pins:ah) (σ:St) (H:Hp) (s:Shared) (e:Value) (s':Shared),Inv X pins σ H s->CX X.stack H s (E σ) e s'->X.xe e s'
section
variable {X:Cx}{CX:gG}{k:Nat}{f C:Addr}{fd:FuncData}{ps:au}{sp:Sp}{dvs:aw}{ds:ar}{E:St->XK}{x m:Str}{p pos apos:Pos}{e o:Expr}{es:av}{ta:TE}{t:TA}
def og {pins:ah}{σ:St}{H:Hp}{s:Shared}{Q:VK}{us:ar}{vs:aw}(F:FnOk X.prog X.w X.K X.mg X.base CX k f fd ps sp)(hr:Room k X.A)(hb:Binds X.K fd ps ds)(hd:Vals dvs ds)(hx:bz CX X E)
  (I:Inv X pins σ H s)(r:Vals vs us)(h:sp (vs++dvs) H Q (E σ)):wpAny (model X.prog X.w) X.A (call (.ref f) us) (EP X pins σ Q) X.xe s:=by
 have r2:Vals (vs++dvs) (us++ds):=r.append hd;have hl:(us++ds).length=ps.length:=by rw[<-r2.length]; exact F.len _ _ _ _ h
 refine JH (IF (F.run X.A X.stack s H ⟨us,[]⟩ (us++ds) (vs++dvs) Q (E σ) hr I.env0 (hb s us I.kIn hl) r2 h) λr s' hq=>?_);cases r with
 | error e=>exact hx pins σ H s e s' I hq
 | ok fl=>
  cases fl with
  | ret u=>exact I.after hq
  | next=>exact False.elim hq
  | brk=>exact False.elim hq
  | cont=>exact False.elim hq
def Eb (F:FnOk X.prog X.w X.K X.mg X.base CX k f fd ps sp)(hr:Room k X.A)(hg:Gl X x)(hm:X.mg x=some (.ref f))(hk:PySem.W.keepIn X.K (.ref f)=true)(hb:Binds X.K fd ps ds)(hd:Vals dvs ds)(hx:bz CX X E)
  (ha:PA X (e::es) t)(hdb:(x == ("__debug__" : Str))=false:=by decide)(he:starEach (e::es) X.env=(false,eval e X.env)::starEach es X.env:=by rfl)(hpl:(backTo pos (starEach es X.env)).any (·.1)=false:=by rfl) :
  PE X (.Call (.Name x p) (e::es) [] pos) (gC sp dvs E t):=by
 intro pins s σ H Q I h;refine GY (i8 I hg hm ?_ hdb);refine IU (h₀:=X.base) I.ok.mod.kin hk (bj (ha pos pins s σ H _ I h) λus s1 ⟨vs,H1,I1,r,q⟩=>⟨I1.kIn,?_⟩) he hpl;exact og F hr hb hd hx I1 r q
def Fh (F:FnOk X.prog X.w X.K X.mg X.base CX k f fd ps sp)(hr:Room k X.A)(hg:Gl X x)(hm:X.mg x=some (.ref f))(hk:PySem.W.keepIn X.K (.ref f)=true)(hb:Binds X.K fd ps ds)(hd:Vals dvs ds)(hx:bz CX X E)
  (hdb:(x == ("__debug__" : Str))=false:=by decide):PE X (.Call (.Name x p) [] [] pos) (gC sp dvs E eH):=by
 intro pins s σ H Q I h;refine GY (i8 I hg hm ?_ hdb);exact IN I.kIn hk (og (us:=[]) F hr hb hd hx I .nil h)
def zE {pl:Sem Bool}(he:PE X o ta)(c:Cls X.K C)(hm:Meth X.K C m f)(F:FnOk X.prog X.w X.K X.mg X.base CX k f fd ps sp)(hr:Room k X.A)(hb:Binds X.K fd ps ds)(hd:Vals dvs ds)(hx:bz CX X E)(ha:PA X (e::es) t)
  (hst:starEach (e::es) X.env=(false,eval e X.env)::starEach es X.env:=by rfl)(hpl:(backTo pos (starEach es X.env)).any (·.1)=false:=by rfl)
  (ht:eval (.Call (.Attribute o m apos) (e::es) [] pos) X.env=(do
   let ov <-eval o X.env
   standAt apos.atName
   let (f,first) <-holding [ov] (getMethod ov m pl)
   callWith pos f first (backTo pos (starEach (e::es) X.env)) (backToKw pos (keywordEach [] X.env))):=by rfl) :
  PE X (.Call (.Attribute o m apos) (e::es) [] pos) (fJ C m sp dvs E ta t):=by
 intro pins s σ H Q I h;refine Iv (pl:=pl) (bj (he pins s σ H _ I h) λu s1 hZz=>?_) ht;obtain⟨x,H1,I1,rx,a,dx,fs,ex,ea,l,q⟩:=hZz;subst ex;obtain rfl:u=Value.ref a:=rx;refine tF I1 ea c hm l ?_;refine IU (first:=[.ref a]) (h₀:=X.base) I.ok.mod.kin hm.kp (bj (ha pos pins s1 σ H1 _ I1 q) λus s2 ⟨vs,H2,I2,r,q2⟩=>⟨I2.kIn,?_⟩) hst hpl;exact og (us:=.ref a::us) (vs:=.ref a::vs) F hr hb hd hx I2 (.cons rfl r) q2
def y8 {pl:Sem Bool}(he:PE X o ta)(c:Cls X.K C)(hm:Meth X.K C m f)(F:FnOk X.prog X.w X.K X.mg X.base CX k f fd ps sp)(hr:Room k X.A)(hb:Binds X.K fd ps ds)(hd:Vals dvs ds)(hx:bz CX X E)
  (ht:eval (.Call (.Attribute o m apos) [] [] pos) X.env=(do
   let ov <-eval o X.env
   standAt apos.atName
   let (f,first) <-holding [ov] (getMethod ov m pl)
   callWith pos f first (backTo pos (starEach [] X.env)) (backToKw pos (keywordEach [] X.env))):=by rfl) :
  PE X (.Call (.Attribute o m apos) [] [] pos) (fJ C m sp dvs E ta eH):=by
 intro pins s σ H Q I h;refine Iv (pl:=pl) (bj (he pins s σ H _ I h) λu s1 hZz=>?_) ht;obtain⟨x,H1,I1,rx,a,dx,fs,ex,ea,l,q⟩:=hZz;subst ex;obtain rfl:u=Value.ref a:=rx;refine tF I1 ea c hm l ?_;exact IN (first:=[.ref a]) I1.kIn hm.kp (og (us:=[.ref a]) (vs:=[.ref a]) F hr hb hd hx I1 (.cons rfl .nil) q)
structure Mk (K:bo)(C f:Addr):Prop where
 makes:PySem.W.makesIn K C=true
 init:PySem.W.findIn K (.ref C) "__init__" = some (some (.ref f))
 fn:PySem.W.isFn K (.ref f)=true
 kp:PySem.W.keepIn K (.ref C)=true
def xh {pins:ah}{σ:St}{H:Hp}{s:Shared}{Q:VK}{us:ar}{vs:aw}(M:Mk X.K C f)(F:FnOk X.prog X.w X.K X.mg X.base CX k f fd ps sp)(hr:Room (k+1) X.A)(hb:Binds X.K fd ps ds)(hd:Vals dvs ds)
  (hx:bz CX X E)(I:Inv X pins σ H s)(r:Vals vs us)
  (h:∀x dx,H x=none->H dx=none->dx≠x->sp (.ref x::(vs++dvs)) (upd (upd H dx (.own x)) x (.ins C dx [])) (λv H2=>v=.non/\Q (.ref x) H2) (E σ)) :
  wpAny (model X.prog X.w) X.A (call (.ref C) us) (EP X pins σ Q) X.xe s:=by
 have hq:=h (s.heap.objs.size+1) s.heap.objs.size (I.hok.fresh (HB _)) (I.hok.fresh (bI _)) (di (Ia _));have I2:=Inv.made (C:=C) I;have r2:Vals (V.ref (s.heap.objs.size+1)::(vs++dvs)) (Value.ref (s.heap.objs.size+1)::(us++ds)):=.cons rfl (r.append hd);have hl:(Value.ref (s.heap.objs.size+1)::us++ds).length=ps.length:=by
  have e:=r2.length;rw[F.len _ _ _ _ hq] at e;exact e.symm
 refine JH (BH (f:=f) I.kIn M.makes M.init (GC.mp M.fn) (IF (F.run _ X.stack _ _ ⟨Value.ref (s.heap.objs.size+1)::us,[]⟩ (Value.ref (s.heap.objs.size+1)::(us++ds)) _ _ (E σ) (hr.make C us [])
  (I2.env0.make C us []) (hb _ (Value.ref (s.heap.objs.size+1)::us) I2.kIn hl) r2 hq) λr s' hq'=>?_))
 cases r with
 | error e=>exact hx pins σ _ _ e s' I2 hq'
 | ok fl=>
  cases fl with
  | ret u=>
   obtain⟨v,H',I3,rv,ev,q3⟩:=I2.after hq';subst ev;exact⟨rv,⟨V.ref (s.heap.objs.size+1),H',I3,rfl,q3⟩⟩
  | next=>exact False.elim hq'
  | brk=>exact False.elim hq'
  | cont=>exact False.elim hq'
def CK (M:Mk X.K C f)(F:FnOk X.prog X.w X.K X.mg X.base CX k f fd ps sp)(hr:Room (k+1) X.A)(hg:Gl X x)(hm:X.mg x=some (.ref C))(hb:Binds X.K fd ps ds)(hd:Vals dvs ds)(hx:bz CX X E)
  (ha:PA X (e::es) t)(hdb:(x == ("__debug__" : Str))=false:=by decide)(he:starEach (e::es) X.env=(false,eval e X.env)::starEach es X.env:=by rfl)(hpl:(backTo pos (starEach es X.env)).any (·.1)=false:=by rfl) :
  PE X (.Call (.Name x p) (e::es) [] pos) (gr C sp dvs E t):=by
 intro pins s σ H Q I h;refine GY (i8 I hg hm ?_ hdb);refine IU (h₀:=X.base) I.ok.mod.kin M.kp (bj (ha pos pins s σ H _ I h) λus s1 ⟨vs,H1,I1,r,q⟩=>⟨I1.kIn,?_⟩) he hpl;exact xh M F hr hb hd hx I1 r q
def yO (M:Mk X.K C f)(F:FnOk X.prog X.w X.K X.mg X.base CX k f fd ps sp)(hr:Room (k+1) X.A)(hg:Gl X x)(hm:X.mg x=some (.ref C))(hb:Binds X.K fd ps ds)(hd:Vals dvs ds)(hx:bz CX X E)
  (hdb:(x == ("__debug__" : Str))=false:=by decide):PE X (.Call (.Name x p) [] [] pos) (gr C sp dvs E eH):=by
 intro pins s σ H Q I h;refine GY (i8 I hg hm ?_ hdb);exact IN I.kIn M.kp (xh (us:=[]) M F hr hb hd hx I .nil h)
end
section
variable {X:Cx}{CX:gG}{k:Nat}{f C:Addr}{fd:FuncData}{ps ks:au}{sp:Sp}{E:St->XK}{x m:Str}{p pos apos kpos:Pos}{e o:Expr}{es:av}{kws:List Keyword}{te ta:TE}{t tk:TA}{nm:Option Str}
variable {g:ar->ar->ar}{gV:aw->aw->aw}
end
structure FnScope (N P:au)(sc:Scope):Prop where
 kind:sc.kind=.function
 co:sc.isCoroutine=false
 gen:sc.isGenerator=false
 nd:N.Nodup
 pre:N.take P.length=P
 par:∀x∈P,sc.names.lookup x=some .local\/sc.names.lookup x=some .cell
 nofree:∀y∈sc.names,y.2≠.free
theorem xt {kindOf:Str->Option NameKind}{x:Str}:∀{binds:aj} {m:Str->aB},(∀v,(x,v)∉binds)->bindL kindOf binds m x=m x
 | [],_,_=>rfl
 | (n,v)::r,m,h=>by
  unfold bindL;rw[xt λw hw=>h w (Hk _ hw)];split
  .have:x≠n:=by rintro rfl; exact h v bZ
   simp[this]
  .rfl
theorem ug {kindOf:Str->Option NameKind}{x:Str}:∀{binds:aj} {m:Str->aB},(∀v,(x,v)∉binds)->bindC kindOf binds m x=m x
 | [],_,_=>rfl
 | (n,v)::r,m,h=>by
  unfold bindC;rw[ug λw hw=>h w (Hk _ hw)];split
  .rfl
  .have:x≠n:=by rintro rfl; exact h v bZ
   simp[this]
theorem uG {kindOf:Str->Option NameKind}{x:Str}{v:Value}:∀{P:au} {vs:ar} {i:Nat} {m:Str->aB},P.Nodup->P[i]? = some x->vs[i]? = some v->kindOf x=some .local ->
  bindL kindOf (P.zip vs) m x=some v
 | [],_,_,_,_,h,_,_=>by simp at h
 | _::_,[],_,_,_,_,h,_=>by simp at h
 | p::P,w::vs,0,m,nd,h1,h2,hk=>by
  simp at h1 h2; subst h1; subst h2;show bindL kindOf ((p,w)::P.zip vs) m p=_;unfold bindL;rw[xt λv hv=>(GN.mp nd).1 (List.of_mem_zip hv).1,if_pos hk];simp
 | p::P,w::vs,i+1,m,nd,h1,h2,hk=>by
  show bindL kindOf ((p,w)::P.zip vs) m x=_;unfold bindL;exact uG (i:=i) (GN.mp nd).2 (by simpa using h1) (by simpa using h2) hk
theorem tK {kindOf:Str->Option NameKind}{x:Str}{v:Value}:∀{P:au} {vs:ar} {i:Nat} {m:Str->aB},P.Nodup->P[i]? = some x->vs[i]? = some v->kindOf x≠some .local ->
  bindC kindOf (P.zip vs) m x=some v
 | [],_,_,_,_,h,_,_=>by simp at h
 | _::_,[],_,_,_,_,h,_=>by simp at h
 | p::P,w::vs,0,m,nd,h1,h2,hk=>by
  simp at h1 h2; subst h1; subst h2;show bindC kindOf ((p,w)::P.zip vs) m p=_;unfold bindC;rw[ug λv hv=>(GN.mp nd).1 (List.of_mem_zip hv).1,if_neg hk];simp
 | p::P,w::vs,i+1,m,nd,h1,h2,hk=>by
  show bindC kindOf ((p,w)::P.zip vs) m x=_;unfold bindC;exact tK (i:=i) (GN.mp nd).2 (by simpa using h1) (by simpa using h2) hk
noncomputable def start (N:au)(vs:aw):St:=vs.map some++List.replicate (N.length - vs.length) none
noncomputable def fc (CX:gG)(P:Program)(w:World)(K:bo)(mg:Str->aB)(base:Heap)(N:au)(qual:Str)(scope:Scope)(f:Addr)(cd:Value)(A:Around)(outer:List Env)(s:Shared)(H:Hp)(E:XK):Cx where
 prog:=P
 w:=w
 K:=K
 mg:=mg
 base:=base
 A:=A.deeper (envOfC qual scope s.heap.objs.size f cd)
 N:=N
 s₀:=s
 H₀:=H
 env:=envOfC qual scope s.heap.objs.size f cd
 outer:=outer
 stack:=envOfC qual scope s.heap.objs.size f cd::outer
 ex:=[]
 calm:=true
 fn:=λ_=>true
 pn:=[]
 xe:=λe s'=>wpAny (model P w) (A.deeper (envOfC qual scope s.heap.objs.size f cd)) (leaving (envOfC qual scope s.heap.objs.size f cd) e) (λ_ s''=>CX outer H s E e s'') (λe' s''=>CX outer H s E e' s'') s'
def wU {sc:Scope}{n:Nat}{x:Str}(h:sc.names.lookup x=some .cell):∃c,(cellsFrom n sc.names []).lookup x=some c:=by
 have q:=PySem.W.cellsFrom_some sc.names n [] (.inl h);exact Option.isSome_iff_exists.mp q
def Fk {CX:gG}{P:Program}{w:World}{K:bo}{mg:Str->aB}{base:Heap}{N ps:au}{qual:Str}{scope:Scope}{f:Addr}{cd:Value}{A:Around}{outer:List Env}{s s1:Shared}{H:Hp}{E:XK}{us:ar}{vs:aw}
  (S:FnScope N ps scope)(hd:A.handled=none)(e0:Env0 P w K mg base A outer s H)(hl:vs.length=ps.length)(r:Vals vs us)
  (x:InCallC s s.heap.objs.size (bindL (envOfC qual scope s.heap.objs.size f cd).kindOf (ps.zip us) λ_=>none) (cellsFrom (s.heap.objs.size+1) scope.names []) (bindC (envOfC qual scope s.heap.objs.size f cd).kindOf (ps.zip us) λ_=>none) s1) :
  Inv (fc CX P w K mg base N qual scope f cd A outer s H E) [] (start N vs) H s1:=by
 have hpl:ps.length<=N.length:=by have:=congrArg List.length S.pre; rw[HN] at this; omega
 obtain⟨h1,tk,rfl,hk⟩:=x.done;have noA:∀b:Addr,b∉(fc CX P w K mg base N qual scope f cd A outer s H E).ex:=λb z=>absurd (show b∈([]:ao) from z) (by simp);refine⟨⟨e0.mod,S.kind,rfl,rfl,bI _,λy z c h1 h2=>?_,λy hy=>?_,λy c _ h=>?_,λ_=>hd,Around.frames_deeper e0.frames,.inr ⟨rfl,rfl⟩,λb z=>absurd z (noA b),e0.bs,e0.bsz,λb _ _=>noA b,λb z=>absurd z (noA b),e0.funs,e0.frf⟩,
  rfl,e0.bare,Un.kept hk,⟨_,x.toInCall.ns,λi y v h1 h2 h3=>?_⟩,λy c h=>⟨_,x.cell y c h⟩,e0.hok.fresh (bI _),λy c h=>?_,λp hp=>absurd (show p∈([]:ah) from hp) (by simp),e0.hok.kept hk,?_⟩
 .exact name_of_addr x.apart (Hg h1) (Hg h2)
 .have hy:scope.names.lookup y=some .cell\/scope.names.lookup y=some .free:=hy;rcases hy with hy | hy
  .exact wU hy
  .exact absurd rfl (S.nofree _ (Hg hy))
 .exact HL (x.above y c (Hg h))
 .have hi:i<vs.length:=by
   unfold start at h2;by_cases hi:i<vs.length
   .exact hi
   .rw[List.getElem?_append_right (by simpa using hi)] at h2;rw[List.getElem?_replicate] at h2;split at h2 <;> cases h2
  have ha:vs[i]? = some v:=by
   unfold start at h2;rw[IK (by simpa using hi),GK] at h2;cases e:vs[i]? with
   | none=>rw[e] at h2; cases h2
   | some a=>rw[e] at h2; cases h2; rfl
  obtain⟨u,hu,rv⟩:=r.get ha;have hp:ps[i]? = some y:=by
   rw[<-S.pre,List.getElem?_take_of_lt (by omega)]; exact h1
  have ndP:ps.Nodup:=by rw[<-S.pre]; exact S.nd.sublist (List.take_sublist _ _)
  refine⟨u,rv,?_⟩;rcases S.par y (HC hp) with k | k
  .exact .inl ⟨k,uG ndP hp hu k⟩
  .obtain⟨c,e⟩:=wU (n:=s.heap.objs.size+1) k;refine .inr ⟨.inl k,c,e,?_⟩;have q:=x.cell y c e;rw[tK ndP hp hu (by show scope.names.lookup y≠_; rw[k]; decide)] at q;exact q
 .exact e0.hok.fresh (HL (x.above y c (Hg h)))
 .unfold start;show _=N.length;rw[GJ,GA,Jl];omega
def uK {CX:gG}{P:Program}{w:World}{K:bo}{mg:Str->aB}{base:Heap}{k:Nat}{f:Addr}{name qual:Str}{params:Arguments}{body:aH}{scope:Scope}{dV kV doc pm cdv ct oc:Value}{an od:aF}
  {osl:Array aB}{N ps:au}{sp:Sp}(lk:K.lookup f=some ⟨oc,od,.func (PySem.W.fnOf name qual params body scope dV kV doc pm an cdv ct),osl⟩)(hcd:PySem.W.codeIn K cdv qual=true)(S:FnScope N ps scope)
  (len:∀vs H Q E,sp vs H Q E->vs.length=ps.length)
  (hbody:∀(A:Around) (outer:List Env) (s:Shared) (H:Hp) (vs:aw) (Q:VK) (E:XK),Room k (A.deeper (envOfC qual scope s.heap.objs.size f cdv))->sp vs H Q E ->
   ∃t,PSs (fc CX P w K mg base N qual scope f cdv A outer s H E) body t/\t { nx:=λ_ H'=>Q .non H',rt:=Q } (start N vs) H) :
  FnOk P w K mg base CX (k+1) f (PySem.W.fnOf name qual params body scope dV kV doc pm an cdv ct) ps sp:=by
 refine⟨len,λA outer s H args us vs Q E hr e0 hb r hsp=>?_⟩;have hl:=len _ _ _ _ hsp;have KX:K.In s.heap:=e0.mod.kin.keeps λb o e=>(e0.bs b o e).1;have lim:s.heap.NoLimit:=e0.mod.nolimit.keeps λb o e=>(e0.bs b o e).1;have hkind:∀y∈ps.zip us,scope.names.lookup y.1=some .local\/(scope.names.lookup y.1=some .cell/\((cellsFrom (s.heap.objs.size+1) scope.names []).lookup y.1).isSome=true):=λ⟨n,v⟩ hy=>by
  rcases S.par n (List.of_mem_zip hy).1 with q | q
  .exact .inl q
  .exact .inr ⟨q,PySem.W.cellsFrom_some _ _ _ (.inl q)⟩
 refine codeAny_call_function hr.depth (KX _ _ lk) rfl S.co S.gen rfl (PySem.W.codeRec_of KX hcd) (hb _ _ _ _ ?_);refine wpAny_newFunctionEnv_cells S.kind hkind λenv he s1 x=>?_;subst he;refine⟨lim.keeps x.toInCall.keep,codeAny_func ?_⟩;obtain⟨t,ht,hq⟩:=hbody A outer s H vs Q E (hr.deeper _) hsp;have I:Inv (fc CX P w K mg base N qual scope f cdv A outer s H E) [] (start N vs) H s1:=Fk S hr.hd e0 hl r x;refine Ha (ht [] s1 (start N vs) H _ I hq) (λfl s' hs=>?_) λe s' hs=>hs;have fin:∀{σ':St} {H':Hp} {v:V} {u:Value},Inv (fc CX P w K mg base N qual scope f cdv A outer s H E) [] σ' H' s'->RelV v u->Q v H'->CE outer P w H s Q u s':=
  λ{σ' H' v u} J rv q=>⟨v,H',J.os,J.bare,J.base,J.hok,rv,q⟩
 cases fl with
 | ret u=>
  obtain⟨v,σ',H',J,rv,q⟩:=hs;exact fin J rv q
 | next=>
  obtain⟨σ',H',J,q⟩:=hs;exact fin (v:=V.non) (u:=Value.none) J rfl q
 | brk=>
  obtain⟨_,_,_,q⟩:=hs;exact False.elim q
 | cont=>
  obtain⟨_,_,_,q⟩:=hs;exact False.elim q
end L2
namespace L2
open PySem PySem.Spec PyProof.Rows
section
variable {X:Cx}{x:Str}{p pos:Pos}{e:Expr}{es:av}{t:TA}{id T:String}{r:aw->Hp->VK->Prop}
def o6 (r:aw->Hp->VK->Prop)(t:TA):TE:=λσ H Q=>t σ H λvs H1=>r vs H1 Q
def pB (hc:CallR X (.builtin id) r)(hg:Gl X x)(hm:X.mg x=none)(hv:bootBuiltins x=some (.builtin id))(ha:PA X (e::es) t)(hn:x ≠ "__name__":=by decide)(hdb:(x == ("__debug__" : Str))=false:=by decide)
  (he:starEach (e::es) X.env=(false,eval e X.env)::starEach es X.env:=by rfl)(hpl:(backTo pos (starEach es X.env)).any (·.1)=false:=by rfl):PE X (.Call (.Name x p) (e::es) [] pos) (o6 r t):=by
 intro pins s σ H Q I h;refine GY (ig I hg hm hv ?_ hn hdb);exact Hz (bj (ha pos pins s σ H _ I h) λus s1 ⟨vs,H1,I1,r1,q1⟩=>hc pins s1 σ H1 vs us Q I1 r1 q1) he hpl
def tQ (hc:CallR X (.type T) r)(hg:Gl X x)(hm:X.mg x=none)(hv:bootBuiltins x=some (.type T))(ha:PA X (e::es) t)(hn:x ≠ "__name__":=by decide)(hdb:(x == ("__debug__" : Str))=false:=by decide)
  (he:starEach (e::es) X.env=(false,eval e X.env)::starEach es X.env:=by rfl)(hpl:(backTo pos (starEach es X.env)).any (·.1)=false:=by rfl):PE X (.Call (.Name x p) (e::es) [] pos) (o6 r t):=by
 intro pins s σ H Q I h;refine GY (ig I hg hm hv ?_ hn hdb);exact G4 (bj (ha pos pins s σ H _ I h) λus s1 ⟨vs,H1,I1,r1,q1⟩=>hc pins s1 σ H1 vs us Q I1 r1 q1) he hpl
end
end L2
namespace HT
open PySem PyProof.Rows
section
open PySem.SeqAt
open PySem.AutoSeq1 (wpAny_loadPart')
open PySem.MeetsSeq PySem.MeetsSeq2 PySem.MeetsSeq3
end
section
variable {prog:Program}{w:World}{A:Around}{E:Value->Shared->Prop}{s:Shared}
def cat_tup {t b:Addr}{vs ws:ar}{Q:Value->Shared->Prop}(ht:IsTup s.heap t vs.toArray)(hb:IsTup s.heap b ws.toArray)(hv:vs≠[])
  (h1:ws=[]->Q (.ref t) s)(h2:ws≠[]->Q (.ref s.heap.objs.size) { s with heap:=s.heap.push { cls:=.type "tuple",data:=.seq (vs++ws).toArray } })
  (hsz:vs.length+ws.length<=sizeLine):wpAny (model prog w) A (binaryOp .Add (.ref t) (.ref b)) Q E s:=by
 obtain⟨⟨cls,dd,data,sl⟩,ho,hc,n,hd⟩:=id ht;obtain⟨⟨cls2,dd2,data2,sl2⟩,ho2,hc2,n2,hd2⟩:=id hb;simp only at hc hd hc2 hd2;subst hc hd hc2 hd2;have e:vs.toArray++ws.toArray=(vs++ws).toArray:=by simp
 by_cases hw:ws=[]
 .exact concat_meets ⟨_,ho,rfl⟩ ⟨_,ho2,rfl⟩ noFill_tuple_add seq_tuple_add Jc IX (IQ _ _)
   (tuple_addW1 t b vs.toArray ws.toArray n n2 dd dd2 sl sl2 (by simpa using hv) (by simp[hw])) ⟨ho,ho2,h1 hw⟩
 .refine concat_meets ⟨_,ho,rfl⟩ ⟨_,ho2,rfl⟩ noFill_tuple_add seq_tuple_add Jc IX (IQ _ _)
   (tuple_addW2 t b vs.toArray ws.toArray n n2 dd dd2 sl sl2 (by simpa using hv) (by simpa using hw) (by rw[Gy,Gy]; exact hsz)) ⟨ho,ho2,?_⟩
  rw[e];exact h2 hw
noncomputable def sIx (n d:Nat):Option Int->Nat
 | none=>d
 | some v=>if v<0 then (v+(n:Int)).toNat else min v.toNat n
def Az (n d:Nat)(hd:d<=n)(o:Option Int):sIx n d o<=n:=by
 cases o with
 | none=>exact hd
 | some v=>
  show (if v<0 then (v+(n:Int)).toNat else min v.toNat n)<=n;by_cases hv:v<0
  .rw[if_pos hv]; omega
  .rw[if_neg hv]; exact Nat.min_le_right _ _
def ve (v:Int)(n d:Nat):(if v<0 then max (v+(n:Int)) 0 else min v (n:Int))=((sIx n d (some v):Nat):Int):=by
 show (if v<0 then max (v+(n:Int)) 0 else min v (n:Int))=(((if v<0 then (v+(n:Int)).toNat else min v.toNat n):Nat):Int);by_cases hv:v<0
 .simp only[if_pos hv]; omega
 .simp only[if_neg hv]; omega
def DJ (lo hi:Option Int)(n:Nat):Builtin.Slice.sliceAdjust lo hi 1 (n:Int)=(((sIx n 0 lo:Nat):Int),((sIx n n hi:Nat):Int)):=by
 have h1:¬((1:Int)<0):=by omega
 unfold Builtin.Slice.sliceAdjust;simp only[h1,if_false];refine Prod.ext ?_ ?_
 .cases lo with
  | none=>rfl
  | some v=>exact ve v n 0
 .cases hi with
  | none=>rfl
  | some v=>exact ve v n n
def yD (i j:Nat):Builtin.Slice.slicePlaces (i:Int) (j:Int) 1=j - i:=by
 unfold Builtin.Slice.slicePlaces;have h1:(1:Int) > 0:=by omega
 simp only[h1,if_true,Int.ediv_one];split <;> omega
def wR {v:Value}{o:Option Int}{Q:Option Int->Shared->Prop}(p:IsPart v o)(h:Q o s):wpAny (model prog w) A (Builtin.Slice.slicePartIndex v) Q E s:=by
 cases p with
 | none=>exact slicePart_none h
 | int i t=>exact slicePart_int h
def sliceApplied_gen {sl:Addr}{vl vu:Value}{lo hi:Option Int}{n:Nat}{Q:Int×Int×Nat->Shared->Prop}(hs:s.heap.IsSliceOf sl vl vu .none)(pl:IsPart vl lo)(pu:IsPart vu hi)
  (h:Q (((sIx n 0 lo:Nat):Int),1,sIx n n hi - sIx n 0 lo) s):wpAny (model prog w) A (Builtin.Slice.sliceApplied (.ref sl) (pure (n:Int))) Q E s:=by
 obtain⟨os,hos,hcs,hds⟩:=id hs;unfold Builtin.Slice.sliceApplied Builtin.Slice.sliceFields;refine aM (aM (GZ hos hds (x:=vl) rfl (aM (GZ hos hds (x:=vu) rfl (aM (GZ hos hds (x:=.none) rfl (aV ?_)))))));refine aM (slicePart_none ?_);show wpAny _ _ (if ((1:Int) == 0)=true then _ else _) _ _ s;rw[if_neg (by decide)];refine aM (wR pl (aM (wR pu (aM (aV ?_)))));show wpAny _ _ (match Builtin.Slice.sliceAdjust lo hi 1 (n:Int) with | (lo,hi)=>pure (lo,(1:Int),Builtin.Slice.slicePlaces lo hi 1)) _ _ s;rw[DJ lo hi n];show wpAny _ _ (pure (((sIx n 0 lo:Nat):Int),(1:Int),Builtin.Slice.slicePlaces ((sIx n 0 lo:Nat):Int) ((sIx n n hi:Nat):Int) 1)) _ _ s;rw[yD];exact aV h
def Gw (xs:aC)(i k:Nat):((List.range k).filterMap λ(m:Nat)=>xs[((i:Int)+(m:Int) * 1).toNat]?).toArray=((xs.toList.drop i).take k).toArray:=by
 have e:(λ(m:Nat)=>xs[((i:Int)+(m:Int) * 1).toNat]?)=λm=>xs[i+m]?:=by
  funext m
  have:((i:Int)+(m:Int) * 1).toNat=i+m:=by omega
  rw[this]
 rw[e];have:=pick_run xs i k;rw[List.filterMap_map] at this;have e2:((λx=>xs[x]?) ∘ λx=>i+x)=λm=>xs[i+m]?:=rfl;rw[e2] at this;rw[this]
def getItem_tuple_cut {t sl:Addr}{items:aC}{vl vu:Value}{lo hi:Option Int}{Q:Value->Shared->Prop}(ht:IsTup s.heap t items)(hs:s.heap.IsSliceOf sl vl vu .none)(pl:IsPart vl lo)(pu:IsPart vu hi)
  (hw:¬(sIx items.size 0 lo=0/\sIx items.size items.size hi=items.size))
  (h:Q (.ref s.heap.objs.size) { s with heap:=s.heap.push { cls:=.type "tuple",data:=.seq ((items.toList.drop (sIx items.size 0 lo)).take (sIx items.size items.size hi - sIx items.size 0 lo)).toArray } })
  (hsz:items.size<=sizeLine):wpAny (model prog w) A (getItem (.ref t) (.ref sl)) Q E s:=by
 have htake:sizeOk (.seq ((items.toList.drop (sIx items.size 0 lo)).take (sIx items.size items.size hi - sIx items.size 0 lo)).toArray):=by
  show ((items.toList.drop (sIx items.size 0 lo)).take (sIx items.size items.size hi - sIx items.size 0 lo)).toArray.size<=sizeLine;rw[Gy,HN,Ib,Array.length_toList];omega
 have hj:sIx items.size items.size hi<=items.size:=Az _ _ (bI _) hi;obtain⟨os,hos,hcs,hds⟩:=id hs;have hTs:s.TypeIs (.ref sl) "slice":=⟨os,hos,hcs⟩
 unfold getItem;try with_reducible refine Ho ?_
 first | refine aM (aV ?_) | skip
 refine aM (wpAny_sequenceKey ht.typeIs (by decide) ?_);refine aM (wpAny_callSpecial?_slot (name:=Str.ofString "__getitem__") ht.typeIs G5
  (G9 G5 ht.typeIs entry_tuple_getitem ?_ (args_tuple_getitem _ _)))
 show wpAny _ _ (Builtin.Tuple.tupleItemsOf (.ref t) >>= _) _ _ s;refine aM (tupleItemsOf_ ht ?_);refine aM (JF hTs ?_);rw[if_pos (by decide)];refine aM (sliceApplied_gen hs pl pu ?_);have hno:¬((((sIx items.size 0 lo:Nat):Int) == 0&&(1:Int) == 1&&(sIx items.size items.size hi - sIx items.size 0 lo) == items.size)=true):=by
  intro q;rw[tw,tw] at q;have q1:((sIx items.size 0 lo:Nat):Int)=0:=eq_of_beq q.1.1;have q2:sIx items.size items.size hi - sIx items.size 0 lo=items.size:=eq_of_beq q.2;exact hw ⟨by omega,by omega⟩
 show wpAny _ _ (if (((sIx items.size 0 lo:Nat):Int) == 0&&(1:Int) == 1&&(sIx items.size items.size hi - sIx items.size 0 lo) == items.size)=true then _ else _) _ _ s;rw[if_neg hno,Gw];first
  | exact aM (m:=Builtin.Tuple.tupleExact _) (GW (aV ⟨_,rfl,aV h⟩) htake)
  | exact aM (m:=Builtin.Tuple.tupleExact _) (GW (aM (aV (aV ⟨_,rfl,aV h⟩))) htake)
  | exact aM (aM (m:=Builtin.Tuple.tupleExact _) (GW (aV (aV ⟨_,rfl,aV h⟩)) htake))
  | exact aM (aM (m:=Builtin.Tuple.tupleExact _) (GW (aV ⟨_,rfl,aV h⟩) htake))
end
end HT
namespace L2
open PySem PySem.Spec PyProof.Rows
abbrev TO:=St->Hp->(Option Int->Hp->Prop)->Prop
def PO (X:Cx)(e:aJ)(t:TO):Prop:=
 ∀(pins:ah) (s:Shared) (σ:St) (H:Hp) (Q:Option Int->Hp->Prop),Inv X pins σ H s->t σ H Q ->
  wpAny (model X.prog X.w) X.A (evalPart e X.env) (λu s'=>∃o H',Inv X pins σ H' s'/\IsPart u o/\Q o H') X.xe s
def iS:TO:=λ_ H Q=>Q none H
def mT (t:TE):TO:=λσ H Q=>t σ H λx H1=>∃i,x=.int i/\Q (some i) H1
section
variable {X:Cx}{e:Expr}{te:TE}{lo hi:aJ}{tl th:TO}{pos p2:Pos}
def uR:PO X none iS:=by
 intro pins s σ H Q I h;rw[evalPart_none];exact aV ⟨none,H,I,.none,h⟩
def n0 (h:PE X e te):PO X (some e) (mT te):=by
 intro pins s σ H Q I hw;rw[evalPart_some];refine bj (h pins s σ H _ I hw) λu s1 hZz=>?_;obtain⟨x,H1,I1,r1,q1⟩:=hZz;obtain⟨i,rfl,q⟩:=q1;obtain⟨t,rfl⟩:=r1;exact⟨some i,H1,I1,.int i t,q⟩
def mF (X:Cx)(r:V->Option Int->Option Int->Hp->VK->Prop):Prop:=
 ∀(pins:ah) (s:Shared) (σ:St) (H:Hp) (x:V) (v vl vu:Value) (lo hi:Option Int) (sl:Addr) (Q:VK),Inv X pins σ H s->RelV x v->s.heap.IsSliceOf sl vl vu .none->IsPart vl lo->IsPart vu hi->r x lo hi H Q ->
  ∃T id,typeLookup (.type T) "__getitem__" = pure (some (.builtin id))/\s.TypeIs v T/\wpAny (model X.prog X.w) X.A (getItem v (.ref sl)) (EP X pins σ Q) X.xe s
def CG (r:V->Option Int->Option Int->Hp->VK->Prop)(te:TE)(tl th:TO):TE:=λσ H Q=>te σ H λx H1=>tl σ H1 λl H2=>th σ H2 λu H3=>r x l u H3 Q
def rC {r:V->Option Int->Option Int->Hp->VK->Prop}(hr:mF X r)(he:PE X e te)(hl:PO X lo tl)(hu:PO X hi th):PE X (.Subscript e (.Slice lo hi none p2) pos) (CG r te tl th):=by
 intro pins s σ H Q I h;refine Subscript_ (bj (he pins s σ H _ I h) λv s1 hZz=>?_);obtain⟨x,H1,I1,r1,q1⟩:=hZz;refine wpAny_Slice (bj (hl pins s1 σ H1 _ I1 q1) λvl s2 ⟨l,H2,I2,pl,q2⟩=>bj (hu pins s2 σ H2 _ I2 q2) λvu s3 hZz=>?_);obtain⟨u,H3,I3,pu,q3⟩:=hZz;rw[evalPart_none];refine aV ?_;have I4:Inv X pins σ H3 { s3 with heap:=s3.heap.push { cls:=.type "slice",data:=.fields #[vl,vu,.none] } }:=I3.kept (t':=s3.toks) λb ob q=>bH _ q;obtain⟨T,id,hT,ht,hg⟩:=hr pins { s3 with heap:=s3.heap.push { cls:=.type "slice",data:=.fields #[vl,vu,.none] } } σ H3 x v vl vu l u s3.heap.objs.size Q I4 r1 (Heap.IsSliceOf.new ..) pl pu q3;show wpAny (model X.prog X.w) X.A (subscriptTail e (.Slice lo hi none p2) v (.ref s3.heap.objs.size)) (EP X pins σ Q) X.xe { s3 with heap:=s3.heap.push { cls:=.type "slice",data:=.fields #[vl,vu,.none] } };exact tail_any (ops:=[.ref s3.heap.objs.size,v]) ht hT hg (by with_unfolding_all rfl)
noncomputable def dZ (xs:aw)(lo hi:Option Int):aw:=(xs.drop (HT.sIx xs.length 0 lo)).take (HT.sIx xs.length xs.length hi - HT.sIx xs.length 0 lo)
def xw (xs:aw)(lo hi:Option Int):(dZ xs lo hi).length<=xs.length:=by
 unfold dZ;rw[HN,Ib];omega
def pK (K:bo):V->Option Int->Option Int->Hp->VK->Prop:=λx lo hi H Q=>∃a xs,x=.ref a/\SqT K H a xs /\
 ¬(HT.sIx xs.length 0 lo=0/\HT.sIx xs.length xs.length hi=xs.length)/\∀p,H p=none->Q (.ref p) (upd H p (.tup (dZ xs lo hi)))
def yZ:mF X (pK X.K):=by
 intro pins s σ H x v vl vu lo hi sl Q I rx hs pl pu h;obtain⟨a,xs,rfl,hx,hw,q⟩:=h;cases rx;obtain⟨its,r,ht,hz⟩:=I.tuple hx;have hlen:its.toArray.size=xs.length:=by rw[Gy]; exact r.length.symm
 refine⟨"tuple",_,G5.lookup,ht.typeIs,?_⟩;refine HT.getItem_tuple_cut ht hs pl pu (by rw[hlen]; exact hw) ?_ (by rw[hlen]; exact hz);rw[hlen];refine⟨.ref s.heap.objs.size,_,I.laid (t':=s.toks) (o:=.tup (dZ xs lo hi)) (λb ob q=>bH _ q) (bI _) ?_,rfl,q _ (I.hok.fresh (bI _))⟩;exact⟨ce (xw xs lo hi) hz,_,(r.drop (HT.sIx xs.length 0 lo)).take (HT.sIx xs.length xs.length hi - HT.sIx xs.length 0 lo),TupN.new _ _⟩
def nB (K:bo):R2:=λx y H Q=>∃a b xs ys,x=.ref a/\y=.ref b/\SqT K H a xs/\SqT K H b ys/\xs≠[]/\xs.length+ys.length<=sizeLine /\
 (ys=[]->Q (.ref a) H)/\(ys≠[]->∀p,H p=none->Q (.ref p) (upd H p (.tup (xs++ys))))
def Vals.nil_iff {xs:aw}{us:ar}(r:Vals xs us):us=[]↔xs=[]:=by
 cases r with
 | nil=>simp
 | cons _ _=>simp
def yz:OpR X (binaryOp .Add) (nB X.K):=by
 intro pins s σ H x y v u Q I rx ry h;obtain⟨a,b,xs,ys,rfl,rfl,ha,hb,hx,hz,q1,q2⟩:=h;cases rx;cases ry;obtain⟨its,r1,p1,_⟩:=I.tuple ha;obtain⟨its2,r2,p2,_⟩:=I.tuple hb;refine HT.cat_tup p1 p2 (λz=>hx (r1.nil_iff.mp z)) (λz=>⟨.ref a,H,I,rfl,q1 (r2.nil_iff.mp z)⟩) (λz=>?_) (by rw[<-r1.length,<-r2.length]; exact hz);refine⟨.ref s.heap.objs.size,_,I.laid (t':=s.toks) (o:=.tup (xs++ys)) (λb ob q=>bH _ q) (bI _) ?_,rfl,q2 (λw=>z (r2.nil_iff.mpr w)) _ (I.hok.fresh (bI _))⟩;exact⟨by rw[GJ]; exact hz,_,r1.append r2,TupN.new _ _⟩
end
end L2
namespace L2
open PySem PySem.Spec PyProof.Rows
noncomputable def kr (n:Nat)(i:Int):aE:=if 0<=i then (if i<n then some i.toNat else none) else if -(n:Int)<=i then some (i+n).toNat else none
noncomputable def lj {α:Type}(xs:List α)(i:Int):Option α:=(kr xs.length i).bind λj=>xs[j]?
def tS {n:Nat}{i:Int}{j:Nat}(h:kr n i=some j):seqIndex? i n=some j/\j<n /\ -(n:Int)<=i/\i<n:=by
 unfold kr at h;by_cases h0:0<=i
 .rw[if_pos h0] at h;by_cases h1:i<n
  .rw[if_pos h1] at h;have e:i.toNat=j:=cG h;exact⟨by rw[seqIndex_of h0 h1,e],by omega,by omega,h1⟩
  .rw[if_neg h1] at h; cases h
 .rw[if_neg h0] at h;by_cases h1 : -(n:Int)<=i
  .rw[if_pos h1] at h;have e:(i+n).toNat=j:=cG h;exact⟨by rw[seqIndex_neg (by omega) h1,e],by omega,h1,by omega⟩
  .rw[if_neg h1] at h; cases h
def xy {α:Type}{xs:List α}{i:Int}{v:α}(h:lj xs i=some v):∃j,seqIndex? i xs.length=some j/\xs[j]? = some v/\j<xs.length /\ -(xs.length:Int)<=i/\i<xs.length:=by
 unfold lj at h;cases e:kr xs.length i with
 | none=>rw[e] at h; cases h
 | some j=>
  rw[e] at h;obtain⟨h1,h2,h3,h4⟩:=tS e;exact⟨j,h1,h,h2,h3,h4⟩
def gF (b:Expr):Prop:=∀o i,subscripted b false o i=operate [o,i] (getItem o i)
def oV (X:Cx)(r:R2):Prop:=
 ∀(value slice:Expr) (pins:ah) (s:Shared) (σ:St) (H:Hp) (x y:V) (v u:Value) (Q:VK),Inv X pins σ H s->RelV x v->RelV y u->r x y H Q ->
  subscripted slice false v u=operate [v,u] (getItem v u)->wpAny (model X.prog X.w) X.A (subscriptTail value slice v u) (EP X pins σ Q) X.xe s
def vL (X:Cx)(id:String)(r:V->aw->Hp->VK->Prop):Prop:=
 ∀(pins:ah) (s:Shared) (σ:St) (H:Hp) (x:V) (xs:aw) (v:Value) (us:ar) (Q:VK),Inv X pins σ H s->RelV x v->Vals xs us->r x xs H Q ->
  wpAny (model X.prog X.w) X.A (call (.builtin id) (v::us)) (EP X pins σ Q) X.xe s
section
variable {X:Cx}{a b:Expr}{ta tb:TE}{pos:Pos}
def vg {r:R2}(hr:oV X r)(ha:PE X a ta)(hb:PE X b tb)(hs:gF b):PE X (.Subscript a b pos) (kX r ta tb):=by
 intro pins s σ H Q I h;exact Subscript_ (lv ha hb I h λv u s2 x y H2 I2 rx ry q=>hr a b pins s2 σ H2 x y v u Q I2 rx ry q (hs _ _))
def kN (K:bo):R2:=λx y H Q=>∃p xs i v,x=.ref p/\y=.int i/\SqL K H p xs/\lj xs i=some v/\Q v H
def qW (K:bo):R2:=λx y H Q=>∃p xs i v,x=.ref p/\y=.int i/\SqT K H p xs/\lj xs i=some v/\Q v H
def xk:oV X (kN X.K):=by
 intro value slice pins s σ H x y v u Q I rx ry h hs;obtain⟨p,xs,i,z,rfl,rfl,hq,he,q⟩:=h;cases rx;obtain⟨t,rfl⟩:=ry;obtain⟨its,r,pl,hz⟩:=I.list hq;obtain⟨j,h1,h2,h3,h4,h5⟩:=xy he;obtain⟨w,ew,rw'⟩:=r.get h2;have hl:=r.length;have hn:=ff;have fin:EP X pins σ Q w s:=⟨z,H,I,rw',q⟩
 by_cases h0:0<=i
 .have hj:i.toNat=j:=by
   rw[seqIndex_of h0 h5] at h1;exact cG h1
  exact item_listR pl.isList h0 (by omega) (by rw[hj]; simpa using ew) fin hs
 .have hj:(i+(its.toArray.size:Int)).toNat=j:=by
   rw[seqIndex_neg (by omega) h4] at h1;rw[Gy,<-hl];exact cG h1
  exact subscriptTail_builtinR (x:=w) pl.isList.typeIs slot_list_getitem.lookup
   (wpAny_getItem_list_neg (Q:=λr s'=>r=w/\EP X pins σ Q r s') pl.isList (by omega) (by rw[Gy] <;> omega) (by omega) (by rw[hj]; simpa using ew) ⟨rfl,fin⟩) hs
def zO:oV X (qW X.K):=by
 intro value slice pins s σ H x y v u Q I rx ry h hs;obtain⟨p,xs,i,z,rfl,rfl,hq,he,q⟩:=h;cases rx;obtain⟨t,rfl⟩:=ry;obtain⟨its,r,pl,hz⟩:=I.tuple hq;obtain⟨j,h1,h2,h3,h4,h5⟩:=xy he;obtain⟨w,ew,rw'⟩:=r.get h2;have hl:=r.length;have hn:=ff;have fin:EP X pins σ Q w s:=⟨z,H,I,rw',q⟩
 exact subscriptTail_builtinR (x:=w) pl.typeIs slot_tuple_getitem.lookup
  (getItem_tuple (j:=j) (Q:=λr s'=>r=w/\EP X pins σ Q r s') pl (by omega) (by omega) (by rw[Gy,<-hl]; exact h1) (by simpa using ew) ⟨rfl,fin⟩) hs
def DW (its:ar)(n j:Nat)(u:Value):Obj.mapSeq (·.setIfInBounds j u) { cls:=.type "list",data:=.seq its.toArray n }={ cls:=.type "list",data:=.seq (its.set j u).toArray n }:=by
 simp[Obj.mapSeq]
theorem Inv.lst {pins:ah}{σ:St}{H:Hp}{s:Shared}{p:Addr}{xs:aw}(I:Inv X pins σ H s)(h:H p=some (.lst xs)) :
  ∃(its:ar) (n:Nat),Vals xs its/\s.heap.get? p=some { cls:=.type "list",data:=.seq its.toArray n }/\xs.length<=sizeLine:=by
 obtain⟨z,its,n,r,e⟩:=I.hok p _ h;exact⟨its,n,r,e,z⟩
def Inv.lstUpd {pins:ah}{σ:St}{H:Hp}{s:Shared}{p:Addr}{xs ys:aw}{its its':ar}{n n':Nat}{f:Obj->Obj}(I:Inv X pins σ H s)(h:H p=some (.lst xs))
  (ho:s.heap.get? p=some { cls:=.type "list",data:=.seq its.toArray n })(hf:f { cls:=.type "list",data:=.seq its.toArray n }={ cls:=.type "list",data:=.seq its'.toArray n' })(r:Vals ys its')(hz:ys.length<=sizeLine)(t:Nat) :
  Inv X pins σ (upd H p (.lst ys)) { s with heap:=s.heap.update p f,toks:=t }:=by
 have e:(s.heap.update p f).get? p=some { cls:=.type "list",data:=.seq its'.toArray n' }:=by
  rw[Ht f ho (by rw[hf] <;> rfl),hf]
 refine I.write (x:=p) (e:=p) (by rw[h]; trivial) (.inl rfl) (λb u hb q=>(HM _ _ (HV hb)).trans q) ⟨_,e⟩ ?_;exact⟨hz,its',n',r,e⟩
def my:V->V->V->Hp->(Hp->Prop)->Prop:=λo i v H Q=>∃p xs k j,o=.ref p/\i=.int k/\H p=some (.lst xs)/\kr xs.length k=some j/\Q (upd H p (.lst (xs.set j v)))
def set_list:sF X my:=by
 intro pins s σ H o i v ov iv u Q I ro ri rv h;obtain⟨p,xs,k,j,rfl,rfl,hp,hj,q⟩:=h;cases ro;obtain⟨t,rfl⟩:=ri;obtain⟨its,n,r,ho,hz⟩:=I.lst hp;obtain⟨h1,h2,h3,h4⟩:=tS hj;have hl:=r.length;have hn:=ff;have I':Inv X pins σ (upd H p (.lst (xs.set j v))) { s with heap:=s.heap.update p (Obj.mapSeq (·.setIfInBounds j u)) }:=
  I.lstUpd hp ho (DW its n j u) (r.set rv j) (by rw[GO]; exact hz) s.toks
 by_cases h0:0<=k
 .have hk:k.toNat=j:=by
   rw[seqIndex_of h0 h4] at h1;exact cG h1
  exact PySem.W.ki_setAt ho h0 (by omega) (by rw[Gy,<-hl]; exact h4) (by rw[hk]; exact⟨_,I',q⟩)
 .have hk:(k+(its.toArray.size:Int)).toNat=j:=by
   rw[seqIndex_neg (by omega) h3] at h1;rw[Gy,<-hl];exact cG h1
  exact PySem.W.ki_setBack ho (by omega) (by rw[Gy,<-hl]; exact h3) (by omega) (by rw[hk]; exact⟨_,I',q⟩)
def BJ (lo hi:Option Int)(n:Nat):(sliceBounds lo hi none n).1=((HT.sIx n 0 lo:Nat):Int)/\(sliceBounds lo hi none n).2.1=((HT.sIx n n hi:Nat):Int)/\(sliceBounds lo hi none n).2.2=1:=by
 refine⟨?_,?_,rfl⟩
 .cases lo with
  | none=>simp[sliceBounds,HT.sIx]
  | some i=>
   simp only[sliceBounds,HT.sIx,Option.getD_none,show (1:Int) > 0 by decide,if_true];by_cases h:i<0
   .simp only[h,if_true] <;> omega
   .simp only[h,if_false] <;> omega
 .cases hi with
  | none=>simp[sliceBounds,HT.sIx]
  | some i=>
   simp only[sliceBounds,HT.sIx,Option.getD_none,show (1:Int) > 0 by decide,if_true];by_cases h:i<0
   .simp only[h,if_true] <;> omega
   .simp only[h,if_false] <;> omega
def Ae (its:ar)(lo hi:Option Int):slicePick its.toArray lo hi none=((its.drop (HT.sIx its.length 0 lo)).take (HT.sIx its.length its.length hi - HT.sIx its.length 0 lo)).toArray:=by
 obtain⟨h1,h2,h3⟩:=BJ lo hi its.toArray.size;unfold slicePick;rw[h1,h2,h3];simp only[sliceRange_one,pick_run,Gy] <;> rfl
def rc (K:bo):V->Option Int->Option Int->Hp->VK->Prop:=λx lo hi H Q=>∃a xs,x=.ref a/\SqL K H a xs/\∀p,H p=none->Q (.ref p) (upd H p (.lst (dZ xs lo hi)))
def CH:mF X (rc X.K):=by
 intro pins s σ H x v vl vu lo hi sl Q I rx hs pl pu h;obtain⟨a,xs,rfl,hx,q⟩:=h;cases rx;obtain⟨its,r,ht,hz⟩:=I.list hx;have hlen:=r.length;refine⟨"list",_,slot_list_getitem.lookup,ht.isList.typeIs,?_⟩;refine wpAny_getItem_list_slice ht.isList hs pl pu .none (by simp) ?_ (by rw[Gy] <;> omega);rw[Ae,<-hlen];refine⟨.ref s.heap.objs.size,_,I.laid (t':=s.toks) (o:=.lst (dZ xs lo hi)) (λb ob q=>bH _ q) (bI _) ?_,rfl,q _ (I.hok.fresh (bI _))⟩;exact⟨ce (xw xs lo hi) hz,_,0,(r.drop (HT.sIx xs.length 0 lo)).take (HT.sIx xs.length xs.length hi - HT.sIx xs.length 0 lo),dm _ rfl⟩
noncomputable def flatV:V->Bool
 | .non=>true
 | .bl _=>true
 | .int _=>true
 | .str _=>true
 | _=>false
noncomputable def eqV:V->V->Bool
 | .non,.non=>true
 | .bl a,.bl b=>a == b
 | .bl a,.int b=>(if a then 1 else 0) == b
 | .int a,.bl b=>a == (if b then 1 else 0)
 | .int a,.int b=>a == b
 | .str a,.str b=>a == b
 | _,_=>false
def FX {A:Around}{s:Shared}{y x:V}{u v:Value}(ry:RelV y u)(rx:RelV x v)(fy:flatV y=true)(fx:flatV x=true):SeqAt.EqAt A s u v (eqV y x):=by
 cases y with
 | non=>
  cases ry;cases x with
  | non=>cases rx; exact SeqAt.EqAt.same _
  | bl b=>cases rx; exact SeqAt.EqAt.none_bool b
  | int b=>obtain⟨t,rfl⟩:=rx; exact SeqAt.EqAt.none_int b t
  | str b=>obtain⟨t,rfl⟩:=rx; exact SeqAt.EqAt.none_str b t
  | _=>exact absurd (show false=true from fx) GX
 | bl a=>
  cases ry;cases x with
  | non=>cases rx; exact SeqAt.EqAt.bool_none a
  | bl b=>cases rx; exact SeqAt.EqAt.bool_bool a b
  | int b=>obtain⟨t,rfl⟩:=rx; exact SeqAt.EqAt.bool_int a b t
  | str b=>obtain⟨t,rfl⟩:=rx; exact SeqAt.EqAt.bool_str a b t
  | _=>exact absurd (show false=true from fx) GX
 | int a=>
  obtain⟨t',rfl⟩:=ry;cases x with
  | non=>cases rx; exact SeqAt.EqAt.int_none a t'
  | bl b=>cases rx; exact SeqAt.EqAt.int_bool a t' b
  | int b=>obtain⟨t,rfl⟩:=rx; exact SeqAt.EqAt.int_int a t' b t
  | str b=>obtain⟨t,rfl⟩:=rx; exact SeqAt.EqAt.int_str a t' b t
  | _=>exact absurd (show false=true from fx) GX
 | str a=>
  obtain⟨t',rfl⟩:=ry;cases x with
  | non=>cases rx; exact SeqAt.EqAt.str_none a t'
  | bl b=>cases rx; exact SeqAt.EqAt.str_bool a t' b
  | int b=>obtain⟨t,rfl⟩:=rx; exact SeqAt.EqAt.str_int a t' b t
  | str b=>obtain⟨t,rfl⟩:=rx; exact SeqAt.EqAt.str_str a t' b t
  | _=>exact absurd (show false=true from fx) GX
 | _=>exact absurd (show false=true from fy) GX
noncomputable def pz (x:V)(u:Value):Bool:=match u with
 | .none=>eqV .non x
 | .bool b=>eqV (.bl b) x
 | .int i _=>eqV (.int i) x
 | .str z _=>eqV (.str z) x
 | _=>false
def xg {x y:V}{u:Value}(r:RelV y u)(f:flatV y=true):pz x u=eqV y x:=by
 cases y with
 | non=>cases r; rfl
 | bl b=>cases r; rfl
 | int i=>obtain⟨t,rfl⟩:=r; rfl
 | str z=>obtain⟨t,rfl⟩:=r; rfl
 | _=>exact absurd (show false=true from f) GX
theorem vd {A:Around}{s:Shared}{x:V}{v:Value}(rx:RelV x v)(fx:flatV x=true):∀{xs:aw} {us:ar},Vals xs us->xs.all flatV=true->∀u∈us,SeqAt.EqAt A s u v (pz x u)
 | _,_,.nil,_=>λu hu=>by cases hu
 | y::xs,u::us,.cons r t,f=>λu' hu=>by
  rw[List.all_cons,tw] at f;rcases cH hu with rfl | hu
  .rw[xg r f.1]; exact FX r rx f.1 fx
  .exact vd rx fx t f.2 u' hu
def An:CallR X (.builtin "len") (λxs H Q=>∃p ys,xs=[.ref p]/\(SqL X.K H p ys\/SqT X.K H p ys)/\Q (.int ys.length) H):=by
 intro pins s σ H xs us Q I r h;obtain⟨p,ys,rfl,hq,q⟩:=h;obtain⟨u,rfl,rx⟩:=vals1 r;cases rx;have hn:=ff;rcases hq with hq | hq
 .obtain⟨its,r',pl,hz⟩:=I.list hq;have hlen:=r'.length;exact Calls.call_len_list pl.isList (by simp only[Gy] <;> omega) ⟨.int ys.length,H,I.tok _,⟨s.toks+1,by rw[Gy,hlen]⟩,q⟩
 .obtain⟨its,r',pl,hz⟩:=I.tuple hq;have hlen:=r'.length;exact len_tuple pl (by simp only[Gy] <;> omega) ⟨.int ys.length,H,I.tok _,⟨s.toks+1,by rw[Gy,hlen]⟩,q⟩
def Db:CallR X (.type "list") (λxs H Q=>∃p ys,xs=[.ref p]/\(SqL X.K H p ys\/SqT X.K H p ys)/\∀l,H l=none->Q (.ref l) (upd H l (.lst ys))):=by
 intro pins s σ H xs us Q I r h;obtain⟨p,ys,rfl,hq,q⟩:=h;obtain⟨u,rfl,rx⟩:=vals1 r;cases rx;have fin:∀(its:ar),Vals ys its->ys.length<=sizeLine->∀(h':Heap) (c':Nat),(∀b o',s.heap.get? b=some o'->h'.get? b=some o') ->
   h'.get? s.heap.objs.size=some { cls:=.type "list",dict:=none,data:=.seq its.toArray c',slots:=#[] }->EP X pins σ Q (.ref s.heap.objs.size) { s with heap:=h' }:=λits r' hz h' c' kp e=>
  ⟨.ref s.heap.objs.size,_,I.laid (t':=s.toks) kp (bI _) (show ObjOk X.prog X.w _ h' _ (.lst ys) from ⟨hz,its,c',r',e⟩),rfl,q _ (I.hok.fresh (bI _))⟩
 rcases hq with hq | hq
 .obtain⟨its,r',pl,hz⟩:=I.list hq;have hlen:=r'.length;obtain⟨o,ho,hc,n,hd⟩:=pl.isList;exact call_list_seq p (.inl rfl) ho hc hd (λh' c' kp e=>fin its r' hz h' c' kp e) (by simp only[Gy] <;> omega)
 .obtain⟨its,r',pl,hz⟩:=I.tuple hq;have hlen:=r'.length;obtain⟨o,ho,hc,n,hd⟩:=pl;exact call_list_seq p (.inr rfl) ho hc hd (λh' c' kp e=>fin its r' hz h' c' kp e) (by simp only[Gy] <;> omega)
def Fx:CallR X (.type "tuple") (λxs H Q=>∃p ys,xs=[.ref p]/\((SqL X.K H p ys/\∀l,H l=none->Q (.ref l) (upd H l (.tup ys)))\/(SqT X.K H p ys/\Q (.ref p) H))):=by
 intro pins s σ H xs us Q I r h;obtain⟨p,ys,rfl,h⟩:=h;obtain⟨u,rfl,rx⟩:=vals1 r;cases rx;rcases h with ⟨hq,q⟩ | ⟨hq,q⟩
 .obtain⟨its,r',pl,hz⟩:=I.list hq;have hlen:=r'.length;refine call_tuple_list pl.isList (λh' kp=>?_) (by simp only[Gy] <;> omega);have I1:Inv X pins σ H { s with heap:=h' }:=I.kept (t':=s.toks) kp;have I2:Inv X pins σ (upd H h'.objs.size (.tup ys)) { s with heap:=h'.push { cls:=.type "tuple",data:=.seq its.toArray } }:=
   I1.laid (t':=s.toks) (λb o e=>bH _ e) (bI _) (show ObjOk X.prog X.w _ _ _ (.tup ys) from ⟨hz,its,r',TupN.new _ _⟩)
  exact⟨.ref h'.objs.size,_,I2,rfl,q _ (I1.hok.fresh (bI _))⟩
 .obtain⟨its,r',pl,hz⟩:=I.tuple hq;exact call_tuple_same pl ⟨.ref p,H,I,rfl,q⟩
def tyV (K:bo)(T:String)(x:V)(H:Hp):Prop:=match x with
 | .str _=>T = "str"
 | .int _=>T = "int"
 | .ref p=>(T = "list" /\ ∃xs,SqL K H p xs)\/(T = "tuple" /\ ∃xs,SqT K H p xs) \/
   (T = "dict" /\ ((∃kvs,H p=some (.dK kvs))\/∃kvs,H p=some (.dT kvs)))\/(T = "set" /\ ∃S n,H p=some (.set S n))
 | _=>False
def Du {pins:ah}{σ:St}{H:Hp}{s:Shared}{T:String}{x:V}{v:Value}(I:Inv X pins σ H s)(r:RelV x v)(ty:tyV X.K T x H) :
  s.TypeIs v T/\∀a,v=.ref a->∃ob,s.heap.get? a=some ob/\ob.dict=none:=by
 cases x with
 | str z=>
  obtain⟨t,rfl⟩:=r;cases (show T = "str" from ty);exact⟨typeIs_str s z t,λ_ e=>nomatch e⟩
 | int i=>
  obtain⟨t,rfl⟩:=r;cases (show T = "int" from ty);exact⟨typeIs_int s i t,λ_ e=>nomatch e⟩
 | ref p=>
  cases r;rcases ty with ⟨rfl,xs,hq⟩ | ⟨rfl,xs,hq⟩ | ⟨rfl,hk⟩ | ⟨rfl,S,n,hk⟩
  .obtain⟨its,_,pl,_⟩:=I.list hq;refine⟨pl.isList.typeIs,λa e=>?_⟩;cases e;obtain⟨o,n,e,c,hd,_⟩:=pl;exact⟨o,e,hd⟩
  .obtain⟨its,_,⟨o,e,c,_,d⟩,_⟩:=I.tupN hq;refine⟨⟨o,e,c⟩,λa e2=>?_⟩;cases e2;exact⟨o,e,d⟩
  .have z:∃o,s.heap.get? p=some o/\o.ExactDict:=by
    rcases hk with ⟨kvs,hk⟩ | ⟨kvs,hk⟩
    .obtain⟨_,_,_,_,o,_,_,e,ex,_⟩:=I.hok p _ hk;exact⟨o,e,ex⟩
    .obtain⟨_,_,_,_,o,_,_,e,ex,_⟩:=I.hok p _ hk;exact⟨o,e,ex⟩
   obtain⟨o,e,ex⟩:=z;refine⟨⟨o,e,ex.1⟩,λa e2=>?_⟩;cases e2;exact⟨o,e,ex.2.1⟩
  .obtain⟨o,_,_,_,e,ex,_⟩:=I.hok p _ hk;refine⟨⟨o,e,ex.1⟩,λa e2=>?_⟩;cases e2;exact⟨o,e,ex.2.1⟩
 | _=>exact False.elim ty
def gY (K:bo)(T:String)(r:V->aw->Hp->VK->Prop)(to:TE)(t:TA):TE:=λσ H Q=>to σ H λx H1=>tyV K T x H1/\t σ H1 λxs H2=>r x xs H2 Q
variable {o e:Expr}{es:av}{to:TE}{t:TA}{name:Str}{apos cpos:Pos}{T id:String}{r:V->aw->Hp->VK->Prop}
def mj (pa:PlainAttrs T)(slot:Slot T name id)(hty:typeOf (.builtin id)=pure (.type "method_descriptor"))(hm:vL X id r)(ho:PE X o to)(ha:PA X (e::es) t)
  (hbase:attributeBase o name X.env (eval o X.env)=eval o X.env:=by rfl)
  (hfew:((backTo cpos (starEach (e::es) X.env)).all (λx=>!x.1)&&(backToKw cpos (keywordEach [] X.env)).all (λx=>x.1.isSome)
   && decide ((e::es).length+([]:List Keyword).length+(if ([]:List Keyword).isEmpty then 0 else 1)<30))=true:=by rfl)
  (hline:(apos.endLine == cpos.line)=true:=by rfl)(hs:starEach (e::es) X.env=(false,eval e X.env)::starEach es X.env:=by rfl)(hplain:(backTo cpos (starEach es X.env)).any (·.1)=false:=by rfl) :
  PE X (.Call (.Attribute o name apos) (e::es) [] cpos) (gY X.K T r to t):=by
 intro pins s σ H Q I h;refine wpAny_Call_method_late hbase hfew hline rfl (bj (ho pins s σ H _ I h) λv s1 hZz=>?_);obtain⟨x,H1,I1,r1,ty,q1⟩:=hZz;obtain⟨h1,h2⟩:=Du I1 r1 ty;refine⟨T,id,pa,slot,hty,h1,h2,?_⟩;have hA:=ha cpos pins s1 σ H1 _ I1 q1;rw[hs] at hA ⊢;refine Calls.callWith_builtin (by show (false||(backTo cpos (starEach es X.env)).any (·.1))=false; rw[hplain] <;> rfl) (Calls.evalArgs_plain ?_);exact bj hA λus s2 ⟨vs,H2,I2,r2,q2⟩=>hm pins s2 σ H2 x vs v us Q I2 r1 r2 q2
end
end L2
namespace L2
open PySem PySem.Spec PyProof.Rows
def oY (X:Cx)(id:String)(r:V->aw->Hp->VK->Prop):Prop:=
 ∀(pins:ah) (s:Shared) (σ:St) (H:Hp) (x:V) (xs:aw) (v:Value) (us:ar) (Q:VK),Inv X pins σ H s->RelV x v->Vals xs us->r x xs H Q ->
  wpAny (model X.prog X.w) X.A (call (.builtin id) (v::us)) (EP X pins σ Q) X.xe s
theorem Vals.one:∀{x:V} {us:ar},Vals [x] us->∃u,us=[u]/\RelV x u
 | _,_,.cons r .nil=>⟨_,rfl,r⟩
theorem Vals.eraseIdx:∀{xs:aw} {us:ar} (i:Nat),Vals xs us->Vals (xs.eraseIdx i) (us.eraseIdx i)
 | _,_,_,.nil=>.nil
 | _,_,0,.cons _ t=>t
 | _,_,i+1,.cons r t=>.cons r (Vals.eraseIdx i t)
theorem wv {α:Type}:∀(l:List α) (i:Nat),(l.eraseIdx i).length<=l.length
 | [],_=>bI _
 | _::_,0=>HB _
 | _::r,i+1=>Nat.succ_le_succ (wv r i)
section
variable {X:Cx}{pins:ah}{σ:St}{H:Hp}{s:Shared}{l b:Addr}{xs ys zs:aw}
def Inv.lset {its its':ar}{n:Nat}{f:aC->aC}{t':Nat}(I:Inv X pins σ H s)(hH:H l=some (.lst xs))
  (e:s.heap.get? l=some { cls:=.type "list",data:=.seq its.toArray n })(hf:f its.toArray=its'.toArray)(hv:Vals ys its')(hz:ys.length<=sizeLine) :
  Inv X pins σ (upd H l (.lst ys)) { s with heap:=s.heap.update l (Obj.mapSeq f),toks:=t' }:=by
 have q:=PySem.IsL.update e f;rw[hf] at q;refine I.write (x:=l) (e:=l) (by rw[hH]; exact trivial) (.inl rfl) (λb' u hb hu=>(HM s.heap (Obj.mapSeq f) (HV hb)).trans hu) ⟨_,q⟩ ?_;exact⟨hz,its',_,hv,q⟩
def Inv.lnew {its:ar}{t':Nat}(I:Inv X pins σ H s)(hv:Vals ys its)(hz:ys.length<=sizeLine) :
  Inv X pins σ (upd H s.heap.objs.size (.lst ys)) { s with heap:=s.heap.push { cls:=.type "list",data:=.seq its.toArray },toks:=t' }:=
 I.laid (λ_ _ q=>bH _ q) (bI _) ⟨hz,its,0,hv,dm _ rfl⟩
theorem Inv.fresh (I:Inv X pins σ H s):H s.heap.objs.size=none:=I.hok.fresh (bI _)
def Inv.lstM (I:Inv X pins σ H s)(hH:H l=some (.lst xs)):xs.length<=sizeLine/\∃(its:ar) (n:Nat),Vals xs its/\xs.length=its.length/\s.heap.get? l=some { cls:=.type "list",data:=.seq its.toArray n }:=by
 obtain⟨z,its,n,r,e⟩:=I.hok l _ hH;exact⟨z,its,n,r,r.length,e⟩
def yE {n:Nat}(h:n<=sizeLine):Builtin.List.listTooLong n=false:=by
 unfold Builtin.List.listTooLong;exact Hy (by omega)
end
section
variable {X:Cx}
def gB:V->aw->Hp->VK->Prop:=λx vs H Q=>∃l xs y,x=.ref l/\vs=[y]/\H l=some (.lst xs)/\xs.length<sizeLine/\Q .non (upd H l (.lst (xs++[y])))
def ww:oY X "list.append" gB:=by
 intro pins s σ H x vs v us Q I rx rv h;obtain⟨l,xs,y,rfl,rfl,hH,hz,q⟩:=h;cases rx;obtain⟨u,rfl,ru⟩:=rv.one;obtain⟨z,its,n,r,hl,e⟩:=I.lstM hH;refine JW F.slot_list_append ⟨_,e,rfl⟩ F.entry_list_append (F.args_list_append_2 _ _) (PySem.list_append l its.toArray n u (by rw[Gy]; omega)) ⟨e,?_⟩;refine⟨.non,_,I.lset (its':=its++[u]) hH e (by simp) (r.append (.cons ru .nil)) ?_,rfl,q⟩;rw[GJ,List.length_singleton];omega
end
section
variable {prog:Program}{w:World}{A:Around}{E:Value->Shared->Prop}{s:Shared}
end
section
variable {X:Cx}
end
end L2
namespace Att
open PySem PySem.W PySem.Calls PyProof.Rows
def Gh {P:Params}{h:Heap}:∀(ns:al) (vs:ar),WellAll P h vs (ns.map WData.int)->IntsAre vs ns:=by
 intro ns;induction ns with
 | nil=>
  intro vs w;rw[List.map_nil] at w;cases w;exact .nil
 | cons n ns ih=>
  intro vs w;rw[GB] at w;cases w with
  | cons a b=>
   cases a;exact .cons _ _ (ih _ b)
def E4 {l:OpenLaw}{n:Nat}(hn:l.most=some n){P:Params}{h:Heap}{args:List WData}{vals:ar}
  (hpre:l.row.toRowW.claim.pre args=true)(hwl:WellAll P h vals args) :
  ∃a vs ns,vals=[Value.ref a]/\args=[WData.list (ns.map WData.int)]/\h.get? a=some { cls:=.type "list",data:=.seq vs.toArray }/\IntsAre vs ns/\ns.length<=n:=by
 have hsh:WShape.hasAll [] args [.list .int]=true:=(pre_splitW hpre).1;have hc:l.pre.holds [] { args:=args }=true:=(pre_splitW hpre).2;obtain⟨d,r,rfl,h1,h2⟩:=hasAllW_cons hsh;obtain rfl:=hasAllW_nil h2;obtain⟨xs,rfl,h3⟩:=hasW_list h1;obtain⟨ns,rfl⟩:=items_int h3;have hlen:ns.length<=n:=by
  unfold OpenLaw.pre at hc;have h4:(WTm.not (.lt (.lit (.int (n:Int))) (.len (.arg 0)))).holds [] { args:=[.list (ns.map .int)] }=true:=by
   have h4:=(holds_andW hc).1;rw[hn] at h4;exact h4
  have h5:=condW_of h4 (w_not (w_lt w_lit (w_len_list (w_arg rfl))));rw[GA] at h5;refine Nat.le_of_not_lt λq=>?_;have q':(n:Int)<((ns.length:Nat):Int):=by omega
  first
   | (rw[HP q'] at h5; exact absurd h5 (by decide))
   | (simp at h5; omega)
 cases hwl with
 | cons w1 w2=>
  cases w2;cases w1 with
  | list ho hall=>exact⟨_,_,ns,rfl,rfl,ho,Gh ns _ hall,hlen⟩
def AB (l:OpenLaw)(args:List WData):l.row.toRowW.claim.post args (.bool true) args=true:=
 postW_of (r:=l.row.toRowW) (X:=(true == true))
  (show WShape.has [] (.bool true) .bool=true by first | rfl | decide | simp[WShape.has,WShape.arms,WShape.armsAll])
  (show (WTm.eq .res (.lit (.bool true))).value [] { args:=args,res:=some (.bool true),after:=args }=some (.bool (true == true)) from w_eq_bool (w_res rfl) w_lit) rfl
def attach_call {l:OpenLaw}{n:Nat}{q:Program}{loose:au}{XP:(Str->aB)->Heap->Prop}{YP:World->Heap->Prop}{d:DefRec}
  (hn:l.most=some n)(hdf:d.params.defaults=[])
  (call:∀(w:World) (s₀ s₁:Shared) (mg mb:Str->aB) (fa:Addr) (o:Obj) (pm cd doc:Value) (a:Addr) (vs:ar) (ns:al),
   Ground q loose [] XP w s₀ mg mb s₁.heap->YP w s₁.heap ->
   s₁.heap.get? fa=some o->o.data=.func (docDef d.name d.params d.body d.scope pm cd doc)->s₁.heap.CodeRec cd d.name->mg d.name=some (.ref fa) ->
   s₁.heap.get? a=some { cls:=.type "list",data:=.seq vs.toArray }->IntsAre vs ns->ns.length<=n->s₁.gens = #[] ->
   codeAny (model l.prog w) callerA (.call (.ref fa) ⟨[.ref a],[]⟩) (λr s'=>r=.ok (.ret (.bool true))/\OldK s₁.heap s'.heap/\s'.os=s₁.os/\AllBare s'.gens) s₁) :
  WalkO q loose XP YP l.row.toRowW d [] (λf vs=>PySem.call f vs):=by
 intro w s₀ s₁ mg mb G Y fa o pm cd doc dV kV ho hd hcd hD hmg hg args vals as hpre hlay hrd hwl hlo;obtain rfl:dV=.none:=Dflts.none hD hdf;obtain rfl:kV=.none:=Dflts.noKw hD;obtain⟨a,vs,ns,rfl,rfl,hobj,hints,hlen⟩:=E4 hn hpre hwl;refine enter_call (IF (call w s₀ s₁ mg mb fa o pm cd doc a vs ns G Y ho (fd_plain hd) hcd hmg hobj hints hlen hg) λr s' hq=>?_);obtain⟨rfl,h2,h3,h4⟩:=hq;exact⟨.inl ⟨.bool true,.bool true,[],rfl,λ_=>rfl,.bool true,AB l _,λ_=>⟨List.Pairwise.nil,λ_ hm=>(nomatch hm)⟩⟩,h2,h3,h4⟩
section
variable {prog:Program}{w:World}{A:Around}{E:Value->Shared->Prop}{s:Shared}{K:Frag}
end
end Att
namespace L2
open PySem PySem.Spec PyProof.Rows
theorem t4:∀{vs:ar} {ns:al},IntsAre vs ns->Vals (ns.map V.int) vs
 | _,_,.nil=>.nil
 | _,_,.cons n t h=>.cons ⟨t,rfl⟩ (t4 h)
def iO (H:Hp):Prop:=∀b,H b=none\/∃o xs,H b=some (.frz o (.lst xs))
def we {P:Program}{w:World}{K:bo}{mg mb:Str->aB}{CX:gG}{k:Nat}{fa a:Addr}{fd:FuncData}{x:Str}{sp:Sp}{s₁:Shared}{vs:ar}{ns:al}
  (KX:K.In s₁.heap)(hns:s₁.heap.Ns mainGlobals mg)(hb:s₁.heap.Ns builtinsNs mb)(hbb:∀x:Str,x ≠ "__name__" -> mb x=bootBuiltins x)(hlim:s₁.heap.NoLimit)(hg:s₁.gens = #[])
  (ha:s₁.heap.get? a=some { cls:=.type "list",data:=.seq vs.toArray })(hi:IntsAre vs ns)(hl:ns.length<=sizeLine)(hr:Room k callerA)
  (F:∀base:Heap,K.In base->base.Ns mainGlobals mg->FnOk P w K mg base CX k fa fd [x] sp)(hbind:∀(s:Shared) (u:Value),BindsTo s fd ⟨[u],[]⟩ [(x,u)])
  (hsp:∀H:Hp,iO H->SqL K H a (ns.map V.int)->sp [.ref a] H (λv _=>v=.bl true) λ_ _ _=>False)
  (hCX:∀H e s',CX [] H s₁ (λ_ _ _=>False) e s'->False) :
  codeAny (model P w) callerA (.call (.ref fa) ⟨[.ref a],[]⟩) (λr s'=>r=.ok (.ret (.bool true))/\OldK s₁.heap s'.heap/\s'.os=s₁.os/\AllBare s'.gens) s₁:=by
 have rv:=t4 hi;have lenV:=hi.length;have core:∀H:Hp,iO H->SqL K H a (ns.map V.int)->HOk P w H s₁.heap->(∀b,H b≠none->b=a)->(H a≠none->K.lookup a=none) ->
   codeAny (model P w) callerA (.call (.ref fa) ⟨[.ref a],[]⟩) (λr s'=>r=.ok (.ret (.bool true))/\OldK s₁.heap s'.heap/\s'.os=s₁.os/\AllBare s'.gens) s₁:=by
  intro H hO hS hok hA hK;have base_of:∀{b:Addr} {o:Obj},s₁.heap.get? b=some o->H b=none->(fg s₁.heap H).get? b=some o:=λe n=>FM e n;have noA:∀{b:Addr} {o:Obj} {es:Array DictEntry} {ep:Nat},s₁.heap.get? b=some o->o.data=.dict es ep->H b=none:=λ{b o es ep} e d=>by
   cases q:H b with
   | none=>rfl
   | some u=>
    have e':b=a:=hA b (by rw[q]; simp);subst e';rw[ha] at e; cases e;have d':Data.seq vs.toArray _=Data.dict es ep:=d;cases d'
  have nsK:∀{b:Addr} {m:Str->aB},s₁.heap.Ns b m->(fg s₁.heap H).Ns b m:=λ{b m} ⟨o,es,ep,e,d,r⟩=>⟨o,es,ep,base_of e (noA e d),d,r⟩
  have hKb:K.In (fg s₁.heap H):=λb o e=>base_of (KX b o e) (by
   cases q:H b with
   | none=>rfl
   | some u=>
    have e':b=a:=hA b (by rw[q]; simp);subst e';rw[hK (by rw[q]; simp)] at e; cases e)
  have hM:Mod K mg (fg s₁.heap H):=⟨hKb,nsK hns,⟨mb,nsK hb,hbb⟩,let ⟨mc,h1,h2⟩:=hlim; ⟨mc,nsK h1,h2⟩⟩
  have e0:Env0 P w K mg (fg s₁.heap H) callerA [] s₁ H:=⟨rfl,hM,λb o e=>FP e,JE (BD _ _),trivial,λb hb=>absurd (show b∈([]:ao) from hb) (by simp),hok,.of_eq hg⟩
  refine IF ((F _ hKb (nsK hns)).run callerA [] s₁ H ⟨[.ref a],[]⟩ [.ref a] [.ref a] _ _ hr e0 (hbind s₁ (.ref a)) (.cons rfl .nil) (hsp H hO hS)) λr s' h=>?_;cases r with
  | error e=>exact (hCX H e s' h).elim
  | ok fl=>
   cases fl with
   | next=>exact False.elim h
   | brk=>exact False.elim h
   | cont=>exact False.elim h
   | ret u=>
    obtain⟨v,H',os,bare,un,hok',r',q⟩:=h;have q':v=.bl true:=q;subst q';obtain rfl:u=Value.bool true:=r';refine⟨rfl,OldK.of_keep λb o e=>?_,os,bare⟩;cases q:H b with
    | none=>exact un.keep b o e q (by intro z; exact absurd (show b∈([]:ao) from z) (by simp)) (by simp)
    | some u=>
     rcases hO b with z | ⟨ob,xs,z⟩
     .rw[q] at z; cases z
     .have z2:=un.frzs b ob _ z;obtain⟨e1,_⟩:=hok b _ z;obtain⟨e2,_⟩:=hok' b _ z2;rw[e] at e1; cases e1;exact e2
 cases hk:K.lookup a with
 | some o=>
  have e:=KX a o hk;rw[ha] at e;cases e;refine core (λ_=>none) (λ_=>.inl rfl) (.inr ⟨_,vs.toArray,_,hk,rfl,rfl,rfl,by rw[Gy,lenV]; exact hl,by simpa using rv⟩) (λb u z=>by have z':(none:Option HO)=some u:=z; cases z') (λb z=>absurd rfl z) λz=>absurd rfl z
 | none=>
  refine core (λb=>if b=a then some (.frz { cls:=.type "list",data:=.seq vs.toArray } (.lst (ns.map V.int))) else none) (λb=>?_) (.inl (.inr ⟨{ cls:=.type "list",data:=.seq vs.toArray },if_pos rfl⟩)) (λb u z=>?_) (λb z=>?_) λ_=>hk
  .by_cases hb:b=a
   .exact .inr ⟨_,_,if_pos hb⟩
   .exact .inl (if_neg hb)
  .by_cases hb:b=a
   .have z':=(if_pos hb).symm.trans z;cases z';subst hb;exact⟨ha,by rw[GA]; exact hl,vs,_,rv,ha⟩
   .have z':=(if_neg hb).symm.trans z;cases z'
  .by_cases hb:b=a
   .exact hb
   .exact absurd (if_neg hb) z
end L2
namespace L2
open PySem PySem.Spec PyProof.Rows
def walk_of {l:PySem.W.OpenLaw}{n k:Nat}{q:Program}{loose:au}{XP:(Str->aB)->Heap->Prop}{YP:World->Heap->Prop}{d:DefRec}{K:Params->bo}{CX:World->gG}{sp:World->Sp}{x:Str}
  (hn:l.most=some n)(hn2:n<=sizeLine)(hdf:d.params.defaults=[])(hr:Room k callerA)
  (hY:∀(w:World) (h:Heap),YP w h->(K w.params).In h)
  (F:∀(w:World) (mg:Str->aB) (fa:Addr) (h:Heap),(K w.params).In h->h.Ns mainGlobals mg->mg d.name=some (.ref fa) ->
   ∃fd:FuncData,(∀(s:Shared) (u:Value),BindsTo s fd ⟨[u],[]⟩ [(x,u)]) /\
    ∀base:Heap,(K w.params).In base->base.Ns mainGlobals mg->FnOk l.prog w (K w.params) mg base (CX w) k fa fd [x] (sp w))
  (hsp:∀(w:World) (H:Hp) (a:Addr) (ns:al),ns.length<=n->iO H->SqL (K w.params) H a (ns.map V.int)->sp w [.ref a] H (λv _=>v=.bl true) λ_ _ _=>False)
  (hCX:∀(w:World) (H:Hp) (s:Shared) (e:Value) (s':Shared),CX w [] H s (λ_ _ _=>False) e s'->False) :
  PySem.W.WalkO q loose XP YP l.row.toRowW d [] (λf vs=>PySem.call f vs):=by
 refine Att.attach_call hn hdf λw s₀ s₁ mg mb fa o pm cd doc a vs ns G Y ho hd hcd hmg hobj hints hlen hg=>?_;have KX:=hY w _ Y;obtain⟨fd,hb,hF⟩:=F w mg fa _ KX G.T.g hmg;exact we KX G.T.g G.T.b G.T.builtins G.T.nolimit hg hobj hints (ce hlen hn2) hr hF hb (λH hO hS=>hsp w H a ns hlen hO hS) λH e s'=>hCX w H s₁ e s'
end L2
namespace L2
open PySem PySem.Spec PyProof.Rows
noncomputable def cQ (s:Stmt)(j:Nat):Stmt:=match s with
 | .ClassDef _ _ _ body _ _ _ _ _ _ _=>body.getD j (.Pass ⟨0,0,0,0⟩)
 | _=>.Pass ⟨0,0,0,0⟩
noncomputable def aQ (s:Stmt):Arguments:=match s with
 | .FunctionDef _ a _ _ _ _ _ _ _ _=>a
 | _=>{ posonlyargs:=[],args:=[],vararg:=none,kwonlyargs:=[],kw_defaults:=[],kwarg:=none,defaults:=[] }
noncomputable def aW (s:Stmt):aH:=match s with
 | .FunctionDef _ _ b _ _ _ _ _ _ _=>b
 | _=>[]
noncomputable def b8 (s:Stmt):Scope:=match s with
 | .FunctionDef _ _ _ _ _ _ sc _ _ _=>sc
 | _=>{ kind:=.function,names:=[],isGenerator:=false,isCoroutine:=false }
noncomputable abbrev vU:gG:=λ_ _ _ _ _ _=>False
abbrev E0:St->XK:=λ_ _ _ _=>False
structure Fun (K:bo)(x qual:Str)(st:Stmt)(f:Addr)(fd:FuncData):Prop where
 ex:∃(oc:Value) (od:aF) (kV doc pm:Value) (an:aF) (cdv ct:Value) (osl:Array aB),
  fd=PySem.W.fnOf x qual (aQ st) (aW st) (b8 st) .none kV doc pm an cdv ct/\K.lookup f=some ⟨oc,od,.func fd,osl⟩/\PySem.W.codeIn K cdv qual=true
 kp:PySem.W.keepIn K (.ref f)=true
section
variable {P:Program}{w:World}{K:bo}{mg:Str->aB}{base:Heap}
def Fun.ok {x qual:Str}{st:Stmt}{f:Addr}{fd:FuncData}{N ps:au}{k:Nat}{sp:Sp}(F:Fun K x qual st f fd)(S:FnScope N ps (b8 st))(len:∀vs H Q E,sp vs H Q E->vs.length=ps.length)
  (hbody:∀(cdv:Value) (A:Around) (outer:List Env) (s:Shared) (H:Hp) (vs:aw) (Q:VK) (E:XK),Room k (A.deeper (envOfC qual (b8 st) s.heap.objs.size f cdv))->sp vs H Q E ->
   ∃t,PSs (fc vU P w K mg base N qual (b8 st) f cdv A outer s H E).nox (aW st) t/\t { nx:=λ_ H'=>Q .non H',rt:=Q } (start N vs) H):FnOk P w K mg base vU (k+1) f fd ps sp:=by
 obtain⟨oc,od,kV,doc,pm,an,cdv,ct,osl,rfl,lk,hcd⟩:=F.ex;refine uK lk hcd S len λA outer s H vs Q E hr hsp=>?_;obtain⟨t,h,q⟩:=hbody cdv A outer s H vs Q E hr hsp;exact⟨t,h.nox,q⟩
end
def rL {n:Nat}(h:n<=1000):n<sizeLine:=Nat.lt_of_le_of_lt h (by decide)
section
variable {X:Cx}
end
def Same (H H':Hp):Prop:=∀b o,H b=some o->H' b=some o
def Same.trans {H H1 H2:Hp}(a:Same H H1)(b:Same H1 H2):Same H H2:=λc o h=>b c o (a c o h)
def Same.free {H H':Hp}(e:Same H H'){l:Addr}(h:H' l=Option.none):H l=Option.none:=by
 cases q:H l with
 | none=>rfl
 | some o=>
  rw[e l o q] at h;cases h
def Same.seq {K:bo}{H H':Hp}{a:Addr}{xs:aw}(e:Same H H')(h:SqL K H a xs):SqL K H' a xs:=by
 rcases h with (h | ⟨o,h⟩) | h
 .exact .inl (.inl (e _ _ h))
 .exact .inl (.inr ⟨o,e _ _ h⟩)
 .exact .inr h
end L2
end
section
namespace L2
open PySem PySem.W Builtin Builtin.ObjectAttr
structure Fly (h:Heap)(e T:Addr)(fl:Value):Prop where
 ex:∃oe vs oT ts,h.get? e=some oe/\oe.data=.fields vs/\vs[1]? = some (.ref T)/\h.get? T=some oT/\oT.data=.fields ts/\ts[3]? = some fl
 ne:T≠e
structure XStep (fr:ao)(e:Addr)(ch:ao)(h h':Heap):Prop where
 size:h.objs.size<=h'.objs.size
 keep:∀b o,h.get? b=some o->b≠e->b∉fr->b∉ch->h'.get? b=some o
 slot:∀b o,h.get? b=some o->b≠e->b∈fr->b∉ch->∃sl,h'.get? b=some { o with slots:=sl }
 exc:∀oe vs,h.get? e=some oe->oe.data=.fields vs->∃vs':aC,h'.get? e=some { oe with data:=.fields vs' }/\vs'.size=vs.size/\vs'[0]? = vs[0]?
 there:∀b o,h.get? b=some o->b≠e->∃o',h'.get? b=some o'
def BW {o:Obj}{vs:aC}(hd:o.data=.fields vs)(f:aC->aC):o.mapFields f={ o with data:=.fields (f vs) }:=by
 obtain⟨c,d,dt,sl⟩:=o; subst hd; rfl
theorem XStep.trans {fr ch:ao}{e:Addr}{h1 h2 h3:Heap}(a:XStep fr e ch h1 h2)(b:XStep fr e ch h2 h3):XStep fr e ch h1 h3 where
 size:=ce a.size b.size
 keep:=λc o z n1 n2 n3=>b.keep c o (a.keep c o z n1 n2 n3) n1 n2 n3
 slot:=λc o z n1 n2 n3=>by
  obtain⟨sl,z1⟩:=a.slot c o z n1 n2 n3;obtain⟨sl',z2⟩:=b.slot c _ z1 n1 n2 n3;exact⟨sl',z2⟩
 exc:=λoe vs z hd=>by
  obtain⟨v1,z1,e1,e2⟩:=a.exc oe vs z hd;obtain⟨v2,z2,e3,e4⟩:=b.exc _ v1 z1 rfl;exact⟨v2,z2,e3.trans e1,e4.trans e2⟩
 there:=λc o z n1=>by
  obtain⟨o1,z1⟩:=a.there c o z n1;exact b.there c o1 z1 n1
def XStep.mono {fr fr' ch ch':ao}{e:Addr}{h1 h2:Heap}(a:XStep fr e ch h1 h2)(hf:∀b∈fr,b∈fr')(hc:∀b∈ch,b∈ch'):XStep fr' e ch' h1 h2 where
 size:=a.size
 keep:=λc o z n1 n2 n3=>a.keep c o z n1 (λq=>n2 (hf c q)) λq=>n3 (hc c q)
 slot:=λc o z n1 n2 n3=>by
  by_cases q:c∈fr
  .exact a.slot c o z n1 q λq=>n3 (hc c q)
  .exact⟨o.slots,a.keep c o z n1 q λq=>n3 (hc c q)⟩
 exc:=a.exc
 there:=a.there
section
variable {M:Model}{A:Around}{E:Value->Shared->Prop}{s:Shared}{base:Heap}{env:Env}{outer:List Env}{L e T:Addr}{Q:Unit->Shared->Prop}
def ot {oe:Obj}{vs:aC}{i:Nat}{x:Value}(he:s.heap.get? e=some oe)(hd:oe.data=.fields vs)(hi:i<vs.size)
  (hQ:∀h',h'.objs.size=s.heap.objs.size->h'.get? e=some { oe with data:=.fields (vs.setIfInBounds i x) }->(∀b,b≠e->h'.get? b=s.heap.get? b)->Q () { s with heap:=h' }):wpAny M A (setField (.ref e) i x) Q E s:=by
 refine JI he hd hi (hQ _ (Heap.size_after_update ..) ?_ λb hb=>HM _ _ (HV hb));rw[<-BW hd (λws=>ws.setIfInBounds i x)];exact Ht _ he (Jm (JJ hd _))
def vB {oe:Obj}{vs:aC}{head:Value}{hadNext:Bool}(hfr:A.frames=some (env::outer))(hl:s.heap.FunFrames base (env::outer))(hf:env.frame=some L)
  (he:s.heap.get? e=some oe)(hd:oe.data=.fields vs)(hz:1<vs.size)
  (hQ:∀h',Fly h' e s.heap.objs.size (rawInt L)->XStep ((env::outer).filterMap (·.frame)) e [] s.heap h'->Q () { s with heap:=h' }) :
  wpAny M A (do let a <-frameOf env; let pl <-entryPlaceOf L hadNext; let b <-EntryCells.newEntry head a .none (rawInt L) .none pl; setField (.ref e) 1 b) Q E s:=by
 have nfr:e∉(env::outer).filterMap (·.frame):=λhm=>by
  obtain⟨_,o,ho,hnf⟩:=hl.mem hm;rw[he] at ho;cases ho;exact hnf vs hd
 refine aM (wpAny_frameOf_fun hfr hl hf λh1 so=>aM (wpAny_entryPlaceOf λpl hpl=>?_));have z1:h1.get? e=some oe:=(so.2.1 e nfr).trans he;unfold EntryCells.newEntry newFields;refine aM (GW ?_ (hpl.sizeOk5 _ _ _ _ _));generalize hto:({ cls:=.type "traceback",dict:=none,data:=.fields ([head,.ref L,.none,rawInt L,.none]++(if pl.isEmpty then List.replicate 6 Value.none else pl)).toArray }:Obj)=to;have dto:to.data=.fields ([head,.ref L,.none,rawInt L,.none]++(if pl.isEmpty then List.replicate 6 Value.none else pl)).toArray:=by rw[<-hto]
 have nft:to.isFreed=false:=Jm dto;refine ot (bH _ z1) hd hz λh2 sz2 g2 k2=>?_;have lte:e<h1.objs.size:=bO z1;have gT:h2.get? h1.objs.size=some to:=(k2 _ (Hq lte)).trans (dm _ nft);have sz1:h1.objs.size=s.heap.objs.size:=so.1;rw[<-sz1] at hQ;refine hQ h2 ⟨⟨_,_,to,_,g2,rfl,by simp[hz],gT,dto,by simp⟩,Hq lte⟩ ⟨?_,λb o z n1 n2 _=>?_,λb o z n1 _ _=>?_,λo ws z hw=>?_,λb o z n1=>?_⟩
 .rw[sz2];show s.heap.objs.size<=(h1.push to).objs.size;rw[GI,sz1];omega
 .rw[k2 b n1];exact bH _ ((so.2.1 b n2).trans z)
 .obtain⟨sl,q⟩:=so.2.2 b o z;exact⟨sl,by rw[k2 b n1]; exact bH _ q⟩
 .rw[he] at z;cases z;rw[hd] at hw;cases hw;exact⟨_,g2,by simp,by rw[Jk (by decide)]⟩
 .obtain⟨sl,q⟩:=so.2.2 b o z;exact⟨_,by rw[k2 b n1]; exact bH _ q⟩
def wj {oe:Obj}{vs:aC}(hfr:A.frames=some (env::outer))(hl:s.heap.FunFrames base (env::outer))(hf:env.frame=some L)(he:s.heap.get? e=some oe)(hd:oe.data=.fields vs)(h1:vs[1]? = some .none)
  (hQ:∀h',Fly h' e s.heap.objs.size (rawInt L)->XStep ((env::outer).filterMap (·.frame)) e [] s.heap h'->Q () { s with heap:=h' }):wpAny M A (noteFrame (.ref e) env) Q E s:=by
 unfold noteFrame;simp only[hf];refine aM (GZ he hd h1 ?_);rw[if_neg (by decide)];exact vB hfr hl hf he hd (Hm.mp h1).1 hQ
def ur (hfr:A.frames=some (env::outer))(hl:s.heap.FunFrames base (env::outer))(hf:env.frame=some L)(F:Fly s.heap e T .none)
  (hQ:∀h',Fly h' e s.heap.objs.size (rawInt L)->XStep ((env::outer).filterMap (·.frame)) e [T] s.heap h'->Q () { s with heap:=h' }):wpAny M A (noteFrame (.ref e) env) Q E s:=by
 obtain⟨⟨oe,vs,oT,ts,he,hd,h1,hT,hdT,h3⟩,hne⟩:=F;unfold noteFrame;simp only[hf];refine aM (GZ he hd h1 ?_);rw[if_pos (show (Value.ref T != Value.none)=true from by simp)];refine aM (GZ hT hdT h3 ?_);rw[if_neg (show ¬((Value.none == rawInt L)=true) from by simp[rawInt])];refine aM (ot hT hdT (Hm.mp h3).1 λh1' sz1 g1 k1=>?_);have nT:∀b o,s.heap.get? b=some o->(∀vs,o.data≠.fields vs)->b≠T:=λb o hb hnf z=>by
  rw[z,hT] at hb;cases hb;exact hnf ts hdT
 have st:XStep ((env::outer).filterMap (·.frame)) e [T] s.heap h1':=⟨JE sz1.symm,λb o z _ _ n=>by rw[k1 b (by simpa using n)]; exact z,λb o z _ _ n=>⟨o.slots,by rw[k1 b (by simpa using n)]; exact z⟩,
  λo ws z hw=>⟨ws,by rw[k1 e (HV hne),z,<-hw],rfl,rfl⟩,λb o z _=>by
   by_cases q:b=T
   .rw[q]; exact⟨_,g1⟩
   .exact⟨o,by rw[k1 b q]; exact z⟩⟩
 refine vB (base:=base) (s:={ s with heap:=h1' }) hfr (hl.of_keeps λb o hb hnf=>⟨o,by rw[k1 b (nT b o hb hnf)]; exact hb,rfl⟩) hf (by rw[k1 e (HV hne)]; exact he) hd (Hm.mp h1).1 λh2 F2 st2=>?_;rw[show ({ s with heap:=h1' }:Shared).heap.objs.size=s.heap.objs.size from sz1] at F2;exact hQ h2 F2 (st.trans (st2.mono (λ_ z=>z) λ_ z=>nomatch z))
def mG {fl:Value}(F:Fly s.heap e T fl)(hQ:∀h',Fly h' e T .none->XStep [] e [T] s.heap h'->Q () { s with heap:=h' }):wpAny M A (setFlight (.ref e) none) Q E s:=by
 obtain⟨⟨oe,vs,oT,ts,he,hd,h1,hT,hdT,h3⟩,hne⟩:=F;unfold setFlight;refine aM (GZ he hd h1 ?_);rw[if_pos (show (Value.ref T != Value.none)=true from by simp)];refine ot hT hdT (Hm.mp h3).1 λh' sz g k=>?_;refine hQ h' ⟨⟨oe,vs,_,_,by rw[k e (HV hne)]; exact he,hd,h1,g,rfl,by simp[(Hm.mp h3).1]⟩,hne⟩ ⟨JE sz.symm,λb o z _ _ n=>by rw[k b (by simpa using n)]; exact z,(λb o z _ n _=>nomatch n),
  λo ws z hw=>⟨ws,by rw[k e (HV hne),z,<-hw],rfl,rfl⟩,λb o z _=>?_⟩
 by_cases q:b=T
 .rw[q]; exact⟨_,g⟩
 .exact⟨o,by rw[k b q]; exact z⟩
def y0 {oe:Obj}{vs:aC}(hfr:A.frames=some (env::outer))(hl:s.heap.FunFrames base (env::outer))(hf:env.frame=some L)(he:s.heap.get? e=some oe)(hd:oe.data=.fields vs)(h1:vs[1]? = some .none)
  (hQ:∀h',Fly h' e s.heap.objs.size .none->XStep ((env::outer).filterMap (·.frame)) e [s.heap.objs.size] s.heap h'->Q () { s with heap:=h' }):wpAny M A (leaving env (.ref e)) Q E s:=by
 unfold leaving;refine aM (wj hfr hl hf he hd h1 λh2 F2 s2=>mG (s:={ s with heap:=h2 }) F2 λh3 F3 s3=>?_);exact hQ h3 F3 ((s2.mono (λ_ z=>z) λ_ z=>nomatch z).trans (s3.mono (λ_ z=>nomatch z) λ_ z=>z))
def yc (hfr:A.frames=some (env::outer))(hl:s.heap.FunFrames base (env::outer))(hf:env.frame=some L)(F:Fly s.heap e T .none)
  (hQ:∀h',Fly h' e s.heap.objs.size .none->XStep ((env::outer).filterMap (·.frame)) e [T,s.heap.objs.size] s.heap h'->Q () { s with heap:=h' }):wpAny M A (leaving env (.ref e)) Q E s:=by
 unfold leaving;refine aM (ur hfr hl hf F λh2 F2 s2=>mG (s:={ s with heap:=h2 }) F2 λh3 F3 s3=>?_);exact hQ h3 F3 ((s2.mono (λ_ z=>z) λ_ z=>by simp at z; simp[z]).trans (s3.mono (λ_ z=>nomatch z) λ_ z=>by simp at z; simp[z]))
end
noncomputable abbrev b7:ar:=[.type "ValueError",.type "Exception",.type "BaseException",.type "object"]
structure XO (K:Frag)(C:Addr)(tl:ao):Prop where
 obj:∃(nm q:Str) (N:Addr) (bs:ar) (sn:au) (sub:ar) (ab:Bool) (col:Option Bool) (dd:aF) (k0 k1 k2 k3 k5:aB),
  K.lookup C=some (excClassObj nm q C N bs (tl.map Value.ref++b7) true sn sub ab col dd k0 k1 k2 k3 k5 "ValueError.__new__")
structure XC (K:Frag)(C:Addr)(fI:Value)(tl:ao):Prop extends XO K C tl where
 init:findIn K (.ref C) "__init__" = some (some fI)
 fn:isFn K fI=true\/fI=.builtin "ValueError.__init__"
 sa:findIn K (.ref C) "__setattr__" = some (some (.builtin "object.__setattr__"))
 ga:findIn K (.ref C) "__getattribute__" = some (some (.builtin "BaseException.__getattribute__"))
 gh:findIn K (.ref C) "__getattr__" = some none
section
variable {prog:Program}{w:World}{A:Around}{E:Value->Shared->Prop}{s:Shared}{K:Frag}{C x:Addr}{fI:Value}{tl:ao}{mA:Str->aB}{name:Str}{v:Value}
theorem vK (self:Value)(what:Str)(l:ar):∀tl:ao,refuseLoop self what (tl.map Value.ref++l)=refuseLoop self what l
 | []=>rfl
 | a::r=>by
  rw[GB,List.cons_append,refuseLoop_ref];exact vK self what l r
def oq {h:Heap}{x C:Addr}{mA:Str->aB}(I:h.Inst x C mA):∃ox od,InstAt h x ox C od:=by
 obtain⟨o,hx,hc,hn,hd⟩:=I;have hn':notCls o=true:=by
  unfold notCls;cases q:o.data <;> first | rfl | (exact absurd q (hn _))
 rcases hd with ⟨e,_⟩ | ⟨d,e,_,o',es,ep,ho,_⟩
 .exact⟨o,none,hx,hc,hn',by rw[e]; trivial⟩
 .exact⟨o,some o',hx,hc,hn',by rw[e]; exact ho⟩
def Gc {ns:au}{Q:Unit->Shared->Prop}(T:XC K C fI tl)(X:K.In s.heap)(hna:findIn K (.ref C) name=some none)(I:s.heap.Inst x C mA)(hw:Within mA ns)(hsz:ns.length<sizeLine)
  (hq:∀h' tk',h'.Inst x C (λy=>if y=name then some v else mA y)->s.heap.objs.size<=h'.objs.size ->
   (∀b o,b≠x->(∀o₀ dx,s.heap.get? x=some o₀->o₀.dict=some dx->b≠dx)->s.heap.get? b=some o->h'.get? b=some o) ->
   (∀o₀,s.heap.get? x=some o₀->∃o₁,h'.get? x=some o₁/\o₁.data=o₀.data/\((∃dx,o₀.dict=some dx/\o₁.dict=some dx)\/(o₀.dict=none/\o₁.dict=some s.heap.objs.size)))->Q () { s with heap:=h',toks:=tk' }) :
  wpAny (model prog w) A (setAttr (.ref x) name v) Q E s:=by
 obtain⟨ox,od,J⟩:=oq I;have SF:=PySem.F.store_ValueError;obtain⟨nm,q,N,bs,sn,sub,ab,col,dd,k0,k1,k2,k3,k5,lk⟩:=T.obj;have hC:=X _ _ lk;have hcont:(Value.ref C::(tl.map Value.ref++b7)).contains (.type "object")=true:=by
  rw[Ii,IB];rw[show b7.contains (.type "object")=true from by decide +kernel,Jd,Jd]
 have iso:Looks (model prog w) s.heap (isInstance (.ref x) (.type "object")) true:=J.type.andThen λA' Q' E' s' k q'=>by
  obtain⟨h1,g1,d1,t1,o1⟩:=s';refine Hh (k _ _ hC) ?_;rw[hcont]; exact q'
 have J':=J;have X':=X;obtain⟨hp,g,d,tk,os⟩:=s;refine set_plain X J T.sa (HW SF.slot.plain SF.entry (@check_slot (model prog w) _ _ _ "object.__setattr__" "object" "__setattr__" (.ref x) [.str name tk,v] [] _ SF.kind SF.split iso (SF.args (.ref x) (.str name tk) v) ?_));have hpass:=SF.passes (.ref x);obtain⟨o,hx,hc,hnc,hd⟩:=I;unfold Builtin.«object.__setattr__»;repeat (first | rw[refuse_eq] | (rw[refuseLoop_ref,vK,hpass]) | (with_reducible refine GH hx ?_; rw[hc]) | with_reducible refine wpAny_mroOf_exc hC ?_ | with_reducible refine (Ij X hna).here ?_ | wp_step)
 change K.In hp at X;show wpAny _ _ _ _ _ ⟨hp,g,d,tk+1,os⟩;refine (Ij X hna).at ?_;repeat (first | (with_reducible refine GH hx ?_; rw[hc]) | with_reducible refine GH hC ?_ | wp_step)
 rcases hd with ⟨hdn,hmA⟩ | ⟨dx,hdx,hne,hns⟩
 .rw[hdn,if_neg (by simp[typeHasDict])];split
  .rename_i z;cases z
  split
  .rename_i c z;exact absurd z (hnc c)
  .have lt:x<hp.objs.size:=bO hx;have hx1:(hp.push { cls:=.type "dict",data:=.dict #[] }).get? x=some o:=bH _ hx;refine aM (wpAny_alloc' (aM (wpAny_update' hx1 (aV ?_))));generalize hh2:((hp.push { cls:=.type "dict",data:=.dict #[] }).update x λo=>{ cls:=o.cls,dict:=some hp.objs.size,data:=o.data,slots:=o.slots })=h2;have gd:h2.get? hp.objs.size=some { cls:=.type "dict",data:=.dict #[] }:=by
    rw[<-hh2];exact (HM _ _ (di lt)).trans (Heap.get?_push_at rfl rfl)
   have gx:h2.get? x=some { cls:=o.cls,dict:=some hp.objs.size,data:=o.data,slots:=o.slots }:=by
    rw[<-hh2];refine Ht _ hx1 ?_;have fr:=(Heap.get?_some_iff.mp hx).2;obtain⟨_,_,dt,_⟩:=o;cases dt <;> first | rfl | exact fr
   have gb:∀b ob,b≠x->hp.get? b=some ob->h2.get? b=some ob:=λb ob nb z=>by
    rw[<-hh2];exact (HM _ _ (HV nb)).trans (bH _ z)
   have sz2:h2.objs.size=hp.objs.size+1:=by rw[<-hh2,Heap.size_after_update,GI]
   have nd:h2.Ns1 hp.objs.size (λ_=>none):=Heap.Ns1.of_empty ⟨_,#[],_,gd,rfl,λe he=>absurd he (by simp),λ_=>rfl⟩;show wpAny _ _ (storeInDict hp.objs.size (.str name tk) name v) _ _ _;unfold storeInDict newKeyGuard;refine aM (aV (aM (wpAny_nsSet1 nd λh3 n3 s3=>?_)));obtain⟨oD,esD,epD,hoD,hdD,hcD⟩:=n3.count (Within.cons name v Within.nil);refine aM (wpAny_lookBehind hoD (by rw[hdD]; exact pastItsLine_dict (ce hcD (by rw[List.length_cons,List.length_nil,sizeLine_eq]; omega))) ?_);wp_walk
   have gx3:=(s3.2 x (di lt)).trans gx;refine hq h3 _ ⟨_,gx3,hc,hnc,.inr ⟨hp.objs.size,rfl,Hq lt,?_⟩⟩ (by rw[s3.1,sz2]; exact HB _) (λb ob nb _ z=>?_) λo₀ z=>?_
   .obtain⟨o',es,ep,e1,e2,e3,eu,e4⟩:=n3;exact⟨o',es,ep,e1,e2,e3,eu,λy=>by rw[e4 y]; by_cases hy:y=name <;> simp[hy,hmA]⟩
   .exact (s3.2 b (di (bO z))).trans (gb b ob nb z)
   .obtain rfl:o=o₀:=cG (hx.symm.trans z);exact⟨_,gx3,rfl,.inr ⟨hdn,rfl⟩⟩
 .rw[hdx];refine aV ?_;show wpAny _ _ (storeInDict dx (.str name tk) name v) _ _ _;unfold storeInDict newKeyGuard;refine aM (aV (aM (wpAny_nsSet1 hns λh3 n3 s3=>?_)));obtain⟨oD,esD,epD,hoD,hdD,hcD⟩:=n3.count (Within.cons name v hw);refine aM (wpAny_lookBehind hoD (by rw[hdD]; exact pastItsLine_dict (ce hcD (by rw[List.length_cons]; omega))) ?_);wp_walk
  have gx3:=(s3.2 x (HV hne)).trans hx;refine hq h3 _ ⟨o,gx3,hc,hnc,.inr ⟨dx,hdx,hne,n3⟩⟩ (JE s3.1.symm) (λb ob _ hbd z=>(s3.2 b (hbd o dx hx hdx)).trans z) λo₀ z=>?_;obtain rfl:o=o₀:=cG (hx.symm.trans z);exact⟨o,gx3,rfl,.inl ⟨dx,hdx,hdx⟩⟩
end
section
variable {prog:Program}{w:World}{A:Around}{E:Value->Shared->Prop}{s:Shared}{K:Frag}{C x:Addr}{fI:Value}{tl:ao}{mA:Str->aB}{name:Str}{v:Value}
def t8 {M:Model}{s:Shared}(T:XC K C fI tl)(X:K.In s.heap){ox:Obj}{od:Option Obj}(J:InstAt s.heap x ox C od){B:String}(hB:b7.contains (.type B)=true):Looks M s.heap (isInstance (.ref x) (.type B)) true:=by
 obtain⟨nm,q,N,bs,sn,sub,ab,col,dd,k0,k1,k2,k3,k5,lk⟩:=T.obj;have hC:=X _ _ lk;have hcont:(Value.ref C::(tl.map Value.ref++b7)).contains (.type B)=true:=by rw[Ii,IB,hB,Jd,Jd]
 exact J.type.andThen λA' Q' E' s' k q'=>by
  obtain⟨h1,g1,d1,t1,o1⟩:=s';refine Hh (k _ _ hC) ?_;rw[hcont]; exact q'
def Ew {expr:Bool}{Q:Value->Shared->Prop}(T:XC K C fI tl)(X:K.In s.heap)(hna:findIn K (.ref C) name=some none)(I:s.heap.Inst x C mA)(hv:mA name=some v)(hh:handedOut v=pure v)
  (hq:Q v { s with toks:=s.toks+1 }):wpAny (model prog w) A (getAttr (.ref x) name expr) Q E s:=by
 obtain⟨ox,od,J⟩:=oq I;have FA:=PySem.F.excAttr_ValueError;have iso:=t8 (M:=model prog w) T X J (B := "BaseException") (by decide +kernel);have f3:=FA.ga.bind (.ref x);have hx0:(expr&&onTheHeap (Value.builtin "BaseException.__getattribute__"))=false:=by cases expr <;> rfl
 have hx2:(Value.builtin "BaseException.__getattribute__" == Value.builtin "object.__getattribute__")=false:=by decide +kernel
 have hx1:(onTheHeap (Value.ref C)&&Value.builtin "BaseException.__getattribute__" == Value.builtin "object.__getattribute__")=false:=by rw[hx2]; rfl
 obtain⟨nm,q,N,bs,sn,sub,ab,col,dd,k0,k1,k2,k3,k5,lk⟩:=T.obj;have hC:=X _ _ lk;obtain⟨o,hx,hc,hnc,hd⟩:=I;obtain⟨hp,g,d,tk,os⟩:=s;change K.In hp at X;change hp.get? x=some o at hx;have ga:∀{t:Nat} {Q':Option Value->Shared->Prop} {E':Value->Shared->Prop} {A':Around},Q' (some (.builtin "BaseException.__getattribute__")) ⟨hp,g,d,t,os⟩->wpAny (model prog w) A' (typeLookup (.ref C) "__getattribute__") Q' E' ⟨hp,g,d,t,os⟩:=λz=>(Ij X T.ga).at z;have gh:∀{t:Nat} {Q':Option Value->Shared->Prop} {E':Value->Shared->Prop} {A':Around},Q' none ⟨hp,g,d,t,os⟩->wpAny (model prog w) A' (typeLookup (.ref C) "__getattr__") Q' E' ⟨hp,g,d,t,os⟩:=λz=>(Ij X T.gh).at z;have gn:∀{t:Nat} {Q':Option Value->Shared->Prop} {E':Value->Shared->Prop} {A':Around},Q' none ⟨hp,g,d,t,os⟩->wpAny (model prog w) A' (typeLookup (.ref C) name) Q' E' ⟨hp,g,d,t,os⟩:=λz=>(Ij X hna).at z;unfold getAttr getAttrBy;repeat (any_goals (first | assumption | (with_reducible refine GH hx ?_; rw[hc]) | with_reducible refine ga ?_ | with_reducible refine gh ?_ | wp_step))
 refine HW FA.ga.plain F.entry_bexc_ga (@check_slot (model prog w) _ _ _ "BaseException.__getattribute__" "BaseException" "__getattribute__" (.ref x) [.str name tk] [] _ (by decide +kernel) (by decide +kernel) iso (F.args_bexc_ga _ _) ?_);rcases hd with ⟨_,hmA⟩ | ⟨dx,hdx,hne,hns⟩
 .rw[hmA name] at hv; cases hv
 unfold Builtin.«object.__getattribute__»;repeat (any_goals (first | assumption | (with_reducible refine GH hx ?_; rw[hc]) | with_reducible refine GH hC ?_ | with_reducible refine gn ?_ | wp_step))
 split
 .rename_i c z;exact absurd z (hnc c)
 unfold instanceDict;repeat (any_goals (first | assumption | (with_reducible refine GH hx ?_; rw[hc]) | with_reducible refine GH hC ?_ | wp_step))
 rw[hdx];repeat (any_goals (first | assumption | (with_reducible refine wpAny_nsGet hns.ns ?_; rw[hv]) | wp_step))
end
section
variable {prog:Program}{w:World}{A:Around}{E:Value->Shared->Prop}{s:Shared}{K:Frag}{C x:Addr}{fI:Value}{tl:ao}{mA:Str->aB}{name:Str}{v:Value}
def DR {rest:ar}{o:Obj}{vs:aC}{Q:Value->Shared->Prop}(T:XC K C fI tl)(X:K.In s.heap)(hx:s.heap.get? x=some o)(hc:o.cls=.ref C)(hd:o.data=.fields vs)(hz:0<vs.size)(hr:rest.length<=sizeLine)
  (hq:∀h',s.heap.objs.size<=h'.objs.size->(∀b ob,b≠x->s.heap.get? b=some ob->h'.get? b=some ob)->(∃a0,h'.get? x=some { o with data:=.fields (vs.setIfInBounds 0 a0) })->Q .none { s with heap:=h' }) :
  wpAny (model prog w) A (call (.builtin "ValueError.__init__") (.ref x::rest)) Q E s:=by
 have F:=HQ;obtain⟨nm,q,N,bs,sn,sub,ab,col,dd,k0,k1,k2,k3,k5,lk⟩:=T.obj;have hC:=X _ _ lk;have hcont:(Value.ref C::(tl.map Value.ref++b7)).contains (.type "ValueError")=true:=by
  rw[Ii,IB,show b7.contains (.type "ValueError")=true from by decide +kernel,Jd,Jd]
 obtain⟨hp,g,d,tk,os⟩:=s;have hshort:=F.noStar;have h0:vs[0]? = some vs[0]:=by simp[hz]
 refine JH (HW F.init.plain F.initEntry ?_);simp only[checkBuiltinCall,F.initKind,F.initSplit,F.initRow];repeat (first | (with_reducible refine GH hx ?_; rw[hc]) | with_reducible refine GH hC ?_ | (with_reducible refine Hh hC ?_; rw[hcont]) | wp_step)
 refine Js ?_;rw[show ∀(a b:String) (n:Nat),Bind.check ⟨.positional, "*", "ValueError",.self,[⟨"args",.varPos,false⟩]⟩ a b n (List.map (λx=>x.fst) ({ pos:=Value.ref x::rest }:Args).kw)=pure () from λa b n=>check_star_args _ _ _ _ _ _];refine aV ?_;show wpAny _ _ (newTuple rest >>= λt=>Builtin.BaseException.bexcPut (.ref x) 0 t >>= λ_=>ret .none) _ _ _;refine aM (wpAny_newTuple (aM ?_) hr);unfold Builtin.BaseException.bexcPut;refine aM (GZ (bH _ hx) hd h0 (aM (ot (bH _ hx) hd hz λh2 sz2 g2 k2=>?_)));have fin:Q .none ⟨h2,g,d,tk,os⟩:=hq h2 (by rw[sz2]; show hp.objs.size<=(hp.push _).objs.size; rw[GI]; exact HB _) (λb ob nb z=>by rw[k2 b nb]; exact bH _ z) ⟨_,g2⟩;cases vs[0] <;> (repeat (first | exact fin | wp_step))
end
def lN (C:Addr)(tl:ao)(n:String):(Value.ref C::(tl.map Value.ref++b7)).contains (.type n)=b7.contains (.type n):=by
 rw[Ii,IB];have h1:((Value.type n) == (Value.ref C))=false:=by rfl
 have h2:(tl.map Value.ref).contains (.type n)=false:=by
  induction tl with
  | nil=>rfl
  | cons a r ih=>rw[GB,Ii,ih]; rfl
 rw[h1,h2,JU,JU]
section
variable {prog:Program}{w:World}{A:Around}{E:Value->Shared->Prop}{s:Shared}{K:Frag}{C:Addr}{fI:Value}{tl:ao}
def BF {rest:ar}{R:Result->Shared->Prop}(T:XC K C fI tl)(X:K.In s.heap)(hrest:rest.length<=sizeLine)
  (hq:R (.ok (.ret (.ref (s.heap.objs.size+1)))) { s with heap:=(s.heap.push { cls:=.type "tuple",data:=.seq rest.toArray }).push { cls:=.ref C,data:=.fields #[.ref s.heap.objs.size,.none,.none,.none,.bool false,.none] } }) :
  codeAny (model prog w) A (.builtin "ValueError.__new__" ⟨.ref C::rest,[]⟩) R s:=by
 have F:=HQ;obtain⟨nm,q,N,bs,sn,sub,ab,col,dd,k0,k1,k2,k3,k5,lk⟩:=T.obj;have hC:=X _ _ lk;have cB:(Value.ref C::(tl.map Value.ref++b7)).contains (.type "ValueError")=true:=by rw[lN]; decide +kernel
 have cA:(Value.ref C::(tl.map Value.ref++b7)).contains (.type "AttributeError")=false:=by rw[lN]; decide +kernel
 have cN:(Value.ref C::(tl.map Value.ref++b7)).contains (.type "NameError")=false:=by rw[lN]; decide +kernel
 obtain⟨h,g,d,t,os⟩:=s;have ends:=F.ends;refine codeAny_builtinAt F.entry ?_;unfold Builtin.«BaseException.__new__»;refine wpAt_bind ?_;show wpAt _ _ _ (stack >>= _) _ _ _;refine wpAt_bind (wpAt_stack λp below=>wpAt_of_wpAny ?_);wp_walk
 refine wpAt_of_wpAny ?_;rw[F.owner];repeat (first | with_reducible refine wpAny_madeHere_exc F.canon hC ?_ | with_reducible refine GH hC ?_ | (with_reducible refine Hh hC ?_; first | rw[cB] | rw[cA] | rw[cN]) | wp_step)
 show R _ _;rw[GI];exact hq
def AZ {rest:ar}{M:Model}{Q:Unit->Shared->Prop}(T:XC K C fI tl)(X:K.In s.heap)(hq:Q () s):wpAny M A (checkBuiltinCall "ValueError.__new__" ⟨.ref C::rest,[]⟩) Q E s:=by
 have F:=HQ;obtain⟨nm,q,N,bs,sn,sub,ab,col,dd,k0,k1,k2,k3,k5,lk⟩:=T.obj;have hC:=X _ _ lk;have cB:(Value.ref C::(tl.map Value.ref++b7)).contains (.type "ValueError")=true:=by rw[lN]; decide +kernel
 have star:=F.noStar;obtain⟨h,g,d,t,os⟩:=s;simp only[checkBuiltinCall,F.newKind,F.newSplit,F.newRow];repeat (first | refine GH hC ?_ | (refine Hh hC ?_; rw[cB]) | refine wpAny_staticBase_exc hC ?_ | refine wpAny_madeBy_exc hC ?_ | simp only[HE,GE,if_false] | wp_step)
 exact hq
def Fo {rest:ar}{Q:Fin->Shared->Prop}(T:XC K C fI tl)(X:K.In s.heap)(hrest:rest.length<=sizeLine)
  (hq:∀h' e,Heap.MadeExcOf s.heap h' e (.ref C) rest->s.heap.objs.size<=e->wpAny (model prog w) A (call fI (.ref e::rest)) (λr s'=>r=.none/\Q (.done (.ret (.ref e))) s') E { s with heap:=h' }) :
  wpAny (model prog w) A (Builtin.«type.__call__» ⟨.ref C::rest,[]⟩) Q E s:=by
 have F:=HQ;have T':=T;have X':=X;obtain⟨nm,q,N,bs,sn,sub,ab,col,dd,k0,k1,k2,k3,k5,lk⟩:=T.obj;have hC:=X _ _ lk;have self:(Value.ref C::(tl.map Value.ref++b7)).contains (.ref C)=true:=by simp
 obtain⟨h,g,d,t,os⟩:=s;change K.In h at X;repeat (first | with_reducible refine GH hC ?_ | with_reducible refine wpAny_madeBy_exc hC ?_ | wp_step)
 refine codeAny_call_builtin_code (JK _ F.quiet) (AZ T' X' (BF T' X' hrest ?_));show wpAny _ _ _ _ _ ⟨(h.push { cls:=.type "tuple",data:=.seq rest.toArray }).push { cls:=.ref C,data:=.fields #[.ref h.objs.size,.none,.none,.none,.bool false,.none] },g,d,t,os⟩;generalize hto:({ cls:=.type "tuple",data:=.seq rest.toArray }:Obj)=to;generalize heo:({ cls:=.ref C,data:=.fields #[.ref h.objs.size,.none,.none,.none,.bool false,.none] }:Obj)=eo;have kp:∀b o,h.get? b=some o->((h.push to).push eo).get? b=some o:=λb o z=>bH _ (bH _ z);have he1:((h.push to).push eo).get? (h.objs.size+1)=some eo:=by subst heo; subst hto; heap_get
 have ht1:((h.push to).push eo).get? h.objs.size=some to:=by subst hto; exact bH _ (Heap.get?_push_at rfl rfl)
 have ec:eo.cls=.ref C:=by rw[<-heo]
 have X2:K.In ((h.push to).push eo):=X.keeps kp;unfold isInstance;repeat (first | (with_reducible refine GH he1 ?_; rw[ec]) | (with_reducible refine Hh (kp _ _ hC) ?_; rw[self]) | wp_step)
 show wpAny _ _ (typeLookup (.ref C) _) _ _ _;have bd:∀Q':Value×ar->Shared->Prop,Q' (fI,[.ref (h.objs.size+1)]) ⟨(h.push to).push eo,g,d,t,os⟩->wpAny (model prog w) A (bindSpecial fI (.ref (h.objs.size+1))) Q' E ⟨(h.push to).push eo,g,d,t,os⟩:=λQ' q=>by
  rcases T.fn with hb | hb
  .unfold bindSpecial;refine aM ((looks_typeIn X2 (GC.mp hb)).at ?_);rw[if_pos (by decide)];exact aV q
  .subst hb;exact IY (F.init.bind _) q
 refine (Ij X2 T.init).at (Ho (aM (bd _ ?_)));refine (aM (Ha (hq _ (h.objs.size+1) ⟨kp,Iz (HB _),h.objs.size,by rw[heo]; exact he1,Iz (bI _),by rw[hto]; exact ht1⟩ (HB _)) (λr s' hr=>?_) λ_ _ x=>x));obtain⟨rfl,hQ⟩:=hr;wp_walk
 exact hQ
def Au {rest:ar}{Q:Value->Shared->Prop}(T:XC K C fI tl)(X:K.In s.heap)(hrest:rest.length<=sizeLine)
  (hq:∀h' e,Heap.MadeExcOf s.heap h' e (.ref C) rest->s.heap.objs.size<=e->wpAny (model prog w) (A.under (.builtin "type.__call__" ⟨.ref C::rest,[]⟩)) (call fI (.ref e::rest)) (λr s'=>r=.none/\Q (.ref e) s') E { s with heap:=h' }) :
  wpAny (model prog w) A (call (.ref C) rest) Q E s:=by
 obtain⟨nm,q,N,bs,sn,sub,ab,col,dd,k0,k1,k2,k3,k5,lk⟩:=T.obj;have hC:=X _ _ lk;have X':=X;obtain⟨h,g,d,t,os⟩:=s;have a1:=tc_lookup;have a2:=tc_bind (.ref C);have a3:(⟨h,g,d,t,os⟩:Shared).TypeIs (.ref C) "type":=⟨_,hC,rfl⟩
 refine JH (codeAny_of_tree ?_);show wpAny _ _ (callAny (.ref C) _) _ _ _;repeat (any_goals (first | assumption | with_reducible refine GH hC ?_ | wp_step))
 exact⟨rfl,codeAny_call_builtin_at (JK _ (by decide +kernel)) entry_typeCall (wpAny_check_type_call_sub hC (Fo T X' hrest hq))⟩
end
section
variable {M:Model}{A:Around}{E:Value->Shared->Prop}{s:Shared}{env:Env}{K:Frag}{C:Addr}{tl:ao}
def yl {x:Sem Value}{Q:Flow->Shared->Prop}(hh:A.handled=none)
  (h:wpAny M A x (λv s₁=>∃(e C:Addr) (tl:ao) (oe:Obj) (vs:aC),v=.ref e/\XO K C tl/\s₁.heap.get? e=some oe/\oe.cls=.ref C/\oe.data=.fields vs/\vs[1]? = some .none/\K.In s₁.heap/\E (.ref e) s₁) E s) :
  wpAny M A (raiseStmt env (some x) none) Q E s:=by
 unfold raiseStmt;refine aM (Ha h (λv s₁ h₁=>?_) λ_ _ x=>x);obtain⟨e,C,tl,oe,vs,rfl,T,he,hc,hd,h1,X,hE⟩:=h₁;obtain⟨nm,q,N,bs,sn,sub,ab,col,dd,k0,k1,k2,k3,k5,lk⟩:=T.obj;have hC:=X _ _ lk;obtain⟨hp,g,d,tk,os⟩:=s₁;have hcB:(Value.ref C::(tl.map Value.ref++b7)).contains (.type "BaseException")=true:=by rw[lN]; decide +kernel
 obtain⟨oc,od,odt,osl⟩:=oe;cases hd;cases hc;repeat (any_goals (first | assumption | with_reducible refine GH he ?_ | with_reducible refine GH hC ?_ | (with_reducible refine Hh hC ?_; rw[hcB]) | with_reducible refine GZ he rfl h1 ?_ | wp_step))
 exact wpAny_raiseNew_none hh hE
def Cz {e D:Addr}{oe:Obj}{tlD:ao}{Q:Bool->Shared->Prop}(he:s.heap.get? e=some oe)(hc:oe.cls=.ref C)(X:K.In s.heap)(T:XO K C tl)(Y:XO K D tlD)
  (hQ:Q ((Value.ref C::(tl.map Value.ref++b7)).contains (.ref D)) s):wpAny M A (excMatches (.ref e) (.ref D)) Q E s:=by
 obtain⟨nm,q,N,bs,sn,sub,ab,col,dd,k0,k1,k2,k3,k5,lk⟩:=T.obj;obtain⟨nm',q',N',bs',sn',sub',ab',col',dd',k0',k1',k2',k3',k5',lk'⟩:=Y.obj;have hC:=X _ _ lk;have hD:=X _ _ lk';obtain⟨hp,g,d,tk,os⟩:=s;have hcB:(Value.ref D::(tlD.map Value.ref++b7)).contains (.type "BaseException")=true:=by rw[lN]; decide +kernel
 have nt:isSubtype (.type "type") (.type "tuple")=pure false:=by rw[JL]; kernel_rfl
 have hT:(⟨hp,g,d,tk,os⟩:Shared).TypeIs (.ref D) "type":=⟨_,hD,rfl⟩
 unfold excMatches;repeat (any_goals (first | assumption | with_reducible refine GH hD ?_ | (with_reducible refine GH he ?_; rw[hc]) | (with_reducible refine Hh hD ?_; rw[hcB]) | with_reducible refine Hh hC ?_ | wp_step))
 cases hh:(Value.ref C::(tl.map Value.ref++b7)).contains (.ref D) with
 | true=>
  rw[hh] at hQ;repeat (any_goals (first | assumption | wp_step))
 | false=>
  rw[hh] at hQ;repeat (any_goals (first | assumption | wp_step))
end
end L2
end
section
namespace L2
open PySem PySem.Spec PyProof.Rows
noncomputable def c7 (env:Env)(names:List (Str×NameKind))(acc:ai):ai:=
 names.foldl (λcs x=>if x.2 == NameKind.free then (x.1,(env.cells.lookup x.1).getD 0)::cs else cs) acc
theorem uU {α β:Type}{f:α->β->Sem (ForInStep β)}(g:β->α->β):∀(l:List α) (c:β),(∀x∈l,∀c,f x c=pure (.yield (g c x)))->forIn l c f=pure (l.foldl g c)
 | [],_,_=>rfl
 | x::r,c,h=>by
  rw[List.forIn_cons,h x Hl c,pure_bind];exact uU g r (g c x) λy hy=>h y (bQ _ hy)
theorem qZ {env:Env}:∀(names:List (Str×NameKind)) (acc:ai),(∀y∈names,y.2=NameKind.free->∃c,env.cells.lookup y.1=some c)->(∀x c,acc.lookup x=some c->env.cells.lookup x=some c) ->
  (∀x c,(c7 env names acc).lookup x=some c->env.cells.lookup x=some c)/\(∀y∈names,y.2=NameKind.free->∃c,(c7 env names acc).lookup y.1=some c)/\∀x c,acc.lookup x=some c->∃c',(c7 env names acc).lookup x=some c'
 | [],acc,_,ha=>⟨ha,(λ_ h=>nomatch h),λx c h=>⟨c,h⟩⟩
 | (n,k)::r,acc,hf,ha=>by
  by_cases hk:k=NameKind.free
  .subst hk;obtain⟨c,hc⟩:=hf (n,.free) bZ rfl;have e:c7 env ((n,NameKind.free)::r) acc=c7 env r ((n,c)::acc):=by
    have hc':env.cells.lookup n=some c:=hc;show c7 env r (if (NameKind.free == NameKind.free)=true then (n,(env.cells.lookup n).getD 0)::acc else acc)=_;rw[if_pos (by decide),hc'];rfl
   rw[e];obtain⟨h1,h2,h3⟩:=qZ r ((n,c)::acc) (λy hy=>hf y (bQ _ hy)) λx d h=>by
    rw[List.lookup_cons] at h;split at h
    .rename_i hx;have hx':x=n:=by simpa using hx
     cases h;rw[hx'];exact hc
    .exact ha x d h
   refine⟨h1,λy hy hyf=>?_,λx d h=>?_⟩
   .rcases cH hy with rfl | hy
    .exact h3 n c (by rw[List.lookup_cons]; simp)
    .exact h2 y hy hyf
   .by_cases hx:x=n
    .subst hx;exact h3 x c (by rw[List.lookup_cons]; simp)
    .refine h3 x d ?_;rw[List.lookup_cons,show (x == n)=false from by simpa using hx];exact h
  .have e:c7 env ((n,k)::r) acc=c7 env r acc:=by
    show c7 env r (if (k == NameKind.free)=true then (n,(env.cells.lookup n).getD 0)::acc else acc)=_;rw[if_neg (by simpa using hk)]
   rw[e];obtain⟨h1,h2,h3⟩:=qZ r acc (λy hy=>hf y (bQ _ hy)) ha;refine⟨h1,λy hy hyf=>?_,h3⟩;rcases cH hy with rfl | hy
   .exact absurd hyf hk
   .exact h2 y hy hyf
def tx {scope:Scope}{env:Env}(hf:∀y∈scope.names,y.2=NameKind.free->∃c,env.cells.lookup y.1=some c) :
  ∃cl,closureFor scope env=pure cl/\(∀x c,cl.lookup x=some c->env.cells.lookup x=some c)/\∀y∈scope.names,y.2=NameKind.free->∃c,cl.lookup y.1=some c:=by
 obtain⟨h1,h2,_⟩:=qZ (env:=env) scope.names [] hf (λ_ _ h=>nomatch h);refine⟨c7 env scope.names [],?_,h1,h2⟩;simp only[closureFor];rw[uU (λcs x=>if x.2 == NameKind.free then (x.1,(env.cells.lookup x.1).getD 0)::cs else cs) scope.names [] λx hx c=>?_]
 .rfl
 .obtain⟨n,kind⟩:=x;by_cases hk:kind=NameKind.free
  .subst hk;obtain⟨a,ha⟩:=hf (n,.free) hx rfl;have ha':env.cells.lookup n=some a:=ha;simp only[show (NameKind.free == NameKind.free)=true from by decide,if_true,cellOf,ha'];rfl
  .have hb:(kind == NameKind.free)=false:=by simpa using hk
   simp only[hb,GE,if_false]
noncomputable def bB (X:Cx)(N':au)(scope:Scope)(cl:ai)(C:Addr)(s:Shared)(H:Hp)(fp:ao)(E:Value->Shared->Prop):Cx:=
 { X with N:=N',s₀:=s,H₀:=H,env:=compEnvC scope cl C X.env,outer:=X.stack,stack:=X.stack,ex:=fp,fn:=λx=>scope.names.lookup x == some .cell,pn:=[],xe:=E }
noncomputable def compOk (sc:Scope)(N N':au)(caps:List aE)(scope:Scope):Bool:=
 scope.kind == .function&&scope.names.all (λy=>(y.2 != .cell||scope.names.lookup y.1 == some .cell)&&(y.2 != .local||scope.names.lookup y.1 == some .local)&&(y.2 != .free||(sc.names.lookup y.1 == some .cell||sc.names.lookup y.1 == some .free))) &&
 caps.length == N'.length&&decide N'.Nodup&&(caps.zip N').all λp=>match p.1 with
  | none=>true
  | some j=>N[j]? == some p.2&&scope.names.lookup p.2 == some .free
structure CompS (sc:Scope)(N N':au)(caps:List aE)(scope:Scope):Prop where
 kind:scope.kind=.function
 cells:∀y∈scope.names,y.2=.cell->scope.names.lookup y.1=some .cell
 locs:∀y∈scope.names,y.2=.local->scope.names.lookup y.1=some .local
 free:∀y∈scope.names,y.2=.free->sc.names.lookup y.1=some .cell\/sc.names.lookup y.1=some .free
 len:caps.length=N'.length
 nd:N'.Nodup
 cap:∀(i j:Nat) (x:Str),caps[i]? = some (some j)->N'[i]? = some x->N[j]? = some x/\scope.names.lookup x=some .free
def CompS.of {sc:Scope}{N N':au}{caps:List aE}{scope:Scope}(h:compOk sc N N' caps scope=true):CompS sc N N' caps scope:=by
 unfold compOk at h;simp only[tw,List.all_eq_true,GC,GR] at h;obtain⟨⟨⟨⟨hk,hn⟩,hl⟩,hnd⟩,hc⟩:=h;refine⟨?_,λy hy e=>?_,λy hy e=>?_,λy hy e=>?_,hl,hnd,λi j x h1 h2=>?_⟩
 .cases hh:scope.kind <;> rw[hh] at hk <;> first | rfl | (exact absurd hk (by decide))
 .have:=(hn y hy).1.1;rw[e] at this;simpa using this
 .have:=(hn y hy).1.2;rw[e] at this;simpa using this
 .have:=(hn y hy).2;rw[e] at this;simpa using this
 .have hz:(caps.zip N')[i]? = some (some j,x):=by rw[IL]; exact⟨h1,h2⟩
  have:=hc _ (HC hz);simpa using this
noncomputable def iN (σ:St):aE->Option V
 | none=>none
 | some j=>(σ[j]?).join
section
variable {prog:Program}{w:World}{A:Around}{R:Result->Shared->Prop}{s:Shared}
theorem Ab {elt target iter:Expr}{ifs:av}{scope:Scope}{pos:Pos}{it acc:Value}{env:Env}(I:Nat->Shared->Prop)
  (turn:∀n s,I n s->wpAny (model prog w) A (pyNext it) (λr s₁=>match r with
   | none=>R (.ok .next) s₁
   | some v=>wpAny (model prog w) A (letOwnedTupleGo target it v) (λ_ s₀=>wpAny (model prog w) A (assign target env v) (λ_ s₂=>
     wpAny (model prog w) A (forIn ifs true λc r=>if r=true then do let ok <-isTrue c env (eval c env); pure (ForInStep.yield ok) else pure (ForInStep.yield r)) (λok s₃=>
      if ok=true then wpAny (model prog w) A (eval elt env) (λx s₄=>
       wpAny (model prog w) A (call (.builtin "list.append") [acc,x]) (λ_ s₅=>∃m,m<n/\I m s₅) (notedBy (model prog w) A env λe s'=>R (.error e) s') s₄) (notedBy (model prog w) A env λe s'=>R (.error e) s') s₃
      else ∃m,m<n/\I m s₃) (notedBy (model prog w) A env λe s'=>R (.error e) s') s₂) (notedBy (model prog w) A env λe s'=>R (.error e) s') s₀) (notedBy (model prog w) A env λe s'=>R (.error e) s') s₁) (notedBy (model prog w) A env λe s'=>R (.error e) s') s)
  (n:Nat)(h:I n s) :
  codeAny (model prog w) A (.compLoop (.ListComp elt [⟨target,iter,ifs,0⟩] scope pos) 0 it acc env) R s:=by
 refine codeAny_loop rfl I (λn s hI=>?_) n h;show wpAny _ A ((compTurn (.ListComp elt [⟨target,iter,ifs,0⟩] scope pos) 0 it acc env).onRaise (λx=>do noteFrame x env; theTreesLotGoes x)) _ _ s;refine wpAny_noted ?_;rw[compTurn_list];refine aM (Jt (aM (Ha (turn n s hI) (λr s₁ h₁=>?_) λ_ _ h'=>h')));cases r with
 | none=>exact aV h₁
 | some v=>
  refine aM (Ha h₁ (λ_ s₀ h₀=>?_) λ_ _ h'=>h');refine aM (Ha h₀ (λ_ s₂ h₂=>aM (Ha h₂ (λok s₃ h₃=>?_) λ_ _ h'=>h')) λ_ _ h'=>h');cases ok with
  | false=>exact aV ⟨rfl,h₃⟩
  | true=>
   exact aM (aM (Ha h₃ (λx s₄ h₄=>aM (Ha h₄ (λ_ s₅ h₅=>aV (aV ⟨rfl,h₅⟩)) λ_ _ h'=>h')) λ_ _ h'=>h'))
end
def PTs (X:Cx)(ifs:av)(t:TT):Prop:=
 ∀(pins:ah) (s:Shared) (σ:St) (H:Hp) (Q:Bool->Hp->Prop),Inv X pins σ H s->t σ H Q ->
  wpAny (model X.prog X.w) X.A (forIn ifs true λc r=>if r=true then do let ok <-isTrue c X.env (eval c X.env); pure (ForInStep.yield ok) else pure (ForInStep.yield r)) (TP X pins σ Q) X.xe s
def hZ:TT:=λ_ H Q=>Q true H
def DA {X:Cx}:PTs X [] hZ:=λ_ _ _ H _ I h=>wpAny_tests_nil ⟨H,I,h⟩
def yK {X:Cx}{c:Expr}{t:TT}(h:PT X c t):PTs X [c] t:=λpins s σ H Q I hq=>wpAny_tests_one (h pins s σ H Q I hq)
theorem PTs.nox {X:Cx}{ifs:av}{t:TT}(h:PTs X.nox ifs t):PTs X ifs t:=λpins s σ H Q I hw=>
 Ha (h pins s σ H Q (I.wish _) hw) (λ_ _ ⟨H',I',q⟩=>⟨H',I'.unwish,q⟩) λ_ _ f=>f.elim
theorem PG.nox {X:Cx}{tg:Expr}{t:TG}(h:PG X.nox tg t):PG X tg t:=λpins s σ H v u Q I r hw=>
 Ha (h pins s σ H v u Q (I.wish _) r hw) (λ_ _ ⟨σ',H',I',q⟩=>⟨σ',H',I'.unwish,q⟩) λ_ _ f=>f.elim
def jB (J:It)(l:Addr)(g:TG)(tt:TT)(te:TE)(Q:VK)(σ0:St)(H:Hp):Prop:=
 ∃W:Nat->Nat->aw->St->Hp->Prop,(∃m,W 0 m [] σ0 (upd H l (.lst [])))/\∀i m ys σ H,W i m ys σ H ->
  (J.stop i H/\Q (.ref l) H)\/(J.go i H/\∃N:aw->St->Hp->Prop,(∀ys σ' H',N ys σ' H'->∃m',m'<m/\W (i+1) m' ys σ' H') /\
   ∀x H',J.yld i H x H'->g x σ H' λσ2 H3=>tt σ2 H3 λc H4=>if c=true then te σ2 H4 λv H5=>∃ys',H5 l=some (.lst ys')/\ys'.length<sizeLine/\N (ys'++[v]) σ2 (upd H5 l (.lst (ys'++[v]))) else N ys σ2 H4)
def gy (wi:TI)(caps:List aE)(g:TG)(tt:TT)(te:TE):TE:=λσ H Q=>wi σ H λJ H1=>∀l,H1 l=none->jB J l g tt te Q (caps.map (iN σ)) H1
section
variable {X:Cx}{elt iter tg:Expr}{ifs:av}{scope:Scope}{pos:Pos}{wi:TI}{g:TG}{tt:TT}{te:TE}{N':au}{caps:List aE}
def rG {scope:Scope}{env:Env}{x:Str} :
  ∀k,(relabel scope env).names.lookup x=some k->scope.names.lookup x=some k\/(k=.cell/\scope.names.lookup x=some .free):=by
 have go:∀(g:Str×NameKind->Str×NameKind),(∀p,g p=p\/(p.2=.free/\g p=(p.1,.cell)))->∀(names:List (Str×NameKind)) k,(names.map g).lookup x=some k->names.lookup x=some k\/(k=.cell/\names.lookup x=some .free):=by
  intro g hg names;induction names with
  | nil=>intro k h; exact nomatch h
  | cons p r ih=>
   intro k h;rw[GB] at h;obtain⟨n,kn⟩:=p;rcases hg (n,kn) with e | ⟨e1,e2⟩
   .rw[e,List.lookup_cons] at h;rw[List.lookup_cons];cases hx:x == n with
    | true=>rw[hx] at h; exact .inl h
    | false=>rw[hx] at h; exact ih k h
   .rw[e2,List.lookup_cons] at h;rw[List.lookup_cons];cases hx:x == n with
    | true=>
     rw[hx] at h;have e1':kn=.free:=e1;rw[e1'];exact .inr ⟨(cG h).symm,rfl⟩
    | false=>rw[hx] at h; exact ih k h
 refine go _ (λp=>?_) scope.names;obtain⟨n,k⟩:=p;by_cases hb:(k == NameKind.free&&env.scope.kind == .function&&env.kindOf n == some .cell)=true
 .refine .inr ⟨?_,if_pos hb⟩;simp only[tw,GC] at hb;exact hb.1.1
 .exact .inl (if_neg hb)
theorem o8 {x:Str}:∀(names:List (Str×NameKind)) (n:Nat) (acc:ai),(∀y∈names,y.2=.cell->y.1≠x)->(cellsFrom n names acc).lookup x=acc.lookup x
 | [],_,_,_=>rfl
 | (m,k)::r,n,acc,h=>by
  have hr:=λy hy=>h y (bQ _ hy);unfold cellsFrom;split
  .rename_i hk;rw[o8 r _ _ hr,List.lookup_cons,show (x == m)=false from by simpa using λe=>h (m,k) Hl (by simpa using hk) (Eq.symm e)]
  .exact o8 r n acc hr
theorem rp {x:Str}{lo:Nat}:∀(names:List (Str×NameKind)) (n:Nat) (acc:ai),lo<=n->(∃c,acc.lookup x=some c/\lo<=c)->∃c,(cellsFrom n names acc).lookup x=some c/\lo<=c
 | [],_,_,_,h=>h
 | (m,k)::r,n,acc,hn,h=>by
  unfold cellsFrom;split
  .refine rp r (n+1) _ (by omega) ?_;rw[List.lookup_cons];cases x == m with
   | true=>exact⟨n,rfl,hn⟩
   | false=>exact h
  .exact rp r n acc hn h
theorem pp {x:Str}{lo:Nat}:∀(names:List (Str×NameKind)) (n:Nat) (acc:ai),lo<=n->(x,NameKind.cell)∈names->∃c,(cellsFrom n names acc).lookup x=some c/\lo<=c
 | (m,k)::r,n,acc,hn,h=>by
  unfold cellsFrom;rcases cH h with e | h
  .cases e;rw[if_pos (by decide)];refine rp r (n+1) _ (by omega) ⟨n,?_,hn⟩;rw[List.lookup_cons]; simp
  .split
   .exact pp r _ _ (by omega) h
   .exact pp r _ _ hn h
structure CfOk (P:Str->Addr->Prop)(lo:Nat)(h:Heap)(cs:ai):Prop where
 src:∀x c,cs.lookup x=some c->P x c\/(lo<=c/\h.IsCell c none)
 inj:∀x y c,cs.lookup x=some c->cs.lookup y=some c->x=y
 lt:∀x c,cs.lookup x=some c->c<h.objs.size
theorem rz {P:Str->Addr->Prop}{lo:Nat}:∀(names:List (Str×NameKind)) (h:Heap) (acc:ai),lo<=h.objs.size->CfOk P lo h acc->CfOk P lo (pushCells h names) (cellsFrom h.objs.size names acc)
 | [],_,_,_,x=>x
 | (m,k)::r,h,acc,hlo,x=>by
  unfold pushCells cellsFrom;split
  .have:=rz (P:=P) (lo:=lo) r (h.push { cls:=.type "cell",data:=.cell none }) ((m,h.objs.size)::acc) (by rw[GI]; omega) ⟨λy c e=>?_,λy z c e e'=>?_,λy c e=>?_⟩
   .rwa [GI] at this
   .rw[List.lookup_cons] at e;cases hy:y == m with
    | true=>rw[hy] at e; cases e; exact .inr ⟨hlo,_,dm _ rfl,rfl⟩
    | false=>rw[hy] at e; exact (x.src y c e).imp id λq=>⟨q.1,q.2.keeps λb o e=>bH _ e⟩
   .rw[List.lookup_cons] at e e';cases hy:y == m with
    | true=>
     rw[hy] at e; cases e;cases hz:z == m with
     | true=>rw[GC] at hy hz; rw[hy,hz]
     | false=>rw[hz] at e'; exact absurd (x.lt z _ e') (HA _)
    | false=>
     rw[hy] at e;cases hz:z == m with
     | true=>rw[hz] at e'; cases e'; exact absurd (x.lt y _ e) (HA _)
     | false=>rw[hz] at e'; exact x.inj y z c e e'
   .rw[GI];rw[List.lookup_cons] at e;cases hy:y == m with
    | true=>rw[hy] at e; cases e; exact Ia _
    | false=>rw[hy] at e; exact HF (x.lt y c e)
  .exact rz r h acc hlo x
structure CsOk (X:Cx)(scope:Scope)(n:Nat)(h:Heap)(cs:ai):Prop where
 src:∀x c,cs.lookup x=some c->X.env.cells.lookup x=some c\/(n<=c/\h.IsCell c none)
 inj:∀x y c,cs.lookup x=some c->cs.lookup y=some c->x=y
 has:∀x,(scope.names.lookup x=some .cell\/scope.names.lookup x=some .free)->∃c,cs.lookup x=some c
 fr:∀x c,scope.names.lookup x=some .free->cs.lookup x=some c->X.env.cells.lookup x=some c
 own:∀x c,scope.names.lookup x=some .cell->cs.lookup x=some c->n<=c
def CsOk.mk' {X:Cx}{sc:Scope}{N N':au}{caps:List aE}{scope:Scope}{pins:ah}{σ:St}{H:Hp}{s:Shared}{cl:ai}{c0:Value}(S:CompS sc N N' caps scope)(I:Inv X pins σ H s)
  (h1:∀x c,cl.lookup x=some c->X.env.cells.lookup x=some c)(h2:∀y∈scope.names,y.2=NameKind.free->∃c,cl.lookup y.1=some c) :
  CsOk X scope s.heap.objs.size (pushCells (s.heap.push { cls:=c0,data:=.dict #[] }) scope.names) (cellsFrom (s.heap.objs.size+1) scope.names cl):=by
 have ok:=rz (P:=λx c=>X.env.cells.lookup x=some c) (lo:=s.heap.objs.size) scope.names (s.heap.push { cls:=c0,data:=.dict #[] }) cl (by rw[GI]; omega)
  ⟨λx c e=>.inl (h1 x c e),λx y c e e'=>I.ok.inj x y c (h1 x c e) (h1 y c e'),λx c e=>by
   obtain⟨v,o,ho,_⟩:=I.cell x c (h1 x c e);rw[GI];exact HF (bO ho)⟩
 rw[GI] at ok;have nf:∀x,scope.names.lookup x=some .free->∀y∈scope.names,y.2=.cell->y.1≠x:=λx e y hy hk z=>by
  have:=S.cells y hy hk;rw[z,e] at this; cases this
 refine⟨ok.src,ok.inj,λx h=>?_,λx c e h=>?_,λx c e h=>?_⟩
 .rcases h with e | e
  .obtain⟨c,q,_⟩:=pp (lo:=0) scope.names (s.heap.objs.size+1) cl (Hr _) (Hg e);exact⟨c,q⟩
  .obtain⟨c,q⟩:=h2 _ (Hg e) rfl;exact⟨c,(o8 _ _ _ (nf x e)).trans q⟩
 .rw[o8 _ _ _ (nf x e)] at h;exact h1 x c h
 .obtain⟨c',q,l⟩:=pp (lo:=s.heap.objs.size) scope.names (s.heap.objs.size+1) cl (HB _) (Hg e);rw[h] at q; cases q;exact l
def CO {M:Model}{A:Around}{E:Value->Shared->Prop}{s:Shared}{scope:Scope}{globals:Addr}{closure:ai}{qual:Str}{around:Env}{Q:Env->Shared->Prop}
  (h:Q (newEnv scope s.heap.objs.size globals (cellsFrom (s.heap.objs.size+1) scope.names closure) qual none .none (some around) builtinsNs) { s with heap:=pushCells (s.heap.push { cls:=.type "dict",data:=.dict #[] }) scope.names }) :
  wpAny M A (newFunctionEnv scope globals closure [] qual none .none (some around)) Q E s:=by
 simp only[newFunctionEnv,Option.isSome_some,if_true];refine aM (wpAny_alloc ?_);refine aM (wpAny_layCells _ (λname kind cells=>by cases hkc:kind == NameKind.cell <;> simp[hkc]) _ _ _ _ ?_);rw[show ({ s with heap:=s.heap.push { cls:=.type "dict",data:=.dict #[] } }:Shared).heap.objs.size=s.heap.objs.size+1 from GI ..];exact aM (aV (aV h))
def BP {pins:ah}{σ:St}{H:Hp}{s:Shared}{cl:ai}{fp:ao}{C:Addr}(E:Value->Shared->Prop)(S:CompS X.env.scope X.N N' caps scope)(I:Inv X pins σ H s)(hC:s.heap.objs.size<=C)
  {h1:Heap}(O:CsOk X scope s.heap.objs.size h1 cl)(hf:∀b∈fp,dE X pins H b/\b<s.heap.objs.size) :
  (bB X N' scope cl C s H fp E).Ok where
 mod:=I.ok.mod
 kind:=S.kind
 glob:=I.ok.glob
 blt:=I.ok.blt
 above:=hC
 inj:=O.inj
 has:=λx hx=>by
  have hx':(relabel scope X.env).names.lookup x=some .cell\/(relabel scope X.env).names.lookup x=some .free:=hx;refine O.has x ?_;rcases hx' with q | q
  .exact (rG _ q).imp id λz=>z.2
  .rcases rG _ q with z | z
   .exact .inr z
   .exact absurd z.1 (by decide)
 cab:=λx c z e=>O.own x c (by
  have z':(scope.names.lookup x == some NameKind.cell)=true:=z;simpa using z') e
 hd:=I.ok.hd
 frames:=I.ok.frames
 stk:=.inl rfl
 exf:=λb hb=>⟨di (d6 (hf b hb).2 hC),λx c e=>(O.src x c e).elim (λq=>(hf b hb).1.2.2.2.2.1 x c q) λq z=>absurd (z ▸ (hf b hb).2) (Nat.not_lt.mpr q.1)⟩
 bs:=I.bs
 bsz:=ce I.ok.bsz I.sz
 noex:=λb o e hb=>by
  rcases (hf b hb).1.2.2.2.1 with z | z
  .exact I.ok.noex b o e z
  .exact absurd (d6 (bO e) (ce I.ok.bsz z)) (HA _)
 exfs:=λb hb z=>by
  rcases cH (I.stkSub b z) with e | e
  .exact (hf b hb).1.2.1 e
  .exact (hf b hb).1.2.2.1 e
 funs:=I.stack
 frf:=I.stkFree
def DH {pins:ah}{σ:St}{H:Hp}{s:Shared}{cl:ai}{fp:ao}{h1:Heap}{tk:Nat}{m:Str->aB}(E:Value->Shared->Prop)(S:CompS X.env.scope X.N N' caps scope)(I:Inv X pins σ H s)
  (O:CsOk X scope s.heap.objs.size h1 cl)(hf:∀b∈fp,dE X pins H b/\b<s.heap.objs.size)
  (hns:h1.Ns s.heap.objs.size m)(hk:∀b o,s.heap.get? b=some o->h1.get? b=some o) :
  Inv (bB X N' scope cl s.heap.objs.size s H fp E) [] (caps.map (iN σ)) H { s with heap:=h1,toks:=tk } where
 ok:=BP E S I (bI _) O hf
 os:=rfl
 bare:=I.bare
 base:=Un.kept hk
 loc:=by
  refine⟨m,hns,λi x v e1 e2 e3=>?_⟩;rw[GK] at e2;cases ec:caps[i]? with
  | none=>rw[ec] at e2; cases e2
  | some oc=>
   rw[ec] at e2;cases oc with
   | none=>cases e2
   | some j=>
    have e2':(σ[j]?).join=some v:=cG e2;have e4:σ[j]? = some (some v):=by
     cases q:σ[j]? with
     | none=>rw[q] at e2'; cases e2'
     | some o=>rw[q] at e2'; cases o with
      | none=>cases e2'
      | some v'=>cases e2'; rfl
    obtain⟨hN,hfr⟩:=S.cap i j x ec e1;have hkd:X.env.kindOf x=some .cell\/X.env.kindOf x=some .free:=S.free _ (Hg hfr) rfl;obtain⟨m0,_,hl⟩:=I.loc;obtain⟨u,r,l⟩:=hl j x v hN e4 (hkd.elim (λz=>.inr (.inl z)) λz=>.inr (.inr z));refine⟨u,r,?_⟩;rcases l with ⟨z,_⟩ | ⟨_,c,hc,hcell⟩
    .rcases hkd with q | q <;> rw[q] at z <;> cases z
    .obtain⟨c',hc'⟩:=O.has x (.inr hfr);have:c'=c:=by
      have:=O.fr x c' hfr hc';rw[hc] at this; exact (cG this).symm
     subst this;have e3':(relabel scope X.env).names.lookup x=some .local\/(relabel scope X.env).names.lookup x=some .cell\/(relabel scope X.env).names.lookup x=some .free:=e3;refine .inr ⟨?_,c',hc',?_⟩
     .rcases e3' with q | q | q
      .rcases rG _ q with z | z
       .rw[hfr] at z; cases z
       .exact absurd z.1 (by decide)
      .exact .inl q
      .exact .inr q
     .obtain⟨o,ho,hd⟩:=hcell;exact⟨o,hk _ o ho,hd⟩
 cell:=λx c e=>by
  rcases O.src x c e with q | q
  .obtain⟨v,o,ho,hd⟩:=I.cell x c q;exact⟨v,o,hk _ o ho,hd⟩
  .exact⟨none,q.2⟩
 free:=I.hok.fresh (bI _)
 freeC:=λx c e=>(O.src x c e).elim (I.freeC x c) λq=>I.hok.fresh q.1
 pin:=λp hp=>absurd (show p∈([]:ah) from hp) (by simp)
 hok:=I.hok.kept hk
 len:=by rw[GA]; exact S.len
def uy {pins:ah}{σ:St}{H:Hp}{s:Shared}{cl:ai}{it:Addr}{fp:ao}{tn:Nat->Heap->Prop}{J:It}{Q:VK}{RR:Value->Addr->Result->Shared->Prop}
  (hc:X.calm=true)(S:CompS X.env.scope X.N N' caps scope)(I:Inv X pins σ H s)
  (c1:∀x c,cl.lookup x=some c->X.env.cells.lookup x=some c)(c2:∀y∈scope.names,y.2=NameKind.free->∃c,cl.lookup y.1=some c)
  (T:Turn X.prog X.w X.K tg J fp it tn)(t0:tn 0 s.heap)(hf:∀b∈fp,dE X pins H b)
  (hg:∀cl C s H fp,PG (bB X N' scope cl C s H fp λ_ _=>False) tg g)(ht:∀cl C s H fp,PTs (bB X N' scope cl C s H fp λ_ _=>False) ifs tt)(he:∀cl C s H fp,PE (bB X N' scope cl C s H fp λ_ _=>False) elt te)
  (hw:∀l,H l=none->jB J l g tt te Q (caps.map (iN σ)) H)
  (hR:∀l C s' H' m,Inv X pins σ H' s'->dE X pins H' C->s'.heap.Ns C m->Q (.ref l) H'->RR (.ref l) C (.ok .next) s') :
  wpAny (model X.prog X.w) X.A (newList []) (λacc s₃=>wpAny (model X.prog X.w) X.A (newFunctionEnv scope X.env.globals cl [] X.env.qual none .none (some X.env)) (λcenv s₄=>
   codeAny (model X.prog X.w) X.A (.compStart (.ListComp elt [⟨tg,iter,ifs,0⟩] scope pos) 0 (.ref it) acc { cenv with scope:=relabel scope X.env }) (RR acc cenv.locals) s₄) X.xe s₃) X.xe s:=by
 refine GW (CO ?_);dsimp only;have I3:Inv X pins σ (upd H s.heap.objs.size (.lst [])) { s with heap:=s.heap.push { cls:=.type "list",dict:=none,data:=.seq ([]:List Value).toArray } }:=
  I.laid (t':=s.toks) (λb u e=>bH _ e) (bI _) ⟨Hr _,[],0,.nil,dm _ rfl⟩
 have hl0:H s.heap.objs.size=none:=I.hok.fresh (bI _);have lt0:∀b∈fp,b<s.heap.objs.size:=λb hb=>by
  obtain⟨o,e,_⟩:=T.obj 0 _ t0 b hb;exact bO e
 obtain⟨W,⟨m0,w0⟩,turn⟩:=hw s.heap.objs.size hl0;generalize hH2:s.heap.push { cls:=.type "list",dict:=none,data:=.seq ([]:List Value).toArray }=H2 at I3 ⊢;have hC:H2.objs.size=s.heap.objs.size+1:=by rw[<-hH2,GI]
 have O:=CsOk.mk' (c0:=.type "dict") S I3 c1 c2;have hns₁:(pushCells (H2.push { cls:=.type "dict",data:=.dict #[] }) scope.names).Ns H2.objs.size λ_=>none:=(Heap.Ns.new H2 (.type "dict")).keeps (pushCells_keeps _ _);have old:∀b o,H2.get? b=some o->(pushCells (H2.push { cls:=.type "dict",data:=.dict #[] }) scope.names).get? b=some o:=λb o e=>pushCells_keeps _ _ b o (bH _ e);dsimp only at O;generalize pushCells (H2.push { cls:=.type "dict",data:=.dict #[] }) scope.names=h₁ at O hns₁ old ⊢;generalize hcs:cellsFrom (H2.objs.size+1) scope.names cl=cs at O ⊢;have old0:∀b o,s.heap.get? b=some o->h₁.get? b=some o:=λb o e=>old b o (hH2 ▸ bH _ e);have hf3:∀b∈fp,dE X pins (upd H s.heap.objs.size (.lst [])) b/\b<H2.objs.size:=λb hb=>
  ⟨⟨by rw[bP (Ja (lt0 b hb))]; exact (hf b hb).1,(hf b hb).2⟩,by rw[hC]; exact HF (lt0 b hb)⟩
 have Er:Value->Shared->Prop:=notedBy (model X.prog X.w) X.A (compEnvC scope cs H2.objs.size X.env) λe s'=>RR (.ref s.heap.objs.size) H2.objs.size (.error e) s';have loop:∀s₃:Shared,s₃={ s with heap:=h₁,toks:=s.toks } ->
   codeAny (model X.prog X.w) X.A (.compLoop (.ListComp elt [⟨tg,iter,ifs,0⟩] scope pos) 0 (.ref it) (.ref s.heap.objs.size) (compEnvC scope cs H2.objs.size X.env))
    (RR (.ref s.heap.objs.size) H2.objs.size) s₃:=by
  rintro s₃ rfl;have I4:=DH (N':=N') (caps:=caps) (tk:=s.toks) (notedBy (model X.prog X.w) X.A (compEnvC scope cs H2.objs.size X.env) λe s'=>RR (.ref s.heap.objs.size) H2.objs.size (.error e) s') S I3 O hf3 hns₁ old;generalize hX':bB X N' scope cs H2.objs.size { s with heap:=H2 } (upd H s.heap.objs.size (.lst [])) fp (notedBy (model X.prog X.w) X.A (compEnvC scope cs H2.objs.size X.env) λe s'=>RR (.ref s.heap.objs.size) H2.objs.size (.error e) s')=X' at I4;have hg':PG X' tg g:=by rw[<-hX']; exact PG.nox (hg cs H2.objs.size { s with heap:=H2 } (upd H s.heap.objs.size (.lst [])) fp)
  have ht':PTs X' ifs tt:=by rw[<-hX']; exact PTs.nox (ht cs H2.objs.size { s with heap:=H2 } (upd H s.heap.objs.size (.lst [])) fp)
  have he':PE X' elt te:=by rw[<-hX']; exact PE.nox (he cs H2.objs.size { s with heap:=H2 } (upd H s.heap.objs.size (.lst [])) fp)
  have eP:X'.prog=X.prog:=by rw[<-hX']; rfl
  have eW:X'.w=X.w:=by rw[<-hX']; rfl
  have eK:X'.K=X.K:=by rw[<-hX']; rfl
  have eA:X'.A=X.A:=by rw[<-hX']; rfl
  have eC:X'.calm=true:=by rw[<-hX']; exact hc
  have eE:X'.env=compEnvC scope cs H2.objs.size X.env:=by rw[<-hX']; rfl
  have eX:X'.xe=notedBy (model X.prog X.w) X.A (compEnvC scope cs H2.objs.size X.env) λe s'=>RR (.ref s.heap.objs.size) H2.objs.size (.error e) s':=by rw[<-hX']; rfl
  have stat:∀{H':Hp},(∀b∈fp,H' b=none)->∀b∈fp,dE X' [] H' b:=λ{H'} hn b hb=>by
   obtain⟨f0,f1,f2,f3,f4,f5⟩:=hf b hb;refine⟨hn b hb,?_,?_,.inl ?_,λx c e=>?_,λp hp=>?_⟩
   .rw[eE]; exact di (by show b<H2.objs.size; rw[hC]; exact HF (lt0 b hb))
   .intro z;have z':b∈f9 X.stack:=by rw[<-hX'] at z; exact z
    rcases cH (I.stkSub b z') with e | e
    .exact f1 e
    .exact f2 e
   .rw[<-hX']; exact hb
   .rw[eE] at e; exact (O.src x c e).elim (f4 x c) λq z=>absurd (z ▸ lt0 b hb) (Nat.not_lt.mpr (ce (by rw[hC]; exact HB _) q.1))
   .have:p∈([]:ah):=by rw[<-hX'] at hp; exact hp
    exact absurd this (by simp)
  refine Ab (λn s'=>∃i ys σ' H',Inv X' [] σ' H' s'/\tn i s'.heap/\(∀b∈fp,H' b=none)/\W i n ys σ' H') ?_ m0
   ⟨0,[],_,_,I4,T.keep 0 _ _ t0 λb _ o e=>old0 b o e,λb hb=>(hf3 b hb).1.1,w0⟩
  rintro n s5 ⟨i,ys,σ5,H5,I5,tn5,fr5,w5⟩;rw[<-eX];rcases turn i n ys σ5 H5 w5 with ⟨stop,q⟩ | ⟨go,N,hN,step⟩
  .have d:=T.done X' eP eW eK eC i [] s5 σ5 H5 X'.xe I5 (stat fr5) tn5 stop;rw[eA] at d;refine bj d λr s6 hZz=>?_;obtain⟨hr,I6⟩:=hZz;subst hr;have u:Un (f9 X.stack) fp (upd H s.heap.objs.size (.lst [])) H5 H2 s6.heap:=by
    have:=I6.base;rw[<-hX'] at this; exact this
   have hok6:HOk X.prog X.w H5 s6.heap:=by have:=I6.hok; rw[eP,eW] at this; exact this
   have os6:s6.os=s.os:=by have:=I6.os; rw[<-hX'] at this; exact this
   have I7:Inv X pins σ H5 s6:=I3.call' (ch:=fp) os6 u hok6 I6.bare λb hb=>by
    obtain⟨f0,f1,f2,f3,f4,f5⟩:=hf b hb;exact⟨f3,f1,f4,f5⟩
   obtain⟨m6,n6,_⟩:=I6.loc;have fC:H5 H2.objs.size=none:=by have:=I6.free; rw[eE] at this; exact this
   rw[eE] at n6;exact hR _ _ s6 H5 m6 I7 (I3.fpOk (bI _) fC) n6 q
  .have d:=T.item X' eP eW eK eC i [] s5 σ5 H5 X'.xe I5 (stat fr5) tn5 go;rw[eA] at d;refine bj d λr s6 hZz=>?_;obtain⟨u,hr,h6⟩:=hZz;subst hr;refine bj h6 λ_ s7 hZz=>?_;obtain⟨x,H7,I7,r7,y7,tn7,fr7⟩:=hZz;have I7':=I7.pinned (stat fr7) (T.obj _ _ tn7);have ag:=hg' _ s7 σ5 H7 x u _ I7' r7 (step x H7 y7);rw[eP,eW,eA,eE] at ag;refine bj ag λ_ s8 hZz=>?_;obtain⟨σ8,H8,I8,q8⟩:=hZz;have at':=ht' _ s8 σ8 H8 _ I8 q8;rw[eP,eW,eA,eE] at at';have again:∀{s9:Shared} {σ9:St} {H9:Hp} {ys9:aw},Inv X' ([]++dG fp s7.heap) σ9 H9 s9->N ys9 σ9 H9->∃m,m<n/\∃i ys σ' H',Inv X' [] σ' H' s9/\tn i s9.heap/\(∀b∈fp,H' b=none)/\W i m ys σ' H':=λ{s9 σ9 H9 ys9} I9 n9=>by
    obtain⟨m',hm,w9⟩:=hN ys9 σ9 H9 n9;refine⟨m',hm,i+1,ys9,σ9,H9,I9.unpinned,T.keep _ _ _ tn7 λb hb o e=>(I9.pin (b,o) (cP _ (cP _ (lR hb e)))).1,λb hb=>?_,w9⟩;obtain⟨o,e,dd⟩:=T.obj _ _ tn7 b hb;exact (I9.pin (b,o) (cP _ (cP _ (lR hb e)))).2.1
   refine bj at' λok s9 hZz=>?_;obtain⟨H9,I9,q9⟩:=hZz;cases ok with
   | false=>
    rw[if_neg (by decide)] at q9 ⊢;exact again I9 q9
   | true=>
    rw[if_pos rfl] at q9 ⊢;have ae:=he' _ s9 σ8 H9 _ I9 q9;rw[eP,eW,eA,eE] at ae;refine bj ae λy s10 hZz=>?_;obtain⟨v,H10,I10,r10,q10⟩:=hZz;obtain⟨ys',hy,hz,hn⟩:=q10;have aa:=ww (X:=X') _ s10 σ8 H10 (.ref s.heap.objs.size) [v] (.ref s.heap.objs.size) [y] (λ_ H'=>N (ys'++[v]) σ8 H') I10 rfl (.cons r10 .nil) ⟨_,ys',v,rfl,rfl,hy,hz,hn⟩;rw[eP,eW,eA] at aa;exact bj aa λ_ s11 ⟨_,H11,I11,_,q11⟩=>again I11 q11
 exact codeAny_compStart_list (loop _ rfl) (T.self _ 0 _ _ _ (T.keep 0 _ _ t0 λb _ o e=>old0 b o e) (loop _ rfl))
def yA (hc:X.calm=true)(hS:compOk X.env.scope X.N N' caps scope=true)(hi:PI X tg iter wi)
  (hg:∀cl C s H fp,PG (bB X N' scope cl C s H fp λ_ _=>False) tg g)(ht:∀cl C s H fp,PTs (bB X N' scope cl C s H fp λ_ _=>False) ifs tt)(he:∀cl C s H fp,PE (bB X N' scope cl C s H fp λ_ _=>False) elt te)
  (hs:∀x,foldedSetIterable iter X.env x=pure x:=by intro _; rfl) :
  PE X (.ListComp elt [⟨tg,iter,ifs,0⟩] scope pos) (gy wi caps g tt te):=by
 intro pins s σ H Q I h;have S:=CompS.of hS;obtain⟨cl,hcl,c1,c2⟩:=tx (scope:=scope) (env:=X.env) λy hy hyf=>I.ok.has y.1 (S.free y hy hyf);rw[eval_ListComp];refine wpAny_comprehension_free (use:=none) rfl hs hcl S.kind S.locs (bj (hi pins s σ H _ I h) λv s1 h1=>bj h1 λitv s2 h2=>?_);obtain⟨it,fp,tn,J,H2,rfl,I2,T,t0,f2,hw⟩:=h2;refine uy (RR:=λacc C=>compPost (model X.prog X.w) X.A X.xe none (EP X pins σ Q) acc C) hc S I2 c1 c2 T t0 f2 hg ht he hw ?_;intro l C s' H' m I' fC hn q;refine⟨m,hn,λh' hs'=>?_⟩;obtain⟨f0,f1,f3,f4,f5,f6⟩:=fC;have I'':Inv X pins σ H' { s' with heap:=h' }:=I'.turned (t':=s'.toks) (it:=C) (λb o hb e=>hs'.extBut b o hb e) f0 f1 f4 f5 f6;exact⟨.ref l,H',I'',rfl,q⟩
def CW {i:Nat}{x:Str}{pos' spos:Pos}(hc:X.calm=true)(hS:compOk X.env.scope X.N N' caps scope=true)(hN:X.N.Nodup)(hx:X.N[i]? = some x)(hl:Loc X.env.scope x)(hi:PI X tg iter wi)
  (hg:∀cl C s H fp,PG (bB X N' scope cl C s H fp λ_ _=>False) tg g)(ht:∀cl C s H fp,PTs (bB X N' scope cl C s H fp λ_ _=>False) ifs tt)(he:∀cl C s H fp,PE (bB X N' scope cl C s H fp λ_ _=>False) elt te)
  (hsw:swapsWith (.ListComp elt [⟨tg,iter,ifs,0⟩] scope pos) (some (.Name x pos')) spos.line X.env=pure true)(hf:X.fn x=true\/X.env.scope.names.lookup x=some .local:=by first | exact .inl rfl | exact .inr rfl | assumption)
  (hs:∀x,foldedSetIterable iter X.env x=pure x:=by intro _; rfl) :
  PS X (.Assign [.Name x pos'] (.ListComp elt [⟨tg,iter,ifs,0⟩] scope pos) spos) (hU (gy wi caps g tt te) (d8 i)):=by
 intro pins s σ H D I h;have S:=CompS.of hS;obtain⟨cl,hcl,c1,c2⟩:=tx (scope:=scope) (env:=X.env) λy hy hyf=>I.ok.has y.1 (S.free y hy hyf);rw[exec_Assign_Name_used _ _ _ _ hsw];refine aM (Jt (aM ?_));show wpAny _ X.A (do let _ <-comprehension (.ListComp elt [⟨tg,iter,ifs,0⟩] scope pos) scope X.env _ (newList []) false (eval iter X.env) (some (assign (.Name x pos') X.env))) _ _ s;refine aM (Ha (wpAny_comprehension_free (use:=some (assign (.Name x pos') X.env)) (Q:=λ_ s'=>SP X pins D .next s') rfl hs hcl S.kind S.locs
  (bj (hi pins s σ H _ I h) λv s1 h1=>bj h1 λitv s2 h2=>?_)) (λ_ s' hq=>aV (aV hq)) λ_ _ e=>e)
 obtain⟨it,fp,tn,J,H2,rfl,I2,T,t0,f2,hw⟩:=h2;refine uy (RR:=λacc C=>compPost (model X.prog X.w) X.A X.xe (some (assign (.Name x pos') X.env)) (λ_ s'=>SP X pins D .next s') acc C) hc S I2 c1 c2 T t0 f2 hg ht he hw ?_;intro l C s' H' m I' fC hn q;show wpAny _ X.A (assign (.Name x pos') X.env (.ref l)) _ _ s';have oC:=hn;obtain⟨o,es,ep,ho,hd,_⟩:=oC;have I1:Inv X (pins++dG [C] s'.heap) σ H' s':=I'.pinned (fp:=[C]) (λb hb=>by rw[Gx.mp hb]; exact fC) λb hb=>by
  rw[Gx.mp hb];exact⟨o,ho,λv z=>by rw[hd] at z; cases z⟩
 refine bj (pM (i:=i) hN hx hl hf _ s' σ H' (.ref l) (.ref l) D.nx I1 rfl q) λ_ s2 hZz=>?_;obtain⟨σ2,H2',I2',q2⟩:=hZz;have hC2:s2.heap.get? C=some o:=(I2'.pin (C,o) (cP _ (cP _ (lR (Gx.mpr rfl) ho)))).1;have nC2:H2' C=none:=(I2'.pin (C,o) (cP _ (cP _ (lR (Gx.mpr rfl) ho)))).2.1;have hn2:s2.heap.Ns C m:=by
  obtain⟨o',es',ep',ho',r'⟩:=hn;rw[ho] at ho'; cases ho';exact⟨o,es',ep',hC2,r'⟩
 refine⟨m,hn2,λh' hs'=>?_⟩;obtain⟨f0,f1,f3,f4,f5,f6⟩:=fC;have I'':Inv X pins σ2 H2' { s2 with heap:=h' }:=(I2'.unpinned).turned (t':=s2.toks) (it:=C) (λb o hb e=>hs'.extBut b o hb e) nC2 f1 f4 f5 f6;exact⟨σ2,H2',I'',q2⟩
end
noncomputable def dY (P:Program)(w:World):gG:=λouter H s E e s'=>∃(a T C:Addr) (fs:List (Str×V)) (H':Hp),e=.ref a/\s'.os=s.os/\AllBare s'.gens/\Un (f9 outer) [] H H' s.heap s'.heap/\HOk P w H' s'.heap /\
 H' a=some (.exc C false fs)/\Fly s'.heap a T .none/\H' T=none/\s.heap.objs.size<=T/\E (.ref a) none H'
section
variable {X:Cx}{pins:ah}{σ:St}{H:Hp}{s:Shared}
def Inv.fsFree (I:Inv X pins σ H s):∀b∈X.fs,H b=none:=λb hb=>by
 obtain⟨_,o,ho,_⟩:=I.ok.funs.mem hb;exact I.base.free b o ho (I.ok.frf b hb) λz=>I.ok.exfs b z hb
def Inv.xstep {a C:Addr}{nw:Bool}{fs:List (Str×V)}{fr ch:ao}{h':Heap}(I:Inv X pins σ H s)(ha:H a=some (.exc C nw fs))(st:XStep fr a ch s.heap h')(hfr:∀b∈fr,b=X.env.locals\/b∈X.fs)
  (hch:∀b∈ch,H b=none/\X.s₀.heap.objs.size<=b/\b≠X.env.locals/\(∀x c,X.env.cells.lookup x=some c->c≠b)/\∀p∈X.pn++pins,p.1≠b) :
  Inv X pins σ (upd H a (.exc C false fs)) { s with heap:=h' }:=by
 have aN:∀b,H b=none->b≠a:=λb n z=>by rw[z,ha] at n; cases n
 have frN:∀b∈fr,H b=none:=λb hb=>by
  rcases hfr b hb with z | z
  .rw[z]; exact I.free
  .exact I.fsFree b z
 have tr:∀b o,H b=some o->b∉fr/\b∉ch:=λb o e=>⟨(λz=>by rw[frN b z] at e; cases e),(λz=>by rw[(hch b z).1] at e; cases e)⟩
 have up:∀b o,H b=some o->b≠a->(upd H a (.exc C false fs)) b=some o:=λb o e n=>by rw[bP n]; exact e
 refine I.step (g':=s.gens) (d':=s.drawn) (t':=s.toks) (ch:=ch) (λb hb=>⟨.inr (hch b hb).2.1,(hch b hb).2.2⟩) (λb o n1 n2 n3 e n=>?_) (λb o n1 n2 n3 e n=>?_) (λb o _ _ n=>by rw[bP (aN b n)]; exact n)
  (λb o n3 e=>?_) (λb xs e=>up b _ e λz=>by rw[z,ha] at e; cases e) (λb o u e=>up b _ e λz=>by rw[z,ha] at e; cases e) (λb ps e=>⟨#[],?_⟩) (λm hm=>?_) (λb o e=>?_) I.bare
 .exact st.keep b o e (aN b n) (λz=>(hfr b z).elim n1 n2) n3
 .by_cases z:b∈fr
  .exact st.slot b o e (aN b n) z n3
  .exact⟨o.slots,st.keep b o e (aN b n) z n3⟩
 .by_cases z:b=a
  .subst z;obtain⟨_,o',vs,e',_,hd,_⟩:=I.hok b _ ha;obtain⟨vs',e2,_⟩:=st.exc o' vs e' hd;exact⟨_,e2⟩
  .exact st.there b o e z
 .rw[up b _ e λz=>by rw[z,ha] at e; cases e]; simp
 .obtain⟨o,es,ep,ho,r⟩:=hm;have n:=aN _ I.free;have nc:X.env.locals∉ch:=λz=>(hch _ z).2.2.1 rfl;by_cases z:X.env.locals∈fr
  .obtain⟨sl,e⟩:=st.slot _ o ho n z nc;exact⟨_,es,ep,e,r⟩
  .exact⟨o,es,ep,st.keep _ o ho n z nc,r⟩
 .by_cases hb:b=a
  .subst hb;rw[cm] at e;cases e;obtain⟨z,o',vs,e',c1,c2,c3,c4,q⟩:=I.hok b _ ha;obtain⟨vs',e2,sz,_⟩:=st.exc o' vs e' c2;refine⟨z,_,vs',e2,c1,rfl,sz.trans c3,(λw=>nomatch w),?_⟩;rcases q with q | ⟨dx,d1,d2,d3,mA,⟨od,es,ep,e3,c⟩,r⟩
   .exact .inl q
   .exact .inr ⟨dx,d1,up dx _ d2 d3,d3,mA,⟨od,es,ep,st.keep dx od e3 d3 (tr dx _ d2).1 (tr dx _ d2).2,c⟩,r⟩
  .rw[bP hb] at e;refine (I.hok b o e).stay (λc u hc q=>?_) (λc q=>up c _ q λz=>by rw[z,ha] at q; cases q) λc xs q=>up c _ q λz=>by rw[z,ha] at q; cases q
   rcases hc with z | z
   .subst z;exact st.keep c u q hb (tr c _ e).1 (tr c _ e).2
   .exact st.keep c u q (λy=>by rw[y,ha] at z; cases z) (tr c _ z).1 (tr c _ z).2
def Inv.newAt (I:Inv X pins σ H s){b:Addr}(hb:s.heap.objs.size<=b):H b=none/\X.s₀.heap.objs.size<=b/\b≠X.env.locals/\(∀x c,X.env.cells.lookup x=some c->c≠b)/\∀p∈X.pn++pins,p.1≠b:=by
 obtain⟨f0,f1,f2,f3,f4,f5⟩:=I.fpOk hb (I.hok.fresh hb);exact⟨f0,ce I.sz hb,f1,f4,f5⟩
def Inv.sinceAt {σ':St}{H':Hp}{s':Shared}(I:Inv X pins σ H s)(I':Inv X pins σ' H' s'){b:Addr}(hb:s.heap.objs.size<=b)(hn:H' b=none):H' b=none/\X.s₀.heap.objs.size<=b/\b≠X.env.locals/\(∀x c,X.env.cells.lookup x=some c->c≠b)/\∀p∈X.pn++pins,p.1≠b:=by
 obtain⟨f0,f1,f2,f3,f4⟩:=I.newAt hb;exact⟨hn,f1,f2,f3,f4⟩
def m8 (X:Cx)(E:St->XK):Prop:=∀(pins:ah) (σ:St) (H:Hp) (s:Shared) (a C:Addr) (fs:List (Str×V)),Inv X pins σ H s->H a=some (.exc C true fs)->E σ (.ref a) none (upd H a (.exc C false fs))->X.xe (.ref a) s
end
def passN {P:Program}{w:World}{X:Cx}:bz (dY P w) X (λ_ _ _ _=>False):=λ_ _ _ _ _ _ _ h=>by
 obtain⟨_,_,_,_,_,_,_,_,_,_,_,_,_,_,z⟩:=h;exact z.elim
section
variable {P:Program}{w:World}{K:bo}{mg:Str->aB}{base:Heap}{N:au}{qual:Str}{scope:Scope}{f:Addr}{cd:Value}{A:Around}{outer:List Env}{s:Shared}{H:Hp}{E:XK}
def passF:bz (dY P w) (fc (dY P w) P w K mg base N qual scope f cd A outer s H E) (λ_=>E):=by
 intro pins σ H1 s1 e s' I1 hcx;obtain⟨a,T,C,fs,H2,rfl,os,bare,un,hok,ha,fly,nT,lT,q⟩:=hcx;have I2:=I1.call' (ch:=[]) os un hok bare λb z=>absurd z (by simp);show wpAny _ _ (leaving _ (.ref a)) _ _ s';refine yc (base:=base) I2.ok.frames I2.stack rfl fly λh' F' st=>?_;have I3:=I2.xstep ha st (λb hb=>cH (I2.stkSub b hb)) λb hb=>by
  rcases cH hb with z | z
  .rw[z]; exact I1.sinceAt I2 lT nT
  .rw[Gx.mp z]; exact I2.newAt (bI _)
 have e:upd H2 a (.exc C false fs)=H2:=by
  funext b
  by_cases z:b=a
  .subst z; rw[cm,ha]
  .rw[bP z]
 rw[e] at I3;exact⟨a,_,C,fs,H2,rfl,I3.os,I3.bare,I3.base,I3.hok,ha,F',(I2.newAt (bI _)).1,ce I1.sz (ce (Nat.le_of_lt_succ (Nat.lt_succ_of_le (by
  have:=I2.sz;have h1:s1.heap.objs.size<=s'.heap.objs.size:=by
   obtain⟨m,hn,_⟩:=I1.loc;exact ce lT (HL (by obtain⟨⟨_,_,_,_,_,_,_,z,_⟩,_⟩:=fly; exact bO z))
  exact h1))) (bI _)),q⟩
def km:m8 (fc (dY P w) P w K mg base N qual scope f cd A outer s H E) (λ_=>E):=by
 intro pins σ H1 s1 a C fs I1 ha q;obtain⟨_,o,vs,e,c1,c2,c3,c4,_⟩:=I1.hok a _ ha;show wpAny _ _ (leaving _ (.ref a)) _ _ s1;refine y0 (base:=base) I1.ok.frames I1.stack rfl e c2 (c4 rfl) λh' F' st=>?_;have I3:=I1.xstep ha st (λb hb=>cH (I1.stkSub b hb)) λb hb=>by
  rw[Gx.mp hb]; exact I1.newAt (bI _)
 have nT:(upd H1 a (.exc C false fs)) s1.heap.objs.size=none:=by
  rw[bP (λz=>by have:=I1.hok.lt ha; rw[<-z] at this; exact HA _ this)];exact (I1.newAt (bI _)).1
 exact⟨a,_,C,fs,_,rfl,I3.os,I3.bare,I3.base,I3.hok,cm,F',nT,I1.sz,q⟩
end
section
variable {X:Cx}{e:Expr}{te:TE}{pos:Pos}{E:St->XK}
def gk (K:bo)(te:TE)(E:St->XK):TS:=λ_ σ H=>te σ H λv H1=>∃(a C:Addr) (tl:ao) (fs:List (Str×V)),v=.ref a/\H1 a=some (.exc C true fs)/\XO K C tl/\E σ (.ref a) none (upd H1 a (.exc C false fs))
def Et (hc:X.calm=true)(hx:m8 X E)(he:PE X e te):PS X (.Raise (some e) none pos) (gk X.K te E):=by
 intro pins s σ H D I h;have go:wpAny (model X.prog X.w) X.A (raiseStmt X.env (some (do let v <-eval e X.env; standAt pos; pure v)) none) (SP X pins D) X.xe s:=by
  refine yl (K:=X.K) (I.ok.hd hc) (aM (bj (he pins s σ H _ I h) λu s1 ⟨v,H1,I1,r1,q1⟩=>aM (Jt (aV ?_))));obtain⟨a,C,tl,fs,rfl,ha,T,q⟩:=q1;obtain rfl:u=Value.ref a:=r1;obtain⟨_,o,vs,e1,c1,c2,c3,c4,_⟩:=I1.hok a _ ha;exact⟨a,C,tl,o,vs,rfl,T,e1,c1,c2,c4 rfl,I1.kIn,hx pins σ H1 s1 a C fs I1 ha q⟩
 rw[arm_exec_Raise];exact aM (Jt go)
end
section
variable {X:Cx}{k:Nat}{f C W:Addr}{tl:ao}{fd:FuncData}{ps:au}{sp:Sp}{dvs:aw}{ds:ar}{E:St->XK}{x m:Str}{p pos apos:Pos}{e o:Expr}{es:av}{ta tv:TE}{t:TA}
def eY (C:Addr)(sp:Sp)(dvs:aw)(E:St->XK)(t:TA):TE:=λσ H Q=>t σ H λvs H1=>vs.length<=100/\∀x,H1 x=none ->
 sp (.ref x::(vs++dvs)) (upd H1 x (.exc C true [])) (λv H2=>v=.non/\Q (.ref x) H2) (E σ)
def vQ {pins:ah}{σ:St}{H:Hp}{s:Shared}{Q:VK}{us:ar}{vs:aw}(T:XC X.K C (.ref f) tl)(F:FnOk X.prog X.w X.K X.mg X.base (dY X.prog X.w) k f fd ps sp)(hr:Room (k+1) X.A)(hb:Binds X.K fd ps ds)(hd:Vals dvs ds)
  (hx:bz (dY X.prog X.w) X E)(I:Inv X pins σ H s)(r:Vals vs us)(hl100:vs.length<=100)
  (h:∀x,H x=none->sp (.ref x::(vs++dvs)) (upd H x (.exc C true [])) (λv H2=>v=.non/\Q (.ref x) H2) (E σ)) :
  wpAny (model X.prog X.w) X.A (call (.ref C) us) (EP X pins σ Q) X.xe s:=by
 have hlen:us.length<=sizeLine:=by rw[<-r.length]; exact HL (rL (by omega))
 refine Au T I.kIn hlen λh' a hm la=>?_;have hq:=h a (I.hok.fresh la);obtain⟨tt,ea,nt,et⟩:=hm.there;have I2:Inv X pins σ (upd H a (.exc C true [])) { s with heap:=h' }:=I.laid (t':=s.toks) hm.keeps la ⟨Hr _,_,_,ea,rfl,rfl,rfl,λ_=>rfl,.inl ⟨rfl,rfl⟩⟩;have r2:Vals (V.ref a::(vs++dvs)) (Value.ref a::(us++ds)):=.cons rfl (r.append hd);have hl:(Value.ref a::us++ds).length=ps.length:=by
  have e:=r2.length;rw[F.len _ _ _ _ hq] at e;exact e.symm
 refine JH (IF (F.run _ X.stack _ _ ⟨Value.ref a::us,[]⟩ (Value.ref a::(us++ds)) _ _ (E σ) (hr.make C us []) (I2.env0.make C us []) (hb _ (Value.ref a::us) I2.kIn hl) r2 hq) λrr s' hq'=>?_);cases rr with
 | error e=>exact hx pins σ _ _ e s' I2 hq'
 | ok fl=>
  cases fl with
  | ret u=>
   obtain⟨v,H',I3,rv,ev,q3⟩:=I2.after hq';subst ev;exact⟨rv,⟨V.ref a,H',I3,rfl,q3⟩⟩
  | next=>exact False.elim hq'
  | brk=>exact False.elim hq'
  | cont=>exact False.elim hq'
def Ao (T:XC X.K C (.ref f) tl)(hkp:PySem.W.keepIn X.K (.ref C)=true)(F:FnOk X.prog X.w X.K X.mg X.base (dY X.prog X.w) k f fd ps sp)(hr:Room (k+1) X.A)(hg:Gl X x)(hm:X.mg x=some (.ref C))(hb:Binds X.K fd ps ds)(hd:Vals dvs ds)(hx:bz (dY X.prog X.w) X E)
  (ha:PA X (e::es) t)(hdb:(x == ("__debug__" : Str))=false:=by decide)(he:starEach (e::es) X.env=(false,eval e X.env)::starEach es X.env:=by rfl)(hpl:(backTo pos (starEach es X.env)).any (·.1)=false:=by rfl) :
  PE X (.Call (.Name x p) (e::es) [] pos) (eY C sp dvs E t):=by
 intro pins s σ H Q I h;refine GY (i8 I hg hm ?_ hdb);refine IU (h₀:=X.base) I.ok.mod.kin hkp (bj (ha pos pins s σ H _ I h) λus s1 ⟨vs,H1,I1,r,q⟩=>⟨I1.kIn,?_⟩) he hpl;exact vQ T F hr hb hd hx I1 r q.1 q.2
def Bm (T:XC X.K C (.ref f) tl)(hkp:PySem.W.keepIn X.K (.ref C)=true)(F:FnOk X.prog X.w X.K X.mg X.base (dY X.prog X.w) k f fd ps sp)(hr:Room (k+1) X.A)(hg:Gl X x)(hm:X.mg x=some (.ref C))(hb:Binds X.K fd ps ds)(hd:Vals dvs ds)(hx:bz (dY X.prog X.w) X E)
  (hdb:(x == ("__debug__" : Str))=false:=by decide):PE X (.Call (.Name x p) [] [] pos) (eY C sp dvs E eH):=by
 intro pins s σ H Q I h;refine GY (i8 I hg hm ?_ hdb);exact IN I.kIn hkp (vQ (us:=[]) T F hr hb hd hx I .nil h.1 h.2)
def Inv.inst {pins:ah}{σ:St}{H:Hp}{s:Shared}{a:Addr}{nw:Bool}{fs:List (Str×V)}(I:Inv X pins σ H s)(ha:H a=some (.exc C nw fs)):∃mA,s.heap.Inst a C mA/\(∀f,RelO (fs.lookup f) (mA f))/\PySem.Within mA (fs.map (·.1)):=by
 obtain⟨_,o,vs,e,c1,c2,c3,c4,q⟩:=I.hok a _ ha;have nc:∀c,o.data≠.cls c:=λc z=>by rw[c2] at z; cases z
 rcases q with ⟨d0,rfl⟩ | ⟨dx,d1,d2,d3,mA,n,r,wi⟩
 .exact⟨λ_=>none,⟨o,e,c1,nc,.inl ⟨d0,λ_=>rfl⟩⟩,λf=>IA,PySem.Within.nil⟩
 .exact⟨mA,⟨o,e,c1,nc,.inr ⟨dx,d1,d3,n⟩⟩,r,wi⟩
def mK (K:bo)(ta:TE)(f:Str):TE:=λσ H Q=>ta σ H λx H1=>∃(a C:Addr) (fI:Value) (tl:ao) (nw:Bool) (fs:List (Str×V)) (v:V),x=.ref a/\H1 a=some (.exc C nw fs)/\XC K C fI tl/\NoAttr K C f/\fs.lookup f=some v/\Q v H1
def z8 (he:PE X e ta)(hb:attributeBase e m X.env (eval e X.env)=eval e X.env):PE X (.Attribute e m pos) (mK X.K ta m):=by
 intro pins s σ H Q I h;refine vv hb (bj (he pins s σ H _ I h) λu s1 hZz=>?_);obtain⟨x,H1,I1,r1,q1⟩:=hZz;obtain⟨a,C,fI,tl,nw,fs,v,rfl,ha,T,n,l,q⟩:=q1;obtain rfl:u=Value.ref a:=r1;obtain⟨mA,J,rel,_⟩:=I1.inst ha;have rv:=rel m;rw[l] at rv;obtain⟨w',e',rw'⟩:=RelO.some_of rv;exact Ew T I1.kIn n J e' (PySem.W.handedOut_of (uM rw')) ⟨v,H1,I1.tok _,rw',q⟩
def hG (K:bo)(ta tv:TE)(f:Str):TS:=λD σ H=>tv σ H λy H1=>ta σ H1 λx H2=>∃(a C:Addr) (fI:Value) (tl:ao) (nw:Bool) (fs:List (Str×V)),x=.ref a/\H2 a=some (.exc C nw fs)/\XC K C fI tl/\NoAttr K C f/\fs.length<100 /\
 ∀H3:Hp,H3 a=some (.exc C nw (putF f y fs))->(∀b o,b≠a->H2 b=some o->H3 b=some o)->D.nx σ H3
def zH {pins:ah}{σ:St}{H:Hp}{s:Shared}{A:Around}{E':Value->Shared->Prop}{a:Addr}{fI:Value}{nw:Bool}{fs:List (Str×V)}{y:V}{u:Value}{Q:Unit->Shared->Prop}(I:Inv X pins σ H s)(ha:H a=some (.exc C nw fs))(T:XC X.K C fI tl)
  (n:NoAttr X.K C m)(hl:fs.length<100)(ry:RelV y u)(h:∀s' H',Inv X pins σ H' s'->H' a=some (.exc C nw (putF m y fs))->(∀b o,b≠a->H b=some o->H' b=some o)->Q () s') :
  wpAny (model X.prog X.w) A (setAttr (.ref a) m u) Q E' s:=by
 obtain⟨_,o,vs,e,c1,c2,c3,c4,q⟩:=I.hok a _ ha;obtain⟨mA,J,rel,wi⟩:=I.inst ha;have lt:a<s.heap.objs.size:=bO e;refine Gc T I.kIn n J wi (by rw[GA]; exact rL (by omega)) λh' tk J' sz kp ob=>?_;obtain⟨o1,e1,d1,dd⟩:=ob o e;obtain⟨o2,e2,cl2,_,dc⟩:=J';obtain rfl:o1=o2:=cG (e1.symm.trans e2);obtain⟨d,hd1,hd2,hd3,hold,hnew⟩:∃d,o1.dict=some d/\d≠a/\h'.Ns1 d (λz=>if z=m then some u else mA z)/\(H d=some (.own a)\/H d=none)/\(∀b ob,b≠a->b≠d->s.heap.get? b=some ob->h'.get? b=some ob):=by
  rcases dc with ⟨z,_⟩ | ⟨d,z1,z2,z3⟩
  .rcases dd with ⟨dx,_,w⟩ | ⟨_,w⟩ <;> rw[w] at z <;> cases z
  .refine⟨d,z1,z2,z3,?_,λb ob nb nd zb=>kp b ob nb (λo0 dx g1 g2=>?_) zb⟩
   .rcases dd with ⟨dx,w1,w2⟩ | ⟨_,w⟩
    .rw[w2] at z1; cases z1;rcases q with ⟨q1,_⟩ | ⟨dy,q1,q2,_⟩
     .rw[q1] at w1; cases w1
     .rw[q1] at w1; cases w1; exact .inl q2
    .rw[w] at z1; cases z1;exact .inr (I.hok.fresh (bI _))
   .obtain rfl:o=o0:=cG (e.symm.trans g1);rcases dd with ⟨dy,w1,w2⟩ | ⟨w1,_⟩
    .rw[w1] at g2; cases g2; rw[w2] at z1; cases z1; exact nd
    .rw[w1] at g2; cases g2
 have tr:∀b ob,H b=some ob->b≠a->ob≠.own a->b≠d:=λb ob z _ ne w=>by
  rw[w] at z;rcases hold with w1 | w1 <;> rw[w1] at z <;> cases z
  exact ne rfl
 have up:∀b ob,H b=some ob->b≠a->(upd (upd H d (.own a)) a (.exc C nw (putF m y fs))) b=some ob:=λb ob z nb=>by
  rw[bP nb];by_cases w:b=d
  .subst w;rcases hold with w1 | w1 <;> rw[w1] at z
   .rw[cm]; exact z
   .cases z
  .rw[bP w]; exact z
 have unt:∀b,H b=none->s.heap.get? b≠none->b≠a/\b≠d:=λb z w=>by
  refine⟨(λv=>by rw[v,ha] at z; cases z),λv=>?_⟩;rcases dd with ⟨dx,w1,w2⟩ | ⟨_,w2⟩
  .rw[hd1] at w2; cases w2;rcases q with ⟨q1,_⟩ | ⟨dy,q1,q2,_⟩
   .rw[q1] at w1; cases w1
   .rw[q1] at w1; cases w1; rw[v,q2] at z; cases z
  .rw[hd1] at w2; cases w2;exact w (by rw[v]; exact Iz (bI _))
 have some_ne:∀{b:Addr} {ob:Obj},s.heap.get? b=some ob->s.heap.get? b≠none:=λz w=>by rw[z] at w; cases w
 refine h _ _ (I.un (H':=upd (upd H d (.own a)) a (.exc C nw (putF m y fs))) (h':=h') (t':=tk) ⟨λb ob z nb _ _=>?_,λb ob z nb _ _=>?_,λb ob z nb _=>?_,λb ob z _=>?_,λb xs z=>?_,λb ob v z=>?_,λb ps z=>⟨#[],?_⟩⟩ λb ob z=>?_) cm λb ob nb z=>up b ob z nb
 .obtain⟨n1,n2⟩:=unt b nb (some_ne z);exact hnew b ob n1 n2 z
 .obtain⟨n1,n2⟩:=unt b nb (some_ne z);exact⟨ob.slots,hnew b ob n1 n2 z⟩
 .obtain⟨n1,n2⟩:=unt b nb (some_ne z);rw[bP n1,bP n2]; exact nb
 .by_cases n1:b=a
  .rw[n1]; exact⟨_,e1⟩
  .by_cases n2:b=d
   .obtain⟨od,_,_,w,_⟩:=hd3;rw[n2]; exact⟨od,w⟩
   .exact⟨ob,hnew b ob n1 n2 z⟩
 .exact up b _ z λv=>by rw[v,ha] at z; cases z
 .exact up b _ z λv=>by rw[v,ha] at z; cases z
 .rw[up b _ z λv=>by rw[v,ha] at z; cases z]; simp
 .by_cases n1:b=a
  .subst n1;rw[cm] at z;cases z;refine⟨by have:=pR m y fs; omega,o1,vs,e1,cl2,by rw[d1]; exact c2,c3,c4,.inr ⟨d,hd1,by rw[bP hd2,cm],hd2,_,hd3,λg=>?_,λg hg=>?_⟩⟩
   .show RelO ((putF m y fs).lookup g) (if g=m then some u else mA g);rw[sG];by_cases w:g=m
    .rw[if_pos w,if_pos w]; exact ry
    .rw[if_neg w,if_neg w]; exact rel g
   .by_cases w:g=m
    .rw[w]; exact (nO m y fs).1
    .refine (nO m y fs).2 g (wi g λv=>hg ?_);show (if g=m then some u else mA g)=none;rw[if_neg w]; exact v
  .rw[bP n1] at z;by_cases n2:b=d
   .subst n2;rw[cm] at z;cases z;obtain⟨od,_,_,w,_⟩:=hd3;exact⟨od,w⟩
   .rw[bP n2] at z;have nown:ob≠.own a\/ob=.own a:=by
     by_cases w:ob=.own a
     .exact .inr w
     .exact .inl w
    refine (I.hok b ob z).stay (λc v hc w=>?_) (λc w=>up c _ w λv=>by rw[v,ha] at w; cases w) λc xs w=>up c _ w λv=>by rw[v,ha] at w; cases w
    rcases hc with w1 | w1
    .subst w1; exact hnew c v n1 n2 w
    .refine hnew c v (λx=>by rw[x,ha] at w1; cases w1) (λx=>?_) w;rw[x] at w1;rcases hold with w2 | w2 <;> rw[w2] at w1 <;> cases w1
     exact n1 rfl
def Ee {pos':Pos}(ha:PE X o ta)(hv:PE X e tv)(hs:swapsWith e (some (.Attribute o m pos')) pos.line X.env=pure false):PS X (.Assign [.Attribute o m pos'] e pos) (hG X.K ta tv m):=by
 intro pins s σ H D I h;refine plainObj_wpAny_Assign_Attribute (bj (hv pins s σ H _ I h) λu s1 ⟨y,H1,I1,ry,q⟩=>bj (ha pins s1 σ H1 _ I1 q) λov s2 hZz=>?_) hs;obtain⟨x,H2,I2,rx,q2⟩:=hZz;obtain⟨a,C,fI,tl,nw,fs,rfl,ea,T,n,l,k⟩:=q2;obtain rfl:ov=Value.ref a:=rx;exact zH I2 ea T n l ry λs3 H3 I3 g1 g2=>⟨σ,H3,I3,k H3 g1 g2⟩
structure XInit (K:bo)(W:Addr):Prop where
 sp:PySem.W.specialIn K (.ref W) "__getattribute__" = some (some (.builtin "type.__getattribute__"))
 rd:PySem.W.readsIn K W (.type "type")=true
 fd:PySem.W.findCls K (.ref W) (.type "type") "__init__" = some (.val (.builtin "ValueError.__init__"))
def gj (K:bo)(t:TA):TE:=λσ H Q=>t σ H λvs H1=>∃(a C:Addr) (fI:Value) (tl:ao) (nw:Bool) (fs:List (Str×V)) (rest:aw),vs=.ref a::rest/\rest.length<=100/\H1 a=some (.exc C nw fs)/\XC K C fI tl/\Q .non H1
def A6 {pins:ah}{σ:St}{H:Hp}{s:Shared}{A:Around}{E':Value->Shared->Prop}{a:Addr}{fI:Value}{nw:Bool}{fs:List (Str×V)}{us:ar}{Q:Value->Shared->Prop}(I:Inv X pins σ H s)(ha:H a=some (.exc C nw fs))(T:XC X.K C fI tl)(hl:us.length<=100)
  (h:∀s',Inv X pins σ H s'->Q .none s'):wpAny (model X.prog X.w) A (call (.builtin "ValueError.__init__") (.ref a::us)) Q E' s:=by
 obtain⟨z0,o,vs,e,c1,c2,c3,c4,q⟩:=I.hok a _ ha;refine DR T I.kIn e c1 c2 (by omega) (HL (rL (by omega))) λh' sz kp hZz=>?_;obtain⟨a0,e1⟩:=hZz;have aN:∀b,H b=none->b≠a:=λb n z=>by rw[z,ha] at n; cases n
 have Hs:upd H a (.exc C nw fs)=H:=by
  funext b
  by_cases z:b=a
  .subst z; rw[cm,ha]
  .rw[bP z]
 have J:=I.write (x:=a) (e:=a) (o:=.exc C nw fs) (h':=h') (t':=s.toks) (by rw[ha]; exact IA) (.inl rfl) (λb u nb z=>kp b u nb z) ⟨_,e1⟩ (by
  rw[Hs];refine⟨z0,_,_,e1,c1,rfl,by rw[Array.size_setIfInBounds]; exact c3,λw=>by rw[Jk (by decide)]; exact c4 w,?_⟩;rcases q with q | ⟨dx,d1,d2,d3,mA,⟨od,es,ep,e3,c⟩,r⟩
  .exact .inl q
  .exact .inr ⟨dx,d1,d2,d3,mA,⟨od,es,ep,kp dx od d3 e3,c⟩,r⟩)
 rw[Hs] at J;exact h _ J
def Ba {pl:Sem Bool}{xp:Pos}(XI:XInit X.K W)(hg:Gl X x)(hm:X.mg x=some (.ref W))(ha:PA X (e::es) t)(hdb:(x == ("__debug__" : Str))=false:=by decide)
  (hst:starEach (e::es) X.env=(false,eval e X.env)::starEach es X.env:=by rfl)(hpl:(backTo pos (starEach es X.env)).any (·.1)=false:=by rfl)
  (ht:eval (.Call (.Attribute (.Name x xp) "__init__" apos) (e::es) [] pos) X.env=(do
   let ov <-eval (.Name x xp) X.env
   standAt apos.atName
   let (f,first) <-holding [ov] (getMethod ov "__init__" pl)
   callWith pos f first (backTo pos (starEach (e::es) X.env)) (backToKw pos (keywordEach [] X.env))):=by rfl) :
  PE X (.Call (.Attribute (.Name x xp) "__init__" apos) (e::es) [] pos) (gj X.K t):=by
 intro pins s σ H Q I h;refine Iv (pl:=pl) (i8 I hg hm ?_ hdb) ht;refine PySem.W.method_cls I.kIn XI.sp (PySem.W.cls_value I.kIn XI.rd XI.fd rfl ?_);refine Hz (bj (ha pos pins _ σ H _ (I.tok _) h) λus s1 hZz=>?_) hst hpl;obtain⟨vs,H1,I1,r1,q1⟩:=hZz;obtain⟨a,C,fI,tl,nw,fs,rest,rfl,hl,ea,T,q⟩:=q1;cases r1 with
 | @cons _ u _ us' ru rr=>
  obtain rfl:u=Value.ref a:=ru;exact A6 I1 ea T (by rw[<-rr.length]; exact hl) λs2 I2=>⟨.non,H1,I2,rfl,q⟩
end
noncomputable abbrev Cx.tryCx (X:Cx)(xe:Value->Shared->Prop)(pn:ah):Cx:={ X with xe:=xe,pn:=pn }
noncomputable abbrev Cx.markCx (X:Cx)(a:Addr):Cx:={ X with A:=X.A.mark (some (.ref a)),calm:=false,xe:=λ_ _=>False }
section
variable {X:Cx}{pins:ah}{σ:St}{H:Hp}{s:Shared}
def Inv.try (I:Inv X pins σ H s)(xe:Value->Shared->Prop):Inv (X.tryCx xe (X.pn++pins)) [] σ H s:=
 ⟨⟨I.ok.mod,I.ok.kind,I.ok.glob,I.ok.blt,I.ok.above,I.ok.inj,I.ok.has,I.ok.cab,I.ok.hd,I.ok.frames,I.ok.stk,I.ok.exf,I.ok.bs,I.ok.bsz,I.ok.noex,I.ok.exfs,I.ok.funs,I.ok.frf⟩,
  I.os,I.bare,I.base,I.loc,I.cell,I.free,I.freeC,λp hp=>I.pin p (by simpa using hp),I.hok,I.len⟩
def Inv.untry {xe:Value->Shared->Prop}{pins':ah}(I:Inv (X.tryCx xe (X.pn++pins)) pins' σ H s):Inv X pins σ H s:=
 ⟨⟨I.ok.mod,I.ok.kind,I.ok.glob,I.ok.blt,I.ok.above,I.ok.inj,I.ok.has,I.ok.cab,I.ok.hd,I.ok.frames,I.ok.stk,I.ok.exf,I.ok.bs,I.ok.bsz,I.ok.noex,I.ok.exfs,I.ok.funs,I.ok.frf⟩,
  I.os,I.bare,I.base,I.loc,I.cell,I.free,I.freeC,λp hp=>I.pin p (fj _ hp),I.hok,I.len⟩
def Inv.mark (I:Inv X pins σ H s)(a:Addr):Inv (X.markCx a) pins σ H s:=
 ⟨⟨I.ok.mod,I.ok.kind,I.ok.glob,I.ok.blt,I.ok.above,I.ok.inj,I.ok.has,I.ok.cab,(λz=>nomatch z),I.ok.frames,I.ok.stk,I.ok.exf,I.ok.bs,I.ok.bsz,I.ok.noex,I.ok.exfs,I.ok.funs,I.ok.frf⟩,
  I.os,I.bare,I.base,I.loc,I.cell,I.free,I.freeC,I.pin,I.hok,I.len⟩
def Inv.unmark {a:Addr}(c:X.calm=true->X.A.handled=none)(I:Inv (X.markCx a) pins σ H s):Inv X pins σ H s:=
 ⟨⟨I.ok.mod,I.ok.kind,I.ok.glob,I.ok.blt,I.ok.above,I.ok.inj,I.ok.has,I.ok.cab,c,I.ok.frames,I.ok.stk,I.ok.exf,I.ok.bs,I.ok.bsz,I.ok.noex,I.ok.exfs,I.ok.funs,I.ok.frf⟩,
  I.os,I.bare,I.base,I.loc,I.cell,I.free,I.freeC,I.pin,I.hok,I.len⟩
def Inv.gone {i:Nat}{n:Str}{h':Heap}{t':Nat}{m:Str->aB}{v:aB}(I:Inv X pins σ H s)(hN:X.N.Nodup)(hi:X.N[i]? = some n)
  (hm:∀(i:Nat) (x:Str) (v:V),X.N[i]? = some x->σ[i]? = some (some v)->pF X.env.scope x->∃u,RelV v u/\Look X.env s.heap m x u)
  (hn:h'.Ns X.env.locals (λx=>if x=n then v else m x))(sb:Heap.SameBut X.env.locals s.heap h'):Inv X pins (σ.set i none) H { s with heap:=h',toks:=t' }:=by
 have neL:∀b o,X.s₀.heap.get? b=some o->b≠X.env.locals:=λb o e=>di (d6 (bO e) I.ok.above);have tr:∀b o,H b=some o->b≠X.env.locals:=λb o e z=>by rw[z,I.free] at e; cases e
 have cellK:∀x c,X.env.cells.lookup x=some c->∀w,s.heap.IsCell c w->h'.IsCell c w:=λx c e w ⟨o,ho,hd⟩=>⟨o,(sb.2 c (I.cne x c e)).trans ho,hd⟩
 refine⟨I.ok,I.os,I.bare,⟨λb o e n1 n2 n3=>?_,λb o e n1 n2 n3=>?_,λb o e n1 n3=>I.base.free b o e n1 n3,λb o e n3=>?_,I.base.tups,I.base.frzs,I.base.tbls⟩,⟨_,hn,λj x w e1 e2 e3=>?_⟩,λx c e=>?_,I.free,I.freeC,λp hp=>?_,λb o e=>?_,by rw[GO]; exact I.len⟩
 .exact (sb.2 b (neL b o e)).trans (I.base.keep b o e n1 n2 n3)
 .obtain⟨sl,z⟩:=I.base.slot b o e n1 n2 n3;exact⟨sl,(sb.2 b (neL b o e)).trans z⟩
 .obtain⟨o',z⟩:=I.base.there b o e n3;exact⟨o',(sb.2 b (neL b o e)).trans z⟩
 .have ij:i≠j:=λz=>by
   subst z;by_cases q:i < σ.length
   .rw[GD q] at e2; cases e2
   .rw[Hu (by rw[GO]; omega)] at e2; cases e2
  rw[Gz ij] at e2;have xn:x≠n:=λz=>ij (nX hN hi (by rw[<-z]; exact e1));obtain⟨u,r,l⟩:=hm j x w e1 e2 e3;refine⟨u,r,?_⟩;rcases l with ⟨k1,k2⟩ | ⟨k1,c,k2,k3⟩
  .exact .inl ⟨k1,by show (if x=n then v else m x)=some u; rw[if_neg xn]; exact k2⟩
  .exact .inr ⟨k1,c,k2,cellK x c k2 _ k3⟩
 .obtain⟨w,z⟩:=I.cell x c e;exact⟨w,cellK x c e w z⟩
 .obtain⟨z1,z2,z3,z4,z5⟩:=I.pin p hp;exact⟨(sb.2 p.1 z3).trans z1,z2,z3,z4,z5⟩
 .refine (I.hok b o e).stay (λc u hc q=>(sb.2 c ?_).trans q) (λ_ q=>q) λ_ _ q=>q;rcases hc with z | z
  .rw[z]; exact tr b o e
  .exact tr c _ z
end
def gg (K:bo)(W:Addr)(i:Nat)(ts:TS)(D:Ends):St->XK:=λσ v _ H=>∃(a C:Addr) (tl:ao) (fs:List (Str×V)),v=.ref a/\H a=some (.exc C false fs)/\XO K C tl/\W∈C::tl /\
 ts { nx:=λσ2 H2=>D.nx (σ2.set i none) H2,rt:=D.rt,bk:=λσ2 H2=>D.bk (σ2.set i none) H2,ct:=λσ2 H2=>D.ct (σ2.set i none) H2 } (σ.set i (some (.ref a))) H
def kK (K:bo)(W:Addr)(i:Nat)(tb:(St->XK)->TS)(ts:TS):TS:=λD σ H=>tb (gg K W i ts D) D σ H
section
variable {X:Cx}{W:Addr}{tlW:ao}{i:Nat}{n cls:Str}{np hpos pos:Pos}{body suite:aH}{b₀:Stmt}{tb:(St->XK)->TS}{ts:TS}
def D9 {C:Addr}{tl:ao}{W:Addr}(h:W∈C::tl):(Value.ref C::(tl.map Value.ref++b7)).contains (.ref W)=true:=by
 rw[GS];rcases cH h with z | z
 .rw[z]; exact bZ
 .exact bQ _ (fj _ (List.mem_map.mpr ⟨W,z,rfl⟩))
def wz {pins:ah}{σ:St}{H:Hp}{s:Shared}{D:Ends}{a C T:Addr}{tl:ao}{fs:List (Str×V)}(I:Inv X pins σ H s)(hN:X.N.Nodup)(hi:X.N[i]? = some n)(hn:X.env.scope.names.lookup n=some .local)
  (XW:XO X.K W tlW)(hg:Gl X cls)(hm:X.mg cls=some (.ref W))(hs:∀a,PSs (X.markCx a) (b₀::suite) ts)(ha:H a=some (.exc C false fs))(XCo:XO X.K C tl)(hW:W∈C::tl)(F:Fly s.heap a T .none)(fT:H T=none/\X.s₀.heap.objs.size<=T/\T≠X.env.locals/\(∀x c,X.env.cells.lookup x=some c->c≠T)/\∀p∈X.pn++pins,p.1≠T)
  (q:ts { nx:=λσ2 H2=>D.nx (σ2.set i none) H2,rt:=D.rt,bk:=λσ2 H2=>D.bk (σ2.set i none) H2,ct:=λσ2 H2=>D.ct (σ2.set i none) H2 } (σ.set i (some (.ref a))) H)
  (hdb:(cls == ("__debug__" : Str))=false) :
  wpAny (model X.prog X.w) X.A (handleBy (.ref a) X.env [.ExceptHandler (some (.Name cls np)) (some n) (b₀::suite) hpos]) (SP X pins D) X.xe s:=by
 refine wpAny_handleBy_cons (codeAny_handlers_test ?_) (by intro z; cases z);have Im:=I.mark a;refine i8 (X:=X.markCx a) Im hg hm ?_ hdb;obtain⟨_,o,vs,e,c1,_⟩:=I.hok a _ ha;refine Cz e c1 I.kIn XCo XW ?_;rw[D9 hW];refine codeAny_handlers_suite_as (mG F λh1 F1 st1=>?_);have I1:=Im.xstep ha st1 (λ_ z=>nomatch z) λb hb=>by rw[Gx.mp hb]; exact fT
 have e1:upd H a (.exc C false fs)=H:=by
  funext b
  by_cases z:b=a
  .subst z; rw[cm,ha]
  .rw[bP z]
 rw[e1] at I1;refine rS (X:=X.markCx a) I1 hN hi (.inl hn) (r:=rfl) (v:=.ref a) (λs2 I2=>?_) (.inr hn);refine Ha (hs a _ s2 _ H _ I2 q) (λf s3 h3=>?_) λ_ _ z=>z.elim;have fin:∀{σ3:St} {H3:Hp} {Q:Shared->Prop},Inv (X.markCx a) pins σ3 H3 s3->(∀s4,Inv X pins (σ3.set i none) H3 s4->Q s4)->wpAny (model X.prog X.w) X.A (do bindName X.env n .none; unbindBehindTheSuite X.env n hpos) (λ_ s4=>Q s4) X.xe s3:=λ{σ3 H3 Q} I3 hQ=>by
  have I3':=I3.unmark I.ok.hd;obtain⟨m,hns,hl⟩:=id I3'.loc;refine wpAny_nameGoes_keeps hn hns (by rw[I.ok.kind]; rfl) λh' v hn' sb=>hQ _ (I3'.gone hN hi hl hn' sb)
 show wpAny _ X.A (do bindName X.env n .none; unbindBehindTheSuite X.env n hpos) (λ_ s4=>SP X pins D f s4) X.xe s3;cases f with
 | next=>obtain⟨σ3,H3,I3,q3⟩:=h3; exact fin I3 λs4 I4=>⟨_,H3,I4,q3⟩
 | brk=>obtain⟨σ3,H3,I3,q3⟩:=h3; exact fin I3 λs4 I4=>⟨_,H3,I4,q3⟩
 | cont=>obtain⟨σ3,H3,I3,q3⟩:=h3; exact fin I3 λs4 I4=>⟨_,H3,I4,q3⟩
 | ret u=>obtain⟨v,σ3,H3,I3,r3,q3⟩:=h3; exact fin I3 λs4 I4=>⟨v,_,H3,I4,r3,q3⟩
def EI (hN:X.N.Nodup)(hi:X.N[i]? = some n)(hn:X.env.scope.names.lookup n=some .local)(hfr:∃L outer,X.stack=X.env::outer/\X.env.frame=some L)(XW:XO X.K W tlW)(hg:Gl X cls)(hm:X.mg cls=some (.ref W))
  (hb:∀(xe:Value->Shared->Prop) (pn:ah) (Ec:St->XK),bz (dY X.prog X.w) (X.tryCx xe pn) Ec->m8 (X.tryCx xe pn) Ec->PassesOwn (model X.prog X.w) X.A X.env xe->PSs (X.tryCx xe pn) body (tb Ec))
  (hs:∀a,PSs (X.markCx a) (b₀::suite) ts)(hdb:(cls == ("__debug__" : Str))=false:=by decide) :
  PS X (.Try body [.ExceptHandler (some (.Name cls np)) (some n) (b₀::suite) hpos] [] [] pos) (kK X.K W i tb ts):=by
 intro pins s σ H D I h;obtain⟨L,outer,hst,hL⟩:=hfr;refine wpAny_Try_except ?_;generalize hxe:(λ(e:Value) (s₁:Shared)=>wpAny (model X.prog X.w) X.A (noteFrame e X.env) (λ_ s₂=>wpAny (model X.prog X.w) X.A (setFlight e none) (λ_ s₃=>wpAny (model X.prog X.w) X.A (handleBy e X.env [.ExceptHandler (some (.Name cls np)) (some n) (b₀::suite) hpos]) (SP X pins D) X.xe s₃) X.xe s₂) X.xe s₁)=xe;have sub:∀b∈(X.env::outer).filterMap (·.frame),b=X.env.locals\/b∈X.fs:=λb hb'=>by
  have:b∈f9 X.stack:=by rw[hst]; exact hb'
  exact cH (I.stkSub b this)
 have pass:bz (dY X.prog X.w) (X.tryCx xe (X.pn++pins)) (gg X.K W i ts D):=by
  intro pins' σ' H1 s1 e s' I1' hcx;obtain⟨a,T,C,fs,H2,rfl,os,bare,un,hok,ha,fly,nT,lT,a',C',tl,fs',eq,ha',xo,hW,q⟩:=hcx;cases eq;rw[ha] at ha';cases ha';have I1:Inv X pins σ' H1 s1:=I1'.untry;have I2:=I1.call' (ch:=[]) os un hok bare λb z=>absurd z (by simp);show xe (.ref a) s';rw[<-hxe];have fr2:=I2.ok.frames;have st2:=I2.stack;rw[hst] at fr2 st2;refine ur (base:=X.base) fr2 st2 hL fly λh3 F3 st3=>?_;have n2:=I2.newAt (b:=s'.heap.objs.size) (bI _);have I3:=I2.xstep ha st3 sub λb hb'=>by rw[Gx.mp hb']; exact I1.sinceAt I2 lT nT
  have e1:upd H2 a (.exc C false fs)=H2:=by
   funext b
   by_cases z:b=a
   .subst z; rw[cm,ha]
   .rw[bP z]
  rw[e1] at I3;refine mG F3 λh4 F4 st4=>?_;have I4:=I3.xstep ha st4 (λ_ z=>nomatch z) λb hb'=>by rw[Gx.mp hb']; exact n2
  rw[e1] at I4;exact wz I4 hN hi hn XW hg hm hs ha xo hW F4 n2 q hdb
 have rais:m8 (X.tryCx xe (X.pn++pins)) (gg X.K W i ts D):=by
  intro pins' σ' H1 s1 a C fs I1' ha hE;obtain⟨a',C',tl,fs',eq,ha',xo,hW,q⟩:=hE;cases eq;rw[cm] at ha';cases ha';have I1:Inv X pins σ' H1 s1:=I1'.untry;obtain⟨_,o,vs,e,c1,c2,c3,c4,_⟩:=I1.hok a _ ha;show xe (.ref a) s1;rw[<-hxe];have fr2:=I1.ok.frames;have st2:=I1.stack;rw[hst] at fr2 st2;refine wj (base:=X.base) fr2 st2 hL e c2 (c4 rfl) λh3 F3 st3=>?_;have n2:=I1.newAt (b:=s1.heap.objs.size) (bI _);have I3:=I1.xstep ha st3 sub (λ_ z=>nomatch z);have nT:(upd H1 a (.exc C false fs)) s1.heap.objs.size=none:=by
   rw[bP (λz=>by have:=I1.hok.lt ha; rw[<-z] at this; exact HA _ this)];exact n2.1
  refine mG F3 λh4 F4 st4=>?_;have I4:=I3.xstep cm st4 (λ_ z=>nomatch z) λb hb'=>by rw[Gx.mp hb']; exact⟨nT,n2.2⟩
  rw[zp] at I4;exact wz I4 hN hi hn XW hg hm hs cm xo hW F4 ⟨nT,n2.2⟩ q hdb
 have own:PassesOwn (model X.prog X.w) X.A X.env xe:=by
  rw[<-hxe];exact PassesOwn.looking (K:=λe s''=>wpAny (model X.prog X.w) X.A (setFlight e none) (λ_ s₃=>wpAny (model X.prog X.w) X.A (handleBy e X.env [.ExceptHandler (some (.Name cls np)) (some n) (b₀::suite) hpos]) (SP X pins D) X.xe s₃) X.xe s'')
 refine Ha (hb xe (X.pn++pins) _ pass rais own [] s σ H D (I.try xe) h) (λf s1 h1=>?_) λe s1 h1=>?_
 .cases f with
  | next=>
   obtain⟨σ1,H1,I1,q1⟩:=h1;exact Jx ⟨σ1,H1,I1.untry,q1⟩
  | brk=>obtain⟨σ1,H1,I1,q1⟩:=h1; exact⟨σ1,H1,I1.untry,q1⟩
  | cont=>obtain⟨σ1,H1,I1,q1⟩:=h1; exact⟨σ1,H1,I1.untry,q1⟩
  | ret u=>obtain⟨v,σ1,H1,I1,r1,q1⟩:=h1; exact⟨v,σ1,H1,I1.untry,r1,q1⟩
 .exact h1
end
end L2
end
section
namespace L2
open PySem PySem.W Builtin Builtin.ObjectAttr
section
variable {prog:Program}{w:World}{A:Around}{E:Value->Shared->Prop}{s:Shared}{K:Frag}{C x:Addr}{fI:Value}{tl:ao}{mA:Str->aB}
structure XI (K:Frag)(C:Addr):Prop where
 ca:findIn K (.ref C) "__class__" = some (some (.builtin "object.__class__"))
 gt:specialIn K (.builtin "object.__class__") "__get__" = some (some (.builtin "getset_descriptor.__get__"))
 tk:takesIn K (.builtin "object.__class__")=some true
 mr:mroIn K C (.type "object")=some true
def BL {Q:aB->Shared->Prop}(T:XC K C fI tl)(Y:XI K C)(X:K.In s.heap){ox:Obj}{od:Option Obj}(J:InstAt s.heap x ox C od)
  (hq:Q (some (.ref C)) { s with toks:=s.toks+1 }):wpAny (model prog w) A (getAttr? (.ref x) "__class__") Q E s:=by
 have FA:=PySem.F.excAttr_ValueError;have iso:=t8 (M:=model prog w) T X J (B := "BaseException") (by decide +kernel);have f3:=FA.ga.bind (.ref x);have hx2:(Value.builtin "BaseException.__getattribute__" == Value.builtin "object.__getattribute__")=false:=by decide +kernel
 have hx1:(onTheHeap (Value.ref C)&&Value.builtin "BaseException.__getattribute__" == Value.builtin "object.__getattribute__")=false:=by rw[hx2]; rfl
 obtain⟨nm,q,N,bs,sn,sub,ab,col,dd,k0,k1,k2,k3,k5,lk⟩:=T.obj;have hf:findObj K C od "__class__" = some (.bind (.builtin "getset_descriptor.__get__") (.builtin "object.__class__")):=by
  obtain⟨cd,hcl⟩:∃cd,clsIn K C=some cd:=by unfold clsIn; rw[lk]; exact⟨_,rfl⟩
  unfold findObj;rw[hcl,Option.bind_some,Y.ca,Option.bind_some];dsimp only;rw[Y.gt,Option.bind_some];dsimp only;rw[Y.tk];rfl
 have hC:=X _ _ lk;have J0:=J;obtain⟨hx,hc,_,_⟩:=J;obtain⟨hp,g,d,tk,os⟩:=s;change K.In hp at X;change InstAt hp x ox C od at J0;change hp.get? x=some ox at hx;have ga:∀{t:Nat} {Q':Option Value->Shared->Prop} {E':Value->Shared->Prop} {A':Around},Q' (some (.builtin "BaseException.__getattribute__")) ⟨hp,g,d,t,os⟩->wpAny (model prog w) A' (typeLookup (.ref C) "__getattribute__") Q' E' ⟨hp,g,d,t,os⟩:=λz=>(Ij X T.ga).at z;have gh:∀{t:Nat} {Q':Option Value->Shared->Prop} {E':Value->Shared->Prop} {A':Around},Q' none ⟨hp,g,d,t,os⟩->wpAny (model prog w) A' (typeLookup (.ref C) "__getattr__") Q' E' ⟨hp,g,d,t,os⟩:=λz=>(Ij X T.gh).at z;have gf:∀{t:Nat} {Q':Found->Shared->Prop} {E':Value->Shared->Prop} {A':Around},Q' (.bind (.builtin "getset_descriptor.__get__") (.builtin "object.__class__")) ⟨hp,g,d,t,os⟩->wpAny (model prog w) A' (find (.ref x) (.ref C) "__class__") Q' E' ⟨hp,g,d,t,os⟩:=λz=>(looks_find X J0 hf).at z;unfold getAttr? getAttrBy? getAttrBy;repeat (any_goals (first | assumption | (with_reducible refine GH hx ?_; rw[hc]) | with_reducible refine ga ?_ | with_reducible refine gh ?_ | wp_step))
 refine HW FA.ga.plain F.entry_bexc_ga (@check_slot (model prog w) _ _ _ "BaseException.__getattribute__" "BaseException" "__getattribute__" (.ref x) [.str "__class__" tk] [] _ (by decide +kernel) (by decide +kernel) iso (F.args_bexc_ga _ _) ?_);unfold Builtin.«object.__getattribute__»;repeat (any_goals (first | assumption | (with_reducible refine GH hx ?_; rw[hc]) | with_reducible refine gf ?_ | wp_step))
 refine class_get (ox:=ox) (od:=od) X J0 Y.mr ?_;repeat (any_goals (first | assumption | wp_step))
end
section
variable {K:Frag}{C x:Addr}{fI:Value}{tl:ao}
def uH (T:XC K C fI tl)(Y:XI K C):KitX K (.ref x) (.ref C) (λh=>∃ox od,InstAt h x ox C od) where
 ty:=λ_ _ _ ⟨_,_,J⟩=>J.type
 it:=λ_ _ X _=>by
  obtain⟨nm,q,N,bs,sn,sub,ab,col,dd,k0,k1,k2,k3,k5,lk⟩:=T.obj;intro A' Q' E' s' k q;unfold isType loadHead;exact aM (wpAny_loadPart (k _ _ (X _ _ lk)) (aV q))
 ne:=λh tp dd' its n sl X htp=>by
  obtain⟨nm,q,N,bs,sn,sub,ab,col,dd,k0,k1,k2,k3,k5,lk⟩:=T.obj;refine Bool.eq_false_iff.mpr λz=>?_;have e:C=tp:=Value.ref.inj (GC.mp z);subst e;have z:=congrArg Obj.data (cG ((X _ _ lk).symm.trans htp));cases z
 ca:=λX ⟨_,_,J⟩ k=>BL T Y X J k
end
end L2
namespace L2
open PySem PySem.Spec PyProof.Rows
inductive TyX (K:bo) (H:Hp):V->Value->Prop where
 | old {x:V} {t:Value} (h:TyOf K H x t):TyX K H x t
 | exc {a C:Addr} {fI:Value} {tl:ao} {nw:Bool} {fs:List (Str×V)} (e:H a=some (.exc C nw fs)) (T:XC K C fI tl) (Y:XI K C):TyX K H (.ref a) (.ref C)
section
variable {X:Cx}
def Fs {pins:ah}{σ:St}{H:Hp}{s:Shared}{A:Around}{E:Value->Shared->Prop}{Q:Value->Shared->Prop}{c:Value}{b:Bool}{x:V}{u t:Value}(I:Inv X pins σ H s)(rx:RelV x u)(ty:TyX X.K H x t)(e:PySem.W.kitOne X.K t c=some b)(h:∀tk,Q (.bool b) { s with toks:=tk }) :
  wpAny (model X.prog X.w) A (call (.builtin "isinstance") [u,c]) Q E s:=by
 cases ty with
 | old ty=>exact jH I rx ty e h
 | @exc a C fI tl nw fs ea T Y=>
  cases (show u=Value.ref a from rx);obtain⟨mA,J,_,_⟩:=I.inst ea;exact G7 (uH T Y) I.kIn (oq J) e (λz=>nomatch z) h
noncomputable def valOf:V->aB
 | .ref a=>some (.ref a)
 | .ty n=>some (.type n)
 | _=>none
end
end L2
end
section
namespace L2
open PySem PySem.Spec PyProof.Rows
section
variable {X:Cx}{pins:ah}{σ:St}{H:Hp}{s:Shared}{h':Heap}
def Inv.turnedL {t':Nat}{fp:ao}(I:Inv X pins σ H s)(hf:∀b∈fp,dE X pins H b)(k:∀b o,b∉fp->s.heap.get? b=some o->h'.get? b=some o):Inv X pins σ H { s with heap:=h',toks:=t' }:=by
 have nf:∀b u,H b=some u->b∉fp:=λb u e z=>by rw[(hf b z).1] at e; cases e
 refine I.step (g':=s.gens) (d':=s.drawn) (ch:=fp) (λb hb=>⟨(hf b hb).2.2.2.1,(hf b hb).2.1,(hf b hb).2.2.2.2⟩) (λb o _ _ hc e _=>k b o hc e) (λb o _ _ hc e _=>⟨o.slots,k b o hc e⟩) (λ_ _ _ _ n=>n)
  (λb o hc e=>⟨o,k b o hc e⟩) (λ_ _ e=>e) (λ_ _ _ e=>e) (λb ps e=>⟨#[],by rw[e]; simp⟩) (λm hm=>?_) (λb u e=>?_) I.bare
 .obtain⟨o,es,ep,ho,r⟩:=hm;exact⟨o,es,ep,k _ o (λz=>(hf _ z).2.1 rfl) ho,r⟩
 .refine (I.hok b u e).stay (λc v hc q=>k c v ?_ q) (λ_ q=>q) λ_ _ q=>q;rcases hc with z | z
  .rw[z]; exact nf b u e
  .exact nf c _ z
def Inv.turnedN {t':Nat}{fp:ao}{a:Addr}{o:HO}(I:Inv X pins σ H s)(hf:∀b∈fp,dE X pins H b)(k:∀b o,b∉fp->s.heap.get? b=some o->h'.get? b=some o)(hp:s.heap.objs.size<=a)(new:ObjOk X.prog X.w (upd H a o) h' a o) :
  Inv X pins σ (upd H a o) { s with heap:=h',toks:=t' }:=by
 have ha:H a=none:=I.hok.fresh hp;have na:∀b o,s.heap.get? b=some o->b≠a:=λb o e=>di (d6 (bO e) hp);have nt:∀b u,H b=some u->b≠a:=λb u e z=>by rw[z,ha] at e; cases e
 have nf:∀b u,H b=some u->b∉fp:=λb u e z=>by rw[(hf b z).1] at e; cases e
 refine I.step (g':=s.gens) (d':=s.drawn) (ch:=fp) (λb hb=>⟨(hf b hb).2.2.2.1,(hf b hb).2.1,(hf b hb).2.2.2.2⟩) (λb o _ _ hc e _=>k b o hc e) (λb o _ _ hc e _=>⟨o.slots,k b o hc e⟩) (λb o _ e n=>by rw[bP (na b o e)]; exact n)
  (λb o hc e=>⟨o,k b o hc e⟩) (λb _ e=>by rw[bP (nt b _ e)]; exact e) (λb _ _ e=>by rw[bP (nt b _ e)]; exact e) (λb ps e=>⟨#[],by rw[bP (nt b _ e),e]; simp⟩) (λm hm=>?_) (λb u e=>?_) I.bare
 .obtain⟨o,es,ep,ho,r⟩:=hm;exact⟨o,es,ep,k _ o (λz=>(hf _ z).2.1 rfl) ho,r⟩
 .by_cases z:b=a
  .subst z; rw[cm] at e; cases e; exact new
  .rw[bP z] at e;refine (I.hok b u e).stay (λc v hc q=>k c v ?_ q) (λc q=>by rw[bP (nt c _ q)]; exact q) λc _ q=>by rw[bP (nt c _ q)]; exact q
   rcases hc with z | z
   .rw[z]; exact nf b u e
   .exact nf c _ z
end
def uY {h:Heap}{a b:Addr}{o u:Obj}(A B:String)(ha:h.get? a=some o)(hb:h.get? b=some u)(hA:o.cls=.type A)(hB:u.cls=.type B)(n:A≠B):a≠b:=λz=>by
 subst z; rw[ha] at hb; cases hb; rw[hA] at hB; cases hB; exact n rfl
noncomputable def sj (K:bo)(a:Addr):It:=
 ⟨λi H=>∃xs x,SqL K H a xs/\xs[i]? = some x,λi H v H'=>∃x p,v=.ref p/\H p=none/\H'=upd H p (.tup [.int i,x])/\∀xs,SqL K H a xs->xs[i]? = some x,λi H=>∃xs,SqL K H a xs/\xs.length<=i⟩
def kM (e it l:Addr)(i:Nat)(h:Heap):Prop:=(∃old,IsEnum h e it i old)/\h.IsListIter it l i
def yB {P:Program}{w:World}{K:bo}{es:av}{k1:Nat}{ps:Pos}(l e it:Addr):Turn P w K (.Tuple es k1 ps) (sj K l) [e,it] e (kM e it l) where
 mem:=by simp
 obj:=λi h t b hb=>by
  obtain⟨⟨old,te⟩,⟨o1,e1,_,d1⟩⟩:=t;simp only[GL,G0,or_false] at hb;rcases hb with rfl | rfl
  .exact⟨_,te,(λv q=>nomatch q)⟩
  .exact⟨o1,e1,λv q=>by rw[d1] at q; cases q⟩
 keep:=λi h h' t k=>by
  obtain⟨⟨old,te⟩,t1⟩:=t;exact⟨⟨old,k e (by simp) _ te⟩,t1.at λo q=>k it (by simp) o q⟩
 item:=by
  intro X hP hw hK hc i pins s σ H E I hf st hg;subst hP hw hK;obtain⟨xs,x,hx,ex⟩:=hg;obtain⟨its,rv,p,hz⟩:=I.list hx;obtain⟨u,hu,ru⟩:=rv.get ex;obtain⟨⟨old,te⟩,t1⟩:=st;have ne:e≠it:=by
   obtain⟨o1,e1,c1,_⟩:=t1;exact uY "enumerate" "list_iterator" te e1 rfl c1 (by decide)
  refine wpAny_pyNext_enum_item te t1 p.isList (x:=u) (by simpa using hu) ne λh' z1 z2 z3 z4 z5=>⟨_,rfl,?_⟩
  refine wpAny_letOwnedTupleGo_enum (s:={ s with heap:=h',toks:=s.toks+1 }) z1 λh2 z1' sb=>?_;have kk:∀b o,b∉[e,it]->s.heap.get? b=some o->h2.get? b=some o:=λb o nb q=>by
   simp only[GL,G0,or_false,not_or] at nb;exact (sb.2 b nb.1).trans (z5 b o nb.1 nb.2 q)
  have le:e<s.heap.objs.size:=bO te;have gT:h2.get? s.heap.objs.size=some { cls:=.type "tuple",data:=.seq #[.int i s.toks,u] }:=(sb.2 _ (Hq le)).trans z3;refine⟨.ref s.heap.objs.size,upd H s.heap.objs.size (.tup [.int i,x]),I.turnedN (t':=s.toks+1) hf kk (bI _) ⟨by show 2<=sizeLine; decide,[.int i s.toks,u],.cons ⟨_,rfl⟩ (.cons ru .nil),_,gT,rfl,⟨_,rfl⟩,rfl⟩,rfl,
   ⟨x,_,rfl,I.hok.fresh (bI _),rfl,λzs hq=>by rw[I.list_inj hq hx]; exact ex⟩,⟨⟨u,by simpa using z1'⟩,z2.at λo q=>(sb.2 it (HV ne)).trans q⟩,λb hb=>?_⟩
  obtain⟨o,q,_⟩:∃o,s.heap.get? b=some o/\True:=by
   simp only[GL,G0,or_false] at hb;obtain⟨o1,e1,_,d1⟩:=t1;rcases hb with rfl | rfl
   .exact⟨_,te,trivial⟩
   .exact⟨o1,e1,trivial⟩
  rw[bP (Ja (Heap.lt_size q))];exact (hf b hb).1
 done:=by
  intro X hP hw hK hc i pins s σ H E I hf st hg;subst hP hw hK;obtain⟨xs,hx,hend⟩:=hg;obtain⟨its,rv,p,hz⟩:=I.list hx;obtain⟨⟨old,te⟩,t1⟩:=st;have l1:=rv.length;refine wpAny_pyNext_enum_end (I.ok.hd hc) te t1 p.isList (by simp; omega) λh' kp=>⟨rfl,I.turnedL (t':=s.toks) hf λb o nb q=>?_⟩
  simp only[GL,G0,or_false,not_or] at nb;exact kp b o nb.2 q
 self:=λ_ _ _ _ _ st h=>by
  obtain⟨⟨old,te⟩,_⟩:=st;exact wpAny_pyIter_enum te h
section
variable {X:Cx}{es:av}{k1:Nat}{tp:Pos}
def mz (K:bo)(ta:TA):TI:=λσ H R=>ta σ H λvs H1=>∃a xs,vs=[.ref a]/\SqL K H1 a xs/\R (sj K a) H1
def yT {a:Expr}{ta:TA}{p pos:Pos}(hg:Gl X "enumerate")(hm:X.mg "enumerate" = none)(hv:bootBuiltins "enumerate" = some (.type "enumerate"))(ha:PA X [a] ta)(hs:starEach [a] X.env=[(false,eval a X.env)]:=by rfl) :
  PI X (.Tuple es k1 tp) (.Call (.Name "enumerate" p) [a] [] pos) (mz X.K ta):=by
 intro pins s σ H R I h;refine Call_ (ig I hg hm hv (G4 (bj (ha pos pins s σ H _ I h) λus s1 hZz=>?_) hs rfl));obtain⟨vs,H1,I1,r1,q1⟩:=hZz;obtain⟨l1,xs,rfl,hx,q⟩:=q1;obtain⟨u,rfl,ru⟩:=vals1 r1;cases ru;obtain⟨its,rx,px,hzx⟩:=I1.list hx;refine call_enumerate_list px.isList λh' z1 z2 z3 z4=>?_;refine wpAny_pyIter_enum (s:={ s1 with heap:=h' }) z1 ⟨_,_,_,_,H1,rfl,I1.kept (t':=s1.toks) z4,yB l1 _ _,⟨⟨_,z1⟩,z2⟩,λb hb=>?_,q⟩;have lb:s1.heap.objs.size<=b:=by
  simp only[GL,G0,or_false] at hb;rcases hb with rfl | rfl <;> omega
 exact I1.fpOk lb (I1.hok.fresh lb)
end
end L2
end
section
namespace St
open PySem PyProof.Rows
noncomputable def subs:Nat->af
 | 0=>[[]]
 | n+1=>subs n++(subs n).map (·++[n])
noncomputable def ins (l:ak)(k:Nat):ak:=l.filter (λx=>Nat.blt x k)++k::l.filter (λx=>Nat.blt k x)
noncomputable def b1 (l:ak)(k:Nat):Bool:=l.contains k||((!SetTable.has l.toArray k)&&(SetTable.below l.toArray k == (l.filter (λx=>Nat.blt x k)).length)&&(l.take (l.filter (λx=>Nat.blt x k)).length++k::l.drop (l.filter (λx=>Nat.blt x k)).length == ins l k)&&(subs 6).contains (ins l k))
def EV:((subs 6).all λl=>(List.range 6).all λk=>b1 l k)=true:=by decide +kernel
noncomputable def hs (l:ak):Array Int:=(l.map Int.ofNat).toArray
noncomputable def b2 (m:Nat)(l:ak):Bool:=((SetTable.layClean m (hs l)).map λowner=>(List.range (m+1)).filterMap λj=>(owner.getD j none).map (j,·)) == some (l.zip (List.range l.length))
noncomputable def gm (l:ak):Nat:=SetTable.sizeAbove (SetTable.grown l.length) - 1
noncomputable def qC (l:ak):Bool:=b2 (gm l) l&&(Nat.blt 4 l.length||b2 7 l)&&b2 15 l&&(gm l == 7&&Nat.ble l.length 4||gm l == 15||gm l == 31)
def wD:((subs 6).all qC)=true:=by decide +kernel
noncomputable def b3 (l:ak):Bool:=(List.range (l.length+1)).all λi=>SetTable.below l.toArray (if i=0 then 0 else l.getD (i - 1) 0+1) == i
def vw:((subs 6).all b3)=true:=by decide +kernel
noncomputable def b4 (l:ak):Bool:=decide (l.length<=6)&&l.all (λx=>Nat.blt x 6)&&decide (l.Pairwise (· < ·))
def E8:((subs 6).all b4)=true:=by decide +kernel
noncomputable def b5 (l:ak):Bool:=((List.range 6).filter l.contains == l)&&(List.range 6).all λk=>(subs 6).contains (l.filter (· != k))
def w6:((subs 6).all b5)=true:=by decide +kernel
def Cg {m k:Nat}(hm:m=7\/m=15\/m=31)(hk:k<6):SetTable.bits (Int.ofNat k) % (m+1)=k:=by
 have:∀m∈[7,15,31],∀k∈List.range 6,SetTable.bits (Int.ofNat k) % (m+1)=k:=by decide +kernel
 exact this m (by simpa using hm) k (G1.mpr hk)
def Cr {t:SetTable}{k:Nat}(hm:t.mask=7\/t.mask=15\/t.mask=31)(hk:k<6)(h1:SetTable.has t.place k=false)(h2:SetTable.has t.dummies k=false):t.freeSlot (Int.ofNat k)=some (k,false):=by
 have hs:t.slot k=.empty:=by
  show (if SetTable.has t.place k=true then _ else if SetTable.has t.dummies k=true then _ else _)=_;rw[h1,h2];rfl
 obtain⟨n,hn⟩:∃n,10 * SetTable.turns t.mask=n+1:=⟨10 * t.mask+149,by unfold SetTable.turns; omega⟩
 have e:(t.probeStart (Int.ofNat k)).j=k:=Cg hm hk;unfold SetTable.freeSlot SetTable.probe;rw[hn];unfold SetTable.probe.go;rw[e,hs];rfl
structure TG (b:Bool)(l D:ak)(t:SetTable):Prop where
 mem:l∈subs 6
 place:t.place=l.toArray
 dum:∃ds,ds∈subs 6/\t.dummies=ds.toArray/\∀x∈ds,x∈D
 mask:t.mask=7/\t.fill<=4\/t.mask=15\/t.mask=31
 led:t.led=b
 plain:t.plain=true
def SG (b:Bool)(h:Heap)(a:Addr)(l D:ak):Prop:=∃es ep t,h.get? a=some { cls:=.type "set",dict:=none,data:=.set es ep t }/\es.toList.map (·.1)=l.map Int.ofNat/\(∀e∈es.toList,∃tk,e.2=.int e.1 tk)/\TG b l D t
def mem_b4 {l:ak}(h:l∈subs 6):l.length<=6/\(∀x∈l,x<6)/\l.Pairwise (· < ·):=by
 have:=eB E8 l h;simp only[b4,tw,GR,List.all_eq_true] at this;exact⟨this.1.1,λx hx=>HS (this.1.2 x hx),this.2⟩
def p9 {k:Nat}(h:k<6):hashInt (Int.ofNat k)=Int.ofNat k:=by
 have:∀j∈List.range 6,hashInt (Int.ofNat j)=Int.ofNat j:=by decide +kernel
 exact this k (G1.mpr h)
theorem TG.size {b:Bool}{l D:ak}{t:SetTable}(h:TG b l D t):t.place.size=l.length:=by rw[h.place]; simp
theorem TG.fill {b:Bool}{l D:ak}{t:SetTable}(h:TG b l D t):t.fill<=l.length+6:=by
 obtain⟨ds,d1,d2,_⟩:=h.dum;have:=(mem_b4 d1).1;rw[SetTable.fill,h.size,d2,Gy];omega
theorem TG.fits {b:Bool}{l D:ak}{t:SetTable}{n:Nat}(h:TG b l D t)(hn:n=l.length):t.fits n=true:=by
 have h6:=(mem_b4 h.mem).1;have hf:=h.fill;simp only[SetTable.fits,h.size,tw,GC,GR];refine⟨hn.symm,?_⟩;rcases h.mask with ⟨e,q⟩ | e | e <;> omega
def TG.mask3 {b:Bool}{l D:ak}{t:SetTable}(h:TG b l D t):t.mask=7\/t.mask=15\/t.mask=31:=h.mask.imp And.left id
def jM {prog:Program}{w:World}{es:Array (Int×Value)}{l:ak}(hm:l∈subs 6)(h1:es.toList.map (·.1)=l.map Int.ofNat)(h2:∀e∈es.toList,∃tk,e.2=.int e.1 tk):ElemsOf (intKind prog w) es.toList:=by
 intro e he;obtain⟨tk,et⟩:=h2 e he;have:e.1∈l.map Int.ofNat:=by rw[<-h1]; exact GQ he
 obtain⟨k,hk,ek⟩:=fH this;refine⟨⟨e.1,by rw[et]; exact JM _ _ _ _,?_⟩,by rw[et]; rfl⟩;show e.1=hashInt e.1;rw[<-ek,p9 ((mem_b4 hm).2.1 k hk)]
def fY {es:Array (Int×Value)}{l:ak}(h1:es.toList.map (·.1)=l.map Int.ofNat):es.size=l.length:=by
 have:=congrArg List.length h1;simpa using this
def ins_of {l:ak}{k:Nat}(hm:l∈subs 6)(hk:k<6)(hn:k∉l):SetTable.has l.toArray k=false/\SetTable.insertAt l.toArray (SetTable.below l.toArray k) k=(ins l k).toArray/\SetTable.below l.toArray k=(l.filter (λx=>Nat.blt x k)).length/\l.take (l.filter (λx=>Nat.blt x k)).length++k::l.drop (l.filter (λx=>Nat.blt x k)).length=ins l k/\ins l k∈subs 6/\(ins l k).length=l.length+1:=by
 have q:b1 l k=true:=eB (eB EV l hm) k (G1.mpr hk);have hc:l.contains k=false:=by simpa using hn
 simp only[b1,hc,JU,tw,GC,GS,Iy] at q;obtain⟨⟨⟨q1,q2⟩,q3⟩,q4⟩:=q;refine⟨q1,?_,q2,q3,q4,?_⟩
 .rw[q2];apply IG.mp;rw[SetTable.toList_insertAt];simpa using q3
 .rw[<-q3,GJ,List.length_cons,HN,Ib];have:(l.filter (λx=>Nat.blt x k)).length<=l.length:=Iw _ _;omega
def Em {b:Bool}{l D:ak}{t:SetTable}{es:Array (Int×Value)}{k:Nat}{x:Value}(h:TG b l D t)(h1:es.toList.map (·.1)=l.map Int.ofNat)(hk:k<6)(hn:k∉l)(hD:k∉D) :
  ∃es' t',layNew t es (Int.ofNat k) x=(es',t',false,false)/\es'.toList.map (·.1)=(ins l k).map Int.ofNat/\(∀e∈es'.toList,e∈es.toList\/e=(Int.ofNat k,x))/\t'.mask=t.mask/\t'.place=(ins l k).toArray/\t'.dummies=t.dummies/\t'.led=b/\t'.plain=true/\t'.fill=t.fill+1/\ins l k∈subs 6:=by
 obtain⟨q1,hp,q2,q3,q4,hlen⟩:=ins_of h.mem hk hn;obtain⟨ds,d1,d2,d3⟩:=h.dum;have hnod:SetTable.has t.dummies k=false:=by rw[d2]; exact (ins_of d1 hk λe=>hD (d3 k e)).1
 have hnop:SetTable.has t.place k=false:=by rw[h.place]; exact q1
 have f1:t.freeSlot (Int.ofNat k)=some (k,false):=Cr h.mask3 hk hnop hnod;rw[<-h.place] at hp q2;have hf:=h.fill;have h6:=(mem_b4 h.mem).1;have hfl:({ t with place:=(ins l k).toArray,dummies:=t.dummies }:SetTable).fill=t.fill+1:=by
  simp only[SetTable.fill,h.size,Gy,hlen];omega
 have hfit:({ t with place:=(ins l k).toArray,dummies:=t.dummies }:SetTable).fits (l.length+1)=true:=by
  simp only[SetTable.fits,hfl,tw,GC,GR,Gy,hlen];refine⟨trivial,?_⟩;rcases h.mask with ⟨e,q⟩ | e | e <;> omega
 have hes:(SetTable.insertAt es (SetTable.below t.place k) (Int.ofNat k,x)).size=l.length+1:=by
  rw[<-Array.length_toList,(SetTable.insertAt_perm _ _ _).length_eq,JR,GJ,Array.length_toList,fY h1];rfl
 refine⟨SetTable.insertAt es (SetTable.below t.place k) (Int.ofNat k,x),{ t with place:=(ins l k).toArray },?_,?_,λe he=>?_,rfl,rfl,rfl,h.led,h.plain,hfl,q4⟩
 .unfold layNew;rw[f1];dsimp only[SetTable.put];rw[hnod,hp];simp only[GE,if_false];rw[hes];simp only[SetTable.orStandIn,hfit,if_true,IR]
 .rw[SetTable.toList_insertAt,q2,Ir,GB,IS,Ju,h1,<-IS,<-Ju,<-q3];simp
 .have:=(SetTable.insertAt_perm es (SetTable.below t.place k) (Int.ofNat k,x)).mem_iff.mp he;rw[JR,GU,Gx] at this;exact this
def qS {m f mv:Nat}{ld pl:Bool}{l:ak}{es:Array (Int×Value)}(q:b2 m l=true)(h1:es.toList.map (·.1)=l.map Int.ofNat):SetTable.laid m f mv ld pl (es.map (·.1))=some (⟨m,l.toArray,#[],f,ld,mv,pl⟩,(List.range l.length).toArray):=by
 simp only[b2,GC] at q;obtain⟨owner,o1,o2⟩:=dO q;have hh:es.map (·.1)=hs l:=by
  apply IG.mp;rw[Array.toList_map,h1];rfl
 have hzip:(l.zip (List.range l.length)).map (·.1)=l:=by rw[List.map_fst_zip]; simp
 have hzip2:(l.zip (List.range l.length)).map (·.2)=List.range l.length:=by rw[List.map_snd_zip]; simp
 unfold SetTable.laid;rw[hh];show (SetTable.layClean m (hs l)).bind _=_;rw[o1];show some _=some _;rw[show (List.range (m+1)).filterMap (λj=>(owner.getD j none).map (j,·))=l.zip (List.range l.length) from o2,hzip,hzip2]
def wH {l:ak}{es:Array (Int×Value)}(hz:es.size=l.length):(List.range l.length).toArray.filterMap (es[·]?)=es:=by
 apply IG.mp;rw[Array.toList_filterMap];show (List.range l.length).filterMap (λi=>es[i]?)=es.toList;rw[<-hz];exact filterMap_getElem?_range es
def yV {b:Bool}{l D:ak}{t:SetTable}{es:Array (Int×Value)}(hm:l∈subs 6)(h1:es.toList.map (·.1)=l.map Int.ofNat)(hl:t.led=b)(hp:t.plain=true) :
  ∃t',relayAll t es (SetTable.grown es.size)=(es,t',false)/\TG b l D t':=by
 have q:=eB wD l hm;simp only[qC,tw,G8,GC] at q;obtain⟨⟨⟨q1,_⟩,_⟩,q4⟩:=q;have hz:es.size=l.length:=fY h1;have h6:=(mem_b4 hm).1;have TT:TG b l D ⟨gm l,l.toArray,#[],t.finger,t.led,t.movedTo (gm l),t.plain⟩:=by
  refine⟨hm,rfl,⟨[],by decide +kernel,rfl,λx hx=>by cases hx⟩,?_,hl,hp⟩;rcases q4 with (⟨q4,q5⟩ | q4) | q4
  .exact .inl ⟨q4,by simpa[SetTable.fill] using HS q5⟩
  .exact .inr (.inl q4)
  .exact .inr (.inr q4)
 refine⟨_,?_,TT⟩;have hr:t.relaid (es.map (·.1)) (SetTable.grown es.size)=some (⟨gm l,l.toArray,#[],t.finger,t.led,t.movedTo (gm l),t.plain⟩,(List.range l.length).toArray):=by
  unfold SetTable.relaid;rw[hz];exact qS q1 h1
 have hcov:coversAll (List.range l.length).toArray es.size=true:=by
  unfold coversAll;rw[hz];exact List.isPerm_iff.mpr (List.Perm.refl _)
 unfold relayAll;rw[hr];dsimp only;rw[wH hz,hcov,TT.fits hz];rfl
section
variable {prog:Program}{w:World}{A:Around}{E:Value->Shared->Prop}{s:Shared}
def SG.store {b:Bool}{h:Heap}{a:Addr}{es es':Array (Int×Value)}{ep:Nat}{t t':SetTable}{l D:ak}(ho:h.get? a=some { cls:=.type "set",dict:=none,data:=.set es ep t })(h1:es'.toList.map (·.1)=l.map Int.ofNat)(h2:∀e∈es'.toList,∃tk,e.2=.int e.1 tk)(ht:TG b l D t') :
  (h.update a (Obj.putSet es' t')).get? a=some { cls:=.type "set",dict:=none,data:=.set es' (ep+1) t' }/\SG b (h.update a (Obj.putSet es' t')) a l D:=by
 have e:=Ht (Obj.putSet es' t') ho rfl;exact⟨e,es',ep+1,t',e,h1,h2,ht⟩
def small_line {n:Nat}(h:n<=6):n<=sizeLine:=ce h (by decide)
def vE {a:Addr}{l D:ak}{b:Bool}{k:Nat}{tk:Tok}{Q:Bool->Shared->Prop}(hS:SG b s.heap a l D)(hk:k<6)(hD:k∉D)
  (h:∀h' r,Heap.SameBut a s.heap h'->SG b h' a (if k∈l then l else ins l k) D->Q r { s with heap:=h' }) :
  wpAny (model prog w) A (setAddHashed a (.int (Int.ofNat k) tk) ((intKind prog w).hash (Int.ofNat k))) Q E s:=by
 obtain⟨es,ep,t,ho,h1,h2,ht⟩:=hS;have hel:ElemsOf (intKind prog w) es.toList:=jM ht.mem h1 h2;have hz:=fY h1;have h6:=(mem_b4 ht.mem).1;have hf:t.fits es.size=true:=ht.fits hz;have hb:es.size<scanBound:=by unfold scanBound; omega
 have hkey:(intKind prog w).is (Int.ofNat k) (.int (Int.ofNat k) tk)=true:=JM _ _ _ _;unfold setAddHashed setAddHashedIn;refine Ho (aM (G2 ho rfl hf ?_));dsimp only;rw[byScan_of (knd:=intKind prog w) rfl hb hel];simp only[↓reduceIte];unfold setAddByScan;refine aM ?_;refine aM (JN ?_);refine aM (wpAny_setScan_of (knd:=intKind prog w) hkey ho rfl hf hel ?_);have hin:∀e∈es.toList,(intKind prog w).is (Int.ofNat k) e.2=true->k∈l:=by
  intro e he hi;obtain⟨tk',et⟩:=h2 e he;obtain⟨t2,e2⟩:=Value.isInt_shape (show Value.isInt (Int.ofNat k) e.2=true from hi);rw[et] at e2;injection e2 with e3 _;have:e.1∈l.map Int.ofNat:=by rw[<-h1]; exact GQ he
  obtain⟨k',hk',ek⟩:=fH this;rw[e3] at ek;have:k'=k:=Int.ofNat.inj ek;exact this ▸ hk'
 cases hr:List.findIdx? (λe=>(intKind prog w).is (Int.ofNat k) e.2) es.toList with
 | some j=>
  dsimp only;obtain⟨hj,hpj,_⟩:=Hw.mp hr;have hkl:k∈l:=hin _ (GV hj) hpj;refine aV (aV ?_);have e:s={ s with heap:=s.heap }:=by cases s; rfl
  have:=h s.heap false (Je a s.heap) ⟨es,ep,t,ho,by rw[if_pos hkl]; exact h1,h2,by rw[if_pos hkl]; exact ht⟩;rw[e]; exact this
 | none=>
  dsimp only;have hkl:k∉l:=by
   intro hm;have:Int.ofNat k∈es.toList.map (·.1):=by rw[h1]; exact GQ hm
   obtain⟨e,he,ee⟩:=fH this;have:=List.findIdx?_eq_none_iff.mp hr e he;obtain⟨tk',et⟩:=h2 e he;rw[et,ee] at this;have z:(intKind prog w).is (Int.ofNat k) (.int (Int.ofNat k) tk')=true:=JM _ _ _ _;rw[z] at this;cases this
  rw[if_neg hkl] at h;have hh:(intKind prog w).hash (Int.ofNat k)=Int.ofNat k:=p9 hk;rw[hh];obtain⟨es',t',hL,e1,e2,m1,m2,m3,m4,m5,m6,m7⟩:=Em (x:=.int (Int.ofNat k) tk) ht h1 hk hkl hD;rw[hL];dsimp only;have e2':∀e∈es'.toList,∃tk,e.2=.int e.1 tk:=λe he=>by
   rcases e2 e he with q | q
   .exact h2 e q
   .rw[q]; exact⟨tk,rfl⟩
  have hz':=fY e1;have h6':=(mem_b4 m7).1;refine aM ?_;refine aV ?_;rw[m5];simp only[if_true];refine aM ?_;rw[hashByValue_scannable 8 (x:=.int (Int.ofNat k) tk) rfl];refine aV ?_;simp only[plainKind,if_true,Bool.not_false,Bool.true_and];refine aM (HX ho rfl ?_ (small_line (by rw[hz']; exact h6')));by_cases hfull:t'.tooFull=true
  .rw[if_pos hfull];obtain⟨t2,r1,r2⟩:=yV (b:=b) (D:=D) m7 e1 m4 m5;rw[r1];dsimp only;have hx:=Ht (Obj.putSet es' t') ho rfl;refine aM ?_;refine aV ?_;refine aM (HX (o:={ cls:=.type "set",dict:=none,data:=.set es' (ep+1) t' }) hx rfl ?_ (small_line (by rw[hz']; exact h6')));refine aV (aV (h _ true ((G6 s.heap a _).trans (G6 _ a _)) (SG.store hx e1 e2' r2).2))
  .rw[if_neg hfull];have hm':t'.mask=7/\t'.fill<=4\/t'.mask=15\/t'.mask=31:=by
    rcases ht.mask with ⟨q,q2⟩ | q
    .refine .inl ⟨m1.trans q,?_⟩;simp only[SetTable.tooFull,m1,q,GR,ge_iff_le] at hfull;omega
    .exact .inr (by rw[m1]; exact q)
   refine aV (aV (h _ true (G6 s.heap a _) (SG.store ho e1 e2' ⟨m7,m2,by rw[m3]; exact ht.dum,hm',m4,m5⟩).2))
end
end St
end
section
namespace St
open PySem PyProof.Rows PySem.W
def BS:entryFor table "set.__iter__" = some Builtin.«frozenset.__iter__»:=
 entryFor_alias (id' := "frozenset.__iter__") (by kernel_rfl) rfl (by decide +kernel) (by kernel_rfl)
def lC:Slot "set_iterator" "__next__" "set_iterator.__next__" :=
 .of (owner := "set_iterator") (n := "__next__") (by rw[typeLookup_type,Jn]; kernel_rfl) (by decide +kernel) (by decide +kernel) (by decide +kernel)
  (by first | exact .inl (by decide +kernel) | exact .inr (by decide +kernel)) (by rw[JL]; kernel_rfl)
def xJ:entryFor table "set_iterator.__next__" = some Builtin.«set_iterator.__next__»:=entryFor_of_tree (by kernel_rfl)
theorem wn:Manifest.owners.lookup (String.ofList ['r','o','t','a','r','e','t','i','_','t','e','s'].reverse)=some Manifest.sig_set_iterator:=by kernel_rfl
def tT (a:Value):argsOk "set_iterator.__next__" ⟨[a],[]⟩:=by
 unfold argsOk; rw[signature?_of (id := "set_iterator.__next__") (n:=['_','_','t','x','e','n','_','_']) (o:=['r','o','t','a','r','e','t','i','_','t','e','s']) (by kernel_rfl) wn]; kernel_rfl
def tj:Slot "set_iterator" "__iter__" "set_iterator.__iter__" :=
 .of (owner := "set_iterator") (n := "__iter__") (by rw[typeLookup_type,Jn]; kernel_rfl) (by decide +kernel) (by decide +kernel) (by decide +kernel)
  (by first | exact .inl (by decide +kernel) | exact .inr (by decide +kernel)) (by rw[JL]; kernel_rfl)
def Ay:typeLookup (.type "set") "__len__" = pure (some (.builtin "set.__len__")):=by rw[typeLookup_type,Jn]; kernel_rfl
section
variable {prog:Program}{w:World}{A:Around}{E:Value->Shared->Prop}{s:Shared}{r:Addr}
def Ei {Q:Bool->Shared->Prop}(hT:s.TypeIs (.ref r) "set")(h:Q false s):wpAny (model prog w) A (Builtin.List.listLengthHint (.ref r)) Q E s:=by
 unfold Builtin.List.listLengthHint;refine aM (wpAny_specialOf hT Ay ?_);generalize hid:("set.__len__" : String)=id0;wp_delta
 rw[show splitId id0=some ("set", "__len__") from by subst hid; decide +kernel];subst hid;refine aM (II (T := "set") (b:=true) hT (by rw[JL]; kernel_rfl) ?_);refine HK (λhab=>absurd hab (by decide)) (λ_=>?_);refine HK (λ_=>?_) (λhab=>absurd (by decide +kernel) hab);refine aM (JF hT ?_);exact aV h
def lW {Q:Bool->Shared->Prop}(h:Q (w.params.followText "set-order") s):wpAny (model prog w) A setsByText Q E s:=by
 unfold setsByText;refine aM (Jr ?_);exact aV h
def A8 {a:Addr}{es:Array (Int×Value)}{ep:Nat}{t:SetTable}{Q:Bool->Shared->Prop}(ho:s.heap.get? a=some { cls:=.type "set",dict:=none,data:=.set es ep t })(hf:t.fits es.size=true)(hp:t.plain=true)(h:Q false s) :
  wpAny (model prog w) A (setDrawn a) Q E s:=by
 unfold setDrawn;refine aM (G2 ho rfl hf ?_);dsimp only;refine aM (lW ?_);refine aV ?_;show Q (!w.params.followText "set-order" && (!t.plain&&decide (es.size > 1))) s;rw[hp,IR,Bool.false_and,Bool.and_false];exact h
end
noncomputable abbrev l7 (slot i:Nat)(a:Addr)(n ep:Nat):Obj:={ cls:=.type "set_iterator",data:=.fields #[.int slot 0,.int i 0,.ref a,.int n 0,.int ep 0] }
section
variable {prog:Program}{w:World}{A:Around}{E:Value->Shared->Prop}{s:Shared}{a:Addr}{es:Array (Int×Value)}{ep:Nat}{t:SetTable}
def EB {Q:Value->Shared->Prop}(ho:s.heap.get? a=some { cls:=.type "set",dict:=none,data:=.set es ep t })(hf:t.fits es.size=true)(hp:t.plain=true)
  (hQ:Q (.ref s.heap.objs.size) { s with heap:=s.heap.push (l7 0 0 a es.size ep) }):wpAny (model prog w) A (pyIter (.ref a)) Q E s:=by
 have hT:s.TypeIs (.ref a) "set":=⟨_,ho,rfl⟩
 refine wpAny_pyIter_slot hT F.slot_set_iter (G9 F.slot_set_iter hT BS ?_ (F.args_set_iter_1 _));unfold Builtin.«frozenset.__iter__» Builtin.Frozenset.slot0 slotArgs;simp only[List.isEmpty_nil,IR,GE,↓reduceIte,bind_assoc,List.length_nil,HE];unfold Builtin.Frozenset.addrOf Builtin.Frozenset.sizeOf;refine aM (aV ?_);try dsimp only
 refine aM (aV ?_);refine aM (aM (JC ho rfl hf (aV ?_)));refine aM (A8 ho hf hp ?_);simp only[GE,if_false];refine aM (aV ?_);refine aM (Jf ho rfl hf ?_);unfold newFields;refine aM (GW (aV ⟨_,rfl, "set_iterator",_,⟨_,dm _ rfl,rfl⟩,lC.lookup,?_⟩));exact hQ
noncomputable def ord (w:World)(a:Addr)(ep:Nat)(es:Array (Int×Value)):Array (Int×Value):=if w.params.followText "set-order" then pickOrder (w.params.setOrder a ep) es else es
noncomputable def nextOf (w:World)(a:Addr)(ep:Nat)(es:Array (Int×Value))(t:SetTable)(slot i:Nat):Option (Value×Nat):=
 if w.params.followText "set-order" then ((ord w a ep es)[i]?).map λe=>(e.2,slot) else match es[SetTable.below t.place slot]?,t.place[SetTable.below t.place slot]? with
  | some (_,x),some j=>some (x,j+1)
  | _,_=>none
def t3 {slot i:Nat}{Q:Option (Value×Nat)->Shared->Prop}(ho:s.heap.get? a=some { cls:=.type "set",dict:=none,data:=.set es ep t })(hf:t.fits es.size=true)(hp:t.plain=true)(hl:t.led = !w.params.followText "set-order")(h:Q (nextOf w a ep es t slot i) s) :
  wpAny (model prog w) A (setNext a slot i ep) Q E s:=by
 unfold setNext;refine aM (G2 ho rfl hf ?_);dsimp only;refine aM (lW ?_);unfold nextOf ord at h;cases hb:w.params.followText "set-order" with
 | true=>
  rw[hb] at h;simp only[if_true,HE,GE,if_false] at h ⊢;refine aM ?_;unfold setWalk;refine aM (G2 ho rfl hf ?_);dsimp only;refine aM (lW ?_);rw[hb];simp only[if_true];refine aM (Jr ?_);exact aV (aV h)
 | false=>
  rw[hb] at h hl;simp only[GE,if_false] at h ⊢;refine HK (λhab=>absurd (show (!t.plain&&decide (es.size > 1))=true from hab) (by rw[hp]; simp)) (λ_=>?_);refine aM ?_;refine HK (λhab=>absurd (show (!t.led&&!es.isEmpty)=true from hab) (by rw[hl]; simp)) (λ_=>?_);exact aV (aV h)
end
theorem u7 {α:Type}:∀{l:List α} {i:Nat} (h:i<l.length),List.Perm (l[i]::l.eraseIdx i) l
 | x::l,0,_=>List.Perm.refl _
 | x::l,i+1,h=>by
  have:=u7 (l:=l) (i:=i) (Nat.lt_of_succ_lt_succ h);rw[List.eraseIdx_cons_succ,List.getElem_cons_succ];exact (List.Perm.swap x _ _).trans (this.cons x)
theorem tW {α:Type}(next:Nat->Nat):∀(fuel k:Nat) (left:List α) (out:Array α),fuel=left.length->List.Perm (pickOrder.go next fuel k left out).toList (out.toList++left)
 | 0,k,left,out,h=>by
  have:left=[]:=IZ.mp h.symm;subst this;simp[pickOrder.go]
 | fuel+1,k,left,out,h=>by
  unfold pickOrder.go;have hl:next k % left.length<left.length:=Nat.mod_lt _ (by omega);rw[GM hl];dsimp only;refine (tW next fuel (k+1) _ _ ?_).trans ?_
  .rw[List.length_eraseIdx,if_pos hl]; omega
  .rw[JR,Jh];refine List.Perm.append_left _ ?_;exact u7 hl
def EL {α:Type}(next:Nat->Nat)(xs:Array α):List.Perm (pickOrder next xs).toList xs.toList:=by
 have:=tW next xs.size 0 xs.toList #[] (by simp);simpa[pickOrder] using this
def oH (w:World)(a:Addr)(ep:Nat)(es:Array (Int×Value)):List.Perm (ord w a ep es).toList es.toList:=by
 unfold ord;split
 .exact EL _ _
 .exact List.Perm.refl _
def pJ (w:World)(a:Addr)(ep:Nat)(es:Array (Int×Value)):(ord w a ep es).size=es.size:=by
 rw[<-Array.length_toList,(oH w a ep es).length_eq,Array.length_toList]
noncomputable def slotAt (w:World)(l:ak)(i:Nat):Nat:=if w.params.followText "set-order" then 0 else if i=0 then 0 else l.getD (i - 1) 0+1
section
variable {prog:Program}{w:World}{A:Around}{E:Value->Shared->Prop}{s:Shared}{a I:Addr}{es:Array (Int×Value)}{ep:Nat}{t:SetTable}{b:Bool}{l D:ak}
def Bw {i:Nat}(ht:TG b l D t)(h1:es.toList.map (·.1)=l.map Int.ofNat)(hi:i<es.size):∃e,(ord w a ep es)[i]? = some e/\nextOf w a ep es t (slotAt w l i) i=some (e.2,slotAt w l (i+1)):=by
 have hz:=fY h1;have ho:i<(ord w a ep es).size:=by rw[pJ]; exact hi
 refine⟨(ord w a ep es)[i],by simp[ho],?_⟩;unfold nextOf slotAt;by_cases hb:w.params.followText "set-order" = true
 .simp only[hb,if_true];rw[IM ho];rfl
 .have q:=eB vw l ht.mem;simp only[b3,List.all_eq_true,GC,G1] at q;have q1:=q i (by omega);have hbel:SetTable.below t.place (if i=0 then 0 else l.getD (i - 1) 0+1)=i:=by rw[ht.place]; exact q1
  have hil:i<l.length:=by omega
  have hb':w.params.followText "set-order" = false:=by simpa using hb
  simp only[hb',GE,if_false,hbel];have e1:es[i]? = some es[i]:=by simp[hi]
  have e2:t.place[i]? = some (l[i]'hil):=by rw[ht.place]; simp[hil]
  have e3:(ord w a ep es)=es:=by unfold ord; rw[if_neg hb]
  rw[e1,e2];simp only[e3,Nat.add_eq_zero_iff,Nat.succ_ne_self,and_false,if_false,Nat.add_sub_cancel,Nat.reduceAdd,Nat.one_ne_zero];simp[hil]
def Aa (ht:TG b l D t)(h1:es.toList.map (·.1)=l.map Int.ofNat):nextOf w a ep es t (slotAt w l es.size) es.size=none:=by
 have hz:=fY h1;unfold nextOf slotAt;by_cases hb:w.params.followText "set-order" = true
 .simp only[hb,if_true];rw[Ji (by rw[pJ]; exact bI _)];rfl
 .have q:=eB vw l ht.mem;simp only[b3,List.all_eq_true,GC,G1] at q;have q1:=q es.size (by omega);have hbel:SetTable.below t.place (if es.size=0 then 0 else l.getD (es.size - 1) 0+1)=es.size:=by rw[ht.place]; exact q1
  have hb':w.params.followText "set-order" = false:=by simpa using hb
  simp only[hb',GE,if_false,hbel];have e1:es[es.size]? = none:=by simp
  rw[e1]
def Ch {i slot nx:Nat}{x:Value}{Q:aB->Shared->Prop}(hI:s.heap.get? I=some (l7 slot i a es.size ep))(ho:s.heap.get? a=some { cls:=.type "set",dict:=none,data:=.set es ep t })(hf:t.fits es.size=true)(hp:t.plain=true)(hl:t.led = !w.params.followText "set-order")(hn:nextOf w a ep es t slot i=some (x,nx))
  (hQ:∀h',h'.get? I=some (l7 nx (i+1) a es.size ep)->Heap.SameBut I s.heap h'->Q (some x) { s with heap:=h' }):wpAny (model prog w) A (pyNext (.ref I)) Q E s:=by
 have hT:s.TypeIs (.ref I) "set_iterator":=⟨_,hI,rfl⟩
 unfold pyNext;refine aM (JV (wpAny_callSpecial?_slot (name:=Str.ofString "__next__") hT lC (G9 lC hT xJ ?_ (tT _))));unfold Builtin.«set_iterator.__next__» slotArgs;simp only[List.isEmpty_nil,IR,GE,↓reduceIte,bind_assoc,List.length_nil,HE];refine aM (aV ?_);refine aM (wpAny_fieldsOf hI rfl ?_);dsimp only;refine aM (JC ho rfl hf ?_);refine HK (λhab=>absurd hab (by simp)) (λ_=>?_);simp only[Int.toNat_natCast];refine aM (t3 ho hf hp hl ?_);rw[hn];dsimp only;refine aM (Hv hI (by simp) λh1 g1 s1=>?_);refine aM (Hv (s:={ s with heap:=h1 }) g1 (by simp) λh2 g2 s2=>?_);exact aV ⟨_,rfl,aV (hQ h2 g2 (s1.trans s2))⟩
def B7 {i slot:Nat}{Q:aB->Shared->Prop}(hh:A.handled=none)(hI:s.heap.get? I=some (l7 slot i a es.size ep))(ho:s.heap.get? a=some { cls:=.type "set",dict:=none,data:=.set es ep t })(hf:t.fits es.size=true)(hp:t.plain=true)(hl:t.led = !w.params.followText "set-order")(hn:nextOf w a ep es t slot i=none)
  (hQ:∀h',Heap.ExtBut I s.heap h'->Q none { s with heap:=h' }):wpAny (model prog w) A (pyNext (.ref I)) Q E s:=by
 have hT:s.TypeIs (.ref I) "set_iterator":=⟨_,hI,rfl⟩
 unfold pyNext;refine aM (JV (wpAny_callSpecial?_slot (name:=Str.ofString "__next__") hT lC (G9 lC hT xJ ?_ (tT _))));unfold Builtin.«set_iterator.__next__» slotArgs;simp only[List.isEmpty_nil,IR,GE,↓reduceIte,bind_assoc,List.length_nil,HE];refine aM (aV ?_);refine aM (wpAny_fieldsOf hI rfl ?_);dsimp only;refine aM (JC ho rfl hf ?_);refine HK (λhab=>absurd hab (by simp)) (λ_=>?_);simp only[Int.toNat_natCast];refine aM (t3 ho hf hp hl ?_);rw[hn];dsimp only;refine aM (JI hI rfl (by simp) ?_);show wpAny _ _ (newExc (.type "StopIteration") [] >>= _) _ _ _;refine aM ?_;simp only[newExc,newTuple];refine aM (GW ?_ (by size_fits));refine aM (m:=firstArgMember _ _) (IY (a:=Value.none) (by first | rfl | (simp only[firstArgMember]; rfl)) ?_);refine GW ?_ (by size_fits);simp only[raiseNew];refine aM (wpAny_handled ?_);rw[show A.in1.handled=none from hh];refine aM (aV (wpAny_throw ?_));refine aM (II (T := "StopIteration") (b:=true) ⟨_,dm _ rfl,rfl⟩ isSubtype_stop ?_);exact aV (hQ _ (((G6 ..).extBut.push _).push _))
end
def Bl:entryFor table "set_iterator.__iter__" = some Builtin.«dict_keyiterator.__iter__»:=
 entryFor_alias (id' := "dict_keyiterator.__iter__") (by kernel_rfl) rfl (by decide +kernel) (by kernel_rfl)
def yY (a:Value):argsOk "set_iterator.__iter__" ⟨[a],[]⟩:=by
 unfold argsOk; rw[signature?_of (id := "set_iterator.__iter__") (n:=['_','_','r','e','t','i','_','_']) (o:=['r','o','t','a','r','e','t','i','_','t','e','s']) (by kernel_rfl) wn]; kernel_rfl
noncomputable abbrev ng (es:Array (Int×Value))(ep:Nat)(t:SetTable):Obj:={ cls:=.type "set",dict:=none,data:=.set es ep t }
section
variable {prog:Program}{w:World}{A:Around}{E:Value->Shared->Prop}{s:Shared}{a I:Addr}{es:Array (Int×Value)}{ep:Nat}{t:SetTable}{l D:ak}
def EY (w:World)(l:ak):slotAt w l 0=0:=by unfold slotAt; split <;> rfl
def DO (hh:A.handled=none)(hne:a≠I)(ht:TG (!w.params.followText "set-order") l D t)(h1:es.toList.map (·.1)=l.map Int.ofNat) :
  Walks prog w A I [I,a] [I] es.size (λi v=>∃e,(ord w a ep es)[i]? = some e/\v=e.2) (λi h=>h.get? I=some (l7 (slotAt w l i) i a es.size ep)/\h.get? a=some (ng es ep t)) where
 sub:=λb hb=>by simp at hb; simp[hb]
 frame:=λ_ _ _ st hk=>⟨hk I (by simp) _ st.1,hk a (by simp) _ st.2⟩
 item:=λi s Q E hi st hQ=>by
  obtain⟨e,e1,e2⟩:=Bw (w:=w) (a:=a) (ep:=ep) ht h1 hi;refine Ch st.1 st.2 (ht.fits (fY h1)) ht.plain ht.led e2 λh' g sb=>?_;exact hQ _ h' s.toks ⟨e,e1,rfl⟩ ⟨g,sb.extBut _ _ hne st.2⟩ λb o hb q=>sb.extBut b o (λz=>hb (by simp[z])) q
 done:=λs Q E st hQ=>B7 hh st.1 st.2 (ht.fits (fY h1)) ht.plain ht.led (Aa ht h1) λh' he=>hQ h' s.toks λb o hb q=>he b o (λz=>hb (by simp[z])) q
 self:=λi s Q E st hQ=>by
  have hT:s.TypeIs (.ref I) "set_iterator":=⟨_,st.1,rfl⟩
  refine wpAny_pyIter_slot hT tj (G9 tj hT Bl ?_ (yY _));show wpAny _ _ (ret (.ref I)) _ _ s;exact aV ⟨_,rfl, "set_iterator",_,hT,lC.lookup,hQ⟩
def DF (ht:TG (!w.params.followText "set-order") l D t)(h1:es.toList.map (·.1)=l.map Int.ofNat):KdlSrc prog w "set" a a es.size (λi v=>∃e,(ord w a ep es)[i]? = some e/\v=e.2) (λh=>h.get? a=some (ng es ep t)) where
 type:=λ_ hm=>⟨_,hm,rfl⟩
 there:=λ_ hm=>⟨bO hm,bO hm⟩
 keep:=λ_ _ hm hk=>hk a (.inl rfl) _ hm
 notList:=by decide
 notTuple:=by decide
 hint:=λ_ _ _ _ hm hq=>Ei ⟨_,hm,rfl⟩ hq
 iter:=λA s hh hm=>⟨l7 0 0 a es.size ep,_,(λ_ _ hq=>EB hm (ht.fits (fY h1)) ht.plain hq),DO hh (di (bO hm)) ht h1,⟨by rw[EY]; exact dm _ rfl,bH _ hm⟩⟩
def yb {T:String}{r d:Addr}{n:Nat}{P:Nat->Value->Prop}{OK:Heap->Prop}{Q:ar->Shared->Prop}(K:KdlSrc prog w T r d n P OK)(hh:A.handled=none)(hok:OK s.heap)(hn:n<=sizeLine)
  (hQ:∀h' tk acc,(∀b o,s.heap.get? b=some o->h'.get? b=some o)->ItemsOf P acc n->Q acc.toList { s with heap:=h',toks:=tk }):wpAny (model prog w) A (collect (.ref r)) Q E s:=by
 unfold collect;refine aM (wpAny_runValue (Iu F.entry_proto_collect ?_));rw[HY F.plain_proto_collect _];show wpAny _ A.in1 (newList [] >>= λl=>again (.builtin "list.__iadd__" ⟨[l,.ref r],[]⟩)) _ _ s;refine aM (GW ?_);refine aV ⟨plainId_quiet F.plain_list_iadd _,Iu F.entry_list_iadd ?_⟩;rw[HY F.plain_list_iadd _];show wpAny _ A.in1 (Builtin.List.listExtendWith (.ref s.heap.objs.size) (.ref r) (.ref s.heap.objs.size)) _ _ _;have hlt:=K.there _ hok;refine kdl_extend (R:=λr s'=>match r with
   | .ok (.ret v)=>wpAny (model prog w) A (match v with
    | .ref a=>do
     match (<-load a).data with
     | .seq xs _=>pure xs.toList
     | _=>unsupported "internal:collect"
    | _=>unsupported "internal:collect") Q E s'
   | .ok _=>False
   | .error e=>E e s') (s:={ s with heap:=s.heap.push { cls:=.type "list",data:=.seq ([]:List Value).toArray } }) K hh (K.keep _ _ hok λb _ o e=>bH _ e) s.heap.objs.size (Hq hlt.1) (Hq hlt.2) (.ref s.heap.objs.size) 0 (dm _ rfl) (λh' tk acc' c' hk hS' hacc=>?_) hn
 show wpAny _ A (load s.heap.objs.size >>= _) _ _ _;refine aM (wpAny_load hS' ?_);exact aV (hQ h' tk acc' (λb o e=>hk b o (di (bO e)) (bH _ e)) hacc)
def sorted_set {Q:Value->Shared->Prop}(hh:A.handled=none)(hS:SG (!w.params.followText "set-order") s.heap a l D)
  (h:∀h' tk L (vs:ar) n,(∀b o,s.heap.get? b=some o->h'.get? b=some o)->a<L->h'.get? L=some { cls:=.type "list",data:=.seq vs.toArray n }->IntsAre vs (l.map Int.ofNat)->Q (.ref L) { s with heap:=h',toks:=tk }) :
  wpAny (model prog w) A (call (.builtin "sorted") [.ref a]) Q E s:=by
 obtain⟨es,ep,t,ho,h1,h2,ht⟩:=hS;have hz:=fY h1;have h6:=(mem_b4 ht.mem).1;refine Calls.call_function_entry kind_sorted plain_sorted entry_sorted (args_sorted1 _) ?_;unfold Builtin.«sorted»;refine aM (m:=checkCount "sorted" 1 1 _) (aV ?_);refine aM (yb (DF (prog:=prog) (a:=a) (ep:=ep) ht h1) hh ho (small_line (by omega)) λh' tk acc hk hacc=>?_);refine aM (wpAny_newList ?_ (hsz:=by rw[Array.length_toList,hacc.1]; exact small_line (by omega)));have hvs:acc.toList=(ord w a ep es).toList.map (·.2):=by
  apply HG;intro j;rw[GK,Jo,Jo];by_cases hj:j<acc.size
  .obtain⟨e,e1,e2⟩:=hacc.2 j acc[j] (by simp[hj]);rw[e1,IM hj,e2];rfl
  .have hsz:(ord w a ep es).size<=j:=by rw[pJ,<-hacc.1]; omega
   rw[Ji (by omega),Ji hsz];rfl
 have hints:IntsAre acc.toList ((ord w a ep es).toList.map (·.1)):=by
  rw[hvs];have:∀(m:List (Int×Value)),(∀e∈m,∃tk,e.2=.int e.1 tk)->IntsAre (m.map (·.2)) (m.map (·.1)):=by
   intro m;induction m with
   | nil=>intro _; exact IntsAre.nil
   | cons e m ih=>
    intro hm;obtain⟨tk,et⟩:=hm e bZ;rw[GB,GB,et];exact IntsAre.cons _ _ (ih λx hx=>hm x (bQ _ hx))
  exact this _ λe he=>h2 e ((oH w a ep es).mem_iff.mp he)
 have hoL:(h'.push (seqObj "list" acc.toList.toArray 0)).get? h'.objs.size=some (seqObj "list" acc.toList.toArray 0):=dm _ rfl;have hlen:acc.toList.length<64:=by rw[Array.length_toList,hacc.1]; omega
 refine aM (Ho (G9 slot_list_sort ⟨_,hoL,rfl⟩ entry_list_sort (list_sort_tree hoL hints hlen λout ns' a1 a2 a3=>⟨_,rfl,?_⟩) (args_list_sort _)));have hns:ns'=l.map Int.ofNat:=by
  have p:ns'.Perm (l.map Int.ofNat):=by
   rw[<-h1];exact a2.trans ((oH w a ep es).map _)
  refine ksm_same p a3 ?_;rw[List.pairwise_map];exact (mem_b4 ht.mem).2.2.imp λh=>Int.ofNat_le.mpr (HL h)
 subst hns;obtain⟨e,ge⟩:=sortedHeap_at (out:=out) hoL;refine aV ⟨_,rfl,h _ _ h'.objs.size out.toList e (λb o q=>?_) ?_ ?_ a1⟩
 .have hb:b<h'.objs.size:=bO (hk b o q);rw[sortedHeap_old (Ja hb) (by rw[GI]; exact HF hb)];exact bH _ (hk b o q)
 .exact bO (hk a _ ho)
 .simpa using ge
end
noncomputable def stp (l:ak)(k:Nat):ak:=if k∈l then l else ins l k
noncomputable def acc (val:Nat->Nat)(i:Nat):ak:=((List.range i).map val).foldl stp []
def DI (val:Nat->Nat)(i:Nat):acc val (i+1)=stp (acc val i) (val i):=by
 unfold acc;rw[List.range_succ,Ir,List.foldl_append];rfl
section
variable {prog:Program}{w:World}{A:Around}{R:Result->Shared->Prop}{I:Addr}{fp wr:ao}{G:Array GenState->Array GenState->Prop}{n:Nat}{P:Nat->Value->Prop}{St:Nat->Shared->Prop}
def SG.at {b:Bool}{h h':Heap}{a:Addr}{l D:ak}(x:SG b h a l D)(e:∀o,h.get? a=some o->h'.get? a=some o):SG b h' a l D:=by
 obtain⟨es,ep,t,ho,r⟩:=x;exact⟨es,ep,t,e _ ho,r⟩
def CM (b:Bool)(W:WalksS prog w A.in1 I fp wr G n P St)(S:Addr)(hSf:S∉fp)(val:Nat->Nat)(hval:∀i v,P i v->val i<6/\∃t,v=.int (Int.ofNat (val i)) t) :
  ∀(k i:Nat) (s:Shared),n - i=k->i<=n->St i s->SG b s.heap S (acc val i) [] ->
   (∀s',Moved (S::wr) G s s'->SG b s'.heap S (acc val n) []->R (.ok (.ret .none)) s') ->
   codeAny (model prog w) A (.builtin "set.update.loop" ⟨[.ref S,.ref I],[]⟩) R s:=by
 have hSw:S∉wr:=λh=>hSf (W.sub _ h);have hsub:∀b∈wr,b∈S::wr:=λb hb=>bQ _ hb;intro k;induction k with
 | zero=>
  intro i s hk hi hst hS hR;have hin:i=n:=by omega
  subst hin;refine Iu F.entry_set_update_loop ?_;rw[HY I0 _];show wpAny _ A.in1 (pyNext (.ref I) >>= _) _ _ s;refine aM (W.done s _ _ hst λs' hm=>?_);show wpAny _ A.in1 (ret Value.none) _ _ s';exact aV (hR s' (hm.mono hsub) (hS.at λo e=>hm.heap S _ hSw e))
 | succ k ih=>
  intro i s hk hi hst hS hR;have hlt:i<n:=by omega
  refine Iu F.entry_set_update_loop ?_;rw[HY I0 _];show wpAny _ A.in1 (pyNext (.ref I) >>= _) _ _ s;refine aM (W.item i s _ _ hlt hst λv s' hP hst' hm=>?_);obtain⟨hv6,t,rfl⟩:=hval i v hP;have hS':SG b s'.heap S (acc val i) []:=hS.at λo e=>hm.heap S _ hSw e;show wpAny _ A.in1 (holding [Value.int (Int.ofNat (val i)) t] (setAdd S (.int (Int.ofNat (val i)) t)) >>= _) _ _ s';refine aM (Ho ?_);unfold setAdd;refine Ho ?_;refine aM ((intKind prog w).pyHash (k:=Int.ofNat (val i)) (JM _ _ _ _) ?_);refine vE (s:={ s' with toks:=s'.toks+1 }) hS' hv6 (λz=>by cases z) λh' r hsb hS2=>?_;have hSi:SG b h' S (acc val (i+1)) []:=by rw[DI]; exact hS2
  refine aV ⟨plainId_quiet I0 _,ih (i+1) _ (by omega) hlt (W.frame _ s' _ _ hst' (HB _) λb hb o e=>?_) hSi λs'' hm'' hS''=>?_⟩
  .rw[hsb.2 b (λh:b=S=>hSf (by rw[<-h]; exact hb))]; exact e
  .refine hR s'' (Moved.trans W.gtrans ((hm.mono hsub).then_heap (HB _) λb o hb e=>?_) hm'') hS'';rw[hsb.2 b (λh:b=S=>hb (by rw[h]; exact bZ))]; exact e
end
section
variable {prog:Program}{w:World}{A:Around}{E:Value->Shared->Prop}{s:Shared}
def EA (a:Value){Q₁:Value->Shared->Prop}
  (h:Q₁ (.ref s.heap.objs.size) { s with heap:=s.heap.push { cls:=.type "set",dict:=none,data:=.set #[] 0 (.fresh 0 0 (!w.params.followText "set-order")) } }) :
  codeAny (model prog w) A (.call (.builtin "set.__new__") ⟨[.type "set",a],[]⟩) (wants Q₁ E) s:=by
 refine codeAny_of_tree ?_;show wpAny _ A.in1 (do checkBuiltinCall "set.__new__" ⟨[.type "set",a],[]⟩; again (.builtin "set.__new__" ⟨[.type "set",a],[]⟩)) _ _ s;refine aM (IY (F.newCall_set_1 a) (aV ⟨plainId_quiet F.plain_set_new _,Iu F.entry_set_new ?_⟩));rw[HY F.plain_set_new _];unfold Builtin.«set.__new__» Builtin.Frozenset.newClass;have hsub:=sub_set_self;obtain⟨hp,g,d,tk,os⟩:=s;dsimp only;wp_walk
 refine Jr (aV ?_);dsimp only;simp only[newObj];refine aM (wpAny_alloc (aV ?_));exact aV h
def sS (b:Bool){h:Heap}{a:Addr}(e:h.get? a=some { cls:=.type "set",dict:=none,data:=.set #[] 0 (.fresh 0 0 b) }):SG b h a [] []:=
 ⟨#[],0,_,e,rfl,λe he=>by simp at he,⟨by decide +kernel,rfl,⟨[],by decide +kernel,rfl,λx hx=>by cases hx⟩,.inl ⟨rfl,by simp[SetTable.fill,SetTable.fresh]⟩,rfl,rfl⟩⟩
set_option maxHeartbeats 3200000 in
def set_list {l:Addr}{items:aC}{ns:ak}{Q:Value->Shared->Prop}
  (hh:A.handled=none)(hl:s.heap.IsList l items)(hi:IntsAre items.toList (ns.map Int.ofNat))(h6:∀x∈ns,x<6)
  (h:∀(h':Heap) (tk:Nat),SG (!w.params.followText "set-order") h' s.heap.objs.size (ns.foldl stp []) [] ->
   (∀b o,b<s.heap.objs.size->s.heap.get? b=some o->h'.get? b=some o)->Q (.ref s.heap.objs.size) { s with heap:=h',toks:=tk }) :
  wpAny (model prog w) A (call (.type "set") [.ref l]) Q E s:=by
 have hlen:items.size=ns.length:=by have:=IntsAre.length hi; simpa using this
 have hacc:acc (λi=>ns.getD i 0) items.size=ns.foldl stp []:=by
  unfold acc;have:(List.range items.size).map (λi=>ns.getD i 0)=ns:=by
   rw[hlen];apply HG;intro j;by_cases hj:j<ns.length
   .simp[hj]
   .simp[Nat.le_of_not_lt hj]
  rw[this]
 obtain⟨c,tl,hmro⟩:=Ik.mro;have hmade:=Ik.made;have hsub:=Ik.sub;refine JH (codeAny_of_tree ?_);show wpAny _ _ (callAny (.type "set") _) _ _ _;refine aV ⟨JK _ (by decide +kernel),Iu F.entry_type_call ?_⟩;rw[Around.under_plain (weight_type_call_type "set" [.ref l] []) rfl];have h1:=Ik.notType;have h2:=Ik.canCreate;have hct:=F.typeCall_set_1 (.ref l);repeat (any_goals (first | assumption | wp_step))
 refine IF (EA (.ref l) (E:=E) (Q₁:=λobj s₁=>obj=.ref s.heap.objs.size/\s₁={ s with heap:=s.heap.push { cls:=.type "set",dict:=none,data:=.set #[] 0 (.fresh 0 0 (!w.params.followText "set-order")) } }) ⟨rfl,rfl⟩) λr s₁ hr=>?_;cases r with
 | error e=>exact hr
 | ok fl=>
  cases fl with
  | ret obj=>
   obtain⟨rfl,rfl⟩:=hr;generalize hled:(!w.params.followText "set-order")=led at *;have hS:(s.heap.push { cls:=.type "set",dict:=none,data:=.set #[] 0 (.fresh 0 0 led) }).get? s.heap.objs.size=some { cls:=.type "set",dict:=none,data:=.set #[] 0 (.fresh 0 0 led) }:=dm _ rfl;have hT:Shared.TypeIs { s with heap:=s.heap.push { cls:=.type "set",dict:=none,data:=.set #[] 0 (.fresh 0 0 led) } } (.ref s.heap.objs.size) "set":=⟨_,hS,rfl⟩
   have hli:=Ik.init.lookup;have hbi:=Ik.init.bind (.ref s.heap.objs.size);repeat (any_goals (first | assumption | wp_step))
   refine IF (HW (R:=wants (λr s₂=>r=.none/\∃h' tk,s₂={ s with heap:=h',toks:=tk }/\SG led h' s.heap.objs.size (ns.foldl stp []) [] /\
     (∀b o,b<s.heap.objs.size->s.heap.get? b=some o->h'.get? b=some o)) E) Ik.init.plain F.entry_set_init (check_set_init_1 hT ?_)) λr₂ s₂ hr₂=>?_
   .obtain⟨ol,hol,hcl,nl,hdl⟩:=hl;obtain⟨ocls,odict,odata,oslots⟩:=ol;simp only at hcl hdl;subst hcl; subst hdl;have hol':(s.heap.push { cls:=.type "set",dict:=none,data:=.set #[] 0 (.fresh 0 0 led) }).get? l=some { cls:=.type "list",dict:=odict,data:=.seq items nl,slots:=oslots }:=bH _ hol;have hsls:=F.sub_list_set;have hslf:=F.sub_list_frozenset;have hne:(Value.type "list" == Value.type "dict")=false:=by decide
    have hl1:(s.heap.push { cls:=.type "set",dict:=none,data:=.set #[] 0 (.fresh 0 0 led) }).IsList l items:=⟨_,hol',rfl,nl,rfl⟩
    unfold Builtin.«set.__init__» noKeywords Builtin.Frozenset.updateFrom;generalize hPI:pyIter=PI;wp_walk
    subst hPI;refine Jb hl1 ?_;refine aM (wpAny_runValue ?_);have hlS:l<s.heap.objs.size:=bO hol;have hh3:A.in1.in1.in1.handled=none:=by simp[hh]
    have hneI:l≠(s.heap.push { cls:=.type "set",dict:=none,data:=.set #[] 0 (.fresh 0 0 led) }).objs.size:=by
     rw[GI]; exact di (HF hlS)
    have hSf:s.heap.objs.size∉[(s.heap.push { cls:=.type "set",dict:=none,data:=.set #[] 0 (.fresh 0 0 led) }).objs.size,l]:=by
     rw[GI]; simp only[GL,Gx,G0,or_false,not_or];exact⟨di (Ia _),Hq hlS⟩
    have hval:∀(i:Nat) (v:Value),items[i]? = some v->(λi=>ns.getD i 0) i<6/\∃t,v=.int (Int.ofNat ((λi=>ns.getD i 0) i)) t:=λi v hv=>by
     have hil:i<ns.length:=by
      have:=(Hm.mp hv).1;omega
     obtain⟨t,et⟩:=IntsAre.int_at hi i v (by rw[Jo]; exact hv);refine⟨?_,t,?_⟩
     .simp only[IC,GM hil,Option.getD_some];exact h6 _ (GV hil)
     .rw[et];simp[hil]
    refine CM led ((Walks.list hh3 _ l hneI items).toS) s.heap.objs.size
     hSf (λi=>ns.getD i 0) hval (items.size - 0) 0 _ (by omega) (Hr _)
     ⟨⟨_,dm _ rfl,rfl,rfl⟩,(hl1.push _)⟩ ?hS0 ?hR
    case hS0=>exact sS led (bH _ hS)
    case hR=>
     intro s' hm hS';rw[hacc] at hS';obtain⟨h',g',d',tk',os'⟩:=s';have eg:g'=s.gens:=hm.gens;have ed:d'=s.drawn:=hm.drawn;have eo:os'=s.os:=hm.os;subst eg; subst ed; subst eo;show wpAny _ _ _ _ _ _;refine aV ?_;show wpAny _ _ (ret Value.none) _ _ _;refine aV ⟨rfl,h',tk',rfl,hS',λb o hb e=>?_⟩;have hb1:b≠s.heap.objs.size:=di hb;have hb2:b≠(s.heap.push { cls:=.type "set",dict:=none,data:=.set #[] 0 (.fresh 0 0 led) }).objs.size:=by
      rw[GI]; exact di (HF hb)
     exact hm.heap b o (by simp only[GL,Gx,G0,or_false,not_or]; exact⟨hb1,hb2⟩) (bH _ (bH _ e))
   .cases r₂ with
    | error e=>exact hr₂
    | ok fl₂=>
     cases fl₂ with
     | ret r=>
      obtain⟨rfl,h',tk,rfl,hS',hk'⟩:=hr₂;repeat (any_goals (first | assumption | wp_step))
      exact h _ _ hS' hk'
     | _=>exact hr₂.elim
  | _=>exact hr.elim
end
end St
end
section
namespace L2
open PySem PySem.Spec PyProof.Rows
section
variable {X:Cx}
noncomputable def cW (ns:ak):aw:=ns.map λn=>.int (Int.ofNat n)
def ym (K:bo)(te:TE):TE:=λσ H Q=>te σ H λx H1=>∃a ns,x=.ref a/\SqL K H1 a (cW ns)/\(∀n∈ns,n<6)/\∀p,H1 p=none->Q (.ref p) (upd H1 p (.lst (cW (ns.foldl St.stp []))))
theorem pU:∀{ns:ak} {its:ar},Vals (cW ns) its->IntsAre its (ns.map Int.ofNat)
 | [],_,h=>by cases h; exact .nil
 | n::ns,_,h=>by
  cases h with
  | cons h1 h2=>
   obtain⟨t,rfl⟩:=(show ∃t,_=Value.int (Int.ofNat n) t from h1)
   exact .cons _ _ (pU h2)
theorem pZ:∀{ns:ak} {its:ar},IntsAre its (ns.map Int.ofNat)->Vals (cW ns) its
 | [],_,h=>by cases h; exact .nil
 | n::ns,_,h=>by
  cases h with
  | cons _ t h=>exact .cons ⟨t,rfl⟩ (pZ h)
def De {e:Expr}{te:TE}{p1 p2 p3 p4:Pos}(hc:X.calm=true)(he:PE X e te)(g1:Gl X "sorted")(m1:X.mg "sorted" = none)(b1:bootBuiltins "sorted" = some (.builtin "sorted"))(g2:Gl X "set")(m2:X.mg "set" = none)(b2:bootBuiltins "set" = some (.type "set"))
  (hs1:starEach [.Call (.Name "set" p2) [e] [] p3] X.env=[(false,eval (.Call (.Name "set" p2) [e] [] p3) X.env)])(hs2:starEach [e] X.env=[(false,eval e X.env)]) :
  PE X (.Call (.Name "sorted" p1) [.Call (.Name "set" p2) [e] [] p3] [] p4) (ym X.K te):=by
 intro pins s σ H Q I h;have hh:=I.ok.hd hc;refine GY (ig I g1 m1 b1 ?_);refine Hz ?_ hs1 rfl;rw[hs1];show wpAny _ _ (spliced ((false,eval (.Call (.Name "set" p2) [e] [] p3) X.env)::[])) _ _ s;refine Ih ?_;refine GY (ig I g2 m2 b2 ?_);refine G4 ?_ hs2 rfl;rw[hs2];show wpAny _ _ (spliced ((false,eval e X.env)::[])) _ _ s;refine Ih (bj (he pins s σ H _ I h) λu s1 hZz=>?_);obtain⟨x,H1,I1,r1,a,ns,ex,hx,h6,q⟩:=hZz;subst ex;cases r1;refine Ix ?_;obtain⟨its,rv,pl,hz⟩:=I1.list hx;refine St.set_list hh pl.isList (by simpa using pU rv) h6 λh' tk hS hk=>?_;refine Ix ?_;refine St.sorted_set hh hS λh'' tk' L vs n hk' hlt hget hints=>?_;refine⟨.ref L,upd H1 L (.lst (cW (ns.foldl St.stp []))),I1.laid (t':=tk') (λb o qb=>hk' b o (hk b o (bO qb) qb)) (HL hlt) ⟨?_,vs,n,pZ hints,hget⟩,rfl,q L (I1.hok.fresh (HL hlt))⟩;have:=hS;obtain⟨es,ep,t,_,h1,_,ht⟩:=this;rw[cW,GA];exact St.small_line (St.mem_b4 ht.mem).1
end
section
variable {X:Cx}
def yL:OpR X (binaryOp .Add) (λx y H Q=>∃a b ys,x=.ref a/\y=.ref b/\SqT X.K H a []/\SqT X.K H b ys/\Q (.ref b) H):=by
 intro pins s σ H x y v u Q I rx ry h;obtain⟨a,b,ys,rfl,rfl,ha,hb,q⟩:=h;cases rx;cases ry;obtain⟨its,r1,⟨⟨cls,dd,data,sl⟩,ho,hc,n,hd⟩,_⟩:=I.tuple ha;obtain⟨its2,r2,⟨⟨cls2,dd2,data2,sl2⟩,ho2,hc2,n2,hd2⟩,_⟩:=I.tuple hb;simp only at hc hd hc2 hd2;subst hc hd hc2 hd2;cases r1;exact concat_meets ⟨_,ho,rfl⟩ ⟨_,ho2,rfl⟩ noFill_tuple_add seq_tuple_add Jc IX (IQ _ _)
  (tuple_addW0 a b #[] its2.toArray n n2 dd dd2 sl sl2 rfl) ⟨ho,ho2,⟨.ref b,H,I,rfl,q⟩⟩
def By (l:Addr)(items:aC)(n:Nat)(b:Addr)(items2:aC)(n2:Nat)(dd2:aF)(sl2:Array aB)(hs0:¬(!items.isEmpty&&Builtin.List.listTooLong (items.size+items2.size))=true)(hs1:items.size<=sizeLine)(hs2:items.size+items2.size<=sizeLine+1) :
  Meets (Builtin.«list.extend» ⟨[.ref l,.ref b],[]⟩) (λ_ R s=>s.heap.get? l=some { cls:=.type "list",dict:=none,data:=.seq items n,slots:=#[] }/\s.heap.get? b=some { cls:=.type "tuple",dict:=dd2,data:=.seq items2 n2,slots:=sl2 }/\R (.ok (.ret Value.none)) { s with heap:=s.heap.update l (Obj.mapSeq λx=>x++items2),toks:=s.toks }):=
 .of_wp λprog w A R s h=>by
  obtain⟨hp,g,d,tk,os⟩:=s; obtain⟨hl,hb,h⟩:=h; have f1:=AutoSeq1.idx_int; have f2:=AutoSeq1.sub_tuple_tuple; have f3:=AutoSeq1.sub_list_list; have f4:=AutoSeq1.sub_tuple_list; have f5:=AutoSeq1.sub_list_tuple;have hz':(items++items2).size<=sizeLine+1:=by rw[Array.size_append]; exact hs2
  wp_walk using (wpAny_updateSeq hl rfl (hz:=hs1) (_hz':=hz')),wpAny_loadPart' hl,wpAny_loadPart' hb; exact⟨_,rfl,h⟩
def jN (K:bo):V->aw->Hp->VK->Prop:=λx vs H Q=>∃l b xs zs,x=.ref l/\vs=[.ref b]/\H l=some (.lst xs)/\SqT K H b zs/\xs.length+zs.length<=sizeLine/\Q .non (upd H l (.lst (xs++zs)))
def C4:oY X "list.extend" (jN X.K):=by
 intro pins s σ H x vs v us Q I rx rv h;obtain⟨l,b,xs,zs,rfl,rfl,hH,hB,hz,q⟩:=h;cases rx;obtain⟨u,rfl,ru⟩:=rv.one;cases ru;obtain⟨z,its,n,r,hl,e⟩:=I.lstM hH;obtain⟨its2,r2,⟨⟨cls2,dd2,data2,sl2⟩,ho2,hc2,n2,hd2⟩,_⟩:=I.tuple hB;simp only at hc2 hd2;subst hc2 hd2;have hl2:=r2.length;have hsz:its.toArray.size+its2.toArray.size<=sizeLine:=by rw[Gy,Gy]; omega
 have hlong:¬(!its.toArray.isEmpty&&Builtin.List.listTooLong (its.toArray.size+its2.toArray.size))=true:=by
  rw[yE hsz,Bool.and_false];exact GX
 refine JW F.slot_list_extend ⟨_,e,rfl⟩ F.entry_list_extend (F.args_list_extend_2 _ _)
  (By l its.toArray n b its2.toArray n2 dd2 sl2 hlong (by rw[Gy]; omega) (by omega)) ⟨e,ho2,?_⟩
 refine⟨.non,_,I.lset (its':=its++its2) hH e (by simp) (r.append r2) ?_,rfl,q⟩;rw[GJ];omega
def zh {prog:Program}{w:World}{A:Around}{E:Value->Shared->Prop}{s:Shared}{l:Addr}{items:aC}{n:Nat}{k:Int}{t:Tok}{v:Value}{Q:Unit->Shared->Prop}(ho:s.heap.get? l=some { cls:=.type "list",data:=.seq items n })
  (h0:0<=k)(hfit:k<2 ^ 63)(hn:k<items.size)(hQ:Q () { s with heap:=s.heap.update l (Obj.mapSeq (·.setIfInBounds k.toNat v)) }):wpAny (model prog w) A (setItem (.ref l) (.int k t) v) Q E s:=by
 have hl:s.heap.IsList l items:=PySem.IsL.isList ho;unfold setItem;try with_reducible refine Ho ?_
 first | refine aM (aV ?_) | skip
 refine aM (wpAny_sequenceKey hl.typeIs (by decide) ?_);refine aM (wpAny_callSpecial?_slot (name:=Str.ofString "__setitem__") hl.typeIs slot_list_setitem
  (G9 slot_list_setitem hl.typeIs entry_list_setitem ?_ (args_list_setitem _ _ _)))
 show wpAny _ _ (Builtin.List.listSubscript? (.int k t) >>= _) _ _ s;refine aM (wpAny_listSubscript_int (fitsIndex_of h0 hfit) ?_);clear hfit;obtain⟨j,rfl⟩:=Int.eq_ofNat_of_zero_le h0;have hj:j<items.size:=by omega
 have hx':items[j]? = some items[j]:=IM hj;show wpAny _ _ ((seqItemAt l j >>= λr=>pure (r.map (j,·))) >>= _) _ _ s;refine aM (aM (wpAny_seqItemAt ho rfl (aV ?_)));rw[hx'];show wpAny _ _ (setSeqItemAt l j v >>= _) _ _ s;refine aM (wpAny_setSeqItemAt ho rfl ?_);first
  | exact aM (aV (aV ⟨.none,rfl,aV hQ⟩))
  | exact aV ⟨.none,rfl,aV hQ⟩
def kQ (to ti tv:TE):TS:=λD σ H=>tv σ H λy H1=>to σ H1 λx H2=>ti σ H2 λk H3=>∃l xs i,x=.ref l/\k=.int i/\H3 l=some (.lst xs)/\0<=i/\i<xs.length/\D.nx σ (upd H3 l (.lst (xs.set i.toNat y)))
def CP {o i value:Expr}{to ti tv:TE}{pos' pos:Pos}(ho:PE X o to)(hi:PE X i ti)(hv:PE X value tv)(hs:swapsWith value (some (.Subscript o i pos')) pos.line X.env=pure false):PS X (.Assign [.Subscript o i pos'] value pos) (kQ to ti tv):=by
 intro pins s σ H D I h;refine wpAny_Assign_Subscript (bj (hv pins s σ H _ I h) λu s1 ⟨y,H1,I1,ry,q⟩=>bj (ho pins s1 σ H1 _ I1 q) λov s2 ⟨x,H2,I2,rx,q2⟩=>bj (hi pins s2 σ H2 _ I2 q2) λiv s3 hZz=>?_) hs;obtain⟨k,H3,I3,rk,l,xs,j,ex,ek,hH,j0,j1,qn⟩:=hZz;subst ex ek;cases rx;obtain⟨t,rfl⟩:=(show ∃t,iv=Value.int j t from rk)
 obtain⟨z,its,n,r,hl,e⟩:=I3.lstM hH;have hz:(xs.length:Int)<=16777216:=by
  have:=z;rw[sizeLine_eq] at this;omega
 refine zh e j0 (by omega) (by rw[Gy]; omega) ?_;exact⟨σ,_,I3.lset (its':=its.set j.toNat u) (t':=s3.toks) hH e (by simp) (Vals.set ry j.toNat r) (by rw[GO]; exact z),qn⟩
end
section
variable {X:Cx}
def DK {prog:Program}{w:World}{A:Around}{E:Value->Shared->Prop}{s:Shared}{t sl:Addr}{items:aC}{vl vu:Value}{lo hi:Option Int}{Q:Value->Shared->Prop}(ht:IsTup s.heap t items)(hs:s.heap.IsSliceOf sl vl vu .none)(pl:IsPart vl lo)(pu:IsPart vu hi)
  (hw:HT.sIx items.size 0 lo=0/\HT.sIx items.size items.size hi=items.size)(h:Q (.ref t) s):wpAny (model prog w) A (getItem (.ref t) (.ref sl)) Q E s:=by
 obtain⟨os,hos,hcs,hds⟩:=id hs;have hTs:s.TypeIs (.ref sl) "slice":=⟨os,hos,hcs⟩
 unfold getItem;try with_reducible refine Ho ?_
 first | refine aM (aV ?_) | skip
 refine aM (wpAny_sequenceKey ht.typeIs (by decide) ?_);refine aM (wpAny_callSpecial?_slot (name:=Str.ofString "__getitem__") ht.typeIs G5
  (G9 G5 ht.typeIs entry_tuple_getitem ?_ (args_tuple_getitem _ _)))
 show wpAny _ _ (Builtin.Tuple.tupleItemsOf (.ref t) >>= _) _ _ s;refine aM (tupleItemsOf_ ht ?_);refine aM (JF hTs ?_);rw[if_pos (by decide)];refine aM (HT.sliceApplied_gen hs pl pu ?_);have hyes:(((HT.sIx items.size 0 lo:Nat):Int) == 0&&(1:Int) == 1&&(HT.sIx items.size items.size hi - HT.sIx items.size 0 lo) == items.size)=true:=by
  rw[hw.1,hw.2]; simp
 show wpAny _ _ (if (((HT.sIx items.size 0 lo:Nat):Int) == 0&&(1:Int) == 1&&(HT.sIx items.size items.size hi - HT.sIx items.size 0 lo) == items.size)=true then _ else _) _ _ s;rw[if_pos hyes];unfold Builtin.Tuple.tupleIsExact;refine aM (aM (JF ht.typeIs (aV ?_)));rw[if_pos (by decide)];refine aM (JN (aM (aV (aV ⟨_,rfl,aV h⟩))))
def nv (K:bo):V->Option Int->Option Int->Hp->VK->Prop:=λx lo hi H Q=>∃a xs,x=.ref a/\SqT K H a xs /\
 (HT.sIx xs.length 0 lo=0/\HT.sIx xs.length xs.length hi=xs.length->Q (.ref a) H) /\
 (¬(HT.sIx xs.length 0 lo=0/\HT.sIx xs.length xs.length hi=xs.length)->∀p,H p=none->Q (.ref p) (upd H p (.tup (dZ xs lo hi))))
def ES:mF X (nv X.K):=by
 intro pins s σ H x v vl vu lo hi sl Q I rx hs pl pu h;obtain⟨a,xs,rfl,hx,q1,q2⟩:=h;by_cases hw:HT.sIx xs.length 0 lo=0/\HT.sIx xs.length xs.length hi=xs.length
 .cases rx;obtain⟨its,r,ht,hz⟩:=I.tuple hx;have hlen:its.toArray.size=xs.length:=by rw[Gy]; exact r.length.symm
  refine⟨"tuple",_,G5.lookup,ht.typeIs,?_⟩;exact DK ht hs pl pu (by rw[hlen]; exact hw) ⟨.ref a,H,I,rfl,q1 hw⟩
 .exact yZ pins s σ H _ v vl vu lo hi sl Q I rx hs pl pu ⟨a,xs,rfl,hx,hw,q2 hw⟩
end
section
variable {prog:Program}{w:World}{A:Around}{E:Value->Shared->Prop}{s:Shared}{it t:Addr}{i:Nat}{items:aC}
def vk {Q:Value->Shared->Prop}(hit:s.heap.IsTupleIter it t i)
  (h:wpAny (model prog w) A.in1 (Builtin.«tuple_iterator.__next__» ⟨[.ref it],[]⟩) (λfin s'=>∃v,fin=.done (.ret v)/\Q v s') E s):wpAny (model prog w) A (Builtin.SmallTypes.nextOf (.ref it)) Q E s:=by
 unfold Builtin.SmallTypes.nextOf;refine aM (wpAny_callSpecial?_slot (name:=Str.ofString "__next__") hit.typeIs Jj (G9 Jj hit.typeIs PySem.F.entry_tuple_iterator_next ?_ (PySem.F.args_tuple_iterator_next_1 _)));refine Ha h (λfin s' ⟨v,e,q⟩=>⟨v,e,aV q⟩) λ_ _ e=>e
def Ep {x:Value}{Q:Value->Shared->Prop}(hit:s.heap.IsTupleIter it t i)(ht:s.heap.IsTuple t items)(hx:items[i]? = some x)(hQ:∀h',h'.IsTupleIter it t (i+1)->Heap.SameBut it s.heap h'->Q x { s with heap:=h' }):wpAny (model prog w) A (Builtin.SmallTypes.nextOf (.ref it)) Q E s:=by
 refine vk hit ?_;obtain⟨o,ho,hc,hd⟩:=id hit;obtain⟨ol,hol,_,nl,hdl⟩:=ht;show wpAny _ _ (field (.ref it) 0 >>= _) _ _ s;refine aM (GZ ho hd (x:=.ref t) rfl ?_);show wpAny _ _ (if (Value.ref t == Value.none)=true then _ else _) _ _ s;rw[if_neg (show ¬((Value.ref t == Value.none)=true) from GX)];show wpAny _ _ (field (.ref it) 1 >>= _) _ _ s;refine aM (GZ ho hd (x:=.int i 0) rfl ?_);show wpAny _ _ (seqItems? (.ref t) >>= _) _ _ s;refine aM (HR hol hdl ?_);simp only[Int.toNat_natCast,hx];refine aM (JI ho hd (by simp) (aV ⟨x,rfl,hQ _ ?_ (G6 ..)⟩));exact⟨_,Ht _ ho (Jm (JJ hd _)),(Obj.cls_mapFields ..).trans hc,by rw[JJ hd]; simp[rawInt]⟩
def za {Q:Value->Shared->Prop}(hh:A.handled=none)(hit:s.heap.IsTupleIter it t i)(ht:s.heap.IsTuple t items)(hx:items[i]? = none)
  (hE:∀h' e,Heap.ExtBut it s.heap h'->(∃o,h'.get? e=some o/\o.cls=.type "StopIteration")->E (.ref e) { s with heap:=h' }):wpAny (model prog w) A (Builtin.SmallTypes.nextOf (.ref it)) Q E s:=by
 refine vk hit ?_;obtain⟨o,ho,hc,hd⟩:=id hit;obtain⟨ol,hol,_,nl,hdl⟩:=ht;show wpAny _ _ (field (.ref it) 0 >>= _) _ _ s;refine aM (GZ ho hd (x:=.ref t) rfl ?_);show wpAny _ _ (if (Value.ref t == Value.none)=true then _ else _) _ _ s;rw[if_neg (show ¬((Value.ref t == Value.none)=true) from GX)];show wpAny _ _ (field (.ref it) 1 >>= _) _ _ s;refine aM (GZ ho hd (x:=.int i 0) rfl ?_);show wpAny _ _ (seqItems? (.ref t) >>= _) _ _ s;refine aM (HR hol hdl ?_);simp only[Int.toNat_natCast,hx];refine aM (JN (aM (JI ho hd (by simp) ?_)));show wpAny _ _ (newExc (.type "StopIteration") [] >>= _) _ _ _;refine aM ?_;simp only[newExc,newTuple];refine aM (GW ?_ (by size_fits));refine aM (m:=firstArgMember _ _) (IY (a:=Value.none) (by first | rfl | (simp only[firstArgMember]; rfl)) ?_);refine GW ?_ (by size_fits);simp only[raiseNew];refine aM (wpAny_handled ?_);rw[show A.in1.handled=none from hh];exact aM (aV (wpAny_throw (hE _ _ (((G6 ..).extBut.push _).push _) ⟨_,dm _ rfl,rfl⟩)))
end
section
variable {X:Cx}{es:av}{k1:Nat}{tp:Pos}
end
section
variable {X:Cx}
def gI:V->aw->Hp->VK->Prop:=λx vs H Q=>∃l xs i y,x=.ref l/\vs=[.int i,y]/\H l=some (.lst xs)/\0<=i/\i.toNat<=xs.length/\xs.length<sizeLine/\Q .non (upd H l (.lst (xs.take i.toNat++y::xs.drop i.toNat)))
def ze:oY X "list.insert" gI:=by
 intro pins s σ H x vs v us Q I rx rv h;obtain⟨l,xs,i,y,rfl,rfl,hH,h0,hk,hz,q⟩:=h;cases rx;cases rv with
 | @cons _ ui _ us ri rn=>
 obtain⟨u,rfl,ru⟩:=Vals.one rn;obtain⟨t,rfl⟩:=ri;obtain⟨z,its,n,r,hl,e⟩:=I.lstM hH;have hsl:sizeLine<2 ^ 62:=by decide
 have hfit:¬(!Builtin.List.listFitsIndex i)=true:=by rw[fitsIndex_both (by omega) (by omega)]; decide
 have hs0:its.toArray.size<=sizeLine:=by rw[Gy]; omega
 refine JW PySem.F.slot_list_insert ⟨_,e,rfl⟩ PySem.F.entry_list_insert (PySem.F.args_list_insert_3 _ _ _) (PySem.AutoSeq1.list_insert_list_int_val_1 l its.toArray n i t u hfit hs0) ⟨e,?_⟩;have hkl:i.toNat<=its.length:=by omega
 refine⟨.non,_,I.lset (its':=its.take i.toNat++u::its.drop i.toNat) hH e ?_ ((r.take i.toNat).append (.cons ru (r.drop i.toNat))) ?_,rfl,q⟩
 .have h0':¬i<0:=by omega
  simp only[h0',if_false,Gy,Nat.min_eq_left hkl];apply IG.mp;simp;exact Il (by simp)
 .simp only[GJ,HN,List.length_cons,Ib];omega
def jP:V->aw->Hp->VK->Prop:=λx vs H Q=>∃a xs y j,x=.ref a/\vs=[y]/\Rd H a (.lst xs)/\flatV y=true/\xs.all flatV=true/\(xs.findIdx? λz=>eqV z y)=some j/\Q (.int (j:Nat)) H
def D5:vL X "list.index" jP:=by
 intro pins s σ H x vs v us Q I rx rv h;obtain⟨a,xs,y,j,rfl,rfl,hx,fy,fs,hf,q⟩:=h;cases rx;cases rv with
 | @cons _ u _ us ry rn=>
 cases rn;obtain⟨hz,its,n,r,ho⟩:=hx.ok I.hok;obtain⟨hj,hp,hq⟩:=Hw.mp hf;have len:=r.length;have at':∀i (h1:i<xs.length) (h2:i<its.toArray.size),pz y its.toArray[i]=eqV xs[i] y:=λi h1 h2=>by
  obtain⟨w,e,rw'⟩:=r.get (i:=i) (x:=xs[i]) (by simp[h1]);have e2:its.toArray[i]=w:=by
   have h2':i<its.length:=by simpa using h2
   rw[GM h2'] at e;simpa using cG e
  rw[e2];exact xg rw' (eB fs _ (GV h1))
 have hj2:j<its.toArray.size:=by rw[Gy]; omega
 have hsm:(j:Int)<2 ^ 63 - 1:=by
  have:sizeLine<2 ^ 62:=by decide
  omega
 refine JW PySem.F.slot_list_index ⟨_,ho,rfl⟩ PySem.F.entry_list_index (PySem.F.args_list_index_2 _ _)
  (PySem.SeqAt.list_indexAt a its.toArray n none #[] u (pz y) j hj2 hsm (by rw[at' j hj hj2]; exact hp) λm hm hl=>?_)
  ⟨ho,λz hz=>vd ry fy r fs z (by simpa using hz),⟨.int (j:Nat),H,I.tok _,⟨_,rfl⟩,q⟩⟩
 have hm':m<xs.length:=by omega
 rw[at' m hm' hm];simpa using hq m hl
noncomputable def f7:V->Bool
 | .int _=>true
 | _=>false
noncomputable def kU (i:Int):Value->Bool
 | .int j _=>j == i
 | _=>false
theorem wT {i:Int}{t:Tok}:∀{xs:aw} {us:ar},Vals xs us->xs.all f7=true->∀u∈us,MeetsSeq.EqGives u (.int i t) (kU i u)
 | _,_,.nil,_=>λu hu=>by cases hu
 | y::xs,u::us,.cons r q,f=>λu' hu=>by
  rw[List.all_cons,tw] at f;rcases cH hu with rfl | hu
  .cases y with
   | int j=>obtain⟨t',rfl⟩:=r; exact MeetsSeq.EqGives.int j i t' t
   | _=>cases f.1
  .exact wT q f.2 u' hu
def gD:V->aw->Hp->VK->Prop:=λx vs H Q=>∃l xs i j,x=.ref l/\vs=[.int i]/\H l=some (.lst xs)/\xs.all f7=true/\(xs.findIdx? λz=>eqV z (.int i))=some j/\Q .non (upd H l (.lst (xs.eraseIdx j)))
def C7:oY X "list.remove" gD:=by
 intro pins s σ H x vs v us Q I rx rv h;obtain⟨l,xs,i,j,rfl,rfl,hH,hi,hf,q⟩:=h;cases rx;obtain⟨u,rfl,ru⟩:=Vals.one rv;obtain⟨t,rfl⟩:=ru;obtain⟨z,its,n,r,hl,e⟩:=I.lstM hH;obtain⟨hj,hp,hq⟩:=Hw.mp hf;have at':∀m (h1:m<xs.length) (h2:m<its.toArray.size),kU i its.toArray[m]=eqV xs[m] (.int i):=λm h1 h2=>by
  obtain⟨w,e,rw'⟩:=r.get (i:=m) (x:=xs[m]) (by simp[h1]);have e2:its.toArray[m]=w:=by
   have h2':m<its.length:=by simpa using h2
   rw[GM h2'] at e;simpa using cG e
  rw[e2];have fi:=eB hi _ (GV h1);cases hx:xs[m] with
  | int y=>rw[hx] at rw'; obtain⟨t',rfl⟩:=rw'; rfl
  | _=>rw[hx] at fi; cases fi
 have hj2:j<its.toArray.size:=by rw[Gy]; omega
 refine JW PySem.F.slot_list_remove ⟨_,e,rfl⟩ PySem.F.entry_list_remove (PySem.F.args_list_remove_2 _ _)
  (MeetsSeq.list_remove l its.toArray n (.int i t) (kU i) (λy hy=>wT r hi y (by simpa using hy)) j hj2 (by rw[at' j hj hj2]; exact hp) (λm hm hl'=>?_) (by rw[Gy]; omega)) ⟨e,?_⟩
 .have hm':m<xs.length:=by rw[Gy] at hm; omega
  rw[at' m hm' hm];simpa using hq m hl'
 .refine⟨.non,_,I.lset (its':=its.eraseIdx j) hH e ?_ (r.eraseIdx j) ?_,rfl,q⟩
  .show its.toArray.eraseIdxIfInBounds j=(its.eraseIdx j).toArray;rw[List.eraseIdxIfInBounds_toArray]
  .have:=wv xs j;omega
end
def tX (a b:Int):Builtin.Range.rangeSize a b (-1)=if b<a then a - b else 0:=by
 unfold Builtin.Range.rangeSize;simp only[show ¬(-1:Int) > 0 by decide,if_false];simp
def yG {a b:Int}(ha : -(2 ^ 62)<=a)(ha':a<2 ^ 62)(hb : -(2 ^ 62)<=b)(hb':b<2 ^ 62):Builtin.Range.small a b (-1)=true:=by
 unfold Builtin.Range.small;rw[tX];simp only[Builtin.Range.rangeFitsLong,tw,G8,GR,GC,show ¬(-1:Int) > 0 by decide,if_false];split <;> omega
noncomputable def nZ (hi:Int)(n:Nat):It:=⟨λi _=>i<n,λi H x H'=>H'=H/\x=.int (hi - i),λi _=>n<=i⟩
def FO {P:Program}{w:World}{K:bo}{tg:Expr}(it:Addr)(lo:Int)(n:Nat):Turn P w K tg (nZ lo n) [it] it (λi h=>IsRangeIter h it (lo+(i:Nat) * (-1)) ((n:Int) - (i:Nat)) (-1)) where
 mem:=by simp
 obj:=λi h st b hb=>by
  have e:b=it:=by simpa using hb
  subst e;exact⟨_,st,λv z=>by
   have z':Data.fields _=Data.cell v:=z;cases z'⟩
 keep:=λi h h' st k=>k it (by simp) _ st
 item:=by
  intro X hP hw hK hc i pins s σ H E I hf st hg;subst hP hw hK;obtain⟨f0,f1,f2,f3,f4,f5⟩:=hf it (by simp);have W:=Walks.range (prog:=X.prog) (w:=X.w) (I.ok.hd hc) it lo (-1) n;refine W.item i s _ _ hg st λv h' tk hv st' kk=>?_;obtain⟨t,rfl⟩:=hv;have I1:Inv X pins σ H { s with heap:=h',toks:=tk }:=I.turned (λb o hb e=>kk b o (by simpa using hb) e) f0 f1 f3 f4 f5;refine⟨_,rfl,pE (s:={ s with heap:=h',toks:=tk }) (n := "range_iterator") st' rfl rfl (by decide) ⟨.int (lo - i),H,I1,⟨t,?_⟩,⟨rfl,rfl⟩,st',λb hb=>(hf b hb).1⟩⟩;have e:lo+(i:Int) * (-1)=lo - i:=by omega
  rw[e]
 done:=by
  intro X hP hw hK hc i pins s σ H E I hf st hg;subst hP hw hK;obtain⟨f0,f1,f2,f3,f4,f5⟩:=hf it (by simp);exact wpAny_pyNext_range_end (I.ok.hd hc) st (by have:n<=i:=hg; omega) λh' eb=>⟨rfl,I.turned (t':=s.toks) (λb o hb e=>eb b o hb e) f0 f1 f3 f4 f5⟩
 self:=λ_ _ _ _ _ st h=>wpAny_pyIter_rangeiter st h
section
variable {X:Cx}{tg:Expr}
def Df {pins:ah}{σ:St}{H:Hp}{s:Shared}{R:It->Hp->Prop}{E:Value->Shared->Prop}{lo hi:Int}{t u v:Tok}{tk:Nat}(I:Inv X pins σ H s)(h1 : -(2 ^ 62)<=lo)(h2:lo<2 ^ 62)(h3 : -(2 ^ 62)<=hi)(h4:hi<2 ^ 62)
  (q:R (nZ lo (lo - hi).toNat) H):wpAny (model X.prog X.w) X.A (pyIter (.ref s.heap.objs.size)) (si X pins σ tg R) E { s with heap:=s.heap.push { cls:=.type "range",data:=.fields #[.int lo t,.int hi u,.int (-1) v] },toks:=tk }:=by
 refine wpAny_pyIter_range (IsRange.new ..) (yG h1 h2 h3 h4) ?_;have I1:Inv X pins σ H { s with heap:=s.heap.push { cls:=.type "range",data:=.fields #[.int lo t,.int hi u,.int (-1) v] },toks:=tk }:=I.kept λb o e=>bH _ e;refine⟨(s.heap.push { cls:=.type "range",data:=.fields #[.int lo t,.int hi u,.int (-1) v] }).objs.size,[(s.heap.push { cls:=.type "range",data:=.fields #[.int lo t,.int hi u,.int (-1) v] }).objs.size],_,_,H,rfl,
  I1.kept (t':=tk) λb o e=>bH _ e,FO _ lo (lo - hi).toNat,?_,λb hb=>?_,q⟩
 .have e1:lo+((0:Nat):Int) * (-1)=lo:=by simp
  have e2:(((lo - hi).toNat:Nat):Int) - ((0:Nat):Int)=Builtin.Range.rangeSize lo hi (-1):=by rw[tX]; split <;> omega
  show IsRangeIter _ _ (lo+((0:Nat):Int) * (-1)) ((((lo - hi).toNat:Nat):Int) - ((0:Nat):Int)) (-1);rw[e1,e2];exact dm _ rfl
 .have e:b=(s.heap.push { cls:=.type "range",data:=.fields #[.int lo t,.int hi u,.int (-1) v] }).objs.size:=by simpa using hb
  subst e;exact I1.fpOk (bI _) (I1.hok.fresh (bI _))
def nN (ta:TA):TI:=λσ H R=>ta σ H λvs H1=>∃i j:Int,vs=[.int i,.int j,.int (-1)]/\(-(2 ^ 62)<=i/\i<2 ^ 62 /\ -(2 ^ 62)<=j/\j<2 ^ 62)/\R (nZ i (i - j).toNat) H1
def zG {a b c:Expr}{ta:TA}{p pos:Pos}(hg:Gl X "range")(hm:X.mg "range" = none)(ha:PA X [a,b,c] ta)(hs:starEach [a,b,c] X.env=[(false,eval a X.env),(false,eval b X.env),(false,eval c X.env)])(hs2:starEach [b,c] X.env=[(false,eval b X.env),(false,eval c X.env)]) :
  PI X tg (.Call (.Name "range" p) [a,b,c] [] pos) (nN ta):=by
 intro pins s σ H R I h;refine Call_ (ig I hg hm boot_range (G4 (bj (ha pos pins s σ H _ I h) λus s1 hZz=>?_) (by rw[hs,hs2]) (by rw[hs2]; rfl)));obtain⟨vs,H1,I1,r1,q1⟩:=hZz;obtain⟨i,j,e,⟨q1,q2,q3,q4⟩,q⟩:=q1;subst e;cases r1 with
 | cons r rr=>
  cases rr with
  | cons r' rr=>
   cases rr with
   | cons r'' rr=>
    cases rr;obtain⟨t,rfl⟩:=r;obtain⟨t',rfl⟩:=r';obtain⟨t'',rfl⟩:=r'';exact call_range_3 (by decide) (Df I1 q1 q2 q3 q4 q) (.inl (PyProof.noPylong_small (by omega)))
end
section
variable {X:Cx}
end
end L2
end
section
namespace L2
open PySem PySem.Spec PySem.W PyProof.Rows
noncomputable def wA {α:Type}(c:Nat->Nat->Bool):KasT α->α
 | .ret a=>a
 | .ask i j k=>wA c (k (c i j))
section
variable {N:Nat}(hN:0<N)
include hN
end
noncomputable def xM {α:Type}(d:α)(c:Nat->Nat->Bool)(vs:List α):List α:=if vs.length<2 then vs else (wA c (kas_sort vs.length)).toList.map λi=>vs.getD i d
section
variable {prog:Program}{w:World}{A:Around}{E:Value->Shared->Prop}{s:Shared}{a:Addr}{vs:ar}{n:Nat}{κ:SortKind}{c:Nat->Nat->Bool}
noncomputable def Br (p q:Int×Int):Bool:=decide (p.1<q.1\/p.1=q.1/\p.2<q.2)
noncomputable def pQ (ps:List (Int×Int))(i j:Nat):Bool:=Br (ps.getD i (0,0)) (ps.getD j (0,0))
end
section
variable {X:Cx}
end
end L2
end
section
namespace L2
open PySem PySem.Spec PyProof.Rows
section
variable {X:Cx}{tg:Expr}
end
end L2
end
section
namespace L2
open PySem PySem.Spec PySem.W PyProof.Rows
section
variable {X:Cx}
def nG (K:bo)(n:Nat)(t:iE):TG:=λv σ H Q=>∃a xs,v=.ref a/\SqL K H a xs/\xs.length=n/\t xs σ H Q
def zi {es:av}{k:Nat}{t:iE}{n:Nat}{pos:Pos}(hc:X.calm=true)(h:lY X es t)(hn:(assignEach es X.env).length=n)(hst:(assignEach es X.env).findIdx? (·.1)=none):PG X (.Tuple es k pos) (nG X.K n t):=by
 intro pins s σ H v u Q I r hw;obtain⟨a,xs,e1,hq,hl,hw⟩:=hw;subst e1;cases r;obtain⟨its,rv,ht,hz⟩:=I.list hq;have ln:=rv.length;show wpAny _ _ (do standAt pos; unpack (.ref a) (assignEach es X.env)) _ _ s;refine aM (Jt (aM (Ho ?_)));rw[hst,hn,<-hl,ln,<-show its.toArray.size=its.length by simp];refine kun_itemsOf (I.ok.hd hc) ht.isList λh' hx=>?_;have I1:Inv X pins σ H { s with heap:=h' }:=I.kept (t':=s.toks) λb o e=>hx b o (di (bO e)) e;exact h pins _ σ H xs _ Q I1 (by simpa using rv) hw
end
end L2
end
section
namespace St
open PySem PyProof.Rows PySem.W
def TG.mono {b:Bool}{l D D':ak}{t:SetTable}(h:TG b l D t)(hD:∀x∈D,x∈D'):TG b l D' t:=
 ⟨h.mem,h.place,h.dum.imp λ_ q=>⟨q.1,q.2.1,λx hx=>hD x (q.2.2 x hx)⟩,h.mask,h.led,h.plain⟩
theorem SG.mono {b:Bool}{h:Heap}{a:Addr}{l D D':ak}(x:SG b h a l D)(hD:∀x∈D,x∈D'):SG b h a l D':=
 let ⟨es,ep,t,ho,h1,h2,ht⟩:=x
 ⟨es,ep,t,ho,h1,h2,ht.mono hD⟩
def CJ {l:ak}{i:Nat}(hp:l.Pairwise (· < ·))(hi:i<l.length):l.take i++l.drop (i+1)=l.filter (· != l[i]):=by
 induction l generalizing i with
 | nil=>cases hi
 | cons x l ih=>
  obtain⟨hx,hl⟩:=List.pairwise_cons.mp hp;cases i with
  | zero=>
   simp only[List.take_zero,List.nil_append,List.drop_succ_cons,List.drop_zero,List.getElem_cons_zero,List.filter_cons,HE,GE,if_false];exact (List.filter_eq_self.mpr λy hy=>by have:=hx y hy; simp; omega).symm
  | succ i=>
   have hi':i<l.length:=Nat.lt_of_succ_lt_succ hi;have:=hx l[i] (GV hi');simp only[List.take_succ_cons,List.cons_append,List.drop_succ_cons,List.getElem_cons_succ];rw[List.filter_cons,if_pos (by simp; omega),ih hl hi']
section
variable {prog:Program}{w:World}{A:Around}{E:Value->Shared->Prop}{s:Shared}
def Gj {a:Addr}{l D:ak}{b:Bool}{k:Nat}{tk:Tok}{Q:Bool->Shared->Prop}(hS:SG b s.heap a l D)(hk:k<6)(hD:k∉D)
  (h1:k∉l->Q false s)(h2:k∈l->∀h',Heap.SameBut a s.heap h'->SG b h' a (l.filter (· != k)) (k::D)->Q true { s with heap:=h' }) :
  wpAny (model prog w) A (setDiscardHashed a (.int (Int.ofNat k) tk) ((intKind prog w).hash (Int.ofNat k))) Q E s:=by
 obtain⟨es,ep,t,ho,e1,e2,ht⟩:=hS;have hel:ElemsOf (intKind prog w) es.toList:=jM ht.mem e1 e2;have hz:=fY e1;have h6:=mem_b4 ht.mem;have hf:t.fits es.size=true:=ht.fits hz;have hb:es.size<scanBound:=by unfold scanBound; omega
 have hkey:(intKind prog w).is (Int.ofNat k) (.int (Int.ofNat k) tk)=true:=JM _ _ _ _;unfold setDiscardHashed setFind setFindIn;refine aM (aM (G2 ho rfl hf ?_));dsimp only;rw[byScan_of (knd:=intKind prog w) rfl hb hel];simp only[↓reduceIte];refine aM (JN ?_);refine aM (wpAny_setScan_of (knd:=intKind prog w) hkey ho rfl hf hel ?_);cases hr:List.findIdx? (λe=>(intKind prog w).is (Int.ofNat k) e.2) es.toList with
 | none=>
  refine aV (aV (h1 λhm=>?_));have:Int.ofNat k∈es.toList.map (·.1):=by rw[e1]; exact GQ hm
  obtain⟨e,he,ee⟩:=fH this;have:=List.findIdx?_eq_none_iff.mp hr e he;obtain⟨tk',et⟩:=e2 e he;rw[et,ee] at this;have z:(intKind prog w).is (Int.ofNat k) (.int (Int.ofNat k) tk')=true:=JM _ _ _ _;rw[z] at this;cases this
 | some j=>
  obtain⟨hj,hpj,_⟩:=Hw.mp hr;have hjl:j<l.length:=by rw[Array.length_toList] at hj; omega
  have hlj:l[j]=k:=by
   obtain⟨tk',et⟩:=e2 _ (GV hj);obtain⟨t2,q⟩:=Value.isInt_shape (show Value.isInt (Int.ofNat k) es.toList[j].2=true from hpj);rw[et] at q;injection q with q _;have:=congrArg (λm:al=>m[j]?) e1;simp only[GK,GM hj,GM hjl,Option.map_some,Hj] at this;exact Int.ofNat.inj (this.symm.trans q)
  have hkl:k∈l:=hlj ▸ GV hjl;refine aV ?_;dsimp only;rw[Nat.zero_add];refine aM (G2 ho rfl hf ?_);dsimp only;have er:=CJ h6.2.2 hjl;rw[hlj] at er;have hea:∀{α:Type} (xs:Array α),(SetTable.eraseAt xs j).toList=xs.toList.take j++xs.toList.drop (j+1):=λxs=>by
   rw[SetTable.eraseAt,Array.toList_append,Array.toList_extract,Array.toList_extract,List.extract_eq_drop_take,List.extract_eq_drop_take,List.drop_zero,Nat.sub_zero,<-Array.length_toList,<-Ib,List.take_length]
  have f1:(SetTable.eraseAt es j).toList.map (·.1)=(l.filter (· != k)).map Int.ofNat:=by
   rw[hea,Ir,IS,Ju,e1,<-IS,<-Ju,<-Ir,er]
  have f2:∀e∈(SetTable.eraseAt es j).toList,∃tk,e.2=.int e.1 tk:=λe he=>by
   rw[hea,GU] at he;exact e2 e (he.elim (λq=>ID q) λq=>Jv q)
  obtain⟨ds,d1,d2,d3⟩:=ht.dum;obtain⟨i1,i2,i3,i4,i5,i6⟩:=ins_of d1 hk λe=>hD (d3 k e);have hlen:(l.filter (· != k)).length+1=l.length:=by
   rw[<-er,GJ,HN,Ib];omega
  have q5:=eB w6 l ht.mem;simp only[b5,tw,List.all_eq_true,G1,GS] at q5;have hdr:t.drop j={ t with place:=(l.filter (· != k)).toArray,dummies:=(ins ds k).toArray }:=by
   unfold SetTable.drop;have:t.place[j]? = some k:=by rw[ht.place]; simp[hjl,hlj]
   rw[this];dsimp only;rw[d2,i2];congr 1
   apply IG.mp;rw[hea,ht.place];exact er
  have TT:TG b (l.filter (· != k)) (k::D) (t.drop j):=by
   rw[hdr];refine⟨q5.2 k hk,rfl,⟨ins ds k,i5,rfl,λx hx=>?_⟩,?_,ht.led,ht.plain⟩
   .simp only[ins,GU,GL,Hn] at hx;rcases hx with hx | hx | hx
    .exact bQ _ (d3 x hx.1)
    .rw[hx]; exact bZ
    .exact bQ _ (d3 x hx.1)
   .refine ht.mask.imp (λq=>⟨q.1,?_⟩) id;have:=q.2;simp only[SetTable.fill,ht.place,d2,Gy,i6] at this ⊢;omega
  refine aM (HX ho rfl ?_ (small_line (by rw[fY f1]; omega)));refine aM (wpAny_point ?_);exact aV (h2 hkl _ (G6 s.heap a _) (SG.store ho f1 f2 TT).2)
end
section
variable {prog:Program}{w:World}{A:Around}{E:Value->Shared->Prop}{s:Shared}
noncomputable abbrev sO (es:Array (Int×Value))(ep:Nat)(t:SetTable):Obj:={ cls:=.type "set",dict:=none,data:=.set es ep t }
def Bh {S o:Addr}{l:ak}{b:Bool}{Q:Unit->Shared->Prop}{each:Sem Unit}(hne:S≠o)(hS:s.heap.get? S=some (sO #[] 0 (.fresh 0 0 b)))(hO:SG b s.heap o l [])
  (hQ:∀h',Heap.SameBut S s.heap h'->SG b h' S l []->Q () { s with heap:=h' }):wpAny (model prog w) A (setMerge S o each) Q E s:=by
 obtain⟨es,ep,t,ho,e1,e2,ht⟩:=hO;have hz:=fY e1;have h6:=mem_b4 ht.mem;have hf:t.fits es.size=true:=ht.fits hz;have q:=eB wD l ht.mem;simp only[qC,tw,G8,GC] at q;obtain⟨ds,d1,d2,d3⟩:=ht.dum;have hds:ds=[]:=List.eq_nil_iff_forall_not_mem.mpr λx hx=>by cases d3 x hx
 subst hds;have hfl:t.fill=l.length:=by simp[SetTable.fill,ht.place,d2]
 unfold setMerge;have hne':(S == o)=false:=by simpa using hne
 rw[hne'];simp only[GE,if_false];refine aM (G2 ho rfl hf ?_);dsimp only;by_cases h0:es.isEmpty=true
 .rw[if_pos h0];have:l=[]:=by
   have:es.size=0:=by simpa using h0
   exact IZ.mp (by omega)
  subst this;exact aV (hQ s.heap (Je S s.heap) (sS b hS))
 rw[if_neg h0];refine aM (Ha (Q:=λ_ s'=>∃h1 ep1 ts,s'={ s with heap:=h1 }/\Heap.SameBut S s.heap h1/\h1.get? S=some (sO #[] ep1 ts)/\ts.place = #[]/\ts.dummies = #[]/\ts.led=b/\ts.plain=true/\(ts.mask=7/\l.length<=4\/ts.mask=15)) ?_ (λ_ s' ⟨h1,ep1,ts,hs',sb,g,p1,p2,p3,p4,p5⟩=>?_) λ_ _ z=>z)
 .unfold setRoomFor;refine aM (G2 hS rfl rfl ?_);dsimp only;by_cases hn:l.length<=4
  .have:(SetTable.fresh 0 0 b).roomFor es.size=none:=by
    unfold SetTable.roomFor;refine if_neg ?_;simp only[SetTable.fill,SetTable.fresh];simp;omega
   rw[this];exact aV ⟨s.heap,0,_,rfl,Je S s.heap,hS,rfl,rfl,rfl,rfl,.inl ⟨rfl,hn⟩⟩
  .have:(SetTable.fresh 0 0 b).roomFor es.size=some (es.size * 2):=by
    unfold SetTable.roomFor;rw[if_pos (by simp only[SetTable.fill,SetTable.fresh]; simp; omega)];simp[SetTable.fresh]
   rw[this];dsimp only;have hsz:SetTable.sizeAbove (es.size * 2)=16:=by
    have:es.size=5\/es.size=6:=by omega
    rcases this with z | z <;> rw[z] <;> decide +kernel
   unfold setRelay;refine aM (G2 hS rfl rfl ?_);dsimp only;rw[hsz,if_neg (by decide +kernel)];have hr:(SetTable.fresh 0 0 b).relaid ((#[]:Array (Int×Value)).map (·.1)) (es.size * 2)=some (⟨15,#[],#[],0,b,1,true⟩,#[]):=by
    unfold SetTable.relaid;rw[hsz];exact qS (l:=[]) (es:=#[]) (by decide +kernel) rfl
   rw[hr];refine aM (IY (a:=((#[]:Array (Int×Value)),(⟨15,#[],#[],0,b,1,true⟩:SetTable))) rfl ?_);refine HX hS rfl ?_ (Hr _);exact⟨_,_,_,rfl,G6 _ S _,Ht (Obj.putSet #[] _) hS rfl,rfl,rfl,rfl,rfl,.inr rfl⟩
 subst hs';have hz6:es.size<=sizeLine:=small_line (by omega);have ts0:ts.fill=0:=by simp[SetTable.fill,p1,p2]
 refine aM (G2 (s:={ s with heap:=h1 }) g rfl (by simp[SetTable.fits,p1,ts0]) ?_);dsimp only;have T1:∀m,(m=7/\l.length<=4\/m=15\/m=31)->TG b l [] ⟨m,l.toArray,#[],ts.finger,ts.led&&t.led,ts.moves,ts.plain&&t.plain⟩:=λm hm=>
  ⟨ht.mem,rfl,⟨[],by decide +kernel,rfl,λx hx=>by cases hx⟩,hm.imp (λz=>⟨z.1,by simpa[SetTable.fill] using z.2⟩) id,by rw[p3,ht.led,Bool.and_self],by rw[p4,ht.plain]; rfl⟩
 by_cases hm:ts.mask=t.mask
 .have hr:ts.road t=.slotForSlot:=by unfold SetTable.road; rw[ts0,d2,hm]; simp
  rw[hr];refine HX (s:={ s with heap:=h1 }) g rfl ?_ hz6;refine hQ _ (sb.trans (G6 _ S _)) (SG.store g e1 e2 ?_).2;have:=T1 t.mask (by rw[<-hm]; exact p5.imp id .inl);rw[<-ht.place,show (#[]:Array Nat)=t.dummies from d2.symm] at this;exact this
 .have hr:ts.road t=.clean:=by unfold SetTable.road; rw[ts0,d2]; simp[hm]
  rw[hr];have hb:b2 ts.mask l=true:=by
   rcases p5 with ⟨z,z2⟩ | z
   .rw[z];refine q.1.1.2.resolve_left λy=>?_;have:=HS y;omega
   .rw[z]; exact q.1.2
  dsimp only;rw[qS hb e1];refine aM (IY (a:=(es,(⟨ts.mask,l.toArray,#[],ts.finger,ts.led&&t.led,ts.moves,ts.plain&&t.plain⟩:SetTable))) ?_ ?_)
  .show (if (((List.range l.length).toArray.filterMap (es[·]?)).size != es.size)=true then _ else pure ((List.range l.length).toArray.filterMap (es[·]?),_))=_;rw[wH hz];simp
  refine HX (s:={ s with heap:=h1 }) g rfl ?_ hz6;exact hQ _ (sb.trans (G6 _ S _)) (SG.store g e1 e2 (T1 _ (p5.imp id .inl))).2
end
noncomputable def iT (m:ak)(k:Nat):ak:=if k∈m then m.filter (· != k) else ins m k
def mem_ins {l:ak}{k x:Nat}:x∈ins l k↔x∈l\/x=k:=by
 simp only[ins,GU,GL,Hn];constructor
 .rintro (h | h | h)
  .exact .inl h.1
  .exact .inr h
  .exact .inl h.1
 .rintro (h | h)
  .rcases Nat.lt_trichotomy x k with q | q | q
   .exact .inl ⟨h,Jp q⟩
   .exact .inr (.inl q)
   .exact .inr (.inr ⟨h,Jp q⟩)
  .exact .inr (.inl h)
def Ef {m:ak}{k x:Nat}:x∈iT m k↔¬(x∈m↔x=k):=by
 unfold iT;split
 .rename_i h;rw[Hn];by_cases e:x=k
  .subst e; simp[h]
  .simp[e]
 .rename_i h;rw[mem_ins];by_cases e:x=k
  .subst e; simp[h]
  .simp[e]
theorem tG {x:Nat}:∀(ks:ak) (m:ak),ks.Nodup->(x∈ks.foldl iT m↔¬(x∈m↔x∈ks))
 | [],m,_=>by simp
 | k::ks,m,h=>by
  obtain⟨h1,h2⟩:=GN.mp h;rw[List.foldl_cons,tG ks _ h2,Ef,GL];by_cases e:x=k
  .subst e;simp[h1]
  .simp[e]
noncomputable def xr (l r:ak):ak:=(List.range 6).filter λk=>l.contains k != r.contains k
def Al {m l r:ak}(hm:m∈subs 6)(h:∀x,x∈m↔¬(x∈l↔x∈r)):m=xr l r:=by
 have q:=eB w6 m hm;simp only[b5,tw,GC] at q;rw[<-q.1];unfold xr;refine JS λx _=>?_;have:=h x;rw[Jz,GS,this,bne_iff_ne,ne_eq,Jz,GS,GS]
section
variable {prog:Program}{w:World}{A:Around}{E:Value->Shared->Prop}{s:Shared}
def DC {a:Addr}{l D:ak}{b:Bool}{k:Nat}{tk:Tok}{hv:Int}{Q:Unit->Shared->Prop}(eh:hv=Int.ofNat k)(hS:SG b s.heap a l D)(hk:k<6)(hD:k∉D)
  (h:∀h',Heap.SameBut a s.heap h'->SG b h' a (iT l k) (k::D)->Q () { s with heap:=h' }) :
  wpAny (model prog w) A (holding [Value.int (Int.ofNat k) tk] (setDiscardHashed a (.int (Int.ofNat k) tk) hv >>= λr=>if (!r)=true then setAddHashed a (.int (Int.ofNat k) tk) hv >>= λ_=>pure () else pure ())) Q E s:=by
 have hh:hv=(intKind prog w).hash (Int.ofNat k):=eh.trans (p9 hk).symm;rw[hh];refine Ho (aM (Gj hS hk hD (λhn=>?_) λhn h' sb g=>?_))
 .refine aM (vE hS hk hD λh' r sb g=>aV (h h' sb ?_));unfold iT;rw[if_neg hn] at g ⊢;exact g.mono λx hx=>bQ _ hx
 .refine aV (h h' sb ?_);unfold iT;rw[if_pos hn];exact g
def walk_of {o S:Addr}{es:Array (Int×Value)}{ep:Nat}{t:SetTable}{l D:ak}{Q:Array (Int×Value)->Shared->Prop}(ho:s.heap.get? o=some (sO es ep t))(hz:es.size=l.length)(ht:TG (!w.params.followText "set-order") l D t)(h:Q (ord w o ep es) s) :
  wpAny (model prog w) A (setWalkUnseen o [S] (some S)) Q E s:=by
 have hf:=ht.fits hz;have hl:=ht.led;unfold setWalkUnseen;refine aM (G2 ho rfl hf ?_);dsimp only;refine aM (lW ?_);have hc:(w.params.followText "set-order" || t.led&&t.plain||decide (es.size<=1))=true:=by
  rw[hl,ht.plain];cases w.params.followText "set-order" <;> rfl
 rw[hc];simp only[if_true];unfold setWalk;refine aM (G2 ho rfl hf ?_);dsimp only;refine aM (lW ?_);unfold ord at h;cases hb:w.params.followText "set-order" with
 | true=>
  rw[hb] at h;simp only[if_true] at h ⊢;refine aM (Jr ?_);exact aV h
 | false=>
  rw[hb] at h hl;simp only[GE,if_false] at h ⊢;refine HK (λhab=>absurd (show (!t.plain&&decide (es.size > 1))=true from hab) (by rw[ht.plain]; simp)) (λ_=>?_);refine aM ?_;refine HK (λhab=>absurd (show (!t.led&&decide (es.size > 1))=true from hab) (by rw[hl]; simp)) (λ_=>?_);exact aV (aV h)
end
def Bs:entryFor table "set.__xor__" = some Builtin.«frozenset.__xor__»:=
 entryFor_alias (id' := "frozenset.__xor__") (by kernel_rfl) rfl (by decide +kernel) (by kernel_rfl)
section
variable {prog:Program}{w:World}{A:Around}{E:Value->Shared->Prop}{s:Shared}
def oN {a:Addr}{Q:Bool->Shared->Prop}(hT:s.TypeIs (.ref a) "set")(h:Q true s):wpAny (model prog w) A (Builtin.Frozenset.isAnySet (.ref a)) Q E s:=by
 unfold Builtin.Frozenset.isAnySet;show wpAny _ _ (isInstance _ _ >>= _) _ _ _;refine aM (II hT sub_set_self ?_);exact aV h
def Gb {id:String}{S o:Addr}{m l:ak}{Q:Unit->Shared->Prop}(hne:S≠o)(hS:SG (!w.params.followText "set-order") s.heap S m [])(hO:SG (!w.params.followText "set-order") s.heap o l [])
  (hQ:∀h' D,Heap.SameBut S s.heap h'->SG (!w.params.followText "set-order") h' S (xr m l) D->Q () { s with heap:=h' }):wpAny (model prog w) A (Builtin.Frozenset.symmetricDifferenceUpdate id S (.ref o)) Q E s:=by
 obtain⟨es,ep,t,ho,e1,e2,ht⟩:=hO;have hz:=fY e1;have h6:=mem_b4 ht.mem;have hf:=ht.fits hz;have hT:s.TypeIs (.ref o) "set":=⟨_,ho,rfl⟩
 unfold Builtin.Frozenset.symmetricDifferenceUpdate;have hb:(Value.ref o == Value.ref S)=false:=by
  rw[Hf];exact λz=>hne (Value.ref.inj z).symm
 rw[hb];simp only[GE,if_false];refine aM (JF hT ?_);rw[show (Value.type "set" == Value.type "dict")=false by decide];simp only[GE,if_false];refine aM (oN hT ?_);simp only[if_true];refine aM (aV ?_);refine aM (m:=Builtin.Frozenset.addrOf _) (aV ?_);refine aM (Jf ho rfl hf ?_);refine Ho ?_;refine aM (walk_of ho hz ht ?_);have perm:(ord w o ep es).toList.Perm es.toList:=oH w o ep es;obtain⟨ks,hk1,hk2⟩:∃ks:List Nat,(ord w o ep es).toList.map (·.1)=ks.map Int.ofNat/\ks.Perm l:=by
  refine⟨((ord w o ep es).toList.map (·.1)).map Int.toNat,?_,?_⟩
  .rw[HZ];refine (List.map_id _).symm.trans (H0 λx hx=>?_);have:x∈l.map Int.ofNat:=by rw[<-e1]; exact (perm.map _).mem_iff.mp hx
   obtain⟨k,_,rfl⟩:=fH this;rfl
  .refine ((perm.map (·.1)).map Int.toNat).trans ?_;rw[e1,HZ,show (Int.toNat ∘ Int.ofNat)=_root_.id from rfl,List.map_id]
 have hnd:ks.Nodup:=hk2.nodup_iff.mpr (h6.2.2.imp λz=>di z);refine aM (wpAny_forIn_array' _ (λ(rest:List (Int×Value)) _ s'=>∃(h':Heap) (m' D js:ak),s'={ s with heap:=h' }/\Heap.SameBut S s.heap h'/\SG (!w.params.followText "set-order") h' S m' D/\rest.map (·.1)=js.map Int.ofNat/\(∀e∈rest,∃tk,e.2=.int e.1 tk)/\(∀k∈js,k<6/\k∉D)/\js.Nodup/\js.foldl iT m'=ks.foldl iT m) _ ?_ ?_ _ _ ?_)
 .rintro⟨hv,x⟩ rest _ s' ⟨h',m',D,js,rfl,sb,g,j1,j2,j3,j4,j5⟩;cases js with
  | nil=>cases j1
  | cons k js=>
   obtain⟨tk,et⟩:=j2 _ bZ;rw[GB,GB] at j1;injection j1 with j0 j1;dsimp only at et j0;subst j0;subst et;obtain⟨n1,n2⟩:=GN.mp j4;obtain⟨a1,a2⟩:=j3 k bZ;dsimp only;refine aM (DC (s:={ s with heap:=h' }) rfl g a1 a2 λh2 sb2 g2=>?_);unfold Builtin.Frozenset.unchanged;have ho2:h2.get? o=some (sO es ep t):=by
    have:=(sb.trans sb2).extBut o _ (HV hne) ho;exact this
   refine aM (aM (Jf (s:={ s with heap:=h2 }) ho2 rfl hf ?_));rw[HE];simp only[GE,if_false];refine aV (aV ⟨h2,_,_,js,rfl,sb.trans sb2,g2,j1,λe he=>j2 e (bQ _ he),λj hj=>⟨(j3 j (bQ _ hj)).1,λz=>?_⟩,n2,j5⟩);rcases cH z with z | z
   .exact n1 (z ▸ hj)
   .exact (j3 j (bQ _ hj)).2 z
 .rintro _ s' ⟨h',m',D,js,rfl,sb,g,j1,j2,j3,j4,j5⟩;have:js=[]:=by
   cases js with
   | nil=>rfl
   | cons=>cases j1
  subst this;have j5':m'=ks.foldl iT m:=j5;have hm':m'∈subs 6:=let ⟨_,_,_,_,_,_,q⟩:=g; q.mem
  have:m'=xr m l:=Al hm' λx=>by rw[j5',tG ks m hnd,hk2.mem_iff]
  rw[this] at g;exact aV (hQ h' D sb g)
 .exact⟨s.heap,m,[],ks,rfl,Je S s.heap,hS,hk1,λe he=>e2 e (perm.mem_iff.mp he),λk hk=>⟨h6.2.1 k (hk2.mem_iff.mp hk),λz=>by cases z⟩,hnd,rfl⟩
def xor_of {a b:Addr}{l r:ak}{Q:Value->Shared->Prop}(ha:SG (!w.params.followText "set-order") s.heap a l [])(hb:SG (!w.params.followText "set-order") s.heap b r [])
  (hQ:∀h' D S,(∀b o,s.heap.get? b=some o->h'.get? b=some o)->S=s.heap.objs.size->SG (!w.params.followText "set-order") h' S (xr r l) D->Q (.ref S) { s with heap:=h' }):wpAny (model prog w) A (binaryOp .BitXor (.ref a) (.ref b)) Q E s:=by
 have hTa:s.TypeIs (.ref a) "set":=let ⟨_,_,_,h,_⟩:=ha; ⟨_,h,rfl⟩
 have hTb:s.TypeIs (.ref b) "set":=let ⟨_,_,_,h,_⟩:=hb; ⟨_,h,rfl⟩
 have hla:a<s.heap.objs.size:=let ⟨_,_,_,h,_⟩:=ha; bO h
 have hlb:b<s.heap.objs.size:=let ⟨_,_,_,h,_⟩:=hb; bO h
 refine wpAny_binaryOp_same hTa hTb F.fills_set_xor F.slot_set_xor (G9 F.slot_set_xor hTa Bs ?_ (F.args_set_xor_2 _ _));show wpAny _ _ (Builtin.Frozenset.slot1 "__xor__" ⟨[.ref a,.ref b],[]⟩ >>= _) _ _ _;refine aM (m:=Builtin.Frozenset.slot1 "__xor__" ⟨[.ref a,.ref b],[]⟩) (IY (a:=(Value.ref a,Value.ref b)) rfl ?_);show wpAny _ _ ((Builtin.Frozenset.isAnySet (.ref a) >>= _) >>= _) _ _ _;refine aM (aM (oN hTa ?_));show wpAny _ _ (Builtin.Frozenset.isAnySet (.ref b)) _ _ _;refine oN hTb ?_;simp only[IR,GE,if_false];refine aM (m:=Builtin.Frozenset.addrOf _) (aV ?_);refine aM ?_;show wpAny _ _ (Builtin.Frozenset.baseOf a >>= _) _ _ _;refine aM (aM (II hTa sub_set_self (aV ?_)));show wpAny _ _ (Builtin.Frozenset.newFrom _ (.type "set") (.ref b) >>= _) _ _ _;refine aM ?_;unfold Builtin.Frozenset.newFrom newSet;refine aM (aM (lW ?_));refine GW ?_;refine aM (m:=Builtin.Frozenset.addrOf _) (aV ?_);generalize hled:(!w.params.followText "set-order")=led at *;have hS:(s.heap.push (sO #[] 0 (.fresh 0 0 led))).get? s.heap.objs.size=some (sO #[] 0 (.fresh 0 0 led)):=dm _ rfl;have ha1:=ha.at λo e=>bH (sO #[] 0 (.fresh 0 0 led)) e;have hb1:=hb.at λo e=>bH (sO #[] 0 (.fresh 0 0 led)) e;have hTb1:Shared.TypeIs { s with heap:=s.heap.push (sO #[] 0 (.fresh 0 0 led)) } (.ref b) "set":=let ⟨_,_,_,h,_⟩:=hb1; ⟨_,h,rfl⟩
 refine aM (Ho ?_);unfold Builtin.Frozenset.updateFrom;refine aM (oN hTb1 ?_);simp only[if_true];refine aM (m:=Builtin.Frozenset.addrOf _) (aV ?_);unfold Builtin.Frozenset.merge;have hb2:=hb1;obtain⟨es,ep,t,hbo,e1,e2,ht⟩:=hb2;refine aM (Jf (s:={ s with heap:=s.heap.push (sO #[] 0 (.fresh 0 0 led)) }) hbo rfl (ht.fits (fY e1)) ?_);refine Bh (Hq hlb) hS hb1 λh1 sb g=>?_;refine aV ?_;refine aM (m:=Builtin.Frozenset.addrOf _) (aV ?_);refine aM (Ho ?_);subst hled;refine Gb (s:={ s with heap:=h1 }) (Hq hla) g (ha1.at λo e=>sb.extBut a o (di hla) e) λh2 D sb2 g2=>?_;refine aV (aV ⟨_,rfl,by simp,hQ h2 D _ (λc o e=>?_) rfl g2⟩);have hc:=di (bO e);exact (sb.trans sb2).extBut c o hc (bH _ e)
end
end St
end
section
namespace L2
open PySem PySem.Spec PyProof.Rows
section
variable {X:Cx}
theorem wW {x:Nat}:∀(ns l:ak),x∈ns.foldl St.stp l↔x∈l\/x∈ns
 | [],l=>by simp
 | n::ns,l=>by
  rw[List.foldl_cons,wW ns,GL];unfold St.stp;split
  .rename_i h;constructor
   .rintro (q | q)
    .exact .inl q
    .exact .inr (.inr q)
   .rintro (q | q | q)
    .exact .inl q
    .exact .inl (q ▸ h)
    .exact .inr q
  .rw[St.mem_ins,or_assoc]
def Ag (ns ms:ak):St.xr (ns.foldl St.stp []) (ms.foldl St.stp [])=St.xr ns ms:=by
 unfold St.xr;refine JS λx _=>?_;have:∀l:ak,(l.foldl St.stp []).contains x=l.contains x:=λl=>by
  rw[Jz,GS,GS,wW];simp
 rw[this,this]
def sC (K:bo)(te tf:TE):TE:=λσ H Q=>te σ H λx H1=>∃a ns,x=.ref a/\SqL K H1 a (cW ns)/\(∀n∈ns,n<6)/\tf σ H1 λy H2=>∃b ms,y=.ref b/\SqL K H2 b (cW ms)/\(∀n∈ms,n<6)/\∀p,H2 p=none->Q (.ref p) (upd H2 p (.lst (cW (St.xr ms ns))))
def wS {e:Expr}{te:TE}{p2 p3:Pos}{pins:ah}{s:Shared}{σ:St}{H:Hp}{R:ak->Hp->Prop}{Q:Value->Shared->Prop}(hc:X.calm=true)(he:PE X e te)(g2:Gl X "set")(m2:X.mg "set" = none)(b2:bootBuiltins "set" = some (.type "set"))(hs2:starEach [e] X.env=[(false,eval e X.env)])
  (I:Inv X pins σ H s)(h:te σ H λx H1=>∃a ns,x=.ref a/\SqL X.K H1 a (cW ns)/\(∀n∈ns,n<6)/\R ns H1)
  (hq:∀s2 H1 ns S o,Inv X (pins++[(S,o)]) σ H1 s2->St.SG (!X.w.params.followText "set-order") s2.heap S (ns.foldl St.stp []) []->s2.heap.get? S=some o->R ns H1->Q (.ref S) s2) :
  wpAny (model X.prog X.w) X.A (eval (.Call (.Name "set" p2) [e] [] p3) X.env) Q X.xe s:=by
 have hh:=I.ok.hd hc;refine GY (ig I g2 m2 b2 ?_);refine G4 ?_ hs2 rfl;rw[hs2];show wpAny _ _ (spliced ((false,eval e X.env)::[])) _ _ s;refine Ih (bj (he pins s σ H _ I h) λu s1 hZz=>?_);obtain⟨x,H1,I1,r1,a,ns,ex,hx,h6,q⟩:=hZz;subst ex;cases r1;refine Ix ?_;obtain⟨its,rv,pl,hz⟩:=I1.list hx;refine St.set_list hh pl.isList (by simpa using pU rv) h6 λh' tk hS hk=>?_;have I2:=I1.kept (h':=h') (t':=tk) λb o q=>hk b o (bO q) q;have hS':=hS;obtain⟨es,ep,t,ho,_⟩:=hS';refine hq _ H1 ns _ _ (I2.pins_of λp hp=>(dN hp).elim (λz=>I2.pin p (cP _ z)) λz=>?_) hS ho q;rw[Gx.mp z];exact⟨ho,I1.fresh,Hq I1.lt,I1.nofs (bI _),λv=>nofun⟩
def Cp {e f:Expr}{te tf:TE}{p1 p2 p3 p4 p5 p6 p7:Pos}(hc:X.calm=true)(he:PE X e te)(hf:PE X f tf)(g1:Gl X "sorted")(m1:X.mg "sorted" = none)(b1:bootBuiltins "sorted" = some (.builtin "sorted"))(g2:Gl X "set")(m2:X.mg "set" = none)(b2:bootBuiltins "set" = some (.type "set"))
  (hs1:starEach [.BinOp (.Call (.Name "set" p2) [e] [] p3) .BitXor (.Call (.Name "set" p5) [f] [] p6) p7] X.env=[(false,eval (.BinOp (.Call (.Name "set" p2) [e] [] p3) .BitXor (.Call (.Name "set" p5) [f] [] p6) p7) X.env)])(hs2:starEach [e] X.env=[(false,eval e X.env)])(hs3:starEach [f] X.env=[(false,eval f X.env)]) :
  PE X (.Call (.Name "sorted" p1) [.BinOp (.Call (.Name "set" p2) [e] [] p3) .BitXor (.Call (.Name "set" p5) [f] [] p6) p7] [] p4) (sC X.K te tf):=by
 intro pins s σ H Q I h;have hh:=I.ok.hd hc;refine GY (ig I g1 m1 b1 ?_);refine Hz ?_ hs1 rfl;rw[hs1];refine Ih ?_;refine wpAny_BinOp (wS hc he g2 m2 b2 hs2 I h λs2 H1 ns S o I2 hS ho q=>?_);refine wS hc hf g2 m2 b2 hs3 I2 q λs3 H2 ms S2 o2 I3 hS2 ho2 q2=>?_;have ho3:s3.heap.get? S=some o:=(I3.pin (S,o) (by simp)).1;have hS3:St.SG (!X.w.params.followText "set-order") s3.heap S (ns.foldl St.stp []) []:=hS.at λo' e'=>by
  rw[ho] at e'; cases e'; exact ho3
 refine St.xor_of hS3 hS2 λh' D S3 hk eS hS4=>?_;refine Ix ?_;refine St.sorted_set (s:={ s3 with heap:=h' }) hh hS4 λh'' tk' L vs n hk' hlt hget hints=>?_;have hz:s3.heap.objs.size<=L:=by rw[eS] at hlt; exact HL hlt
 have I4:Inv X pins σ H2 s3:=I3.unpinned.unpinned;rw[Ag] at hints;refine⟨.ref L,upd H2 L (.lst (cW (St.xr ms ns))),I4.laid (t':=tk') (λb o qb=>hk' b o (hk b o qb)) hz ⟨?_,vs,n,pZ hints,hget⟩,rfl,q2 L (I4.hok.fresh hz)⟩;rw[cW,GA];refine St.small_line (ce (Iw _ _) (by simp))
end
noncomputable def Iq:Bool->Heap->Addr->aC->Prop
 | true=>Heap.IsList
 | false=>Heap.IsTuple
noncomputable def dC:Bool->Heap->Addr->Addr->Nat->Prop
 | true=>Heap.IsListIter
 | false=>Heap.IsTupleIter
noncomputable def qO:Bool->String
 | true => "list"
 | false => "tuple"
noncomputable def iK:Bool->String
 | true => "list_iterator"
 | false => "tuple_iterator"
noncomputable def SqQ:Bool->bo->Hp->Addr->aw->Prop
 | true=>SqL
 | false=>SqT
section
variable {q:Bool}{h h':Heap}{a it t:Addr}{i:Nat}{xs:aC}
def vy (z:Iq q h t xs)(k:∀o,h.get? t=some o->h'.get? t=some o):Iq q h' t xs:=by
 cases q <;> exact let ⟨o,ho,r⟩:=z; ⟨o,k o ho,r⟩
def iR (z:Iq q h t xs)(e:Heap.ExtBut a h h')(n:t≠a):Iq q h' t xs:=vy z λo y=>e t o n y
def Fi {o:Obj}(z:Iq q h t xs):Iq q (h.push o) t xs:=vy z λ_ y=>bH _ y
def kT (z:dC q h it t i)(k:∀o,h.get? it=some o->h'.get? it=some o):dC q h' it t i:=by
 cases q
 .exact Heap.IsTupleIter.at z k
 .exact Heap.IsListIter.at z k
def gS (z:dC q h it t i)(e:Heap.ExtBut a h h')(n:it≠a):dC q h' it t i:=kT z λo y=>e it o n y
def pH (z:Iq q h t xs):∃o,h.get? t=some o/\o.cls=.type (qO q):=by
 cases q <;> exact let ⟨o,ho,c,_⟩:=z; ⟨o,ho,c⟩
def pO (z:dC q h it t i):∃o,h.get? it=some o/\o.cls=.type (iK q):=by
 cases q <;> exact let ⟨o,ho,c,_⟩:=z; ⟨o,ho,c⟩
def oI (z:dC q h it t i):∃o,h.get? it=some o/\∀v,o.data≠.cell v:=by
 cases q <;> (obtain⟨o,ho,_,d⟩:=z; exact⟨o,ho,λv y=>by rw[d] at y; cases y⟩)
def ue (z:dC q h it t i):it<h.objs.size:=let ⟨_,e,_⟩:=pO z; bO e
def tN (z:Iq q h t xs):t≠h.objs.size+3:=let ⟨_,e,_⟩:=pH z; di (d6 (bO e) (Nat.le_add_right _ _))
def wu (z:h.get? it=some { cls:=.type (iK q),data:=.fields #[.ref t,.int 0 0] }):dC q h it t 0:=by
 cases q <;> exact⟨_,z,rfl,rfl⟩
def Inv.sqq {X:Cx}{pins:ah}{σ:St}{H:Hp}{s:Shared}{a:Addr}{xs:aw}(I:Inv X pins σ H s)(z:SqQ q X.K H a xs):∃its:ar,Vals xs its/\Iq q s.heap a its.toArray/\xs.length<=sizeLine:=by
 cases q
 .exact I.tuple z
 .obtain⟨its,r,p,y⟩:=I.list z;exact⟨its,r,p.isList,y⟩
def Inv.sqq_inj {X:Cx}{pins:ah}{σ:St}{H:Hp}{s:Shared}{a:Addr}{xs ys:aw}(I:Inv X pins σ H s)(z:SqQ q X.K H a xs)(y:SqQ q X.K H a ys):xs=ys:=by
 cases q
 .exact I.tuple_inj z y
 .exact I.list_inj z y
end
section
variable {q q1 q2:Bool}
variable {prog:Program}{w:World}{A:Around}{E:Value->Shared->Prop}{s:Shared}
def sN {it l:Addr}{i:Nat}{items:aC}{x:Value}{Q:Value->Shared->Prop}(hit:dC q s.heap it l i)(hl:Iq q s.heap l items)(hx:items[i]? = some x)(hQ:∀h',dC q h' it l (i+1)->Heap.SameBut it s.heap h'->Q x { s with heap:=h' }):wpAny (model prog w) A (Builtin.SmallTypes.nextOf (.ref it)) Q E s:=by
 cases q
 .exact Ep hit hl hx hQ
 .exact wpAny_nextOf_list_item hit hl hx hQ
def vV {it l:Addr}{i:Nat}{items:aC}{Q:Value->Shared->Prop}(hh:A.handled=none)(hit:dC q s.heap it l i)(hl:Iq q s.heap l items)(hx:items[i]? = none)
  (hE:∀h' e,Heap.ExtBut it s.heap h'->(∃o,h'.get? e=some o/\o.cls=.type "StopIteration")->E (.ref e) { s with heap:=h' }):wpAny (model prog w) A (Builtin.SmallTypes.nextOf (.ref it)) Q E s:=by
 cases q
 .exact za hh hit hl hx hE
 .exact wpAny_nextOf_list_end hh hit hl hx hE
def gK {l:Addr}{items:aC}{Q:Value->Shared->Prop}(hl:Iq q s.heap l items)(hQ:Q (.ref s.heap.objs.size) { s with heap:=s.heap.push { cls:=.type (iK q),data:=.fields #[.ref l,.int 0 0] } }):wpAny (model prog w) A (pyIter (.ref l)) Q E s:=by
 cases q
 .exact wpAny_pyIter_tuple hl hQ
 .exact Jb hl hQ
def Eo {z TI TO i1 i2 l1 l2:Addr}{k1 k2:Nat}{xs ys:aC}{x y a b:Value}{Q:Value->Shared->Prop}(D:ZipApart z TI TO i1 i2 l1 l2)
  (hz:IsZip s.heap z TI TO .none)(hTI:IsPair s.heap TI (.ref i1) (.ref i2))(hTO:IsPair s.heap TO a b)
  (h1:dC q1 s.heap i1 l1 k1)(h2:dC q2 s.heap i2 l2 k2)(hl1:Iq q1 s.heap l1 xs)(hl2:Iq q2 s.heap l2 ys)(hx:xs[k1]? = some x)(hy:ys[k2]? = some y)
  (hQ:∀h',IsZip h' z TI TO (rawInt s.heap.objs.size)->IsPair h' TO x y->dC q1 h' i1 l1 (k1+1)->dC q2 h' i2 l2 (k2+1)->IsPair h' s.heap.objs.size x y->h'.objs.size=s.heap.objs.size+1 ->
   (∀c o,c≠z->c≠TO->c≠i1->c≠i2->s.heap.get? c=some o->h'.get? c=some o)->Q (.ref s.heap.objs.size) { s with heap:=h' }) :
  wpAny (model prog w) A (Builtin.«zip.__next__» ⟨[.ref z],[]⟩) (λfin s'=>∃v,fin=.done (.ret v)/\Q v s') E s:=by
 show wpAny _ _ (field (.ref z) 2 >>= _) _ _ _;refine aM (GZ hz rfl (x:=.bool false) rfl ?_);show wpAny _ _ (field (.ref z) 3 >>= _) _ _ _;refine aM (GZ hz rfl (x:=.ref TI) rfl ?_);refine aM (HR hTI rfl ?_);show wpAny _ _ (Builtin.SmallTypes.ownedTupleIsFree (.ref z) >>= _) _ _ _;refine aM ?_;unfold Builtin.SmallTypes.ownedTupleIsFree;refine aM (GZ hz rfl (x:=.none) rfl (aV ?_));simp only[if_true];refine aM (JN ?_);refine aM (GZ hz rfl (x:=.ref TO) rfl ?_);refine aM (Hv hz (by simp) λh₁ hz₁ hs₁=>?_)
 replace hz₁:IsZip h₁ z TI TO .ellipsis:=hz₁
 refine aM ?_;simp only[List.zipIdx_cons,List.zipIdx_nil,List.forIn_cons,List.forIn_nil];refine aM (aM (Js ?_));show wpAny _ _ (Builtin.SmallTypes.nextOf (.ref i1) >>= _) _ _ _;refine aM (sN (gS h1 hs₁.extBut D.i1z) (iR hl1 hs₁.extBut D.l1z) hx λh₂ h1₂ hs₂=>aV ?_);have hTO₂:IsPair h₂ TO a b:=hs₂.extBut _ _ D.TOi1 (hs₁.extBut _ _ D.TOz hTO);refine aM (HR hTO₂ rfl ?_);refine aM (Jw hTO₂ λh₃ hTO₃ hs₃=>?_)
 replace hTO₃:IsPair h₃ TO x b:=hTO₃
 refine aM (wpAny_letGo (aV ?_));refine aM (aM (Js ?_));show wpAny _ _ (Builtin.SmallTypes.nextOf (.ref i2) >>= _) _ _ _;refine aM (sN (gS (gS (gS h2 hs₁.extBut D.i2z) hs₂.extBut D.i12.symm) hs₃.extBut D.TOi2.symm)
  (iR (iR (iR hl2 hs₁.extBut D.l2z) hs₂.extBut D.l2i1) hs₃.extBut D.l2TO) hy λh₄ h2₄ hs₄=>aV ?_)
 have hTO₄:IsPair h₄ TO x b:=hs₄.extBut _ _ D.TOi2 hTO₃;refine aM (HR hTO₄ rfl ?_);refine aM (Jw hTO₄ λh₅ hTO₅ hs₅=>?_)
 replace hTO₅:IsPair h₅ TO x y:=hTO₅
 refine aM (wpAny_letGo (aV (aV ?_)));refine aM (HR hTO₅ rfl ?_);refine aM (wpAny_newTuple ?_);have hsz:h₅.objs.size=s.heap.objs.size:=by rw[hs₅.1,hs₄.1,hs₃.1,hs₂.1,hs₁.1]
 have hz₅:IsZip h₅ z TI TO .ellipsis:=hs₅.extBut _ _ D.TOz.symm (hs₄.extBut _ _ D.i2z.symm (hs₃.extBut _ _ D.TOz.symm (hs₂.extBut _ _ D.i1z.symm hz₁)));have hk₅:∀c o,c≠z->c≠TO->c≠i1->c≠i2->s.heap.get? c=some o->h₅.get? c=some o:=λc o c1 c2 c3 c4 e=>
  hs₅.extBut _ _ c2 (hs₄.extBut _ _ c4 (hs₃.extBut _ _ c2 (hs₂.extBut _ _ c3 (hs₁.extBut _ _ c1 e))))
 have h1₅:dC q1 h₅ i1 l1 (k1+1):=gS (gS (gS h1₂ hs₃.extBut D.TOi1.symm) hs₄.extBut D.i12) hs₅.extBut D.TOi1.symm;have h2₅:dC q2 h₅ i2 l2 (k2+1):=gS h2₄ hs₅.extBut D.TOi2.symm;have hzlt:z<h₅.objs.size:=bO hz₅;have hTOlt:TO<h₅.objs.size:=bO hTO₅;have hi1lt:i1<h₅.objs.size:=ue h1₅;have hi2lt:i2<h₅.objs.size:=ue h2₅;show wpAny _ _ (Builtin.SmallTypes.ownedTupleHandOut (.ref z) (.ref h₅.objs.size) >>= _) _ _ _;refine aM ?_;unfold Builtin.SmallTypes.ownedTupleHandOut;have hz₆:IsZip (h₅.push { cls:=.type "tuple",data:=.seq #[x,y] }) z TI TO .ellipsis:=bH _ hz₅;refine aM (Hv hz₆ (by simp) λh₇ hz₇ hs₇=>?_)
 replace hz₇:IsZip h₇ z TI TO (rawInt h₅.objs.size):=hz₇
 refine Hv hz₇ (by simp) λh₈ hz₈ hs₈=>?_
 replace hz₈:IsZip h₈ z TI TO (rawInt h₅.objs.size):=hz₈
 have up:∀c o,c≠z->h₅.get? c=some o->h₈.get? c=some o:=λc o c1 e=>hs₈.extBut _ _ c1 (hs₇.extBut _ _ c1 (bH _ e));have hT₈:IsPair h₈ h₅.objs.size x y:=hs₈.extBut _ _ (Hq hzlt) (hs₇.extBut _ _ (Hq hzlt) (dm _ rfl));have hz8:h₈.objs.size=h₅.objs.size+1:=by rw[hs₈.1,hs₇.1,GI]
 rw[hsz] at hz₈ hT₈ hz8;refine aV ⟨_,rfl,?_⟩;show Q (.ref h₅.objs.size) _;rw[hsz];exact hQ h₈ hz₈ (up _ _ D.TOz hTO₅) (kT h1₅ λo e=>up _ o D.i1z e) (kT h2₅ λo e=>up _ o D.i2z e) hT₈ hz8 λc o c1 c2 c3 c4 e=>up c o c1 (hk₅ c o c1 c2 c3 c4 e)
def BN {z TI TO i1 i2 l1 l2:Addr}{k1 k2:Nat}{xs ys:aC}{a b:Value}{Q:Fin->Shared->Prop}(hh:A.handled=none)(D:ZipApart z TI TO i1 i2 l1 l2)
  (hz:IsZip s.heap z TI TO .none)(hTI:IsPair s.heap TI (.ref i1) (.ref i2))(hTO:IsPair s.heap TO a b)
  (h1:dC q1 s.heap i1 l1 k1)(h2:dC q2 s.heap i2 l2 k2)(hl1:Iq q1 s.heap l1 xs)(hl2:Iq q2 s.heap l2 ys)(hend:xs[k1]? = none\/ys[k2]? = none)
  (hE:∀h' e,(∀c o,c≠z->c≠TO->c≠i1->c≠i2->s.heap.get? c=some o->h'.get? c=some o)->(∃o,h'.get? e=some o/\o.cls=.type "StopIteration")->E (.ref e) { s with heap:=h' }) :
  wpAny (model prog w) A (Builtin.«zip.__next__» ⟨[.ref z],[]⟩) Q E s:=by
 show wpAny _ _ (field (.ref z) 2 >>= _) _ _ _;refine aM (GZ hz rfl (x:=.bool false) rfl ?_);show wpAny _ _ (field (.ref z) 3 >>= _) _ _ _;refine aM (GZ hz rfl (x:=.ref TI) rfl ?_);refine aM (HR hTI rfl ?_);show wpAny _ _ (Builtin.SmallTypes.ownedTupleIsFree (.ref z) >>= _) _ _ _;refine aM ?_;unfold Builtin.SmallTypes.ownedTupleIsFree;refine aM (GZ hz rfl (x:=.none) rfl (aV ?_));simp only[if_true];refine aM (JN ?_);refine aM (GZ hz rfl (x:=.ref TO) rfl ?_);refine aM (Hv hz (by simp) λh₁ hz₁ hs₁=>?_)
 replace hz₁:IsZip h₁ z TI TO .ellipsis:=hz₁
 refine aM ?_;simp only[List.zipIdx_cons,List.zipIdx_nil,List.forIn_cons,List.forIn_nil];refine aM (aM (Js ?_));show wpAny _ _ (Builtin.SmallTypes.nextOf (.ref i1) >>= _) _ _ _;cases hx:xs[k1]? with
 | none=>
  refine aM (vV hh (gS h1 hs₁.extBut D.i1z) (iR hl1 hs₁.extBut D.l1z) hx λh₂ e hs₂ he=>?_);obtain⟨oe,hoe,hce⟩:=he;have hz₂:IsZip h₂ z TI TO .ellipsis:=hs₂ _ _ D.i1z.symm hz₁;have hez:e≠z:=λx=>by subst x; rw[hz₂] at hoe; cases hoe; simp at hce
  refine Hv hz₂ (by simp) λh₃ _ hs₃=>hE h₃ e (λc o c1 _ c3 _ x=>hs₃.extBut _ _ c1 (hs₂ _ _ c3 (hs₁.extBut _ _ c1 x))) ⟨oe,hs₃.extBut _ _ hez hoe,hce⟩
 | some x=>
  have hy:ys[k2]? = none:=by rcases hend with h | h; rw[hx] at h; cases h; exact h
  refine aM (sN (gS h1 hs₁.extBut D.i1z) (iR hl1 hs₁.extBut D.l1z) hx λh₂ h1₂ hs₂=>aV ?_);have hTO₂:IsPair h₂ TO a b:=hs₂.extBut _ _ D.TOi1 (hs₁.extBut _ _ D.TOz hTO);refine aM (HR hTO₂ rfl ?_);refine aM (Jw hTO₂ λh₃ hTO₃ hs₃=>?_);refine aM (wpAny_letGo (aV ?_));refine aM (aM (Js ?_));show wpAny _ _ (Builtin.SmallTypes.nextOf (.ref i2) >>= _) _ _ _;refine aM (vV hh (gS (gS (gS h2 hs₁.extBut D.i2z) hs₂.extBut D.i12.symm) hs₃.extBut D.TOi2.symm)
   (iR (iR (iR hl2 hs₁.extBut D.l2z) hs₂.extBut D.l2i1) hs₃.extBut D.l2TO) hy λh₄ e hs₄ he=>?_)
  obtain⟨oe,hoe,hce⟩:=he;have hz₄:IsZip h₄ z TI TO .ellipsis:=hs₄ _ _ D.i2z.symm (hs₃.extBut _ _ D.TOz.symm (hs₂.extBut _ _ D.i1z.symm hz₁));have hez:e≠z:=λx=>by subst x; rw[hz₄] at hoe; cases hoe; simp at hce
  refine Hv hz₄ (by simp) λh₅ _ hs₅=>hE h₅ e (λc o c1 c2 c3 c4 x=>hs₅.extBut _ _ c1 (hs₄ _ _ c4 (hs₃.extBut _ _ c2 (hs₂.extBut _ _ c3 (hs₁.extBut _ _ c1 x))))) ⟨oe,hs₅.extBut _ _ hez hoe,hce⟩
def Dg {z TI TO i1 i2 l1 l2:Addr}{k1 k2:Nat}{xs ys:aC}{x y a b:Value}{Q:aB->Shared->Prop}(D:ZipApart z TI TO i1 i2 l1 l2)
  (hz:IsZip s.heap z TI TO .none)(hTI:IsPair s.heap TI (.ref i1) (.ref i2))(hTO:IsPair s.heap TO a b)
  (h1:dC q1 s.heap i1 l1 k1)(h2:dC q2 s.heap i2 l2 k2)(hl1:Iq q1 s.heap l1 xs)(hl2:Iq q2 s.heap l2 ys)(hx:xs[k1]? = some x)(hy:ys[k2]? = some y)
  (hQ:∀h',IsZip h' z TI TO (rawInt s.heap.objs.size)->IsPair h' TO x y->dC q1 h' i1 l1 (k1+1)->dC q2 h' i2 l2 (k2+1)->IsPair h' s.heap.objs.size x y->h'.objs.size=s.heap.objs.size+1 ->
   (∀c o,c≠z->c≠TO->c≠i1->c≠i2->s.heap.get? c=some o->h'.get? c=some o)->Q (some (.ref s.heap.objs.size)) { s with heap:=h' }) :
  wpAny (model prog w) A (pyNext (.ref z)) Q E s:=by
 have hT:s.TypeIs (.ref z) "zip":=⟨_,hz,rfl⟩
 unfold pyNext;exact aM (JV (wpAny_callSpecial?_slot (name:=Str.ofString "__next__") hT JA
  (G9 JA hT F.entry_zip_next
   (Eo D hz hTI hTO h1 h2 hl1 hl2 hx hy λh' a1 a2 a3 a4 a5 a6 a7=>aV (hQ h' a1 a2 a3 a4 a5 a6 a7)) (F.args_zip_next_1 _))))
def Ge {z TI TO i1 i2 l1 l2:Addr}{k1 k2:Nat}{xs ys:aC}{a b:Value}{Q:aB->Shared->Prop}(hh:A.handled=none)(D:ZipApart z TI TO i1 i2 l1 l2)
  (hz:IsZip s.heap z TI TO .none)(hTI:IsPair s.heap TI (.ref i1) (.ref i2))(hTO:IsPair s.heap TO a b)
  (h1:dC q1 s.heap i1 l1 k1)(h2:dC q2 s.heap i2 l2 k2)(hl1:Iq q1 s.heap l1 xs)(hl2:Iq q2 s.heap l2 ys)(hend:xs[k1]? = none\/ys[k2]? = none)
  (hQ:∀h',(∀c o,c≠z->c≠TO->c≠i1->c≠i2->s.heap.get? c=some o->h'.get? c=some o)->Q none { s with heap:=h' }):wpAny (model prog w) A (pyNext (.ref z)) Q E s:=by
 have hT:s.TypeIs (.ref z) "zip":=⟨_,hz,rfl⟩
 unfold pyNext;refine aM (JV (wpAny_callSpecial?_slot (name:=Str.ofString "__next__") hT JA
  (G9 JA hT F.entry_zip_next (BN hh D hz hTI hTO h1 h2 hl1 hl2 hend λh' e hk he=>?_) (F.args_zip_next_1 _))))
 obtain⟨o,ho,hc⟩:=he;refine aM (II (T := "StopIteration") (b:=true) ⟨o,ho,hc⟩ isSubtype_stop ?_);exact aV (hQ _ hk)
end
noncomputable abbrev eZ (q1:Bool)(h:Heap)(l1:Addr):Heap:=h.push { cls:=.type (iK q1),data:=.fields #[.ref l1,.int 0 0] }
noncomputable abbrev eM (q1 q2:Bool)(h:Heap)(l1 l2:Addr):Heap:=(eZ q1 h l1).push { cls:=.type (iK q2),data:=.fields #[.ref l2,.int 0 0] }
noncomputable abbrev fk (q1 q2:Bool)(h:Heap)(l1 l2:Addr):Heap:=(eM q1 q2 h l1 l2).push { cls:=.type "tuple",data:=.seq #[.ref h.objs.size,.ref (eZ q1 h l1).objs.size] }
noncomputable abbrev fh (q1 q2:Bool)(h:Heap)(l1 l2:Addr):Heap:=(fk q1 q2 h l1 l2).push { cls:=.type "tuple",data:=.seq #[.none,.none] }
noncomputable abbrev df (q1 q2:Bool)(h:Heap)(l1 l2:Addr):Heap:=(fh q1 q2 h l1 l2).push { cls:=.type "zip",data:=.fields #[.none,.bool false,.bool false,.ref (eM q1 q2 h l1 l2).objs.size,.ref (fk q1 q2 h l1 l2).objs.size] }
def y2 (q1 q2:Bool)(l1 l2:Addr)(xs ys:aC) :
  Meets (Builtin.«zip.__new__» ⟨[.type "zip",.ref l1,.ref l2],[]⟩) (λ_ R s=>Iq q1 s.heap l1 xs/\Iq q2 s.heap l2 ys /\
   R (.ok (.ret (.ref (fh q1 q2 s.heap l1 l2).objs.size))) { s with heap:=df q1 q2 s.heap l1 l2 }):=
 .of_wp λprog w A R s h=>by
  obtain⟨hp,g,d,tk,os⟩:=s; obtain⟨hl1,hl2,h⟩:=h;have hsub:=sub_zip;have hL1:Iq q1 (Shared.heap ⟨hp,g,d,tk,os⟩) l1 xs:=hl1;have hL2:Iq q2 (Shared.heap ⟨hp.push { cls:=.type (iK q1),data:=.fields #[.ref l1,.int 0 0] },g,d,tk,os⟩) l2 ys:=Fi hl2;wp_walk using gK hL1,gK hL2
  exact⟨_,rfl,h⟩
section
variable {q q1 q2:Bool}
variable {prog:Program}{w:World}{A:Around}{E:Value->Shared->Prop}{s:Shared}
def Ca {l1 l2:Addr}{xs ys:aC}{Q:Value->Shared->Prop}(hl1:Iq q1 s.heap l1 xs)(hl2:Iq q2 s.heap l2 ys)
  (h:∀h',IsZip h' (s.heap.objs.size+4) (s.heap.objs.size+2) (s.heap.objs.size+3) .none->IsPair h' (s.heap.objs.size+2) (.ref s.heap.objs.size) (.ref (s.heap.objs.size+1)) ->
   IsPair h' (s.heap.objs.size+3) .none .none->dC q1 h' s.heap.objs.size l1 0->dC q2 h' (s.heap.objs.size+1) l2 0->h'.objs.size=s.heap.objs.size+5 ->
   (∀c o,s.heap.get? c=some o->h'.get? c=some o)->Q (.ref (s.heap.objs.size+4)) { s with heap:=h' }) :
  wpAny (model prog w) A (call (.type "zip") [.ref l1,.ref l2]) Q E s:=by
 refine callType_new F.called_zip (by decide) (F.typeCall_zip_2 _ _) (F.newCall_zip_2 _ _) (λobj=>F.args_object_init_3 obj _ _) F.entry_zip_new
  (y2 q1 q2 l1 l2 xs ys) ⟨hl1,hl2,?_⟩
 have z1:(eZ q1 s.heap l1).objs.size=s.heap.objs.size+1:=GI ..;have z2:(eM q1 q2 s.heap l1 l2).objs.size=s.heap.objs.size+2:=by rw[GI,z1]
 have z3:(fk q1 q2 s.heap l1 l2).objs.size=s.heap.objs.size+3:=by rw[GI,z2]
 have z4:(fh q1 q2 s.heap l1 l2).objs.size=s.heap.objs.size+4:=by rw[GI,z3]
 have z5:(df q1 q2 s.heap l1 l2).objs.size=s.heap.objs.size+5:=by rw[GI,z4]
 have g5:(df q1 q2 s.heap l1 l2).get? (fh q1 q2 s.heap l1 l2).objs.size=some _:=dm _ rfl;have g4:(df q1 q2 s.heap l1 l2).get? (fk q1 q2 s.heap l1 l2).objs.size=some _:=bH _ (dm _ rfl);have g3:(df q1 q2 s.heap l1 l2).get? (eM q1 q2 s.heap l1 l2).objs.size=some _:=bH _ (bH _ (dm _ rfl));have g2:(df q1 q2 s.heap l1 l2).get? (eZ q1 s.heap l1).objs.size=some _:=bH _ (bH _ (bH _ (dm _ rfl)));have g1:(df q1 q2 s.heap l1 l2).get? s.heap.objs.size=some _:=bH _ (bH _ (bH _ (bH _ (dm _ rfl))));show _/\_;rw[z2,z3,z4] at g5;rw[z1,z2] at g3;rw[z3] at g4;rw[z1] at g2;rw[z4];exact⟨⟨_,g5,rfl⟩,h _ g5 g3 g4 (wu g1) (wu g2) z5 λc o x=>
  bH _ (bH _ (bH _ (bH _ (bH _ x))))⟩
end
noncomputable def ka (q1 q2:Bool)(K:bo)(a b:Addr):It:=
 ⟨λi H=>∃xs ys x y,SqQ q1 K H a xs/\SqQ q2 K H b ys/\xs[i]? = some x/\ys[i]? = some y,λi H v H'=>∃x y p,v=.ref p/\H p=none/\H'=upd H p (.tup [x,y])/\(∀xs,SqQ q1 K H a xs->xs[i]? = some x)/\∀ys,SqQ q2 K H b ys->ys[i]? = some y,
  λi H=>∃xs ys,SqQ q1 K H a xs/\SqQ q2 K H b ys/\(xs.length<=i\/ys.length<=i)⟩
def gZ (q1 q2:Bool)(z TI TO i1 i2 l1 l2:Addr)(i:Nat)(h:Heap):Prop:=IsZip h z TI TO .none/\IsPair h TI (.ref i1) (.ref i2)/\(∃a b,IsPair h TO a b)/\dC q1 h i1 l1 i/\dC q2 h i2 l2 i
section
variable {q1 q2:Bool}
def vI {h:Heap}{z TI TO i1 i2 l1 l2:Addr}{i:Nat}{xs ys:aC}(t:gZ q1 q2 z TI TO i1 i2 l1 l2 i h)(h1:Iq q1 h l1 xs)(h2:Iq q2 h l2 ys)(n1:TI≠TO)(n2:i1≠i2)(n3:l1≠TO)(n4:l2≠TO):ZipApart z TI TO i1 i2 l1 l2:=by
 obtain⟨tz,tI,⟨a,b,tO⟩,t1,t2⟩:=t;obtain⟨o1,e1,c1⟩:=pO t1;obtain⟨o2,e2,c2⟩:=pO t2;obtain⟨u1,f1,d1⟩:=pH h1;obtain⟨u2,f2,d2⟩:=pH h2;have d:∀{a b:Addr} {o u:Obj} (A B:String),h.get? a=some o->h.get? b=some u->o.cls=.type A->u.cls=.type B->(A == B)=false->a≠b:=λA B x y hA hB n=>uY A B x y hA hB (by simpa using n);have a1:∀q:Bool,(iK q == "zip")=false:=λq=>by cases q <;> rfl
 have a2:∀q:Bool,("tuple" == iK q)=false:=λq=>by cases q <;> rfl
 have a3:∀q:Bool,(qO q == "zip")=false:=λq=>by cases q <;> rfl
 have a4:∀q p:Bool,(qO q == iK p)=false:=λq p=>by cases q <;> cases p <;> rfl
 exact⟨d "tuple" "zip" tI tz rfl rfl rfl,d "tuple" "zip" tO tz rfl rfl rfl,d _ "zip" e1 tz c1 rfl (a1 _),d _ "zip" e2 tz c2 rfl (a1 _),n1,d "tuple" _ tI e1 rfl c1 (a2 _),d "tuple" _ tI e2 rfl c2 (a2 _),
  d "tuple" _ tO e1 rfl c1 (a2 _),d "tuple" _ tO e2 rfl c2 (a2 _),n2,d _ "zip" f1 tz d1 rfl (a3 _),n3,d _ _ f1 e1 d1 c1 (a4 _ _),d _ _ f1 e2 d1 c2 (a4 _ _),
  d _ "zip" f2 tz d2 rfl (a3 _),n4,d _ _ f2 e1 d2 c1 (a4 _ _),d _ _ f2 e2 d2 c2 (a4 _ _)⟩
end
def ye {q1 q2:Bool}{P:Program}{w:World}{K:bo}{es:av}{k1:Nat}{ps:Pos}(l1 l2 z TI TO i1 i2:Addr)(n1:TI≠TO)(n2:i1≠i2)(n3:l1≠TO)(n4:l2≠TO):Turn P w K (.Tuple es k1 ps) (ka q1 q2 K l1 l2) [z,TI,TO,i1,i2] z (gZ q1 q2 z TI TO i1 i2 l1 l2) where
 mem:=by simp
 obj:=λi h t b hb=>by
  obtain⟨tz,tI,⟨a,c,tO⟩,t1,t2⟩:=t;obtain⟨o1,e1,d1⟩:=oI t1;obtain⟨o2,e2,d2⟩:=oI t2;simp only[GL,G0,or_false] at hb;rcases hb with rfl | rfl | rfl | rfl | rfl
  .exact⟨_,tz,(λv q=>nomatch q)⟩
  .exact⟨_,tI,(λv q=>nomatch q)⟩
  .exact⟨_,tO,(λv q=>nomatch q)⟩
  .exact⟨o1,e1,d1⟩
  .exact⟨o2,e2,d2⟩
 keep:=λi h h' t k=>by
  obtain⟨tz,tI,⟨a,c,tO⟩,t1,t2⟩:=t;exact⟨k z (by simp) _ tz,k TI (by simp) _ tI,⟨a,c,k TO (by simp) _ tO⟩,kT t1 λo e=>k i1 (by simp) o e,kT t2 λo e=>k i2 (by simp) o e⟩
 item:=by
  intro X hP hw hK hc i pins s σ H E I hf st hg;subst hP hw hK;obtain⟨xs,ys,x,y,hx,hy,ex,ey⟩:=hg;obtain⟨its,rv,p,hz⟩:=I.sqq hx;obtain⟨its2,rv2,p2,hz2⟩:=I.sqq hy;obtain⟨u,hu,ru⟩:=rv.get ex;obtain⟨u2,hu2,ru2⟩:=rv2.get ey;have D:=vI st p p2 n1 n2 n3 n4;obtain⟨tz,tI,⟨a,c,tO⟩,t1,t2⟩:=st;refine Dg D tz tI tO t1 t2 p p2 (x:=u) (y:=u2) (by simpa using hu) (by simpa using hu2) λh' z1 z2 z3 z4 z5 z6 z7=>⟨_,rfl,?_⟩
  refine wpAny_letOwnedTupleGo_zip (s:={ s with heap:=h' }) z1 λh2 z1' sb=>?_;have kk:∀b o,b∉[z,TI,TO,i1,i2]->s.heap.get? b=some o->h2.get? b=some o:=λb o nb e=>by
   simp only[GL,G0,or_false,not_or] at nb;obtain⟨m1,m2,m3,m4,m5⟩:=nb;exact (sb.2 b m1).trans (z7 b o m1 m3 m4 m5 e)
  have lz:z<s.heap.objs.size:=bO tz;have gT:h2.get? s.heap.objs.size=some { cls:=.type "tuple",data:=.seq #[u,u2] }:=(sb.2 _ (Hq lz)).trans z5;have up:∀b o,b≠z->h'.get? b=some o->h2.get? b=some o:=λb o nb e=>(sb.2 b nb).trans e;refine⟨.ref s.heap.objs.size,upd H s.heap.objs.size (.tup [x,y]),I.turnedN (t':=s.toks) hf kk (bI _) ⟨by show 2<=sizeLine; decide,[u,u2],.cons ru (.cons ru2 .nil),_,gT,rfl,⟨_,rfl⟩,rfl⟩,rfl,
   ⟨x,y,_,rfl,I.hok.fresh (bI _),rfl,λzs hq=>by rw[I.sqq_inj hq hx]; exact ex,λzs hq=>by rw[I.sqq_inj hq hy]; exact ey⟩,
   ⟨z1',up _ _ D.TIz (z7 TI _ D.TIz D.TITO D.TIi1 D.TIi2 tI),⟨u,u2,up _ _ D.TOz z2⟩,kT z3 λo e=>up _ _ D.i1z e,kT z4 λo e=>up _ _ D.i2z e⟩,λb hb=>?_⟩
  obtain⟨o,e,_⟩:∃o,s.heap.get? b=some o/\True:=by
   simp only[GL,G0,or_false] at hb;obtain⟨o1,e1,d1⟩:=oI t1;obtain⟨o2,e2,d2⟩:=oI t2;rcases hb with rfl | rfl | rfl | rfl | rfl
   .exact⟨_,tz,trivial⟩
   .exact⟨_,tI,trivial⟩
   .exact⟨_,tO,trivial⟩
   .exact⟨o1,e1,trivial⟩
   .exact⟨o2,e2,trivial⟩
  rw[bP (Ja (Heap.lt_size e))];exact (hf b hb).1
 done:=by
  intro X hP hw hK hc i pins s σ H E I hf st hg;subst hP hw hK;obtain⟨xs,ys,hx,hy,hend⟩:=hg;obtain⟨its,rv,p,hz⟩:=I.sqq hx;obtain⟨its2,rv2,p2,hz2⟩:=I.sqq hy;have D:=vI st p p2 n1 n2 n3 n4;obtain⟨tz,tI,⟨a,c,tO⟩,t1,t2⟩:=st;have l1:=rv.length;have l2:=rv2.length;refine Ge (I.ok.hd hc) D tz tI tO t1 t2 p p2 (hend.elim (λq=>.inl (by simp; omega)) λq=>.inr (by simp; omega)) λh' kp=>⟨rfl,I.turnedL (t':=s.toks) hf λb o nb e=>?_⟩
  simp only[GL,G0,or_false,not_or] at nb;obtain⟨m1,m2,m3,m4,m5⟩:=nb;exact kp b o m1 m3 m4 m5 e
 self:=λ_ _ _ _ _ st h=>wpAny_pyIter_zip st.1 h
section
variable {X:Cx}{es:av}{k1:Nat}{tp:Pos}
def nq (K:bo)(ta:TA):TI:=λσ H R=>ta σ H λvs H1=>∃q1 q2 a b xs ys,vs=[.ref a,.ref b]/\SqQ q1 K H1 a xs/\SqQ q2 K H1 b ys/\R (ka q1 q2 K a b) H1
def zF {a b:Expr}{ta:TA}{p pos:Pos}(hg:Gl X "zip")(hm:X.mg "zip" = none)(hv:bootBuiltins "zip" = some (.type "zip"))(ha:PA X [a,b] ta)(hs:starEach [a,b] X.env=[(false,eval a X.env),(false,eval b X.env)]:=by rfl)(hs2:starEach [b] X.env=[(false,eval b X.env)]:=by rfl) :
  PI X (.Tuple es k1 tp) (.Call (.Name "zip" p) [a,b] [] pos) (nq X.K ta):=by
 intro pins s σ H R I h;refine Call_ (ig I hg hm hv (G4 (bj (ha pos pins s σ H _ I h) λus s1 hZz=>?_) (by rw[hs,hs2]) (by rw[hs2]; rfl)));obtain⟨vs,H1,I1,r1,q1⟩:=hZz;obtain⟨b1,b2,l1,l2,xs,ys,rfl,hx,hy,q⟩:=q1;obtain⟨u,v,rfl,ru,rv⟩:=vals2 r1;cases ru;cases rv;obtain⟨its,rx,px,hzx⟩:=I1.sqq hx;obtain⟨its2,ry,py,hzy⟩:=I1.sqq hy;refine Ca px py λh' z1 z2 z3 z4 z5 z6 z7=>?_;refine wpAny_pyIter_zip (s:={ s1 with heap:=h' }) z1 ⟨_,_,_,_,H1,rfl,I1.kept (t':=s1.toks) z7,ye l1 l2 (s1.heap.objs.size+4) (s1.heap.objs.size+2) (s1.heap.objs.size+3) s1.heap.objs.size (s1.heap.objs.size+1) (di (Ia _)) (di (Ia _)) (tN px) (tN py),⟨z1,z2,⟨_,_,z3⟩,z4,z5⟩,λb hb=>?_,q⟩;have lb:s1.heap.objs.size<=b:=by
  simp only[GL,G0,or_false] at hb;rcases hb with rfl | rfl | rfl | rfl | rfl <;> omega
 exact I1.fpOk lb (I1.hok.fresh lb)
end
end L2
end
section
namespace Ip
open PySem (Str)
noncomputable section
inductive D where
 | non | bl (b:Bool) | int (i:Int) | str (s:Str)
 | lst (xs:List D) | tup (xs:List D)
 | ins (c:Nat) (fs:List (Nat×D))
 | exc (c:Nat) (fs:List (Nat×D))
 deriving Inhabited
abbrev _root_.aK:=Nat×D
abbrev _root_.ay:=List D
mutual
@[simp] noncomputable def D.flat:D->Bool
 | .lst _=>false
 | .tup xs=>D.flats xs
 | .ins _ _=>false
 | .exc _ _=>false
 | _=>true
@[simp] noncomputable def D.flats:ay->Bool
 | []=>true
 | d::ds=>d.flat&&D.flats ds
end
theorem ud:∀xs:ay,D.flats xs=xs.all D.flat
 | []=>by rw[D.flats]; rfl
 | d::ds=>by rw[D.flats,ud ds]; rfl
@[simp] noncomputable def D.fb:Nat->D->Bool
 | 0,d=>d.flat
 | k+1,.lst xs=>xs.all (D.fb k)
 | k+1,.tup xs=>xs.all (D.fb k)
 | k+1,.ins _ fs=>fs.all λp=>D.fb k p.2
 | _+1,.exc _ _=>false
 | _+1,_=>true
noncomputable def D.pur:Nat->D->Bool
 | 0,.lst _=>false
 | 0,.tup _=>false
 | n+1,.lst xs=>xs.all (D.pur n)
 | n+1,.tup xs=>xs.all (D.pur n)
 | _,.ins _ _=>false
 | _,.exc _ _=>false
 | _,.str s=>s.cps.all (·<1114112)
 | _,_=>true
@[simp] theorem pur_non (n:Nat):D.pur n .non=true:=by cases n <;> rfl
@[simp] theorem pur_bl (n:Nat)(b:Bool):D.pur n (.bl b)=true:=by cases n <;> rfl
@[simp] theorem pur_int (n:Nat)(i:Int):D.pur n (.int i)=true:=by cases n <;> rfl
@[simp] theorem yd (n:Nat)(s:Str):D.pur n (.str s)=s.cps.all (·<1114112):=by cases n <;> rfl
@[simp] theorem nY (n:Nat)(xs:ay):D.pur (n+1) (.lst xs)=xs.all (D.pur n):=rfl
@[simp] theorem pur_tup (n:Nat)(xs:ay):D.pur (n+1) (.tup xs)=xs.all (D.pur n):=rfl
@[simp] theorem pur_ints (n:Nat)(xs:al):(xs.map D.int).all (D.pur n)=true:=by simp
noncomputable abbrev D.pures (xs:ay):Bool:=xs.all (D.pur 60)
@[simp] noncomputable def D.scal:D->Bool
 | .non=>true | .bl _=>true | .int _=>true | .str _=>true
 | _=>false
mutual
noncomputable def D.eq:D->D->Bool
 | .non,.non=>true
 | .int i,.int j=>decide (i=j)
 | .int i,.bl b=>decide (i=if b then 1 else 0)
 | .bl b,.int i=>decide ((if b then 1 else 0)=i)
 | .bl b,.bl c=>decide (b=c)
 | .str s,.str t=>decide (s=t)
 | .lst xs,.lst ys=>D.eqs xs ys
 | .tup xs,.tup ys=>D.eqs xs ys
 | _,_=>false
noncomputable def D.eqs:ay->ay->Bool
 | [],[]=>true
 | x::xs,y::ys=>x.eq y&&D.eqs xs ys
 | _,_=>false
end
inductive R (α:Type) where
 | ok (a:α)
 | exc (c:Nat) (fs:List aK)
 | bad
@[simp,reducible] noncomputable def R.bind {α β:Type}(r:R α)(f:α->R β):R β:=match r with
 | .ok a=>f a
 | .exc c fs=>.exc c fs
 | .bad=>.bad
noncomputable abbrev KD:=aK
abbrev _root_.aA:=Option KD
abbrev _root_.ax:=List KD
noncomputable def br (j:Nat)(x:KD):Bool:=x.2.flat||(x.1 == j||(D.fb j x.2&&D.fb x.1 x.2))
noncomputable def bi (xs:ax):Nat:=match xs.find? λx=>!x.2.flat with
 | none=>98
 | some x=>if xs.all (br x.1) then x.1 else 0
noncomputable def cK (k:Nat)(xs:ay)(v:KD):Nat:=if br k v then k else if xs.all (λd=>br v.1 (k,d)) then v.1 else 0
noncomputable abbrev SL:Nat:=1000000
inductive Ty where
 | int | bool | str | list | tuple | dict | verr | cls (c:Nat)
inductive Op where
 | add | sub | mul | fdiv | mod | pow | shr | neg | not
 | eq | ne | lt | le | gt | ge | isN | notN | isin | nin
 | lst | tup | ix | slL | slH | slLH | rev
 | fld (f:Nat) | isi (ts:List Ty)
 | len | list | lrng | lrev | tuple | all | any | toInt | sum | srt | srtSet | symd | min1 | min2 | max2
 | index | count
inductive Wk where
 | seq | rng1 | rng2 | rngD | enum | zip
inductive Tg where
 | one (i:Nat) | many (is:ak)
inductive Ex where
 | var (i:Nat)
 | cst (d:D)
 | op (o:Op) (es:List Ex)
 | and (a b:Ex) | or (a b:Ex)
 | ite (c a b:Ex)
 | chain (o p:Op) (a b c:Ex)
 | sl2 (a l h:Ex)
 | comp (caps:List aE) (tg:Tg) (wk:Wk) (it:List Ex) (t:List Ex) (e:Ex)
 | call (f:Nat) (es:List Ex)
 | make (c:Nat) (es:List Ex)
 | meth (m:Nat) (o:Ex) (es:List Ex)
 | bad
 deriving Inhabited
abbrev _root_.aG:=List Ex
inductive Mu where
 | append | extend | clear | insert | remove | pop0
inductive S where
 | set (i:Nat) (e:Ex)
 | setT (is:ak) (e:Ex)
 | ret (e:Ex)
 | ex (e:Ex)
 | iff (c:Ex) (t e:List S)
 | fo (tg:Tg) (wk:Wk) (it:aG) (b:List S)
 | brk | cnt | pass
 | rais (c:Nat) (es:aG)
 | mut (x:Nat) (path:aG) (m:Mu) (es:aG)
 | put (x:Nat) (path:aG) (i e:Ex)
 | sfld (i:Nat) (f:Nat) (e:Ex)
 | xinit (es:aG)
 | tryE (b:List S) (c:Nat) (i x:Nat)
 | setI (i j:Nat) (e:Ex)
 | bad
 deriving Inhabited
abbrev _root_.az:=List S
structure Fn where
 np:Nat
 io:ak
 ns:Nat
 dfl:ay
 body:az
structure Cl where
 init:aE
 meths:List (Nat×Nat)
 ups:ak
 isx:Bool
structure Pg where
 fn:Nat->Option Fn
 cl:Nat->Option Cl
inductive Run where
 | ret (k:Nat) (d:D) (outs:ax)
 | exc (c:Nat) (fs:List aK) (outs:ax)
 | bad
def mo (n:Nat):∃f:Int->Bool,∀i,f i=true ↔ -(2 ^ n)<=i/\i<2 ^ n:=⟨λi=>decide (-(2 ^ n)<=i/\i<2 ^ n),λi=>decide_eq_true_iff⟩
noncomputable def cZ:Int->Bool:=Classical.choose (mo 62)
def fQ {i:Int}:cZ i=true ↔ -(2 ^ 62)<=i/\i<2 ^ 62:=Classical.choose_spec (mo 62) i
noncomputable def dR (n:Nat)(i:Int):aE:=if 0<=i then (if i<n then some i.toNat else none) else if -(n:Int)<=i then some (i+n).toNat else none
noncomputable def gO (n d:Nat):Option Int->Nat
 | none=>d
 | some i=>if 0<=i then min i.toNat n else (i+n).toNat
noncomputable def cutD {α:Type}(xs:List α)(lo hi:Option Int):List α:=(xs.drop (gO xs.length 0 lo)).take (gO xs.length xs.length hi - gO xs.length 0 lo)
@[simp] noncomputable def nH:Ty->Bool
 | .bool=>true | .int=>true | _=>false
@[simp] noncomputable def jR:Ty->Bool
 | .int=>true | _=>false
@[simp] noncomputable def jA:Ty->Bool
 | .str=>true | _=>false
@[simp] noncomputable def jG:Ty->Bool
 | .list=>true | _=>false
@[simp] noncomputable def jJ:Ty->Bool
 | .tuple=>true | _=>false
@[simp] noncomputable def jo (G:Pg)(c d:Nat):Bool:=match G.cl c with
 | some K=>decide (d=c)||K.ups.contains d
 | none=>false
@[simp] noncomputable def jC (G:Pg)(c:Nat):Ty->Bool
 | .cls d=>jo G c d | _=>false
@[simp] noncomputable def jF (G:Pg)(c:Nat):Ty->Bool
 | .cls d=>jo G c d | .verr=>true | _=>false
noncomputable def bh (G:Pg):D->Ty->Bool
 | .bl _=>nH
 | .int _=>jR
 | .str _=>jA
 | .lst _=>jG
 | .tup _=>jJ
 | .ins c _=>jC G c
 | .exc c _=>jF G c
 | .non=>λ_=>false
@[simp] theorem isTy_bl (G:Pg)(b:Bool)(t:Ty):bh G (.bl b) t=nH t:=rfl
@[simp] theorem isTy_int (G:Pg)(b:Int)(t:Ty):bh G (.int b) t=jR t:=rfl
@[simp] theorem isTy_str (G:Pg)(b:Str)(t:Ty):bh G (.str b) t=jA t:=rfl
@[simp] theorem isTy_lst (G:Pg)(b:ay)(t:Ty):bh G (.lst b) t=jG t:=rfl
@[simp] theorem isTy_tup (G:Pg)(b:ay)(t:Ty):bh G (.tup b) t=jJ t:=rfl
@[simp] theorem isTy_ins (G:Pg)(c:Nat)(fs:List aK)(t:Ty):bh G (.ins c fs) t=jC G c t:=rfl
@[simp] theorem isTy_exc (G:Pg)(c:Nat)(fs:List aK)(t:Ty):bh G (.exc c fs) t=jF G c t:=rfl
@[simp] theorem isTy_non (G:Pg)(t:Ty):bh G .non t=false:=rfl
noncomputable def allB:ay->Option Bool
 | []=>some true
 | .bl b::ds=>(allB ds).map λc=>b&&c
 | _::_=>none
noncomputable def anyB:ay->Option Bool
 | []=>some false
 | .bl b::ds=>(anyB ds).map λc=>b||c
 | _::_=>none
noncomputable def fO:ay->Option al
 | []=>some []
 | .int i::ds=>(fO ds).map λis=>i::is
 | _::_=>none
noncomputable def D.memb (x:D)(xs:ay):Bool:=xs.any λy=>y.eq x
noncomputable def D.find (x:D)(xs:ay):aE:=xs.findIdx? λy=>y.eq x
@[simp] noncomputable def fB (b:Bool):aA:=some (99,.bl b)
@[simp] noncomputable def fI (i:Int):aA:=some (99,.int i)
@[simp] noncomputable def ma (b:Bool):R KD:=.ok (99,.bl b)
@[simp] noncomputable def D.seq:D->Option ay
 | .lst xs=>some xs
 | .tup xs=>some xs
 | _=>none
@[simp] noncomputable def D.lstO:D->Option ay
 | .lst xs=>some xs
 | _=>none
@[simp] noncomputable def cq (f:D->aA):ax->aA
 | [x]=>f x.2
 | _=>none
@[simp] noncomputable def bK (f:D->D->aA):ax->aA
 | [x,y]=>f x.2 y.2
 | _=>none
@[simp] noncomputable def on3 (f:D->D->D->aA):ax->aA
 | [x,y,z]=>f x.2 y.2 z.2
 | _=>none
@[simp] noncomputable def bU (f:Int->Int->aA):D->D->aA
 | .int i,.int j=>f i j
 | _,_=>none
@[simp] noncomputable def dH:D->D->aA
 | .int i,.int j=>fI (i+j)
 | .lst xs,.lst ys=>if xs.length+ys.length<=SL then some (1,.lst (xs++ys)) else none
 | .tup xs,.tup ys=>if xs.length+ys.length<=SL then some (0,.tup (xs++ys)) else none
 | _,_=>none
noncomputable def cD:ay->Option ak
 | []=>some []
 | .int i::ds=>if 0<=i/\i<6 then (cD ds).map λns=>i.toNat::ns else none
 | _::_=>none
noncomputable def da (ns:ak):ak:=(List.range 6).filter λk=>ns.contains k
noncomputable def aL (ns:ak):ay:=ns.map λn=>.int (Int.ofNat n)
noncomputable def kE (ns ms:ak):ak:=(List.range 6).filter λk=>ns.contains k != ms.contains k
noncomputable def fF (x y:D):aA:=x.lstO.bind λxs=>y.lstO.bind λys=>(cD xs).bind λns=>(cD ys).map λms=>(1,.lst (aL (kE ms ns)))
@[simp] noncomputable def fE:D->D->aA
 | .int i,.int j=>if cZ i||cZ j then fI (i * j) else none
 | _,_=>none
@[simp] noncomputable def k6 (neg:Bool)(x y:D):aA:=if x.pur 60&&y.pur 60 then fB (if neg then !x.eq y else x.eq y) else none
@[simp] noncomputable def kI (neg:Bool)(x y:D):aA:=match y.seq with
 | some ys=>if x.pur 60&&D.pures ys then fB (if neg then !x.memb ys else x.memb ys) else none
 | none=>none
@[simp] noncomputable def bt:D->D->aA
 | x,.int i=>match x.seq with
  | some xs=>match (dR xs.length i).bind λj=>xs[j]? with
   | some d=>some (0,d)
   | none=>none
  | none=>none
 | _,_=>none
@[simp] noncomputable def bN (lo hi:Option Int):D->aA
 | .lst xs=>some (1,.lst (cutD xs lo hi))
 | .tup xs=>some (0,.tup (cutD xs lo hi))
 | _=>none
noncomputable def gi (f:Nat):D->aA
 | .ins _ fs=>match fs.lookup f with | some d=>some (0,d) | none=>none
 | .exc _ fs=>match fs.lookup f with | some d=>some (0,d) | none=>none
 | _=>none
@[simp] noncomputable def fZ (f:ay->aA):D->aA
 | .lst xs=>f xs
 | _=>none
@[simp] noncomputable def eJ (f:ay->aA)(x:D):aA:=match x.seq with | some xs=>f xs | none=>none
@[simp] noncomputable def intD:D->aA
 | .int i=>fI i
 | .bl b=>fI (if b then 1 else 0)
 | _=>none
@[simp] noncomputable def kW:D->aA
 | .bl b=>fB (!b)
 | _=>none
@[simp] noncomputable def kJ:D->aA
 | .int i=>fI (-i)
 | _=>none
@[simp] noncomputable def eO (neg:Bool):D->aA
 | .non=>fB (!neg)
 | _=>fB neg
@[simp] noncomputable def mN:D->aA
 | .lst xs=>some (0,.tup xs)
 | .tup xs=>some (0,.tup xs)
 | _=>none
noncomputable def dI (x y:D):aA:=match x with
 | .lst xs=>if y.scal&&xs.all D.scal then (match y.find xs with | some j=>fI j | none=>none) else none
 | _=>none
@[simp] theorem qg (xs:ay)(y:D):dI (.lst xs) y=if y.scal&&xs.all D.scal then (match y.find xs with | some j=>fI j | none=>none) else none:=rfl
def Fw {x y:D}{z:KD}(h:dI x y=some z):∃xs,x=.lst xs:=by cases x <;> first | exact⟨_,rfl⟩ | cases h
@[simp] noncomputable def countD (x y:D):aA:=match x.seq with
 | some xs=>if y.pur 60&&D.pures xs then fI (xs.countP λz=>z.eq y) else none
 | none=>none
noncomputable def k7 (x y:D):aA:=match x with
 | .lst xs=>if y.scal&&xs.all D.scal then fI ((xs.countP λz=>z.eq y:Nat):Int) else none
 | _=>none
@[simp] theorem cntD_lst (xs:ay)(y:D):k7 (.lst xs) y=if y.scal&&xs.all D.scal then fI ((xs.countP λz=>z.eq y:Nat):Int) else none:=rfl
noncomputable def mO (xs:ay):aA:=(fO xs).bind λis=>if is.all (λi=>decide (0<=i/\i<=10000000))=true/\is.length<=1000 then fI is.sum else none
noncomputable def AF:al->Option (Int×Int)
 | [i,j]=>some (i,j)
 | _=>none
noncomputable def FV:D->Option (Int×Int)
 | .tup xs=>(fO xs).bind AF
 | _=>none
noncomputable def mW:ay->Option (List (Int×Int))
 | []=>some []
 | x::xs=>(FV x).bind λp=>(mW xs).map λps=>p::ps
noncomputable def jI (xs:ay):aA:=(mW xs).bind λps=>if xs.length<64 then some (1,.lst (L2.xM .non (L2.pQ ps) xs)) else none
@[simp] noncomputable def jU:D->aA
 | .int j=>if 0<=j/\j<=SL then some (1,.lst (aL (List.range j.toNat))) else none
 | _=>none
noncomputable def bC (G:Pg):Op->ax->aA
 | .lst,vs=>some (bi vs+1,.lst (vs.map (·.2)))
 | .tup,vs=>some (bi vs+1,.tup (vs.map (·.2)))
 | .add,vs=>bK dH vs
 | .sub,vs=>bK (bU λi j=>fI (i - j)) vs
 | .mul,vs=>bK fE vs
 | .fdiv,vs=>bK (bU λi j=>if 0<j/\j<1000000000000000000000000000000000000000000000000 then fI (i / j) else none) vs
 | .mod,vs=>bK (bU λi j=>if 0<j then fI (i % j) else none) vs
 | .pow,vs=>bK (bU λi j=>if 0<=j/\j<=1000000/\cZ i=true then fI (i ^ j.toNat) else none) vs
 | .shr,vs=>bK (bU λi j=>if 0<=j then fI (i / 2 ^ j.toNat) else none) vs
 | .neg,vs=>cq kJ vs
 | .not,vs=>cq kW vs
 | .eq,vs=>bK (k6 false) vs
 | .ne,vs=>bK (k6 true) vs
 | .lt,vs=>bK (bU λi j=>fB (decide (i<j))) vs
 | .le,vs=>bK (bU λi j=>fB (decide (i<=j))) vs
 | .gt,vs=>bK (bU λi j=>fB (decide (j<i))) vs
 | .ge,vs=>bK (bU λi j=>fB (decide (j<=i))) vs
 | .isN,vs=>cq (eO false) vs
 | .notN,vs=>cq (eO true) vs
 | .isin,vs=>bK (kI false) vs
 | .nin,vs=>bK (kI true) vs
 | .ix,vs=>bK bt vs
 | .slL,vs=>bK (λx y=>match y with | .int i=>bN (some i) none x | _=>none) vs
 | .slH,vs=>bK (λx y=>match y with | .int i=>bN none (some i) x | _=>none) vs
 | .slLH,_=>none
 | .rev,vs=>cq (fZ λxs=>some (1,.lst xs.reverse)) vs
 | .fld f,vs=>cq (gi f) vs
 | .isi ts,vs=>cq (λx=>fB (ts.any (bh G x))) vs
 | .len,vs=>cq (eJ λxs=>fI xs.length) vs
 | .list,vs=>cq (eJ λxs=>some (1,.lst xs)) vs
 | .lrng,vs=>cq jU vs
 | .lrev,_=>none
 | .tuple,vs=>cq mN vs
 | .all,vs=>cq (fZ λxs=>match allB xs with | some b=>fB b | none=>none) vs
 | .any,vs=>cq (fZ λxs=>match anyB xs with | some b=>fB b | none=>none) vs
 | .toInt,vs=>cq intD vs
 | .sum,vs=>cq (fZ mO) vs
 | .srt,vs=>cq (fZ jI) vs
 | .srtSet,vs=>cq (fZ λxs=>match cD xs with | some ns=>some (1,.lst (aL (da ns))) | none=>none) vs
 | .symd,vs=>bK fF vs
 | .min1,_=>none
 | .min2,vs=>bK (bU λi j=>fI (if j<i then j else i)) vs
 | .max2,vs=>bK (bU λi j=>fI (if j > i then j else i)) vs
 | .index,vs=>bK dI vs
 | .count,vs=>bK k7 vs
@[simp] theorem zj (G:Pg)(vs:ax):bC G .lst vs=some (bi vs+1,.lst (vs.map (·.2))):=rfl
@[simp] theorem BK (G:Pg)(vs:ax):bC G .tup vs=some (bi vs+1,.tup (vs.map (·.2))):=rfl
@[simp] theorem DP (G:Pg)(vs:ax):bC G .add vs=bK dH vs:=rfl
@[simp] theorem opD_sub (G:Pg)(vs:ax):bC G .sub vs=bK (bU λi j=>fI (i - j)) vs:=rfl
@[simp] theorem AK (G:Pg)(vs:ax):bC G .mul vs=bK fE vs:=rfl
@[simp] theorem opD_fdiv (G:Pg)(vs:ax):bC G .fdiv vs=bK (bU λi j=>if 0<j/\j<1000000000000000000000000000000000000000000000000 then fI (i / j) else none) vs:=rfl
@[simp] theorem opD_mod (G:Pg)(vs:ax):bC G .mod vs=bK (bU λi j=>if 0<j then fI (i % j) else none) vs:=rfl
@[simp] theorem opD_pow (G:Pg)(vs:ax):bC G .pow vs=bK (bU λi j=>if 0<=j/\j<=1000000/\cZ i=true then fI (i ^ j.toNat) else none) vs:=rfl
@[simp] theorem opD_shr (G:Pg)(vs:ax):bC G .shr vs=bK (bU λi j=>if 0<=j then fI (i / 2 ^ j.toNat) else none) vs:=rfl
@[simp] theorem B3 (G:Pg)(vs:ax):bC G .neg vs=cq kJ vs:=rfl
@[simp] theorem Bq (G:Pg)(vs:ax):bC G .not vs=cq kW vs:=rfl
@[simp] theorem AS (G:Pg)(vs:ax):bC G .eq vs=bK (k6 false) vs:=rfl
@[simp] theorem zQ (G:Pg)(vs:ax):bC G .ne vs=bK (k6 true) vs:=rfl
@[simp] theorem opD_lt (G:Pg)(vs:ax):bC G .lt vs=bK (bU λi j=>fB (decide (i<j))) vs:=rfl
@[simp] theorem opD_le (G:Pg)(vs:ax):bC G .le vs=bK (bU λi j=>fB (decide (i<=j))) vs:=rfl
@[simp] theorem opD_gt (G:Pg)(vs:ax):bC G .gt vs=bK (bU λi j=>fB (decide (j<i))) vs:=rfl
@[simp] theorem opD_ge (G:Pg)(vs:ax):bC G .ge vs=bK (bU λi j=>fB (decide (j<=i))) vs:=rfl
@[simp] theorem yn (G:Pg)(vs:ax):bC G .isN vs=cq (eO false) vs:=rfl
@[simp] theorem E9 (G:Pg)(vs:ax):bC G .notN vs=cq (eO true) vs:=rfl
@[simp] theorem opD_isin (G:Pg)(vs:ax):bC G .isin vs=bK (kI false) vs:=rfl
@[simp] theorem opD_nin (G:Pg)(vs:ax):bC G .nin vs=bK (kI true) vs:=rfl
@[simp] theorem D2 (G:Pg)(vs:ax):bC G .ix vs=bK bt vs:=rfl
@[simp] theorem opD_slL (G:Pg)(vs:ax):bC G .slL vs=bK (λx y=>match y with | .int i=>bN (some i) none x | _=>none) vs:=rfl
@[simp] theorem opD_slH (G:Pg)(vs:ax):bC G .slH vs=bK (λx y=>match y with | .int i=>bN none (some i) x | _=>none) vs:=rfl
@[simp] theorem opD_slLH (G:Pg)(vs:ax):bC G .slLH vs=none:=rfl
@[simp] theorem opD_rev (G:Pg)(vs:ax):bC G .rev vs=cq (fZ λxs=>some (1,.lst xs.reverse)) vs:=rfl
@[simp] theorem Fg (G:Pg)(f:Nat)(vs:ax):bC G (.fld f) vs=cq (gi f) vs:=rfl
@[simp] theorem opD_isi (G:Pg)(ts:List Ty)(vs:ax):bC G (.isi ts) vs=cq (λx=>fB (ts.any (bh G x))) vs:=rfl
@[simp] theorem F5 (G:Pg)(vs:ax):bC G .len vs=cq (eJ λxs=>fI xs.length) vs:=rfl
@[simp] theorem x9 (G:Pg)(vs:ax):bC G .list vs=cq (eJ λxs=>some (1,.lst xs)) vs:=rfl
@[simp] theorem opD_lrng (G:Pg)(vs:ax):bC G .lrng vs=cq jU vs:=rfl
@[simp] theorem opD_lrev (G:Pg)(vs:ax):bC G .lrev vs=none:=rfl
@[simp] theorem Dd (G:Pg)(vs:ax):bC G .tuple vs=cq mN vs:=rfl
@[simp] theorem CA (G:Pg)(vs:ax):bC G .all vs=cq (fZ λxs=>match allB xs with | some b=>fB b | none=>none) vs:=rfl
@[simp] theorem opD_any (G:Pg)(vs:ax):bC G .any vs=cq (fZ λxs=>match anyB xs with | some b=>fB b | none=>none) vs:=rfl
@[simp] theorem opD_toInt (G:Pg)(vs:ax):bC G .toInt vs=cq intD vs:=rfl
@[simp] theorem opD_sum (G:Pg)(vs:ax):bC G .sum vs=cq (fZ mO) vs:=rfl
@[simp] theorem opD_srt (G:Pg)(vs:ax):bC G .srt vs=cq (fZ jI) vs:=rfl
@[simp] theorem AO (G:Pg)(vs:ax):bC G .srtSet vs=cq (fZ λxs=>match cD xs with | some ns=>some (1,.lst (aL (da ns))) | none=>none) vs:=rfl
@[simp] theorem opD_symd (G:Pg)(vs:ax):bC G .symd vs=bK fF vs:=rfl
@[simp] theorem opD_min1 (G:Pg)(vs:ax):bC G .min1 vs=none:=rfl
@[simp] theorem opD_min2 (G:Pg)(vs:ax):bC G .min2 vs=bK (bU λi j=>fI (if j<i then j else i)) vs:=rfl
@[simp] theorem opD_max2 (G:Pg)(vs:ax):bC G .max2 vs=bK (bU λi j=>fI (if j > i then j else i)) vs:=rfl
@[simp] theorem C3 (G:Pg)(vs:ax):bC G .index vs=bK dI vs:=rfl
@[simp] theorem opD_count (G:Pg)(vs:ax):bC G .count vs=bK k7 vs:=rfl
@[simp,reducible] noncomputable def R.of {α:Type}:Option α->R α
 | some a=>.ok a
 | none=>.bad
def bY {α:Type}{x:α}(h:(none:Option α)=some x):False:=nomatch h
noncomputable def nV (f:D->Option ay):ax->Option ay
 | []=>none
 | x::r=>match r with
  | []=>f x.2
  | _::_=>none
noncomputable def oP (f:D->D->Option ay):ax->Option ay
 | []=>none
 | x::r=>match r with
  | []=>none
  | y::t=>match t with
   | []=>f x.2 y.2
   | _::_=>none
noncomputable def zY (f:D->D->D->Option ay):ax->Option ay
 | []=>none
 | x::r=>oP (λy z=>f x.2 y z) r
def sU {f:D->Option ay}{vs:ax}{ds:ay}(h:nV f vs=some ds):∃x,vs=[x]/\f x.2=some ds:=by
 cases vs with
 | nil=>exact (bY h).elim
 | cons x r=>
  cases r with
  | nil=>exact⟨x,rfl,h⟩
  | cons _ _=>exact (bY h).elim
def wm {f:D->D->Option ay}{vs:ax}{ds:ay}(h:oP f vs=some ds):∃x y,vs=[x,y]/\f x.2 y.2=some ds:=by
 cases vs with
 | nil=>exact (bY h).elim
 | cons x r=>
  cases r with
  | nil=>exact (bY h).elim
  | cons y t=>
   cases t with
   | nil=>exact⟨x,y,rfl,h⟩
   | cons _ _=>exact (bY h).elim
noncomputable def eG:D->Option Int
 | .int i=>some i
 | _=>none
def ml {d:D}{i:Int}(h:eG d=some i):d=.int i:=by
 cases d <;> first | exact (bY h).elim | exact congrArg D.int (cG h)
noncomputable def jS (d:D):Option ay:=(eG d).bind λj=>if cZ j=true then some ((List.range j.toNat).map λ(n:Nat)=>.int n) else none
noncomputable def nr (d e:D):Option ay:=(eG d).bind λi=>(eG e).bind λj=>if cZ i=true/\cZ j=true then some ((List.range (j - i).toNat).map λ(n:Nat)=>.int (i+n)) else none
noncomputable def jD (d e g:D):Option ay:=(eG d).bind λi=>(eG e).bind λj=>(eG g).bind λk=>if cZ i=true/\cZ j=true/\k = -1 then some ((List.range (i - j).toNat).map λ(n:Nat)=>.int (i - n)) else none
noncomputable def jQ (x:D):Option ay:=x.lstO.map λxs=>xs.mapIdx λn d=>.tup [.int n,d]
noncomputable def mC (x y:D):Option ay:=x.seq.bind λxs=>y.seq.map λys=>(xs.zip ys).map λp=>.tup [p.1,p.2]
noncomputable def dJ:Wk->ax->Option ay
 | .seq=>nV D.seq
 | .rng1=>nV jS
 | .rng2=>oP nr
 | .enum=>nV jQ
 | .zip=>oP mC
 | .rngD=>zY jD
noncomputable abbrev Sl:=List (Option D)
@[simp] noncomputable def de (a:Sl):aE->Option D
 | some i=>(a[i]?).join
 | none=>none
@[simp] noncomputable def cY {α:Type}(f:D->α):ak->ay->List (Option α)->List (Option α)
 | i::is,d::ds,a=>cY f is ds (a.set i (some (f d)))
 | _,_,a=>a
@[simp] noncomputable def d9 {α:Type}(f:D->α)(a:List (Option α)):Tg->D->Option (List (Option α))
 | .one i,d=>some (a.set i (some (f d)))
 | .many is,d=>match d with
  | .tup ds=>if ds.length=is.length then some (cY f is ds a) else none
  | _=>none
noncomputable def be (f:D->R aA):ay->R ax
 | []=>.ok []
 | x::xs=>(f x).bind λo=>(be f xs).bind λys=>.ok (match o with | some y=>y::ys | none=>ys)
@[simp] noncomputable def R.bl (r:R KD):R Bool:=r.bind λx=>match x.2 with
 | .bl b=>.ok b
 | _=>.bad
@[simp] noncomputable def R.nox {α:Type}(r:R α):R α:=match r with | .exc _ _=>.bad | r=>r
noncomputable def gX {α:Type}(d:D)(t e b:α):α:=match d with
 | .bl c=>if c then t else e
 | _=>b
@[simp] theorem lH {α:Type}(c:Bool)(t e b:α):gX (.bl c) t e b=if c then t else e:=rfl
section
variable (G:Pg)(cl:Nat->ax->Run)
@[simp] noncomputable def iX:Run->R KD
 | .ret k d []=>.ok (k,d)
 | .exc c fs []=>.exc c fs
 | _=>.bad
@[simp] noncomputable def fill (F:Fn)(vs:ax):ax:=vs++(F.dfl.drop (F.dfl.length - (F.np - vs.length))).map λd=>(99,d)
@[simp] noncomputable def dM (f m:Nat):Option Fn:=match G.fn f with
 | some F=>if F.io=[]/\m<=F.np/\F.np - m<=F.dfl.length then some F else none
 | none=>none
noncomputable def bV (c m:Nat):Option (Nat×Fn×D):=match G.cl c with
 | some C=>match C.init with
  | some f=>match G.fn f with
   | some F=>if F.io=[0]/\m+1<=F.np/\F.np - (m+1)<=F.dfl.length/\m<=50 then some (f,F,if C.isx then .exc c [] else .ins c []) else none
   | none=>none
  | none=>none
 | none=>none
@[simp] noncomputable def made:Run->R KD
 | .ret _ .non [x]=>.ok x
 | .exc c fs _=>.exc c fs
 | _=>.bad
@[simp] noncomputable def gH (p:Nat×Fn×D)(vs:ax):R KD:=made (cl p.1 ((1,p.2.2)::fill { p.2.1 with np:=p.2.1.np - 1 } vs))
noncomputable def cj (m k:Nat):D->Option (Nat×Fn)
 | .ins c fs=>match G.cl c with
  | some C=>match C.meths.lookup m with
   | some f=>match G.fn f with
    | some F=>if F.io=[]/\fs.lookup m=none/\k+1<=F.np/\F.np - (k+1)<=F.dfl.length then some (f,F) else none
    | none=>none
   | none=>none
  | none=>none
 | _=>none
@[simp] noncomputable def kl (i:Int)(x:D):D->R KD
 | .int j=>R.of (bN (some i) (some j) x)
 | _=>.bad
mutual
noncomputable def eval (a:Sl):Ex->R KD
 | .var i=>match a[i]? with
  | some (some d)=>.ok (0,d)
  | _=>.bad
 | .cst d=>.ok (99,d)
 | .op o es=>(evals a es).bind λvs=>R.of (bC G o vs)
 | .and x y=>(eval a x).bind λv=>gX v.2 (eval a y) (ma false) .bad
 | .or x y=>(eval a x).bind λv=>gX v.2 (ma true) (eval a y) .bad
 | .ite c x y=>(eval a c).bind λv=>gX v.2 (eval a x) (eval a y) .bad
 | .chain o p x y z=>(eval a x).bind λu=>(eval a y).bind λv=>(R.of (bC G o [u,v])).bind λb=>gX b.2 ((eval a z).bind λw=>R.of (bC G p [v,w])) (ma false) .bad
 | .sl2 x y z=>(eval a x).bind λu=>(eval a y).bind λv=>match v.2 with
  | .int i=>(eval a z).bind λw=>kl i u.2 w.2
  | _=>.bad
 | .comp caps tg wk it t e=>(evals a it).bind λvs=>match dJ wk vs with
  | some xs=>if xs.length<=SL then
    ((be (λx=>match d9 id (caps.map (de a)) tg x with
     | some b=>((evals b t).bind λts=>match ts with
      | []=>(eval b e).bind λy=>.ok (some y)
      | [t]=>gX t.2 ((eval b e).bind λy=>.ok (some y)) (.ok none) .bad
      | _=>.bad)
     | none=>.bad) xs).nox).bind λys=>.ok (bi ys+1,.lst (ys.map (·.2)))
   else .bad
  | none=>.bad
 | .call f es=>(R.of (dM G f es.length)).bind λF=>(evals a es).bind λvs=>iX (cl f (fill F vs))
 | .make c es=>(R.of (bV G c es.length)).bind λp=>(evals a es).bind (gH cl p)
 | .meth m o es=>(eval a o).bind λx=>(R.of (cj G m es.length x.2)).bind λp=>(evals a es).bind λvs=>iX (cl p.1 (fill p.2 (x::vs)))
 | .bad=>.bad
noncomputable def evals (a:Sl):aG->R ax
 | []=>.ok []
 | e::es=>(eval a e).bind λx=>(evals a es).bind λxs=>.ok (x::xs)
end
@[simp] theorem dk (a:Sl):evals G cl a []=.ok []:=rfl
@[simp] theorem bL (a:Sl)(e:Ex)(es:aG):evals G cl a (e::es)=(eval G cl a e).bind λx=>(evals G cl a es).bind λxs=>.ok (x::xs):=rfl
noncomputable def compF (b0:Sl)(tg:Tg)(t:aG)(e:Ex)(x:D):R aA:=match d9 id b0 tg x with
 | some b=>(evals G cl b t).bind λts=>match ts with
  | []=>(eval G cl b e).bind λy=>.ok (some y)
  | [t]=>gX t.2 ((eval G cl b e).bind λy=>.ok (some y)) (.ok none) .bad
  | _=>.bad
 | none=>.bad
@[simp] theorem gM (a:Sl)(i:Nat):eval G cl a (.var i)=match a[i]? with
  | some (some d)=>.ok (0,d)
  | _=>.bad:=rfl
@[simp] theorem l9 (a:Sl)(d:D):eval G cl a (.cst d)=.ok (99,d):=rfl
@[simp] theorem cR (a:Sl)(o:Op)(es:aG):eval G cl a (.op o es)=(evals G cl a es).bind λvs=>R.of (bC G o vs):=rfl
@[simp] theorem mQ (a:Sl)(x y:Ex):eval G cl a (.and x y)=(eval G cl a x).bind λv=>gX v.2 (eval G cl a y) (ma false) .bad:=rfl
@[simp] theorem nP (a:Sl)(x y:Ex):eval G cl a (.or x y)=(eval G cl a x).bind λv=>gX v.2 (ma true) (eval G cl a y) .bad:=rfl
@[simp] theorem uZ (a:Sl)(c x y:Ex):eval G cl a (.ite c x y)=(eval G cl a c).bind λv=>gX v.2 (eval G cl a x) (eval G cl a y) .bad:=rfl
@[simp] theorem sh (a:Sl)(o p:Op)(x y z:Ex):eval G cl a (.chain o p x y z)=(eval G cl a x).bind λu=>(eval G cl a y).bind λv=>(R.of (bC G o [u,v])).bind λb=>
  gX b.2 ((eval G cl a z).bind λw=>R.of (bC G p [v,w])) (ma false) .bad:=rfl
@[simp] theorem sK (a:Sl)(x y z:Ex):eval G cl a (.sl2 x y z)=(eval G cl a x).bind λu=>(eval G cl a y).bind λv=>match v.2 with
  | .int i=>(eval G cl a z).bind λw=>kl i u.2 w.2
  | _=>.bad:=rfl
@[simp] theorem lG (a:Sl)(f:Nat)(es:aG):eval G cl a (.call f es)=(R.of (dM G f es.length)).bind λF=>(evals G cl a es).bind λvs=>iX (cl f (fill F vs)):=rfl
@[simp] theorem lP (a:Sl)(f:Nat)(es:aG):eval G cl a (.make f es)=(R.of (bV G f es.length)).bind λp=>(evals G cl a es).bind (gH cl p):=rfl
@[simp] theorem jY (a:Sl)(m:Nat)(o:Ex)(es:aG):eval G cl a (.meth m o es)=(eval G cl a o).bind λx=>(R.of (cj G m es.length x.2)).bind λp=>(evals G cl a es).bind λvs=>iX (cl p.1 (fill p.2 (x::vs))):=rfl
@[simp] theorem fG (a:Sl):eval G cl a .bad=.bad:=rfl
@[simp] theorem lF (a:Sl)(caps:List aE)(tg:Tg)(wk:Wk)(it t:aG)(e:Ex):eval G cl a (.comp caps tg wk it t e)=(evals G cl a it).bind λvs=>match dJ wk vs with
  | some xs=>if xs.length<=SL then ((be (compF G cl (caps.map (de a)) tg t e) xs).nox).bind λys=>.ok (bi ys+1,.lst (ys.map (·.2))) else .bad
  | none=>.bad:=by
 rfl
noncomputable abbrev Fr:=List aA
@[simp] noncomputable def Fr.sl (A:Fr):Sl:=A.map (Option.map (·.2))
inductive O where
 | nx (A:Fr) | ret (k:Nat) (d:D) (A:Fr) | brk (A:Fr) | cnt (A:Fr) | exc (c:Nat) (fs:List aK) (A:Fr) | bad
mutual
@[simp] noncomputable def Ex.names:Ex->ak
 | .var i=>[i]
 | .cst _=>[]
 | .op _ es=>Ex.namess es
 | .and a b=>a.names++b.names
 | .or a b=>a.names++b.names
 | .ite c a b=>c.names++(a.names++b.names)
 | .chain _ _ a b c=>a.names++(b.names++c.names)
 | .sl2 a b c=>a.names++(b.names++c.names)
 | .comp caps _ _ it _ _=>caps.filterMap id++Ex.namess it
 | .call _ es=>Ex.namess es
 | .make _ es=>Ex.namess es
 | .meth _ o es=>o.names++Ex.namess es
 | .bad=>[]
@[simp] noncomputable def Ex.namess:aG->ak
 | []=>[]
 | e::es=>e.names++Ex.namess es
end
@[simp] noncomputable def frz1 (A:Fr)(i:Nat):Fr:=match A[i]? with
 | some (some (_,d))=>A.set i (some (0,d))
 | _=>A
@[simp] noncomputable def frz (ns:ak)(A:Fr):Fr:=ns.foldl frz1 A
noncomputable def cg (A:Fr):Fr:=A.map (Option.map λx=>(0,x.2))
@[simp] noncomputable def settle (ns:ak)(A:Fr)(x:KD):Fr:=if x.2.fb x.1 then A else frz ns A
@[simp] noncomputable def excA (A:Fr)(fs:List aK):Fr:=if fs.all λp=>p.2.flat then A else cg A
@[simp] noncomputable def putF (f:Nat)(d:D):List aK->List aK
 | []=>[(f,d)]
 | (g,e)::r=>if g=f then (g,d)::r else (g,e)::putF f d r
noncomputable def bM (body:D->Fr->O):ay->Fr->O
 | [],A=>.nx A
 | x::xs,A=>match body x A with
  | .nx A=>bM body xs A
  | .cnt A=>bM body xs A
  | .brk A=>.nx A
  | o=>o
@[simp] noncomputable def R.toO {α:Type}(r:R α)(A:Fr)(f:α->O):O:=match r with
 | .ok a=>f a
 | .exc c fs=>.exc c fs (excA A fs)
 | .bad=>.bad
@[simp] noncomputable def O.seq (o:O)(f:Fr->O):O:=match o with
 | .nx A=>f A
 | o=>o
noncomputable def D.isI:D->Bool
 | .int _=>true
 | _=>false
noncomputable def fX (m:Mu)(k:Nat)(xs:ay)(vs:ax):aA:=match m,vs with
 | .append,[v]=>if xs.length<SL then some (cK k xs v+1,.lst (xs++[v.2])) else none
 | .extend,[v]=>match v.2 with
  | .tup ys=>if ys.all D.scal=true/\xs.length+ys.length<=SL then some (1,.lst (xs++ys)) else none
  | _=>none
 | .clear,[]=>some (99,.lst [])
 | .insert,[v,w]=>match v.2 with
  | .int i=>if 0<=i/\i.toNat<=xs.length/\xs.length<SL then some (1,.lst (xs.take i.toNat++w.2::xs.drop i.toNat)) else none
  | _=>none
 | .remove,[v]=>match v.2 with
  | .int i=>if xs.all D.isI=true then (match D.find (.int i) xs with | some j=>some (1,.lst (xs.eraseIdx j)) | none=>none) else none
  | _=>none
 | .pop0,[]=>if xs=[] then none else some (k+1,.lst xs.dropLast)
 | _,_=>none
@[simp] theorem vG (k:Nat)(xs:ay)(v:KD):fX .append k xs [v]=if xs.length<SL then some (cK k xs v+1,.lst (xs++[v.2])) else none:=rfl
@[simp] theorem mutD_clear (k:Nat)(xs:ay):fX .clear k xs []=some (99,.lst []):=rfl
@[simp] theorem rX (k:Nat)(xs:ay)(v w:KD):fX .insert k xs [v,w]=match v.2 with
  | .int i=>if 0<=i/\i.toNat<=xs.length/\xs.length<SL then some (1,.lst (xs.take i.toNat++w.2::xs.drop i.toNat)) else none
  | _=>none:=rfl
@[simp] theorem vm (k:Nat)(xs:ay)(v:KD):fX .remove k xs [v]=match v.2 with
  | .int i=>if xs.all D.isI=true then (match D.find (.int i) xs with | some j=>some (1,.lst (xs.eraseIdx j)) | none=>none) else none
  | _=>none:=rfl
@[simp] theorem vH (k:Nat)(xs:ay)(v:KD):fX .extend k xs [v]=match v.2 with
  | .tup ys=>if ys.all D.scal=true/\xs.length+ys.length<=SL then some (1,.lst (xs++ys)) else none
  | _=>none:=rfl
noncomputable def gw (v:D):ay->Option ay
 | []=>some []
 | .lst xs::ds=>if xs.length<SL then (gw v ds).map λes=>.lst (xs++[v])::es else none
 | _::_=>none
section
variable (io:ak)
@[simp] noncomputable def ck (i:Nat)(x:KD)(A:Fr):O:=if io.contains i=false/\i<A.length then .nx (A.set i (some x)) else .bad
@[simp] noncomputable def setFs:ak->ax->Fr->O
 | [],[],A=>.nx A
 | i::is,x::xs,A=>(ck io i x A).seq (setFs is xs)
 | _,_,_=>.bad
@[simp] noncomputable def cy (tg:Tg)(d:D)(A:Fr):O:=match tg,d with
 | .one i,d=>ck io i (0,d) A
 | .many is,.tup ds=>setFs io is (ds.map λd=>(0,d)) A
 | .many is,.lst ds=>setFs io is (ds.map λd=>(0,d)) A
 | _,_=>.bad
@[simp] noncomputable def gL (io:ak)(is:ak)(e:Ex)(A:Fr)(x:KD):O:=match x.2 with
 | .tup ds=>setFs io is (ds.map λd=>(0,d)) (settle e.names A x)
 | .lst ds=>setFs io is (ds.map λd=>(0,d)) (settle e.names A x)
 | _=>.bad
noncomputable def cU (A:Fr)(e:Ex)(r:R KD):O:=match e with
 | .var i=>match A[i]? with
  | some (some x)=>.ret x.1 x.2 (A.set i none)
  | _=>.bad
 | e=>r.toO A λx=>.ret x.1 x.2 (settle e.names A x)
@[simp] theorem vz (A:Fr)(i:Nat)(r:R KD):cU A (.var i) r=match A[i]? with
  | some (some x)=>.ret x.1 x.2 (A.set i none)
  | _=>.bad:=rfl
@[simp] theorem retO_cst (A:Fr)(d:D)(r:R KD):cU A (.cst d) r=r.toO A λx=>.ret x.1 x.2 (settle (Ex.cst d).names A x):=rfl
@[simp] theorem retO_op (A:Fr)(o:Op)(es:aG)(r:R KD):cU A (.op o es) r=r.toO A λx=>.ret x.1 x.2 (settle (Ex.op o es).names A x):=rfl
@[simp] theorem retO_and (A:Fr)(x y:Ex)(r:R KD):cU A (.and x y) r=r.toO A λz=>.ret z.1 z.2 (settle (Ex.and x y).names A z):=rfl
@[simp] theorem retO_or (A:Fr)(x y:Ex)(r:R KD):cU A (.or x y) r=r.toO A λz=>.ret z.1 z.2 (settle (Ex.or x y).names A z):=rfl
@[simp] theorem retO_ite (A:Fr)(c x y:Ex)(r:R KD):cU A (.ite c x y) r=r.toO A λz=>.ret z.1 z.2 (settle (Ex.ite c x y).names A z):=rfl
@[simp] theorem retO_chain (A:Fr)(o p:Op)(x y w:Ex)(r:R KD):cU A (.chain o p x y w) r=r.toO A λz=>.ret z.1 z.2 (settle (Ex.chain o p x y w).names A z):=rfl
@[simp] theorem retO_sl2 (A:Fr)(x y w:Ex)(r:R KD):cU A (.sl2 x y w) r=r.toO A λz=>.ret z.1 z.2 (settle (Ex.sl2 x y w).names A z):=rfl
@[simp] theorem retO_comp (A:Fr)(caps:List aE)(tg:Tg)(wk:Wk)(it t:aG)(e:Ex)(r:R KD):cU A (.comp caps tg wk it t e) r=r.toO A λz=>.ret z.1 z.2 (settle (Ex.comp caps tg wk it t e).names A z):=rfl
@[simp] theorem retO_call (A:Fr)(f:Nat)(es:aG)(r:R KD):cU A (.call f es) r=r.toO A λz=>.ret z.1 z.2 (settle (Ex.call f es).names A z):=rfl
@[simp] theorem retO_make (A:Fr)(f:Nat)(es:aG)(r:R KD):cU A (.make f es) r=r.toO A λz=>.ret z.1 z.2 (settle (Ex.make f es).names A z):=rfl
@[simp] theorem retO_meth (A:Fr)(f:Nat)(o:Ex)(es:aG)(r:R KD):cU A (.meth f o es) r=r.toO A λz=>.ret z.1 z.2 (settle (Ex.meth f o es).names A z):=rfl
@[simp] theorem retO_bad (A:Fr)(r:R KD):cU A .bad r=r.toO A λz=>.ret z.1 z.2 (settle Ex.bad.names A z):=rfl
@[simp] noncomputable def iw (ns:ak)(A:Fr)(x:KD):O:=match x with
 | (_+1,.exc c fs)=>.exc c fs (excA (settle ns A x) fs)
 | _=>.bad
@[simp] noncomputable def d7 (m:Mu)(vs:ax)(A:Fr)(x:Nat):Option aA->O
 | some (some (k+1,.lst xs))=>match fX m k xs vs with
  | some y=>.nx (A.set x (some y))
  | none=>.bad
 | _=>.bad
noncomputable def sP (m:Mu)(vs:ax)(A:Fr)(x:Nat)(i:Int):Option aA->O
 | some (some (k+2,.lst xs))=>match dR xs.length i with
  | some j=>match xs[j]? with
   | some (.lst ys)=>match fX m k ys vs with
    | some y=>.nx (A.set x (some (cK (k+1) (xs.eraseIdx j) y+1,.lst (xs.set j y.2))))
    | none=>.bad
   | _=>.bad
  | none=>.bad
 | _=>.bad
@[simp] noncomputable def cz:Option aA->Bool
 | some (some (_,.lst _))=>true
 | _=>false
@[simp] noncomputable def dS (m:Mu)(A:Fr)(x:Nat)(es:aG)(ps vs:ax):O:=
 let A1:=if vs.all (λv=>v.2.fb v.1) then A else frz (Ex.namess es) A
 match ps with
 | []=>d7 m vs A1 x A1[x]?
 | [(_,.int i)]=>sP m vs A1 x i A1[x]?
 | _=>.bad
@[simp] noncomputable def iU (A:Fr)(x:Nat)(v w:KD):Option aA->O
 | some (some (k+1,.lst xs))=>match w.2 with
  | .int i=>if 0<=i/\i<xs.length then .nx (A.set x (some (1,.lst (xs.set i.toNat v.2)))) else .bad
  | _=>.bad
 | _=>.bad
@[simp] noncomputable def gA (A:Fr)(x f:Nat)(v:KD):Option aA->O
 | some (some (k+1,.ins c fs))=>if fs.length<50 then .nx (A.set x (some (cK k (fs.map (·.2)) v+1,.ins c (putF f v.2 fs)))) else .bad
 | some (some (k+1,.exc c fs))=>if fs.length<50 then .nx (A.set x (some (cK k (fs.map (·.2)) v+1,.exc c (putF f v.2 fs)))) else .bad
 | _=>.bad
@[simp] noncomputable def g8 (A:Fr):ax->O
 | (_,.exc _ _)::_=>.nx A
 | _=>.bad
@[simp] noncomputable def i9 (G:Pg)(io:ak)(c i x:Nat):O->O
 | .exc c' fs A'=>if bh G (.exc c' fs) (.cls c)=true then (ck io x (0,.exc c' fs) A').seq λA=>if io.contains i=false/\i≠x/\i<A.length then .nx (A.set i none) else .bad else .bad
 | o=>o
@[simp] noncomputable def appAll0 (io:ak)(A:Fr)(x y:Nat)(v:KD):Option aA->O
 | some (some (k+2,.lst ds))=>if v.2.flat=true/\io.contains x=false/\x≠y/\x<A.length then match gw v.2 ds with
   | some es=>.nx ((A.set y (some (k+2,.lst es))).set x none)
   | none=>.bad
  else .bad
 | _=>.bad
@[simp] noncomputable def lstK:Option aA->Option (Nat×ay)
 | some (some (k,.lst xs))=>some (k,xs)
 | _=>none
def DU {o:Option aA}{z:Nat×ay}(h:lstK o=some z):o=some (some (z.1,.lst z.2)):=by
 match o with
 | none=>exact (bY h).elim
 | some none=>exact (bY h).elim
 | some (some (k,d))=>cases d <;> first | exact (bY h).elim | (cases h; rfl)
@[simp] noncomputable def lw (A:Fr)(j:Nat):Fr:=match A[j]? with
 | some (some (_+1,x))=>A.set j (some (1,x))
 | _=>A
@[simp] noncomputable def ie (io:ak)(i j:Nat)(A:Fr)(z:Nat×ay)(x:KD):O:=match x.2 with
 | .int n=>(match (dR z.2.length n).bind λm=>z.2[m]? with
  | some d=>ck io i (0,d) (lw A j)
  | none=>.bad)
 | _=>.bad
@[simp] noncomputable def g9 (io:ak)(i j:Nat)(A:Fr)(r:R KD):Option (Nat×ay)->O
 | some z=>r.toO A (ie io i j A z)
 | none=>.bad
@[simp] noncomputable def retP0 (A:Fr)(s:Str)(i:Nat):Option aA->O
 | some (some x)=>.ret (x.1+1) (.tup [.str s,x.2]) (A.set i none)
 | _=>.bad
@[simp] noncomputable def appAt0 (A:Fr)(x i:Nat)(v:KD):Option aA->O
 | some (some (k+2,.tup ds))=>match ds[i]? with
  | some (.lst ys)=>if v.2.scal=true/\ys.length<SL then .nx (A.set x (some (k+2,.tup (ds.set i (.lst (ys++[v.2])))))) else .bad
  | _=>.bad
 | _=>.bad
@[simp] noncomputable def Wk.rng:Wk->Bool
 | .rng1=>true
 | .rng2=>true
 | .rngD=>true
 | _=>false
@[simp] noncomputable def Wk.fz (wk:Wk)(it:aG):ak:=if wk.rng=true then [] else Ex.namess it
@[simp] noncomputable def lQ (G:Pg)(loop:ay->Fr->O)(wk:Wk)(it:aG)(A:Fr)(vs:ax):O:=match dJ wk vs with
 | some xs=>if xs.length<=SL then loop xs (frz (wk.fz it) A) else .bad
 | none=>.bad
mutual
noncomputable def exec (A:Fr):S->O
 | .set i e=>(eval G cl A.sl e).toO A λx=>ck io i x (settle e.names A x)
 | .setT is e=>(eval G cl A.sl e).toO A (gL io is e A)
 | .ret e=>cU A e (eval G cl A.sl e)
 | .ex e=>(eval G cl A.sl e).toO A λx=>.nx (settle e.names A x)
 | .iff c t e=>((eval G cl A.sl c).bl).toO A λb=>if b then execs A t else execs A e
 | .fo tg wk it b=>(evals G cl A.sl it).toO A (lQ G (bM λx A=>(cy io tg x A).seq λA=>execs A b) wk it A)
 | .brk=>.brk A
 | .cnt=>.cnt A
 | .pass=>.nx A
 | .rais c es=>(eval G cl A.sl (.make c es)).toO A (iw (Ex.make c es).names A)
 | .mut x path m es=>if cz A[x]? then (evals G cl A.sl path).toO A λps=>(evals G cl A.sl es).toO A (dS m A x es ps) else .bad
 | .put x path i e=>if path.isEmpty=true then (eval G cl A.sl e).toO A λv=>(eval G cl A.sl i).toO A λw=>iU (settle e.names A v) x v w (settle e.names A v)[x]? else .bad
 | .sfld x f e=>(eval G cl A.sl e).toO A λv=>gA (settle e.names A v) x f v (settle e.names A v)[x]?
 | .xinit es=>(evals G cl A.sl es).toO A (g8 A)
 | .tryE b c i x=>i9 G io c i x (execs A b)
 | .setI i j e=>g9 io i j A (eval G cl A.sl e) (lstK A[j]?)
 | .bad=>.bad
noncomputable def execs (A:Fr):az->O
 | []=>.nx A
 | s::ss=>(exec A s).seq λA=>execs A ss
end
end
end
section
variable (G:Pg)(cl:Nat->ax->Run)(io:ak)
@[simp] theorem rq (A:Fr):execs G cl io A []=.nx A:=rfl
@[simp] theorem md (A:Fr)(s:S)(ss:az):execs G cl io A (s::ss)=(exec G cl io A s).seq λA=>execs G cl io A ss:=rfl
noncomputable def gp (tg:Tg)(b:az)(x:D)(A:Fr):O:=(cy io tg x A).seq λA=>execs G cl io A b
@[simp] theorem kC (A:Fr)(i:Nat)(e:Ex):exec G cl io A (.set i e)=(eval G cl A.sl e).toO A λx=>ck io i x (settle e.names A x):=rfl
@[simp] theorem wE (A:Fr)(is:ak)(e:Ex):exec G cl io A (.setT is e)=(eval G cl A.sl e).toO A (gL io is e A):=rfl
@[simp] theorem ou (A:Fr)(e:Ex):exec G cl io A (.ret e)=cU A e (eval G cl A.sl e):=rfl
@[simp] theorem pe (A:Fr)(e:Ex):exec G cl io A (.ex e)=(eval G cl A.sl e).toO A λx=>.nx (settle e.names A x):=rfl
@[simp] theorem tV (A:Fr)(c:Ex)(t e:az):exec G cl io A (.iff c t e)=((eval G cl A.sl c).bl).toO A λb=>if b then execs G cl io A t else execs G cl io A e:=rfl
@[simp] theorem exec_brk (A:Fr):exec G cl io A .brk=.brk A:=rfl
@[simp] theorem exec_cnt (A:Fr):exec G cl io A .cnt=.cnt A:=rfl
@[simp] theorem exec_pass (A:Fr):exec G cl io A .pass=.nx A:=rfl
@[simp] theorem yX (A:Fr)(c:Nat)(es:aG):exec G cl io A (.rais c es)=(eval G cl A.sl (.make c es)).toO A (iw (Ex.make c es).names A):=rfl
@[simp] theorem iz (A:Fr)(x:Nat)(path:aG)(m:Mu)(es:aG):exec G cl io A (.mut x path m es)=if cz A[x]? then (evals G cl A.sl path).toO A λps=>(evals G cl A.sl es).toO A (dS m A x es ps) else .bad:=rfl
@[simp] theorem uT (A:Fr)(x:Nat)(path:aG)(i e:Ex):exec G cl io A (.put x path i e)=if path.isEmpty=true then (eval G cl A.sl e).toO A λv=>(eval G cl A.sl i).toO A λw=>iU (settle e.names A v) x v w (settle e.names A v)[x]? else .bad:=rfl
@[simp] theorem As (A:Fr)(x f:Nat)(e:Ex):exec G cl io A (.sfld x f e)=(eval G cl A.sl e).toO A λv=>gA (settle e.names A v) x f v (settle e.names A v)[x]?:=rfl
@[simp] theorem CT (A:Fr)(es:aG):exec G cl io A (.xinit es)=(evals G cl A.sl es).toO A (g8 A):=rfl
@[simp] theorem tM (A:Fr)(b:az)(c i x:Nat):exec G cl io A (.tryE b c i x)=i9 G io c i x (execs G cl io A b):=rfl
@[simp] theorem vP (A:Fr)(i j:Nat)(e:Ex):exec G cl io A (.setI i j e)=g9 io i j A (eval G cl A.sl e) (lstK A[j]?):=rfl
@[simp] theorem BZ (A:Fr):exec G cl io A .bad=.bad:=rfl
@[simp] theorem pN (A:Fr)(tg:Tg)(wk:Wk)(it:aG)(b:az):exec G cl io A (.fo tg wk it b)=(evals G cl A.sl it).toO A (lQ G (bM (gp G cl io tg b)) wk it A):=by
 rfl
end
def uJ {j:Nat}{x:KD}(h:x.2.flat=true):br j x=true:=by simp[br,h]
@[simp] theorem joinK_nil:bi []=98:=rfl
@[simp] theorem pr {x:KD}{xs:ax}(h:x.2.flat=true):bi (x::xs)=bi xs:=by
 have h2:∀j,br j x=true:=λj=>uJ h;unfold bi;rw[List.find?_cons_of_neg (by simp[h])];cases xs.find? λx=>!x.2.flat with
 | none=>rfl
 | some y=>
  show (if (br y.1 x&&xs.all (br y.1))=true then y.1 else 0)=if xs.all (br y.1)=true then y.1 else 0
  rw[h2 y.1,Bool.true_and]
@[simp] noncomputable def outs (A:Fr):ak->Option ax
 | []=>some []
 | i::is=>match A[i]? with
  | some (some x)=>(outs A is).map λxs=>x::xs
  | _=>none
@[simp] noncomputable def fin (io:ak):O->Run
 | .nx A=>match outs A io with
  | some xs=>.ret 99 .non xs
  | none=>.bad
 | .ret k d A=>match outs A io with
  | some xs=>.ret k d xs
  | none=>.bad
 | .exc c fs A=>match outs A io with
  | some xs=>.exc c fs xs
  | none=>.bad
 | _=>.bad
@[simp] noncomputable def bW (F:Fn)(vs:ax):Fr:=vs.mapIdx (λi v=>if F.io.contains i then some v else some (0,v.2))++List.replicate (F.ns - F.np) none
noncomputable def run (G:Pg):Nat->Nat->ax->Run
 | 0,_,_=>.bad
 | n+1,f,vs=>match G.fn f with
  | some F=>if vs.length=F.np then fin F.io (execs G (run G n) F.io (bW F vs) F.body) else .bad
  | none=>.bad
end
end Ip
end
section
namespace Ip
open PySem
structure Tb where
 fns:List (Str×Nat)
 cls:List (Str×Nat)
 wb:Str
 att:au
 fl:ak
 cst:List (Str×D)
noncomputable def pos? (x:Str):au->aE
 | []=>none
 | y::ys=>if y == x then some 0 else (pos? x ys).map (·+1)
theorem pos?_get {x:Str}:∀{l:au} {i:Nat},pos? x l=some i->l[i]? = some x
 | [],_,h=>by simp[pos?] at h
 | y::ys,i,h=>by
  unfold pos? at h;by_cases e:(y == x)=true
  .rw[if_pos e] at h;cases h;simpa using e
  .rw[if_neg e] at h;cases q:pos? x ys with
   | none=>rw[q] at h; cases h
   | some j=>rw[q] at h; cases h; simpa using pos?_get q
noncomputable def qz:Operator->Option Op
 | .Add=>some .add | .Sub=>some .sub | .Mult=>some .mul | .FloorDiv=>some .fdiv | .Mod=>some .mod | .Pow=>some .pow
 | _=>none
noncomputable def gQ:CmpOp->Option Op
 | .Eq=>some .eq | .NotEq=>some .ne | .Lt=>some .lt | .LtE=>some .le | .Gt=>some .gt | .GtE=>some .ge | .In=>some .isin | .NotIn=>some .nin
 | _=>none
noncomputable def bw (sc:Scope)(x:Str):Bool:=sc.names.lookup x == some .globalImplicit
noncomputable def bb (sc:Scope)(x:Str):Bool:=sc.names.lookup x == some .local||sc.names.lookup x == some .cell||sc.names.lookup x == some .free
noncomputable def bG (sc:Scope)(x:Str):Bool:=sc.names.lookup x == some .local||sc.names.lookup x == some .cell
noncomputable def mH:List (Str×Op):=[("len",.len),("list",.list),("tuple",.tuple),("all",.all)]
noncomputable def kO:List (Str×Ty):=[("int",.int),("bool",.bool),("str",.str),("list",.list),("tuple",.tuple),("dict",.dict),("ValueError",.verr)]
noncomputable def fe (T:Tb)(sc:Scope):Expr->Option Ty
 | .Name x _=>if bw sc x then (match T.cls.lookup x with
  | some c=>some (.cls c)
  | none=>kO.lookup x) else none
 | _=>none
noncomputable def dX (T:Tb)(sc:Scope):Expr->Option (List Ty)
 | .Tuple es _ _=>if es.length<=1000 then es.mapM (fe T sc) else none
 | e=>(fe T sc e).map λt=>[t]
noncomputable def dD (sc:Scope)(N N':au)(caps:List aE)(scope:Scope):Bool:=
 scope.kind == .function&&scope.names.all (λy=>(y.2 != .cell||scope.names.lookup y.1 == some .cell)&&(y.2 != .local||scope.names.lookup y.1 == some .local)&&(y.2 != .free||(sc.names.lookup y.1 == some .cell||sc.names.lookup y.1 == some .free))) &&
 caps.length == N'.length&&decide N'.Nodup&&(caps.zip N').all λp=>match p.1 with
  | none=>true
  | some j=>N[j]? == some p.2&&scope.names.lookup p.2 == some .free
noncomputable def aY (scope:Scope):au:=(scope.names.filter λy=>y.2 == .local||y.2 == .cell||y.2 == .free).map (·.1)
noncomputable def bv (N:au)(scope:Scope):List aE:=(scope.names.filter λy=>y.2 == .local||y.2 == .cell||y.2 == .free).map λy=>if y.2 == .free then pos? y.1 N else none
noncomputable def c9 (sc:Scope)(N:au):Expr->Option Tg
 | .Name x _=>if bG sc x then (pos? x N).map .one else none
 | .Tuple es _ _=>(es.mapM λ(e:Expr)=>match e with
  | .Name x _=>if bG sc x then pos? x N else none
  | _=>none).map .many
 | _=>none
theorem t6 (sc:Scope)(N:au)(x:Str)(p:Pos):c9 sc N (.Name x p)=if bG sc x then (pos? x N).map .one else none:=rfl
theorem Ds (sc:Scope)(N:au)(es:av)(k:Nat)(p:Pos):c9 sc N (.Tuple es k p)=(es.mapM λ(e:Expr)=>match e with
  | .Name x _=>if bG sc x then pos? x N else none
  | _=>none).map .many:=rfl
noncomputable def aR (x:Str):Bool:=!(x == ("__debug__" : Str))&&!(x == ("__classdict__" : Str))
noncomputable def dg:Expr->Bool
 | .Set _ _ _=>false
 | _=>true
noncomputable def jr:CmpOp->Option Op
 | .Eq=>some .eq | .NotEq=>some .ne | .Lt=>some .lt | .LtE=>some .le | .Gt=>some .gt | .GtE=>some .ge
 | _=>none
noncomputable def isNone:Expr->Bool
 | .Constant .none _ _=>true
 | _=>false
noncomputable def noStar (es:av):Bool:=es.all λe=>match e with
 | .Starred _ _=>false
 | _=>true
noncomputable def fV:Expr->Bool
 | .Call (.Name _ _) [] [] _=>false
 | _=>true
noncomputable def eD:Wk->Tg->Bool
 | .enum,.one _=>false
 | .zip,.one _=>false
 | _,_=>true
noncomputable def dB:Tg->ak
 | .one i=>[i]
 | .many is=>is
noncomputable def bJ:Expr->Option Str
 | .Name x _=>some x
 | _=>none
noncomputable def gu:Expr->Option (Expr×List Expr×List Keyword×Pos)
 | .Call f a k p=>some (f,a,k,p)
 | _=>none
noncomputable def h8:Expr->Option (Expr×Str×Pos)
 | .Attribute o m p=>some (o,m,p)
 | _=>none
noncomputable def kF:Stmt->Option (List Expr×Expr×Pos)
 | .Assign ts e p=>some (ts,e,p)
 | _=>none
noncomputable def dL:ExceptHandler->Option Expr×Option Str×List Stmt×Pos
 | .ExceptHandler t n b p=>(t,n,b,p)
def gW {e:Expr}{x:Str}(h:bJ e=some x):∃p,e=.Name x p:=by
 cases e <;> first | exact (bY h).elim | exact⟨_,congrArg (λx=>Expr.Name x _) (cG h)⟩
def qM {e:Expr}{x:Expr×List Expr×List Keyword×Pos}(h:gu e=some x):e=.Call x.1 x.2.1 x.2.2.1 x.2.2.2:=by
 cases e <;> first | exact (bY h).elim | exact congrArg (λx:Expr×List Expr×List Keyword×Pos=>Expr.Call x.1 x.2.1 x.2.2.1 x.2.2.2) (cG h)
def uC {e:Expr}{x:Expr×Str×Pos}(h:h8 e=some x):e=.Attribute x.1 x.2.1 x.2.2:=by
 cases e <;> first | exact (bY h).elim | exact congrArg (λx:Expr×Str×Pos=>Expr.Attribute x.1 x.2.1 x.2.2) (cG h)
def yg {l:Stmt}{x:List Expr×Expr×Pos}(h:kF l=some x):l=.Assign x.1 x.2.1 x.2.2:=by
 cases l <;> first | exact (bY h).elim | exact congrArg (λx:List Expr×Expr×Pos=>Stmt.Assign x.1 x.2.1 x.2.2) (cG h)
def y6 (h:ExceptHandler):h=.ExceptHandler (dL h).1 (dL h).2.1 (dL h).2.2.1 (dL h).2.2.2:=by cases h; rfl
noncomputable def jm (sc:Scope)(f:Str)(a:Expr):Option (Op×Expr):=(gu a).bind λc=>(bJ c.1).bind λg=>if c.2.1.length=1/\c.2.2.1.isEmpty=true/\(bw sc g&&noStar c.2.1)=true then
  (if (f == ("sorted" : Str)&&g == ("set" : Str))=true then c.2.1.head?.map λb=>(.srtSet,b) else none)
 else none
def rQ {sc:Scope}{f:Str}{a b:Expr}{o:Op}(h:jm sc f a=some (o,b)):∃g p1 p2,a=.Call (.Name g p1) [b] [] p2/\bw sc g=true/\noStar [b]=true/\f = "sorted" /\ g = "set" /\ o=.srtSet:=by
 unfold jm at h;obtain⟨c,n1,r1⟩:=cX h;obtain⟨g,n2,r2⟩:=cX r1;have e1:=qM n1;obtain⟨p,e2⟩:=gW n2;by_cases c1:c.2.1.length=1/\c.2.2.1.isEmpty=true/\(bw sc g&&noStar c.2.1)=true
 rotate_left
 .rw[if_neg c1] at r2; exact (bY r2).elim
 rw[if_pos c1] at r2;obtain⟨l1,l2,l3⟩:=c1;obtain⟨x,ex⟩:=Hx.mp l1;rw[tw] at l3;have kw:c.2.2.1=[]:=Ie.mp l2;by_cases c2:(f == ("sorted" : Str)&&g == ("set" : Str))=true
 .rw[if_pos c2,ex] at r2;have r3:(Op.srtSet,x)=(o,b):=cG r2;cases r3;simp only[tw,GC] at c2;exact⟨g,p,c.2.2.2,by rw[e1,e2,ex,kw],l3.1,by rw[<-ex]; exact l3.2,c2.1,c2.2,rfl⟩
 .rw[if_neg c2] at r2; exact (bY r2).elim
section
variable (T:Tb)
noncomputable def pv? (x:Str)(N:au)(f:Nat->Ex):Ex:=match pos? x N with
 | some i=>f i
 | none=>.bad
noncomputable def mZ:Expr->Bool
 | .Name _ _=>true
 | _=>false
noncomputable def eL (m:Str)(args:av):Bool:=m == ("index" : Str)&&args.length == 1&&args.all mZ
noncomputable def ju:Operator->Bool
 | .BitXor=>true
 | _=>false
noncomputable def pV:Expr->Option (Expr×Operator×Expr×Pos)
 | .BinOp l o r p=>some (l,o,r,p)
 | _=>none
noncomputable def mS (sc:Scope)(f:Str)(a:Expr):Option (Expr×Expr):=(pV a).bind λt=>(jm sc f t.1).bind λu=>(jm sc f t.2.2.1).bind λw=>if (ju t.2.1&&f == ("sorted" : Str))=true then some (u.2,w.2) else none
def zt {sc:Scope}{f:Str}{a b c:Expr}(h:mS sc f a=some (b,c)):∃p1 p2 p3 p4 p5,f = "sorted" /\ a=.BinOp (.Call (.Name "set" p1) [b] [] p2) .BitXor (.Call (.Name "set" p3) [c] [] p4) p5/\bw sc "set" = true/\noStar [b]=true/\noStar [c]=true:=by
 unfold mS at h;obtain⟨⟨l,o,r,p⟩,n1,r1⟩:=cX h;obtain⟨⟨o1,b'⟩,n2,r2⟩:=cX r1;obtain⟨⟨o2,c'⟩,n3,r3⟩:=cX r2;by_cases q:(ju o&&f == ("sorted" : Str))=true
 rotate_left
 .rw[if_neg q] at r3; exact (bY r3).elim
 rw[if_pos q] at r3;have r4:(b',c')=(b,c):=cG r3;cases r4;rw[tw,GC] at q;obtain⟨q1,rfl⟩:=q;have ho:o=.BitXor:=by cases o <;> first | rfl | exact (GX q1).elim
 subst ho;have ea:a=.BinOp l .BitXor r p:=by
  cases a <;> first | exact (bY n1).elim | (cases n1; rfl)
 obtain⟨g1,p1,p2,e1,a1,a2,a3⟩:=rQ (show jm sc _ l=some (o1,b) from n2);obtain⟨g2,p3,p4,e2,b1,b2,b3⟩:=rQ (show jm sc _ r=some (o2,c) from n3);have k1:g1 = "set":=a3.2.1;have k2:g2 = "set":=b3.2.1;subst k1 k2;exact⟨p1,p2,p3,p4,p,rfl,by rw[ea,e1,e2],a1,a2,b2⟩
noncomputable def jf:Ex->aE
 | .var j=>some j
 | _=>none
def Gp {e:Ex}{j:Nat}(h:jf e=some j):e=.var j:=by
 cases e <;> first | exact (bY h).elim | (cases h; rfl)
mutual
noncomputable def cE (sc:Scope)(N:au):Nat->Expr->Ex
 | 0,_=>.bad
 | n+1,.Name x _=>if bb sc x&&aR x then pv? x N .var else if bw sc x then (match T.cst.lookup x with | some d=>.cst d | none=>.bad) else .bad
 | n+1,.Constant c _ _=>match c with
  | .none=>.cst .non
  | .bool b=>.cst (.bl b)
  | .int i=>.cst (.int i)
  | .str s=>.cst (.str s)
  | _=>.bad
 | n+1,.BinOp a o b _=>match qz o with
  | some o=>.op o [cE sc N n a,cE sc N n b]
  | none=>.bad
 | n+1,.UnaryOp o a _=>match o with
  | .Not=>.op .not [cE sc N n a]
  | .USub=>.op .neg [cE sc N n a]
  | _=>.bad
 | n+1,.BoolOp o es p=>match es with
  | []=>.bad
  | [a]=>cE sc N n a
  | a::b::es=>match o with
   | .And=>.and (cE sc N n a) (cE sc N n (.BoolOp o (b::es) p))
   | .Or=>.or (cE sc N n a) (cE sc N n (.BoolOp o (b::es) p))
 | n+1,.Compare a os bs _=>match os,bs with
  | [o],[b]=>match o with
   | .Is=>if isNone b then .op .isN [cE sc N n a] else .bad
   | .IsNot=>if isNone b then .op .notN [cE sc N n a] else .bad
   | o=>match gQ o with
    | some o=>if dg b then .op o [cE sc N n a,cE sc N n b] else .bad
    | none=>.bad
  | [o,p],[b,c]=>match jr o,jr p with
   | some o,some p=>.chain o p (cE sc N n a) (cE sc N n b) (cE sc N n c)
   | _,_=>.bad
  | _,_=>.bad
 | n+1,.List es _=>if es.length<=1000 then .op .lst (es.map (cE sc N n)) else .bad
 | n+1,.Tuple es _ _=>if es.length<=1000 then .op .tup (es.map (cE sc N n)) else .bad
 | n+1,.Subscript a i _=>match i with
  | .Slice lo hi st _=>match lo,hi,st with
   | some l,none,none=>.op .slL [cE sc N n a,cE sc N n l]
   | none,some l,none=>.op .slH [cE sc N n a,cE sc N n l]
   | some l,some h,none=>.sl2 (cE sc N n a) (cE sc N n l) (cE sc N n h)
   | _,_,_=>.bad
  | i=>.op .ix [cE sc N n a,cE sc N n i]
 | n+1,.Attribute o f _=>match pos? f T.att with
  | some k=>if T.fl.contains k&&fV o then .op (.fld k) [cE sc N n o] else .bad
  | none=>.bad
 | n+1,.ListComp e gs scope _=>match gs with
  | [⟨tg,iter,ifs,as⟩]=>
   if dD sc N (aY scope) (bv N scope) scope&&as == 0&&decide (ifs.length<=1) then
    match c9 scope (aY scope) tg with
    | some g=>if eD (cI sc N n iter).1 g&&(dB g).all (λi=>(bv N scope)[i]? == some none) then
      .comp (bv N scope) g (cI sc N n iter).1 (cI sc N n iter).2 (ifs.map (cT scope (aY scope) n)) (cE scope (aY scope) n e)
     else .bad
    | none=>.bad
   else .bad
  | _=>.bad
 | n+1,.Call f args kws cp=>match kws with
  | []=>match f with
   | .Name f _=>if bw sc f then
     match T.fns.lookup f with
     | some k=>if noStar args then .call k (args.map (cE sc N n)) else .bad
     | none=>match T.cls.lookup f with
      | some c=>if noStar args then .make c (args.map (cE sc N n)) else .bad
      | none=>cB sc N n f args
    else .bad
   | .Attribute o m ap=>match pos? m T.att with
     | some k=>if fV o&&noStar args&&decide (args.length<30)&&ap.endLine == cp.line then .meth k (cE sc N n o) (args.map (cE sc N n)) else .bad
     | none=>if eL m args&&fV o&&noStar args&&ap.endLine == cp.line then .op .index ((o::args).map (cE sc N n)) else .bad
   | _=>.bad
  | _=>.bad
 | _,_=>.bad
noncomputable def cT (sc:Scope)(N:au):Nat->Expr->Ex
 | 0,_=>.bad
 | n+1,.BoolOp o es p=>match es with
  | []=>.bad
  | [a]=>cT sc N n a
  | a::b::es=>match o with
   | .And=>.and (cT sc N n a) (cT sc N n (.BoolOp o (b::es) p))
   | .Or=>.or (cT sc N n a) (cT sc N n (.BoolOp o (b::es) p))
 | n+1,.UnaryOp .Not a _=>.op .not [cT sc N n a]
 | n+1,.IfExp _ _ _ _=>.bad
 | n+1,e=>cE sc N n e
noncomputable def cB (sc:Scope)(N:au):Nat->Str->av->Ex
 | 0,_,_=>.bad
 | n+1,f,args=>match args with
  | [a]=>match mS sc f a with
   | some (b,c)=>(match jf (cE sc N n c) with
    | some j=>.op .symd [cE sc N n b,.var j]
    | none=>.bad)
   | none=>match jm sc f a with
    | some (o,b)=>.op o [cE sc N n b]
    | none=>match mH.lookup f with
     | some o=>.op o [cE sc N n a]
     | none=>.bad
  | [a,b]=>if f == ("isinstance" : Str) then (match dX T sc b with
    | some ts=>.op (.isi ts) [cE sc N n a]
    | none=>.bad)
   else .bad
  | _=>.bad
noncomputable def cI (sc:Scope)(N:au):Nat->Expr->Wk×aG
 | 0,_=>(.seq,[.bad])
 | n+1,e=>match e with
  | .Call (.Name f p) args [] q=>
   if bw sc f&&f == ("range" : Str)&&noStar args then match args with
    | [a]=>(.rng1,[cE sc N n a])
    | [a,b,c]=>(.rngD,[cE sc N n a,cE sc N n b,cE sc N n c])
    | _=>(.seq,[.bad])
   else if bw sc f&&f == ("enumerate" : Str)&&noStar args then match args with
    | [a]=>(.enum,[cE sc N n a])
    | _=>(.seq,[.bad])
   else if bw sc f&&f == ("zip" : Str)&&noStar args then match args with
    | [a,b]=>(.zip,[cE sc N n a,cE sc N n b])
    | _=>(.seq,[.bad])
   else (.seq,[cE sc N n (.Call (.Name f p) args [] q)])
  | e=>(.seq,[cE sc N n e])
end
theorem yu (sc:Scope)(N:au)(e:Expr):cE T sc N 0 e=.bad:=rfl
theorem tE (sc:Scope)(N:au)(n:Nat)(x:Str)(p:Pos):cE T sc N (n+1) (.Name x p)=if bb sc x&&aR x then pv? x N .var else if bw sc x then (match T.cst.lookup x with | some d=>.cst d | none=>.bad) else .bad:=rfl
theorem pI (sc:Scope)(N:au)(n:Nat)(a:Expr)(os:List CmpOp)(bs:av)(p:Pos):cE T sc N (n+1) (.Compare a os bs p)=match os,bs with
  | [o],[b]=>match o with
   | .Is=>if isNone b then .op .isN [cE T sc N n a] else .bad
   | .IsNot=>if isNone b then .op .notN [cE T sc N n a] else .bad
   | o=>match gQ o with
    | some o=>if dg b then .op o [cE T sc N n a,cE T sc N n b] else .bad
    | none=>.bad
  | [o,p],[b,c]=>match jr o,jr p with
   | some o,some p=>.chain o p (cE T sc N n a) (cE T sc N n b) (cE T sc N n c)
   | _,_=>.bad
  | _,_=>.bad:=rfl
theorem Cw (sc:Scope)(N:au)(n:Nat)(es:av)(p:Pos):cE T sc N (n+1) (.List es p)=if es.length<=1000 then .op .lst (es.map (cE T sc N n)) else .bad:=rfl
theorem zg (sc:Scope)(N:au)(n:Nat)(es:av)(k:Nat)(p:Pos):cE T sc N (n+1) (.Tuple es k p)=if es.length<=1000 then .op .tup (es.map (cE T sc N n)) else .bad:=rfl
theorem oG (sc:Scope)(N:au)(n:Nat)(a i:Expr)(p:Pos):cE T sc N (n+1) (.Subscript a i p)=match i with
  | .Slice lo hi st _=>match lo,hi,st with
   | some l,none,none=>.op .slL [cE T sc N n a,cE T sc N n l]
   | none,some l,none=>.op .slH [cE T sc N n a,cE T sc N n l]
   | some l,some h,none=>.sl2 (cE T sc N n a) (cE T sc N n l) (cE T sc N n h)
   | _,_,_=>.bad
  | i=>.op .ix [cE T sc N n a,cE T sc N n i]:=rfl
theorem BC (sc:Scope)(N:au)(n:Nat)(o:Expr)(f:Str)(p:Pos):cE T sc N (n+1) (.Attribute o f p)=match pos? f T.att with
  | some k=>if T.fl.contains k&&fV o then .op (.fld k) [cE T sc N n o] else .bad
  | none=>.bad:=rfl
theorem xF (sc:Scope)(N:au)(n:Nat)(e:Expr)(gs:List Comprehension)(scope:Scope)(p:Pos):cE T sc N (n+1) (.ListComp e gs scope p)=match gs with
  | [⟨tg,iter,ifs,as⟩]=>
   if dD sc N (aY scope) (bv N scope) scope&&as == 0&&decide (ifs.length<=1) then
    match c9 scope (aY scope) tg with
    | some g=>if eD (cI T sc N n iter).1 g&&(dB g).all (λi=>(bv N scope)[i]? == some none) then
      .comp (bv N scope) g (cI T sc N n iter).1 (cI T sc N n iter).2 (ifs.map (cT T scope (aY scope) n)) (cE T scope (aY scope) n e)
     else .bad
    | none=>.bad
   else .bad
  | _=>.bad:=rfl
theorem vp (sc:Scope)(N:au)(n:Nat)(f:Expr)(args:av)(kws:List Keyword)(cp:Pos):cE T sc N (n+1) (.Call f args kws cp)=match kws with
  | []=>match f with
   | .Name f _=>if bw sc f then
     match T.fns.lookup f with
     | some k=>if noStar args then .call k (args.map (cE T sc N n)) else .bad
     | none=>match T.cls.lookup f with
      | some c=>if noStar args then .make c (args.map (cE T sc N n)) else .bad
      | none=>cB T sc N n f args
    else .bad
   | .Attribute o m ap=>match pos? m T.att with
     | some k=>if fV o&&noStar args&&decide (args.length<30)&&ap.endLine == cp.line then .meth k (cE T sc N n o) (args.map (cE T sc N n)) else .bad
     | none=>if eL m args&&fV o&&noStar args&&ap.endLine == cp.line then .op .index ((o::args).map (cE T sc N n)) else .bad
   | _=>.bad
  | _=>.bad:=rfl
theorem wZ (sc:Scope)(N:au)(n:Nat)(f:Str)(args:av):cB T sc N (n+1) f args=match args with
  | [a]=>match mS sc f a with
   | some (b,c)=>(match jf (cE T sc N n c) with
    | some j=>.op .symd [cE T sc N n b,.var j]
    | none=>.bad)
   | none=>match jm sc f a with
    | some (o,b)=>.op o [cE T sc N n b]
    | none=>match mH.lookup f with
     | some o=>.op o [cE T sc N n a]
     | none=>.bad
  | [a,b]=>if f == ("isinstance" : Str) then (match dX T sc b with
    | some ts=>.op (.isi ts) [cE T sc N n a]
    | none=>.bad)
   else .bad
  | _=>.bad:=rfl
theorem Co (sc:Scope)(N:au)(n:Nat)(e:Expr):cI T sc N (n+1) e=match e with
  | .Call (.Name f p) args [] q=>
   if bw sc f&&f == ("range" : Str)&&noStar args then match args with
    | [a]=>(.rng1,[cE T sc N n a])
    | [a,b,c]=>(.rngD,[cE T sc N n a,cE T sc N n b,cE T sc N n c])
    | _=>(.seq,[.bad])
   else if bw sc f&&f == ("enumerate" : Str)&&noStar args then match args with
    | [a]=>(.enum,[cE T sc N n a])
    | _=>(.seq,[.bad])
   else if bw sc f&&f == ("zip" : Str)&&noStar args then match args with
    | [a,b]=>(.zip,[cE T sc N n a,cE T sc N n b])
    | _=>(.seq,[.bad])
   else (.seq,[cE T sc N n (.Call (.Name f p) args [] q)])
  | e=>(.seq,[cE T sc N n e]):=rfl
noncomputable def uh (x:Str)(sc:Scope):Bool:=bw sc x&&x == T.wb
noncomputable def pc? (x:Str)(f:Nat->S):S:=match T.cls.lookup x with
 | some i=>f i
 | none=>.bad
noncomputable def ps? (x:Str)(N:au)(f:Nat->S):S:=match pos? x N with
 | some i=>f i
 | none=>.bad
noncomputable def iF (hs:List ExceptHandler):Option (Str×Str×Str×Str):=if hs.length=1 then
 (hs.head?.map dL).bind λh=>h.1.bind λte=>(bJ te).bind λc=>h.2.1.bind λe=>if h.2.2.1.length=1 then (h.2.2.1.head?.bind kF).bind λa=>if a.1.length=1 then (a.1.head?.bind bJ).bind λx=>(bJ a.2.1).bind λy=>some (c,e,x,y) else none else none
 else none
def Aw {hs:List ExceptHandler}{c e x y:Str}(h:iF hs=some (c,e,x,y)):∃p1 p2 p3 p4 p5,hs=[.ExceptHandler (some (.Name c p1)) (some e) [.Assign [.Name x p2] (.Name y p3) p4] p5]:=by
 unfold iF at h;by_cases c1:hs.length=1
 rotate_left
 .rw[if_neg c1] at h; exact (bY h).elim
 rw[if_pos c1] at h;obtain⟨hd,rfl⟩:=Hx.mp c1;obtain⟨q,n1,r1⟩:=cX h;obtain rfl:dL hd=q:=cG n1;obtain⟨te,n2,r2⟩:=cX r1;obtain⟨c',n3,r3⟩:=cX r2;obtain⟨e',n4,r4⟩:=cX r3;by_cases c2:(dL hd).2.2.1.length=1
 rotate_left
 .rw[if_neg c2] at r4; exact (bY r4).elim
 rw[if_pos c2] at r4;obtain⟨s,es⟩:=Hx.mp c2;rw[es] at r4;obtain⟨a,n5,r5⟩:=cX r4;have e5:=yg (show kF s=some a from n5);by_cases c3:a.1.length=1
 rotate_left
 .rw[if_neg c3] at r5; exact (bY r5).elim
 rw[if_pos c3] at r5;obtain⟨t,et⟩:=Hx.mp c3;rw[et] at r5;obtain⟨x',n6,r6⟩:=cX r5;obtain⟨y',n7,r7⟩:=cX r6;cases r7;obtain⟨p1,e3⟩:=gW n3;obtain⟨p2,e6⟩:=gW (show bJ t=some x from n6);obtain⟨p3,e7⟩:=gW n7;refine⟨p1,p2,p3,a.2.2,(dL hd).2.2.2,?_⟩;have hh:=y6 hd;rw[n2,n4,es,e5,et,e3,e6,e7] at hh;exact congrArg (λh=>[h]) hh
noncomputable def f8:Expr->Bool
 | .Call _ _ _ _=>true
 | .Name _ _=>true
 | _=>false
noncomputable def lh:Expr->Option (Expr×Expr×Pos)
 | .Subscript a i p=>some (a,i,p)
 | _=>none
def ul {e:Expr}{x:Expr×Expr×Pos}(h:lh e=some x):e=.Subscript x.1 x.2.1 x.2.2:=by
 cases e <;> first | exact (bY h).elim | (cases h; rfl)
noncomputable def isSl:Expr->Bool
 | .Slice _ _ _ _=>true
 | _=>false
noncomputable def qE (sc:Scope)(e:Expr):Option (Str×Expr):=(lh e).bind λt=>(bJ t.1).bind λy=>if (bb sc y&&aR y&&!isSl t.2.1)=true then some (y,t.2.1) else none
def BQ {sc:Scope}{e b:Expr}{y:Str}(h:qE sc e=some (y,b)):∃p1 p2,e=.Subscript (.Name y p1) b p2/\bb sc y=true/\aR y=true/\isSl b=false:=by
 obtain⟨t,n1,r1⟩:=cX h;obtain⟨x',n2,r2⟩:=cX r1;by_cases c:(bb sc x'&&aR x'&&!isSl t.2.1)=true
 rotate_left
 .rw[if_neg c] at r2; exact (bY r2).elim
 rw[if_pos c] at r2;cases r2;obtain⟨p1,e1⟩:=gW n2;simp only[tw,Iy] at c;exact⟨p1,t.2.2,by rw[ul n1,e1],c.1.1,c.1.2,c.2⟩
noncomputable def kq (e:Expr):Option (Str×Str):=(lh e).bind λt=>(bJ t.1).bind λx=>(bJ t.2.1).map λj=>(x,j)
def yk {e:Expr}{x j:Str}(h:kq e=some (x,j)):∃p1 p2 p3,e=.Subscript (.Name x p1) (.Name j p2) p3:=by
 obtain⟨t,n1,r1⟩:=cX h;obtain⟨x',n2,r2⟩:=cX r1;obtain⟨j',n3,r3⟩:=dO r2;cases r3;obtain⟨p1,e1⟩:=gW n2;obtain⟨p2,e2⟩:=gW n3;exact⟨p1,p2,t.2.2,by rw[ul n1,e1,e2]⟩
noncomputable def kB (e:Expr):Option (Str×Str):=(h8 e).bind λt=>(bJ t.1).map λx=>(x,t.2.1)
def yq {e:Expr}{x f:Str}(h:kB e=some (x,f)):∃p1 p2,e=.Attribute (.Name x p1) f p2:=by
 obtain⟨t,n1,r1⟩:=cX h;obtain⟨x',n2,r2⟩:=dO r1;cases r2;obtain⟨p1,e1⟩:=gW n2;exact⟨p1,t.2.2,by rw[uC n1,e1]⟩
noncomputable def m9:Expr->Bool
 | .ListComp _ _ _ _=>true
 | _=>false
noncomputable def kg (e:Expr):Option (Str×Str×Pos×List Expr×Pos):=(gu e).bind λc=>(h8 c.1).bind λt=>(bJ t.1).bind λx=>if c.2.2.1.isEmpty=true then some (x,t.2.1,t.2.2,c.2.1,c.2.2.2) else none
def D7 {e:Expr}{x f:Str}{mp cp:Pos}{a:av}(h:kg e=some (x,f,mp,a,cp)):∃p1,e=.Call (.Attribute (.Name x p1) f mp) a [] cp:=by
 obtain⟨t,n1,r1⟩:=cX h;obtain⟨u,n2,r2⟩:=cX r1;obtain⟨x',n3,r3⟩:=cX r2;by_cases c:t.2.2.1.isEmpty=true
 rotate_left
 .rw[if_neg c] at r3; exact (bY r3).elim
 rw[if_pos c] at r3;cases r3;obtain⟨p1,e1⟩:=gW n3;exact⟨p1,by rw[qM n1,uC n2,e1,Ie.mp c]⟩
noncomputable def k8 (e:Expr):Option (Str×av):=(gu e).bind λt=>(bJ t.1).bind λx=>if t.2.2.1.isEmpty=true then some (x,t.2.1) else none
def Da {e:Expr}{x:Str}{a:av}(h:k8 e=some (x,a)):∃p1 p2,e=.Call (.Name x p1) a [] p2:=by
 obtain⟨t,n1,r1⟩:=cX h;obtain⟨x',n2,r2⟩:=cX r1;by_cases c:t.2.2.1.isEmpty=true
 rotate_left
 .rw[if_neg c] at r2; exact (bY r2).elim
 rw[if_pos c] at r2;cases r2;obtain⟨p1,e1⟩:=gW n2;exact⟨p1,t.2.2.2,by rw[qM n1,e1,Ie.mp c]⟩
noncomputable def ky:Expr->Option av
 | .Tuple es _ _=>some es
 | _=>none
def FH {e:Expr}{es:av}(h:ky e=some es):∃k p,e=.Tuple es k p:=by
 cases e <;> first | exact (bY h).elim | (cases h; exact⟨_,_,rfl⟩)
noncomputable def kL (sc:Scope)(N:au)(n:Nat)(ts:av)(e:Expr):S:=match ts with
 | []=>.bad
 | t::r=>if r.isEmpty=true then (match bJ t with
  | some x=>if bG sc x then (match qE sc e with
   | some (y,b)=>ps? x N λi=>ps? y N λj=>.setI i j (cE T sc N n b)
   | none=>ps? x N λi=>.set i (cE T sc N n e)) else .bad
  | none=>match kq t with
   | some (x,j)=>if bb sc x&&aR x&&bb sc j&&aR j then ps? x N λk=>ps? j N λi=>.put k [] (.var i) (cE T sc N n e) else .bad
   | none=>match kB t with
    | some (x,f)=>if bb sc x&&aR x then ps? x N λk=>ps? f T.att λj=>if T.fl.contains j then .sfld k j (cE T sc N n e) else .bad else .bad
    | none=>match ky t with
     | some _=>if f8 e then (match c9 sc N t with
      | some (.many is)=>.setT is (cE T sc N n e)
      | _=>.bad) else .bad
     | none=>.bad) else .bad
noncomputable def mB (sc:Scope)(N:au)(n:Nat)(x:Str)(mp cp:Pos)(args:av):S:=match args with
 | [a]=>if noStar [a]&&mp.endLine == cp.line then ps? x N λi=>.mut i [] .append [cE T sc N n a] else .bad
 | _=>.bad
noncomputable def nM (sc:Scope)(N:au)(n:Nat)(x:Str)(mp cp:Pos)(args:av):S:=match args with
 | [a]=>if noStar [a]&&mp.endLine == cp.line then ps? x N λi=>.mut i [] .extend [cE T sc N n a] else .bad
 | _=>.bad
noncomputable def nE (sc:Scope)(N:au)(n:Nat)(x:Str)(mp cp:Pos)(args:av):S:=match args with
 | [a]=>if noStar [a]&&mp.endLine == cp.line then ps? x N λi=>.mut i [] .remove [cE T sc N n a] else .bad
 | _=>.bad
noncomputable def nn (sc:Scope)(N:au)(n:Nat)(x:Str)(mp cp:Pos)(args:av):S:=match args with
 | [a,b]=>match bJ b with
  | some y=>if noStar [a,b]&&mp.endLine == cp.line&&bb sc y&&aR y then ps? x N λi=>ps? y N λj=>.mut i [] .insert [cE T sc N n a,.var j] else .bad
  | none=>.bad
 | _=>.bad
noncomputable def mD (sc:Scope)(N:au)(n:Nat)(mp cp:Pos)(args:av):S:=match args with
 | []=>.bad
 | a::as=>if noStar (a::as)&&decide (as.length<29)&&mp.endLine == cp.line then .xinit ((a::as).map (cE T sc N n)) else .bad
noncomputable def kG (sc:Scope)(N:au)(n:Nat)(e:Expr):S:=match kg e with
 | some (x,m,mp,args,cp)=>
  if bb sc x&&aR x&&m == ("append" : Str) then mB T sc N n x mp cp args
  else if bb sc x&&aR x&&m == ("extend" : Str) then nM T sc N n x mp cp args
  else if bb sc x&&aR x&&m == ("insert" : Str) then nn T sc N n x mp cp args
  else if bb sc x&&aR x&&m == ("remove" : Str) then nE T sc N n x mp cp args
  else if uh T x sc&&m == ("__init__" : Str) then mD T sc N n mp cp args
  else .ex (cE T sc N n e)
 | none=>if m9 e then .bad else .ex (cE T sc N n e)
noncomputable def oW:Ex->Bool
 | .var _=>true
 | _=>false
noncomputable def lg (sc:Scope)(N:au)(n:Nat)(o:aJ):S:=match o with
 | none=>.ret (.cst .non)
 | some e=>match bJ e with
  | some x=>if bb sc x&&aR x then ps? x N λi=>.ret (.var i) else .bad
  | none=>if oW (cE T sc N n e) then .bad else .ret (cE T sc N n e)
noncomputable def kz (sc:Scope)(N:au)(n:Nat)(tg it:Expr)(b els:aH)(cb:az):S:=match els with
 | _::_=>.bad
 | []=>match c9 sc N tg with
   | some g=>if eD (cI T sc N n it).1 g then .fo g (cI T sc N n it).1 (cI T sc N n it).2 cb else .bad
   | none=>.bad
noncomputable def lc (sc:Scope)(N:au)(n:Nat)(e c:aJ):S:=match c with
 | some _=>.bad
 | none=>match e with
  | none=>.bad
  | some e=>match k8 e with
   | some (x,args)=>if bw sc x&&noStar args then pc? T x λc=>.rais c (args.map (cE T sc N n)) else .bad
   | none=>.bad
noncomputable def kd (sc:Scope)(N:au)(hs:List ExceptHandler)(els fin:aH)(cb:az):S:=match iF hs with
 | some (c,e,x,y)=>
  if els.isEmpty=true/\fin.isEmpty=true/\(bw sc c&&c == T.wb&&y == e&&aR e&&bG sc x&&sc.names.lookup e == some .local)=true then pc? T c λk=>ps? e N λi=>ps? x N λj=>.tryE cb k i j else .bad
 | none=>.bad
noncomputable def cS (sc:Scope)(N:au):Nat->Stmt->S
 | 0,_=>.bad
 | n+1,.Assign ts e _=>kL T sc N n ts e
 | n+1,.Expr e _=>kG T sc N n e
 | n+1,.Return o _=>lg T sc N n o
 | n+1,.If c a b _=>.iff (cT T sc N n c) (a.map (cS sc N n)) (b.map (cS sc N n))
 | n+1,.For tg it b els _=>kz T sc N n tg it b els (b.map (cS sc N n))
 | n+1,.Raise e c _=>lc T sc N n e c
 | n+1,.Try b hs els fin _=>kd T sc N hs els fin (b.map (cS sc N n))
 | _,_=>.bad
theorem yP (sc:Scope)(N:au)(n:Nat)(ts:av)(e:Expr)(p:Pos):cS T sc N (n+1) (.Assign ts e p)=kL T sc N n ts e:=rfl
theorem yt (sc:Scope)(N:au)(n:Nat)(e:Expr)(p:Pos):cS T sc N (n+1) (.Expr e p)=kG T sc N n e:=rfl
theorem EZ (sc:Scope)(N:au)(n:Nat)(o:aJ)(p:Pos):cS T sc N (n+1) (.Return o p)=lg T sc N n o:=rfl
theorem DL (sc:Scope)(N:au)(n:Nat)(tg it:Expr)(b els:aH)(p:Pos):cS T sc N (n+1) (.For tg it b els p)=kz T sc N n tg it b els (b.map (cS T sc N n)):=rfl
theorem C9 (sc:Scope)(N:au)(n:Nat)(e c:aJ)(p:Pos):cS T sc N (n+1) (.Raise e c p)=lc T sc N n e c:=rfl
theorem zI (sc:Scope)(N:au)(n:Nat)(b:aH)(hs:List ExceptHandler)(els fin:aH)(p:Pos):cS T sc N (n+1) (.Try b hs els fin p)=kd T sc N hs els fin (b.map (cS T sc N n)):=rfl
noncomputable def qp:Expr->Option D
 | .Constant .none _ _=>some .non
 | .Constant (.bool b) _ _=>some (.bl b)
 | .Constant (.int i) _ _=>some (.int i)
 | .Constant (.str s) _ _=>some (.str s)
 | _=>none
noncomputable def fU (a:Arguments)(sc:Scope):au:=
 let ps:=a.args.map (·.arg)
 ps++((sc.names.filter λy=>(y.2 == .local||y.2 == .cell)&&!ps.contains y.1).map (·.1))
noncomputable def cF (io:ak):Stmt->Option Fn
 | .FunctionDef _ a body [] _ _ sc _ _ _=>(a.defaults.mapM qp).map λds=>⟨a.args.length,io,(fU a sc).length,ds,body.map (cS T sc (fU a sc) 60)⟩
 | _=>none
end
end Ip
end
section
namespace L2
open PySem PySem.Spec PyProof.Rows
open Ip (D KD Ex Op Pg Fn Sl Fr Wk Tg Tb)
structure Wd where
 K:bo
 iA:Nat->aF
 xA:Nat->aF
 att:au
def Sub (S H:Hp):Prop:=∀a o,S a=some o->H a=some o
def Sub.refl (H:Hp):Sub H H:=λ_ _ h=>h
def Sub.trans {A B C:Hp}(h:Sub A B)(k:Sub B C):Sub A C:=λa o e=>k a o (h a o e)
theorem Sub.upd {H:Hp}{a:Addr}{o:HO}(h:H a=none):Sub H (upd H a o):=λb u e=>by
 rw[bP (λz=>by rw[z,h] at e; cases e)]; exact e
theorem Sub.none {A B:Hp}(h:Sub A B){a:Addr}(e:B a=none):A a=none:=by
 cases q:A a with
 | none=>rfl
 | some o=>rw[h a o q] at e; cases e
open Classical in
noncomputable def hid (N:Addr->Prop)(H:Hp):Hp:=λa=>if N a then none else H a
def bg {N:Addr->Prop}{H:Hp}{a:Addr}{o:HO}:hid N H a=some o↔¬N a/\H a=some o:=by
 unfold hid;by_cases h:N a
 .simp[h]
 .simp[h]
def bS {N:Addr->Prop}{H:Hp}:Sub (hid N H) H:=λ_ _ e=>(bg.mp e).2
def gN {N N':Addr->Prop}{H H':Hp}(h:Sub H H')(n:∀a,N' a->N a\/H a=none):Sub (hid N H) (hid N' H'):=λa o e=>by
 obtain⟨h1,h2⟩:=bg.mp e;refine bg.mpr ⟨λz=>?_,h a o h2⟩;rcases n a z with q | q
 .exact h1 q
 .rw[h2] at q; cases q
theorem Rd.sub {S H:Hp}{a:Addr}{u:HO}(h:Sub S H):Rd S a u->Rd H a u
 | .inl e=>.inl (h _ _ e)
 | .inr ⟨o,e⟩=>.inr ⟨o,h _ _ e⟩
theorem SqL.sub {K:bo}{S H:Hp}{a:Addr}{xs:aw}(h:Sub S H):SqL K S a xs->SqL K H a xs
 | .inl e=>.inl (Rd.sub h e)
 | .inr e=>.inr e
theorem SqT.sub {K:bo}{S H:Hp}{a:Addr}{xs:aw}(h:Sub S H):SqT K S a xs->SqT K H a xs
 | .inl e=>.inl (Rd.sub h e)
 | .inr e=>.inr e
mutual
inductive Den (W:Wd) (S:Hp):V->D->Prop
 | non:Den W S .non .non
 | bl {b:Bool}:Den W S (.bl b) (.bl b)
 | int {i:Int}:Den W S (.int i) (.int i)
 | str {s:Str}:Den W S (.str s) (.str s)
 | lst {a:Addr} {vs:aw} {ds:ay} (h:Rd S a (.lst vs)) (q:Dens W S vs ds):Den W S (.ref a) (.lst ds)
 | tup {a:Addr} {vs:aw} {ds:ay} (h:SqT W.K S a vs) (q:Dens W S vs ds):Den W S (.ref a) (.tup ds)
 | ins {a C dx:Addr} {c:Nat} {fs:List (Str×V)} {ds:List aK} (h:S a=some (.ins C dx fs)) (hc:W.iA c=some C) (q:DenF W S fs ds):Den W S (.ref a) (.ins c ds)
 | exc {a C:Addr} {nw:Bool} {c:Nat} {fs:List (Str×V)} {ds:List aK} (h:S a=some (.exc C nw fs)) (hc:W.xA c=some C) (q:DenF W S fs ds):Den W S (.ref a) (.exc c ds)
inductive Dens (W:Wd) (S:Hp):aw->ay->Prop
 | nil:Dens W S [] []
 | cons {v:V} {d:D} {vs:aw} {ds:ay} (h:Den W S v d) (q:Dens W S vs ds):Dens W S (v::vs) (d::ds)
inductive DenF (W:Wd) (S:Hp):List (Str×V)->List aK->Prop
 | nil:DenF W S [] []
 | cons {n:Str} {f:Nat} {v:V} {d:D} {vs:List (Str×V)} {ds:List aK} (hf:W.att[f]? = some n) (h:Den W S v d) (q:DenF W S vs ds):DenF W S ((n,v)::vs) ((f,d)::ds)
end
mutual
theorem Den.mono {W:Wd}{S H:Hp}(h:Sub S H):∀{v d},Den W S v d->Den W H v d
 | _,_,.non=>.non
 | _,_,.bl=>.bl
 | _,_,.int=>.int
 | _,_,.str=>.str
 | _,_,.lst e q=>.lst (Rd.sub h e) (q.mono h)
 | _,_,.tup e q=>.tup (SqT.sub h e) (q.mono h)
 | _,_,.ins e hc q=>.ins (h _ _ e) hc (q.mono h)
 | _,_,.exc e hc q=>.exc (h _ _ e) hc (q.mono h)
theorem Dens.mono {W:Wd}{S H:Hp}(h:Sub S H):∀{v d},Dens W S v d->Dens W H v d
 | _,_,.nil=>.nil
 | _,_,.cons e q=>.cons (e.mono h) (q.mono h)
theorem DenF.mono {W:Wd}{S H:Hp}(h:Sub S H):∀{v d},DenF W S v d->DenF W H v d
 | _,_,.nil=>.nil
 | _,_,.cons f e q=>.cons f (e.mono h) (q.mono h)
end
theorem Dens.length {W:Wd}{S:Hp}:∀{vs ds},Dens W S vs ds->vs.length=ds.length
 | _,_,.nil=>rfl
 | _,_,.cons _ q=>by rw[List.length_cons,List.length_cons,q.length]
theorem Dens.get {W:Wd}{S:Hp}:∀{vs ds} {i:Nat} {d:D},Dens W S vs ds->ds[i]? = some d->∃v,vs[i]? = some v/\Den W S v d
 | _,_,_,_,.nil,e=>by simp at e
 | _,_,0,_,.cons h _,e=>by simp at e; subst e; exact⟨_,rfl,h⟩
 | _,_,i+1,_,.cons _ q,e=>by simpa using q.get (i:=i) (by simpa using e)
theorem Dens.append {W:Wd}{S:Hp}:∀{vs ws ds es},Dens W S vs ds->Dens W S ws es->Dens W S (vs++ws) (ds++es)
 | _,_,_,_,.nil,q=>q
 | _,_,_,_,.cons h t,q=>.cons h (t.append q)
theorem Dens.take {W:Wd}{S:Hp}:∀{vs ds} (n:Nat),Dens W S vs ds->Dens W S (vs.take n) (ds.take n)
 | _,_,0,_=>.nil
 | _,_,_+1,.nil=>.nil
 | _,_,n+1,.cons h t=>.cons h (t.take n)
theorem Dens.drop {W:Wd}{S:Hp}:∀{vs ds} (n:Nat),Dens W S vs ds->Dens W S (vs.drop n) (ds.drop n)
 | _,_,0,h=>h
 | _,_,_+1,.nil=>.nil
 | _,_,n+1,.cons _ t=>t.drop n
theorem Dens.set {W:Wd}{S:Hp}{v:V}{d:D}(r:Den W S v d):∀{vs ds} (i:Nat),Dens W S vs ds->Dens W S (vs.set i v) (ds.set i d)
 | _,_,_,.nil=>.nil
 | _,_,0,.cons _ t=>.cons r t
 | _,_,i+1,.cons q t=>.cons q (t.set r i)
theorem DenF.length {W:Wd}{S:Hp}:∀{vs ds},DenF W S vs ds->vs.length=ds.length
 | _,_,.nil=>rfl
 | _,_,.cons _ _ q=>by rw[List.length_cons,List.length_cons,q.length]
def pP {l:au}(nd:l.Nodup){i j:Nat}{x:Str}(h:l[i]? = some x)(k:l[j]? = some x):i=j:=nX nd h k
theorem DenF.lookup {W:Wd}{S:Hp}(nd:W.att.Nodup){f:Nat}{n:Str}(hn:W.att[f]? = some n):∀{vs ds},DenF W S vs ds->(∀d,ds.lookup f=some d->∃v,vs.lookup n=some v/\Den W S v d)/\(ds.lookup f=none->vs.lookup n=none)
 | _,_,.nil=>⟨(λ_ e=>nomatch e),λ_=>rfl⟩
 | _,_,.cons (n:=m) (f:=g) hg h q=>by
  obtain⟨i1,i2⟩:=q.lookup nd hn;by_cases e:g=f
  .subst e;have:m=n:=by rw[hn] at hg; exact (cG hg).symm
   subst this;simp only[List.lookup_cons,beq_self_eq_true];exact⟨λd z=>⟨_,rfl,by cases cG z; exact h⟩,λz=>nomatch z⟩
  .have nm:n≠m:=λz=>e (pP nd hg (by rw[<-z]; exact hn));have b1:(f == g)=false:=by simpa using λz=>e (Eq.symm z)
   have b2:(n == m)=false:=by simpa using nm
   simp only[List.lookup_cons,b1,b2];exact⟨i1,i2⟩
theorem DenF.put {W:Wd}{S:Hp}(nd:W.att.Nodup){f:Nat}{n:Str}{v:V}{d:D}(hn:W.att[f]? = some n)(r:Den W S v d):∀{vs ds},DenF W S vs ds->DenF W S (putF n v vs) (Ip.putF f d ds)
 | _,_,.nil=>.cons hn r .nil
 | _,_,.cons (n:=m) (f:=g) hg h q=>by
  unfold putF Ip.putF;by_cases e:g=f
  .subst e;have:m=n:=by rw[hn] at hg; exact (cG hg).symm
   subst this;rw[if_pos rfl,if_pos rfl];exact .cons hg r q
  .have nm:m≠n:=λz=>e (pP nd hg (by rw[z]; exact hn));rw[if_neg e,if_neg nm];exact .cons hg h (q.put nd hn r)
inductive OwnL (P:V->D->ao->Prop):aw->ay->ao->Prop
 | nil:OwnL P [] [] []
 | cons {v:V} {d:D} {f:ao} {vs:aw} {ds:ay} {g:ao} (h:P v d f) (q:OwnL P vs ds g):OwnL P (v::vs) (d::ds) (f++g)
inductive OwnF (att:au) (P:V->D->ao->Prop):List (Str×V)->List aK->ao->Prop
 | nil:OwnF att P [] [] []
 | cons {n:Str} {i:Nat} {v:V} {d:D} {f:ao} {vs:List (Str×V)} {ds:List aK} {g:ao} (hf:att[i]? = some n) (h:P v d f) (q:OwnF att P vs ds g):OwnF att P ((n,v)::vs) ((i,d)::ds) (f++g)
theorem OwnL.imp {P Q:V->D->ao->Prop}:∀{vs ds fp},OwnL P vs ds fp->(∀v d f,(∀a∈f,a∈fp)->P v d f->Q v d f)->OwnL Q vs ds fp
 | _,_,_,.nil,_=>.nil
 | _,_,_,.cons h q,k=>.cons (k _ _ _ (λ_ z=>fj _ z) h) (q.imp λv d f z=>k v d f λa y=>cP _ (z a y))
theorem OwnF.imp {att:au}{P Q:V->D->ao->Prop}:∀{vs ds fp},OwnF att P vs ds fp->(∀v d f,(∀a∈f,a∈fp)->P v d f->Q v d f)->OwnF att Q vs ds fp
 | _,_,_,.nil,_=>.nil
 | _,_,_,.cons hf h q,k=>.cons hf (k _ _ _ (λ_ z=>fj _ z) h) (q.imp λv d f z=>k v d f λa y=>cP _ (z a y))
theorem OwnL.dens {W:Wd}{T:Hp}{P:V->D->ao->Prop}:∀{vs ds fp},OwnL P vs ds fp->(∀v d f,(∀a∈f,a∈fp)->P v d f->Den W T v d)->Dens W T vs ds
 | _,_,_,.nil,_=>.nil
 | _,_,_,.cons h q,k=>.cons (k _ _ _ (λ_ z=>fj _ z) h) (q.dens λv d f z=>k v d f λa y=>cP _ (z a y))
theorem OwnF.dens {W:Wd}{T:Hp}{P:V->D->ao->Prop}:∀{vs ds fp},OwnF W.att P vs ds fp->(∀v d f,(∀a∈f,a∈fp)->P v d f->Den W T v d)->DenF W T vs ds
 | _,_,_,.nil,_=>.nil
 | _,_,_,.cons hf h q,k=>.cons hf (k _ _ _ (λ_ z=>fj _ z) h) (q.dens λv d f z=>k v d f λa y=>cP _ (z a y))
theorem OwnL.length {P:V->D->ao->Prop}:∀{vs ds fp},OwnL P vs ds fp->vs.length=ds.length
 | _,_,_,.nil=>rfl
 | _,_,_,.cons _ q=>by rw[List.length_cons,List.length_cons,q.length]
noncomputable def Own (W:Wd)(S H:Hp):Nat->V->D->ao->Prop
 | 0,v,d,fp=>fp=[]/\Den W S v d
 | k+1,v,.lst ds,fp=>∃a vs fq,v=.ref a/\H a=some (.lst vs)/\OwnL (Own W S H k) vs ds fq/\fp=a::fq
 | k+1,v,.tup ds,fp=>∃a vs,v=.ref a/\SqT W.K S a vs/\OwnL (Own W S H k) vs ds fp
 | k+1,v,.ins c ds,fp=>∃a C dx fs fq,v=.ref a/\H a=some (.ins C dx fs)/\W.iA c=some C/\OwnF W.att (Own W S H k) fs ds fq/\fp=a::fq
 | k+1,v,.exc c ds,fp=>∃a C nw fs fq,v=.ref a/\H a=some (.exc C nw fs)/\(W.xA c=some C/\nw=true)/\OwnF W.att (Own W S H k) fs ds fq/\fp=a::fq
 | _+1,v,d,fp=>fp=[]/\Den W S v d
theorem Own.mono {W:Wd}{S S' H H':Hp}(hs:Sub S S'):∀{k v d fp},(∀a∈fp,∀o,H a=some o->H' a=some o)->Own W S H k v d fp->Own W S' H' k v d fp
 | 0,_,_,_,_,h=>⟨h.1,h.2.mono hs⟩
 | k+1,_,.lst ds,_,hf,⟨a,vs,fq,e1,e2,e3,e4⟩=>⟨a,vs,fq,e1,hf a (by rw[e4]; exact bZ) _ e2,e3.imp λ_ _ _ z y=>Own.mono hs (λb hb=>hf b (by rw[e4]; exact bQ _ (z b hb))) y,e4⟩
 | k+1,_,.tup ds,_,hf,⟨a,vs,e1,e2,e3⟩=>⟨a,vs,e1,SqT.sub hs e2,e3.imp λ_ _ _ z y=>Own.mono hs (λb hb=>hf b (z b hb)) y⟩
 | k+1,_,.ins c ds,_,hf,⟨a,C,dx,fs,fq,e1,e2,e5,e3,e4⟩=>⟨a,C,dx,fs,fq,e1,hf a (by rw[e4]; exact bZ) _ e2,e5,e3.imp λ_ _ _ z y=>Own.mono hs (λb hb=>hf b (by rw[e4]; exact bQ _ (z b hb))) y,e4⟩
 | k+1,_,.exc c ds,_,hf,⟨a,C,dx,fs,fq,e1,e2,e5,e3,e4⟩=>⟨a,C,dx,fs,fq,e1,hf a (by rw[e4]; exact bZ) _ e2,e5,e3.imp λ_ _ _ z y=>Own.mono hs (λb hb=>hf b (by rw[e4]; exact bQ _ (z b hb))) y,e4⟩
 | _+1,_,.non,_,_,h=>⟨h.1,h.2.mono hs⟩
 | _+1,_,.bl _,_,_,h=>⟨h.1,h.2.mono hs⟩
 | _+1,_,.int _,_,_,h=>⟨h.1,h.2.mono hs⟩
 | _+1,_,.str _,_,_,h=>⟨h.1,h.2.mono hs⟩
theorem Own.den {W:Wd}{S H T:Hp}(hs:Sub S T):∀{k v d fp},(∀a∈fp,∀o,H a=some o->T a=some o)->Own W S H k v d fp->Den W T v d
 | 0,_,_,_,_,h=>h.2.mono hs
 | k+1,_,.lst ds,_,hf,⟨a,vs,fq,e1,e2,e3,e4⟩=>by
  subst e1;exact .lst (.inl (hf a (by rw[e4]; exact bZ) _ e2)) (e3.dens λ_ _ _ z y=>Own.den hs (λb hb=>hf b (by rw[e4]; exact bQ _ (z b hb))) y)
 | k+1,_,.tup ds,_,hf,⟨a,vs,e1,e2,e3⟩=>by
  subst e1;exact .tup (SqT.sub hs e2) (e3.dens λ_ _ _ z y=>Own.den hs (λb hb=>hf b (z b hb)) y)
 | k+1,_,.ins c ds,_,hf,⟨a,C,dx,fs,fq,e1,e2,e5,e3,e4⟩=>by
  subst e1;exact .ins (hf a (by rw[e4]; exact bZ) _ e2) e5 (e3.dens λ_ _ _ z y=>Own.den hs (λb hb=>hf b (by rw[e4]; exact bQ _ (z b hb))) y)
 | k+1,_,.exc c ds,_,hf,⟨a,C,dx,fs,fq,e1,e2,e5,e3,e4⟩=>by
  subst e1;exact .exc (hf a (by rw[e4]; exact bZ) _ e2) e5.1 (e3.dens λ_ _ _ z y=>Own.den hs (λb hb=>hf b (by rw[e4]; exact bQ _ (z b hb))) y)
 | _+1,_,.non,_,_,h=>h.2.mono hs
 | _+1,_,.bl _,_,_,h=>h.2.mono hs
 | _+1,_,.int _,_,_,h=>h.2.mono hs
 | _+1,_,.str _,_,_,h=>h.2.mono hs
theorem OwnL.mem {P:V->D->ao->Prop}{R:Addr->Prop}(hP:∀v d f,P v d f->∀a∈f,R a):∀{vs ds fp},OwnL P vs ds fp->∀a∈fp,R a
 | _,_,_,.nil,_,z=>by simp at z
 | _,_,_,.cons h q,a,z=>(dN z).elim (hP _ _ _ h a) (q.mem hP a)
theorem OwnF.mem {att:au}{P:V->D->ao->Prop}{R:Addr->Prop}(hP:∀v d f,P v d f->∀a∈f,R a):∀{vs ds fp},OwnF att P vs ds fp->∀a∈fp,R a
 | _,_,_,.nil,_,z=>by simp at z
 | _,_,_,.cons _ h q,a,z=>(dN z).elim (hP _ _ _ h a) (q.mem hP a)
theorem Own.dom {W:Wd}{S H:Hp}:∀{k v d fp},Own W S H k v d fp->∀a∈fp,H a≠none
 | 0,_,_,_,h,a,z=>by rw[h.1] at z; simp at z
 | k+1,_,.lst ds,_,⟨a,vs,fq,e1,e2,e3,e4⟩,b,z=>by
  rw[e4] at z;rcases cH z with q | q
  .rw[q,e2]; simp
  .exact e3.mem (λ_ _ _ y=>Own.dom y) b q
 | k+1,_,.tup ds,_,⟨a,vs,e1,e2,e3⟩,b,z=>e3.mem (λ_ _ _ y=>Own.dom y) b z
 | k+1,_,.ins c ds,_,⟨a,C,dx,fs,fq,e1,e2,e5,e3,e4⟩,b,z=>by
  rw[e4] at z;rcases cH z with q | q
  .rw[q,e2]; simp
  .exact e3.mem (λ_ _ _ y=>Own.dom y) b q
 | k+1,_,.exc c ds,_,⟨a,C,dx,fs,fq,e1,e2,e5,e3,e4⟩,b,z=>by
  rw[e4] at z;rcases cH z with q | q
  .rw[q,e2]; simp
  .exact e3.mem (λ_ _ _ y=>Own.dom y) b q
 | _+1,_,.non,_,h,a,z=>by rw[h.1] at z; simp at z
 | _+1,_,.bl _,_,h,a,z=>by rw[h.1] at z; simp at z
 | _+1,_,.int _,_,h,a,z=>by rw[h.1] at z; simp at z
 | _+1,_,.str _,_,h,a,z=>by rw[h.1] at z; simp at z
theorem OwnL.flat {W:Wd}{S:Hp}{P:V->D->ao->Prop}(hP:∀v d,d.flat=true->Den W S v d->P v d []):∀{vs ds},D.flats ds=true->Dens W S vs ds->OwnL P vs ds []
 | _,_,_,.nil=>.nil
 | _,_,hf,.cons h q=>by
  rw[D.flats,tw] at hf;exact OwnL.cons (f:=[]) (g:=[]) (hP _ _ hf.1 h) (OwnL.flat hP hf.2 q)
theorem OwnL.flat_inv {W:Wd}{S:Hp}{P:V->D->ao->Prop}(hP:∀v d f,d.flat=true->P v d f->f=[]/\Den W S v d):∀{vs ds fp},D.flats ds=true->OwnL P vs ds fp->fp=[]/\Dens W S vs ds
 | _,_,_,_,.nil=>⟨rfl,.nil⟩
 | _,_,_,hf,.cons h q=>by
  rw[D.flats,tw] at hf;obtain⟨e1,d1⟩:=hP _ _ _ hf.1 h;obtain⟨e2,d2⟩:=q.flat_inv hP hf.2;exact⟨by rw[e1,e2]; rfl,.cons d1 d2⟩
theorem Own.flat {W:Wd}{S H:Hp}:∀{k v d},d.flat=true->Den W S v d->Own W S H k v d []
 | 0,_,_,_,h=>⟨rfl,h⟩
 | k+1,_,.lst _,hf,_=>by simp[D.flat] at hf
 | k+1,_,.tup ds,hf,.tup e q=>⟨_,_,rfl,e,OwnL.flat (λ_ _=>Own.flat) (by rw[D.flat] at hf; exact hf) q⟩
 | k+1,_,.ins _ _,hf,_=>by simp[D.flat] at hf
 | k+1,_,.exc _ _,hf,_=>by simp[D.flat] at hf
 | _+1,_,.non,_,h=>⟨rfl,h⟩
 | _+1,_,.bl _,_,h=>⟨rfl,h⟩
 | _+1,_,.int _,_,h=>⟨rfl,h⟩
 | _+1,_,.str _,_,h=>⟨rfl,h⟩
theorem Own.flat_inv {W:Wd}{S H:Hp}:∀{k v d fp},d.flat=true->Own W S H k v d fp->fp=[]/\Den W S v d
 | 0,_,_,_,_,h=>h
 | k+1,_,.lst _,_,hf,_=>by simp[D.flat] at hf
 | k+1,_,.tup ds,_,hf,⟨a,vs,e1,e2,e3⟩=>by
  obtain⟨h1,h2⟩:=e3.flat_inv (λ_ _ _=>Own.flat_inv) (by rw[D.flat] at hf; exact hf);subst e1;exact⟨h1,.tup e2 h2⟩
 | k+1,_,.ins _ _,_,hf,_=>by simp[D.flat] at hf
 | k+1,_,.exc _ _,_,hf,_=>by simp[D.flat] at hf
 | _+1,_,.non,_,_,h=>h
 | _+1,_,.bl _,_,_,h=>h
 | _+1,_,.int _,_,_,h=>h
 | _+1,_,.str _,_,_,h=>h
theorem OwnL.re {P Q:V->D->ao->Prop}{b:D->Bool}(hP:∀v d f,b d=true->P v d f->Q v d f):∀{vs ds fp},ds.all b=true->OwnL P vs ds fp->OwnL Q vs ds fp
 | _,_,_,_,.nil=>.nil
 | _,_,_,hf,.cons h q=>by
  rw[List.all_cons,tw] at hf;exact .cons (hP _ _ _ hf.1 h) (q.re hP hf.2)
def NOk (N:Addr->Prop)(H:Hp):Prop:=∀a,N a->H a≠none
def RelS (W:Wd)(S:Hp)(a:Sl)(σ:St):Prop:=∀(i:Nat) (d:D),a[i]? = some (some d)->∃v,σ[i]? = some (some v)/\Den W S v d
theorem RelS.mono {W:Wd}{S S':Hp}{a:Sl}{σ:St}(h:Sub S S')(r:RelS W S a σ):RelS W S' a σ:=λi d e=>by
 obtain⟨v,h1,h2⟩:=r i d e;exact⟨v,h1,h2.mono h⟩
def Res (W:Wd)(H:Hp)(N:Addr->Prop)(H':Hp)(x:KD)(v:V):Prop:=
 Sub H H'/\∃fp:ao,fp.Nodup/\(∀a∈fp,H a=none)/\Own W (hid (λa=>N a\/a∈fp) H') H' x.1 v x.2 fp
inductive OwnV (W:Wd) (S H:Hp):aw->ax->ao->Prop
 | nil:OwnV W S H [] [] []
 | cons {v:V} {x:KD} {f:ao} {vs:aw} {xs:ax} {g:ao} (h:Own W S H x.1 v x.2 f) (q:OwnV W S H vs xs g):OwnV W S H (v::vs) (x::xs) (f++g)
theorem OwnV.mono {W:Wd}{S S' H H':Hp}(hs:Sub S S'):∀{vs xs fp},(∀a∈fp,∀o,H a=some o->H' a=some o)->OwnV W S H vs xs fp->OwnV W S' H' vs xs fp
 | _,_,_,_,.nil=>.nil
 | _,_,_,hf,.cons h q=>.cons (h.mono hs λa z=>hf a (fj _ z)) (q.mono hs λa z=>hf a (cP _ z))
theorem OwnV.dens {W:Wd}{S H T:Hp}(hs:Sub S T):∀{vs xs fp},(∀a∈fp,∀o,H a=some o->T a=some o)->OwnV W S H vs xs fp->Dens W T vs (xs.map (·.2))
 | _,_,_,_,.nil=>.nil
 | _,_,_,hf,.cons h q=>.cons (h.den hs λa z=>hf a (fj _ z)) (q.dens hs λa z=>hf a (cP _ z))
theorem OwnV.dom {W:Wd}{S H:Hp}:∀{vs xs fp},OwnV W S H vs xs fp->∀a∈fp,H a≠none
 | _,_,_,.nil,a,z=>by simp at z
 | _,_,_,.cons h q,a,z=>(dN z).elim (h.dom a) (q.dom a)
theorem OwnV.length {W:Wd}{S H:Hp}:∀{vs xs fp},OwnV W S H vs xs fp->vs.length=xs.length
 | _,_,_,.nil=>rfl
 | _,_,_,.cons _ q=>by rw[List.length_cons,List.length_cons,q.length]
def ResL (W:Wd)(H:Hp)(N:Addr->Prop)(H':Hp)(xs:ax)(vs:aw):Prop:=
 Sub H H'/\∃fp:ao,fp.Nodup/\(∀a∈fp,H a=none)/\OwnV W (hid (λa=>N a\/a∈fp) H') H' vs xs fp
def ExcR (W:Wd)(H:Hp)(N:Addr->Prop)(H':Hp)(c:Nat)(fs:List aK)(e:Addr):Prop:=
 Sub H H'/\H e=none/\∃C vs,H' e=some (.exc C false vs)/\W.xA c=some C/\DenF W (hid N H') vs fs
theorem Res.den {W:Wd}{H H':Hp}{N:Addr->Prop}{x:KD}{v:V}(hN:NOk N H)(r:Res W H N H' x v):Den W (hid N H') v x.2:=by
 obtain⟨hs,fp,_,hf,o⟩:=r;refine o.den (λa u e=>?_) λa ha u e=>bg.mpr ⟨λz=>hN a z (hf a ha),e⟩;obtain⟨h1,h2⟩:=bg.mp e;exact bg.mpr ⟨λz=>h1 (.inl z),h2⟩
theorem ResL.dens {W:Wd}{H H':Hp}{N:Addr->Prop}{xs:ax}{vs:aw}(hN:NOk N H)(r:ResL W H N H' xs vs):Dens W (hid N H') vs (xs.map (·.2)):=by
 obtain⟨hs,fp,_,hf,o⟩:=r;refine o.dens (λa u e=>?_) λa ha u e=>bg.mpr ⟨λz=>hN a z (hf a ha),e⟩;obtain⟨h1,h2⟩:=bg.mp e;exact bg.mpr ⟨λz=>h1 (.inl z),h2⟩
def Res.of_den {W:Wd}{H H':Hp}{N:Addr->Prop}{v:V}{d:D}(hs:Sub H H')(h:Den W (hid N H') v d):Res W H N H' (0,d) v:=
 ⟨hs,[],.nil,λa z=>by simp at z,rfl,h.mono λa o e=>bg.mpr ⟨λz=>(bg.mp e).1 (by simpa using z),(bg.mp e).2⟩⟩
def Res.of_flat {W:Wd}{H H':Hp}{N:Addr->Prop}{v:V}{k:Nat}{d:D}(hs:Sub H H')(hf:d.flat=true)(h:Den W (hid N H') v d):Res W H N H' (k,d) v:=
 ⟨hs,[],.nil,λa z=>by simp at z,Own.flat hf (h.mono λa o e=>bg.mpr ⟨λz=>(bg.mp e).1 (by simpa using z),(bg.mp e).2⟩)⟩
def NOk.mono {N:Addr->Prop}{H H':Hp}(h:NOk N H)(hs:Sub H H'):NOk N H':=λa z q=>h a z (hs.none q)
section
variable (W:Wd)(G:Pg)(cl:Nat->ax->Ip.Run)
def bm (ir:Ex)(E:St->XK):TE:=λσ H Q=>∃(N:Addr->Prop) (a:Sl),NOk N H/\RelS W (hid N H) a σ/\match Ip.eval G cl a ir with
 | .ok x=>∀v H',Res W H N H' x v->Q v H'
 | .exc c fs=>∀e H',ExcR W H N H' c fs e->E σ (.ref e) none H'
 | .bad=>False
def ci (irs:aG)(E:St->XK):TA:=λσ H Q=>∃(N:Addr->Prop) (a:Sl),NOk N H/\RelS W (hid N H) a σ/\match Ip.evals G cl a irs with
 | .ok xs=>∀vs H',ResL W H N H' xs vs->Q vs H'
 | .exc c fs=>∀e H',ExcR W H N H' c fs e->E σ (.ref e) none H'
 | .bad=>False
end
def PE.mono {X:Cx}{e:Expr}{t t':TE}(h:PE X e t)(k:∀σ H Q,t' σ H Q->t σ H Q):PE X e t':=λpins s σ H Q I q=>h pins s σ H Q I (k σ H Q q)
def PA.mono {X:Cx}{e:av}{t t':TA}(h:PA X e t)(k:∀σ H Q,t' σ H Q->t σ H Q):PA X e t':=λpos pins s σ H Q I q=>h pos pins s σ H Q I (k σ H Q q)
def PT.mono {X:Cx}{e:Expr}{t t':TT}(h:PT X e t)(k:∀σ H Q,t' σ H Q->t σ H Q):PT X e t':=λpins s σ H Q I q=>h pins s σ H Q I (k σ H Q q)
def PS.mono {X:Cx}{e:Stmt}{t t':TS}(h:PS X e t)(k:∀D σ H,t' D σ H->t D σ H):PS X e t':=λpins s σ H D I q=>h pins s σ H D I (k D σ H q)
def PSs.mono {X:Cx}{e:aH}{t t':TS}(h:PSs X e t)(k:∀D σ H,t' D σ H->t D σ H):PSs X e t':=λpins s σ H D I q=>h pins s σ H D I (k D σ H q)
def bX {X:Cx}{e:Expr}{W:Wd}{G:Pg}{cl:Nat->ax->Ip.Run}{E:St->XK}:PE X e (bm W G cl .bad E):=λ_ _ _ _ _ _ ⟨_,_,_,_,h⟩=>by
 rw[Ip.eval] at h; exact h.elim
section
variable {W:Wd}{G:Pg}{cl:Nat->ax->Ip.Run}{E:St->XK}{σ:St}{H:Hp}
theorem ExcR.trans {H1 H':Hp}{N N':Addr->Prop}{c:Nat}{fs:List aK}{e:Addr}(hs:Sub H H1)(hn:∀a,N a->N' a)(r:ExcR W H1 N' H' c fs e):ExcR W H N H' c fs e:=by
 obtain⟨s1,e1,C,vs,h1,h2,h3⟩:=r;exact⟨hs.trans s1,hs.none e1,C,vs,h1,h2,h3.mono λa o z=>bg.mpr ⟨λq=>(bg.mp z).1 (hn a q),(bg.mp z).2⟩⟩
def fW {ir:Ex}{Q:VK}{N:Addr->Prop}{a:Sl}(hN:NOk N H)(hS:RelS W (hid N H) a σ)
  (ok:∀x,Ip.eval G cl a ir=.ok x->∀v H1 fp,Sub H H1->fp.Nodup->(∀b∈fp,H b=none)->Own W (hid (λb=>N b\/b∈fp) H1) H1 x.1 v x.2 fp ->
   NOk (λb=>N b\/b∈fp) H1->RelS W (hid (λb=>N b\/b∈fp) H1) a σ->Q v H1)
  (ex:∀c fs,Ip.eval G cl a ir=.exc c fs->∀e H',ExcR W H N H' c fs e->E σ (.ref e) none H')(nb:Ip.eval G cl a ir≠.bad):bm W G cl ir E σ H Q:=by
 refine⟨N,a,hN,hS,?_⟩;cases q:Ip.eval G cl a ir with
 | bad=>exact absurd q nb
 | exc c fs=>exact ex c fs q
 | ok x=>
  rintro v H1 ⟨hs,fp,nd,hf,o⟩;refine ok x q v H1 fp hs nd hf o (λb z=>?_) (hS.mono (gN hs λb z=>z.imp id λy=>hf b y));exact z.elim (λy=>(hN.mono hs) b y) (o.dom b)
end
end L2
end
section
namespace L2
open PySem PySem.Spec PyProof.Rows
open Ip (D KD Ex Op Pg Fn Sl Fr Wk Tg Tb R k6 cR bL cZ bY bU bK bC)
def rD (W:Wd)(G:Pg)(o:Op)(vs:aw)(H:Hp)(Q:VK):Prop:=∃(N:Addr->Prop) (xs:ax) (x:KD),NOk N H/\Dens W (hid N H) vs (xs.map (·.2))/\bC G o xs=some x/\∀v H',Res W H N H' x v->Q v H'
theorem Res.trans {W:Wd}{H H2 H':Hp}{N:Addr->Prop}{x:KD}{v:V}(hs:Sub H H2)(r:Res W H2 N H' x v):Res W H N H' x v:=by
 obtain⟨h1,fp,nd,hf,o⟩:=r;exact⟨hs.trans h1,fp,nd,λa z=>hs.none (hf a z),o⟩
def Own.later {W:Wd}{H H1 H2:Hp}{N M:Addr->Prop}{k:Nat}{v:V}{d:D}{fp:ao}(hN:NOk N H)(hs:Sub H1 H2)(hf:∀b∈fp,H b=none)(hM:∀b,N b->M b)(o:Own W (hid (λb=>M b\/b∈fp) H1) H1 k v d fp):Den W (hid N H2) v d:=by
 refine o.den (λa u e=>?_) λa ha u e=>bg.mpr ⟨λz=>hN a z (hf a ha),hs a u e⟩;obtain⟨h1,h2⟩:=bg.mp e;exact bg.mpr ⟨λz=>h1 (.inl (hM a z)),hs a u h2⟩
section
variable {W:Wd}{G:Pg}{cl:Nat->ax->Ip.Run}{E:St->XK}{σ:St}{H:Hp}{Q:VK}{o:Op}
def ku {ia:Ex}{r:V->Hp->VK->Prop}(hr:∀x H Q,rD W G o [x] H Q->r x H Q)(h:bm W G cl (.op o [ia]) E σ H Q):qe r (bm W G cl ia E) σ H Q:=by
 obtain⟨N,a,hN,hS,h⟩:=h;unfold qe;refine fW hN hS (λx ex v H1 fp hs nd hf ow hN1 hS1=>?_) (λc fs ee=>?_) λee=>?_
 .simp only[cR,Ip.dk,bL,ex,R.bind] at h;cases q:bC G o [x] with
  | none=>simp only[q,R.of] at h
  | some z=>
   simp only[q,R.of] at h;exact hr _ _ _ ⟨N,[x],z,hN.mono hs,.cons (ow.later hN (Sub.refl _) hf λ_ y=>y) .nil,q,λw H' r=>h w H' (r.trans hs)⟩
 .simp only[cR,bL,ee,R.bind] at h;exact h
 .simp only[cR,bL,ee,R.bind] at h
def iJ {ia ib:Ex}{r:R2}(hr:∀x y H Q,rD W G o [x,y] H Q->r x y H Q)(h:bm W G cl (.op o [ia,ib]) E σ H Q):kX r (bm W G cl ia E) (bm W G cl ib E) σ H Q:=by
 obtain⟨N,a,hN,hS,h⟩:=h;unfold kX;refine fW hN hS (λx ex v H1 fp hs nd hf ow hN1 hS1=>?_) (λc fs ee=>?_) λee=>?_
 .refine fW hN1 hS1 (λy ey w H2 fq hs2 nd2 hf2 ow2 hN2 hS2=>?_) (λc fs ee e H' r=>?_) λee=>?_
  .simp only[cR,Ip.dk,bL,ex,ey,R.bind] at h;cases q:bC G o [x,y] with
   | none=>simp only[q,R.of] at h
   | some z=>
    simp only[q,R.of] at h;exact hr _ _ _ _ ⟨N,[x,y],z,hN.mono (hs.trans hs2),.cons (ow.later hN hs2 hf λ_ y=>y) (.cons (ow2.later (hN.mono hs) (Sub.refl _) hf2 λ_ y=>.inl y) .nil),q,λw H' r=>h w H' (r.trans (hs.trans hs2))⟩
  .simp only[cR,bL,ex,ee,R.bind] at h;exact h e H' (r.trans hs λ_ y=>.inl y)
  .simp only[cR,bL,ex,ee,R.bind] at h
 .simp only[cR,bL,ee,R.bind] at h;exact h
 .simp only[cR,bL,ee,R.bind] at h
end
def Dens.one {W:Wd}{S:Hp}{vs:aw}{d:D}(h:Dens W S vs [d]):∃v,vs=[v]/\Den W S v d:=by
 cases h with
 | cons h r=>cases r; exact⟨_,rfl,h⟩
def Dens.two {W:Wd}{S:Hp}{vs:aw}{d e:D}(h:Dens W S vs [d,e]):∃v w,vs=[v,w]/\Den W S v d/\Den W S w e:=by
 cases h with
 | cons h r=>
  obtain⟨w,e,h2⟩:=r.one;subst e;exact⟨_,_,rfl,h,h2⟩
def fM {W:Wd}{S:Hp}{x:V}{xs:ax}(h:Dens W S [x] (xs.map (·.2))):∃p,xs=[p]/\Den W S x p.2:=by
 cases xs with
 | nil=>cases h
 | cons p r=>
  cases h with
  | cons h1 h2=>
   cases r with
   | nil=>exact⟨p,rfl,h1⟩
   | cons _ _=>cases h2
def dW {W:Wd}{S:Hp}{x y:V}{xs:ax}(h:Dens W S [x,y] (xs.map (·.2))):∃p q,xs=[p,q]/\Den W S x p.2/\Den W S y q.2:=by
 cases xs with
 | nil=>cases h
 | cons p r=>
  cases h with
  | cons h1 h2=>
   obtain⟨q,rfl,h3⟩:=fM h2;exact⟨p,q,rfl,h1,h3⟩
def Den.int_inv {W:Wd}{S:Hp}{v:V}{i:Int}(h:Den W S v (.int i)):v=.int i:=by cases h; rfl
def Den.bl_inv {W:Wd}{S:Hp}{v:V}{i:Bool}(h:Den W S v (.bl i)):v=.bl i:=by cases h; rfl
theorem Res.int {W:Wd}{H:Hp}{N:Addr->Prop}{k:Nat}{i:Int}:Res W H N H (k,.int i) (.int i):=Res.of_flat (Sub.refl _) rfl .int
theorem Res.bl {W:Wd}{H:Hp}{N:Addr->Prop}{k:Nat}{i:Bool}:Res W H N H (k,.bl i) (.bl i):=Res.of_flat (Sub.refl _) rfl .bl
section
variable {X:Cx}{W:Wd}{G:Pg}
def OpR.imp {f:Value->Value->Sem Value}{r r':R2}(h:OpR X f r)(k:∀x y H Q,r' x y H Q->r x y H Q):OpR X f r':=λpins s σ H x y v u Q I rx ry q=>h pins s σ H x y v u Q I rx ry (k x y H Q q)
def jK {o:Op}{f:Int->Int->aA}{C:Int->Int->Prop}{g:Int->Int->V}(ho:∀xs,bC G o xs=bK (bU f) xs)(hf:∀i j x,f i j=some x->C i j/\∀(N:Addr->Prop) (H:Hp),Res W H N H x (g i j)) :
  ∀x y H Q,rD W G o [x,y] H Q->rI C g x y H Q:=by
 rintro x y H Q ⟨N,xs,z,hN,hd,hz,hq⟩;obtain⟨p,q,rfl,d1,d2⟩:=dW hd;rw[ho] at hz;obtain⟨k1,p⟩:=p;obtain⟨k2,q⟩:=q;simp only[bK] at hz;cases p <;> first | exact (bY hz).elim | (cases q <;> first | exact (bY hz).elim | simp only[bU] at hz)
 cases d1;cases d2;obtain⟨hc,hr⟩:=hf _ _ _ hz;exact⟨_,_,rfl,rfl,hc,hq _ _ (hr N H)⟩
def Gk:OpR X (binaryOp .Sub) (λx y=>rD W G .sub [x,y]):=Go.imp λx y H Q h=>by
 obtain⟨i,j,e1,e2,_,q⟩:=jK (C:=λ_ _=>True) (g:=λi j=>.int (i - j)) (λ_=>rfl) (λi j x e=>by cases e; exact⟨trivial,λ_ _=>Res.int⟩) x y H Q h;exact⟨i,j,e1,e2,q⟩
def xS:OpR X (binaryOp .FloorDiv) (rI (λ_ j=>0<j/\j<1000000000000000000000000000000000000000000000000) λi j=>.int (i / j)):=pk λi j _ _ _ _ _ hc q=>by
 have h1:(0:Int)<j:=hc.1;have h2:j<1000000000000000000000000000000000000000000000000:=hc.2;exact floordiv_int (by omega) (by rw[Int.fdiv_eq_ediv_of_nonneg i (by omega)]; exact q) (.inl (PyProof.noPylong_of_log2 (d6 ((Nat.log2_lt (by omega)).mpr (by omega:j.natAbs<2 ^ 160)) (by decide))))
def C0:OpR X (binaryOp .FloorDiv) (λx y=>rD W G .fdiv [x,y]):=xS.imp (jK (λ_=>rfl) λi j x e=>by
 by_cases h:0<j/\j<1000000000000000000000000000000000000000000000000
 .rw[if_pos h] at e; cases e; exact⟨h,λ_ _=>Res.int⟩
 .rw[if_neg h] at e; cases e)
def Dz:OpR X (binaryOp .Mod) (λx y=>rD W G .mod [x,y]):=Bx.imp (jK (λ_=>rfl) λi j x e=>by
 by_cases h:0<j
 .rw[if_pos h] at e; cases e; exact⟨h,λ_ _=>Res.int⟩
 .rw[if_neg h] at e; cases e)
def EC {i:Int}(h:cZ i=true):i.natAbs<2 ^ 64:=by
 rw[Ip.fQ] at h;omega
def C5:OpR X (binaryOp .Pow) (λx y=>rD W G .pow [x,y]):=zc.imp (jK (λ_=>rfl) λi j x e=>by
 by_cases h:0<=j/\j<=1000000/\cZ i=true
 .rw[if_pos h] at e; cases e; exact⟨⟨h.1,h.2.1,EC h.2.2⟩,λ_ _=>Res.int⟩
 .rw[if_neg h] at e; cases e)
def sL:OpR X (compareOp .LtE) (λx y=>rD W G .le [x,y]):=DE.imp λx y H Q h=>by
 obtain⟨i,j,e1,e2,_,q⟩:=jK (C:=λ_ _=>True) (g:=λi j=>.bl (decide (i<=j))) (λ_=>rfl) (λi j x e=>by cases e; exact⟨trivial,λ_ _=>Res.bl⟩) x y H Q h;exact⟨i,j,e1,e2,q⟩
def rM:OpR X (compareOp .Gt) (λx y=>rD W G .gt [x,y]):=FS.imp λx y H Q h=>by
 obtain⟨i,j,e1,e2,_,q⟩:=jK (C:=λ_ _=>True) (g:=λi j=>.bl (decide (j<i))) (λ_=>rfl) (λi j x e=>by cases e; exact⟨trivial,λ_ _=>Res.bl⟩) x y H Q h;exact⟨i,j,e1,e2,q⟩
def r8:OpR X (compareOp .GtE) (λx y=>rD W G .ge [x,y]):=Cf.imp λx y H Q h=>by
 obtain⟨i,j,e1,e2,_,q⟩:=jK (C:=λ_ _=>True) (g:=λi j=>.bl (decide (j<=i))) (λ_=>rfl) (λi j x e=>by cases e; exact⟨trivial,λ_ _=>Res.bl⟩) x y H Q h;exact⟨i,j,e1,e2,q⟩
def qQ:OpR X (compareOp .Lt) (λx y=>rD W G .lt [x,y]):=y3.imp λx y H Q h=>by
 obtain⟨i,j,e1,e2,_,q⟩:=jK (C:=λ_ _=>True) (g:=λi j=>.bl (decide (i<j))) (λ_=>rfl) (λi j x e=>by cases e; exact⟨trivial,λ_ _=>Res.bl⟩) x y H Q h;exact⟨i,j,e1,e2,q⟩
theorem OwnL.zero {S T:Hp}:∀{vs ds},Dens W S vs ds->OwnL (Own W S T 0) vs ds []
 | _,_,.nil=>.nil
 | _,_,.cons h q=>OwnL.cons (f:=[]) (g:=[]) ⟨rfl,h⟩ (OwnL.zero q)
def Gn {H:Hp}{N:Addr->Prop}{p:Addr}{o:HO}(hp:H p=none):Sub (hid N H) (hid (λa=>N a\/a∈[p]) (upd H p o)):=
 gN (Sub.upd hp) λa z=>z.imp id λy=>by rw[Gx.mp y]; exact hp
def Res.newL {H:Hp}{N:Addr->Prop}{p:Addr}{vs:aw}{ds:ay}(hp:H p=none)(h:Dens W (hid N H) vs ds):Res W H N (upd H p (.lst vs)) (1,.lst ds) (.ref p):=
 ⟨Sub.upd hp,[p],by simp,λa z=>by rw[Gx.mp z]; exact hp,p,vs,[],rfl,cm,OwnL.zero (h.mono (Gn hp)),rfl⟩
def Res.newT {H:Hp}{N:Addr->Prop}{p:Addr}{vs:aw}{ds:ay}(hN:NOk N H)(hp:H p=none)(h:Dens W (hid N H) vs ds):Res W H N (upd H p (.tup vs)) (0,.tup ds) (.ref p):=
 Res.of_den (Sub.upd hp) (.tup (SqT.of (bg.mpr ⟨λz=>hN p z hp,cm⟩)) (h.mono (gN (Sub.upd hp) λa z=>.inl z)))
def Inv.rdL {pins:ah}{σ:St}{H:Hp}{s:Shared}{l:Addr}{xs:aw}(I:Inv X pins σ H s)(h:Rd H l (.lst xs)):xs.length<=sizeLine/\∃(its:ar) (n:Nat),Vals xs its/\xs.length=its.length/\s.heap.get? l=some { cls:=.type "list",data:=.seq its.toArray n }:=by
 obtain⟨z,its,n,r,e⟩:=h.ok I.hok;exact⟨z,its,n,r,r.length,e⟩
def mR:R2:=λx y H Q=>∃l b xs zs,x=.ref l/\y=.ref b/\Rd H l (.lst xs)/\Rd H b (.lst zs)/\xs.length+zs.length<=sizeLine/\∀p,H p=none->Q (.ref p) (upd H p (.lst (xs++zs)))
def C1:OpR X (binaryOp .Add) mR:=by
 intro pins s σ H x y v u Q I rx ry h;obtain⟨l,b,xs,zs,rfl,rfl,hH,hB,hz,q⟩:=h;cases rx;cases ry;obtain⟨z,its,n,r,hl,e⟩:=I.rdL hH;obtain⟨z2,its2,n2,r2,hl2,e2⟩:=I.rdL hB;refine PySem.P.add_list e e2 ?_ (by rw[Gy,Gy]; omega);have ea:its.toArray++its2.toArray=(its++its2).toArray:=by simp
 rw[ea];exact⟨.ref _,_,I.lnew (t':=s.toks) (r.append r2) (by rw[GJ]; omega),rfl,q _ I.fresh⟩
def ji {n:Nat}(h:n<=Ip.SL):n<=sizeLine:=ce h (by decide)
def zS:OpR X (binaryOp .Mult) (λx y=>rD W G .mul [x,y]):=by
 refine AJ.imp λx y H Q hZz=>?_;obtain⟨N,xs,z,hN,hd,hz,hq⟩:=hZz;obtain⟨⟨k1,p⟩,⟨k2,q⟩,rfl,d1,d2⟩:=dW hd;simp only[Ip.AK,bK] at hz;cases p <;> first | exact (bY hz).elim | (cases q <;> first | exact (bY hz).elim | simp only[Ip.fE] at hz)
 .rename_i i j;cases d1;cases d2;by_cases h:(cZ i||cZ j)=true
  .rw[if_pos h] at hz;cases hz;refine⟨i,j,rfl,rfl,?_,hq _ _ Res.int⟩;simp only[G8,Ip.fQ] at h;unfold CMul;omega
  .rw[if_neg h] at hz; cases hz
def zu (hK:W.K=X.K):OpR X (binaryOp .Add) (λx y=>rD W G .add [x,y]):=by
 refine ((BU.or C1).or (yL.or yz)).imp λx y H Q hZz=>?_;obtain⟨N,xs,z,hN,hd,hz,hq⟩:=hZz;obtain⟨⟨k1,p⟩,⟨k2,q⟩,rfl,d1,d2⟩:=dW hd;simp only[Ip.DP,bK] at hz;cases p <;> first | exact (bY hz).elim | (cases q <;> first | exact (bY hz).elim | simp only[Ip.dH] at hz)
 .cases d1;cases d2;cases hz;exact .inl (.inl ⟨_,_,rfl,rfl,hq _ _ Res.int⟩)
 .rename_i xs ys;split at hz
  .rename_i hl;cases hz;cases d1 with | lst e1 q1=>?_
   cases d2 with | lst e2 q2=>?_
   refine .inl (.inr ⟨_,_,_,_,rfl,rfl,Rd.sub bS e1,Rd.sub bS e2,?_,λp hp=>hq _ _ (Res.newL hp (q1.append q2))⟩);rw[q1.length,q2.length];exact ji hl
  .cases hz
 .rename_i xs ys;split at hz
  .rename_i hl;cases hz;cases d1 with | @tup a vs _ e1 q1=>?_
   cases d2 with | @tup b ws _ e2 q2=>?_
   have s1:SqT X.K H a vs:=by rw[<-hK]; exact SqT.sub bS e1
   have s2:SqT X.K H b ws:=by rw[<-hK]; exact SqT.sub bS e2
   by_cases c1:vs=[]
   .subst c1;cases q1;exact .inr (.inl ⟨a,b,ws,rfl,rfl,s1,s2,hq _ _ (Res.of_den (Sub.refl _) (.tup e2 q2))⟩)
   .refine .inr (.inr ⟨a,b,vs,ws,rfl,rfl,s1,s2,c1,?_,λc2=>?_,λ_ p hp=>hq _ _ (Res.newT hN hp (q1.append q2))⟩)
    .rw[q1.length,q2.length];exact ji hl
    .subst c2;cases q2;rw[HJ] at hq;exact hq _ _ (Res.of_den (Sub.refl _) (.tup e1 q1))
  .cases hz
end
mutual
noncomputable def b9:D->PyData
 | .non=>.none
 | .bl b=>.bool b
 | .int i=>.int i
 | .str s=>.str s
 | .lst xs=>.list (pyDs xs)
 | .tup xs=>.tuple (pyDs xs)
 | .ins _ _=>.none
 | .exc _ _=>.none
noncomputable def pyDs:ay->List PyData
 | []=>[]
 | d::ds=>b9 d::pyDs ds
end
mutual
theorem om:∀x y:D,∀n m,x.pur n=true->y.pur m=true->PyData.eqv (b9 x) (b9 y)=x.eq y
 | .lst xs,y,n,m,hx,hy=>by
  cases n with
  | zero=>cases hx
  | succ n=>
   cases y with
   | lst ys=>
    cases m with
    | zero=>cases hy
    | succ m=>rw[b9,b9,D.eq,PyData.eqv]; exact zHa xs ys n m hx hy
   | ins _ _=>cases m <;> cases hy
   | exc _ _=>cases m <;> cases hy
   | _=>simp[b9,D.eq,PyData.eqv]
 | .tup xs,y,n,m,hx,hy=>by
  cases n with
  | zero=>cases hx
  | succ n=>
   cases y with
   | tup ys=>
    cases m with
    | zero=>cases hy
    | succ m=>rw[b9,b9,D.eq,PyData.eqv]; exact zHa xs ys n m hx hy
   | ins _ _=>cases m <;> cases hy
   | exc _ _=>cases m <;> cases hy
   | _=>simp[b9,D.eq,PyData.eqv]
 | .ins _ _,_,n,_,hx,_=>by cases n <;> cases hx
 | .exc _ _,_,n,_,hx,_=>by cases n <;> cases hx
 | .non,y,_,m,_,hy=>by
  cases y with
  | ins _ _=>cases m <;> cases hy
  | exc _ _=>cases m <;> cases hy
  | _=>simp[b9,D.eq,PyData.eqv]
 | .bl b,y,_,m,_,hy=>by
  cases y with
  | bl c=>cases b <;> cases c <;> rfl
  | int i=>rw[b9,b9,D.eq,PyData.eqv]; rfl
  | ins _ _=>cases m <;> cases hy
  | exc _ _=>cases m <;> cases hy
  | _=>simp[b9,D.eq,PyData.eqv]
 | .int i,y,_,m,_,hy=>by
  cases y with
  | bl c=>rw[b9,b9,D.eq,PyData.eqv]; rfl
  | int i=>rw[b9,b9,D.eq,PyData.eqv]; rfl
  | ins _ _=>cases m <;> cases hy
  | exc _ _=>cases m <;> cases hy
  | _=>simp[b9,D.eq,PyData.eqv]
 | .str i,y,_,m,_,hy=>by
  cases y with
  | str j=>rw[b9,b9,D.eq,PyData.eqv]; by_cases h:i=j <;> simp[h]
  | ins _ _=>cases m <;> cases hy
  | exc _ _=>cases m <;> cases hy
  | _=>simp[b9,D.eq,PyData.eqv]
theorem zHa:∀xs ys:ay,∀n m,xs.all (D.pur n)=true->ys.all (D.pur m)=true->PyData.eqvAll (pyDs xs) (pyDs ys)=D.eqs xs ys
 | [],[],_,_,_,_=>by simp[pyDs,D.eqs,PyData.eqvAll]
 | [],_::_,_,_,_,_=>by simp[pyDs,D.eqs,PyData.eqvAll]
 | _::_,[],_,_,_,_=>by simp[pyDs,D.eqs,PyData.eqvAll]
 | x::xs,y::ys,n,m,hx,hy=>by
  rw[List.all_cons,tw] at hx hy;rw[pyDs,pyDs,D.eqs,PyData.eqvAll,om x y n m hx.1 hy.1,zHa xs ys n m hx.2 hy.2]
end
mutual
theorem kh:∀x:D,∀n,x.pur n=true->(b9 x).canLay0=true/\(b9 x).depth<=n
 | .lst xs,n,hx=>by
  cases n with
  | zero=>cases hx
  | succ n=>
   obtain⟨h1,h2⟩:=zCz xs n hx;rw[b9,PyData.canLay0,PyData.depth];exact⟨h1,by omega⟩
 | .tup xs,n,hx=>by
  cases n with
  | zero=>cases hx
  | succ n=>
   obtain⟨h1,h2⟩:=zCz xs n hx;rw[b9,PyData.canLay0,PyData.depth];exact⟨h1,by omega⟩
 | .ins _ _,n,hx=>by cases n <;> cases hx
 | .exc _ _,n,hx=>by cases n <;> cases hx
 | .non,_,_=>by simp[b9,PyData.canLay0,PyData.depth]
 | .bl _,_,_=>by simp[b9,PyData.canLay0,PyData.depth]
 | .int _,_,_=>by simp[b9,PyData.canLay0,PyData.depth]
 | .str s,n,hx=>by
  rw[Ip.yd] at hx;rw[b9,PyData.canLay0,PyData.depth];exact⟨hx,Hr _⟩
theorem zCz:∀xs:ay,∀n,xs.all (D.pur n)=true->PyData.canLayAll0 (pyDs xs)=true/\PyData.depthAll (pyDs xs)<=n
 | [],_,_=>by simp[pyDs,PyData.canLayAll0,PyData.depthAll]
 | x::xs,n,hx=>by
  rw[List.all_cons,tw] at hx;obtain⟨h1,h2⟩:=kh x n hx.1;obtain⟨h3,h4⟩:=zCz xs n hx.2;rw[pyDs,PyData.canLayAll0,PyData.depthAll,h1,h3];exact⟨rfl,Nat.max_le.mpr ⟨h2,h4⟩⟩
end
def o4 {x:D}(h:x.pur 60=true):SeqAt.shaped (b9 x)=true:=by
 obtain⟨h1,h2⟩:=kh x 60 h;unfold SeqAt.shaped;rw[h1,Bool.true_and];exact HP (by omega)
section
variable {X:Cx}{W:Wd}{G:Pg}{pins:ah}{σ:St}{H:Hp}{s:Shared}
mutual
theorem Den.reads (hK:W.K=X.K)(I:Inv X pins σ H s):∀{v:V} {d:D} {u:Value} (n:Nat),Den W H v d->d.pur n=true->RelV v u->∃as,Reads s.heap u (b9 d) as
 | _,_,_,_,.non,_,r=>by cases r; exact⟨_,by rw[b9]; exact .none⟩
 | _,_,_,_,.bl,_,r=>by cases r; exact⟨_,by rw[b9]; exact .bool _⟩
 | _,_,_,_,.int,_,r=>by obtain⟨t,rfl⟩:=r; exact⟨_,by rw[b9]; exact .int _ t⟩
 | _,_,_,_,.str,_,r=>by obtain⟨t,rfl⟩:=r; exact⟨_,by rw[b9]; exact .str _ t⟩
 | _,_,_,n,.lst e q,hp,r=>by
  cases r;cases n with
  | zero=>cases hp
  | succ n=>
   obtain⟨_,its,k,rv,_,eo⟩:=I.rdL e;obtain⟨as,ra⟩:=q.reads hK I n hp rv;exact⟨_,by rw[b9]; exact reads_list_at eo rfl rfl (by simpa using ra)⟩
 | _,_,_,n,.tup e q,hp,r=>by
  cases r;cases n with
  | zero=>cases hp
  | succ n=>
   obtain⟨its,rv,⟨o,eo,hc,k,hd⟩,_⟩:=I.tuple (hK ▸ e);obtain⟨as,ra⟩:=q.reads hK I n hp rv;exact⟨_,by rw[b9]; exact reads_tuple_at eo hc hd (by simpa using ra)⟩
 | _,_,_,n,.ins _ _ _,hp,_=>by cases n <;> cases hp
 | _,_,_,n,.exc _ _ _,hp,_=>by cases n <;> cases hp
theorem Dens.reads (hK:W.K=X.K)(I:Inv X pins σ H s):∀{vs:aw} {ds:ay} {us:ar} (n:Nat),Dens W H vs ds->ds.all (D.pur n)=true->Vals vs us->∃as,ReadsAll s.heap us (pyDs ds) as
 | _,_,_,_,.nil,_,.nil=>⟨_,by rw[pyDs]; exact .nil⟩
 | _,_,_,n,.cons h q,hp,.cons r t=>by
  rw[List.all_cons,tw] at hp;obtain⟨as,h1⟩:=h.reads hK I n hp.1 r;obtain⟨bs,h2⟩:=q.reads hK I n hp.2 t;exact⟨_,by rw[pyDs]; exact .cons h1 h2⟩
end
def pL (hK:W.K=X.K)(hu:X.A.units+64<cLine):OpR X (compareOp .Eq) (λx y=>rD W G .eq [x,y]):=by
 rintro pins s σ H x y v u Q I rx ry ⟨N,xs,z,hN,hd,hz,hq⟩;obtain⟨⟨k1,p⟩,⟨k2,q⟩,rfl,d1,d2⟩:=dW hd;simp only[Ip.AS,bK,k6] at hz;split at hz
 .rename_i hp;rw[tw] at hp;cases hz;obtain⟨_,r1⟩:=(d1.mono bS).reads hK I 60 hp.1 rx;obtain⟨_,r2⟩:=(d2.mono bS).reads hK I 60 hp.2 ry;refine eq_dataH r1 r2 (o4 hp.1) (o4 hp.2) hu ⟨.bl _,H,I,rfl,?_⟩;rw[om p q 60 60 hp.1 hp.2];exact hq _ _ Res.bl
 .cases hz
def qu (hK:W.K=X.K)(hu:X.A.units+64<cLine):OpR X (compareOp .NotEq) (λx y=>rD W G .ne [x,y]):=by
 rintro pins s σ H x y v u Q I rx ry ⟨N,xs,z,hN,hd,hz,hq⟩;obtain⟨⟨k1,p⟩,⟨k2,q⟩,rfl,d1,d2⟩:=dW hd;simp only[Ip.zQ,bK,k6] at hz;split at hz
 .rename_i hp;rw[tw] at hp;cases hz;obtain⟨_,r1⟩:=(d1.mono bS).reads hK I 60 hp.1 rx;obtain⟨_,r2⟩:=(d2.mono bS).reads hK I 60 hp.2 ry;refine ne_dataH r1 r2 (o4 hp.1) (o4 hp.2) hu ⟨.bl _,H,I,rfl,?_⟩;rw[om p q 60 60 hp.1 hp.2];exact hq _ _ Res.bl
 .cases hz
end
end L2
end
section
namespace L2
open PySem PySem.Spec PyProof.Rows
open Ip (D KD Ex Op Pg Fn Sl Fr Wk Tg Tb SL lH mH d9 bv aY cB cE cI cT dM de jr gQ dD be compF bN mQ fG lG lF l9 lP jY cR nP gM evals bL dk excA fB frz frz1 cg kI cZ fQ eG ml bw eL bG eO isNone bh bb bi bV cj aL cD noStar bY dg fV br cq bK fZ eJ bC pos? pos?_get pv? da dB c9 fe dX dJ eD)
section
variable {X:Cx}{W:Wd}{G:Pg}
def zB:∀x H Q,rD W G .neg [x] H Q->rU (λi=>.int (-i)) x H Q:=by
 rintro x H Q ⟨N,xs,z,hN,hd,hz,hq⟩;obtain⟨⟨k1,p⟩,rfl,d1⟩:=fM hd;simp only[Ip.B3,cq] at hz;cases p <;> first | exact (bY hz).elim | simp only[Ip.kJ] at hz
 cases d1;cases hz;exact⟨_,rfl,hq _ _ Res.int⟩
def AQ:∀x H Q,rD W G .not [x] H Q->∃c,x=.bl c/\Q (.bl (!c)) H:=by
 rintro x H Q ⟨N,xs,z,hN,hd,hz,hq⟩;obtain⟨⟨k1,p⟩,rfl,d1⟩:=fM hd;simp only[Ip.Bq,cq] at hz;cases p <;> first | exact (bY hz).elim | simp only[Ip.kW] at hz
 cases d1;cases hz;exact⟨_,rfl,hq _ _ Res.bl⟩
def Den.non_iff {S:Hp}{v:V}{d:D}(h:Den W S v d):decide (v=.non)=(match d with | .non=>true | _=>false):=by
 cases h <;> simp
def uE:∀x H Q,rD W G .isN [x] H Q->Q (.bl (decide (x=.non))) H:=by
 rintro x H Q ⟨N,xs,z,hN,hd,hz,hq⟩;obtain⟨⟨k1,p⟩,rfl,d1⟩:=fM hd;rw[d1.non_iff];simp only[Ip.yn,cq] at hz;cases p <;> simp only[eO,fB] at hz <;> cases hz <;> exact hq _ _ Res.bl
def tm:∀x H Q,rD W G .notN [x] H Q->Q (.bl (!decide (x=.non))) H:=by
 rintro x H Q ⟨N,xs,z,hN,hd,hz,hq⟩;obtain⟨⟨k1,p⟩,rfl,d1⟩:=fM hd;rw[d1.non_iff];simp only[Ip.E9,cq] at hz;cases p <;> simp only[eO,fB] at hz <;> cases hz <;> exact hq _ _ Res.bl
theorem Den.flatV {S:Hp}{v:V}{d:D}(h:Den W S v d)(hs:d.scal=true):flatV v=true:=by
 cases h <;> first | rfl | cases hs
theorem Den.eqV {S:Hp}{v w:V}{d e:D}(h:Den W S v d)(k:Den W S w e)(hs:d.scal=true)(ks:e.scal=true):eqV v w=d.eq e:=by
 cases h <;> first | (cases hs; done) | (cases k <;> first | (cases ks; done) | rfl | simp[L2.eqV,D.eq])
theorem Dens.flatV {S:Hp}:∀{vs:aw} {ds:ay},Dens W S vs ds->ds.all D.scal=true->vs.all L2.flatV=true
 | _,_,.nil,_=>rfl
 | _,_,.cons h q,hs=>by
  rw[List.all_cons,tw] at hs;rw[List.all_cons,h.flatV hs.1,q.flatV hs.2]; rfl
theorem xH:∀ys:ay,pyDs ys=ys.map b9
 | []=>by rw[pyDs]; rfl
 | y::ys=>by rw[pyDs,xH ys]; rfl
def E5 {p:D}(hp:p.pur 60=true){ys:ay}(h:ys.all (D.pur 60)=true):(pyDs ys).map (λy=>PyData.eqv y (b9 p))=ys.map λy=>y.eq p:=by
 rw[xH,HZ];exact H0 λy hy=>om y p 60 60 (eB h y hy) hp
def oJ {p:D}{ys:ay}{u:Nat}(hp:p.pur 60=true)(hu:u+64<cLine):u+1+min (PyData.depthAll (pyDs ys)) (b9 p).depth<cLine:=by
 have:=(kh p 60 hp).2;omega
theorem Den.seq {S:Hp}{v:V}{d:D}{xs:ay}(h:Den W S v d)(e:d.seq=some xs):∃a vs,v=.ref a/\((SqL W.K S a vs/\Rd S a (.lst vs))\/SqT W.K S a vs)/\Dens W S vs xs:=by
 cases h <;> first | exact (bY e).elim | simp only[D.seq] at e
 .rename_i h1 h2;cases e;exact⟨_,_,rfl,.inl ⟨.inl h1,h1⟩,h2⟩
 .rename_i h1 h2;cases e;exact⟨_,_,rfl,.inr h1,h2⟩
def uu {neg:Bool}{o:Op}{pins:ah}{σ:St}{H:Hp}{s:Shared}{x y:V}{v u:Value}{Q:VK}(ho:∀xs,bC G o xs=bK (kI neg) xs)(hK:W.K=X.K)(I:Inv X pins σ H s)(rx:RelV x v)(ry:RelV y u)(h:rD W G o [x,y] H Q) :
  ∃p ys as bs,p.pur 60=true/\ys.all (D.pur 60)=true/\Reads s.heap v (b9 p) as/\(Reads s.heap u (.list (pyDs ys)) bs\/Reads s.heap u (.tuple (pyDs ys)) bs)/\Q (.bl (if neg then !(pyDs ys).any λy=>PyData.eqv y (b9 p) else (pyDs ys).any λy=>PyData.eqv y (b9 p))) H:=by
 obtain⟨N,xs,z,hN,hd,hz,hq⟩:=h;obtain⟨⟨k1,p⟩,⟨k2,q⟩,rfl,d1,d2⟩:=dW hd;rw[ho] at hz;simp only[bK,kI] at hz;cases e:q.seq with
 | none=>rw[e] at hz; cases hz
 | some ys=>
  rw[e] at hz;simp only at hz;split at hz
  .rename_i hp;rw[tw] at hp;cases hz;obtain⟨as,r1⟩:=(d1.mono bS).reads hK I 60 hp.1 rx;have em:p.memb ys=(pyDs ys).any λy=>PyData.eqv y (b9 p):=by
    have e1:=congrArg (λl:List Bool=>l.any id) (E5 hp.1 hp.2);simp only[List.any_map] at e1;exact e1.symm
   have hq':=hq (.bl (if neg then !p.memb ys else p.memb ys)) H Res.bl;rw[em] at hq';have d2':=d2.mono bS;cases q <;> first | exact (bY e).elim | simp only[D.seq] at e
   .cases e;obtain⟨bs,r2⟩:=d2'.reads hK I 61 hp.2 ry;rw[b9] at r2;exact⟨p,ys,as,bs,hp.1,hp.2,r1,.inl r2,hq'⟩
   .cases e;obtain⟨bs,r2⟩:=d2'.reads hK I 61 hp.2 ry;rw[b9] at r2;exact⟨p,ys,as,bs,hp.1,hp.2,r1,.inr r2,hq'⟩
  .cases hz
def p8 (hK:W.K=X.K)(hu:X.A.units+64<cLine):OpR X (compareOp .In) (λx y=>rD W G .isin [x,y]):=by
 intro pins s σ H x y v u Q I rx ry h;obtain⟨p,ys,as,bs,hp,hs,r1,r2,q⟩:=uu (neg:=false) (λ_=>rfl) hK I rx ry h;rcases r2 with r2 | r2
 .exact SeqAt.in_list_reads r2 r1 (zCz ys 60 hs).1 (kh p 60 hp).1 (oJ hp hu) ⟨.bl _,H,I,rfl,q⟩
 .exact SeqAt.in_tuple_reads r2 r1 (zCz ys 60 hs).1 (kh p 60 hp).1 (oJ hp hu) ⟨.bl _,H,I,rfl,q⟩
def Ax (hK:W.K=X.K)(hu:X.A.units+64<cLine):OpR X (compareOp .NotIn) (λx y=>rD W G .nin [x,y]):=by
 intro pins s σ H x y v u Q I rx ry h;obtain⟨p,ys,as,bs,hp,hs,r1,r2,q⟩:=uu (neg:=true) (λ_=>rfl) hK I rx ry h;rcases r2 with r2 | r2
 .exact SeqAt.notIn_list_reads r2 r1 (zCz ys 60 hs).1 (kh p 60 hp).1 (oJ hp hu) ⟨.bl _,H,I,rfl,q⟩
 .exact SeqAt.notIn_tuple_reads r2 r1 (zCz ys 60 hs).1 (kh p 60 hp).1 (oJ hp hu) ⟨.bl _,H,I,rfl,q⟩
def qB (hK:W.K=X.K):oV X (λx y=>rD W G .ix [x,y]):=by
 rintro value slice pins s σ H x y v u Q I rx ry ⟨N,xs,z,hN,hd,hz,hq⟩ hs;obtain⟨⟨k1,p⟩,⟨k2,q⟩,rfl,d1,d2⟩:=dW hd;simp only[Ip.D2,bK] at hz;cases q <;> first | exact (bY hz).elim | simp only[Ip.bt] at hz
 cases d2;rename_i i;cases e:p.seq with
 | none=>rw[e] at hz; cases hz
 | some ds=>
  rw[e] at hz;simp only at hz;obtain⟨a,vs,rfl,hsq,hv⟩:=d1.seq e;cases e2:(Ip.dR ds.length i).bind λj=>ds[j]? with
  | none=>rw[e2] at hz; cases hz
  | some d=>
   rw[e2] at hz;cases hz;obtain⟨j,ej,ed⟩:=cX e2;obtain⟨w,ew,dw⟩:=hv.get ed;have ha:lj vs i=some w:=by
    unfold lj;have:kr vs.length i=some j:=by rw[hv.length]; exact ej
    rw[this]; exact ew
   have hr:Q w H:=hq _ _ (Res.of_den (Sub.refl _) dw);rcases hsq with hl | ht
   .exact xk value slice pins s σ H _ _ v u Q I rx ry ⟨a,vs,i,w,rfl,rfl,by rw[<-hK]; exact SqL.sub bS hl.1,ha,hr⟩ hs
   .exact zO value slice pins s σ H _ _ v u Q I rx ry ⟨a,vs,i,w,rfl,rfl,by rw[<-hK]; exact SqT.sub bS ht,ha,hr⟩ hs
def uc (n d:Nat)(o:Option Int):HT.sIx n d o=Ip.gO n d o:=by
 cases o with
 | none=>rfl
 | some i=>
  show (if i<0 then (i+(n:Int)).toNat else min i.toNat n)=if 0<=i then min i.toNat n else (i+n).toNat
  by_cases h:i<0
  .rw[if_pos h,if_neg (by omega)]
  .rw[if_neg h,if_pos (by omega)]
def Dens.cut {S:Hp}{vs:aw}{ds:ay}(h:Dens W S vs ds)(lo hi:Option Int):Dens W S (dZ vs lo hi) (Ip.cutD ds lo hi):=by
 unfold dZ Ip.cutD;rw[uc,uc,h.length];exact (h.drop _).take _
def kf (W:Wd):V->Option Int->Option Int->Hp->VK->Prop:=λx lo hi H Q=>∃N d z,NOk N H/\Den W (hid N H) x d/\bN lo hi d=some z/\∀v H',Res W H N H' z v->Q v H'
def rP (hK:W.K=X.K):mF X (kf W):=by
 rintro pins s σ H x v vl vu lo hi sl Q I rx hs pl pu ⟨N,d,z,hN,hd,hz,hq⟩;cases hd <;> first | exact (bY hz).elim | simp only[bN] at hz
 rotate_left
 .rename_i a vs ds h1 h2;cases hz;refine ES pins s σ H _ v vl vu lo hi sl Q I rx hs pl pu ⟨a,vs,rfl,by rw[<-hK]; exact SqT.sub bS h1,λhw=>hq _ _ (Res.of_den (Sub.refl _) ?_),λ_ p hp=>hq _ _ (Res.newT hN hp (h2.cut lo hi))⟩;have c:=h2.cut lo hi;have e:dZ vs lo hi=vs:=by
   unfold dZ;rw[hw.1,hw.2];simp
  rw[e] at c;exact .tup h1 c
 rename_i a vs ds h1 h2;cases hz;exact CH pins s σ H _ v vl vu lo hi sl Q I rx hs pl pu ⟨a,vs,rfl,by rw[<-hK]; exact .inl (Rd.sub bS h1),λp hp=>hq _ _ (Res.newL hp (h2.cut lo hi))⟩
def CallR.imp {f:Value}{r r':aw->Hp->VK->Prop}(h:CallR X f r)(k:∀xs H Q,r' xs H Q->r xs H Q):CallR X f r':=λpins s σ H xs us Q I r q=>h pins s σ H xs us Q I r (k xs H Q q)
def Dens.vs1 {S:Hp}{vs:aw}{xs:ax}{o:Op}{f:D->aA}{z:KD}(h:Dens W S vs (xs.map (·.2)))(e:cq f xs=some z):∃v p,vs=[v]/\xs=[p]/\Den W S v p.2/\f p.2=some z:=by
 cases xs with
 | nil=>exact (bY e).elim
 | cons p r=>
  cases r with
  | nil=>
   obtain⟨v,rfl,h1⟩:=Dens.one h;exact⟨v,p,rfl,rfl,h1,e⟩
  | cons _ _=>exact (bY e).elim
def u9 {f:ay->aA}{d:D}{z:KD}(e:eJ f d=some z):∃xs,d.seq=some xs/\f xs=some z:=by
 unfold eJ at e;cases q:d.seq with
 | none=>rw[q] at e; cases e
 | some xs=>rw[q] at e; exact⟨xs,rfl,e⟩
def vf {f:ay->aA}{d:D}{z:KD}(e:fZ f d=some z):∃xs,d=.lst xs/\f xs=some z:=by
 cases d <;> simp only[fZ] at e <;> first | exact⟨_,rfl,e⟩ | cases e
def B1 (hK:W.K=X.K):CallR X (.builtin "len") (λxs=>rD W G .len xs):=An.imp λvs H Q ⟨N,xs,z,hN,hd,hz,hq⟩=>by
 simp only[Ip.F5] at hz;obtain⟨v,p,rfl,rfl,dv,ez⟩:=hd.vs1 (o:=.len) hz;obtain⟨ds,e1,e2⟩:=u9 ez;obtain⟨a,ws,rfl,hs,hv⟩:=dv.seq e1;cases e2;refine⟨a,ws,rfl,?_,?_⟩
 .rw[<-hK]; exact hs.imp (λh=>SqL.sub bS h.1) (SqT.sub bS)
 .rw[hv.length]; exact hq _ _ Res.int
def yF (hK:W.K=X.K):CallR X (.type "list") (λxs=>rD W G .list xs):=Db.imp λvs H Q ⟨N,xs,z,hN,hd,hz,hq⟩=>by
 simp only[Ip.x9] at hz;obtain⟨v,p,rfl,rfl,dv,ez⟩:=hd.vs1 (o:=.list) hz;obtain⟨ds,e1,e2⟩:=u9 ez;obtain⟨a,ws,rfl,hs,hv⟩:=dv.seq e1;cases e2;refine⟨a,ws,rfl,?_,λl hl=>hq _ _ (Res.newL hl hv)⟩;rw[<-hK]; exact hs.imp (λh=>SqL.sub bS h.1) (SqT.sub bS)
def Dq (hK:W.K=X.K):CallR X (.type "tuple") (λxs=>rD W G .tuple xs):=Fx.imp λvs H Q ⟨N,xs,z,hN,hd,hz,hq⟩=>by
 simp only[Ip.Dd] at hz;obtain⟨v,p,rfl,rfl,dv,ez⟩:=hd.vs1 (o:=.tuple) hz;obtain⟨k,d⟩:=p;cases dv with
 | @lst a ws ds h1 h2=>
  cases ez;exact⟨a,ws,rfl,.inl ⟨by rw[<-hK]; exact .inl (Rd.sub bS h1),λl hl=>hq _ _ (Res.newT hN hl h2)⟩⟩
 | @tup a ws ds h1 h2=>
  cases ez;exact⟨a,ws,rfl,.inr ⟨by rw[<-hK]; exact SqT.sub bS h1,hq _ _ (Res.of_den (Sub.refl _) (.tup h1 h2))⟩⟩
 | _=>cases ez
theorem uB:∀{ds:ay} {b:Bool},Ip.allB ds=some b->∃bs:List Bool,ds=bs.map .bl/\b=bs.all id
 | [],b,h=>⟨[],rfl,by cases h; rfl⟩
 | .bl c::ds,b,h=>by
  rw[Ip.allB] at h;obtain⟨c',e,rfl⟩:=dO h;obtain⟨bs,rfl,rfl⟩:=uB e;exact⟨c::bs,rfl,rfl⟩
theorem Dens.bools {S:Hp}:∀{vs:aw} {bs:List Bool},Dens W S vs (bs.map .bl)->vs=bs.map .bl
 | [],[],_=>rfl
 | v::vs,b::bs,.cons h q=>by rw[h.bl_inv,q.bools]; rfl
def Vals.bool_at {bs:List Bool}:∀{us:ar} {i:Nat} {v:Value},Vals (bs.map .bl) us->us[i]? = some v->∃b,bs[i]? = some b/\v=.bool b:=by
 intro us i v r e;have hl:bs.length=us.length:=by simpa using r.length
 have hi:i<us.length:=(eQ e).1;have hb:(bs.map V.bl)[i]? = some (.bl bs[i]):=by simp[GK,GM (by omega:i<bs.length)]
 obtain⟨u,e2,r2⟩:=r.get hb;rw[e] at e2;cases e2;exact⟨_,GM (by omega),r2⟩
def AM (hc:X.calm=true):CallR X (.builtin "all") (λxs=>rD W G .all xs):=by
 rintro pins s σ H vs us Q I rs ⟨N,xs,z,hN,hd,hz,hq⟩;simp only[Ip.CA] at hz;obtain⟨v,p,rfl,rfl,dv,ez⟩:=hd.vs1 (o:=.all) hz;obtain⟨ds,e1,e2⟩:=vf ez;obtain⟨u,rfl,ru⟩:=rs.one;rw[e1] at dv;cases dv with | @lst l ws _ h1 h2=>?_
 cases ru;cases e3:Ip.allB ds with
 | none=>rw[e3] at e2; cases e2
 | some b=>
  rw[e3] at e2;cases e2;obtain⟨bs,rfl,rfl⟩:=uB e3;have:=h2.bools;subst this;obtain⟨_,its,n,rv,hlen,eo⟩:=I.rdL (Rd.sub bS h1);have hl:s.heap.IsList l its.toArray:=⟨_,eo,rfl,n,rfl⟩
  have hlt:l<s.heap.objs.size:=bO eo;refine call_all_walk (Jb hl ?_);refine⟨s.heap.objs.size,[s.heap.objs.size,l],[s.heap.objs.size],its.toArray.size,_,_,λi=>(bs[i]?).getD true,rfl,Walks.list (A:=X.A.in1) (I.ok.hd hc) _ l (di hlt) its.toArray,
   ⟨⟨_,dm _ rfl,rfl,rfl⟩,hl.push _⟩,λi v s' Q' E' hP hQ=>?_,λh' tk hk=>?_⟩
  .obtain⟨b,e,rfl⟩:=rv.bool_at (i:=i) (v:=v) (by simpa using hP);simp only[e,Option.getD_some] at hQ;exact Hi hQ
  .have e:((List.range its.toArray.size).all λi=>(bs[i]?).getD true)=bs.all id:=by
    rw[Gy,<-hlen,GA]; exact LSm.range_all bs
   rw[e];exact⟨.bl _,H,I.kept (t':=tk) (LSm.kept_iter hk),rfl,hq _ _ Res.bl⟩
theorem nU {S:Hp}:∀{ns:ak} {vs:aw},Dens W S vs (aL ns)->vs=cW ns
 | [],_,h=>by cases h; rfl
 | n::ns,_,h=>by
  cases h with
  | cons h q=>
   cases h;rw[nU q];rfl
theorem qk {S:Hp}:∀{ns:ak},Dens W S (cW ns) (aL ns)
 | []=>.nil
 | n::ns=>.cons .int qk
theorem pf:∀{ds:ay} {ns:ak},cD ds=some ns->ds=aL ns/\∀n∈ns,n<6
 | [],ns,h=>by cases h; exact⟨rfl,λn hn=>by simp at hn⟩
 | d::ds,ns,h=>by
  cases d with
  | int i=>
   unfold cD at h;by_cases c:0<=i/\i<6
   .rw[if_pos c] at h;obtain⟨ms,e1,e2⟩:=dO h;obtain⟨h1,h2⟩:=pf e1;subst e2;refine⟨?_,λn hn=>?_⟩
    .rw[h1];show _=D.int (Int.ofNat i.toNat)::aL ms;rw[Int.ofNat_eq_natCast,IP c.1]
    .rcases cH hn with z | z
     .rw[z]; omega
     .exact h2 n z
   .rw[if_neg c] at h; cases h
  | _=>exact nomatch h
def Be:((St.subs 6).all λl=>decide (l=(List.range 6).filter λk=>l.contains k))=true:=by decide +kernel
def Fm {l:ak}{k x:Nat}:x∈St.stp l k↔x∈l\/x=k:=by
 unfold St.stp St.ins;by_cases c:k∈l
 .rw[if_pos c];exact⟨.inl,λh=>h.elim id λz=>z ▸ c⟩
 .rw[if_neg c];simp only[GU,Hn,GL];have b1:∀a b:Nat,Nat.blt a b=true↔a<b:=λa b=>⟨HS,Jp⟩
  simp only[b1];constructor
  .rintro (h | h | h)
   .exact .inl h.1
   .exact .inr h
   .exact .inl h.1
  .rintro (h | h)
   .rcases Nat.lt_trichotomy x k with z | z | z
    .exact .inl ⟨h,z⟩
    .exact .inr (.inl z)
    .exact .inr (.inr ⟨h,z⟩)
   .exact .inr (.inl h)
def zy {l:ak}{k:Nat}(hl:l∈St.subs 6)(hk:k<6):St.stp l k∈St.subs 6:=by
 unfold St.stp;by_cases c:k∈l
 .rw[if_pos c]; exact hl
 .rw[if_neg c];exact (St.ins_of hl hk c).2.2.2.2.1
theorem vc:∀(ns l:ak),l∈St.subs 6->(∀n∈ns,n<6)->ns.foldl St.stp l∈St.subs 6/\∀x,x∈ns.foldl St.stp l↔x∈l\/x∈ns
 | [],l,hl,_=>⟨hl,λx=>by simp⟩
 | n::ns,l,hl,h=>by
  obtain⟨h1,h2⟩:=vc ns (St.stp l n) (zy hl (h n bZ)) λm hm=>h m (bQ _ hm);refine⟨h1,λx=>?_⟩;rw[List.foldl_cons,h2 x,Fm,GL,or_assoc]
def DS {ns:ak}(h:∀n∈ns,n<6):ns.foldl St.stp []=da ns:=by
 obtain⟨h1,h2⟩:=vc ns [] (by decide +kernel) h;have:=of_decide_eq_true (eB Be _ h1);rw[this];unfold da;refine JS λk _=>?_;rw[Jz,GS,GS,h2 k];simp
def Bn (hK:W.K=X.K):∀x H Q,rD W G .srtSet [x] H Q->∃a ns,x=.ref a/\SqL X.K H a (cW ns)/\(∀n∈ns,n<6)/\∀p,H p=none->Q (.ref p) (upd H p (.lst (cW (ns.foldl St.stp [])))):=by
 rintro x H Q ⟨N,xs,z,hN,hd,hz,hq⟩;simp only[Ip.AO] at hz;obtain⟨v,p,e,rfl,dv,ez⟩:=hd.vs1 (o:=.srtSet) hz;cases e;obtain⟨ds,e1,e2⟩:=vf ez;rw[e1] at dv;cases dv with | @lst a vs _ h1 h2=>?_
 cases q:cD ds with
 | none=>rw[q] at e2; cases e2
 | some ns=>
  rw[q] at e2;cases e2;obtain⟨r1,r2⟩:=pf q;rw[r1] at h2;have ev:=nU h2;subst ev;refine⟨a,ns,rfl,by rw[<-hK]; exact .inl (Rd.sub bS h1),r2,λp hp=>hq _ _ ?_⟩;rw[DS r2];exact Res.newL hp qk
def Dj {x y z:KD}(h:bC G .symd [x,y]=some z):∃ns ms,x.2=.lst (aL ns)/\y.2=.lst (aL ms)/\(∀n∈ns,n<6)/\(∀n∈ms,n<6)/\z=(1,.lst (aL (Ip.kE ms ns))):=by
 have h':Ip.fF x.2 y.2=some z:=h;obtain⟨xs,e1,h1⟩:=cX h';obtain⟨ys,e2,h2⟩:=cX h1;obtain⟨ns,e3,h3⟩:=cX h2;obtain⟨ms,e4,h4⟩:=dO h3;obtain⟨r1,r2⟩:=pf e3;obtain⟨r3,r4⟩:=pf e4;have lo:∀{d:D} {l:ay},d.lstO=some l->d=.lst l:=λ{d l} h=>by
  cases d <;> simp only[D.lstO] at h <;> cases h
  rfl
 exact⟨ns,ms,by rw[lo e1,r1],by rw[lo e2,r3],r2,r4,h4.symm⟩
def yM {ia:Ex}{j:Nat}{σ:St}{H:Hp}{Q:VK}(hK:W.K=X.K)(h:bm W G cl (.op .symd [ia,.var j]) E σ H Q):sC X.K (bm W G cl ia E) (bm W G cl (.var j) E) σ H Q:=by
 obtain⟨N,a,hN,hS,h⟩:=h;unfold sC;refine fW hN hS (λx ex v H1 fp hs nd hf ow hN1 hS1=>?_) (λc fs ee=>?_) λee=>?_
 .cases ey:Ip.eval G cl a (.var j) with
  | bad=>simp only[cR,bL,ex,ey,Ip.R.bind] at h
  | exc c fs=>rw[gM] at ey; split at ey <;> cases ey
  | ok y=>
   simp only[cR,dk,bL,ex,ey,Ip.R.bind] at h;cases q:bC G .symd [x,y] with
   | none=>simp only[q,Ip.R.of] at h
   | some z=>
    simp only[q,Ip.R.of] at h;obtain⟨ns,ms,ex2,ey2,r1,r2,rfl⟩:=Dj q;have dv:=ow.later hN (Sub.refl _) hf λ_ y=>y;rw[ex2] at dv;cases dv with | @lst b vs _ h1 h2=>?_
    have ev:=nU h2;subst ev;refine⟨b,ns,rfl,by rw[<-hK]; exact .inl (Rd.sub bS h1),r1,fW hN1 hS1 (λy' ey' w H2 fq hs2 nd2 hf2 ow2 hN2 hS2=>?_) (λc fs ee=>?_) λee=>?_⟩
    .rw[ey] at ey';cases ey';have dw:=ow2.later (hN.mono hs) (Sub.refl _) hf2 λ_ y=>.inl y;rw[ey2] at dw;cases dw with | @lst c ws _ g1 g2=>?_
     have ev:=nU g2;subst ev;exact⟨c,ms,rfl,by rw[<-hK]; exact .inl (Rd.sub bS g1),r2,λp hp=>h _ _ ((Res.newL hp qk).trans (hs.trans hs2))⟩
    .rw[ey] at ee; cases ee
    .rw[ey] at ee; cases ee
 .simp only[cR,bL,ee,Ip.R.bind] at h;exact h
 .simp only[cR,bL,ee,Ip.R.bind] at h
end
theorem OwnF.re {att:au}{P Q:V->D->ao->Prop}{b:D->Bool}(hP:∀v d f,b d=true->P v d f->Q v d f):∀{vs ds fp},(ds.all λp=>b p.2)=true->OwnF att P vs ds fp->OwnF att Q vs ds fp
 | _,_,_,_,.nil=>.nil
 | _,_,_,hf,.cons e h q=>by
  rw[List.all_cons,tw] at hf;exact .cons e (hP _ _ _ hf.1 h) (q.re hP hf.2)
theorem oR {α:Type}{p q:α->Bool}:∀{xs:List α},xs.all p=true->xs.all q=true->(xs.all λx=>p x&&q x)=true
 | [],_,_=>rfl
 | x::xs,h,k=>by
  rw[List.all_cons,tw] at h k;rw[List.all_cons,h.1,k.1,oR h.2 k.2]; rfl
section
variable {W:Wd}{S H:Hp}
theorem Own.fb:∀{k j v d fp},D.fb k d=true->D.fb j d=true->Own W S H k v d fp->Own W S H j v d fp
 | 0,j,_,d,_,h,_,o=>by
  rw[D.fb] at h;obtain⟨e1,e2⟩:=o.flat_inv h;rw[e1];exact Own.flat h e2
 | k+1,0,_,d,_,_,h,o=>by
  rw[D.fb] at h;obtain⟨e1,e2⟩:=o.flat_inv h;exact⟨e1,e2⟩
 | k+1,j+1,_,.lst ds,_,h1,h2,⟨a,vs,fq,e1,e2,e3,e4⟩=>⟨a,vs,fq,e1,e2,e3.re (b:=λd=>D.fb k d&&D.fb j d) (λv d f hb o=>by rw[tw] at hb; exact Own.fb hb.1 hb.2 o) (oR h1 h2),e4⟩
 | k+1,j+1,_,.tup ds,_,h1,h2,⟨a,vs,e1,e2,e3⟩=>⟨a,vs,e1,e2,e3.re (b:=λd=>D.fb k d&&D.fb j d) (λv d f hb o=>by rw[tw] at hb; exact Own.fb hb.1 hb.2 o) (oR h1 h2)⟩
 | k+1,j+1,_,.ins c ds,_,h1,h2,⟨a,C,dx,fs,fq,e1,e2,e5,e3,e4⟩=>⟨a,C,dx,fs,fq,e1,e2,e5,e3.re (b:=λd=>D.fb k d&&D.fb j d) (λv d f hb o=>by rw[tw] at hb; exact Own.fb hb.1 hb.2 o) (oR h1 h2),e4⟩
 | k+1,j+1,_,.exc c ds,_,h1,_,_=>by cases h1
 | _+1,_+1,_,.non,_,_,_,h=>h
 | _+1,_+1,_,.bl _,_,_,_,h=>h
 | _+1,_+1,_,.int _,_,_,_,h=>h
 | _+1,_+1,_,.str _,_,_,_,h=>h
theorem Own.at {j k:Nat}{v:V}{d:D}{fp:ao}(h:br j (k,d)=true)(o:Own W S H k v d fp):Own W S H j v d fp:=by
 unfold br at h;rw[G8,G8,tw] at h;rcases h with h | h | ⟨h1,h2⟩
 .obtain⟨e1,e2⟩:=o.flat_inv h;rw[e1];exact Own.flat h e2
 .have:k=j:=by simpa using h
  rw[<-this]; exact o
 .exact o.fb h2 h1
theorem OwnV.at {j:Nat}:∀{vs xs fp},xs.all (br j)=true->OwnV W S H vs xs fp->OwnL (Own W S H j) vs (xs.map (·.2)) fp
 | _,_,_,_,.nil=>.nil
 | _,_,_,hf,.cons h q=>by
  rw[List.all_cons,tw] at hf;exact .cons (h.at hf.1) (q.at hf.2)
def x8 {xs:ax}:xs.all (br (bi xs))=true\/bi xs=0:=by
 unfold bi;cases e:xs.find? λx=>!x.2.flat with
 | none=>
  refine .inl (List.all_eq_true.mpr λx hx=>Ip.uJ ?_);have:=List.find?_eq_none.mp e x hx;simpa using this
 | some y=>
  show xs.all (br (if xs.all (br y.1)=true then y.1 else 0))=true\/(if xs.all (br y.1)=true then y.1 else 0)=0;by_cases h:xs.all (br y.1)=true
  .rw[if_pos h]; exact .inl h
  .rw[if_neg h]; exact .inr rfl
def OwnV.join {N:Addr->Prop}{vs:aw}{xs:ax}{fp:ao}(nd:fp.Nodup)(hn:∀a∈fp,¬N a)(o:OwnV W (hid (λa=>N a\/a∈fp) H) H vs xs fp) :
  ∃fq:ao,fq.Nodup/\(∀a∈fq,a∈fp)/\OwnL (Own W (hid (λa=>N a\/a∈fq) H) H (bi xs)) vs (xs.map (·.2)) fq:=by
 rcases x8 (xs:=xs) with h | h
 .exact⟨fp,nd,λ_ z=>z,o.at h⟩
 .rw[h];refine⟨[],.nil,λ_ z=>by simp at z,OwnL.zero ?_⟩;refine o.dens (λa u e=>?_) λa ha u e=>bg.mpr ⟨λz=>z.elim (hn a ha) (by simp),e⟩;obtain⟨h1,h2⟩:=bg.mp e;exact bg.mpr ⟨λz=>z.elim (λy=>h1 (.inl y)) (by simp),h2⟩
end
section
variable {X:Cx}{W:Wd}{G:Pg}{cl:Nat->ax->Ip.Run}{E:St->XK}
def oA (e:Expr)(es:av)(env:Env):(∃x p,e=.Starred x p)\/starEach (e::es) env=(false,PySem.eval e env)::starEach es env:=by
 cases e <;> first | exact .inl ⟨_,_,rfl⟩ | exact .inr rfl
def zw {ir:Ex}{irs:aG}{σ:St}{H:Hp}{Q:aw->Hp->Prop}(h:ci W G cl (ir::irs) E σ H Q):cC (bm W G cl ir E) (ci W G cl irs E) σ H Q:=by
 obtain⟨N,a,hN,hS,h⟩:=h;unfold cC;refine fW hN hS (λx ex v H1 fp hs nd hf ow hN1 hS1=>?_) (λc fs ee=>?_) λee=>?_
 .refine⟨_,a,hN1,hS1,?_⟩;cases q:evals G cl a irs with
  | bad=>simp only[bL,ex,q,Ip.R.bind] at h
  | exc c fs=>
   simp only[bL,ex,q,Ip.R.bind] at h;exact λe H' r=>h e H' (r.trans hs λ_ y=>.inl y)
  | ok xs=>
   simp only[bL,ex,q,Ip.R.bind] at h;rintro vs H2 ⟨hs2,fq,nd2,hf2,o2⟩;refine h _ _ ⟨hs.trans hs2,fp++fq,?_,λb z=>(dN z).elim (hf b) λy=>hs.none (hf2 b y),?_⟩
   .refine GP.mpr ⟨nd,nd2,λb hb c hc z=>?_⟩;rw[z] at hb;exact ow.dom c hb (hf2 c hc)
   .refine .cons (ow.mono (gN hs2 λb z=>?_) λb hb o e=>hs2 b o e) (o2.mono (λb o e=>?_) λb _ o e=>e)
    .rcases z with z | z
     .exact .inl (.inl z)
     .exact (dN z).elim (λy=>.inl (.inr y)) λy=>.inr (hf2 b y)
    .obtain⟨h1,h2⟩:=bg.mp e;refine bg.mpr ⟨λz=>h1 ?_,h2⟩;rcases z with z | z
     .exact .inl (.inl z)
     .exact (dN z).elim (λy=>.inl (.inr y)) .inr
 .simp only[bL,ee,Ip.R.bind] at h;exact h
 .simp only[bL,ee,Ip.R.bind] at h
def nQ {σ:St}{H:Hp}{Q:aw->Hp->Prop}(h:ci W G cl [] E σ H Q):eH σ H Q:=by
 obtain⟨N,a,hN,hS,h⟩:=h;simp only[dk] at h;exact h _ _ ⟨Sub.refl _,[],.nil,λa z=>by simp at z,.nil⟩
theorem xG:∀{es:av} {f:Expr->Ex},(∀e∈es,PE X e (bm W G cl (f e) E))->(∀e∈es,∀x p,e=.Starred x p->f e=.bad)->PA X es (ci W G cl (es.map f) E)
 | [],_,_,_=>jx.mono λσ H Q h=>nQ h
 | e::es,f,h,k=>by
  rcases oA e es X.env with ⟨x,p,hx⟩ | hs
  .rintro pos pins s σ H Q I ⟨N,a,_,_,q⟩;rw[GB,k e Hl x p hx,bL,fG] at q;exact q.elim
  .refine (hV (h e bZ) (xG (λy hy=>h y (bQ _ hy)) λy hy=>k y (bQ _ hy)) hs).mono λσ H Q q=>?_;rw[GB] at q;exact zw q
def qY {es:av}{pos:Pos}{irs:aG}(hl:irs.length<=1000)(h:PA X es (ci W G cl irs E)):PE X (.List es pos) (bm W G cl (.op .lst irs) E):=by
 refine (CC h).mono λσ H Q hZz=>?_;obtain⟨N,a,hN,hS,q⟩:=hZz;refine⟨N,a,hN,hS,?_⟩;rw[cR] at q;cases e:evals G cl a irs with
 | bad=>rw[e] at q; exact q
 | exc c fs=>rw[e] at q; exact q
 | ok xs=>
  simp only[e,Ip.R.bind,Ip.R.of,Ip.zj] at q;rintro vs H1 ⟨hs,fp,nd,hf,o⟩;have hx:xs.length=irs.length:=evals_length e;refine⟨?_,λp hp=>?_⟩
  .rw[o.length,hx];exact ce hl (by decide)
  obtain⟨fq,nd2,sub,o2⟩:=o.join nd λb hb z=>hN b z (hf b hb);refine q _ _ ⟨hs.trans (Sub.upd hp),p::fq,GN.mpr ⟨λz=>o.dom p (sub p z) hp,nd2⟩,λb z=>?_,p,vs,fq,rfl,cm,?_,rfl⟩
  .rcases cH z with y | y
   .rw[y]; exact hs.none hp
   .exact hf b (sub b y)
  .refine o2.imp λv d f hf2 ow=>ow.mono (gN (Sub.upd hp) λb z=>?_) λb _ u e=>Sub.upd hp b u e;rcases z with z | z
   .exact .inl (.inl z)
   .rcases cH z with y | y
    .rw[y]; exact .inr hp
    .exact .inl (.inr y)
where
 evals_length {a:Sl}:∀{irs:aG} {xs:ax},evals G cl a irs=.ok xs->xs.length=irs.length
  | [],xs,h=>by rw[dk] at h; cases h; rfl
  | ir::irs,xs,h=>by
   rw[bL] at h;cases e1:Ip.eval G cl a ir with
   | bad=>rw[e1] at h; cases h
   | exc c fs=>rw[e1] at h; cases h
   | ok x=>
    cases e2:evals G cl a irs with
    | bad=>rw[e1,e2] at h; cases h
    | exc c fs=>rw[e1,e2] at h; cases h
    | ok ys=>
     rw[e1,e2] at h;cases h;rw[List.length_cons,List.length_cons,evals_length e2]
def yJ {es:av}{k:Nat}{pos:Pos}{irs:aG}(hl:irs.length<=1000)(h:PA X es (ci W G cl irs E)):PE X (.Tuple es k pos) (bm W G cl (.op .tup irs) E):=by
 refine (wK h).mono λσ H Q hZz=>?_;obtain⟨N,a,hN,hS,q⟩:=hZz;refine⟨N,a,hN,hS,?_⟩;rw[cR] at q;cases e:evals G cl a irs with
 | bad=>rw[e] at q; exact q
 | exc c fs=>rw[e] at q; exact q
 | ok xs=>
  simp only[e,Ip.R.bind,Ip.R.of,Ip.BK] at q;rintro vs H1 ⟨hs,fp,nd,hf,o⟩;have hx:xs.length=irs.length:=qY.evals_length e;refine⟨?_,λp hp=>?_⟩
  .rw[o.length,hx];exact ce hl (by decide)
  obtain⟨fq,nd2,sub,o2⟩:=o.join nd λb hb z=>hN b z (hf b hb);refine q _ _ ⟨hs.trans (Sub.upd hp),fq,nd2,λb z=>hf b (sub b z),p,vs,rfl,SqT.of (bg.mpr ⟨λz=>?_,cm⟩),?_⟩
  .rcases z with z | z
   .exact (hN.mono hs) p z hp
   .exact o.dom p (sub p z) hp
  .refine o2.imp λv d f hf2 ow=>ow.mono (gN (Sub.upd hp) λb z=>.inl z) λb _ u e=>Sub.upd hp b u e
end
section
variable {X:Cx}{W:Wd}{G:Pg}{cl:Nat->ax->Ip.Run}{E:St->XK}{σ:St}{H:Hp}
def FL {e:Expr}{i:Nat}(h:PE X e (c8 i)):PE X e (bm W G cl (.var i) E):=h.mono λσ H Q ⟨N,a,hN,hS,q⟩=>by
 rw[gM] at q;cases e:a[i]? with
 | none=>rw[e] at q; exact q.elim
 | some o=>
  cases o with
  | none=>rw[e] at q; exact q.elim
  | some d=>
   rw[e] at q;obtain⟨v,h1,h2⟩:=hS i d e;exact⟨v,h1,q v H (Res.of_den (Sub.refl _) h2)⟩
def mq {e:Expr}{v:V}{d:D}(hd:d.flat=true)(hv:∀S,Den W S v d)(h:PE X e (tC v)):PE X e (bm W G cl (.cst d) E):=h.mono λσ H Q ⟨N,a,hN,hS,q⟩=>by
 rw[l9] at q;exact q v H (Res.of_flat (Sub.refl _) hd (hv _))
def cx (W:Wd)(G:Pg)(cl:Nat->ax->Ip.Run)(ir:Ex)(E:St->XK):TT:=λσ H Q=>∃(N:Addr->Prop) (a:Sl),NOk N H/\RelS W (hid N H) a σ/\match (Ip.eval G cl a ir).bl with
 | .ok b=>∀H',Sub H H'->Q b H'
 | .exc c fs=>∀e H',ExcR W H N H' c fs e->E σ (.ref e) none H'
 | .bad=>False
def RelS.grow {N:Addr->Prop}{a:Sl}{H1:Hp}(hS:RelS W (hid N H) a σ)(hs:Sub H H1):RelS W (hid N H1) a σ:=hS.mono (gN hs λ_ z=>.inl z)
def nJ {ir:Ex}{Q:Bool->Hp->Prop}(h:cx W G cl ir E σ H Q):bm W G cl ir E σ H (λx H1=>∃c,x=.bl c/\Q c H1):=by
 obtain⟨N,a,hN,hS,h⟩:=h;refine⟨N,a,hN,hS,?_⟩;cases e:Ip.eval G cl a ir with
 | bad=>rw[e] at h; exact h
 | exc c fs=>rw[e] at h; exact h
 | ok x=>
  obtain⟨k,d⟩:=x;rw[e] at h;intro v H' r;cases d <;> try (exact h.elim)
  have:=(r.den hN).bl_inv;subst this;exact⟨_,rfl,h H' r.1⟩
def tq {e:Expr}{ir:Ex}(h:PE X e (bm W G cl ir E))(he:∀whole,isTrue e X.env whole=(do let v <-whole; standAt e.pos; holding [v] (truthy v))):PT X e (cx W G cl ir E):=
 (Ad h he).mono λσ H Q q=>nJ q
def iW {α β:Type}{r:Ip.R α}{f:α->Ip.R β}{b:β}(h:r.bind f=.ok b):∃a,r=.ok a/\f a=.ok b:=by
 cases r with
 | ok a=>exact⟨a,rfl,h⟩
 | exc c fs=>cases h
 | bad=>cases h
def ExcR.of_sub {H1 H':Hp}{N:Addr->Prop}{c:Nat}{fs:List aK}{e:Addr}(hs:Sub H H1)(r:ExcR W H1 N H' c fs e):ExcR W H N H' c fs e:=r.trans hs λ_ z=>z
def yr {x y:Ex}{Q:Bool->Hp->Prop}(h:cx W G cl (.and x y) E σ H Q):kH (cx W G cl x E) (cx W G cl y E) σ H Q:=by
 obtain⟨N,a,hN,hS,h⟩:=h;rw[mQ] at h;unfold kH;refine⟨N,a,hN,hS,?_⟩;cases e:Ip.eval G cl a x with
 | bad=>rw[e] at h; exact h
 | exc c fs=>rw[e] at h; exact h
 | ok v=>
  obtain⟨k,d⟩:=v;rw[e] at h;cases d <;> try (exact h.elim)
  rename_i b;intro H1 hs;cases b with
  | false=>exact h H1 hs
  | true=>
   rw[if_pos rfl];refine⟨N,a,hN.mono hs,hS.grow hs,?_⟩;simp only[Ip.R.bind,lH,if_true] at h;cases e2:(Ip.eval G cl a y).bl with
   | bad=>rw[e2] at h; exact h
   | exc c fs=>rw[e2] at h; exact λe' H' r=>h e' H' (r.of_sub hs)
   | ok b=>rw[e2] at h; exact λH' hs2=>h H' (hs.trans hs2)
def xW {x y:Ex}{Q:Bool->Hp->Prop}(h:cx W G cl (.or x y) E σ H Q):sv (cx W G cl x E) (cx W G cl y E) σ H Q:=by
 obtain⟨N,a,hN,hS,h⟩:=h;rw[nP] at h;unfold sv;refine⟨N,a,hN,hS,?_⟩;cases e:Ip.eval G cl a x with
 | bad=>rw[e] at h; exact h
 | exc c fs=>rw[e] at h; exact h
 | ok v=>
  obtain⟨k,d⟩:=v;rw[e] at h;cases d <;> try (exact h.elim)
  rename_i b;intro H1 hs;cases b with
  | true=>exact h H1 hs
  | false=>
   rw[if_neg (by decide)];refine⟨N,a,hN.mono hs,hS.grow hs,?_⟩;simp only[Ip.R.bind,lH,GE,if_false] at h;cases e2:(Ip.eval G cl a y).bl with
   | bad=>rw[e2] at h; exact h
   | exc c fs=>rw[e2] at h; exact λe' H' r=>h e' H' (r.of_sub hs)
   | ok b=>rw[e2] at h; exact λH' hs2=>h H' (hs.trans hs2)
def CB {x:Ex}{Q:Bool->Hp->Prop}(h:cx W G cl (.op .not [x]) E σ H Q):k9 (cx W G cl x E) σ H Q:=by
 obtain⟨N,a,hN,hS,h⟩:=h;rw[cR,bL,dk] at h;unfold k9;refine⟨N,a,hN,hS,?_⟩;cases e:Ip.eval G cl a x with
 | bad=>rw[e] at h; exact h
 | exc c fs=>rw[e] at h; exact h
 | ok v=>
  obtain⟨k,d⟩:=v;rw[e] at h;cases d <;> first | exact h | exact h.elim
def Dx {x y:Ex}{Q:VK}(h:bm W G cl (.and x y) E σ H Q):ik (bm W G cl x E) (bm W G cl y E) σ H Q:=by
 obtain⟨N,a,hN,hS,h⟩:=h;rw[mQ] at h;unfold ik;refine⟨N,a,hN,hS,?_⟩;cases e:Ip.eval G cl a x with
 | bad=>rw[e] at h; exact h
 | exc c fs=>rw[e] at h; exact h
 | ok v=>
  obtain⟨k,d⟩:=v;rw[e] at h;cases d <;> try (exact h.elim)
  rename_i b;intro v H1 r;have:=(r.den hN).bl_inv;subst this;have hs:=r.1;refine⟨b,rfl,?_⟩;cases b with
  | false=>exact h _ _ (Res.of_flat hs rfl .bl)
  | true=>
   rw[if_pos rfl];refine⟨N,a,hN.mono hs,hS.grow hs,?_⟩;simp only[Ip.R.bind,lH,if_true] at h;cases e2:Ip.eval G cl a y with
   | bad=>rw[e2] at h; exact h
   | exc c fs=>rw[e2] at h; exact λe' H' r=>h e' H' (r.of_sub hs)
   | ok b=>rw[e2] at h; exact λv H' r2=>h v H' (r2.trans hs)
def rO {x y:Ex}{Q:VK}(h:bm W G cl (.or x y) E σ H Q):lu (bm W G cl x E) (bm W G cl y E) σ H Q:=by
 obtain⟨N,a,hN,hS,h⟩:=h;rw[nP] at h;unfold lu;refine⟨N,a,hN,hS,?_⟩;cases e:Ip.eval G cl a x with
 | bad=>rw[e] at h; exact h
 | exc c fs=>rw[e] at h; exact h
 | ok v=>
  obtain⟨k,d⟩:=v;rw[e] at h;cases d <;> try (exact h.elim)
  rename_i b;intro v H1 r;have:=(r.den hN).bl_inv;subst this;have hs:=r.1;refine⟨b,rfl,?_⟩;cases b with
  | true=>exact h _ _ (Res.of_flat hs rfl .bl)
  | false=>
   rw[if_neg (by decide)];refine⟨N,a,hN.mono hs,hS.grow hs,?_⟩;simp only[Ip.R.bind,lH,GE,if_false] at h;cases e2:Ip.eval G cl a y with
   | bad=>rw[e2] at h; exact h
   | exc c fs=>rw[e2] at h; exact λe' H' r=>h e' H' (r.of_sub hs)
   | ok b=>rw[e2] at h; exact λv H' r2=>h v H' (r2.trans hs)
def vx {o p:Op}{x y z:Ex}{Q:VK}(h:bm W G cl (.chain o p x y z) E σ H Q) :
  eU (λx y=>rD W G o [x,y]) (λx y=>rD W G p [x,y]) (bm W G cl x E) (bm W G cl y E) (bm W G cl z E) σ H Q:=by
 obtain⟨N,a,hN,hS,h⟩:=h;rw[Ip.sh] at h;unfold eU;refine fW hN hS (λx1 ex v H1 fp hs nd hf ow hN1 hS1=>?_) (λc fs ee=>?_) λee=>?_
 .refine fW hN1 hS1 (λy1 ey w H2 fq hs2 nd2 hf2 ow2 hN2 hS2=>?_) (λc fs ee e H' r=>?_) λee=>?_
  .simp only[ex,ey,Ip.R.bind] at h;have hN':=hN.mono (hs.trans hs2);have dx:=ow.later hN hs2 hf λ_ y=>y;have dy:=ow2.later (hN.mono hs) (Sub.refl _) hf2 λ_ y=>.inl y;cases q:bC G o [x1,y1] with
   | none=>simp only[q,Ip.R.of] at h
   | some b=>
    simp only[q,Ip.R.of] at h;refine⟨N,[x1,y1],b,hN',.cons dx (.cons dy .nil),q,λv2 H3 r3=>?_⟩;obtain⟨kb,b⟩:=b;cases b <;> try (exact h.elim)
    rename_i b;have:=(r3.den hN').bl_inv;subst this;have hs3:=(hs.trans hs2).trans r3.1;refine⟨b,rfl,?_⟩;cases b with
    | false=>exact h _ _ (Res.of_flat hs3 rfl .bl)
    | true=>
     rw[if_pos rfl];simp only[lH,if_true] at h;refine fW (hN.mono hs3) (hS.grow hs3) (λz1 ez u H4 fz hs4 nd4 hf4 ow4 hN4 hS4=>?_) (λc fs ee e H' r=>?_) λee=>?_
     .simp only[ez] at h;cases q2:bC G p [y1,z1] with
      | none=>simp only[q2] at h
      | some t=>
       simp only[q2] at h;exact⟨N,[y1,z1],t,hN.mono (hs3.trans hs4),.cons (dy.mono (gN (r3.1.trans hs4) λ_ z=>.inl z)) (.cons (ow4.later (hN.mono hs3) (Sub.refl _) hf4 λ_ y=>y) .nil),q2,λv H' r=>h v H' (r.trans (hs3.trans hs4))⟩
     .simp only[ee] at h;exact h e H' (r.of_sub hs3)
     .simp only[ee] at h
  .simp only[ex,ee,Ip.R.bind] at h;exact h e H' (r.trans hs λ_ y=>.inl y)
  .simp only[ex,ee,Ip.R.bind] at h
 .simp only[ee,Ip.R.bind] at h;exact h
 .simp only[ee,Ip.R.bind] at h
end
def ItD (W:Wd)(N:Addr->Prop)(H1:Hp)(J:It)(ds:ay):Prop:=∀(M:Addr->Prop) (H:Hp),Sub (hid N H1) (hid M H)->NOk M H->∀i:Nat,
 (∀d,ds[i]? = some d->J.go i H/\∀x H',J.yld i H x H'->Sub H H'/\Den W (hid M H') x d)/\(ds.length<=i->J.stop i H)
section
variable {X:Cx}{W:Wd}{G:Pg}{cl:Nat->ax->Ip.Run}{E:St->XK}
def lE {N:Addr->Prop}{H H':Hp}(h:Sub H H'):Sub (hid N H) (hid N H'):=gN h λ_ z=>.inl z
def gE (W:Wd)(G:Pg)(cl:Nat->ax->Ip.Run)(wk:Wk)(irs:aG)(E:St->XK):TI:=λσ H R=>∃(N:Addr->Prop) (a:Sl),NOk N H/\RelS W (hid N H) a σ/\match evals G cl a irs with
 | .ok vs=>(match dJ wk vs with
  | some ds=>∀J H',Sub H H'->ItD W N H' J ds->(wk.rng=true->∀M,ItD W M H' J ds)->R J H'
  | none=>False)
 | .exc c fs=>∀e H',ExcR W H N H' c fs e->E σ (.ref e) none H'
 | .bad=>False
def PI.mono {tg iter:Expr}{t t':TI}(h:PI X tg iter t)(k:∀σ H R,t' σ H R->t σ H R):PI X tg iter t':=λpins s σ H R I q=>h pins s σ H R I (k σ H R q)
def ItD.list {N:Addr->Prop}{H1:Hp}{a:Addr}{vs:aw}{ds:ay}(hK:W.K=X.K)(h:Rd (hid N H1) a (.lst vs))(q:Dens W (hid N H1) vs ds):ItD W N H1 (rH X.K a) ds:=λM H hs hN i=>by
 have hq:SqL X.K H a vs:=.inl (Rd.sub (hs.trans bS) h);refine⟨λd e=>?_,λhl=>⟨vs,hq,by rw[q.length]; exact hl⟩⟩;obtain⟨v,e1,e2⟩:=q.get e;refine⟨⟨vs,v,hq,e1⟩,λx H' hZz=>?_⟩;obtain⟨hH,hx⟩:=hZz;subst hH;have:=hx vs hq;rw[e1] at this;cases this;exact⟨Sub.refl _,e2.mono hs⟩
def ItD.tup {N:Addr->Prop}{H1:Hp}{a:Addr}{vs:aw}{ds:ay}(hK:W.K=X.K)(h:SqT W.K (hid N H1) a vs)(q:Dens W (hid N H1) vs ds):ItD W N H1 (rK X.K a) ds:=λM H hs hN i=>by
 have hq:SqT X.K H a vs:=hK ▸ SqT.sub (hs.trans bS) h;refine⟨λd e=>?_,λhl=>⟨vs,hq,by rw[q.length]; exact hl⟩⟩;obtain⟨v,e1,e2⟩:=q.get e;refine⟨⟨vs,v,hq,e1⟩,λx H' hZz=>?_⟩;obtain⟨hH,hx⟩:=hZz;subst hH;have:=hx vs hq;rw[e1] at this;cases this;exact⟨Sub.refl _,e2.mono hs⟩
def xU {tg e:Expr}{ir:Ex}(hK:W.K=X.K)(h:PE X e (bm W G cl ir E)):PI X tg e (gE W G cl .seq [ir] E):=by
 rintro pins s σ H R I ⟨N,a,hN,hS,q⟩;rw[bL,dk] at q;cases e1:Ip.eval G cl a ir with
 | bad=>rw[e1] at q; exact q.elim
 | exc c fs=>
  rw[e1] at q;refine uV h pins s σ H R I ⟨N,a,hN,hS,?_⟩;rw[e1];exact q
 | ok x=>
  obtain⟨k,d⟩:=x;rw[e1] at q;simp only[show dJ .seq [(k,d)]=d.seq from rfl] at q;cases e2:d.seq with
  | none=>rw[e2] at q; exact q.elim
  | some ds=>
   rw[e2] at q;cases d <;> first | exact (bY e2).elim | simp only[D.seq] at e2
   .cases e2;refine uV h pins s σ H R I ⟨N,a,hN,hS,?_⟩;rw[e1];intro v H' r;have dv:=r.den hN;cases dv with | @lst b vs _ h1 h2=>?_
    exact⟨b,rfl,⟨vs,.inl (Rd.sub bS h1)⟩,q _ _ r.1 (ItD.list hK h1 h2) λz=>nomatch z⟩
   .cases e2;refine C2 h pins s σ H R I ⟨N,a,hN,hS,?_⟩;rw[e1];intro v H' r;have dv:=r.den hN;cases dv with | @tup b vs _ h1 h2=>?_
    exact⟨b,rfl,⟨vs,hK ▸ SqT.sub bS h1⟩,q _ _ r.1 (ItD.tup hK h1 h2) λz=>nomatch z⟩
theorem ItD.range {N:Addr->Prop}{H1:Hp}{lo:Int}{n:Nat}:ItD W N H1 (mE lo n) ((List.range n).map λ(i:Nat)=>.int (lo+i)):=λM H hs hN i=>by
 refine⟨λd e=>?_,λhl=>?_⟩;rotate_left
 .show n<=i;simpa using hl
 rw[GK] at e;obtain⟨j,e1,e2⟩:=dO e;have hi:i<n:=by have:=(eQ e1).1; simpa using this
 rw[JD hi] at e1;cases e1;subst e2;refine⟨hi,λx H' hZz=>?_⟩;obtain⟨hH,hx⟩:=hZz;subst hH hx;exact⟨Sub.refl _,.int⟩
def wk_rng1 {xs:ax}{ds:ay}(h:dJ .rng1 xs=some ds):∃k j,xs=[(k,.int j)]/\(-(2 ^ 62)<=j/\j<2 ^ 62)/\ds=(List.range j.toNat).map λ(n:Nat)=>.int n:=by
 obtain⟨⟨k,d⟩,rfl,h2⟩:=Ip.sU (f:=Ip.jS) h;obtain⟨j,e1,h3⟩:=cX (show (eG d).bind _=some ds from h2);clear h h2;obtain rfl:=ml e1;by_cases hj:cZ j=true
 .rw[if_pos hj] at h3;cases h3;exact⟨k,j,rfl,fQ.mp hj,rfl⟩
 .rw[if_neg hj] at h3; exact (bY h3).elim
def Dl {d:D}{xs:ay}(h:d.lstO=some xs):d=.lst xs:=by
 cases d <;> simp only[D.lstO] at h <;> cases h
 rfl
def wk_enum {xs:ax}{ds:ay}(h:dJ .enum xs=some ds):∃k es,xs=[(k,.lst es)]/\ds=es.mapIdx λn d=>.tup [.int n,d]:=by
 obtain⟨⟨k,d⟩,rfl,h2⟩:=Ip.sU (f:=Ip.jQ) h;obtain⟨es,e1,e2⟩:=dO (show d.lstO.map _=some ds from h2);exact⟨k,es,by rw[Dl e1],e2.symm⟩
def wk_zip {xs:ax}{ds:ay}(h:dJ .zip xs=some ds):∃k l d e us ws,xs=[(k,d),(l,e)]/\d.seq=some us/\e.seq=some ws/\ds=(us.zip ws).map λp=>.tup [p.1,p.2]:=by
 obtain⟨⟨k,d⟩,⟨l,e⟩,rfl,h2⟩:=Ip.wm (f:=Ip.mC) h;obtain⟨us,e1,e2⟩:=cX (show d.seq.bind _=some ds from h2);obtain⟨ws,e3,e4⟩:=dO e2;exact⟨k,l,d,e,us,ws,rfl,e1,e3,e4.symm⟩
def oO {wk:Wk}{irs:aG}{σ:St}{H:Hp}{R:It->Hp->Prop}{Q:aw->Hp->Prop}(h:gE W G cl wk irs E σ H R)
  (k:∀(N:Addr->Prop) xs ds,dJ wk xs=some ds->NOk N H->(∀J H',Sub H H'->ItD W N H' J ds->(wk.rng=true->∀M,ItD W M H' J ds)->R J H')->∀vs H',Sub H H'->Dens W (hid N H') vs (xs.map (·.2))->Q vs H'):ci W G cl irs E σ H Q:=by
 obtain⟨N,a,hN,hS,q⟩:=h;refine⟨N,a,hN,hS,?_⟩;cases e1:evals G cl a irs with
 | bad=>rw[e1] at q; exact q
 | exc c fs=>rw[e1] at q; exact q
 | ok xs=>
  rw[e1] at q;simp only at q;cases e2:dJ wk xs with
  | none=>rw[e2] at q; exact q.elim
  | some ds=>
   rw[e2] at q;exact λvs H' r=>k N xs ds e2 hN q vs H' r.1 (r.dens hN)
def Bg {tg e:Expr}{ir:Ex}{p pos:Pos}(hg:Gl X "range")(hm:X.mg "range" = none)(h:PA X [e] (ci W G cl [ir] E))(hs:starEach [e] X.env=[(false,PySem.eval e X.env)]):PI X tg (.Call (.Name "range" p) [e] [] pos) (gE W G cl .rng1 [ir] E):=by
 refine (zf hg hm h hs).mono λσ H R q=>oO q λN xs ds e2 hN q vs H' hs dv=>?_;obtain⟨k,j,rfl,hj,rfl⟩:=wk_rng1 e2;obtain⟨v,rfl,h1⟩:=Dens.one dv;rw[h1.int_inv];have rr:∀M,ItD W M H' (mE 0 j.toNat) ((List.range j.toNat).map λ(n:Nat)=>.int n):=λM=>by
  have:=ItD.range (W:=W) (N:=M) (H1:=H') (lo:=0) (n:=j.toNat);simpa using this
 exact⟨j,rfl,hj.1,hj.2,q _ _ hs (rr N) λ_ M=>rr M⟩
def ItD.rangeD {N:Addr->Prop}{H1:Hp}{lo:Int}{n:Nat}:ItD W N H1 (nZ lo n) ((List.range n).map λ(i:Nat)=>.int (lo - i)):=λM H hs hN i=>by
 refine⟨λd e=>?_,λhl=>?_⟩;rotate_left
 .show n<=i;simpa using hl
 rw[GK] at e;obtain⟨j,e1,e2⟩:=dO e;have hi:i<n:=by have:=(eQ e1).1; simpa using this
 rw[JD hi] at e1;cases e1;subst e2;refine⟨hi,λx H' hZz=>?_⟩;obtain⟨hH,hx⟩:=hZz;subst hH hx;exact⟨Sub.refl _,.int⟩
def B0 {xs:ax}{ds:ay}(h:dJ .rngD xs=some ds):∃k l o i j,xs=[(k,.int i),(l,.int j),(o,.int (-1))]/\(-(2 ^ 62)<=i/\i<2 ^ 62 /\ -(2 ^ 62)<=j/\j<2 ^ 62)/\ds=(List.range (i - j).toNat).map λ(n:Nat)=>.int (i - n):=by
 cases xs with
 | nil=>exact (bY h).elim
 | cons x r=>
  obtain⟨k,d⟩:=x;obtain⟨⟨l,e⟩,⟨o,g⟩,rfl,h2⟩:=Ip.wm (f:=λy z=>Ip.jD d y z) h;obtain⟨i,e1,h3⟩:=cX (show (eG d).bind _=some ds from h2);obtain⟨j,e2,h4⟩:=cX h3;obtain⟨m,e3,h5⟩:=cX h4;clear h h2 h3 h4;obtain rfl:=ml e1;obtain rfl:=ml e2;obtain rfl:=ml e3;by_cases hj:cZ i=true/\cZ j=true/\m = -1
  .rw[if_pos hj] at h5;obtain⟨a1,a2⟩:=fQ.mp hj.1;obtain⟨b1,b2⟩:=fQ.mp hj.2.1;obtain rfl:=hj.2.2;exact⟨k,l,o,i,j,rfl,⟨a1,a2,b1,b2⟩,(cG h5).symm⟩
  .rw[if_neg hj] at h5; exact (bY h5).elim
def Dens.three {S:Hp}{vs:aw}{d e f:D}(h:Dens W S vs [d,e,f]):∃v w x,vs=[v,w,x]/\Den W S v d/\Den W S w e/\Den W S x f:=by
 cases h with
 | cons h r=>
  obtain⟨w,x,e,h2,h3⟩:=r.two;subst e;exact⟨_,_,_,rfl,h,h2,h3⟩
def Fc {tg e e' e'':Expr}{ir ir' ir'':Ex}{p pos:Pos}(hg:Gl X "range")(hm:X.mg "range" = none)(h:PA X [e,e',e''] (ci W G cl [ir,ir',ir''] E))(hs:starEach [e,e',e''] X.env=[(false,PySem.eval e X.env),(false,PySem.eval e' X.env),(false,PySem.eval e'' X.env)])(hs2:starEach [e',e''] X.env=[(false,PySem.eval e' X.env),(false,PySem.eval e'' X.env)]):PI X tg (.Call (.Name "range" p) [e,e',e''] [] pos) (gE W G cl .rngD [ir,ir',ir''] E):=by
 refine (zG hg hm h hs hs2).mono λσ H R q=>oO q λN xs ds e2 hN q vs H' hs dv=>?_;obtain⟨k,l,o,i,j,rfl,hj,rfl⟩:=B0 e2;obtain⟨v,w,x,rfl,h1,h2,h3⟩:=Dens.three dv;rw[h1.int_inv,h2.int_inv,h3.int_inv];exact⟨i,j,rfl,hj,q _ _ hs ItD.rangeD λ_ _=>ItD.rangeD⟩
def ItD.enum {N:Addr->Prop}{H1:Hp}{a:Addr}{vs:aw}{ds:ay}(hK:W.K=X.K)(h:Rd (hid N H1) a (.lst vs))(q:Dens W (hid N H1) vs ds):ItD W N H1 (sj X.K a) (ds.mapIdx λn d=>.tup [.int n,d]):=λM H hs hN i=>by
 have hq:SqL X.K H a vs:=.inl (Rd.sub (hs.trans bS) h);refine⟨λd e=>?_,λhl=>⟨vs,hq,by rw[q.length]; simpa using hl⟩⟩;rw[HD] at e;obtain⟨d',e0,rfl⟩:=dO e;obtain⟨v,e1,e2⟩:=q.get e0;refine⟨⟨vs,v,hq,e1⟩,λx H' hZz=>?_⟩;obtain⟨y,p,hx,hp,hH,hy⟩:=hZz;have:=hy vs hq;rw[e1] at this;cases this;subst hx hH;exact⟨Sub.upd hp,.tup (SqT.of (bg.mpr ⟨λz=>hN p z hp,cm⟩)) (.cons .int (.cons (e2.mono (hs.trans (lE (Sub.upd hp)))) .nil))⟩
def Den.seqQ {S:Hp}{v:V}{d:D}{us:ay}(hd:d.seq=some us)(h:Den W S v d):∃q a vs,v=.ref a/\SqQ q W.K S a vs/\Dens W S vs us:=by
 cases h <;> simp only[D.seq] at hd <;> cases hd
 .rename_i a vs h1 h2; exact⟨true,a,vs,rfl,.inl h1,h2⟩
 .rename_i a vs h1 h2; exact⟨false,a,vs,rfl,h1,h2⟩
theorem SqQ.sub {q:Bool}{K:bo}{H H':Hp}{a:Addr}{xs:aw}(s:Sub H H')(h:SqQ q K H a xs):SqQ q K H' a xs:=by
 cases q
 .exact SqT.sub s h
 .rcases h with h | h
  .exact .inl (Rd.sub s h)
  .exact .inr h
theorem ItD.zip {q1 q2:Bool}{N:Addr->Prop}{H1:Hp}{a b:Addr}{vs ws:aw}{ds es:ay}(hK:W.K=X.K)(h:SqQ q1 W.K (hid N H1) a vs)(q:Dens W (hid N H1) vs ds)(h':SqQ q2 W.K (hid N H1) b ws)(q':Dens W (hid N H1) ws es) :
  ItD W N H1 (ka q1 q2 X.K a b) ((ds.zip es).map λp=>.tup [p.1,p.2]):=λM H hs hN i=>by
 have hq:SqQ q1 X.K H a vs:=by rw[<-hK]; exact SqQ.sub (hs.trans bS) h
 have hq':SqQ q2 X.K H b ws:=by rw[<-hK]; exact SqQ.sub (hs.trans bS) h'
 refine⟨λd e=>?_,λhl=>?_⟩
 .rw[GK] at e;obtain⟨⟨d1,d2⟩,e0,rfl⟩:=dO e;obtain⟨e1,e2⟩:=IL.mp e0;obtain⟨v,f1,f2⟩:=q.get e1;obtain⟨w,g1,g2⟩:=q'.get e2;refine⟨⟨vs,ws,v,w,hq,hq',f1,g1⟩,λx H' hZz=>?_⟩;obtain⟨y,z,p,hx,hp,hH,hy,hz⟩:=hZz;have t1:=hy vs hq;have t2:=hz ws hq';rw[f1] at t1;rw[g1] at t2;cases t1;cases t2;subst hx hH;exact⟨Sub.upd hp,.tup (SqT.of (bg.mpr ⟨λz=>hN p z hp,cm⟩)) (.cons (f2.mono (hs.trans (lE (Sub.upd hp)))) (.cons (g2.mono (hs.trans (lE (Sub.upd hp)))) .nil))⟩
 .refine⟨vs,ws,hq,hq',?_⟩;rw[q.length,q'.length];simp only[GA,List.length_zip] at hl;omega
def Ga {e:Expr}{es:av}{k1:Nat}{tp:Pos}{ir:Ex}{p pos:Pos}(hK:W.K=X.K)(hg:Gl X "enumerate")(hm:X.mg "enumerate" = none)(hv:bootBuiltins "enumerate" = some (.type "enumerate"))(h:PA X [e] (ci W G cl [ir] E))(hs:starEach [e] X.env=[(false,PySem.eval e X.env)]) :
  PI X (.Tuple es k1 tp) (.Call (.Name "enumerate" p) [e] [] pos) (gE W G cl .enum [ir] E):=by
 refine (yT hg hm hv h hs).mono λσ H R q=>oO q λN xs ds e2 hN q vs H' hs dv=>?_;obtain⟨k,us,rfl,rfl⟩:=wk_enum e2;obtain⟨v,rfl,h0⟩:=Dens.one dv;have h0':Den W (hid N H') v (.lst us):=h0;cases h0' with | @lst a ws _ h1 h2=>?_
 exact⟨a,ws,rfl,.inl (Rd.sub bS h1),q _ _ hs (ItD.enum hK h1 h2) λz=>nomatch z⟩
def At {e e':Expr}{es:av}{k1:Nat}{tp:Pos}{ir ir':Ex}{p pos:Pos}(hK:W.K=X.K)(hg:Gl X "zip")(hm:X.mg "zip" = none)(hv:bootBuiltins "zip" = some (.type "zip"))(h:PA X [e,e'] (ci W G cl [ir,ir'] E))
  (hs:starEach [e,e'] X.env=[(false,PySem.eval e X.env),(false,PySem.eval e' X.env)])(hs2:starEach [e'] X.env=[(false,PySem.eval e' X.env)]) :
  PI X (.Tuple es k1 tp) (.Call (.Name "zip" p) [e,e'] [] pos) (gE W G cl .zip [ir,ir'] E):=by
 refine (zF hg hm hv h hs hs2).mono λσ H R q=>oO q λN xs ds e2 hN q vs H' hs dv=>?_;obtain⟨k,l,d,e,us,ws,rfl,hd,he,rfl⟩:=wk_zip e2;obtain⟨v,w,rfl,h0,g0⟩:=Dens.two dv;obtain⟨q1,a,vs',rfl,h1,h2⟩:=Den.seqQ hd h0;obtain⟨q2,b,ws',rfl,g1,g2⟩:=Den.seqQ he g0;exact⟨q1,q2,a,b,vs',ws',rfl,by rw[<-hK]; exact SqQ.sub bS h1,by rw[<-hK]; exact SqQ.sub bS g1,q _ _ hs (ItD.zip hK h1 h2 g1 g2) λz=>nomatch z⟩
noncomputable def jE:ak->iE
 | []=>mX
 | i::is=>jq (d8 i) (jE is)
noncomputable def gT (K:bo):Tg->TG
 | .one i=>d8 i
 | .many is=>λv σ H Q=>mP K is.length (jE is) v σ H Q\/nG K is.length (jE is) v σ H Q
theorem RelS.set {S:Hp}{a:Sl}{σ:St}{i:Nat}{v:V}{d:D}(h:RelS W S a σ)(hi:i < σ.length)(hd:Den W S v d):RelS W S (a.set i (some d)) (σ.set i (some v)):=λj e hj=>by
 by_cases z:i=j
 .subst z;by_cases y:i<a.length
  .rw[GD y] at hj;cases hj;exact⟨v,GD hi,hd⟩
  .rw[Hu (by rw[GO]; omega)] at hj; cases hj
 .rw[Gz z] at hj;rw[Gz z];exact h j e hj
def RelS.skip {S:Hp}{a:Sl}{σ:St}{i:Nat}{v:V}(h:RelS W S a σ)(hi:∀d,a[i]?≠some (some d)):RelS W S a (σ.set i (some v)):=λj e hj=>by
 by_cases z:i=j
 .subst z; exact absurd hj (hi e)
 .rw[Gz z]; exact h j e hj
theorem wL {S:Hp}{a0:Sl}{H:Hp}:∀{is:ak} {vs:aw} {ds:ay} {a:Sl} {σ:St} {Q:St->Hp->Prop},Dens W S vs ds->ds.length=is.length->(∀i∈is,i < σ.length)->(∀i∈is,∀d,a0[i]?≠some (some d))->RelS W S a σ->RelS W S a0 σ ->
  (∀σ',RelS W S (Ip.cY id is ds a) σ'->RelS W S a0 σ'->σ'.length=σ.length->Q σ' H)->jE is vs σ H Q
 | [],_,_,a,σ,Q,.nil,_,_,_,h,h0,k=>⟨rfl,k σ h h0 rfl⟩
 | [],_,_,_,_,_,.cons _ _,hl,_,_,_,_,_=>by simp at hl
 | i::is,_,_,_,_,_,.nil,hl,_,_,_,_,_=>by simp at hl
 | i::is,_,_,a,σ,Q,.cons hd q,hl,hi,ha,h,h0,k=>by
  refine⟨_,_,rfl,?_⟩;show jE is _ (σ.set i (some _)) H Q;refine wL q (by simpa using hl) (λj hj=>by rw[GO]; exact hi j (bQ _ hj)) (λj hj=>ha j (bQ _ hj)) (h.set (hi i bZ) hd) (h0.skip (ha i bZ)) λσ' h1 h2 h3=>k σ' h1 h2 (by rw[h3,GO])
def A9 {N:Addr->Prop}{H:Hp}{a0 a1:Sl}{σ:St}{tg:Tg}{v:V}{d:D}{Q:St->Hp->Prop}(hK:W.K=X.K)(hd:Den W (hid N H) v d)(hi:∀i∈dB tg,i < σ.length)(ha:∀i∈dB tg,∀d,a0[i]?≠some (some d))(h0:RelS W (hid N H) a0 σ)
  (hb:d9 id a0 tg d=some a1)(k:∀σ',RelS W (hid N H) a1 σ'->RelS W (hid N H) a0 σ'->σ'.length=σ.length->Q σ' H):gT X.K tg v σ H Q:=by
 cases tg with
 | one i=>
  simp only[d9] at hb;cases hb;exact k _ (h0.set (hi i (by simp[dB])) hd) (h0.skip (ha i (by simp[dB]))) (by rw[GO])
 | many is=>
  cases hd <;> first | exact (bY hb).elim | simp only[d9] at hb
  rename_i a vs ds h1 h2;by_cases hl:ds.length=is.length
  .rw[if_pos hl] at hb;cases hb;exact .inl ⟨a,vs,rfl,hK ▸ SqT.sub bS h1,h2.length.trans hl,wL h2 hl hi ha h0 h0 k⟩
  .rw[if_neg hl] at hb; cases hb
theorem tY {f:D->Ip.R aA}:∀{ds:ay} {zs:ax},be f ds=.ok zs->∀i d,ds[i]? = some d->∃o z1,f d=.ok o/\be f (ds.take i)=.ok z1/\be f (ds.take (i+1))=.ok (z1++o.toList)
 | [],_,_,i,d,e=>by simp at e
 | x::xs,zs,h,i,d,e=>by
  rw[be] at h;obtain⟨o,ho,h⟩:=iW h;obtain⟨ys,hy,h⟩:=iW h;cases i with
  | zero=>
   simp at e;subst e;refine⟨o,[],ho,rfl,?_⟩;rw[List.take_succ_cons,List.take_zero,be,ho,Ip.R.bind,be,Ip.R.bind];cases o <;> rfl
  | succ i=>
   obtain⟨o2,z1,h1,h2,h3⟩:=tY hy i d (by simpa using e);refine⟨o2,_,h1,by rw[List.take_succ_cons,be,ho,Ip.R.bind,h2,Ip.R.bind],?_⟩;rw[List.take_succ_cons,be,ho,Ip.R.bind,h3,Ip.R.bind];cases o <;> rfl
def Aq {S:Hp}{a:Sl}{σ:St}(caps:List aE)(h:RelS W S a σ):RelS W S (caps.map (de a)) (caps.map (iN σ)):=λi d e=>by
 rw[GK] at e;obtain⟨o,e1,e2⟩:=dO e;cases o with
 | none=>cases e2
 | some j=>
  have e3:a[j]? = some (some d):=by
   have:(a[j]?).join=some d:=e2;cases q:a[j]? with
   | none=>rw[q] at this; cases this
   | some r=>rw[q] at this; rw[show r=some d from this]
  obtain⟨v,h1,h2⟩:=h j d e3;refine⟨v,?_,h2⟩;rw[GK,e1];show some ((σ[j]?).join)=some (some v);rw[h1];rfl
theorem OwnV.snoc {S H:Hp}{v:V}{x:KD}{f:ao}(h:Own W S H x.1 v x.2 f):∀{vs xs fp},OwnV W S H vs xs fp->OwnV W S H (vs++[v]) (xs++[x]) (fp++f)
 | _,_,_,.nil=>by simpa using OwnV.cons h .nil
 | _,_,_,.cons h0 q=>by
  rw[List.cons_append,List.cons_append,Jh];exact .cons h0 (OwnV.snoc h q)
theorem xu {f:D->Ip.R aA}:∀{ds:ay} {zs:ax},be f ds=.ok zs->zs.length<=ds.length
 | [],_,h=>by cases h; exact bI _
 | x::xs,zs,h=>by
  rw[be] at h;obtain⟨o,ho,h⟩:=iW h;obtain⟨ys,hy,h⟩:=iW h;cases h;have:=xu hy;cases o <;> simp <;> omega
noncomputable def pW (W:Wd)(G:Pg)(cl:Nat->ax->Ip.Run):aG->TT
 | []=>hZ
 | [t]=>cx W G cl t λ_ _ _ _=>False
 | _=>λ_ _ _=>False
def eV (N:Addr->Prop)(l:Addr)(fp:ao):Addr->Prop:=λb=>(N b\/b=l)\/b∈fp
abbrev qV (W:Wd)(F:D->Ip.R aA)(A:Ip.Sl)(n:Nat)(ds:ay)(N:Addr->Prop)(l:Addr)(H1:Hp)(i:Nat)(ys:aw)(σ:St)(H:Hp):Prop:=∃(z1:ax) (fp:ao),be F (ds.take i)=.ok z1/\fp.Nodup/\l∉fp/\(∀b∈fp,H1 b=none)/\OwnV W (hid (eV N l fp) H) H ys z1 fp/\H l=some (.lst ys)/\Sub H1 H/\RelS W (hid (eV N l fp) H) A σ/\σ.length=n
def wI {caps:List aE}{tg:Tg}{wk:Wk}{it ts:aG}{x:Ex}{σ:St}{H:Hp}{Q:VK}(hK:W.K=X.K)(hidx:∀i∈dB tg,caps[i]? = some none)(h:bm W G cl (.comp caps tg wk it ts x) E σ H Q) :
  gy (gE W G cl wk it E) caps (gT X.K tg) (pW W G cl ts) (bm W G cl x λ_ _ _ _=>False) σ H Q:=by
 obtain⟨N,a,hN,hS,h⟩:=h;rw[lF] at h;unfold gy;refine⟨N,a,hN,hS,?_⟩;cases e1:evals G cl a it with
 | bad=>rw[e1] at h; exact h
 | exc c fs=>rw[e1] at h; exact h
 | ok vs=>
  rw[e1] at h;simp only[Ip.R.bind] at h;cases e2:dJ wk vs with
  | none=>rw[e2] at h; exact h.elim
  | some ds=>
   rw[e2] at h;simp only at h;by_cases hl:ds.length<=SL
   rotate_left
   .rw[if_neg hl] at h; exact h.elim
   rw[if_pos hl] at h;cases e3:be (compF G cl (caps.map (de a)) tg ts x) ds with
   | bad=>rw[e3] at h; exact h.elim
   | exc c fs=>rw[e3] at h; exact h.elim
   | ok zs=>
    rw[e3] at h;simp only[Ip.R.nox] at h;simp only[e2];intro J H1 hs1 hJ _ l hl1;have hN1:=hN.mono hs1;have a0n:∀i∈dB tg,∀d,(caps.map (de a))[i]?≠some (some d):=λi hi d z=>by
     rw[GK,hidx i hi] at z; cases z
    have ilt:∀i∈dB tg,i<caps.length:=λi hi=>(eQ (hidx i hi)).1;refine⟨λi m ys σ Hc=>m=ds.length - i/\i<=ds.length/\qV W (compF G cl (caps.map (de a)) tg ts x) (caps.map (de a)) caps.length ds N l H1 i ys σ Hc,
     ⟨ds.length,by simp,Hr _,[],[],rfl,.nil,by simp,λb z=>by simp at z,.nil,cm,Sub.upd hl1,?_,by simp⟩,?_⟩
    .refine (Aq caps (hS.grow hs1)).mono (gN (Sub.upd hl1) λb z=>?_);rcases z with (z | z) | z
     .exact .inl z
     .rw[z]; exact .inr hl1
     .simp at z
    rintro i m ys σ1 Hc ⟨rfl,hi,z1,fp,ez,nd,lf,hf,ow,hcl,hs2,hS2,hlen⟩;have hNc:NOk (eV N l fp) Hc:=λb z=>by
     rcases z with (z | z) | z
     .exact (hN1.mono hs2) b z
     .rw[z,hcl]; simp
     .exact ow.dom b z
    have hsub:Sub (hid N H1) (hid (eV N l fp) Hc):=gN hs2 λb z=>by
     rcases z with (z | z) | z
     .exact .inl z
     .rw[z]; exact .inr hl1
     .exact .inr (hf b z)
    obtain⟨J1,J2⟩:=hJ (eV N l fp) Hc hsub hNc i;by_cases hlt:i<ds.length
    .obtain⟨o,z1',f1,f2,f3⟩:=tY e3 i ds[i] (by simp[hlt]);rw[ez] at f2;cases f2;obtain⟨Jg,Jy⟩:=J1 ds[i] (by simp[hlt]);refine .inr ⟨Jg,λys σ' H'=>qV W (compF G cl (caps.map (de a)) tg ts x) (caps.map (de a)) caps.length ds N l H1 (i+1) ys σ' H',
      λys' σ' H' p'=>⟨ds.length - (i+1),by omega,rfl,hlt,p'⟩,λv H' hy=>?_⟩
     obtain⟨s3,dx⟩:=Jy v H' hy;unfold compF at f1;cases eb:d9 id (caps.map (de a)) tg ds[i] with
     | none=>rw[eb] at f1; cases f1
     | some a1=>
      rw[eb] at f1;simp only at f1;have hN3:=hNc.mono s3;refine A9 hK dx (λj hj=>by rw[hlen]; exact ilt j hj) a0n (hS2.grow s3) eb λσ2 r1 r0 hl2=>?_;have hlen2:σ2.length=caps.length:=hl2.trans hlen;have takeIt:∀y H4,Sub H' H4->Ip.eval G cl a1 x=.ok y->o=some y->bm W G cl x (λ_ _ _ _=>False) σ2 H4 λv H5=>∃ys',H5 l=some (.lst ys')/\ys'.length<sizeLine /\
        qV W (compF G cl (caps.map (de a)) tg ts x) (caps.map (de a)) caps.length ds N l H1 (i+1) (ys'++[v]) σ2 (upd H5 l (.lst (ys'++[v]))):=by
       intro y H4 s4 ey ho;refine⟨eV N l fp,a1,hN3.mono s4,r1.grow s4,?_⟩;rw[ey];rintro v H5 ⟨s5,fq,nd5,hf5,ow5⟩;have sc5:Sub Hc H5:=(s3.trans s4).trans s5;have l4:H4 l≠none:=by rw[(s3.trans s4) l _ hcl]; simp
       have lq:l∉fq:=λz=>l4 (hf5 l z);have up:∀b,b≠l->(upd H5 l (.lst (ys++[v]))) b=H5 b:=λb z=>bP z;have big:Sub (hid (eV N l fp) Hc) (hid (eV N l (fp++fq)) (upd H5 l (.lst (ys++[v])))):=λb u e=>by
        obtain⟨g1,g2⟩:=bg.mp e;have bl:b≠l:=λz=>g1 (.inl (.inr z));refine bg.mpr ⟨λz=>?_,by rw[up b bl]; exact sc5 b u g2⟩;rcases z with z | z
        .exact g1 (.inl z)
        .rcases dN z with z | z
         .exact g1 (.inr z)
         .have:=hf5 b z;rw[(s3.trans s4) b u g2] at this;cases this
       refine⟨ys,sc5 l _ hcl,?_,z1++[y],fp++fq,by rw[f3,ho]; rfl,?_,?_,?_,?_,cm,?_,?_,hlen2⟩
       .rw[ow.length];have:=xu ez;rw[HN] at this;have h2:SL<sizeLine:=by decide
        omega
       .refine GP.mpr ⟨nd,nd5,λb hb c hc z=>?_⟩;subst z;have h1:=ow.dom b hb;cases hq:Hc b with
        | none=>exact h1 hq
        | some u=>
         have:=hf5 b hc;rw[(s3.trans s4) b u hq] at this;cases this
       .intro z;rcases dN z with z | z
        .exact lf z
        .exact lq z
       .intro b z;rcases dN z with z | z
        .exact hf b z
        .exact (hs2.trans (s3.trans s4)).none (hf5 b z)
       .refine OwnV.snoc (ow5.mono (λb u e=>?_) λb hb u e=>?_) (ow.mono big λb hb u e=>?_)
        .obtain⟨g1,g2⟩:=bg.mp e;have bl:b≠l:=λz=>g1 (.inl (.inl (.inr z)));refine bg.mpr ⟨λz=>?_,by rw[up b bl]; exact g2⟩;rcases z with z | z
         .exact g1 (.inl (.inl z))
         .rcases dN z with z | z
          .exact g1 (.inl (.inr z))
          .exact g1 (.inr z)
        .rw[up b λz=>lq (z ▸ hb)]; exact e
        .rw[up b λz=>lf (z ▸ hb)]; exact sc5 b u e
       .intro b u e;rw[up b λz=>by rw[z,hl1] at e; cases e];exact (hs2.trans sc5) b u e
       .refine RelS.mono (λb u e=>?_) r0;obtain⟨g1,g2⟩:=bg.mp e;have bl:b≠l:=λz=>g1 (.inl (.inr z));refine bg.mpr ⟨λz=>?_,by rw[up b bl]; exact (s4.trans s5) b u g2⟩;rcases z with z | z
        .exact g1 (.inl z)
        .rcases dN z with z | z
         .exact g1 (.inr z)
         .have:=hf5 b z;rw[s4 b u g2] at this;cases this
      match ts,f1 with
      | [],f1=>
       simp only[dk,Ip.R.bind] at f1;cases ey:Ip.eval G cl a1 x with
       | bad=>rw[ey] at f1; cases f1
       | exc c fs=>rw[ey] at f1; cases f1
       | ok y=>
        rw[ey] at f1;cases f1;have t:=takeIt y H' (Sub.refl _) ey rfl;simp only[pW,hZ,if_true];exact t
      | [t],f1=>
       simp only[dk,bL,Ip.R.bind] at f1;refine⟨eV N l fp,a1,hN3,r1,?_⟩;cases et:Ip.eval G cl a1 t with
       | bad=>rw[et] at f1; cases f1
       | exc c fs=>rw[et] at f1; cases f1
       | ok tv=>
        obtain⟨kt,tv⟩:=tv;rw[et] at f1;simp only at f1;cases tv <;> simp only[Ip.gX] at f1 <;> try (cases f1; done)
        rename_i b;intro H4 s4;cases b with
        | true=>
         rw[if_pos rfl];simp only[if_true] at f1;cases ey:Ip.eval G cl a1 x with
         | bad=>rw[ey] at f1; cases f1
         | exc c fs=>rw[ey] at f1; cases f1
         | ok y=>
          rw[ey] at f1;cases f1;exact takeIt y H4 s4 ey rfl
        | false=>
         rw[if_neg (by decide)];simp only[GE,if_false] at f1;cases f1;have sc4:Sub Hc H4:=s3.trans s4;exact⟨z1,fp,by rw[f3]; simp,nd,lf,hf,ow.mono (lE sc4) λb _ u e=>sc4 b u e,sc4 l _ hcl,hs2.trans sc4,r0.grow s4,hlen2⟩
      | _::_::_,f1=>
       exfalso;obtain⟨us,h1,h2⟩:=iW f1;simp only[bL] at h1;obtain⟨u1,_,h1⟩:=iW h1;obtain⟨u2,h3,h1⟩:=iW h1;obtain⟨u4,_,h3⟩:=iW h3;obtain⟨u5,_,h3⟩:=iW h3;cases h1;cases h3;simp only at h2;cases h2
    .have e:i=ds.length:=by omega
     subst e;rw[Il (Nat.le_refl _),e3] at ez;cases ez;obtain⟨fq,nd2,sub,o2⟩:=OwnV.join (N:=λb=>N b\/b=l) nd (λb hb z=>z.elim (λy=>hN1 b y (hf b hb)) λy=>lf (y ▸ hb)) ow;refine .inl ⟨J2 (bI _),h _ _ ⟨hs1.trans hs2,l::fq,GN.mpr ⟨λz=>lf (sub l z),nd2⟩,λb z=>?_,l,ys,fq,rfl,hcl,?_,rfl⟩⟩
     .rcases cH z with y | y
      .rw[y]; exact hs1.none hl1
      .exact hs1.none (hf b (sub b y))
     .refine o2.imp λv d f hf2 ow=>ow.mono (λb u e=>?_) λb _ u e=>e;obtain⟨g1,g2⟩:=bg.mp e;refine bg.mpr ⟨λz=>g1 ?_,g2⟩;rcases z with z | z
      .exact .inl (.inl z)
      .rcases cH z with y | y
       .exact .inl (.inr y)
       .exact .inr y
end
def F0 (W:Wd)(G:Pg)(n f:Nat):Sp:=λvs H Q E=>∃(N:Addr->Prop) (xs:ax),NOk N H/\Dens W (hid N H) vs (xs.map (·.2))/\match Ip.run G n f xs with
 | .ret k d []=>∀v H',Res W H N H' (k,d) v->Q v H'
 | .exc c fs []=>∀e H',ExcR W H N H' c fs e->E (.ref e) none H'
 | _=>False
def yQ (W:Wd)(G:Pg)(n f:Nat):Sp:=λvs H Q E=>∃(N:Addr->Prop) (x0:KD) (xs:ax) (v0:V) (ws:aw) (f0:ao),vs=v0::ws/\NOk N H/\f0.Nodup/\(∀b∈f0,¬N b) /\
 Own W (hid (λb=>N b\/b∈f0) H) H x0.1 v0 x0.2 f0/\Dens W (hid (λb=>N b\/b∈f0) H) ws (xs.map (·.2))/\match Ip.run G n f (x0::xs) with
 | .ret k d [y]=>∀v H' (fp:ao),Sub (hid (λb=>b∈f0) H) H'->fp.Nodup->(∀b∈fp,hid (λb=>b∈f0) H b=none)->Own W (hid (λb=>N b\/b∈fp) H') H' y.1 v0 y.2 fp->(d=.non->v=.non)->Q v H'
 | .exc c fs _=>∀e H',ExcR W (hid (λb=>b∈f0) H) N H' c fs e->E (.ref e) none H'
 | _=>False
def gU (W:Wd)(G:Pg)(n f:Nat)(F:Fn):Sp:=λvs H Q E=>(F.io=[]/\F0 W G n f vs H Q E)\/(F.io=[0]/\yQ W G n f vs H Q E)
def wV {G:Pg}{n f:Nat}{xs:ax}{F:Fn}(hF:G.fn f=some F)(h:Ip.run G n f xs≠.bad):xs.length=F.np:=by
 cases n with
 | zero=>exact absurd rfl h
 | succ n=>
  rw[Ip.run,hF] at h;by_cases e:xs.length=F.np
  .exact e
  .simp only[if_neg e] at h; exact absurd rfl h
def qH {W:Wd}{G:Pg}{n f:Nat}{F:Fn}(hF:G.fn f=some F){vs:aw}{H:Hp}{Q:VK}{E:XK}(h:gU W G n f F vs H Q E):vs.length=F.np:=by
 rcases h with ⟨_,N,xs,_,d,q⟩ | ⟨_,N,x0,xs,v0,ws,f0,rfl,_,_,_,_,d,q⟩
 .have:=wV (xs:=xs) hF (λz=>by rw[z] at q; exact q);rw[d.length,GA]; exact this
 .have:=wV (xs:=x0::xs) hF (λz=>by rw[z] at q; exact q);rw[List.length_cons,d.length,GA]; simpa using this
section
variable {X:Cx}{W:Wd}{G:Pg}{n:Nat}{E:St->XK}{σ:St}{H:Hp}{Q:VK}
def lM {irs:aG}{cl:Nat->ax->Ip.Run}{Q:aw->Hp->Prop}{N:Addr->Prop}{a:Sl}(hN:NOk N H)(hS:RelS W (hid N H) a σ)
  (ok:∀xs,evals G cl a irs=.ok xs->∀vs H1,Sub H H1->Dens W (hid N H1) vs (xs.map (·.2))->Q vs H1)
  (ex:∀c fs,evals G cl a irs=.exc c fs->∀e H',ExcR W H N H' c fs e->E σ (.ref e) none H')(nb:evals G cl a irs≠.bad):ci W G cl irs E σ H Q:=by
 refine⟨N,a,hN,hS,?_⟩;cases q:evals G cl a irs with
 | bad=>exact absurd q nb
 | exc c fs=>exact ex c fs q
 | ok xs=>exact λvs H1 r=>ok xs q vs H1 r.1 (r.dens hN)
noncomputable def cV (F:Fn)(m:Nat):ay:=F.dfl.drop (F.dfl.length - (F.np - m))
theorem B6 (F:Fn)(xs:ax):Ip.fill F xs=xs++(cV F xs.length).map λd=>(99,d):=rfl
def qy (F:Fn)(xs:ax):(Ip.fill F xs).map (·.2)=xs.map (·.2)++cV F xs.length:=by
 rw[B6,Ir,HZ];congr 1
 exact List.map_id _
def jz {cl:Nat->ax->Ip.Run}{a:Sl}{irs:aG}{xs:ax}(h:evals G cl a irs=.ok xs):xs.length=irs.length:=qY.evals_length h
def wN {f k:Nat}{F:Fn}(h:dM G f k=some F):G.fn f=some F/\F.io=[]/\k<=F.np/\F.np - k<=F.dfl.length:=by
 unfold dM at h;cases q:G.fn f with
 | none=>rw[q] at h; cases h
 | some F'=>
  rw[q] at h;simp only at h;by_cases c:F'.io=[]/\k<=F'.np/\F'.np - k<=F'.dfl.length
  .rw[if_pos c] at h; cases h; exact⟨rfl,c⟩
  .rw[if_neg c] at h; cases h
def um {m k f:Nat}{d:D}{F:Fn}(h:cj G m k d=some (f,F)):∃c fs Cl',d=.ins c fs/\G.cl c=some Cl'/\Cl'.meths.lookup m=some f/\G.fn f=some F/\F.io=[]/\fs.lookup m=none/\k+1<=F.np/\F.np - (k+1)<=F.dfl.length:=by
 cases d <;> first | exact (bY h).elim | simp only[cj] at h
 rename_i c fs;cases q1:G.cl c with
 | none=>rw[q1] at h; cases h
 | some Cl'=>
  rw[q1] at h;simp only at h;cases q2:Cl'.meths.lookup m with
  | none=>rw[q2] at h; cases h
  | some f'=>
   rw[q2] at h;simp only at h;cases q3:G.fn f' with
   | none=>rw[q3] at h; cases h
   | some F'=>
    rw[q3] at h;simp only at h;by_cases c1:F'.io=[]/\fs.lookup m=none/\k+1<=F'.np/\F'.np - (k+1)<=F'.dfl.length
    .rw[if_pos c1] at h;cases h;exact⟨c,fs,Cl',rfl,q1,q2,q3,c1⟩
    .rw[if_neg c1] at h; cases h
def vC {f:Nat}{F:Fn}{es:aG}{dvs:aw}(hF:dM G f es.length=some F)(hd:∀S,Dens W S dvs (cV F es.length))(h:bm W G (Ip.run G n) (.call f es) E σ H Q):gC (gU W G n f F) dvs E (ci W G (Ip.run G n) es E) σ H Q:=by
 obtain⟨N,a,hN,hS,h⟩:=h;obtain⟨_,hio,_⟩:=wN hF;rw[lG,hF] at h;simp only[Ip.R.bind] at h;unfold gC;refine lM hN hS (λxs ex vs H1 hs dv=>?_) (λc fs ee=>?_) λee=>?_
 .rw[ex] at h;simp only at h;refine .inl ⟨hio,N,Ip.fill F xs,hN.mono hs,?_,?_⟩
  .rw[qy,jz ex];exact dv.append (hd _)
  .cases q:Ip.run G n f (Ip.fill F xs) with
   | bad=>rw[q] at h; exact h
   | ret k d outs=>
    rw[q] at h;cases outs with
    | nil=>exact λv H' r=>h v H' (r.trans hs)
    | cons _ _=>exact h
   | exc c fs outs=>
    rw[q] at h;cases outs with
    | nil=>exact λe H' r=>h e H' (r.of_sub hs)
    | cons _ _=>exact h
 .rw[ee] at h; exact h
 .rw[ee] at h; exact h
theorem F8 {m f c:Nat}{C:Addr}{nm:Str}{F:Fn}{io:Ex}{es:aG}{dvs:aw}(nd:W.att.Nodup)(hnm:W.att[m]? = some nm)(hC:W.iA c=some C)(hd:∀S,Dens W S dvs (cV F (es.length+1)))
  {N:Addr->Prop}{a:Sl}{k:Nat}{fs0:List aK}(hN:NOk N H)(hS:RelS W (hid N H) a σ)(ho:Ip.eval G (Ip.run G n) a io=.ok (k,.ins c fs0))(hm:cj G m es.length (.ins c fs0)=some (f,F))
  (h:match Ip.eval G (Ip.run G n) a (.meth m io es) with
   | .ok x=>∀v H',Res W H N H' x v->Q v H'
   | .exc c fs=>∀e H',ExcR W H N H' c fs e->E σ (.ref e) none H'
   | .bad=>False):fJ C nm (gU W G n f F) dvs E (bm W G (Ip.run G n) io E) (ci W G (Ip.run G n) es E) σ H Q:=by
 obtain⟨_,_,_,e0,_,_,_,hio,hfl,_⟩:=um hm;cases e0;rw[jY,ho] at h;simp only[Ip.R.bind,hm,Ip.R.of] at h;unfold fJ;refine⟨N,a,hN,hS,?_⟩;rw[ho];intro v H1 r;have dv:=r.den hN;have hs:=r.1;cases dv with | @ins b C' dx _ fs ds hb hc' hf=>?_
 rw[hC] at hc';cases hc';have hb1:=bg.mp hb;refine⟨b,dx,fs,rfl,hb1.2,(hf.lookup nd hnm).2 hfl,?_⟩;refine lM (hN.mono hs) (hS.grow hs) (λxs ex vs H2 hs2 dv2=>?_) (λc fs ee e H' r=>?_) λee=>?_
 .rw[ex] at h;simp only at h;refine .inl ⟨hio,N,Ip.fill F ((k,.ins c fs0)::xs),hN.mono (hs.trans hs2),?_,?_⟩
  .rw[qy,List.length_cons,jz ex];exact (Dens.cons ((Den.ins hb hC hf).mono (lE hs2)) dv2).append (hd _)
  .cases q2:Ip.run G n f (Ip.fill F ((k,.ins c fs0)::xs)) with
   | bad=>rw[q2] at h; exact h
   | ret k d outs=>
    rw[q2] at h;cases outs with
    | nil=>exact λv H' r=>h v H' (r.trans (hs.trans hs2))
    | cons _ _=>exact h
   | exc c fs outs=>
    rw[q2] at h;cases outs with
    | nil=>exact λe H' r=>h e H' (r.of_sub (hs.trans hs2))
    | cons _ _=>exact h
 .rw[ee] at h;exact h e H' (r.of_sub hs)
 .rw[ee] at h; exact h
end
structure InsC (K:bo)(C:Addr):Prop where
 cls:Cls K C
 ha:PySem.W.findIn K (.ref C) "__class__" = some (some (.builtin "object.__class__"))
 hn:PySem.W.specialIn K (.builtin "object.__class__") "__get__" = some (some (.builtin "getset_descriptor.__get__"))
 htk:PySem.W.takesIn K (.builtin "object.__class__")=some true
 hm:PySem.W.mroIn K C (.type "object")=some true
structure ExcC (K:bo)(C:Addr):Prop where
 xc:∃fI tl,XC K C fI tl
 xi:XI K C
structure CF (W:Wd)(fl:ak):Prop where
 nd:W.att.Nodup
 ins:∀c C,W.iA c=some C->InsC W.K C/\∀f n,f∈fl->W.att[f]? = some n->NoAttr W.K C n
 exc:∀c C,W.xA c=some C->ExcC W.K C/\∀f n,f∈fl->W.att[f]? = some n->NoAttr W.K C n
section
variable {X:Cx}{W:Wd}{G:Pg}{cl:Nat->ax->Ip.Run}{E:St->XK}{fl:ak}
def PE.or {e:Expr}{t t':TE}(h:PE X e t)(h':PE X e t'):PE X e (λσ H Q=>t σ H Q\/t' σ H Q):=λpins s σ H Q I q=>q.elim (h pins s σ H Q I) (h' pins s σ H Q I)
def zR {o:Expr}{io:Ex}{k:Nat}{n:Str}{pos:Pos}(hK:W.K=X.K)(cf:CF W fl)(hk:k∈fl)(hn:W.att[k]? = some n)(ho:PE X o (bm W G cl io E))(hb:attributeBase o n X.env (PySem.eval o X.env)=PySem.eval o X.env):PE X (.Attribute o n pos) (bm W G cl (.op (.fld k) [io]) E):=by
 refine ((BA ho hb).or (z8 ho hb)).mono λσ H Q hZz=>?_;obtain⟨N,a,hN,hS,q⟩:=hZz;rw[cR,bL,dk] at q;cases e1:Ip.eval G cl a io with
 | bad=>rw[e1] at q; exact q.elim
 | exc c fs=>
  rw[e1] at q;refine .inl ⟨N,a,hN,hS,?_⟩;rw[e1]; exact q
 | ok x=>
  obtain⟨kx,d⟩:=x;rw[e1] at q;simp only[Ip.R.bind,Ip.Fg,cq] at q;cases d <;> simp only[Ip.gi] at q <;> try (exact q.elim)
  .rename_i c fs;cases e2:fs.lookup k with
   | none=>rw[e2] at q; exact q.elim
   | some d=>
    rw[e2] at q;refine .inl ⟨N,a,hN,hS,?_⟩;rw[e1];intro v H1 r;have dv:=r.den hN;cases dv with | @ins b C dx _ vs ds hb hc hf=>?_
    obtain⟨w,l1,dw⟩:=(hf.lookup cf.nd hn).1 d e2;obtain⟨ic,na⟩:=cf.ins c C hc;exact⟨b,C,dx,vs,w,rfl,(bg.mp hb).2,hK ▸ ic.cls,hK ▸ na k n hk hn,l1,q _ _ (Res.of_den r.1 dw)⟩
  .rename_i c fs;cases e2:fs.lookup k with
   | none=>rw[e2] at q; exact q.elim
   | some d=>
    rw[e2] at q;refine .inr ⟨N,a,hN,hS,?_⟩;rw[e1];intro v H1 r;have dv:=r.den hN;cases dv with | @exc b C nw _ vs ds hb hc hf=>?_
    obtain⟨w,l1,dw⟩:=(hf.lookup cf.nd hn).1 d e2;obtain⟨ic,na⟩:=cf.exc c C hc;obtain⟨fI,tl,T⟩:=ic.xc;exact⟨b,C,fI,tl,nw,vs,w,rfl,(bg.mp hb).2,hK ▸ T,hK ▸ na k n hk hn,l1,q _ _ (Res.of_den r.1 dw)⟩
noncomputable def iu (W:Wd):D->aB
 | .non=>some (.type "NoneType")
 | .bl _=>some (.type "bool")
 | .int _=>some (.type "int")
 | .str _=>some (.type "str")
 | .lst _=>some (.type "list")
 | .tup _=>some (.type "tuple")
 | .ins c _=>(W.iA c).map .ref
 | .exc c _=>(W.xA c).map .ref
def CY {pins:ah}{σ:St}{H:Hp}{s:Shared}{A:Around}{E:Value->Shared->Prop}{Q:Value->Shared->Prop}{c:Value}{b:Bool}{x:V}{u t:Value}{d:D}(hK:W.K=X.K)(cf:CF W fl)(I:Inv X pins σ H s)(rx:RelV x u)(hd:Den W H x d)(ht:iu W d=some t)
  (e:PySem.W.kitOne X.K t c=some b)(h:∀tk,Q (.bool b) { s with toks:=tk }):wpAny (model X.prog X.w) A (call (.builtin "isinstance") [u,c]) Q E s:=by
 cases hd with
 | non=>cases ht; exact jH I rx .non e h
 | bl=>cases ht; exact jH I rx (.bl _) e h
 | int=>cases ht; exact jH I rx (.int _) e h
 | str=>cases ht; exact jH I rx (.str _) e h
 | lst h1 h2=>
  cases ht;rcases h1 with h1 | ⟨o,h1⟩
  .exact jH I rx (.lst h1) e h
  .exact jH I rx (.frz h1) e h
 | @tup a vs ds h1 h2=>
  cases ht;cases (show u=Value.ref a from rx);obtain⟨its,_,⟨o,g1,g2,_⟩,_⟩:=I.tuple (hK ▸ h1);exact G7 JG I.kIn ⟨o,g1,g2⟩ e (λz=>nomatch z) h
 | ins h1 hc _=>
  rw[iu,hc] at ht;cases ht;obtain⟨ic,_⟩:=cf.ins _ _ hc;exact jH I rx (.ins h1 (hK ▸ ic.cls) (hK ▸ ic.ha) (hK ▸ ic.hn) (hK ▸ ic.htk) (hK ▸ ic.hm)) e h
 | exc h1 hc _=>
  rw[iu,hc] at ht;cases ht;obtain⟨ic,_⟩:=cf.exc _ _ hc;obtain⟨fI,tl,T⟩:=ic.xc;exact Fs I rx (.exc h1 (hK ▸ T) (hK ▸ ic.xi)) e h
def cu (W:Wd)(G:Pg)(t:Ip.Ty)(cv:Value):Prop:=∀d tv,iu W d=some tv->PySem.W.kitOne W.K tv cv=some (bh G d t)
def Den.ty {S:Hp}{v:V}{d:D}(h:Den W S v d):∃t,iu W d=some t:=by
 cases h with
 | ins _ hc _=>exact⟨_,by rw[iu,hc]; rfl⟩
 | exc _ hc _=>exact⟨_,by rw[iu,hc]; rfl⟩
 | _=>exact⟨_,rfl⟩
def B9 {a b:Expr}{ia:Ex}{t:Ip.Ty}{c:V}{cv:Value}{p pos:Pos}(hK:W.K=X.K)(cf:CF W fl)(hc:valOf c=some cv)(hi:cu W G t cv)(hg:Gl X "isinstance")(hm:X.mg "isinstance" = none)(hv:bootBuiltins "isinstance" = some (.builtin "isinstance"))
  (ha:PE X a (bm W G cl ia E))(hb:PE X b (tC c))(hs1:starEach [a,b] X.env=(false,PySem.eval a X.env)::starEach [b] X.env)(hs2:starEach [b] X.env=(false,PySem.eval b X.env)::starEach [] X.env) :
  PE X (.Call (.Name "isinstance" p) [a,b] [] pos) (bm W G cl (.op (.isi [t]) [ia]) E):=by
 have rule:CallR X (.builtin "isinstance") (λxs H Q=>∃N x d,NOk N H/\xs=[x,c]/\Den W (hid N H) x d/\Q (.bl ([t].any (bh G d))) H):=by
  rintro pins s σ H xs us Q I r ⟨N,x,d,hN,e,hd,q⟩;have e1:[t].any (bh G d)=bh G d t:=by simp
  rw[e1] at q;subst e;obtain⟨u,v,rfl,ru,rv⟩:=vals2 r;have ev:v=cv:=by
   cases c with
   | ref a=>cases hc; exact rv
   | ty n=>cases hc; exact rv
   | _=>cases hc
  subst ev;obtain⟨tv,et⟩:=hd.ty;exact CY hK cf I ru (hd.mono bS) et (hK ▸ hi d tv et) λtk=>⟨.bl _,H,I.tok _,rfl,q⟩
 refine (pB rule hg hm hv (hV ha (hV hb jx hs2) hs1) (by decide) (by decide) hs1 (by rw[hs2]; rfl)).mono λσ H Q hZz=>?_;obtain⟨N,as,hN,hS,q⟩:=hZz;rw[cR,bL,dk] at q;refine⟨N,as,hN,hS,?_⟩;cases e1:Ip.eval G cl as ia with
 | bad=>rw[e1] at q; exact q.elim
 | exc c fs=>rw[e1] at q; exact q
 | ok x=>
  obtain⟨kx,d⟩:=x;rw[e1] at q;intro v H1 r;exact⟨N,v,d,hN.mono r.1,rfl,r.den hN,q _ _ (Res.of_flat r.1 rfl .bl)⟩
def EH {pins:ah}{σ:St}{H:Hp}{s:Shared}{x:V}{u t:Value}{d:D}(hK:W.K=X.K)(cf:CF W fl)(I:Inv X pins σ H s)(rx:RelV x u)(hd:Den W H x d)(ht:iu W d=some t) :
  ∃P:Heap->Prop,PySem.W.KitX X.K u t P/\P s.heap/\u≠.builtin "__main__.__loader__#opaque":=by
 cases hd with
 | non=>cases ht; cases (show u=Value.none from rx); exact⟨_,PySem.W.kitx_none,trivial,λz=>nomatch z⟩
 | @bl y=>cases ht; cases (show u=Value.bool y from rx); exact⟨_,PySem.W.kitx_bool,trivial,λz=>nomatch z⟩
 | @int i=>cases ht; obtain⟨t,q⟩:=(show ∃t,u=Value.int i t from rx); cases q; exact⟨_,PySem.W.kitx_int,trivial,λz=>nomatch z⟩
 | @str y=>cases ht; obtain⟨t,q⟩:=(show ∃t,u=Value.str y t from rx); cases q; exact⟨_,PySem.W.kitx_str,trivial,λz=>nomatch z⟩
 | @lst a vs ds h1 h2=>
  cases ht;cases (show u=Value.ref a from rx);obtain⟨_,its,n,_,_,eo⟩:=I.rdL h1;exact⟨_,JQ,⟨_,eo,rfl⟩,λz=>nomatch z⟩
 | @tup a vs ds h1 h2=>
  cases ht;cases (show u=Value.ref a from rx);obtain⟨its,_,⟨o,g1,g2,_⟩,_⟩:=I.tuple (hK ▸ h1);exact⟨_,JG,⟨o,g1,g2⟩,λz=>nomatch z⟩
 | @ins a C dx c vs ds h1 hc _=>
  rw[iu,hc] at ht;cases ht;cases (show u=Value.ref a from rx);obtain⟨ic,_⟩:=cf.ins _ _ hc;obtain⟨mA,O,_⟩:=nD I.hok h1;obtain⟨od,J,_⟩:=O.look;exact⟨_,PySem.W.kitx_own ((hK ▸ ic.cls:Cls X.K C).get _) (hK ▸ ic.cls:Cls X.K C).hd (hK ▸ ic.ha) (hK ▸ ic.hn) (hK ▸ ic.htk) (hK ▸ ic.hm),J,λz=>nomatch z⟩
 | @exc a C nw c vs ds h1 hc _=>
  rw[iu,hc] at ht;cases ht;cases (show u=Value.ref a from rx);obtain⟨ic,_⟩:=cf.exc _ _ hc;obtain⟨fI,tl,T⟩:=ic.xc;obtain⟨mA,J,_,_⟩:=I.inst h1;exact⟨_,uH (hK ▸ T) (hK ▸ ic.xi),oq J,λz=>nomatch z⟩
inductive Isis (X:Cx) (W:Wd) (G:Pg):av->List Ip.Ty->aw->ar->Prop
 | nil:Isis X W G [] [] [] []
 | cons {e:Expr} {es:av} {t:Ip.Ty} {ts:List Ip.Ty} {c:V} {cs:aw} {cv:Value} {cvs:ar} (he:PE X e (tC c)) (hs:∀es,starEach (e::es) X.env=(false,PySem.eval e X.env)::starEach es X.env) (hc:valOf c=some cv) (hi:cu W G t cv) (r:Isis X W G es ts cs cvs):Isis X W G (e::es) (t::ts) (c::cs) (cv::cvs)
def Gg (cs:aw):TA:=λ_ H Q=>Q cs H
def Isis.pa {es:av}{ts:List Ip.Ty}{cs:aw}{cvs:ar}(h:Isis X W G es ts cs cvs):PA X es (Gg cs):=by
 induction h with
 | nil=>exact jx
 | cons he hs hc hi r ih=>exact hV he ih (hs _)
theorem Isis.any {es:av}{ts:List Ip.Ty}{cs:aw}{cvs:ar}{d:D}{t:Value}(h:Isis X W G es ts cs cvs)(ht:iu W d=some t):PySem.W.kitAny W.K t cvs=some (ts.any (bh G d)):=by
 induction h with
 | nil=>rfl
 | @cons e es t' ts c cs cv cvs he hs hc hi r ih=>
  unfold PySem.W.kitAny;rw[hi d t ht,List.any_cons];cases bh G d t' with
  | true=>rfl
  | false=>exact ih
def Isis.vals {es:av}{ts:List Ip.Ty}{cs:aw}{cvs its:ar}(h:Isis X W G es ts cs cvs)(r:Vals cs its):its=cvs:=by
 induction h generalizing its with
 | nil=>cases r; rfl
 | @cons e es t' ts c cs cv cvs he hs hc hi q ih=>
  cases r with
  | cons r1 r2=>
   rw[ih r2];congr 1
   cases c with
   | ref a=>cases hc; exact r1
   | ty n=>cases hc; exact r1
   | _=>cases hc
def Isis.len {es:av}{ts:List Ip.Ty}{cs:aw}{cvs:ar}(h:Isis X W G es ts cs cvs):cs.length=es.length:=by
 induction h with
 | nil=>rfl
 | cons _ _ _ _ _ ih=>simp[ih]
def Di {a:Expr}{es:av}{ia:Ex}{ts:List Ip.Ty}{cs:aw}{cvs:ar}{p pos tp:Pos}{kt:Nat}(hK:W.K=X.K)(cf:CF W fl)(hl:es.length<=1000)(hi:Isis X W G es ts cs cvs)(hg:Gl X "isinstance")(hm:X.mg "isinstance" = none)(hv:bootBuiltins "isinstance" = some (.builtin "isinstance"))
  (ha:PE X a (bm W G cl ia E))(hs1:starEach [a,.Tuple es kt tp] X.env=(false,PySem.eval a X.env)::starEach [.Tuple es kt tp] X.env)(hs2:starEach [.Tuple es kt tp] X.env=(false,PySem.eval (.Tuple es kt tp) X.env)::starEach [] X.env) :
  PE X (.Call (.Name "isinstance" p) [a,.Tuple es kt tp] [] pos) (bm W G cl (.op (.isi ts) [ia]) E):=by
 have rule:CallR X (.builtin "isinstance") (λxs H Q=>∃N x d q,NOk N H/\xs=[x,.ref q]/\H q=some (.tup cs)/\Den W (hid N H) x d/\Q (.bl (ts.any (bh G d))) H):=by
  rintro pins s σ H xs us Q I r ⟨N,x,d,q,hN,e,hq,hd,k⟩;subst e;obtain⟨u,v,rfl,ru,rv⟩:=vals2 r;cases (show v=Value.ref q from rv);obtain⟨tv,et⟩:=hd.ty;obtain⟨P,Z,hp,hne⟩:=EH hK cf I ru (hd.mono bS) et;obtain⟨_,its,rI,⟨o,g1,g2,⟨n,g3⟩,_⟩⟩:=(show ObjOk X.prog X.w H s.heap q (.tup cs) from I.hok q _ hq)
  have ei:=hi.vals rI;subst ei;have eo:o=⟨.type "tuple",o.dict,.seq its.toArray n,o.slots⟩:=by
   cases o;simp only at g2 g3;rw[g2,g3]
  exact PySem.W.kia_tup Z I.kIn hp (by rw[g1,eo]) (hK ▸ hi.any et) hne λtk=>⟨.bl _,H,I.tok _,rfl,k⟩
 refine (pB rule hg hm hv (hV ha (hV (wK hi.pa) jx hs2) hs1) (by decide) (by decide) hs1 (by rw[hs2]; rfl)).mono λσ H Q hZz=>?_;obtain⟨N,as,hN,hS,q⟩:=hZz;rw[cR,evals,evals] at q;refine⟨N,as,hN,hS,?_⟩;cases e1:Ip.eval G cl as ia with
 | bad=>rw[e1] at q; exact q.elim
 | exc c fs=>rw[e1] at q; exact q
 | ok x=>
  obtain⟨kx,d⟩:=x;rw[e1] at q;intro v H1 r;refine⟨by rw[hi.len]; exact ce hl (by decide),λp hp=>?_⟩;exact⟨N,v,d,p,(hN.mono r.1).mono (Sub.upd hp),rfl,cm,(r.den hN).mono (gN (Sub.upd hp) λ_ z=>.inl z),q _ _ (Res.of_flat (r.1.trans (Sub.upd hp)) rfl .bl)⟩
end
section
variable {X:Cx}{W:Wd}{G:Pg}{n:Nat}{E:St->XK}{σ:St}{H:Hp}{Q:VK}
def pX {c k f:Nat}{F:Fn}{d:D}(h:bV G c k=some (f,F,d)):∃Cl',G.cl c=some Cl'/\Cl'.init=some f/\G.fn f=some F/\(d=if Cl'.isx=true then .exc c [] else .ins c [])/\F.io=[0]/\k+1<=F.np/\F.np - (k+1)<=F.dfl.length/\k<=50:=by
 unfold bV at h;cases q1:G.cl c with
 | none=>rw[q1] at h; cases h
 | some Cl'=>
  rw[q1] at h;simp only at h;cases q2:Cl'.init with
  | none=>rw[q2] at h; cases h
  | some f'=>
   rw[q2] at h;simp only at h;cases q3:G.fn f' with
   | none=>rw[q3] at h; cases h
   | some F'=>
    rw[q3] at h;simp only at h;by_cases c1:F'.io=[0]/\k+1<=F'.np/\F'.np - (k+1)<=F'.dfl.length/\k<=50
    .rw[if_pos c1] at h;cases h;exact⟨Cl',rfl,q2,q3,rfl,c1⟩
    .rw[if_neg c1] at h; cases h
theorem wC {f:Nat}{F:Fn}{dvs:aw}{xs:ax}{vs:aw}{N:Addr->Prop}{H1 H2:Hp}{x:Addr}{d0:D}(hio:F.io=[0])(hnp:xs.length+1<=F.np)
  (hd:∀S,Dens W S dvs (cV F (xs.length+1)))(hN:NOk N H1)(hs:Sub H H1)(dv:Dens W (hid N H1) vs (xs.map (·.2)))(hx:H1 x=none)(h12:∀b,b≠x->∀o,H1 b=some o->H2 b=some o)(h21:∀b,H2 b=none->H1 b=none)
  (ho:Own W (hid (λb=>N b\/b∈[x]) H2) H2 1 (.ref x) d0 [x])
  (h:match Ip.gH (Ip.run G n) (f,F,d0) xs with
   | .ok y=>∀v H',Res W H N H' y v->Q v H'
   | .exc c fs=>∀e H',ExcR W H N H' c fs e->E σ (.ref e) none H'
   | .bad=>False):gU W G n f F (.ref x::(vs++dvs)) H2 (λv H2=>v=.non/\Q (.ref x) H2) (E σ):=by
 simp only[Ip.gH] at h;have hN2:NOk N H2:=λb z q=>hN b z (h21 b q);have hxN:¬N x:=λz=>hN x z hx;have s1:Sub H1 (hid (λb=>b∈[x]) H2):=λb o e=>bg.mpr ⟨(λz=>by rw[Gx.mp z,hx] at e; cases e),h12 b (λz=>by rw[z,hx] at e; cases e) o e⟩;have none1:∀b,hid (λb=>b∈[x]) H2 b=none->H1 b=none:=λb z=>s1.none z;refine .inr ⟨hio,N,(1,d0),Ip.fill { F with np:=F.np - 1 } xs,.ref x,vs++dvs,[x],rfl,hN2,by simp,λb hb=>by rw[Gx.mp hb]; exact hxN,ho,?_,?_⟩
 .have e:(Ip.fill { F with np:=F.np - 1 } xs).map (·.2)=xs.map (·.2)++cV F (xs.length+1):=by
   rw[qy];congr 1
   unfold cV;show F.dfl.drop (F.dfl.length - (F.np - 1 - xs.length))=_;congr 2
   omega
  rw[e];refine (dv.mono λb o eb=>?_).append (hd _);obtain⟨g1,g2⟩:=bg.mp eb;have bx:b≠x:=λz=>by rw[z,hx] at g2; cases g2
  exact bg.mpr ⟨λz=>z.elim g1 λy=>bx (Gx.mp y),h12 b bx o g2⟩
 .cases q:Ip.run G n f ((1,d0)::Ip.fill { F with np:=F.np - 1 } xs) with
  | bad=>rw[q] at h; exact h
  | exc c fs outs=>
   rw[q] at h;rintro e H' ⟨g1,g2,C,ws,g3,g4,g5⟩;exact h e H' ⟨hs.trans (s1.trans g1),hs.none (none1 e g2),C,ws,g3,g4,g5⟩
  | ret k d outs=>
   rw[q] at h;cases d <;> try (exact h.elim)
   match outs,h with
   | [],h=>exact h.elim
   | _::_::_,h=>exact h.elim
   | [y],h=>
    intro v H' fp g1 nd hf ow hv;exact⟨hv rfl,h _ _ ⟨hs.trans (s1.trans g1),fp,nd,λb hb=>hs.none (none1 b (hf b hb)),ow⟩⟩
def vo {c f:Nat}{C:Addr}{F:Fn}{es:aG}{dvs:aw}(hC:W.iA c=some C)(hm:bV G c es.length=some (f,F,.ins c []))(hd:∀S,Dens W S dvs (cV F (es.length+1)))
  (h:bm W G (Ip.run G n) (.make c es) E σ H Q):gr C (gU W G n f F) dvs E (ci W G (Ip.run G n) es E) σ H Q:=by
 obtain⟨N,a,hN,hS,h⟩:=h;obtain⟨_,_,_,_,_,hio,hnp,_⟩:=pX hm;rw[lP,hm] at h;simp only[Ip.R.bind] at h;unfold gr;refine lM hN hS (λxs ex vs H1 hs dv=>?_) (λc fs ee=>?_) λee=>?_
 .rw[ex] at h;intro x dx h1 h2 hne;have hN1:=hN.mono hs;refine wC (d0:=.ins c []) hio (by rw[jz ex]; exact hnp) (by rw[jz ex]; exact hd) hN1 hs dv h1 (λb nb o e=>?_) (λb e=>?_) ⟨x,C,dx,[],[],rfl,cm,hC,.nil,rfl⟩ h
  .rw[bP nb,bP λz=>by rw[z,h2] at e; cases e]; exact e
  .by_cases z:b=x
   .rw[z,cm] at e; cases e
   .rw[bP z] at e;by_cases y:b=dx
    .rw[y,cm] at e; cases e
    .rw[bP y] at e; exact e
 .rw[ee] at h; exact h
 .rw[ee] at h; exact h
def sV {c f:Nat}{C:Addr}{F:Fn}{es:aG}{dvs:aw}(hC:W.xA c=some C)(hm:bV G c es.length=some (f,F,.exc c []))(hd:∀S,Dens W S dvs (cV F (es.length+1)))
  (h:bm W G (Ip.run G n) (.make c es) E σ H Q):eY C (gU W G n f F) dvs E (ci W G (Ip.run G n) es E) σ H Q:=by
 obtain⟨N,a,hN,hS,h⟩:=h;obtain⟨_,_,_,_,_,hio,hnp,_,h50⟩:=pX hm;rw[lP,hm] at h;simp only[Ip.R.bind] at h;unfold eY;refine lM hN hS (λxs ex vs H1 hs dv=>?_) (λc fs ee=>?_) λee=>?_
 .rw[ex] at h;refine⟨by rw[dv.length,GA,jz ex]; omega,λx h1=>?_⟩;have hN1:=hN.mono hs;refine wC (d0:=.exc c []) hio (by rw[jz ex]; exact hnp) (by rw[jz ex]; exact hd) hN1 hs dv h1 (λb nb o e=>?_) (λb e=>?_) ⟨x,C,true,[],[],rfl,cm,⟨hC,rfl⟩,.nil,rfl⟩ h
  .rw[bP nb]; exact e
  .by_cases z:b=x
   .rw[z,cm] at e; cases e
   .rw[bP z] at e; exact e
 .rw[ee] at h; exact h
 .rw[ee] at h; exact h
end
def sm {o:Expr}{f:Str}{env:Env}{w:Sem Value}(h:fV o=true):attributeBase o f env w=w:=by
 unfold attributeBase;unfold fV at h;split
 .rename_i heq;simp at h
 .rfl
def ef {e:Expr}{es:av}(h:noStar (e::es)=true):(∀x p,e≠.Starred x p)/\noStar es=true:=by
 unfold noStar at h ⊢;rw[List.all_cons,tw] at h;refine⟨λx p z=>?_,h.2⟩;rw[z] at h;exact absurd (show false=true from h.1) (by decide)
def dq {e:Expr}{es:av}{env:Env}(h:∀x p,e≠.Starred x p):starEach (e::es) env=(false,PySem.eval e env)::starEach es env:=by
 rcases oA e es env with ⟨x,p,z⟩ | q
 .exact absurd z (h x p)
 .exact q
theorem me {pos:Pos}{env:Env}:∀{es:av},noStar es=true->(backTo pos (starEach es env)).any (·.1)=false
 | [],_=>rfl
 | e::es,h=>by
  obtain⟨h1,h2⟩:=ef h;rw[dq h1];show (false||(backTo pos (starEach es env)).any (·.1))=false;rw[me h2]; rfl
theorem oZ {pos:Pos}{env:Env}:∀{es:av},noStar es=true->(backTo pos (starEach es env)).all (λx=>!x.1)=true
 | [],_=>rfl
 | e::es,h=>by
  obtain⟨h1,h2⟩:=ef h;rw[dq h1];show (!false&&(backTo pos (starEach es env)).all (λx=>!x.1))=true;rw[oZ h2]; rfl
def uI {o:Expr}{m:Str}{ap cp:Pos}{args:av}{env:Env}(hs:fV o=true)(ns:noStar args=true)(hl:args.length<30)(hp:ap.endLine=cp.line) :
  PySem.eval (.Call (.Attribute o m ap) args [] cp) env=(do
   let ov <-PySem.eval o env
   standAt ap.atName
   let (f,first) <-holding [ov] (getMethod ov m (do return (<-importBound o env).getD true))
   callWith cp f first (backTo cp (starEach args env)) (backToKw cp (keywordEach [] env))):=by
 show (do
  let ov <-attributeBase o m env (PySem.eval o env)
  standAt ap.atName
  methodCall o m ap cp env ov (args.length+0) (backTo cp (starEach args env)) (backToKw cp (keywordEach [] env)))=_
 rw[sm hs];have few:methodCallForm (args.length+0) (backTo cp (starEach args env)) (backToKw cp (keywordEach [] env))=true:=by
  unfold methodCallForm;rw[oZ ns];show (true&&true&&decide (args.length+0+0<30))=true;rw[HP (by omega)]; rfl
 have hpos:methodCallPos true o env ap cp=pure cp:=by
  unfold methodCallPos;rw[if_pos (by rw[hp]; simp)]
 unfold methodCall;rw[few];unfold calleeOf;rw[hpos];rfl
noncomputable def rm (n:Nat):Nat:=3 * n+1
def FI (W:Wd)(G:Pg)(n:Nat)(P:Program)(w:World)(mg:Str->aB)(base:Heap)(k:Nat)(F:Fn)(a:Addr):Prop:=
 ∃(fd:FuncData) (ps:au),FnOk P w W.K mg base (dY P w) (rm n) a fd ps (gU W G n k F)/\∀m,m<=F.np->F.np - m<=F.dfl.length->∃(ds:ar) (dvs:aw),Binds W.K fd ps ds/\Vals dvs ds/\∀S,Dens W S dvs (cV F m)
noncomputable def fD:aj:=[("len",.builtin "len"),("all",.builtin "all"),("isinstance",.builtin "isinstance"),("list",.type "list"),("tuple",.type "tuple"),("range",.type "range"),("enumerate",.type "enumerate"),("zip",.type "zip"),("sorted",.builtin "sorted"),("set",.type "set")]
def bA (i:Nat){x:Str×Value}(h:fD[i]? = some x):x∈fD:=HC h
structure GF (W:Wd)(G:Pg)(T:Tb)(n:Nat)(P:Program)(w:World)(mg:Str->aB)(base:Heap):Prop where
 cf:CF W T.fl
 att:W.att=T.att
 blt:∀x v,(x,v)∈fD->mg x=none/\bootBuiltins x=some v
 cst:∀x d,T.cst.lookup x=some d->(x == ("__debug__" : Str))=false/\∃u v,mg x=some u/\RelV v u/\d.flat=true/\∀S,Den W S v d
 fns:∀x k,T.fns.lookup x=some k->(x == ("__debug__" : Str))=false/\∃F a,G.fn k=some F/\mg x=some (.ref a)/\PySem.W.keepIn W.K (.ref a)=true/\FI W G n P w mg base k F a
 cls:∀x c,T.cls.lookup x=some c->(x == ("__debug__" : Str))=false/\∃C,mg x=some (.ref C)/\∀Cl' f F,G.cl c=some Cl'->Cl'.init=some f->G.fn f=some F ->
  ∃a,FI W G n P w mg base f F a/\if Cl'.isx=true then W.xA c=some C/\PySem.W.keepIn W.K (.ref C)=true/\∃tl,XC W.K C (.ref a) tl else W.iA c=some C/\Mk W.K C a
 meth:∀c Cl' m f F,G.cl c=some Cl'->Cl'.meths.lookup m=some f->G.fn f=some F->∀nm,W.att[m]? = some nm->∃C a,W.iA c=some C/\Meth W.K C nm a/\FI W G n P w mg base f F a
 isB:∀x t,Ip.kO.lookup x=some t->mg x=none/\x ≠ "__name__" /\ (x == ("__debug__" : Str))=false/\∃nm,bootBuiltins x=some (.type nm)/\cu W G t (.type nm)
 isC:∀x c,T.cls.lookup x=some c->∃C,mg x=some (.ref C)/\cu W G (.cls c) (.ref C)
structure Gd (W:Wd)(G:Pg)(T:Tb)(n:Nat)(E:St->XK)(sc:Scope)(N:au)(X:Cx):Prop where
 gf:GF W G T n X.prog X.w X.mg X.base
 K:W.K=X.K
 vis:∀x,bb sc x=true->pF X.env.scope x
 loc:∀x,bG sc x=true->Loc X.env.scope x/\(X.fn x=true\/X.env.scope.names.lookup x=some .local)
 gl:∀x,bw sc x=true->Gl X x
 fr:∀x,(sc.names.lookup x=some .cell\/sc.names.lookup x=some .free)->(X.env.scope.names.lookup x=some .cell\/X.env.scope.names.lookup x=some .free)
 nm:X.N=N
 nd:N.Nodup
 calm:X.calm=true
 pass:bz (dY X.prog X.w) X E
 room:Room (rm n+1) X.A
def Ck {scope:Scope}{env:Env}{x:Str}{k:NameKind}(h:scope.names.lookup x=some k):(relabel scope env).names.lookup x=some k\/(k=.free/\(relabel scope env).names.lookup x=some .cell):=by
 have go:∀(g:Str×NameKind->Str×NameKind),(∀p,g p=p\/(p.2=.free/\g p=(p.1,.cell)))->∀(names:List (Str×NameKind)),names.lookup x=some k->(names.map g).lookup x=some k\/(k=.free/\(names.map g).lookup x=some .cell):=by
  intro g hg names;induction names with
  | nil=>intro h; exact nomatch h
  | cons p r ih=>
   intro h;rw[GB];obtain⟨n,kn⟩:=p;rw[List.lookup_cons] at h;rcases hg (n,kn) with e | ⟨e1,e2⟩
   .rw[e,List.lookup_cons];cases hx:x == n with
    | true=>rw[hx] at h; exact .inl h
    | false=>rw[hx] at h; exact ih h
   .rw[e2,List.lookup_cons];cases hx:x == n with
    | true=>
     rw[hx] at h;have e1':kn=.free:=e1;exact .inr ⟨by rw[<-Option.some.inj h]; exact e1',rfl⟩
    | false=>rw[hx] at h; exact ih h
 refine go _ (λp=>?_) scope.names h;obtain⟨n,k⟩:=p;by_cases hb:(k == NameKind.free&&env.scope.kind == .function&&env.kindOf n == some .cell)=true
 .refine .inr ⟨?_,if_pos hb⟩;simp only[tw,GC] at hb;exact hb.1.1
 .exact .inl (if_neg hb)
def Gd.block {W:Wd}{G:Pg}{T:Tb}{n:Nat}{E:St->XK}{sc:Scope}{N:au}{X:Cx}(g:Gd W G T n E sc N X){scope:Scope}(hb:dD sc N (aY scope) (bv N scope) scope=true)(cl:ai)(C:Addr)(s:Shared)(H:Hp)(fp:ao) :
  Gd W G T n (λ_ _ _ _=>False) scope (aY scope) (bB X (aY scope) scope cl C s H fp λ_ _=>False):=by
 have S:=CompS.of (show compOk sc N (aY scope) (bv N scope) scope=true from hb);have look:∀x k,scope.names.lookup x=some k->(relabel scope X.env).names.lookup x=some k\/(k=.free/\(relabel scope X.env).names.lookup x=some .cell):=λx k=>Ck;refine⟨g.gf,g.K,λx h=>?_,λx h=>?_,λx h=>?_,λx h=>?_,rfl,S.nd,g.calm,passN,g.room⟩
 .unfold bb at h;simp only[G8,GC] at h;rcases h with (h | h) | h
  .rcases look x _ h with q | ⟨q,_⟩
   .exact .inl q
   .cases q
  .rcases look x _ h with q | ⟨q,_⟩
   .exact .inr (.inl q)
   .cases q
  .rcases look x _ h with q | ⟨_,q⟩
   .exact .inr (.inr q)
   .exact .inr (.inl q)
 .unfold bG at h;simp only[G8,GC] at h;rcases h with h | h
  .rcases look x _ h with q | ⟨q,_⟩
   .exact⟨.inl q,.inr q⟩
   .cases q
  .rcases look x _ h with q | ⟨q,_⟩
   .exact⟨.inr q,.inl (by show (scope.names.lookup x == some NameKind.cell)=true; rw[h]; decide)⟩
   .cases q
 .unfold bw at h;simp only[GC] at h;rcases look x _ h with q | ⟨q,_⟩
  .exact q
  .cases q
 .rcases h with h | h
  .rcases look x _ h with q | ⟨q,_⟩
   .exact .inl q
   .cases q
  .rcases look x _ h with q | ⟨_,q⟩
   .exact .inr q
   .exact .inl q
theorem Gd.compOk {W:Wd}{G:Pg}{T:Tb}{n:Nat}{E:St->XK}{sc:Scope}{N:au}{X:Cx}(g:Gd W G T n E sc N X){scope:Scope}(hb:dD sc N (aY scope) (bv N scope) scope=true) :
  L2.compOk X.env.scope X.N (aY scope) (bv N scope) scope=true:=by
 rw[g.nm];unfold dD at hb;unfold L2.compOk;simp only[tw,List.all_eq_true] at hb ⊢;obtain⟨⟨⟨⟨h1,h2⟩,h3⟩,h4⟩,h5⟩:=hb;refine⟨⟨⟨⟨h1,λy hy=>?_⟩,h3⟩,h4⟩,h5⟩;obtain⟨⟨a1,a2⟩,a3⟩:=h2 y hy;refine⟨⟨a1,a2⟩,?_⟩;simp only[G8,bne_iff_ne,ne_eq,GC] at a3 ⊢;rcases a3 with a3 | a3
 .exact .inl a3
 .exact .inr (g.fr y.1 a3)
section
variable {X:Cx}{W:Wd}{G:Pg}{T:Tb}{n:Nat}{E:St->XK}{σ:St}{H:Hp}{sc:Scope}{N:au}
def qJ (d:D):(∃i,d=.int i)\/∀i,d≠.int i:=by
 cases d with
 | int i=>exact .inl ⟨i,rfl⟩
 | _=>exact .inr λi z=>by cases z
def t5 {cl:Nat->ax->Ip.Run}{o:Op}{x y:Ex}{Q:VK}{lo hi:Int->Option Int}(ho:∀u v:KD,bC G o [u,v]=match v.2 with | .int i=>bN (lo i) (hi i) u.2 | _=>none)(h:bm W G cl (.op o [x,y]) E σ H Q) :
  bm W G cl x E σ H λv H1=>bm W G cl y E σ H1 λw H2=>∃i,w=.int i/\kf W v (lo i) (hi i) H2 Q:=by
 obtain⟨N,a,hN,hS,h⟩:=h;refine fW hN hS (λu eu v H1 fp hs nd hf ow hN1 hS1=>?_) (λc fs ee=>?_) λee=>?_
 .refine fW hN1 hS1 (λu2 eu2 w H2 fq hs2 nd2 hf2 ow2 hN2 hS2=>?_) (λc fs ee e H' r=>?_) λee=>?_
  .simp only[cR,dk,bL,eu,eu2,Ip.R.bind,ho] at h;have dv:=ow.later hN hs2 hf λ_ y=>y;have dw:=ow2.later (hN.mono hs) (Sub.refl _) hf2 λ_ y=>.inl y;obtain⟨k2,d2⟩:=u2;rcases qJ d2 with ⟨i,rfl⟩ | ni
   .simp only at h;cases q:bN (lo i) (hi i) u.2 with
    | none=>rw[q] at h; exact h.elim
    | some z=>
     rw[q] at h;exact⟨i,dw.int_inv,N,u.2,z,hN.mono (hs.trans hs2),dv,q,λv H' r=>h v H' (r.trans (hs.trans hs2))⟩
   .cases d2 <;> first | exact h.elim | exact absurd rfl (ni _)
  .simp only[cR,bL,eu,ee,Ip.R.bind] at h;exact h e H' (r.trans hs λ_ y=>.inl y)
  .simp only[cR,bL,eu,ee,Ip.R.bind] at h
 .simp only[cR,bL,ee,Ip.R.bind] at h;exact h
 .simp only[cR,bL,ee,Ip.R.bind] at h
def zm {cl:Nat->ax->Ip.Run}{x y z:Ex}{Q:VK}(h:bm W G cl (.sl2 x y z) E σ H Q) :
  bm W G cl x E σ H λv H1=>bm W G cl y E σ H1 λw H2=>∃i,w=.int i/\bm W G cl z E σ H2 λu H3=>∃j,u=.int j/\kf W v (some i) (some j) H3 Q:=by
 obtain⟨N,a,hN,hS,h⟩:=h;rw[Ip.sK] at h;refine fW hN hS (λu eu v H1 fp hs nd hf ow hN1 hS1=>?_) (λc fs ee=>?_) λee=>?_
 .refine fW hN1 hS1 (λu2 eu2 w H2 fq hs2 nd2 hf2 ow2 hN2 hS2=>?_) (λc fs ee e H' r=>?_) λee=>?_
  .have dw:=ow2.later (hN.mono hs) (Sub.refl _) hf2 λ_ y=>.inl y;obtain⟨k2,d2⟩:=u2;simp only[eu,eu2,Ip.R.bind] at h;rcases qJ d2 with ⟨i,rfl⟩ | ni
   .refine⟨i,dw.int_inv,?_⟩;have hs3:=hs.trans hs2;simp only at h;refine fW (hN.mono hs3) (hS.grow hs3) (λu3 eu3 w3 H3 fr hs4 nd4 hf4 ow4 hN4 hS4=>?_) (λc fs ee e H' r=>?_) λee=>?_
    .have dv:=ow.later hN (hs2.trans hs4) hf λ_ y=>y;have dz:=ow4.later (hN.mono hs3) (Sub.refl _) hf4 λ_ y=>y;obtain⟨k3,d3⟩:=u3;simp only[eu3] at h;rcases qJ d3 with ⟨j,rfl⟩ | nj
     .simp only[Ip.kl] at h;cases q:bN (some i) (some j) u.2 with
      | none=>rw[q] at h; exact h.elim
      | some t=>
       rw[q] at h;exact⟨j,dz.int_inv,N,u.2,t,hN.mono (hs3.trans hs4),dv,q,λv H' r=>h v H' (r.trans (hs3.trans hs4))⟩
     .cases d3 <;> first | exact h.elim | exact absurd rfl (nj _)
    .simp only[ee] at h;exact h e H' (r.of_sub hs3)
    .simp only[ee] at h
   .cases d2 <;> first | exact h.elim | exact absurd rfl (ni _)
  .simp only[eu,ee,Ip.R.bind] at h;exact h e H' (r.trans hs λ_ y=>.inl y)
  .simp only[eu,ee,Ip.R.bind] at h
 .simp only[ee,Ip.R.bind] at h;exact h
 .simp only[ee,Ip.R.bind] at h
theorem Dens.find {S:Hp}{x:V}{d:D}(hx:Den W S x d)(sx:d.scal=true):∀{vs:aw} {ds:ay},Dens W S vs ds->ds.all D.scal=true->(vs.findIdx? λz=>L2.eqV z x)=d.find ds
 | _,_,.nil,_=>rfl
 | _,_,.cons h q,hs=>by
  rw[List.all_cons,tw] at hs;have e:=q.find hx sx hs.2;unfold D.find at e ⊢;rw[IV,IV,h.eqV hx hs.1 sx,e]
def yH {cl:Nat->ax->Ip.Run}{x y:Ex}{Q:VK}(nox:∀a c fs,Ip.eval G cl a y≠.exc c fs)(h:bm W G cl (.op .index [x,y]) E σ H Q):gY X.K "list" jP (bm W G cl x E) (ci W G cl [y] E) σ H Q:=by
 obtain⟨N,a,hN,hS,h⟩:=h;unfold gY;refine fW hN hS (λu eu v H1 fp hs nd hf ow hN1 hS1=>?_) (λc fs ee=>?_) λee=>?_
 .cases q:Ip.eval G cl a y with
  | bad=>simp only[cR,bL,eu,q,Ip.R.bind] at h
  | exc c fs=>exact absurd q (nox a c fs)
  | ok u2=>
   simp only[cR,dk,bL,eu,q,Ip.R.bind,Ip.C3,bK] at h;cases hz:Ip.dI u.2 u2.2 with
   | none=>rw[hz] at h; exact h.elim
   | some z=>
    rw[hz] at h;obtain⟨xs,ex⟩:=Ip.Fw hz;have dv:=ow.later hN (Sub.refl _) hf λ_ y=>y;rw[ex] at dv hz;cases dv with | @lst l ws _ h1 h2=>?_
    have sq:Rd H1 l (.lst ws):=Rd.sub bS h1;refine⟨.inl ⟨rfl,ws,.inl sq⟩,lM (hN.mono hs) (hS.grow hs) (λzs ez vs H2 hs2 dz=>?_) (λc fs ee=>?_) λee=>?_⟩
    .simp only[dk,bL,q,Ip.R.bind] at ez;cases ez;obtain⟨w,rfl,dw⟩:=Dens.one dz;rw[Ip.qg] at hz;split at hz
     .rename_i hp;rw[tw] at hp;have h2':=h2.mono (lE (N:=N) hs2);have fi:=Dens.find dw hp.1 h2' hp.2;cases hj:u2.2.find xs with
      | none=>rw[hj] at hz; cases hz
      | some j=>
       rw[hj] at hz;cases hz;exact⟨l,ws,w,j,rfl,rfl,Rd.sub hs2 sq,dw.flatV hp.1,h2'.flatV hp.2,fi.trans hj,h _ _ (Res.trans (hs.trans hs2) Res.int)⟩
     .cases hz
    .simp only[dk,bL,q,Ip.R.bind] at ee;cases ee
    .simp only[dk,bL,q,Ip.R.bind] at ee;cases ee
 .simp only[cR,bL,ee,Ip.R.bind] at h;exact h
 .simp only[cR,bL,ee,Ip.R.bind] at h
def n8 {cl:Nat->ax->Ip.Run}{o:Op}{x:Ex}{Q:VK}(h:bm W G cl (.op o [x]) E σ H Q):o6 (λvs=>rD W G o vs) (ci W G cl [x] E) σ H Q:=by
 obtain⟨N,a,hN,hS,h⟩:=h;rw[cR] at h;unfold o6;refine lM hN hS (λxs ex vs H1 hs dv=>?_) (λc fs ee=>?_) λee=>?_
 .rw[ex] at h;simp only[Ip.R.bind] at h;cases q:bC G o xs with
  | none=>rw[q] at h; exact h.elim
  | some z=>
   rw[q] at h;exact⟨N,xs,z,hN.mono hs,dv,q,λv H' r=>h v H' (r.trans hs)⟩
 .rw[ee] at h; exact h
 .rw[ee] at h; exact h
def sA (T:Tb)(sc:Scope)(N:au)(m:Nat)(x:Expr)(p:Pos):cE T sc N m (.Starred x p)=.bad:=by
 cases m <;> rfl
theorem vA {α:Type}{x:Str}{v:α}:∀{l:List (Str×α)},l.lookup x=some v->(x,v)∈l
 | [],h=>nomatch h
 | (y,j)::r,h=>by
  rw[List.lookup_cons] at h;cases e:x == y with
  | true=>
   rw[e] at h;rw[GC] at e;cases h;rw[e];exact bZ
  | false=>rw[e] at h; exact bQ _ (vA h)
theorem sZ (g:Gd W G T n E sc N X):∀{es:av} {is:ak},(es.mapM λ(e:Expr)=>match e with
  | .Name x _=>if bG sc x then pos? x N else none
  | _=>none)=some is->lY X es (jE is)/\(assignEach es X.env).length=is.length/\(assignEach es X.env).findIdx? (·.1)=none
 | [],is,h=>by
  cases h;exact⟨Gi,rfl,rfl⟩
 | e::es,is,h=>by
  rw[List.mapM_cons] at h;cases e with
  | Name x p=>
   by_cases hl:bG sc x=true
   .simp only[hl,if_true] at h;cases q:pos? x N with
    | none=>rw[q] at h; cases h
    | some i=>
     rw[q] at h;cases q2:(es.mapM λ(e:Expr)=>match e with
       | .Name x _=>if bG sc x then pos? x N else none
       | _=>none) with
     | none=>simp[q2] at h
     | some js=>
      simp[q2] at h;subst h;obtain⟨h1,h2,h3⟩:=sZ g q2;obtain⟨l1,l2⟩:=g.loc x hl;have hi:X.N[i]? = some x:=by rw[g.nm]; exact pos?_get q
      refine⟨AE (pM (by rw[g.nm]; exact g.nd) hi l1 l2) h1 rfl,?_,?_⟩
      .show (assignEach es X.env).length+1=js.length+1;rw[h2]
      .show List.findIdx? _ ((false,_)::assignEach es X.env)=none;rw[IV,h3];rfl
   .simp only[hl] at h;cases h
  | _=>cases h
def oh (g:Gd W G T n E sc N X){tg:Expr}{t:Tg}(h:c9 sc N tg=some t):PG X tg (gT X.K t):=by
 cases tg with
 | Name x p=>
  simp only[Ip.t6] at h;by_cases hl:bG sc x=true
  .rw[if_pos hl] at h;obtain⟨i,q,rfl⟩:=dO h;obtain⟨l1,l2⟩:=g.loc x hl;exact pM (by rw[g.nm]; exact g.nd) (by rw[g.nm]; exact pos?_get q) l1 l2
  .rw[if_neg hl] at h; cases h
 | Tuple es k p=>
  simp only[Ip.Ds] at h;obtain⟨is,q,rfl⟩:=dO h;obtain⟨h1,h2,h3⟩:=sZ g q;exact λpins s σ H v u Q I r hw=>hw.elim (EK g.calm h1 h2 h3 pins s σ H v u Q I r) (zi g.calm h1 h2 h3 pins s σ H v u Q I r)
 | _=>cases h
end
section
variable {W:Wd}{G:Pg}{T:Tb}{n:Nat}
structure IH (W:Wd)(G:Pg)(T:Tb)(n m:Nat):Prop where
 e:∀{E:St->XK} {sc:Scope} {N:au} {X:Cx},Gd W G T n E sc N X->∀x,PE X x (bm W G (Ip.run G n) (cE T sc N m x) E)
 t:∀{E:St->XK} {sc:Scope} {N:au} {X:Cx},Gd W G T n E sc N X->∀x,PT X x (cx W G (Ip.run G n) (cT T sc N m x) E)
 c:∀{E:St->XK} {sc:Scope} {N:au} {X:Cx},Gd W G T n E sc N X->∀a os bs p,PT X (.Compare a os bs p) (cx W G (Ip.run G n) (cE T sc N m (.Compare a os bs p)) E)
 i:∀{E:St->XK} {sc:Scope} {N:au} {X:Cx},Gd W G T n E sc N X->∀tg x,((cI T sc N m x).1=.enum\/(cI T sc N m x).1=.zip->∃es k p,tg=.Tuple es k p)->PI X tg x (gE W G (Ip.run G n) (cI T sc N m x).1 (cI T sc N m x).2 E)
 b:∀{E:St->XK} {sc:Scope} {N:au} {X:Cx},Gd W G T n E sc N X->∀f args p pos,bw sc f=true->PE X (.Call (.Name f p) args [] pos) (bm W G (Ip.run G n) (cB T sc N m f args) E)
variable {m:Nat}{E:St->XK}{sc:Scope}{N:au}{X:Cx}
def IH.args (ih:IH W G T n m)(g:Gd W G T n E sc N X)(es:av):PA X es (ci W G (Ip.run G n) (es.map (cE T sc N m)) E):=
 xG (λe _=>ih.e g e) λe _ x p h=>by rw[h]; exact sA T sc N m x p
theorem Gd.units (g:Gd W G T n E sc N X):X.A.units+64<cLine:=g.room.units
def jh {tg x:Expr}:PI X tg x (gE W G (Ip.run G n) .seq [.bad] E):=λpins s σ H R I ⟨_,_,_,_,q⟩=>by
 rw[bL,fG] at q;exact q.elim
def fR {x:Expr}:PT X x (cx W G (Ip.run G n) .bad E):=λpins s σ H R I ⟨_,_,_,_,q⟩=>by
 rw[fG] at q;exact q.elim
def En (g:Gd W G T n E sc N X)(x:Str)(p:Pos):PE X (.Name x p) (bm W G (Ip.run G n) (cE T sc N (m+1) (.Name x p)) E):=by
 rw[Ip.tE];by_cases h1:(bb sc x&&Ip.aR x)=true
 .rw[if_pos h1];rw[tw] at h1;unfold pv?;cases q:pos? x N with
  | none=>exact bX
  | some i=>
   have ok:=h1.2;unfold Ip.aR at ok;simp only[tw,Iy] at ok;exact FL (oK (by rw[g.nm]; exact pos?_get q) (g.vis x h1.1) ok.1 ok.2)
 .rw[if_neg h1];by_cases h2:bw sc x=true
  .rw[if_pos h2];cases q:T.cst.lookup x with
   | none=>exact bX
   | some d=>
    obtain⟨hd,u,v,hm,r,hf,hv⟩:=g.gf.cst x d q;exact mq hf hv (uL (g.gl x h2) hm r hd)
  .rw[if_neg h2]; exact bX
def Ar (c:Const)(k:Nat)(p:Pos):PE X (.Constant c k p) (bm W G (Ip.run G n) (cE T sc N (m+1) (.Constant c k p)) E):=by
 cases c with
 | none=>exact mq rfl (λ_=>.non) FT
 | bool b=>exact mq rfl (λ_=>.bl) Bd
 | int i=>exact mq rfl (λ_=>.int) y9
 | str s=>exact mq rfl (λ_=>.str) zz
 | _=>exact bX
def CS (ih:IH W G T n m)(g:Gd W G T n E sc N X)(a b:Expr)(o:Operator)(p:Pos):PE X (.BinOp a o b p) (bm W G (Ip.run G n) (cE T sc N (m+1) (.BinOp a o b p)) E):=by
 have ha:=ih.e g a;have hb:=ih.e g b;cases o with
 | Add=>exact (l5 (zu g.K) ha hb).mono λσ H Q=>iJ λ_ _ _ _ h=>h
 | Sub=>exact (l5 Gk ha hb).mono λσ H Q=>iJ λ_ _ _ _ h=>h
 | Mult=>exact (l5 zS ha hb).mono λσ H Q=>iJ λ_ _ _ _ h=>h
 | FloorDiv=>exact (l5 C0 ha hb).mono λσ H Q=>iJ λ_ _ _ _ h=>h
 | Mod=>exact (l5 Dz ha hb).mono λσ H Q=>iJ λ_ _ _ _ h=>h
 | Pow=>exact (l5 C5 ha hb).mono λσ H Q=>iJ λ_ _ _ _ h=>h
 | _=>exact bX
def rA (ih:IH W G T n m)(g:Gd W G T n E sc N X)(a:Expr)(o:UnaryOp)(p:Pos):PE X (.UnaryOp o a p) (bm W G (Ip.run G n) (cE T sc N (m+1) (.UnaryOp o a p)) E):=by
 have ha:=ih.e g a;cases o with
 | Not=>exact (zA ha).mono λσ H Q=>ku AQ
 | USub=>exact (AW AX ha).mono λσ H Q=>ku zB
 | _=>exact bX
def BI (ih:IH W G T n m)(g:Gd W G T n E sc N X)(o:BoolOp)(es:av)(p:Pos):PE X (.BoolOp o es p) (bm W G (Ip.run G n) (cE T sc N (m+1) (.BoolOp o es p)) E):=by
 match es with
 | []=>exact bX
 | [a]=>exact Fl (ih.e g a)
 | a::b::es=>
  cases o with
  | And=>exact (Cb (ih.e g a) (ih.e g (.BoolOp .And (b::es) p))).mono λσ H Q=>Dx
  | Or=>exact (Bb (ih.e g a) (ih.e g (.BoolOp .Or (b::es) p))).mono λσ H Q=>rO
def t7 {o:CmpOp}{b:Expr}(h:dg b=true):behindInMarks o b=false:=by
 cases b <;> first | rfl | cases h
def lV (g:Gd W G T n E sc N X){o:CmpOp}{p:Op}(h:gQ o=some p):OpR X (compareOp o) (λx y=>rD W G p [x,y]):=by
 cases o <;> (try cases h)
 .exact pL g.K g.units
 .exact qu g.K g.units
 .exact qQ
 .exact sL
 .exact rM
 .exact r8
 .exact p8 g.K g.units
 .exact Ax g.K g.units
def tU {o:CmpOp}{p:Op}(h:jr o=some p):gQ o=some p/\o≠.In/\o≠.NotIn:=by
 cases o <;> (try cases h) <;> exact⟨rfl,by decide,by decide⟩
def vh {b:Expr}(h:isNone b=true):∃k p,b=.Constant .none k p:=by
 cases b <;> try (cases h; done)
 rename_i c k p;cases c <;> first | exact⟨k,p,rfl⟩ | cases h
def ut (ih:IH W G T n m)(g:Gd W G T n E sc N X)(a:Expr)(os:List CmpOp)(bs:av)(p:Pos) :
  PE X (.Compare a os bs p) (bm W G (Ip.run G n) (cE T sc N (m+1) (.Compare a os bs p)) E)/\PT X (.Compare a os bs p) (cx W G (Ip.run G n) (cE T sc N (m+1) (.Compare a os bs p)) E):=by
 have ha:=ih.e g a;match os,bs with
 | [o],[b]=>
  have hb:=ih.e g b;have rest:∀q,gQ o=some q->PE X (.Compare a [o] [b] p) (bm W G (Ip.run G n) (if dg b then .op q [cE T sc N m a,cE T sc N m b] else .bad) E)/\PT X (.Compare a [o] [b] p) (cx W G (Ip.run G n) (if dg b then .op q [cE T sc N m a,cE T sc N m b] else .bad) E):=λq hq=>by
   by_cases ns:dg b=true
   .rw[if_pos ns];exact⟨(Gr (lV g hq) ha hb (t7 ns)).mono λσ H Q=>iJ λ_ _ _ _ h=>h,(BM (lV g hq) ha hb (t7 ns)).mono λσ H Q h=>iJ (λ_ _ _ _ h=>h) (nJ h)⟩
   .rw[if_neg ns]; exact⟨bX,fR⟩
  cases o with
  | Is=>
   simp only[Ip.pI];by_cases hn:isNone b=true
   .rw[if_pos hn];obtain⟨k,p',rfl⟩:=vh hn;exact⟨(uf (wO ha)).mono λσ H Q=>ku (r:=λx H Q=>Q (.bl (decide (x=.non))) H) uE,(tZ (wO ha)).mono λσ H Q h=>ku (r:=λx H Q=>Q (.bl (decide (x=.non))) H) uE (nJ h)⟩
   .rw[if_neg hn]; exact⟨bX,fR⟩
  | IsNot=>
   simp only[Ip.pI];by_cases hn:isNone b=true
   .rw[if_pos hn];obtain⟨k,p',rfl⟩:=vh hn;exact⟨(uf (wF ha)).mono λσ H Q=>ku (r:=λx H Q=>Q (.bl (!decide (x=.non))) H) tm,(tZ (wF ha)).mono λσ H Q h=>ku (r:=λx H Q=>Q (.bl (!decide (x=.non))) H) tm (nJ h)⟩
   .rw[if_neg hn]; exact⟨bX,fR⟩
  | Eq=>exact rest _ rfl
  | NotEq=>exact rest _ rfl
  | Lt=>exact rest _ rfl
  | LtE=>exact rest _ rfl
  | Gt=>exact rest _ rfl
  | GtE=>exact rest _ rfl
  | In=>exact rest _ rfl
  | NotIn=>exact rest _ rfl
 | [o,q],[b,c]=>
  have hb:=ih.e g b;have hc:=ih.e g c;simp only[Ip.pI];cases h1:jr o with
  | none=>exact⟨bX,fR⟩
  | some o'=>
   cases h2:jr q with
   | none=>exact⟨bX,fR⟩
   | some q'=>
    obtain⟨c1,_,_⟩:=tU h1;obtain⟨c2,n1,n2⟩:=tU h2;have hm:lastMarks [o,q] [b,c]=false:=kv c n1 n2;exact⟨(FE (lV g c1) (lV g c2) ha hb hc hm).mono λσ H Q=>vx,(Ey (lV g c1) (lV g c2) ha hb hc hm).mono λσ H Q h=>vx (nJ h)⟩
 | [],_=>exact⟨bX,fR⟩
 | [_],[]=>exact⟨bX,fR⟩
 | [_],_::_::_=>exact⟨bX,fR⟩
 | [_,_],[]=>exact⟨bX,fR⟩
 | [_,_],[_]=>exact⟨bX,fR⟩
 | [_,_],_::_::_::_=>exact⟨bX,fR⟩
 | _::_::_::_,_=>exact⟨bX,fR⟩
end
section
variable {W:Wd}{G:Pg}{T:Tb}{n:Nat}{m:Nat}{E:St->XK}{sc:Scope}{N:au}{X:Cx}
def Ak (ih:IH W G T n m)(g:Gd W G T n E sc N X)(es:av)(p:Pos):PE X (.List es p) (bm W G (Ip.run G n) (cE T sc N (m+1) (.List es p)) E):=by
 simp only[Ip.Cw];by_cases h:es.length<=1000
 .rw[if_pos h]; exact qY (by rw[GA]; exact h) (ih.args g es)
 .rw[if_neg h]; exact bX
def CZ (ih:IH W G T n m)(g:Gd W G T n E sc N X)(es:av)(k:Nat)(p:Pos):PE X (.Tuple es k p) (bm W G (Ip.run G n) (cE T sc N (m+1) (.Tuple es k p)) E):=by
 simp only[Ip.zg];by_cases h:es.length<=1000
 .rw[if_pos h]; exact yJ (by rw[GA]; exact h) (ih.args g es)
 .rw[if_neg h]; exact bX
def Fb (ih:IH W G T n m)(g:Gd W G T n E sc N X)(o:Expr)(f:Str)(p:Pos):PE X (.Attribute o f p) (bm W G (Ip.run G n) (cE T sc N (m+1) (.Attribute o f p)) E):=by
 simp only[Ip.BC];cases q:pos? f T.att with
 | none=>exact bX
 | some k=>
  by_cases h:(T.fl.contains k&&fV o)=true
  .simp only[h,if_true];rw[tw] at h;exact zR g.K g.gf.cf (by simpa using h.1) (by rw[g.gf.att]; exact pos?_get q) (ih.e g o) (sm h.2)
  .simp only[h]; exact bX
def wY {i:Expr}(h:∀a b c p,i≠.Slice a b c p):gF i:=by
 intro o v;cases i <;> first | rfl | exact absurd rfl (h _ _ _ _)
def AH (ih:IH W G T n m)(g:Gd W G T n E sc N X)(a i:Expr)(p:Pos):PE X (.Subscript a i p) (bm W G (Ip.run G n) (cE T sc N (m+1) (.Subscript a i p)) E):=by
 have ha:=ih.e g a;cases i with
 | Slice lo hi st q=>
  match lo,hi,st with
  | some l,none,none=>
   simp only[Ip.oG];exact (rC (rP g.K) ha (n0 (ih.e g l)) uR).mono λσ H Q h=>t5 (lo:=λi=>some i) (hi:=λ_=>none) (λu v=>rfl) h
  | none,some l,none=>
   simp only[Ip.oG];exact (rC (rP g.K) ha uR (n0 (ih.e g l))).mono λσ H Q h=>t5 (lo:=λ_=>none) (hi:=λi=>some i) (λu v=>rfl) h
  | some l,some h,none=>
   simp only[Ip.oG];exact (rC (rP g.K) ha (n0 (ih.e g l)) (n0 (ih.e g h))).mono λσ H Q h=>zm h
  | none,none,none=>exact bX
  | none,none,some st=>exact bX
  | some _,none,some _=>exact bX
  | none,some _,some _=>exact bX
  | some _,some _,some _=>exact bX
 | _=>
  simp only[Ip.oG];exact (vg (qB g.K) ha (ih.e g _) (wY λ_ _ _ _ z=>by cases z)).mono λσ H Q=>iJ λ_ _ _ _ h=>h
def sd (e:Expr):(∃a b c,e=.Set a b c)\/∀(env:Env) (x:Value),foldedSetIterable e env x=pure x:=by
 cases e <;> first | exact .inl ⟨_,_,_,rfl⟩ | exact .inr λ_ _=>rfl
def rT {a:av}{b:Nat}{c:Pos}:(cI T sc N m (.Set a b c)).2=[.bad]:=by
 cases m with
 | zero=>rfl
 | succ m=>cases m <;> rfl
structure CompR (W:Wd)(G:Pg)(n:Nat)(E:St->XK)(X:Cx)(scope:Scope)(N:au)(tg iter elt:Expr)(ifs:av)(t:Tg)(wk:Wk)(it ts:aG)(x:Ex):Prop where
 hS:compOk X.env.scope X.N (aY scope) (bv N scope) scope=true
 hi:PI X tg iter (gE W G (Ip.run G n) wk it E)
 hg:∀cl C s H fp,PG (bB X (aY scope) scope cl C s H fp λ_ _=>False) tg (gT X.K t)
 ht:∀cl C s H fp,PTs (bB X (aY scope) scope cl C s H fp λ_ _=>False) ifs (pW W G (Ip.run G n) ts)
 he:∀cl C s H fp,PE (bB X (aY scope) scope cl C s H fp λ_ _=>False) elt (bm W G (Ip.run G n) x λ_ _ _ _=>False)
 hx:∀i∈dB t,(bv N scope)[i]? = some none
def tR {tg:Expr}{t:Tg}{wk:Wk}(h1:c9 sc N tg=some t)(h2:eD wk t=true):wk=.enum\/wk=.zip->∃es k p,tg=.Tuple es k p:=by
 intro hw;cases tg with
 | Name x p=>
  simp only[Ip.t6] at h1;by_cases hl:bG sc x=true
  .rw[if_pos hl] at h1;obtain⟨i,_,rfl⟩:=dO h1;rcases hw with rfl | rfl <;> cases h2
  .rw[if_neg hl] at h1; cases h1
 | Tuple es k p=>exact⟨es,k,p,rfl⟩
 | _=>cases h1
def xE (ih:IH W G T n m)(g:Gd W G T n E sc N X){e tg iter:Expr}{ifs:av}{scope:Scope}{t:Tg}(hb:dD sc N (aY scope) (bv N scope) scope=true)(hl:ifs.length<=1)(ht:c9 scope (aY scope) tg=some t)
  (hw:eD (cI T sc N m iter).1 t=true)(hx:(dB t).all (λi=>(bv N scope)[i]? == some none)=true) :
  CompR W G n E X scope N tg iter e ifs t (cI T sc N m iter).1 (cI T sc N m iter).2 (ifs.map (cT T scope (aY scope) m)) (cE T scope (aY scope) m e):=by
 refine⟨g.compOk hb,ih.i g tg iter (tR ht hw),λcl C s H fp=>?_,λcl C s H fp=>?_,λcl C s H fp=>ih.e (g.block hb cl C s H fp) e,λi hi=>?_⟩
 .exact oh (g.block hb cl C s H fp) ht
 .match ifs,hl with
  | [],_=>exact DA
  | [c],_=>exact yK (ih.t (g.block hb cl C s H fp) c)
 .have:=eB hx i hi;simpa using this
def Fz (ih:IH W G T n m)(g:Gd W G T n E sc N X)(e:Expr)(gs:List Comprehension)(scope:Scope)(p:Pos):PE X (.ListComp e gs scope p) (bm W G (Ip.run G n) (cE T sc N (m+1) (.ListComp e gs scope p)) E):=by
 match gs with
 | []=>exact bX
 | ⟨_,_,_,_⟩::_::_=>exact bX
 | [⟨tg,iter,ifs,as⟩]=>
  simp only[Ip.xF];by_cases h:(dD sc N (aY scope) (bv N scope) scope&&as == 0&&decide (ifs.length<=1))=true
  rotate_left
  .rw[if_neg h]; exact bX
  rw[if_pos h];simp only[tw,GC,GR] at h;obtain⟨⟨hb,has⟩,hl⟩:=h;subst has;cases ht:c9 scope (aY scope) tg with
  | none=>exact bX
  | some t=>
   by_cases h2:(eD (cI T sc N m iter).1 t&&(dB t).all (λi=>(bv N scope)[i]? == some none))=true
   rotate_left
   .simp only[h2]; exact bX
   simp only[h2,if_true];rw[tw] at h2;rcases sd iter with ⟨a,b,c,rfl⟩ | hs
   .rintro pins s σ H Q I ⟨_,_,_,_,q⟩;rw[lF,rT,bL,fG] at q;exact q.elim
   .have cp:=xE (e:=e) ih g hb hl ht h2.1 h2.2;exact (yA g.calm cp.hS cp.hi cp.hg cp.ht cp.he (hs X.env)).mono λσ H Q=>wI g.K cp.hx
def B5 (ih:IH W G T n m)(g:Gd W G T n E sc N X)(e:Expr):PT X e (cx W G (Ip.run G n) (cT T sc N (m+1) e) E):=by
 cases e with
 | BoolOp o es p=>
  match es with
  | []=>exact fR
  | [a]=>
   cases o with
   | And=>exact (Dy (ih.t g a)).pt
   | Or=>exact (yj (ih.t g a)).pt
  | a::b::es=>
   have hb:∀o,PW X (.BoolOp o (b::es) p) (cx W G (Ip.run G n) (cT T sc N m (.BoolOp o (b::es) p)) E):=λo whole=>ih.t g (.BoolOp o (b::es) p);cases o with
   | And=>exact (Cc (ih.t g a) (hb .And)).pt.mono λσ H Q=>yr
   | Or=>exact (Fp (ih.t g a) (hb .Or)).pt.mono λσ H Q=>xW
 | UnaryOp o a p=>
  cases o with
  | Not=>exact (EU (ih.t g a)).mono λσ H Q=>CB
  | _=>exact tq (ih.e g _) λ_=>rfl
 | IfExp c a b p=>exact fR
 | Compare a os bs p=>exact ih.c g a os bs p
 | _=>exact tq (ih.e g _) λ_=>rfl
end
section
variable {W:Wd}{G:Pg}{T:Tb}{n:Nat}{m:Nat}{E:St->XK}{sc:Scope}{N:au}{X:Cx}
def Bk (ih:IH W G T n m)(g:Gd W G T n E sc N X)(f:Str)(args:av)(p pos:Pos)(k:Nat)(hg:bw sc f=true)(hk:T.fns.lookup f=some k)(ns:noStar args=true):PE X (.Call (.Name f p) args [] pos) (bm W G (Ip.run G n) (.call k (args.map (cE T sc N m))) E):=by
 obtain⟨hdb,F,a,hF,hm,kp,fd,ps,fo,bd⟩:=g.gf.fns f k hk;cases q:dM G k args.length with
 | none=>
  rintro pins s σ H Q I ⟨_,_,_,_,h⟩;rw[lG,GA,q] at h;exact h.elim
 | some F'=>
  obtain⟨e1,hio,h1,h2⟩:=wN q;rw[hF] at e1;cases e1;obtain⟨ds,dvs,hb,hv,hd⟩:=bd args.length h1 h2;have fo':FnOk X.prog X.w X.K X.mg X.base (dY X.prog X.w) (rm n) a fd ps (gU W G n k F):=g.K ▸ fo;have rm1:=g.room.mono (HB (rm n));have q':dM G k (args.map (cE T sc N m)).length=some F:=by rw[GA]; exact q
  have hd':∀S,Dens W S dvs (cV F (args.map (cE T sc N m)).length):=by rw[GA]; exact hd
  match args,ns,q',hd' with
  | [],_,q',hd'=>exact (Fh fo' rm1 (g.gl f hg) hm (g.K ▸ kp) (g.K ▸ hb) hv g.pass hdb).mono λσ H Q h=>nQ (vC (es:=[]) q' hd' h)
  | e::es,ns,q',hd'=>
   obtain⟨s1,s2⟩:=ef ns;exact (Eb fo' rm1 (g.gl f hg) hm (g.K ▸ kp) (g.K ▸ hb) hv g.pass (ih.args g (e::es)) hdb (dq s1) (me s2)).mono λσ H Q=>vC q' hd'
def uQ (ih:IH W G T n m)(g:Gd W G T n E sc N X)(f:Str)(args:av)(p pos:Pos)(c:Nat)(hg:bw sc f=true)(hk:T.cls.lookup f=some c)(ns:noStar args=true):PE X (.Call (.Name f p) args [] pos) (bm W G (Ip.run G n) (.make c (args.map (cE T sc N m))) E):=by
 obtain⟨hdb,C,hm,hc⟩:=g.gf.cls f c hk;cases q:bV G c args.length with
 | none=>
  rintro pins s σ H Q I ⟨_,_,_,_,h⟩;rw[lP,GA,q] at h;exact h.elim
 | some t=>
  obtain⟨fi,F,d⟩:=t;obtain⟨Cl',k1,k2,k3,k4,hio,h1,h2,h50⟩:=pX q;obtain⟨a,⟨fd,ps,fo,bd⟩,hx⟩:=hc Cl' fi F k1 k2 k3;obtain⟨ds,dvs,hb,hv,hd⟩:=bd (args.length+1) h1 h2;have fo':FnOk X.prog X.w X.K X.mg X.base (dY X.prog X.w) (rm n) a fd ps (gU W G n fi F):=g.K ▸ fo;have hd':∀S,Dens W S dvs (cV F ((args.map (cE T sc N m)).length+1)):=by rw[GA]; exact hd
  by_cases hxx:Cl'.isx=true
  .rw[if_pos hxx] at hx k4;obtain⟨xA,kp,tl,xc⟩:=hx;subst k4;have q':bV G c (args.map (cE T sc N m)).length=some (fi,F,.exc c []):=by rw[GA]; exact q
   have xc':XC X.K C (.ref a) tl:=g.K ▸ xc;match args,ns,q',hd' with
   | [],_,q',hd'=>exact (Bm xc' (g.K ▸ kp) fo' g.room (g.gl f hg) hm (g.K ▸ hb) hv g.pass hdb).mono λσ H Q h=>nQ (sV (es:=[]) xA q' hd' h)
   | e::es,ns,q',hd'=>
    obtain⟨s1,s2⟩:=ef ns;exact (Ao xc' (g.K ▸ kp) fo' g.room (g.gl f hg) hm (g.K ▸ hb) hv g.pass (ih.args g (e::es)) hdb (dq s1) (me s2)).mono λσ H Q=>sV xA q' hd'
  .rw[if_neg hxx] at hx k4;obtain⟨iA,mk⟩:=hx;subst k4;have q':bV G c (args.map (cE T sc N m)).length=some (fi,F,.ins c []):=by rw[GA]; exact q
   have mk':Mk X.K C a:=g.K ▸ mk;match args,ns,q',hd' with
   | [],_,q',hd'=>exact (yO mk' fo' g.room (g.gl f hg) hm (g.K ▸ hb) hv g.pass hdb).mono λσ H Q h=>nQ (vo (es:=[]) iA q' hd' h)
   | e::es,ns,q',hd'=>
    obtain⟨s1,s2⟩:=ef ns;exact (CK mk' fo' g.room (g.gl f hg) hm (g.K ▸ hb) hv g.pass (ih.args g (e::es)) hdb (dq s1) (me s2)).mono λσ H Q=>vo iA q' hd'
def Bo (ih:IH W G T n m)(g:Gd W G T n E sc N X)(o:Expr)(f:Str)(args:av)(ap pos:Pos)(k:Nat)(hk:pos? f T.att=some k)(hs:fV o=true)(ns:noStar args=true)(hl:args.length<30)(hp:ap.endLine=pos.line) :
  PE X (.Call (.Attribute o f ap) args [] pos) (bm W G (Ip.run G n) (.meth k (cE T sc N m o) (args.map (cE T sc N m))) E):=by
 rintro pins s σ H Q I ⟨N0,a,hN,hS,h⟩;have ho:=ih.e g o;have arm:=uI (m:=f) (env:=X.env) hs ns hl hp;have hatt:W.att[k]? = some f:=by rw[g.gf.att]; exact pos?_get hk
 cases q:Ip.eval G (Ip.run G n) a (cE T sc N m o) with
 | bad=>rw[jY,q] at h; exact h.elim
 | exc c fs=>
  rw[jY,q] at h;refine Iv (pl:=_) (bj (ho pins s σ H (λ_ _=>False) I ⟨N0,a,hN,hS,by rw[q]; exact h⟩) λu s1 ⟨_,_,_,_,z⟩=>z.elim) arm
 | ok x=>
  obtain⟨kx,d⟩:=x;cases q2:cj G k args.length d with
  | none=>
   rw[jY,q] at h;simp only[Ip.R.bind,GA,q2] at h
  | some t=>
   obtain⟨fi,F⟩:=t;obtain⟨c,fs,Cl',rfl,k1,k2,k3,hio,hfl,h1,h2⟩:=um q2;obtain⟨C,ad,hC,hme,fd,ps,fo,bd⟩:=g.gf.meth c Cl' k fi F k1 k2 k3 f hatt;obtain⟨ds,dvs,hb,hv,hd⟩:=bd (args.length+1) h1 h2;have fo':FnOk X.prog X.w X.K X.mg X.base (dY X.prog X.w) (rm n) ad fd ps (gU W G n fi F):=g.K ▸ fo;have rm1:=g.room.mono (HB (rm n));have cls:Cls X.K C:=g.K ▸ (g.gf.cf.ins c C hC).1.cls;have q3:cj G k (args.map (cE T sc N m)).length (.ins c fs)=some (fi,F):=by rw[GA]; exact q2
   have hd':∀S,Dens W S dvs (cV F ((args.map (cE T sc N m)).length+1)):=by rw[GA]; exact hd
   have key:=F8 (E:=E) (Q:=Q) g.gf.cf.nd hatt hC hd' hN hS q q3 h;match args,ns,arm,key with
   | [],_,arm,key=>exact y8 ho cls (g.K ▸ hme) fo' rm1 (g.K ▸ hb) hv g.pass arm pins s σ H Q I (by
     unfold fJ at key ⊢;refine evT_mono key λx H1 ⟨a,dx,fs,e1,e2,e3,e4⟩=>⟨a,dx,fs,e1,e2,e3,nQ e4⟩)
   | e::es,ns,arm,key=>
    obtain⟨s1,s2⟩:=ef ns;exact zE ho cls (g.K ▸ hme) fo' rm1 (g.K ▸ hb) hv g.pass (ih.args g (e::es)) (dq s1) (me s2) arm pins s σ H Q I key
where
 evT_mono {ir:Ex} {cl:Nat->ax->Ip.Run} {E:St->XK} {σ:St} {H:Hp} {Q Q':VK} (h:bm W G cl ir E σ H Q) (k:∀v H,Q v H->Q' v H):bm W G cl ir E σ H Q':=by
  obtain⟨N,a,hN,hS,h⟩:=h;refine⟨N,a,hN,hS,?_⟩;cases q:Ip.eval G cl a ir with
  | bad=>rw[q] at h; exact h
  | exc c fs=>rw[q] at h; exact h
  | ok x=>rw[q] at h; exact λv H' r=>k v H' (h v H' r)
def CL {x:Str}{p:Pos}{cl:Nat->ax->Ip.Run}:∀m a c fs,Ip.eval G cl a (cE T sc N m (.Name x p))≠.exc c fs:=by
 intro m a c fs;cases m with
 | zero=>rw[Ip.yu,fG]; exact λz=>nomatch z
 | succ m=>
  rw[Ip.tE];split
  .unfold pv?;split
   .rw[gM];split <;> exact λz=>nomatch z
   .rw[fG]; exact λz=>nomatch z
  .split
   .split
    .rw[l9]; exact λz=>nomatch z
    .rw[fG]; exact λz=>nomatch z
   .rw[fG]; exact λz=>nomatch z
def qt {e:Expr}{cp:Pos}{env:Env}(ns:noStar [e]=true):((backTo cp (starEach [e] env)).all (λx=>!x.1)&&(backToKw cp (keywordEach [] env)).all (λx=>x.1.isSome)
   && decide ([e].length+([]:List Keyword).length+(if ([]:List Keyword).isEmpty then 0 else 1)<30))=true:=by
 rw[oZ ns]; rfl
def A5 {e:Expr}(h:Ip.mZ e=true){cl:Nat->ax->Ip.Run}:∀m a c fs,Ip.eval G cl a (cE T sc N m e)≠.exc c fs:=by
 cases e with
 | Name x p=>exact CL
 | _=>cases h
def AY (ih:IH W G T n m)(g:Gd W G T n E sc N X)(o:Expr)(f:Str)(args:av)(ap pos:Pos)(hi:eL f args=true)(hs:fV o=true)(ns:noStar args=true)(hp:ap.endLine=pos.line) :
  PE X (.Call (.Attribute o f ap) args [] pos) (bm W G (Ip.run G n) (.op .index ((o::args).map (cE T sc N m))) E):=by
 unfold eL at hi;simp only[tw,GC,List.all_eq_true] at hi;obtain⟨⟨rfl,hl⟩,hn⟩:=hi;obtain⟨a,rfl⟩:=Hx.mp hl;have ha:=hn a (Gx.mpr rfl);obtain⟨s1,s2⟩:=ef ns;have ln:(ap.endLine == pos.line)=true:=by rw[hp]; exact beq_self_eq_true _
 exact (mj (T := "list") (id := "list.index") HI PySem.F.slot_list_index PySem.F.type_list_index D5 (ih.e g o) (ih.args g [a]) (sm hs) (qt ns) ln (dq s1) rfl).mono λσ H Q h=>yH (A5 ha m) h
def Gd.bl (g:Gd W G T n E sc N X){x:Str}{v:Value}(h:(x,v)∈fD):X.mg x=none/\bootBuiltins x=some v:=g.gf.blt x v h
def DT (ih:IH W G T n m)(g:Gd W G T n E sc N X)(a:Expr):((∃x p,a=.Starred x p)/\cE T sc N m a=.bad)\/(PA X [a] (ci W G (Ip.run G n) [cE T sc N m a] E)/\starEach [a] X.env=(false,PySem.eval a X.env)::starEach [] X.env):=by
 rcases oA a [] X.env with ⟨x,p,rfl⟩ | h
 .exact .inl ⟨⟨x,p,rfl⟩,sA T sc N m x p⟩
 .exact .inr ⟨ih.args g [a],h⟩
def ub {o:Op}{x:Expr}{es:aG}:PE X x (bm W G (Ip.run G n) (.op o (.bad::es)) E):=λpins s σ H Q I ⟨_,_,_,_,h⟩=>by
 rw[cR,bL,fG] at h;exact h.elim
def t9 (g:Gd W G T n E sc N X){b:Expr}{t:Ip.Ty}(q:fe T sc b=some t):∃c cv,PE X b (tC c)/\valOf c=some cv/\cu W G t cv:=by
 cases b with
 | Name x bp=>
  simp only[fe] at q;by_cases hgx:bw sc x=true
  .rw[if_pos hgx] at q;cases q2:T.cls.lookup x with
   | some c=>
    rw[q2] at q;cases q;obtain⟨hdb,_⟩:=g.gf.cls x c q2;obtain⟨C,hm,hi⟩:=g.gf.isC x c q2;exact⟨.ref C,.ref C,uL (g.gl x hgx) hm rfl hdb,rfl,hi⟩
   | none=>
    rw[q2] at q;obtain⟨hm,hn,hdb,nm,hb,hi⟩:=g.gf.isB x t q;exact⟨.ty nm,.type nm,Bv (g.gl x hgx) hm hb rfl hn hdb,rfl,hi⟩
  .rw[if_neg hgx] at q; cases q
 | _=>cases q
theorem wy (g:Gd W G T n E sc N X):∀{es:av} {ts:List Ip.Ty},es.mapM (fe T sc)=some ts->∃cs cvs,Isis X W G es ts cs cvs
 | [],ts,h=>by cases h; exact⟨[],[],.nil⟩
 | e::es,ts,h=>by
  rw[List.mapM_cons] at h;cases q:fe T sc e with
  | none=>rw[q] at h; cases h
  | some t=>
   rw[q] at h;cases q2:es.mapM (fe T sc) with
   | none=>simp[q2] at h
   | some ts'=>
    simp[q2] at h;subst h;obtain⟨cs,cvs,r⟩:=wy g q2;obtain⟨c,cv,he,hc,hi⟩:=t9 g q;refine⟨c::cs,cv::cvs,.cons he (λes=>?_) hc hi r⟩;cases e with
    | Name x p=>rfl
    | _=>cases q
def ET (ih:IH W G T n m)(g:Gd W G T n E sc N X)(f:Str)(args:av)(p pos:Pos)(hg:bw sc f=true):PE X (.Call (.Name f p) args [] pos) (bm W G (Ip.run G n) (cB T sc N (m+1) f args) E):=by
 match args with
 | []=>exact bX
 | _::_::_::_=>exact bX
 | [a]=>
  simp only[Ip.wZ];cases qx:Ip.mS sc f a with
  | some bc=>
   obtain⟨b,c⟩:=bc;dsimp only;obtain⟨p1,p2,p3,p4,p5,rfl,rfl,hg',n1,n2⟩:=Ip.zt qx;cases qv:Ip.jf (cE T sc N m c) with
   | none=>exact bX
   | some j=>
    have hc:=ih.e g c;rw[Ip.Gp qv] at hc;obtain⟨s1,_⟩:=ef n1;obtain⟨s2,_⟩:=ef n2;obtain⟨h1,h2⟩:=g.bl (x := "sorted") (v:=.builtin "sorted") (bA 8 rfl);obtain⟨h3,h4⟩:=g.bl (x := "set") (v:=.type "set") (bA 9 rfl);exact (Cp g.calm (ih.e g b) hc (g.gl _ hg) h1 h2 (g.gl _ hg') h3 h4 rfl (dq s1) (dq s2)).mono λσ H Q h=>yM g.K h
  | none=>
  dsimp only;cases qi:Ip.jm sc f a with
  | some ob=>
   obtain⟨o,b⟩:=ob;dsimp only;obtain⟨g',p1,p2,rfl,hg',ns,hc⟩:=Ip.rQ qi;obtain⟨s1,_⟩:=ef ns;obtain⟨rfl,rfl,rfl⟩:=hc
   .obtain⟨h1,h2⟩:=g.bl (x := "sorted") (v:=.builtin "sorted") (bA 8 rfl);obtain⟨h3,h4⟩:=g.bl (x := "set") (v:=.type "set") (bA 9 rfl);exact (De g.calm (ih.e g b) (g.gl _ hg) h1 h2 (g.gl _ hg') h3 h4 rfl (dq s1)).mono λσ H Q h=>ku (Bn g.K) h
  | none=>
  dsimp only;cases q:mH.lookup f with
  | none=>exact bX
  | some o=>
   rcases DT ih g a with ⟨_,hb⟩ | ⟨pa,hs⟩
   .simp only[hb]; exact ub
   have hmem:=vA q;simp only[mH,GL,G0,or_false,He] at hmem;rcases hmem with ⟨rfl,rfl⟩ | ⟨rfl,rfl⟩ | ⟨rfl,rfl⟩ | ⟨rfl,rfl⟩
   .obtain⟨h1,h2⟩:=g.bl (x := "len") (v:=.builtin "len") (bA 0 rfl);exact (pB (B1 g.K) (g.gl _ hg) h1 h2 pa (by decide) (by decide) hs rfl).mono λσ H Q=>n8
   .obtain⟨h1,h2⟩:=g.bl (x := "list") (v:=.type "list") (bA 3 rfl);exact (tQ (yF g.K) (g.gl _ hg) h1 h2 pa (by decide) (by decide) hs rfl).mono λσ H Q=>n8
   .obtain⟨h1,h2⟩:=g.bl (x := "tuple") (v:=.type "tuple") (bA 4 rfl);exact (tQ (Dq g.K) (g.gl _ hg) h1 h2 pa (by decide) (by decide) hs rfl).mono λσ H Q=>n8
   .obtain⟨h1,h2⟩:=g.bl (x := "all") (v:=.builtin "all") (bA 1 rfl);exact (pB (AM g.calm) (g.gl _ hg) h1 h2 pa (by decide) (by decide) hs rfl).mono λσ H Q=>n8
 | [a,b]=>
  simp only[Ip.wZ];by_cases hf:(f == ("isinstance" : Str))=true
  rotate_left
  .rw[if_neg hf]; exact bX
  rw[if_pos hf];have hf':f = "isinstance":=by simpa using hf
  subst hf';cases q:dX T sc b with
  | none=>exact bX
  | some ts=>
   rcases oA a [b] X.env with ⟨x,p',rfl⟩ | hs1
   .simp only[sA]; exact ub
   obtain⟨h1,h2⟩:=g.bl (x := "isinstance") (v:=.builtin "isinstance") (bA 2 rfl);cases b with
   | Name x bp=>
    simp only[dX] at q;obtain⟨t,q',rfl⟩:=dO q;obtain⟨c,cv,he,hc,hi⟩:=t9 g q';exact B9 g.K g.gf.cf hc hi (g.gl _ hg) h1 h2 (ih.e g a) he hs1 rfl
   | Tuple es k tp=>
    simp only[dX] at q;by_cases hl:es.length<=1000
    .rw[if_pos hl] at q;obtain⟨cs,cvs,hi⟩:=wy g q;exact Di g.K g.gf.cf hl hi (g.gl _ hg) h1 h2 (ih.e g a) hs1 rfl
    .rw[if_neg hl] at q; cases q
   | _=>simp[dX,fe] at q
def Ah (ih:IH W G T n m)(g:Gd W G T n E sc N X)(tg x:Expr)(ht:(cI T sc N (m+1) x).1=.enum\/(cI T sc N (m+1) x).1=.zip->∃es k p,tg=.Tuple es k p):PI X tg x (gE W G (Ip.run G n) (cI T sc N (m+1) x).1 (cI T sc N (m+1) x).2 E):=by
 have gen:∀y,PI X tg y (gE W G (Ip.run G n) .seq [cE T sc N m y] E):=λy=>xU g.K (ih.e g y);cases x with
 | Call f args kws q=>
  cases f with
  | Name f p=>
   cases kws with
   | cons _ _=>exact gen _
   | nil=>
    simp only[Ip.Co] at ht ⊢;by_cases h1:(bw sc f&&f == ("range" : Str)&&noStar args)=true
    .rw[if_pos h1];simp only[tw,GC] at h1;obtain⟨⟨hg,rfl⟩,ns⟩:=h1;have hm:=(g.bl (x := "range") (v:=.type "range") (bA 5 rfl)).1;match args,ns with
     | [a],ns=>
      obtain⟨s1,_⟩:=ef ns;exact Bg (g.gl _ hg) hm (ih.args g [a]) (dq s1)
     | [a,b,c],ns=>
      obtain⟨s1,s2⟩:=ef ns;obtain⟨s3,s4⟩:=ef s2;obtain⟨s5,_⟩:=ef s4;exact Fc (g.gl _ hg) hm (ih.args g [a,b,c]) (by rw[dq s1,dq s3,dq s5]; rfl) (by rw[dq s3,dq s5]; rfl)
     | [],_=>exact jh
     | [_,_],_=>exact jh
     | _::_::_::_::_,_=>exact jh
    rw[if_neg h1] at ht ⊢;by_cases h2:(bw sc f&&f == ("enumerate" : Str)&&noStar args)=true
    .rw[if_pos h2] at ht ⊢;simp only[tw,GC] at h2;obtain⟨⟨hg,rfl⟩,ns⟩:=h2;obtain⟨hm,hv⟩:=g.bl (x := "enumerate") (v:=.type "enumerate") (bA 6 rfl);match args,ns,ht with
     | [a],ns,ht=>
      obtain⟨s1,_⟩:=ef ns;obtain⟨es,k,p',rfl⟩:=ht (.inl rfl);exact Ga g.K (g.gl _ hg) hm hv (ih.args g [a]) (dq s1)
     | [],_,_=>exact jh
     | _::_::_,_,_=>exact jh
    rw[if_neg h2] at ht ⊢;by_cases h3:(bw sc f&&f == ("zip" : Str)&&noStar args)=true
    .rw[if_pos h3] at ht ⊢;simp only[tw,GC] at h3;obtain⟨⟨hg,rfl⟩,ns⟩:=h3;obtain⟨hm,hv⟩:=g.bl (x := "zip") (v:=.type "zip") (bA 7 rfl);match args,ns,ht with
     | [a,b],ns,ht=>
      obtain⟨s1,s2⟩:=ef ns;obtain⟨s3,_⟩:=ef s2;obtain⟨es,k,p',rfl⟩:=ht (.inr rfl);exact At g.K (g.gl _ hg) hm hv (ih.args g [a,b]) (by rw[dq s1,dq s3]; rfl) (dq s3)
     | [],_,_=>exact jh
     | [_],_,_=>exact jh
     | _::_::_::_,_,_=>exact jh
    rw[if_neg h3] at ht ⊢;exact gen _
  | _=>exact gen _
 | _=>exact gen _
def xO (ih:IH W G T n m)(g:Gd W G T n E sc N X)(f:Expr)(args:av)(kws:List Keyword)(p:Pos):PE X (.Call f args kws p) (bm W G (Ip.run G n) (cE T sc N (m+1) (.Call f args kws p)) E):=by
 cases kws with
 | cons _ _=>exact bX
 | nil=>
  cases f with
  | Name f q=>
   simp only[Ip.vp];by_cases hg:bw sc f=true
   rotate_left
   .rw[if_neg hg]; exact bX
   rw[if_pos hg];cases h1:T.fns.lookup f with
   | some k=>
    by_cases ns:noStar args=true
    .simp only[ns,if_true]; exact Bk ih g f args q p k hg h1 ns
    .simp only[ns]; exact bX
   | none=>
    cases h2:T.cls.lookup f with
    | some c=>
     by_cases ns:noStar args=true
     .simp only[ns,if_true]; exact uQ ih g f args q p c hg h2 ns
     .simp only[ns]; exact bX
    | none=>exact ih.b g f args q p hg
  | Attribute o f ap=>
   simp only[Ip.vp];cases h1:pos? f T.att with
   | none=>
    by_cases h:(eL f args&&fV o&&noStar args&&ap.endLine == p.line)=true
    .simp only[h,if_true];simp only[tw,GC] at h;obtain⟨⟨⟨a0,a1⟩,a2⟩,a4⟩:=h;exact AY ih g o f args ap p a0 a1 a2 a4
    .simp only[h]; exact bX
   | some k=>
    by_cases h:(fV o&&noStar args&&decide (args.length<30)&&ap.endLine == p.line)=true
    .simp only[h,if_true];simp only[tw,GR,GC] at h;obtain⟨⟨⟨a1,a2⟩,a3⟩,a4⟩:=h;exact Bo ih g o f args ap p k h1 a1 a2 a3 a4
    .simp only[h]; exact bX
  | _=>exact bX
def zN (ih:IH W G T n m)(g:Gd W G T n E sc N X)(e:Expr):PE X e (bm W G (Ip.run G n) (cE T sc N (m+1) e) E):=by
 cases e with
 | Name x p=>exact En g x p
 | Constant c k p=>exact Ar c k p
 | BinOp a o b p=>exact CS ih g a b o p
 | UnaryOp o a p=>exact rA ih g a o p
 | BoolOp o es p=>exact BI ih g o es p
 | Compare a os bs p=>exact (ut ih g a os bs p).1
 | List es p=>exact Ak ih g es p
 | Tuple es k p=>exact CZ ih g es k p
 | Subscript a i p=>exact AH ih g a i p
 | Attribute o f p=>exact Fb ih g o f p
 | ListComp e gs scope p=>exact Fz ih g e gs scope p
 | Call f args kws p=>exact xO ih g f args kws p
 | _=>exact bX
theorem eR:∀m,IH W G T n m
 | 0=>by
  refine⟨λg x=>?_,λg x=>?_,λg a os bs p=>?_,λg tg x _=>?_,λg f args p pos hg=>?_⟩
  .exact bX
  .exact fR
  .exact fR
  .exact jh
  .exact bX
 | m+1=>by
  have ih:=eR m;exact⟨λg x=>zN ih g x,λg x=>B5 ih g x,λg a os bs p=>(ut ih g a os bs p).2,λg tg x ht=>Ah ih g tg x ht,λg f args p pos hg=>ET ih g f args p pos hg⟩
end
section
variable {G:Pg}{cl:Nat->ax->Ip.Run}
mutual
theorem fK {a b:Sl}:∀e:Ex,(∀i∈e.names,a[i]? = b[i]?)->Ip.eval G cl a e=Ip.eval G cl b e
 | .var i,h=>by rw[gM,gM,h i (by simp)]
 | .cst d,_=>by rw[l9,l9]
 | .op o es,h=>by rw[cR,cR,zAH es (by simpa using h)]
 | .and x y,h=>by
  simp only[Ex.names,GU] at h;rw[mQ,mQ,fK x λi hi=>h i (.inl hi),fK y λi hi=>h i (.inr hi)]
 | .or x y,h=>by
  simp only[Ex.names,GU] at h;rw[nP,nP,fK x λi hi=>h i (.inl hi),fK y λi hi=>h i (.inr hi)]
 | .ite c x y,h=>by
  simp only[Ex.names,GU] at h;rw[Ip.uZ,Ip.uZ,fK c λi hi=>h i (.inl hi),fK x λi hi=>h i (.inr (.inl hi)),fK y λi hi=>h i (.inr (.inr hi))]
 | .chain o p x y z,h=>by
  simp only[Ex.names,GU] at h;rw[Ip.sh,Ip.sh,fK x λi hi=>h i (.inl hi),fK y λi hi=>h i (.inr (.inl hi)),fK z λi hi=>h i (.inr (.inr hi))]
 | .sl2 x y z,h=>by
  simp only[Ex.names,GU] at h;rw[Ip.sK,Ip.sK,fK x λi hi=>h i (.inl hi),fK y λi hi=>h i (.inr (.inl hi)),fK z λi hi=>h i (.inr (.inr hi))]
 | .comp caps tg wk it t e,h=>by
  simp only[Ex.names,GU] at h;have hc:caps.map (de a)=caps.map (de b):=H0 λo ho=>by
   cases o with
   | none=>rfl
   | some i=>
    show (a[i]?).join=(b[i]?).join;rw[h i (.inl (Ig.mpr ⟨some i,ho,rfl⟩))]
  rw[lF,lF,zAH it λi hi=>h i (.inr hi),hc]
 | .call f es,h=>by rw[lG,lG,zAH es (by simpa using h)]
 | .make f es,h=>by rw[lP,lP,zAH es (by simpa using h)]
 | .meth m o es,h=>by
  simp only[Ex.names,GU] at h;rw[jY,jY,fK o λi hi=>h i (.inl hi),zAH es λi hi=>h i (.inr hi)]
 | .bad,_=>by rw[fG,fG]
theorem zAH {a b:Sl}:∀es:aG,(∀i∈Ex.namess es,a[i]? = b[i]?)->evals G cl a es=evals G cl b es
 | [],_=>by rw[dk,dk]
 | e::es,h=>by
  simp only[Ex.namess,GU] at h;rw[bL,bL,fK e λi hi=>h i (.inl hi),zAH es λi hi=>h i (.inr hi)]
end
end
noncomputable def mask (ns:ak)(a:Sl):Sl:=a.mapIdx λi o=>if i∈ns then o else none
def oa {ns:ak}{a:Sl}{i:Nat}(h:i∈ns):a[i]? = (mask ns a)[i]?:=by
 unfold mask;rw[HD];cases a[i]? with
 | none=>rfl
 | some o=>simp[h]
def on {ns:ak}{a:Sl}{i:Nat}{d:D}(h:(mask ns a)[i]? = some (some d)):i∈ns/\a[i]? = some (some d):=by
 unfold mask at h;rw[HD] at h;cases q:a[i]? with
 | none=>rw[q] at h; cases h
 | some o=>
  rw[q] at h;by_cases hi:i∈ns
  .simp[hi] at h; exact⟨hi,by rw[h]⟩
  .simp[hi] at h
def lx {A:Fr}{i:Nat}{d:D}(h:A.sl[i]? = some (some d)):∃k,A[i]? = some (some (k,d)):=by
 unfold Fr.sl at h;rw[GK] at h;obtain⟨o,h1,h2⟩:=dO h;obtain⟨x,h3,h4⟩:=dO h2;obtain⟨k,d'⟩:=x;cases h4;exact⟨k,by rw[h1,h3]⟩
def d5 (W:Wd)(S S':Hp):Prop:=∀a vs,SqT W.K S a vs->SqT W.K S' a vs
mutual
theorem Den.hide {W:Wd}{S S':Hp}(h:d5 W S S'):∀{v d},d.flat=true->Den W S v d->Den W S' v d
 | _,_,_,.non=>.non
 | _,_,_,.bl=>.bl
 | _,_,_,.int=>.int
 | _,_,_,.str=>.str
 | _,_,hf,.tup e q=>.tup (h _ _ e) (q.hide h (by rw[D.flat] at hf; exact hf))
 | _,_,hf,.lst _ _=>by simp at hf
 | _,_,hf,.ins _ _ _=>by simp at hf
 | _,_,hf,.exc _ _ _=>by simp at hf
theorem Dens.hide {W:Wd}{S S':Hp}(h:d5 W S S'):∀{v d},D.flats d=true->Dens W S v d->Dens W S' v d
 | _,_,_,.nil=>.nil
 | _,_,hf,.cons e q=>by
  rw[D.flats,tw] at hf;exact .cons (e.hide h hf.1) (q.hide h hf.2)
end
theorem DenF.hide {W:Wd}{S S':Hp}(h:d5 W S S'):∀{vs ds},(ds.all λp=>p.2.flat)=true->DenF W S vs ds->DenF W S' vs ds
 | _,_,_,.nil=>.nil
 | _,_,hf,.cons e d q=>by
  rw[List.all_cons,tw] at hf;exact .cons e (d.hide h hf.1) (q.hide h hf.2)
theorem Own.hide {W:Wd}{S S' H:Hp}(h:d5 W S S'):∀{k v d fp},D.fb k d=true->Own W S H k v d fp->Own W S' H k v d fp
 | 0,_,_,_,hf,⟨e,o⟩=>⟨e,o.hide h (by rw[D.fb] at hf; exact hf)⟩
 | k+1,_,.lst ds,_,hf,⟨a,vs,fq,e1,e2,e3,e4⟩=>⟨a,vs,fq,e1,e2,e3.re (b:=D.fb k) (λ_ _ _ hb o=>Own.hide h hb o) hf,e4⟩
 | k+1,_,.tup ds,_,hf,⟨a,vs,e1,e2,e3⟩=>⟨a,vs,e1,h _ _ e2,e3.re (b:=D.fb k) (λ_ _ _ hb o=>Own.hide h hb o) hf⟩
 | k+1,_,.ins c ds,_,hf,⟨a,C,dx,fs,fq,e1,e2,e5,e3,e4⟩=>⟨a,C,dx,fs,fq,e1,e2,e5,e3.re (b:=D.fb k) (λ_ _ _ hb o=>Own.hide h hb o) hf,e4⟩
 | k+1,_,.exc c ds,_,hf,_=>by cases hf
 | _+1,_,.non,_,_,⟨e,o⟩=>⟨e,o.hide h rfl⟩
 | _+1,_,.bl _,_,_,⟨e,o⟩=>⟨e,o.hide h rfl⟩
 | _+1,_,.int _,_,_,⟨e,o⟩=>⟨e,o.hide h rfl⟩
 | _+1,_,.str _,_,_,⟨e,o⟩=>⟨e,o.hide h rfl⟩
theorem Own.noTup {W:Wd}{S H:Hp}:∀{k v d fp},Own W S H k v d fp->∀a∈fp,∀vs,¬Rd H a (.tup vs)
 | 0,_,_,_,h,a,z=>by rw[h.1] at z; simp at z
 | k+1,_,.lst ds,_,⟨a,vs,fq,e1,e2,e3,e4⟩,b,z=>by
  rw[e4] at z;rcases cH z with q | q
  .intro ws r;rw[q] at r;rcases r with r | ⟨o,r⟩ <;> rw[e2] at r <;> cases r
  .exact e3.mem (λ_ _ _ y=>Own.noTup y) b q
 | k+1,_,.tup ds,_,⟨a,vs,e1,e2,e3⟩,b,z=>e3.mem (λ_ _ _ y=>Own.noTup y) b z
 | k+1,_,.ins c ds,_,⟨a,C,dx,fs,fq,e1,e2,e5,e3,e4⟩,b,z=>by
  rw[e4] at z;rcases cH z with q | q
  .intro ws r;rw[q] at r;rcases r with r | ⟨o,r⟩ <;> rw[e2] at r <;> cases r
  .exact e3.mem (λ_ _ _ y=>Own.noTup y) b q
 | k+1,_,.exc c ds,_,⟨a,C,dx,fs,fq,e1,e2,e5,e3,e4⟩,b,z=>by
  rw[e4] at z;rcases cH z with q | q
  .intro ws r;rw[q] at r;rcases r with r | ⟨o,r⟩ <;> rw[e2] at r <;> cases r
  .exact e3.mem (λ_ _ _ y=>Own.noTup y) b q
 | _+1,_,.non,_,h,a,z=>by rw[h.1] at z; simp at z
 | _+1,_,.bl _,_,h,a,z=>by rw[h.1] at z; simp at z
 | _+1,_,.int _,_,h,a,z=>by rw[h.1] at z; simp at z
 | _+1,_,.str _,_,h,a,z=>by rw[h.1] at z; simp at z
def aU (N:Addr->Prop)(F:Nat->ao):Addr->Prop:=λb=>N b\/∃j,b∈F j
structure FrF (W:Wd)(E0:Hp)(N:Addr->Prop)(pin:List (Nat×V))(A:Fr)(σ:St)(H:Hp)(F:Nat->ao):Prop where
 sub:Sub E0 H
 nok:NOk N H
 len:σ.length=A.length
 pn:∀p∈pin,σ[p.1]? = some (some p.2)
 nd:∀i,(F i).Nodup
 dj:∀i j b,b∈F i->b∈F j->i=j
 fr:∀i b,b∈F i->E0 b=none/\¬N b
 rel:∀(i:Nat) (x:KD),A[i]? = some (some x)->∃v,σ[i]? = some (some v)/\Own W (hid (aU N F) H) H x.1 v x.2 (F i)
 em:∀(i:Nat),(∀x,A[i]?≠some (some x))->F i=[]
theorem FrF.dom {W:Wd}{E0:Hp}{N:Addr->Prop}{pin:List (Nat×V)}{A:Fr}{σ:St}{H:Hp}{F:Nat->ao}(f:FrF W E0 N pin A σ H F){i:Nat}{b:Addr}(h:b∈F i):H b≠none:=by
 by_cases q:∃x,A[i]? = some (some x)
 .obtain⟨x,e⟩:=q;obtain⟨v,_,o⟩:=f.rel i x e;exact o.dom b h
 .rw[f.em i λx z=>q ⟨x,z⟩] at h; simp at h
theorem FrF.noTup {W:Wd}{E0:Hp}{N:Addr->Prop}{pin:List (Nat×V)}{A:Fr}{σ:St}{H:Hp}{F:Nat->ao}(f:FrF W E0 N pin A σ H F){i:Nat}{b:Addr}(h:b∈F i)(vs:aw):¬Rd H b (.tup vs):=by
 by_cases q:∃x,A[i]? = some (some x)
 .obtain⟨x,e⟩:=q;obtain⟨v,_,o⟩:=f.rel i x e;exact o.noTup b h vs
 .rw[f.em i λx z=>q ⟨x,z⟩] at h; simp at h
def FrF.grow {W:Wd}{E0:Hp}{N:Addr->Prop}{pin:List (Nat×V)}{A:Fr}{σ:St}{H H':Hp}{F:Nat->ao}(f:FrF W E0 N pin A σ H F)(hs:Sub H H'){fp:ao}(hf:∀b∈fp,H b=none/\H' b≠none):FrF W E0 (λb=>N b\/b∈fp) pin A σ H' F where
 sub:=f.sub.trans hs
 nok:=λb z=>z.elim (f.nok.mono hs b) λy=>(hf b y).2
 len:=f.len
 pn:=f.pn
 nd:=f.nd
 dj:=f.dj
 fr:=λi b h=>⟨(f.fr i b h).1,λz=>z.elim (f.fr i b h).2 λy=>f.dom h (hf b y).1⟩
 rel:=λi x e=>by
  obtain⟨v,h1,h2⟩:=f.rel i x e;refine⟨v,h1,h2.mono (gN hs λb z=>?_) λb _ o e=>hs b o e⟩;rcases z with (z | z) | z
  .exact .inl (.inl z)
  .exact .inr (hf b z).1
  .exact .inl (.inr z)
 em:=f.em
def Ft {A:Fr}{i j:Nat}:(frz1 A j)[i]? = if i=j then (A[i]?).map (Option.map λx=>(0,x.2)) else A[i]?:=by
 unfold frz1;cases q:A[j]? with
 | none=>
  by_cases z:i=j
  .subst z; simp[q]
  .simp[z]
 | some o=>
  cases o with
  | none=>
   by_cases z:i=j
   .subst z; simp[q]
   .simp[z]
  | some x=>
   obtain⟨k,d⟩:=x;have hl:j<A.length:=(eQ q).1;by_cases z:i=j
   .subst z;simp[q,GD hl]
   .simp only[if_neg z];exact Gz λy=>z y.symm
theorem mU {i:Nat}:∀{ns:ak} {A:Fr},(frz ns A)[i]? = if i∈ns then (A[i]?).map (Option.map λx=>(0,x.2)) else A[i]?
 | [],A=>by simp[frz]
 | n::ns,A=>by
  show (frz ns (frz1 A n))[i]? = _;rw[mU,Ft];by_cases h1:i=n
  .subst h1;by_cases h2:i∈ns
   .simp[h2,Function.comp_def]
   .simp[h2]
  .by_cases h2:i∈ns
   .simp[h1,h2]
   .simp[h1,h2]
theorem wX:∀{ns:ak} {A:Fr},(frz ns A).length=A.length
 | [],A=>rfl
 | n::ns,A=>by
  show (frz ns (frz1 A n)).length=_;rw[wX];unfold frz1;split
  .exact GO
  .rfl
section
variable {W:Wd}{E0:Hp}{N:Addr->Prop}{pin:List (Nat×V)}{A:Fr}{σ:St}{H:Hp}{F:Nat->ao}
noncomputable def bD (ns:ak)(F:Nat->ao):Nat->ao:=λj=>if j∈ns then [] else F j
def fS {ns:ak}{j:Nat}{b:Addr}(h:b∈bD ns F j):j∉ns/\b∈F j:=by
 unfold bD at h;by_cases z:j∈ns
 .rw[if_pos z] at h; simp at h
 .rw[if_neg z] at h; exact⟨z,h⟩
def l8 {ns:ak}{b:Addr}(h:aU N (bD ns F) b):aU N F b:=h.imp id λ⟨j,q⟩=>⟨j,(fS q).2⟩
def FrF.see (f:FrF W E0 N pin A σ H F){ns:ak}{i:Nat}(hi:i∈ns){x:KD}(h:A[i]? = some (some x)):∃v,σ[i]? = some (some v)/\Den W (hid (aU N (bD ns F)) H) v x.2:=by
 obtain⟨v,h1,o⟩:=f.rel i x h;refine⟨v,h1,o.den (λb u e=>?_) λb hb u e=>bg.mpr ⟨λz=>?_,e⟩⟩
 .obtain⟨g1,g2⟩:=bg.mp e;exact bg.mpr ⟨λz=>g1 (l8 z),g2⟩
 .rcases z with z | ⟨j,z⟩
  .exact (f.fr i b hb).2 z
  .obtain⟨z1,z2⟩:=fS z;exact z1 (f.dj i j b hb z2 ▸ hi)
theorem FrF.frz (f:FrF W E0 N pin A σ H F)(ns:ak):FrF W E0 N pin (frz ns A) σ H (bD ns F) where
 sub:=f.sub
 nok:=f.nok
 len:=by rw[wX]; exact f.len
 pn:=f.pn
 nd:=λi=>by
  unfold bD;split
  .exact .nil
  .exact f.nd i
 dj:=λi j b h1 h2=>f.dj i j b (fS h1).2 (fS h2).2
 fr:=λi b h=>f.fr i b (fS h).2
 rel:=λi x e=>by
  rw[mU] at e;by_cases hi:i∈ns
  .rw[if_pos hi] at e;obtain⟨o,e1,e2⟩:=dO e;obtain⟨y,e3,e4⟩:=dO e2;rw[e3] at e1;subst e4;obtain⟨v,h1,h2⟩:=f.see hi e1;exact⟨v,h1,by unfold bD; rw[if_pos hi]; exact⟨rfl,h2⟩⟩
  .rw[if_neg hi] at e;obtain⟨v,h1,o⟩:=f.rel i x e;refine⟨v,h1,?_⟩;have:bD ns F i=F i:=by unfold bD; rw[if_neg hi]
   rw[this];exact o.mono (λb u e=>bg.mpr ⟨λz=>(bg.mp e).1 (l8 z),(bg.mp e).2⟩) λ_ _ _ e=>e
 em:=λi h=>by
  unfold bD;by_cases hi:i∈ns
  .rw[if_pos hi]
  .rw[if_neg hi];exact f.em i λx z=>h x (by rw[mU,if_neg hi]; exact z)
def FrV (W:Wd)(E0:Hp)(N:Addr->Prop)(pin:List (Nat×V))(A:Fr)(σ:St)(H:Hp)(x:KD)(v:V):Prop:=
 ∃(fp:ao) (F:Nat->ao),FrF W E0 (λb=>N b\/b∈fp) pin A σ H F/\fp.Nodup/\(∀b∈fp,E0 b=none/\¬N b)/\Own W (hid (aU (λb=>N b\/b∈fp) F) H) H x.1 v x.2 fp
def FrX (W:Wd)(E0:Hp)(N:Addr->Prop)(pin:List (Nat×V))(A:Fr)(σ:St)(H:Hp)(c:Nat)(fs:List aK)(e:Addr):Prop:=
 ∃(F:Nat->ao),FrF W E0 N pin A σ H F/\(E0 e=none/\¬aU N F e)/\∃C vs,H e=some (.exc C false vs)/\W.xA c=some C/\DenF W (hid (aU N F) H) vs fs
def tu (f:FrF W E0 N pin A σ H F){H':Hp}(hs:Sub H H'){M:Addr->Prop}(hM:∀b,aU N F b->M b\/∃j,b∈F j){fp:ao}:d5 W (hid (λb=>M b\/b∈fp) H') (hid (aU (λb=>N b\/b∈fp) F) H'):=by
 intro a vs h;rcases h with h | h
 .refine .inl ?_;have noF:∀j,a∉F j:=λj z=>by
   have h':Rd H' a (.tup vs):=Rd.sub bS h;cases q:H a with
   | none=>exact f.dom z q
   | some o=>
    have e:=hs a o q;refine f.noTup z vs ?_;rcases h' with h' | ⟨u,h'⟩
    .rw[e] at h'; cases h'; exact .inl q
    .rw[e] at h'; cases h'; exact .inr ⟨u,q⟩
  have vis:∀o,hid (λb=>M b\/b∈fp) H' a=some o->hid (aU (λb=>N b\/b∈fp) F) H' a=some o:=λo e=>by
   obtain⟨g1,g2⟩:=bg.mp e;refine bg.mpr ⟨λz=>?_,g2⟩;rcases z with (z | z) | ⟨j,z⟩
   .rcases hM a (.inl z) with y | ⟨j,y⟩
    .exact g1 (.inl y)
    .exact noF j y
   .exact g1 (.inr z)
   .exact noF j z
  rcases h with h | ⟨u,h⟩
  .exact .inl (vis _ h)
  .exact .inr ⟨u,vis _ h⟩
 .exact .inr h
def mV (A:Fr):cg A=frz (List.range A.length) A:=by
 apply HG;intro i;rw[mU];unfold cg;rw[GK];by_cases h:i<A.length
 .rw[if_pos (G1.mpr h)]
 .rw[if_neg λz=>h (G1.mp z),Hu (by omega)];rfl
def FrF.excIn {ns:ak}{c:Nat}{fs:List aK}{a:Addr}{H':Hp}(f:FrF W E0 N pin A σ H F)(r:ExcR W H (aU N (bD ns F)) H' c fs a):FrX W E0 N pin (excA A fs) σ H' c fs a:=by
 obtain⟨hs,ha,C,vs,hc,hx,hd⟩:=r;have nhid:¬aU N F a:=λz=>z.elim (λy=>f.nok a y ha) λ⟨j,y⟩=>f.dom y ha;have g:=f.grow hs (fp:=[]) λb z=>by simp at z
 have eN:∀b,(N b\/b∈([]:ao))↔N b:=λb=>by simp
 have g0:FrF W E0 N pin A σ H' F:=by
  have:(λb=>N b\/b∈([]:ao))=N:=funext λb=>propext (eN b);rw[this] at g; exact g
 unfold excA;by_cases hf:(fs.all λp=>p.2.flat)=true
 .rw[if_pos hf];refine⟨F,g0,⟨f.sub.none ha,nhid⟩,C,vs,hc,hx,?_⟩;have ts:=tu (M:=aU N (bD ns F)) (fp:=[]) f hs (λb z=>z.elim (λy=>.inl (.inl y)) .inr);have e1:(λb=>aU N (bD ns F) b\/b∈([]:ao))=aU N (bD ns F):=funext λb=>propext (by simp);have e2:(λb=>N b\/b∈([]:ao))=N:=funext λb=>propext (eN b);rw[e1,e2] at ts;exact hd.hide ts hf
 .rw[if_neg hf,mV];refine⟨bD (List.range A.length) F,g0.frz _,⟨f.sub.none ha,λz=>nhid (l8 z)⟩,C,vs,hc,hx,hd.mono λb u e=>?_⟩;obtain⟨g1,g2⟩:=bg.mp e;refine bg.mpr ⟨λz=>g1 ?_,g2⟩;rcases z with z | ⟨j,z⟩
  .exact .inl z
  .obtain⟨z1,z2⟩:=fS z;exfalso;have:∃x,A[j]? = some (some x):=by
    by_cases y:∃x,A[j]? = some (some x)
    .exact y
    .rw[f.em j λx w=>y ⟨x,w⟩] at z2; simp at z2
   obtain⟨x,hx⟩:=this;exact z1 (G1.mpr (eQ hx).1)
theorem iQ {G:Pg}{cl:Nat->ax->Ip.Run}{E:St->XK}{Q:VK}{e:Ex}(f:FrF W E0 N pin A σ H F)(h:match Ip.eval G cl A.sl e with
  | .ok x=>∀v H',FrV W E0 N pin (Ip.settle e.names A x) σ H' x v->Q v H'
  | .exc c fs=>∀a H',FrX W E0 N pin (excA A fs) σ H' c fs a->E σ (.ref a) none H'
  | .bad=>False):bm W G cl e E σ H Q:=by
 have f1:=f.frz e.names;have hN:NOk (aU N (bD e.names F)) H:=λb z=>z.elim (f.nok b) λ⟨j,q⟩=>f1.dom q;refine⟨aU N (bD e.names F),mask e.names A.sl,hN,λi d hi=>?_,?_⟩
 .obtain⟨h1,h2⟩:=on hi;obtain⟨k,h3⟩:=lx h2;exact f.see h1 h3
 rw[<-fK (a:=A.sl) e λi hi=>oa hi];cases q:Ip.eval G cl A.sl e with
 | bad=>rw[q] at h; exact h
 | exc c fs=>
  rw[q] at h;exact λa H' r=>h a H' (f.excIn r)
 | ok x=>
  rw[q] at h;rintro v H' ⟨hs,fp,nd,hf,o⟩;refine h v H' ⟨fp,?_⟩;have hfp:∀b∈fp,H b=none/\H' b≠none:=λb hb=>⟨hf b hb,o.dom b hb⟩
  have fr:∀b∈fp,E0 b=none/\¬N b:=λb hb=>⟨f.sub.none (hf b hb),λz=>f.nok b z (hf b hb)⟩
  unfold Ip.settle;by_cases hb:D.fb x.1 x.2=true
  .rw[if_pos hb];exact⟨F,f.grow hs hfp,nd,fr,o.hide (tu f hs λb z=>z.elim (λy=>.inl (.inl y)) .inr) hb⟩
  .rw[if_neg hb];refine⟨bD e.names F,f1.grow hs hfp,nd,fr,o.mono (λb u e=>?_) λ_ _ _ e=>e⟩;obtain⟨g1,g2⟩:=bg.mp e;refine bg.mpr ⟨λz=>g1 ?_,g2⟩;rcases z with (z | z) | z
   .exact .inl (.inl z)
   .exact .inr z
   .exact .inl (.inr z)
end
end L2
end
section
namespace L2
open PySem PySem.Spec PyProof.Rows
open Ip (D KD Ex Op Pg Fn Sl Fr Wk Tg Tb O SL cK cy cE cF cI cS bW fG evals bL dk excA iz fU gp lQ frz bw bG cz bh oW bb bM lw d7 dS bJ noStar br aR outs pc? pos? pos?_get ps? ck setFs c9 kO dJ eD)
noncomputable def PostS (W:Wd)(E0:Hp)(N:Addr->Prop)(pin:List (Nat×V))(E:St->XK)(Dn:Ends):O->Prop
 | .nx A=>∀σ H F,FrF W E0 N pin A σ H F->Dn.nx σ H
 | .ret k d A=>∀v σ H,FrV W E0 N pin A σ H (k,d) v->Dn.rt v H
 | .brk A=>∀σ H F,FrF W E0 N pin A σ H F->Dn.bk σ H
 | .cnt A=>∀σ H F,FrF W E0 N pin A σ H F->Dn.ct σ H
 | .exc c fs A=>∀e σ H,FrX W E0 N pin A σ H c fs e->E σ (.ref e) none H
 | .bad=>False
def bT (W:Wd)(G:Pg)(n:Nat)(io:ak)(E:St->XK)(s:Ip.S):TS:=λDn σ H=>∃(E0:Hp) (N:Addr->Prop) (pin:List (Nat×V)) (A:Fr) (F:Nat->ao),(∀p∈pin,p.1∈io)/\FrF W E0 N pin A σ H F/\PostS W E0 N pin E Dn (Ip.exec G (Ip.run G n) io A s)
def eI (W:Wd)(G:Pg)(n:Nat)(io:ak)(E:St->XK)(ss:List Ip.S):TS:=λDn σ H=>∃(E0:Hp) (N:Addr->Prop) (pin:List (Nat×V)) (A:Fr) (F:Nat->ao),(∀p∈pin,p.1∈io)/\FrF W E0 N pin A σ H F/\PostS W E0 N pin E Dn (Ip.execs G (Ip.run G n) io A ss)
section
variable {X:Cx}{W:Wd}{G:Pg}{n:Nat}{io:ak}{E:St->XK}{E0:Hp}{N:Addr->Prop}{pin:List (Nat×V)}{A:Fr}{σ:St}{H:Hp}{F:Nat->ao}
def cJ {st:Stmt}:PS X st (bT W G n io E .bad):=λpins s σ H Dn I ⟨_,_,_,_,_,_,_,h⟩=>by
 rw[Ip.BZ] at h; exact h.elim
def Fj:PSs X [] (eI W G n io E []):=CU.mono λDn σ H ⟨_,_,_,_,_,_,f,h⟩=>by
 rw[Ip.rq] at h;exact h _ _ _ f
def Fu {st:Stmt}{sts:aH}{s:Ip.S}{ss:List Ip.S}(h1:PS X st (bT W G n io E s))(h2:PSs X sts (eI W G n io E ss)):PSs X (st::sts) (eI W G n io E (s::ss)):=
 (DZ h1 h2).mono λDn σ H ⟨E0,N,pin,A,F,hp,f,h⟩=>by
  refine⟨E0,N,pin,A,F,hp,f,?_⟩;rw[Ip.md] at h;cases q:Ip.exec G (Ip.run G n) io A s with
  | nx A'=>
   rw[q] at h;exact λσ' H' F' f'=>⟨E0,N,pin,A',F',hp,f',h⟩
  | ret k d A'=>rw[q] at h; exact h
  | brk A'=>rw[q] at h; exact h
  | cnt A'=>rw[q] at h; exact h
  | exc c fs A'=>rw[q] at h; exact h
  | bad=>rw[q] at h; exact h
theorem FrV.set {x:KD}{v:V}{i:Nat}(f:FrV W E0 N pin A σ H x v)(hi:∀p∈pin,p.1≠i)(hl:i<A.length):∃F,FrF W E0 N pin (A.set i (some x)) (σ.set i (some v)) H F:=by
 obtain⟨fp,F,f,nd,fr,o⟩:=f;have hlt:i < σ.length:=by rw[f.len]; exact hl
 refine⟨λj=>if j=i then fp else F j,⟨f.sub,λb z=>f.nok b (.inl z),by rw[GO,GO]; exact f.len,λp hp=>by rw[Gz λz=>hi p hp z.symm]; exact f.pn p hp,λj=>?_,λj k b h1 h2=>?_,λj b h=>?_,λj y h=>?_,λj h=>?_⟩⟩
 .by_cases z:j=i
  .rw[if_pos z]; exact nd
  .rw[if_neg z]; exact f.nd j
 .by_cases z:j=i
  .rw[if_pos z] at h1;by_cases y:k=i
   .rw[z,y]
   .rw[if_neg y] at h2;exact absurd (.inr h1) (f.fr k b h2).2
  .rw[if_neg z] at h1;by_cases y:k=i
   .rw[if_pos y] at h2;exact absurd (.inr h2) (f.fr j b h1).2
   .rw[if_neg y] at h2;exact f.dj j k b h1 h2
 .by_cases z:j=i
  .rw[if_pos z] at h; exact fr b h
  .rw[if_neg z] at h;exact⟨(f.fr j b h).1,λy=>(f.fr j b h).2 (.inl y)⟩
 .have sub:Sub (hid (aU (λb=>N b\/b∈fp) F) H) (hid (aU N λj=>if j=i then fp else F j) H):=λb u e=>by
   obtain⟨g1,g2⟩:=bg.mp e;refine bg.mpr ⟨λz=>g1 ?_,g2⟩;rcases z with z | ⟨k,z⟩
   .exact .inl (.inl z)
   .by_cases y:k=i
    .simp only[if_pos y] at z; exact .inl (.inr z)
    .simp only[if_neg y] at z; exact .inr ⟨k,z⟩
  by_cases z:j=i
  .subst z;rw[GD hl] at h;cases h;refine⟨v,GD hlt,?_⟩;simp only[if_true];exact o.mono sub λ_ _ _ e=>e
  .rw[Gz λy=>z y.symm] at h;obtain⟨w,h1,h2⟩:=f.rel j y h;refine⟨w,by rw[Gz λy=>z y.symm]; exact h1,?_⟩;simp only[if_neg z];exact h2.mono sub λ_ _ _ e=>e
 .by_cases z:j=i
  .subst z;exact absurd (GD hl) (h x)
  .simp only[if_neg z];exact f.em j λy w=>h y (by rw[Gz λy=>z y.symm]; exact w)
def FrF.weaken {E1:Hp}(f:FrF W E1 N pin A σ H F)(h:Sub E0 E1):FrF W E0 N pin A σ H F:=
 ⟨h.trans f.sub,f.nok,f.len,f.pn,f.nd,f.dj,λi b hb=>⟨h.none (f.fr i b hb).1,(f.fr i b hb).2⟩,f.rel,f.em⟩
def PostS.strong {E1:Hp}{Dn:Ends}{o:O}(h:Sub E0 E1)(p:PostS W E0 N pin E Dn o):PostS W E1 N pin E Dn o:=by
 cases o with
 | nx A=>exact λσ H F f=>p σ H F (f.weaken h)
 | ret k d A=>exact λv σ H ⟨fp,F,f,nd,fr,o⟩=>p v σ H ⟨fp,F,f.weaken h,nd,λb hb=>⟨h.none (fr b hb).1,(fr b hb).2⟩,o⟩
 | brk A=>exact λσ H F f=>p σ H F (f.weaken h)
 | cnt A=>exact λσ H F f=>p σ H F (f.weaken h)
 | exc c fs A=>exact λe σ H ⟨F,f,he,q⟩=>p e σ H ⟨F,f.weaken h,⟨h.none he.1,he.2⟩,q⟩
 | bad=>exact p
def lX {Q:VK}{e:Ex}{Dn:Ends}{k:KD->O}(f:FrF W E0 N pin A σ H F)(h:PostS W E0 N pin E Dn ((Ip.eval G (Ip.run G n) A.sl e).toO A k))
  (ok:∀x,Ip.eval G (Ip.run G n) A.sl e=.ok x->PostS W E0 N pin E Dn (k x)->∀v H',FrV W E0 N pin (Ip.settle e.names A x) σ H' x v->Q v H'):bm W G (Ip.run G n) e E σ H Q:=by
 refine iQ f ?_;cases q:Ip.eval G (Ip.run G n) A.sl e with
 | bad=>rw[q] at h; exact h
 | exc c fs=>rw[q] at h; exact λa H' x=>h a σ H' x
 | ok x=>rw[q] at h; exact ok x q h
def qf {e:Ex}{i:Nat}{Dn:Ends}(h:bT W G n io E (.set i e) Dn σ H):bm W G (Ip.run G n) e E σ H λv H1=>Dn.nx (σ.set i (some v)) H1:=by
 obtain⟨E0,N,pin,A,F,hp,f,h⟩:=h;rw[Ip.kC] at h;refine lX f h λx ex hk v H' fv=>?_;unfold ck at hk;by_cases c:io.contains i=false/\i<(Ip.settle e.names A x).length
 .rw[if_pos c] at hk;obtain⟨F',f'⟩:=fv.set (λp hp' z=>by have:=hp p hp'; rw[z] at this; have c1:=c.1; simp[this] at c1) c.2;exact hk _ _ _ f'
 .rw[if_neg c] at hk; exact hk.elim
def FrV.drop {x:KD}{v:V}(h:FrV W E0 N pin A σ H x v):∃F,FrF W E0 N pin A σ H F/\Den W (hid (aU N F) H) v x.2:=by
 obtain⟨fp,F',f',nd,fr,o⟩:=h;refine⟨F',⟨f'.sub,λb z=>f'.nok b (.inl z),f'.len,f'.pn,f'.nd,f'.dj,λi b hb=>⟨(f'.fr i b hb).1,λz=>(f'.fr i b hb).2 (.inl z)⟩,λi y hy=>?_,f'.em⟩,?_⟩
 .obtain⟨w,h1,h2⟩:=f'.rel i y hy;refine⟨w,h1,h2.mono (λb u e=>?_) λ_ _ _ e=>e⟩;obtain⟨g1,g2⟩:=bg.mp e;exact bg.mpr ⟨λz=>g1 (z.imp .inl id),g2⟩
 .refine o.den (λb u e=>?_) λb hb u e=>bg.mpr ⟨λz=>?_,e⟩
  .obtain⟨g1,g2⟩:=bg.mp e;exact bg.mpr ⟨λz=>g1 (z.imp .inl id),g2⟩
  .rcases z with z | ⟨j,z⟩
   .exact (fr b hb).2 z
   .exact (f'.fr j b z).2 (.inr hb)
def rb {e:Ex}{Dn:Ends}(h:bT W G n io E (.ex e) Dn σ H):bm W G (Ip.run G n) e E σ H λv H1=>Dn.nx σ H1:=by
 obtain⟨E0,N,pin,A,F,hp,f,h⟩:=h;rw[Ip.pe] at h;refine lX f h λx ex hk v H' fv=>?_;obtain⟨F',f',_⟩:=fv.drop;exact hk σ H' F' f'
def xD {e:Ex}{Dn:Ends}(hv:∀i,e≠.var i)(h:bT W G n io E (.ret e) Dn σ H):bm W G (Ip.run G n) e E σ H Dn.rt:=by
 obtain⟨E0,N,pin,A,F,hp,f,h⟩:=h;rw[Ip.ou] at h;have e1:Ip.cU A e (Ip.eval G (Ip.run G n) A.sl e)=(Ip.eval G (Ip.run G n) A.sl e).toO A λx=>.ret x.1 x.2 (Ip.settle e.names A x):=by
  cases e <;> first | rfl | exact absurd rfl (hv _)
 rw[e1] at h;exact lX f h λx ex hk v H' fv=>hk v σ H' fv
def FrF.moved {i:Nat}{x:KD}(f:FrF W E0 N pin A σ H F)(q:A[i]? = some (some x)):∃v,σ[i]? = some (some v)/\FrV W E0 N pin (A.set i none) σ H x v:=by
 obtain⟨v,hv,ow⟩:=f.rel i x q;have hl:i<A.length:=(eQ q).1;have eqH:∀b,aU (λb=>N b\/b∈F i) (bD [i] F) b↔aU N F b:=λb=>by
  constructor
  .intro z;rcases z with (z | z) | ⟨j,z⟩
   .exact .inl z
   .exact .inr ⟨i,z⟩
   .exact .inr ⟨j,(fS z).2⟩
  .intro z;rcases z with z | ⟨j,z⟩
   .exact .inl (.inl z)
   .by_cases y:j=i
    .rw[y] at z; exact .inl (.inr z)
    .exact .inr ⟨j,by unfold bD; rw[if_neg (by simpa using y)]; exact z⟩
 have eqF:aU (λb=>N b\/b∈F i) (bD [i] F)=aU N F:=funext λb=>propext (eqH b);refine⟨v,hv,⟨F i,bD [i] F,?_,f.nd i,λb hb=>f.fr i b hb,by rw[eqF]; exact ow⟩⟩;refine⟨f.sub,λb z=>z.elim (f.nok b) λy=>f.dom y,by rw[GO]; exact f.len,f.pn,λj=>?_,λj k b h1 h2=>f.dj j k b (fS h1).2 (fS h2).2,λj b hb=>?_,λj y hy=>?_,λj hj=>?_⟩
 .unfold bD;split
  .exact .nil
  .exact f.nd j
 .obtain⟨z1,z2⟩:=fS hb;refine⟨(f.fr j b z2).1,λz=>z.elim (f.fr j b z2).2 λy=>z1 ?_⟩;rw[f.dj j i b z2 y]; simp
 .by_cases z:j=i
  .subst z;rw[GD hl] at hy; cases hy
  .rw[Gz λy=>z y.symm] at hy;obtain⟨w,h1,h2⟩:=f.rel j y hy;refine⟨w,h1,?_⟩;have:bD [i] F j=F j:=by unfold bD; rw[if_neg (by simpa using z)]
   rw[this,eqF];exact h2
 .unfold bD;by_cases z:j=i
  .rw[if_pos (by simpa using z)]
  .rw[if_neg (by simpa using z)];exact f.em j λy w=>hj y (by rw[Gz λy=>z y.symm]; exact w)
def Ci {i:Nat}{Dn:Ends}(h:bT W G n io E (.ret (.var i)) Dn σ H):∃v,σ[i]? = some (some v)/\Dn.rt v H:=by
 obtain⟨E0,N,pin,A,F,hp,f,h⟩:=h;rw[Ip.ou,Ip.vz] at h;cases q:A[i]? with
 | none=>rw[q] at h; exact h.elim
 | some o=>
  cases o with
  | none=>rw[q] at h; exact h.elim
  | some x=>
   rw[q] at h;obtain⟨v,hv,fv⟩:=f.moved q;exact⟨v,hv,h v σ H fv⟩
def Bz {Q:Bool->Hp->Prop}{e:Ex}{Dn:Ends}{k:Bool->O}(f:FrF W E0 N pin A σ H F)(h:PostS W E0 N pin E Dn (((Ip.eval G (Ip.run G n) A.sl e).bl).toO A k))
  (ok:∀b,PostS W E0 N pin E Dn (k b)->∀H',FrF W E0 N pin A σ H' F->Q b H'):cx W G (Ip.run G n) e E σ H Q:=by
 have f1:=f.frz e.names;have hN:NOk (aU N (bD e.names F)) H:=λb z=>z.elim (f.nok b) λ⟨j,q⟩=>f1.dom q;have grow0:∀H',Sub H H'->FrF W E0 N pin A σ H' F:=λH' hs=>by
  have g:=f.grow hs (fp:=[]) λb z=>by simp at z
  have:(λb=>N b\/b∈([]:ao))=N:=funext λb=>propext (by simp);rw[this] at g; exact g
 refine⟨aU N (bD e.names F),mask e.names A.sl,hN,λi d hi=>?_,?_⟩
 .obtain⟨h1,h2⟩:=on hi;obtain⟨k,h3⟩:=lx h2;exact f.see h1 h3
 rw[<-fK (a:=A.sl) e λi hi=>oa hi];cases q:Ip.eval G (Ip.run G n) A.sl e with
 | bad=>rw[q] at h; exact h
 | exc c fs=>
  rw[q] at h;exact λa H' r=>h a σ H' (f.excIn r)
 | ok x=>
  obtain⟨kx,d⟩:=x;rw[q] at h;cases d <;> try (exact h.elim)
  rename_i b;exact λH' hs=>ok b h H' (grow0 H' hs)
end
section
variable {X:Cx}{W:Wd}{G:Pg}{n:Nat}{io:ak}{E:St->XK}{E0:Hp}{N:Addr->Prop}{pin:List (Nat×V)}{A:Fr}{σ:St}{H:Hp}{F:Nat->ao}
def Ea {c:Ex}{t e:List Ip.S}{Dn:Ends}(h:bT W G n io E (.iff c t e) Dn σ H):kc (cx W G (Ip.run G n) c E) (eI W G n io E t) (eI W G n io E e) Dn σ H:=by
 obtain⟨E0,N,pin,A,F,hp,f,h⟩:=h;rw[Ip.tV] at h;unfold kc;refine Bz f h λb hk H' f'=>?_;cases b with
 | true=>rw[if_pos rfl] at hk ⊢; exact⟨E0,N,pin,A,F,hp,f',hk⟩
 | false=>rw[if_neg (by decide)] at hk ⊢; exact⟨E0,N,pin,A,F,hp,f',hk⟩
def FrF.set0 {v:V}{d:D}{i:Nat}(f:FrF W E0 N pin A σ H F)(hd:Den W (hid (aU N F) H) v d)(hi:∀p∈pin,p.1≠i)(hl:i<A.length):FrF W E0 N pin (A.set i (some (0,d))) (σ.set i (some v)) H (bD [i] F):=by
 have hlt:i < σ.length:=by rw[f.len]; exact hl
 refine⟨f.sub,f.nok,by rw[GO,GO]; exact f.len,λp hp=>by rw[Gz λz=>hi p hp z.symm]; exact f.pn p hp,λj=>?_,λj k b h1 h2=>f.dj j k b (fS h1).2 (fS h2).2,λj b hb=>f.fr j b (fS hb).2,λj y hy=>?_,λj hj=>?_⟩
 .unfold bD;split
  .exact .nil
  .exact f.nd j
 .have sub:Sub (hid (aU N F) H) (hid (aU N (bD [i] F)) H):=λb u e=>bg.mpr ⟨λz=>(bg.mp e).1 (l8 z),(bg.mp e).2⟩;by_cases z:j=i
  .subst z;rw[GD hl] at hy;cases hy;refine⟨v,GD hlt,?_⟩;unfold bD;rw[if_pos (by simp)];exact⟨rfl,hd.mono sub⟩
  .rw[Gz λy=>z y.symm] at hy;obtain⟨w,h1,h2⟩:=f.rel j y hy;refine⟨w,by rw[Gz λy=>z y.symm]; exact h1,?_⟩;have:bD [i] F j=F j:=by unfold bD; rw[if_neg (by simpa using z)]
   rw[this];exact h2.mono sub λ_ _ _ e=>e
 .unfold bD;by_cases z:j=i
  .rw[if_pos (by simpa using z)]
  .rw[if_neg (by simpa using z)];exact f.em j λy w=>hj y (by rw[Gz λy=>z y.symm]; exact w)
def qR {ns:ak}:Sub (hid (aU N F) H) (hid (aU N (bD ns F)) H):=λb u e=>bg.mpr ⟨λz=>(bg.mp e).1 (l8 z),(bg.mp e).2⟩
def o9 {i:Nat}(hp:∀p∈pin,p.1∈io)(h:io.contains i=false):∀p∈pin,p.1≠i:=λp hp' z=>by
 have:=hp p hp';rw[z] at this;simp[this] at h
theorem se {Dn:Ends}{Q:St->Hp->Prop}{k:Fr->O}(hp:∀p∈pin,p.1∈io)(hQ:∀A F σ,FrF W E0 N pin A σ H F->PostS W E0 N pin E Dn (k A)->Q σ H) :
  ∀{is:ak} {vs:aw} {ds:ay} {A:Fr} {σ:St} {F:Nat->ao},Dens W (hid (aU N F) H) vs ds->FrF W E0 N pin A σ H F->PostS W E0 N pin E Dn ((setFs io is (ds.map λd=>(0,d)) A).seq k)->jE is vs σ H Q
 | [],_,_,A,σ,F,.nil,f,h=>⟨rfl,hQ A F σ f h⟩
 | [],_,_,_,_,_,.cons _ _,_,h=>h.elim
 | _::_,_,_,_,_,_,.nil,_,h=>h.elim
 | i::is,_,_,A,σ,F,.cons hd q,f,h=>by
  refine⟨_,_,rfl,?_⟩;show jE is _ (σ.set i (some _)) H Q;simp only[GB,setFs] at h;unfold ck at h;by_cases c:io.contains i=false/\i<A.length
  .rw[if_pos c] at h;exact se hp hQ (q.mono qR) (f.set0 hd (o9 hp c.1) c.2) h
  .rw[if_neg c] at h; exact h.elim
def wg {tg:Tg}{v:V}{d:D}{Dn:Ends}{Q:St->Hp->Prop}{k:Fr->O}(hK:W.K=X.K)(hp:∀p∈pin,p.1∈io)(hd:Den W (hid (aU N F) H) v d)(f:FrF W E0 N pin A σ H F)(h:PostS W E0 N pin E Dn ((cy io tg d A).seq k))
  (hQ:∀A F σ,FrF W E0 N pin A σ H F->PostS W E0 N pin E Dn (k A)->Q σ H):gT X.K tg v σ H Q:=by
 cases tg with
 | one i=>
  simp only[cy] at h;unfold ck at h;by_cases c:io.contains i=false/\i<A.length
  .rw[if_pos c] at h;exact hQ _ _ _ (f.set0 hd (o9 hp c.1) c.2) h
  .rw[if_neg c] at h; exact h.elim
 | many is=>
  cases hd <;> simp only[cy] at h <;> try (exact h.elim)
  .rename_i a vs ds h1 h2;exact .inr ⟨a,vs,rfl,.inl (Rd.sub bS h1),h2.length.trans (len_of h),se hp hQ h2 f h⟩
  .rename_i a vs ds h1 h2;exact .inl ⟨a,vs,rfl,hK ▸ SqT.sub bS h1,h2.length.trans (len_of h),se hp hQ h2 f h⟩
where
 len_of {E0:Hp} {Dn:Ends} {k:Fr->O}:∀{is:ak} {ds:ay} {A:Fr},PostS W E0 N pin E Dn ((setFs io is (ds.map λd=>(0,d)) A).seq k)->ds.length=is.length
  | [],[],_,_=>rfl
  | [],_::_,_,h=>h.elim
  | _::_,[],_,h=>h.elim
  | i::is,d::ds,A,h=>by
   simp only[GB,setFs] at h;unfold ck at h;by_cases c:io.contains i=false/\i<A.length
   .rw[if_pos c] at h;rw[List.length_cons,List.length_cons,len_of h]
   .rw[if_neg c] at h; exact h.elim
def wM {is:ak}{e:Ex}{Dn:Ends}(hK:W.K=X.K)(h:bT W G n io E (.setT is e) Dn σ H):bm W G (Ip.run G n) e E σ H λv H1=>gT X.K (.many is) v σ H1 Dn.nx:=by
 obtain⟨E0,N,pin,A,F,hp,f,h⟩:=h;rw[Ip.wE] at h;refine lX f h λx ex hk v H' fv=>?_;obtain⟨F',f',dv⟩:=fv.drop;have sq:∀o:O,(o.seq λA=>.nx A)=o:=λo=>by cases o <;> rfl
 have eb:Ip.gL io is e A x=cy io (.many is) x.2 (Ip.settle e.names A x):=by
  obtain⟨k,d⟩:=x;cases d <;> rfl
 rw[eb,<-sq (cy io (.many is) x.2 (Ip.settle e.names A x))] at hk;exact wg hK hp dv f' hk λA F σ f h=>h σ H' F f
def Ai {wk:Wk}{it:aG}{R:It->Hp->Prop}{Dn:Ends}{k:ax->O}(f:FrF W E0 N pin A σ H F)(h:PostS W E0 N pin E Dn ((evals G (Ip.run G n) A.sl it).toO A k))(nb:∀vs,PostS W E0 N pin E Dn (k vs)->∃ds,dJ wk vs=some ds)
  (ok:∀vs ds,dJ wk vs=some ds->PostS W E0 N pin E Dn (k vs)->∀J H',Sub H H'->ItD W (aU N (bD (Ip.Wk.fz wk it) F)) H' J ds->R J H'):gE W G (Ip.run G n) wk it E σ H R:=by
 have f1:=f.frz (Ex.namess it);have hN:NOk (aU N (bD (Ex.namess it) F)) H:=λb z=>z.elim (f.nok b) λ⟨j,q⟩=>f1.dom q;refine⟨aU N (bD (Ex.namess it) F),mask (Ex.namess it) A.sl,hN,λi d hi=>?_,?_⟩
 .obtain⟨h1,h2⟩:=on hi;obtain⟨k,h3⟩:=lx h2;exact f.see h1 h3
 rw[<-zAH (a:=A.sl) it λi hi=>oa hi];cases q:evals G (Ip.run G n) A.sl it with
 | bad=>rw[q] at h; exact h
 | exc c fs=>rw[q] at h; exact λa H' r=>h a σ H' (f.excIn r)
 | ok vs=>
  rw[q] at h;obtain⟨ds,e⟩:=nb vs h;simp only[e];refine λJ H' hs hJ hr=>ok vs ds e h J H' hs ?_;unfold Ip.Wk.fz;by_cases hw:wk.rng=true
  .rw[if_pos hw]; exact hr hw _
  .rw[if_neg hw]; exact hJ
def zV {tg:Tg}{wk:Wk}{it:aG}{b:List Ip.S}{Dn:Ends}(hK:W.K=X.K)(h:bT W G n io E (.fo tg wk it b) Dn σ H):lr (gE W G (Ip.run G n) wk it E) (gT X.K tg) (eI W G n io E b) Dn σ H:=by
 obtain⟨E0,N,pin,A,F,hp,f,h⟩:=h;rw[Ip.pN] at h;unfold lr;have pre:∀vs,PostS W E0 N pin E Dn (lQ G (bM (gp G (Ip.run G n) io tg b)) wk it A vs)->∃ds,dJ wk vs=some ds/\ds.length<=SL/\PostS W E0 N pin E Dn (bM (gp G (Ip.run G n) io tg b) ds (frz (Ip.Wk.fz wk it) A)):=λvs hv=>by
  unfold lQ at hv;cases q:dJ wk vs with
  | none=>rw[q] at hv; exact hv.elim
  | some ds=>
   rw[q] at hv;simp only at hv;by_cases hl:ds.length<=SL
   .rw[if_pos hl] at hv; exact⟨ds,rfl,hl,hv⟩
   .rw[if_neg hl] at hv; exact hv.elim
 refine Ai f h (λvs hv=>by obtain⟨ds,e,_⟩:=pre vs hv; exact⟨ds,e⟩) λvs ds e hv J H1 hs hJ=>?_;obtain⟨ds',e',hl,hq⟩:=pre vs hv;rw[e] at e';cases e';have f0:=f.frz (Ip.Wk.fz wk it);have f1:FrF W E0 N pin (frz (Ip.Wk.fz wk it) A) σ H1 (bD (Ip.Wk.fz wk it) F):=by
  have g:=f0.grow hs (fp:=[]) λb z=>by simp at z
  have:(λb=>N b\/b∈([]:ao))=N:=funext λb=>propext (by simp);rw[this] at g; exact g
 have hE1:Sub E0 (hid (λb=>∃j,b∈bD (Ip.Wk.fz wk it) F j) H1):=λb o eb=>bg.mpr ⟨(λ⟨j,z⟩=>by rw[(f1.fr j b z).1] at eb; cases eb),f1.sub b o eb⟩;have f2:FrF W (hid (λb=>∃j,b∈bD (Ip.Wk.fz wk it) F j) H1) N pin (frz (Ip.Wk.fz wk it) A) σ H1 (bD (Ip.Wk.fz wk it) F):=
  ⟨bS,f1.nok,f1.len,f1.pn,f1.nd,f1.dj,λi b hb=>⟨by
   cases q:hid (λb=>∃j,b∈bD (Ip.Wk.fz wk it) F j) H1 b with
   | none=>rfl
   | some o=>exact absurd ⟨i,hb⟩ (bg.mp q).1,(f1.fr i b hb).2⟩,f1.rel,f1.em⟩
 have hvis:∀b o,hid (aU N (bD (Ip.Wk.fz wk it) F)) H1 b=some o->¬N b/\hid (λb=>∃j,b∈bD (Ip.Wk.fz wk it) F j) H1 b=some o:=λb o e=>by
  obtain⟨g1,g2⟩:=bg.mp e;exact⟨λz=>g1 (.inl z),bg.mpr ⟨λz=>g1 (.inr z),g2⟩⟩
 generalize hid (λb=>∃j,b∈bD (Ip.Wk.fz wk it) F j) H1=E1 at hE1 f2 hvis;refine⟨λi m σ H=>i<=ds.length/\m=ds.length - i/\∃A F,FrF W E1 N pin A σ H F/\PostS W E0 N pin E Dn (bM (gp G (Ip.run G n) io tg b) (ds.drop i) A),⟨ds.length,Hr _,by omega,_,_,f2,by simpa using hq⟩,?_⟩;rintro i m σ1 Hc ⟨hi,rfl,A1,F1,f3,p3⟩;have hsub:Sub (hid (aU N (bD (Ip.Wk.fz wk it) F)) H1) (hid (aU N F1) Hc):=λb o e=>by
  obtain⟨g1,g2⟩:=hvis b o e;refine bg.mpr ⟨λz=>?_,f3.sub b o g2⟩;rcases z with z | ⟨j,z⟩
  .exact g1 z
  .rw[(f3.fr j b z).1] at g2; cases g2
 have hN3:NOk (aU N F1) Hc:=λb z=>z.elim (f3.nok b) λ⟨j,q⟩=>f3.dom q;obtain⟨J1,J2⟩:=hJ (aU N F1) Hc hsub hN3 i;by_cases hlt:i<ds.length
 .have hdrop:ds.drop i=ds[i]::ds.drop (i+1):=HU hlt;rw[hdrop,bM] at p3;obtain⟨Jg,Jy⟩:=J1 ds[i] (by simp[hlt]);refine .inr ⟨Jg,λσ H=>∃A F,FrF W E1 N pin A σ H F/\PostS W E0 N pin E Dn (bM (gp G (Ip.run G n) io tg b) (ds.drop (i+1)) A),λσ' H' ⟨A',F',f',p'⟩=>⟨ds.length - (i+1),by omega,hlt,rfl,A',F',f',p'⟩,λx H' hy=>?_⟩;obtain⟨s3,dx⟩:=Jy x H' hy;have f4:FrF W E1 N pin A1 σ1 H' F1:=by
   have g:=f3.grow s3 (fp:=[]) λb z=>by simp at z
   have:(λb=>N b\/b∈([]:ao))=N:=funext λb=>propext (by simp);rw[this] at g; exact g
  have turn:PostS W E1 N pin E { Dn with nx:=λσ H=>∃A F,FrF W E1 N pin A σ H F/\PostS W E0 N pin E Dn (bM (gp G (Ip.run G n) io tg b) (ds.drop (i+1)) A),ct:=λσ H=>∃A F,FrF W E1 N pin A σ H F/\PostS W E0 N pin E Dn (bM (gp G (Ip.run G n) io tg b) (ds.drop (i+1)) A),bk:=Dn.nx }
    (gp G (Ip.run G n) io tg b ds[i] A1):=by
   cases q:gp G (Ip.run G n) io tg b ds[i] A1 with
   | nx A'=>rw[q] at p3; exact λσ H F f=>⟨A',F,f,p3⟩
   | cnt A'=>rw[q] at p3; exact λσ H F f=>⟨A',F,f,p3⟩
   | brk A'=>rw[q] at p3; exact λσ H F f=>p3 σ H F (f.weaken hE1)
   | ret k d A'=>
    rw[q] at p3;exact PostS.strong (Dn:=Dn) (o:=.ret k d A') hE1 p3
   | exc c fs A'=>
    rw[q] at p3;exact PostS.strong (Dn:=Dn) (o:=.exc c fs A') hE1 p3
   | bad=>rw[q] at p3; exact p3
  unfold gp at turn;exact wg hK hp dx f4 turn λA2 F2 σ2 g p=>⟨E1,N,pin,A2,F2,hp,g,p⟩
 .have e:i=ds.length:=by omega
  subst e;rw[Io (Nat.le_refl _),bM] at p3;exact .inl ⟨J2 (bI _),p3 _ _ _ (f3.weaken hE1)⟩
end
section
variable {X:Cx}{W:Wd}{G:Pg}{n:Nat}{io:ak}{E:St->XK}{E0:Hp}{N:Addr->Prop}{pin:List (Nat×V)}{A:Fr}{σ:St}{H:Hp}{F:Nat->ao}
def FrF.upd {fp fx:ao}{x:Nat}{l:Addr}{v0:V}{y:KD}{H2:Hp}(f:FrF W E0 (λb=>N b\/b∈fp) pin A σ H F)(fr:∀b∈fp,E0 b=none/\¬N b)(hl:l∈F x)(hx:x<A.length)(hσ:σ[x]? = some (some v0))(hfx:fx.Nodup)(hin:∀b∈fx,b∈F x\/b∈fp)
  (h12:∀b,b≠l->∀u,H b=some u->H2 b=some u)(h2l:H2 l≠none)(hy:Own W (hid (aU N λj=>if j=x then fx else F j) H2) H2 y.1 v0 y.2 fx):FrF W E0 N pin (A.set x (some y)) σ H2 λj=>if j=x then fx else F j:=by
 have l0:E0 l=none:=(f.fr x l hl).1;have mem:∀j b,b∈(if j=x then fx else F j)->(j=x/\b∈fx)\/(j≠x/\b∈F j):=λj b h=>by
  by_cases z:j=x
  .rw[if_pos z] at h; exact .inl ⟨z,h⟩
  .rw[if_neg z] at h; exact .inr ⟨z,h⟩
 refine⟨λb u e=>h12 b (λz=>by rw[z,l0] at e; cases e) u (f.sub b u e),λb z=>?_,by rw[GO]; exact f.len,f.pn,λj=>?_,λi j b h1 h2=>?_,λj b h=>?_,λj z hz=>?_,λj hj=>?_⟩
 .by_cases q:b=l
  .rw[q]; exact h2l
  .have:=f.nok b (.inl z);cases e:H b with
   | none=>exact absurd e this
   | some u=>rw[h12 b q u e]; simp
 .by_cases z:j=x
  .simp only[if_pos z]; exact hfx
  .simp only[if_neg z]; exact f.nd j
 .rcases mem i b h1 with ⟨z1,q1⟩ | ⟨z1,q1⟩ <;> rcases mem j b h2 with ⟨z2,q2⟩ | ⟨z2,q2⟩
  .rw[z1,z2]
  .rcases hin b q1 with w | w
   .exact absurd (f.dj j x b q2 w) z2
   .exact absurd (.inr w) (f.fr j b q2).2
  .rcases hin b q2 with w | w
   .exact absurd (f.dj i x b q1 w) z1
   .exact absurd (.inr w) (f.fr i b q1).2
  .exact f.dj i j b q1 q2
 .rcases mem j b h with ⟨z,q⟩ | ⟨z,q⟩
  .rcases hin b q with w | w
   .exact⟨(f.fr x b w).1,λy=>(f.fr x b w).2 (.inl y)⟩
   .exact fr b w
  .exact⟨(f.fr j b q).1,λy=>(f.fr j b q).2 (.inl y)⟩
 .by_cases q:j=x
  .subst q;rw[GD hx] at hz;cases hz;exact⟨_,hσ,by simp only[if_true]; exact hy⟩
  .rw[Gz λy=>q y.symm] at hz;obtain⟨w,h1,h2⟩:=f.rel j z hz;refine⟨w,h1,?_⟩;simp only[if_neg q];refine h2.mono (λb u e=>?_) λb hb u e=>h12 b (λy=>q (f.dj j x b hb (y ▸ hl))) u e;obtain⟨g1,g2⟩:=bg.mp e;have bl:b≠l:=λy=>g1 (.inr ⟨x,y ▸ hl⟩);refine bg.mpr ⟨λy=>?_,h12 b bl u g2⟩;rcases y with y | ⟨i,y⟩
   .exact g1 (.inl (.inl y))
   .rcases mem i b y with ⟨z1,q1⟩ | ⟨z1,q1⟩
    .rcases hin b q1 with w | w
     .exact g1 (.inr ⟨x,w⟩)
     .exact g1 (.inl (.inr w))
    .exact g1 (.inr ⟨i,q1⟩)
 .by_cases q:j=x
  .subst q;exact absurd (GD hx) (hj y)
  .simp only[if_neg q];exact f.em j λz w=>hj z (by rw[Gz λy=>q y.symm]; exact w)
theorem OwnL.snoc {P:V->D->ao->Prop}{v:V}{d:D}{g:ao}(h:P v d g):∀{vs ds fp},OwnL P vs ds fp->OwnL P (vs++[v]) (ds++[d]) (fp++g)
 | _,_,_,.nil=>by simpa using OwnL.cons h .nil
 | _,_,_,.cons h0 q=>by
  rw[List.cons_append,List.cons_append,Jh];exact .cons h0 (OwnL.snoc h q)
def yR {x:Nat}{k:Nat}{xs:ay}{v:KD}{w:V}(fv:FrV W E0 N pin A σ H v w)(hx:A[x]? = some (some (k+1,.lst xs))) :
  ∃l ws,σ[x]? = some (some (.ref l))/\H l=some (.lst ws)/\ws.length=xs.length/\∃F',FrF W E0 N pin (A.set x (some (cK k xs v+1,.lst (xs++[v.2])))) σ (upd H l (.lst (ws++[w]))) F':=by
 obtain⟨fp,F,f,nd,fr,o⟩:=fv;obtain⟨z,hσ,l,ws,fq,rfl,e2,e3,e4⟩:=f.rel x _ hx;have hl:l∈F x:=by rw[e4]; exact bZ
 have hxl:x<A.length:=(eQ hx).1;have ndx:=f.nd x;rw[e4] at ndx;obtain⟨lq,ndq⟩:=GN.mp ndx;have lfp:l∉fp:=λz=>(f.fr x l hl).2 (.inr z);have qF:∀b∈fq,b∈F x:=λb hb=>by rw[e4]; exact bQ _ hb
 have h12:∀b,b≠l->∀u,H b=some u->(L2.upd H l (.lst (ws++[w]))) b=some u:=λb nb u e=>by rw[bP nb]; exact e
 refine⟨l,ws,hσ,e2,e3.length,?_⟩;have deep:∀j,br j v=true->(xs.all λd=>br j (k,d))=true->∃F',FrF W E0 N pin (A.set x (some (j+1,.lst (xs++[v.2])))) σ (L2.upd H l (.lst (ws++[w]))) F':=λj h1 h2=>by
  refine⟨_,f.upd (fx:=l::(fq++fp)) (y:=(j+1,.lst (xs++[v.2]))) fr hl hxl hσ ?_ (λb hb=>?_) h12 (by rw[cm]; simp) ⟨l,_,fq++fp,rfl,cm,?_,rfl⟩⟩
  .refine GN.mpr ⟨λz=>(dN z).elim lq lfp,GP.mpr ⟨ndq,nd,λb hb c hc z=>?_⟩⟩;subst z;exact (f.fr x b (qF b hb)).2 (.inr hc)
  .rcases cH hb with z | z
   .rw[z]; exact .inl hl
   .exact (dN z).imp (qF b) id
  .have sub:Sub (hid (aU (λb=>N b\/b∈fp) F) H) (hid (aU N λi=>if i=x then l::(fq++fp) else F i) (L2.upd H l (.lst (ws++[w])))):=λb u e=>by
    obtain⟨g1,g2⟩:=bg.mp e;have bl:b≠l:=λy=>g1 (.inr ⟨x,y ▸ hl⟩);refine bg.mpr ⟨λy=>?_,h12 b bl u g2⟩;rcases y with y | ⟨i,y⟩
    .exact g1 (.inl (.inl y))
    .by_cases z:i=x
     .simp only[if_pos z] at y;rcases cH y with q | q
      .exact bl q
      .rcases dN q with q | q
       .exact g1 (.inr ⟨x,qF b q⟩)
       .exact g1 (.inl (.inr q))
     .simp only[if_neg z] at y;exact g1 (.inr ⟨i,y⟩)
   refine OwnL.snoc ((o.at h1).mono sub λb hb u e=>h12 b (λz=>lfp (z ▸ hb)) u e) ?_;have e5:=e3.re (Q:=Own W (hid (aU (λb=>N b\/b∈fp) F) H) H j) (b:=λd=>br j (k,d)) (λv d g hb o=>Own.at hb o) h2;exact e5.imp λv d g hg o=>o.mono sub λb hb u e=>h12 b (λz=>lq (z ▸ hg b hb)) u e
 unfold cK;by_cases c1:br k v=true
 .rw[if_pos c1];refine deep k c1 (List.all_eq_true.mpr λd _=>?_);unfold br;simp
 .rw[if_neg c1];by_cases c2:(xs.all λd=>br v.1 (k,d))=true
  .rw[if_pos c2];refine deep v.1 ?_ c2;unfold br;simp
  .rw[if_neg c2];refine⟨_,f.upd (fx:=[l]) (y:=(1,.lst (xs++[v.2]))) fr hl hxl hσ (by simp) (λb hb=>by rw[Gx.mp hb]; exact .inl hl) h12 (by rw[cm]; simp) ⟨l,_,[],rfl,cm,OwnL.zero ?_,rfl⟩⟩;have sub:Sub (hid (aU (λb=>N b\/b∈fp) F) H) (hid (aU N λi=>if i=x then [l] else F i) (L2.upd H l (.lst (ws++[w])))):=λb u e=>by
    obtain⟨g1,g2⟩:=bg.mp e;have bl:b≠l:=λy=>g1 (.inr ⟨x,y ▸ hl⟩);refine bg.mpr ⟨λy=>?_,h12 b bl u g2⟩;rcases y with y | ⟨i,y⟩
    .exact g1 (.inl (.inl y))
    .by_cases z:i=x
     .simp only[if_pos z] at y; exact bl (Gx.mp y)
     .simp only[if_neg z] at y;exact g1 (.inr ⟨i,y⟩)
   have see:∀b,(b∈fq\/b∈fp)->∀u,H b=some u->hid (aU N λi=>if i=x then [l] else F i) (L2.upd H l (.lst (ws++[w]))) b=some u:=λb hb u e=>by
    have bl:b≠l:=λz=>hb.elim (λy=>lq (z ▸ y)) λy=>lfp (z ▸ y);refine bg.mpr ⟨λy=>?_,h12 b bl u e⟩;rcases y with y | ⟨i,y⟩
    .rcases hb with q | q
     .exact (f.fr x b (qF b q)).2 (.inl y)
     .exact (fr b q).2 y
    .by_cases z:i=x
     .simp only[if_pos z] at y; exact bl (Gx.mp y)
     .simp only[if_neg z] at y;rcases hb with q | q
      .exact z (f.dj i x b y (qF b q))
      .exact (f.fr i b y).2 (.inr q)
   exact (e3.dens λv d g hg o=>o.den sub λb hb u e=>see b (.inl (hg b hb)) u e).append (.cons (o.den sub λb hb u e=>see b (.inr hb) u e) .nil)
def D1 {x:Nat}{e:Ex}{Dn:Ends}(hK:W.K=X.K)(h:bT W G n io E (.mut x [] .append [e]) Dn σ H):cM (gY X.K "list" gB (c8 x) (cC (bm W G (Ip.run G n) e E) eH)) Dn σ H:=by
 obtain⟨E0,N,pin,A,F,hp,f,h⟩:=h;rw[iz] at h;by_cases c:cz A[x]? = true
 rotate_left
 .rw[if_neg c] at h; exact h.elim
 rw[if_pos c] at h;have hs:∃k xs,A[x]? = some (some (k,.lst xs)):=by
  cases q:A[x]? with
  | none=>rw[q] at c; cases c
  | some o=>
   rw[q] at c;cases o with
   | none=>cases c
   | some y=>
    obtain⟨k,d⟩:=y;cases d <;> first | exact⟨k,_,rfl⟩ | cases c
 obtain⟨k,xs,hx⟩:=hs;obtain⟨v,hv,ow⟩:=f.rel x _ hx;have dv:Den W H v (.lst xs):=ow.den bS λ_ _ _ e=>e;unfold cM gY;refine⟨v,hv,?_,?_⟩
 .cases dv with | @lst l ws _ h1 h2=>?_
  exact .inl ⟨rfl,ws,.inl h1⟩
 simp only[dk,bL,Ip.R.toO,Ip.R.bind] at h;unfold cC;refine iQ f ?_;cases q:Ip.eval G (Ip.run G n) A.sl e with
 | bad=>rw[q] at h; exact h
 | exc c fs=>rw[q] at h; exact λa H' r=>h a σ H' r
 | ok y=>
  rw[q] at h;simp only[dS] at h;have e1:(if ([y].all λv=>v.2.fb v.1)=true then A else frz (Ex.namess [e]) A)=Ip.settle e.names A y:=by
   unfold Ip.settle;simp
  rw[e1] at h;intro w H1 fv;cases q2:(Ip.settle e.names A y)[x]? with
  | none=>rw[q2] at h; exact h.elim
  | some o=>
   rw[q2] at h;cases o with
   | none=>exact h.elim
   | some z=>
    obtain⟨k',d⟩:=z;cases k' with
    | zero=>cases d <;> exact h.elim
    | succ k'=>
     cases d <;> try (exact h.elim)
     rename_i ys;simp only[d7,Ip.vG] at h;by_cases hl:ys.length<SL
     .rw[if_pos hl] at h;obtain⟨l,ws,g1,g2,g3,F',g4⟩:=yR fv q2;rw[hv] at g1;cases g1;exact⟨l,ws,w,rfl,rfl,g2,by rw[g3]; exact d6 hl (by decide),h _ _ _ g4⟩
     .rw[if_neg hl] at h; exact h.elim
end
theorem OwnF.put {att:au}{P:V->D->ao->Prop}(nd:att.Nodup){f:Nat}{n:Str}{v:V}{d:D}{g:ao}(hn:att[f]? = some n)(h:P v d g):∀{vs ds fp},OwnF att P vs ds fp->(fp++g).Nodup ->
  ∃fz:ao,OwnF att P (putF n v vs) (Ip.putF f d ds) fz/\fz.Nodup/\∀b∈fz,b∈fp\/b∈g
 | _,_,_,.nil,hd=>⟨g,by
   have:=OwnF.cons hn h (OwnF.nil (att:=att) (P:=P));rw[HJ] at this;exact this,by simpa using hd,λb hb=>.inr hb⟩
 | _,_,_,.cons (n:=m) (i:=i) (f:=f0) (g:=g0) hi h0 q,hd=>by
  unfold putF Ip.putF;have hd1:=GP.mp hd;have hd2:=GP.mp hd1.1;by_cases e:i=f
  .subst e;have:m=n:=by rw[hn] at hi; exact (cG hi).symm
   subst this;rw[if_pos rfl,if_pos rfl];refine⟨g++g0,.cons hi h q,GP.mpr ⟨hd1.2.1,hd2.2.1,λa ha b hb z=>?_⟩,λb hb=>?_⟩
   .exact hd1.2.2 b (cP _ hb) a ha z.symm
   .rcases dN hb with z | z
    .exact .inr z
    .exact .inl (cP _ z)
  .have nm:m≠n:=λz=>e (pP nd hi (by rw[z]; exact hn));rw[if_neg e,if_neg nm];obtain⟨fz,k1,k2,k3⟩:=q.put nd hn h (GP.mpr ⟨hd2.2.1,hd1.2.1,λa ha b hb z=>hd1.2.2 a (cP _ ha) b hb z⟩);refine⟨f0++fz,.cons hi h0 k1,GP.mpr ⟨hd2.1,k2,λa ha b hb z=>?_⟩,λb hb=>?_⟩
   .rcases k3 b hb with w | w
    .exact hd2.2.2 a ha b w z
    .exact hd1.2.2 a (fj _ ha) b w z
   .rcases dN hb with z | z
    .exact .inl (fj _ z)
    .exact (k3 b z).imp (cP _) id
theorem OwnF.length {att:au}{P:V->D->ao->Prop}:∀{vs ds fp},OwnF att P vs ds fp->vs.length=ds.length
 | _,_,_,.nil=>rfl
 | _,_,_,.cons _ _ q=>by rw[List.length_cons,List.length_cons,q.length]
theorem OwnF.zero {W:Wd}{S H:Hp}:∀{vs ds},DenF W S vs ds->OwnF W.att (Own W S H 0) vs ds []
 | _,_,.nil=>.nil
 | _,_,.cons hf h q=>OwnF.cons (f:=[]) (g:=[]) hf ⟨rfl,h⟩ (OwnF.zero q)
section
variable {X:Cx}{W:Wd}{G:Pg}{n:Nat}{io:ak}{E:St->XK}{E0:Hp}{N:Addr->Prop}{pin:List (Nat×V)}{A:Fr}{σ:St}{H:Hp}{F:Nat->ao}
def uP {x k f:Nat}{nm:Str}{l:Addr}{fs:List aK}{ws:List (Str×V)}{fq fp:ao}{v:KD}{w:V}{H2:Hp}(nda:W.att.Nodup)(hnm:W.att[f]? = some nm)(fr0:FrF W E0 (λb=>N b\/b∈fp) pin A σ H F)(nd:fp.Nodup)(fr:∀b∈fp,E0 b=none/\¬N b)
  (o:Own W (hid (aU (λb=>N b\/b∈fp) F) H) H v.1 w v.2 fp)(hxl:x<A.length)(hσ:σ[x]? = some (some (.ref l)))(e4:F x=l::fq)(e3:OwnF W.att (Own W (hid (aU (λb=>N b\/b∈fp) F) H) H k) ws fs fq)
  (h12:∀b,b≠l->∀u,H b=some u->H2 b=some u)(h2l:H2 l≠none){dd:D}
  (own:∀j fz S,OwnF W.att (Own W S H2 j) (putF nm w ws) (Ip.putF f v.2 fs) fz->Own W S H2 (j+1) (.ref l) dd (l::fz)) :
  ∃F',FrF W E0 N pin (A.set x (some (cK k (fs.map (·.2)) v+1,dd))) σ H2 F':=by
 have hl:l∈F x:=by rw[e4]; exact bZ
 have ndx:=fr0.nd x;rw[e4] at ndx;obtain⟨lq,ndq⟩:=GN.mp ndx;have lfp:l∉fp:=λz=>(fr0.fr x l hl).2 (.inr z);have qF:∀b∈fq,b∈F x:=λb hb=>by rw[e4]; exact bQ _ hb
 have ndc:(fq++fp).Nodup:=GP.mpr ⟨ndq,nd,λb hb c hc z=>by subst z; exact (fr0.fr x b (qF b hb)).2 (.inr hc)⟩;have sub:∀fz:ao,(∀b∈fz,b∈fq\/b∈fp)->Sub (hid (aU (λb=>N b\/b∈fp) F) H) (hid (aU N λi=>if i=x then l::fz else F i) H2):=λfz hz b u e=>by
  obtain⟨g1,g2⟩:=bg.mp e;have bl:b≠l:=λy=>g1 (.inr ⟨x,y ▸ hl⟩);refine bg.mpr ⟨λy=>?_,h12 b bl u g2⟩;rcases y with y | ⟨i,y⟩
  .exact g1 (.inl (.inl y))
  .by_cases z:i=x
   .simp only[if_pos z] at y;rcases cH y with q | q
    .exact bl q
    .rcases hz b q with q | q
     .exact g1 (.inr ⟨x,qF b q⟩)
     .exact g1 (.inl (.inr q))
   .simp only[if_neg z] at y;exact g1 (.inr ⟨i,y⟩)
 have deep:∀j,br j v=true->((fs.map (·.2)).all λd=>br j (k,d))=true->∃F',FrF W E0 N pin (A.set x (some (j+1,dd))) σ H2 F':=λj h1 h2=>by
  have e5:=e3.re (Q:=Own W (hid (aU (λb=>N b\/b∈fp) F) H) H j) (b:=λd=>br j (k,d)) (λv d g hb o=>Own.at hb o) (by rw[List.all_map] at h2; exact h2);obtain⟨fz,k1,k2,k3⟩:=e5.put nda hnm (o.at h1) ndc;have lz:l∉fz:=λz=>(k3 l z).elim lq lfp;refine⟨_,fr0.upd (fx:=l::fz) (y:=(j+1,dd)) fr hl hxl hσ (GN.mpr ⟨lz,k2⟩) (λb hb=>?_) h12 h2l (own j fz _ (k1.imp λv d g hg o=>o.mono (sub fz k3) λb hb u e=>h12 b (λz=>lz (z ▸ hg b hb)) u e))⟩;rcases cH hb with z | z
  .rw[z]; exact .inl hl
  .exact (k3 b z).imp (qF b) id
 unfold cK;by_cases c1:br k v=true
 .rw[if_pos c1];refine deep k c1 (List.all_eq_true.mpr λd _=>?_);unfold br;simp
 .rw[if_neg c1];by_cases c2:((fs.map (·.2)).all λd=>br v.1 (k,d))=true
  .rw[if_pos c2];refine deep v.1 ?_ c2;unfold br;simp
  .rw[if_neg c2];have sub0:=sub [] (λb z=>by simp at z);have see:∀b,(b∈fq\/b∈fp)->∀u,H b=some u->hid (aU N λi=>if i=x then [l] else F i) H2 b=some u:=λb hb u e=>by
    have bl:b≠l:=λz=>hb.elim (λy=>lq (z ▸ y)) λy=>lfp (z ▸ y);refine bg.mpr ⟨λy=>?_,h12 b bl u e⟩;rcases y with y | ⟨i,y⟩
    .rcases hb with q | q
     .exact (fr0.fr x b (qF b q)).2 (.inl y)
     .exact (fr b q).2 y
    .by_cases z:i=x
     .simp only[if_pos z] at y; exact bl (Gx.mp y)
     .simp only[if_neg z] at y;rcases hb with q | q
      .exact z (fr0.dj i x b y (qF b q))
      .exact (fr0.fr i b y).2 (.inr q)
   have dn:DenF W (hid (aU N λi=>if i=x then [l] else F i) H2) (putF nm w ws) (Ip.putF f v.2 fs):=
    (e3.dens λv d g hg o=>o.den sub0 λb hb u e=>see b (.inl (hg b hb)) u e).put nda hnm (o.den sub0 λb hb u e=>see b (.inr hb) u e)
   exact⟨_,fr0.upd (fx:=[l]) (y:=(1,dd)) fr hl hxl hσ (by simp) (λb hb=>by rw[Gx.mp hb]; exact .inl hl) h12 h2l (own 0 [] _ (OwnF.zero dn))⟩
def yf {x k:Nat}{nm:Str}{e:Ex}{Dn:Ends}{fl:ak}(hK:W.K=X.K)(cf:CF W fl)(hk:k∈fl)(hnm:W.att[k]? = some nm)(h:bT W G n io E (.sfld x k e) Dn σ H) :
  iP X.K (c8 x) (bm W G (Ip.run G n) e E) nm Dn σ H\/hG X.K (c8 x) (bm W G (Ip.run G n) e E) nm Dn σ H:=by
 obtain⟨E0,N,pin,A,F,hp,f,h⟩:=h;rw[Ip.As] at h;cases q:Ip.eval G (Ip.run G n) A.sl e with
 | bad=>rw[q] at h; exact h.elim
 | exc c fs=>
  refine .inl ?_;unfold iP;refine iQ f ?_;rw[q] at h ⊢;exact λa H' r=>h a σ H' r
 | ok v=>
  rw[q] at h;simp only[Ip.R.toO] at h;cases q2:(Ip.settle e.names A v)[x]? with
  | none=>rw[q2] at h; exact h.elim
  | some oo=>
   rw[q2] at h;cases oo with
   | none=>exact h.elim
   | some z=>
    obtain⟨k',d⟩:=z;have hxl:x<(Ip.settle e.names A v).length:=(eQ q2).1;cases k' with
    | zero=>cases d <;> exact h.elim
    | succ k'=>
     cases d <;> try (exact h.elim)
     .rename_i c fs;simp only[Ip.gA] at h;by_cases hl:fs.length<50
      rotate_left
      .rw[if_neg hl] at h; exact h.elim
      rw[if_pos hl] at h;refine .inl ?_;unfold iP;refine iQ f ?_;rw[q];rintro w H1 ⟨fp,F1,f1,nd,fr,o⟩;obtain⟨z,hσ,a,C,dx,ws,fq,rfl,e2,hC,e3,e4⟩:=f1.rel x _ q2;obtain⟨ic,na⟩:=cf.ins c C hC;refine⟨_,hσ,a,C,dx,ws,rfl,e2,hK ▸ ic.cls,hK ▸ na k nm hk hnm,by rw[e3.length]; omega,?_⟩;obtain⟨F',g⟩:=uP (H2:=L2.upd H1 a (.ins C dx (putF nm w ws))) (dd:=.ins c (Ip.putF k v.2 fs)) cf.nd hnm f1 nd fr o hxl hσ e4 e3 (λb nb u e=>by rw[bP nb]; exact e) (by rw[cm]; simp)
       (λj fz S hz=>⟨a,C,dx,_,fz,rfl,cm,hC,hz,rfl⟩)
      exact h _ _ _ g
     .rename_i c fs;simp only[Ip.gA] at h;by_cases hl:fs.length<50
      rotate_left
      .rw[if_neg hl] at h; exact h.elim
      rw[if_pos hl] at h;refine .inr ?_;unfold hG;refine iQ f ?_;rw[q];rintro w H1 ⟨fp,F1,f1,nd,fr,o⟩;obtain⟨z,hσ,a,C,nw,ws,fq,rfl,e2,hC,e3,e4⟩:=f1.rel x _ q2;obtain⟨ic,na⟩:=cf.exc c C hC.1;obtain⟨fI,tl,T⟩:=ic.xc;refine⟨_,hσ,a,C,fI,tl,nw,ws,rfl,e2,hK ▸ T,hK ▸ na k nm hk hnm,by rw[e3.length]; omega,λH3 h3 h4=>?_⟩;obtain⟨F',g⟩:=uP (H2:=H3) (dd:=.exc c (Ip.putF k v.2 fs)) cf.nd hnm f1 nd fr o hxl hσ e4 e3 (λb nb u e=>h4 b u nb e) (by rw[h3]; simp)
       (λj fz S hz=>⟨a,C,nw,_,fz,rfl,h3,hC,hz,rfl⟩)
      exact h _ _ _ g
end
section
variable {X:Cx}{W:Wd}{G:Pg}{n:Nat}{io:ak}{E:St->XK}{E0:Hp}{N:Addr->Prop}{pin:List (Nat×V)}{A:Fr}{σ:St}{H:Hp}{F:Nat->ao}
def pD {x k:Nat}{xs:ay}{v:KD}{w:V}(fv:FrV W E0 N pin A σ H v w)(hx:A[x]? = some (some (k+1,.lst xs))) :
  ∃l ws,σ[x]? = some (some (.ref l))/\H l=some (.lst ws)/\ws.length=xs.length/\Dens W H ws xs/\Den W H w v.2 /\
   ∀ws' ds',(∀S,Dens W S ws xs->Den W S w v.2->Dens W S ws' ds')->∃F',FrF W E0 N pin (A.set x (some (1,.lst ds'))) σ (upd H l (.lst ws')) F':=by
 obtain⟨fp,F,f,nd,fr,o⟩:=fv;obtain⟨z,hσ,l,ws,fq,rfl,e2,e3,e4⟩:=f.rel x _ hx;have hl:l∈F x:=by rw[e4]; exact bZ
 have hxl:x<A.length:=(eQ hx).1;have ndx:=f.nd x;rw[e4] at ndx;obtain⟨lq,ndq⟩:=GN.mp ndx;have lfp:l∉fp:=λz=>(f.fr x l hl).2 (.inr z);have qF:∀b∈fq,b∈F x:=λb hb=>by rw[e4]; exact bQ _ hb
 refine⟨l,ws,hσ,e2,e3.length,e3.dens λv d g hg o=>o.den bS λb hb u e=>e,o.den bS λb hb u e=>e,λws' ds' hd=>?_⟩;have h12:∀b,b≠l->∀u,H b=some u->(L2.upd H l (.lst ws')) b=some u:=λb nb u e=>by rw[bP nb]; exact e
 refine⟨_,f.upd (fx:=[l]) (y:=(1,.lst ds')) fr hl hxl hσ (by simp) (λb hb=>by rw[Gx.mp hb]; exact .inl hl) h12 (by rw[cm]; simp) ⟨l,_,[],rfl,cm,OwnL.zero ?_,rfl⟩⟩;have sub:Sub (hid (aU (λb=>N b\/b∈fp) F) H) (hid (aU N λi=>if i=x then [l] else F i) (L2.upd H l (.lst ws'))):=λb u e=>by
  obtain⟨g1,g2⟩:=bg.mp e;have bl:b≠l:=λy=>g1 (.inr ⟨x,y ▸ hl⟩);refine bg.mpr ⟨λy=>?_,h12 b bl u g2⟩;rcases y with y | ⟨i,y⟩
  .exact g1 (.inl (.inl y))
  .by_cases z:i=x
   .simp only[if_pos z] at y; exact bl (Gx.mp y)
   .simp only[if_neg z] at y;exact g1 (.inr ⟨i,y⟩)
 have see:∀b,(b∈fq\/b∈fp)->∀u,H b=some u->hid (aU N λi=>if i=x then [l] else F i) (L2.upd H l (.lst ws')) b=some u:=λb hb u e=>by
  have bl:b≠l:=λz=>hb.elim (λy=>lq (z ▸ y)) λy=>lfp (z ▸ y);refine bg.mpr ⟨λy=>?_,h12 b bl u e⟩;rcases y with y | ⟨i,y⟩
  .rcases hb with q | q
   .exact (f.fr x b (qF b q)).2 (.inl y)
   .exact (fr b q).2 y
  .by_cases z:i=x
   .simp only[if_pos z] at y; exact bl (Gx.mp y)
   .simp only[if_neg z] at y;rcases hb with q | q
    .exact z (f.dj i x b y (qF b q))
    .exact (f.fr i b y).2 (.inr q)
 exact hd _ (e3.dens λv d g hg o=>o.den sub λb hb u e=>see b (.inl (hg b hb)) u e) (o.den sub λb hb u e=>see b (.inr hb) u e)
theorem Den.scal {S S':Hp}{v:V}{d:D}(hs:d.scal=true)(h:Den W S v d):Den W S' v d:=by
 cases h <;> first | exact .non | exact .bl | exact .int | exact .str | (simp[D.scal] at hs)
theorem Dens.scal {S S':Hp}:∀{vs:aw} {ds:ay},ds.all D.scal=true->Dens W S vs ds->Dens W S' vs ds
 | _,_,_,.nil=>.nil
 | _,_,hs,.cons h q=>by
  rw[List.all_cons,tw] at hs;exact .cons (h.scal hs.1) (q.scal hs.2)
def rV {x:Nat}(c:cz A[x]? = true):∃k xs,A[x]? = some (some (k,.lst xs)):=by
 cases q:A[x]? with
 | none=>rw[q] at c; cases c
 | some o=>
  rw[q] at c;cases o with
  | none=>cases c
  | some y=>
   obtain⟨k,d⟩:=y;cases d <;> first | exact⟨k,_,rfl⟩ | cases c
def Bc {x:Nat}{e:Ex}{Dn:Ends}(hK:W.K=X.K)(h:bT W G n io E (.mut x [] .extend [e]) Dn σ H):cM (gY X.K "list" (jN X.K) (c8 x) (cC (bm W G (Ip.run G n) e E) eH)) Dn σ H:=by
 obtain⟨E0,N,pin,A,F,hp,f,h⟩:=h;rw[iz] at h;by_cases c:cz A[x]? = true
 rotate_left
 .rw[if_neg c] at h; exact h.elim
 rw[if_pos c] at h;obtain⟨k,xs,hx⟩:=rV c;obtain⟨v,hv,ow⟩:=f.rel x _ hx;have dv:Den W H v (.lst xs):=ow.den bS λ_ _ _ e=>e;unfold cM gY;refine⟨v,hv,?_,?_⟩
 .cases dv with | @lst l ws _ h1 h2=>?_
  exact .inl ⟨rfl,ws,.inl h1⟩
 simp only[dk,bL,Ip.R.toO,Ip.R.bind] at h;unfold cC;refine iQ f ?_;cases q:Ip.eval G (Ip.run G n) A.sl e with
 | bad=>rw[q] at h; exact h
 | exc c fs=>rw[q] at h; exact λa H' r=>h a σ H' r
 | ok y=>
  rw[q] at h;simp only[dS] at h;have e1:(if ([y].all λv=>v.2.fb v.1)=true then A else frz (Ex.namess [e]) A)=Ip.settle e.names A y:=by
   unfold Ip.settle;simp
  rw[e1] at h;intro w H1 fv;cases q2:(Ip.settle e.names A y)[x]? with
  | none=>rw[q2] at h; exact h.elim
  | some o=>
   rw[q2] at h;cases o with
   | none=>exact h.elim
   | some z=>
    obtain⟨k',d⟩:=z;cases k' with
    | zero=>cases d <;> exact h.elim
    | succ k'=>
     cases d <;> try (exact h.elim)
     rename_i ys;simp only[d7,Ip.vH] at h;obtain⟨j,dy⟩:=y;cases dy <;> try (exact h.elim)
     rename_i zs;simp only at h;by_cases hl:zs.all D.scal=true/\ys.length+zs.length<=SL
     .rw[if_pos hl] at h;obtain⟨l,ws,g1,g2,g3,g4,g5,g6⟩:=pD fv q2;rw[hv] at g1;cases g1;cases g5 with | @tup b vs _ t1 t2=>?_
      obtain⟨F',g7⟩:=g6 (ws++vs) (ys++zs) λS hS _=>hS.append (t2.scal hl.1);refine⟨l,b,ws,vs,rfl,rfl,g2,hK ▸ t1,by rw[g3,t2.length]; exact ji hl.2,h _ _ _ g7⟩
     .rw[if_neg hl] at h; exact h.elim
theorem Dens.setI {S:Hp}{v:V}{d:D}(h:Den W S v d):∀{vs:aw} {ds:ay} (j:Nat),Dens W S vs ds->Dens W S (vs.set j v) (ds.set j d)
 | _,_,_,.nil=>.nil
 | _,_,0,.cons _ q=>.cons h q
 | _,_,j+1,.cons h0 q=>.cons h0 (q.setI h j)
theorem Dens.erase {S:Hp}:∀{vs:aw} {ds:ay} (j:Nat),Dens W S vs ds->Dens W S (vs.eraseIdx j) (ds.eraseIdx j)
 | _,_,_,.nil=>.nil
 | _,_,0,.cons _ q=>q
 | _,_,j+1,.cons h0 q=>.cons h0 (q.erase j)
theorem Dens.at {S:Hp}{d:D}:∀{vs:aw} {ds:ay} (j:Nat),Dens W S vs ds->ds[j]? = some d->∃v,vs[j]? = some v/\Den W S v d
 | _,_,_,.nil,e=>by simp at e
 | v::_,_,0,.cons h q,e=>by
  cases e;exact⟨v,rfl,h⟩
 | _,_,j+1,.cons h0 q,e=>by
  obtain⟨v,e1,e2⟩:=q.at j (by simpa using e);exact⟨v,by simpa using e1,e2⟩
def FrF.lwr {j k:Nat}{xs:ay}(f:FrF W E0 N pin A σ H F)(hj:A[j]? = some (some (k,.lst xs))):∃F' a vs,FrF W E0 N pin (lw A j) σ H F'/\σ[j]? = some (some (.ref a))/\Rd H a (.lst vs)/\Dens W (hid (aU N F') H) vs xs:=by
 obtain⟨w,s1,o⟩:=f.rel j _ hj;cases k with
 | zero=>
  have e:lw A j=A:=by unfold lw; rw[hj]
  rw[e];have d:=o.2;cases d with | @lst a vs _ h1 h2=>?_
  exact⟨F,a,vs,f,s1,Rd.sub bS h1,h2⟩
 | succ k=>
  obtain⟨a,vs,fq,rfl,e2,e3,e4⟩:=o;have e:lw A j=A.set j (some (1,.lst xs)):=by unfold lw; rw[hj]
  have hjl:j<A.length:=(eQ hj).1;have nd:=f.nd j;rw[e4] at nd;have aq:=(GN.mp nd).1;have am:a∈F j:=by rw[e4]; exact bZ
  have fm:∀i b,b∈(if i=j then [a] else F i)->b∈F i:=λi b h=>by
   by_cases z:i=j
   .rw[if_pos z] at h; rw[Gx.mp h,z]; exact am
   .rw[if_neg z] at h; exact h
  have hs:Sub (hid (aU N F) H) (hid (aU N λi=>if i=j then [a] else F i) H):=λb u e=>by
   obtain⟨g1,g2⟩:=bg.mp e;exact bg.mpr ⟨λz=>g1 (z.imp id λ⟨i,q⟩=>⟨i,fm i b q⟩),g2⟩
  have dn:Dens W (hid (aU N λi=>if i=j then [a] else F i) H) vs xs:=e3.dens λv d g hg o=>o.den hs λb hb u e=>by
   have bq:=hg b hb;have bF:b∈F j:=by rw[e4]; exact bQ _ bq
   refine bg.mpr ⟨λz=>?_,e⟩;rcases z with z | ⟨i,z⟩
   .exact (f.fr j b bF).2 z
   .have hij:=f.dj i j b (fm i b z) bF;subst hij;have z':b∈(if i=i then [a] else F i):=z;rw[if_pos rfl] at z';exact aq ((Gx.mp z') ▸ bq)
  rw[e];refine⟨_,a,vs,⟨f.sub,f.nok,by rw[GO]; exact f.len,f.pn,λi=>?_,λi l b h1 h2=>f.dj i l b (fm i b h1) (fm l b h2),λi b h=>f.fr i b (fm i b h),λi x hx=>?_,λi hx=>?_⟩,s1,.inl e2,dn⟩
  .show (if i=j then [a] else F i).Nodup;split
   .simp
   .exact f.nd i
  .by_cases z:i=j
   .subst z;rw[GD hjl] at hx;cases hx;exact⟨_,s1,a,vs,[],rfl,e2,.zero dn,if_pos rfl⟩
   .rw[Gz (λy=>z y.symm)] at hx;obtain⟨v,h1,o⟩:=f.rel i x hx;refine⟨v,h1,?_⟩;show Own W _ H x.1 v x.2 (if i=j then [a] else F i);rw[if_neg z];exact o.mono hs λ_ _ _ e=>e
  .by_cases z:i=j
   .subst z; exact absurd (GD hjl) (hx _)
   .show (if i=j then [a] else F i)=[];rw[if_neg z]; exact f.em i λx y=>hx x (by rw[Gz (λq=>z q.symm)]; exact y)
def El {i j:Nat}{e:Ex}{Dn:Ends}(h:bT W G n io E (.setI i j e) Dn σ H):kX (kN X.K) (c8 j) (bm W G (Ip.run G n) e E) σ H λv H1=>Dn.nx (σ.set i (some v)) H1:=by
 obtain⟨E0,N,pin,A,F,hp,f,h⟩:=h;rw[Ip.vP] at h;cases qj:Ip.lstK A[j]? with
 | none=>rw[qj] at h; exact h.elim
 | some z=>
  obtain⟨k,xs⟩:=z;rw[qj] at h;have hj:=Ip.DU qj;obtain⟨w,s1,_⟩:=f.rel j _ hj;refine⟨w,s1,lX f h λx ex hk v H' fv=>?_⟩;obtain⟨kx,d⟩:=x;cases d <;> try (exact hk.elim)
  rename_i n';have es:Ip.settle e.names A (kx,.int n')=A:=if_pos (by cases kx <;> rfl);rw[es] at fv;obtain⟨F',f',dv⟩:=fv.drop;cases dv;simp only[Ip.ie] at hk;cases qd:(Ip.dR xs.length n').bind λm=>xs[m]? with
  | none=>rw[qd] at hk; exact hk.elim
  | some d=>
   rw[qd] at hk;obtain⟨m,ej,ed⟩:=cX qd;have go:∀{A':Fr} {F1:Nat->ao} {a:Addr} {vs:aw},FrF W E0 N pin A' σ H' F1->PostS W E0 N pin E Dn (ck io i (0,d) A')->w=.ref a->Rd H' a (.lst vs)->Dens W (hid (aU N F1) H') vs xs->kN X.K w (.int n') H' λv H1=>Dn.nx (σ.set i (some v)) H1:=by
    intro A' F1 a vs f1 hk hw hr hv;obtain⟨u,eu,du⟩:=hv.get ed;refine⟨a,vs,n',u,hw,rfl,.inl hr,?_,?_⟩
    .unfold lj;have:kr vs.length n'=some m:=by rw[hv.length]; exact ej
     rw[this]; exact eu
    .unfold ck at hk;by_cases c:io.contains i=false/\i<A'.length
     .rw[if_pos c] at hk;exact hk _ _ _ (f1.set0 du (λp hp' z=>by have:=hp p hp'; rw[z] at this; have c1:=c.1; simp[this] at c1) c.2)
     .rw[if_neg c] at hk; exact hk.elim
   obtain⟨F1,a,vs,f1,t1,hr,hv⟩:=f'.lwr hj;rw[s1] at t1;cases t1;exact go f1 hk rfl hr hv
def xN {x j:Nat}{e:Ex}{Dn:Ends}(h:bT W G n io E (.put x [] (.var j) e) Dn σ H):kQ (c8 x) (c8 j) (bm W G (Ip.run G n) e E) Dn σ H:=by
 obtain⟨E0,N,pin,A,F,hp,f,h⟩:=h;rw[Ip.uT] at h;simp only[List.isEmpty_nil,if_true] at h;unfold kQ;refine iQ f ?_;cases q:Ip.eval G (Ip.run G n) A.sl e with
 | bad=>rw[q] at h; exact h
 | exc c fs=>rw[q] at h; exact λa H' r=>h a σ H' r
 | ok y=>
  rw[q] at h;simp only[Ip.R.toO,Ip.gM] at h;cases qj:A.sl[j]? with
  | none=>rw[qj] at h; exact h.elim
  | some oj=>
   cases oj with
   | none=>rw[qj] at h; exact h.elim
   | some dj=>
    rw[qj] at h;simp only at h;intro w H1 fv;cases q2:(Ip.settle e.names A y)[x]? with
    | none=>rw[q2] at h; exact h.elim
    | some o=>
     rw[q2] at h;cases o with
     | none=>exact h.elim
     | some z=>
      obtain⟨k',d⟩:=z;cases k' with
      | zero=>cases d <;> exact h.elim
      | succ k'=>
       cases d <;> try (exact h.elim)
       rename_i ys;simp only[Ip.iU] at h;cases dj <;> try (exact h.elim)
       rename_i i;simp only at h;by_cases hl:0<=i/\i<(ys.length:Int)
       .rw[if_pos hl] at h;obtain⟨l,ws,g1,g2,g3,g4,g5,g6⟩:=pD fv q2;obtain⟨F',g7⟩:=g6 (ws.set i.toNat w) (ys.set i.toNat y.2) λS hS hw=>hS.setI hw _;obtain⟨kj,hj⟩:=lx qj;obtain⟨vj,s1,s2⟩:=f.rel j _ hj;have dj:Den W H vj (.int i):=s2.den bS λ_ _ _ e=>e;cases dj;exact⟨.ref l,g1,.int i,s1,l,ws,i,rfl,rfl,g2,hl.1,by rw[g3]; exact hl.2,h _ _ _ g7⟩
       .rw[if_neg hl] at h; exact h.elim
end
section
variable {X:Cx}{W:Wd}{G:Pg}{n:Nat}{io:ak}{E:St->XK}{E0:Hp}{N:Addr->Prop}{pin:List (Nat×V)}{A:Fr}{σ:St}{H:Hp}{F:Nat->ao}
theorem Dens.isI {S:Hp}:∀{vs:aw} {ds:ay},Dens W S vs ds->ds.all D.isI=true->vs.all f7=true/\ds.all D.scal=true
 | _,_,.nil,_=>⟨rfl,rfl⟩
 | _,_,.cons (d:=d) h q,hs=>by
  rw[List.all_cons,tw] at hs;obtain⟨i1,i2⟩:=q.isI hs.2;cases d with
  | int i=>
   rw[h.int_inv,List.all_cons,List.all_cons,i1,i2];exact⟨rfl,rfl⟩
  | _=>cases hs.1
def zC {x:Nat}{e:Ex}{Dn:Ends}(h:bT W G n io E (.mut x [] .remove [e]) Dn σ H):cM (gY X.K "list" gD (c8 x) (cC (bm W G (Ip.run G n) e E) eH)) Dn σ H:=by
 obtain⟨E0,N,pin,A,F,hp,f,h⟩:=h;rw[iz] at h;by_cases c:cz A[x]? = true
 rotate_left
 .rw[if_neg c] at h; exact h.elim
 rw[if_pos c] at h;obtain⟨k,xs,hx⟩:=rV c;obtain⟨v,hv,ow⟩:=f.rel x _ hx;have dv:Den W H v (.lst xs):=ow.den bS λ_ _ _ e=>e;unfold cM gY;refine⟨v,hv,?_,?_⟩
 .cases dv with | @lst l ws _ h1 h2=>?_
  exact .inl ⟨rfl,ws,.inl h1⟩
 simp only[dk,bL,Ip.R.toO,Ip.R.bind] at h;unfold cC;refine iQ f ?_;cases q:Ip.eval G (Ip.run G n) A.sl e with
 | bad=>rw[q] at h; exact h
 | exc c fs=>rw[q] at h; exact λa H' r=>h a σ H' r
 | ok y=>
  rw[q] at h;simp only[dS] at h;have e1:(if ([y].all λv=>v.2.fb v.1)=true then A else frz (Ex.namess [e]) A)=Ip.settle e.names A y:=by
   unfold Ip.settle;simp
  rw[e1] at h;intro w H1 fv;cases q2:(Ip.settle e.names A y)[x]? with
  | none=>rw[q2] at h; exact h.elim
  | some o=>
   rw[q2] at h;cases o with
   | none=>exact h.elim
   | some z=>
    obtain⟨k',d⟩:=z;cases k' with
    | zero=>cases d <;> exact h.elim
    | succ k'=>
     cases d <;> try (exact h.elim)
     rename_i ys;simp only[d7,Ip.vm] at h;obtain⟨j,dy⟩:=y;cases dy <;> try (exact h.elim)
     rename_i i;simp only at h;by_cases hl:ys.all D.isI=true
     .rw[if_pos hl] at h;cases hf:D.find (.int i) ys with
      | none=>rw[hf] at h; exact h.elim
      | some j=>
       rw[hf] at h;obtain⟨l,ws,g1,g2,g3,g4,g5,g6⟩:=pD fv q2;rw[hv] at g1;cases g1;obtain⟨i1,i2⟩:=g4.isI hl;have fi:=Dens.find g5 rfl g4 i2;have e5:=g5.int_inv;subst e5;obtain⟨F',g7⟩:=g6 (ws.eraseIdx j) (ys.eraseIdx j) λS hS _=>hS.erase j;exact⟨l,ws,i,j,rfl,rfl,g2,i1,fi.trans hf,h _ _ _ g7⟩
     .rw[if_neg hl] at h; exact h.elim
def DM {d:D}(k:Nat)(h:d.scal=true):D.fb k d=true:=by
 cases d <;> simp at h <;> cases k <;> rfl
def Ce {x j:Nat}{e:Ex}{Dn:Ends}(h:bT W G n io E (.mut x [] .insert [e,.var j]) Dn σ H):cM (gY X.K "list" gI (c8 x) (cC (bm W G (Ip.run G n) e E) (cC (c8 j) eH))) Dn σ H:=by
 obtain⟨E0,N,pin,A,F,hp,f,h⟩:=h;rw[iz] at h;by_cases c:cz A[x]? = true
 rotate_left
 .rw[if_neg c] at h; exact h.elim
 rw[if_pos c] at h;obtain⟨k,xs,hx⟩:=rV c;obtain⟨v,hv,ow⟩:=f.rel x _ hx;have dv:Den W H v (.lst xs):=ow.den bS λ_ _ _ e=>e;unfold cM gY;refine⟨v,hv,?_,?_⟩
 .cases dv with | @lst l ws _ h1 h2=>?_
  exact .inl ⟨rfl,ws,.inl h1⟩
 simp only[dk,bL,Ip.R.toO,Ip.R.bind] at h;unfold cC;refine iQ f ?_;cases q:Ip.eval G (Ip.run G n) A.sl e with
 | bad=>rw[q] at h; exact h
 | exc c fs=>rw[q] at h; exact λa H' r=>h a σ H' r
 | ok y=>
  rw[q] at h;cases qj:Ip.eval G (Ip.run G n) A.sl (.var j) with
  | bad=>rw[qj] at h; exact h.elim
  | exc c fs=>
   rw[Ip.gM] at qj;split at qj <;> cases qj
  | ok u=>
   rw[qj] at h;simp only[dS] at h;rw[Ip.gM] at qj;obtain⟨d,hd,eu⟩:∃d,A.sl[j]? = some (some d)/\u=(0,d):=by
    split at qj
    .rename_i d hd; cases qj; exact⟨d,hd,rfl⟩
    .cases qj
   subst eu;obtain⟨kj,hj⟩:=lx hd;generalize hB:(if ([y,((0:Nat),d)].all λv=>v.2.fb v.1)=true then A else frz (Ex.namess [e,.var j]) A)=B at h;cases q2:B[x]? with
   | none=>rw[q2] at h; exact h.elim
   | some o=>
    rw[q2] at h;cases o with
    | none=>exact h.elim
    | some z=>
     obtain⟨k',d'⟩:=z;cases k' with
     | zero=>cases d' <;> exact h.elim
     | succ k'=>
      cases d' <;> try (exact h.elim)
      rename_i ys;simp only[d7,Ip.rX] at h;obtain⟨jy,dy⟩:=y;cases dy <;> try (exact h.elim)
      rename_i i;simp only at h;by_cases hl:0<=i/\i.toNat<=ys.length/\ys.length<SL
      .rw[if_pos hl] at h;have b1:D.fb jy (.int i)=true:=DM jy rfl;intro w H1 fv;have es:Ip.settle e.names A (jy,.int i)=A:=by
        unfold Ip.settle;simp[b1]
       rw[es] at fv;obtain⟨F1,f1,d1⟩:=fv.drop;have ew:=d1.int_inv;subst ew;obtain⟨vj,hσj,oj⟩:=f1.rel j _ hj;obtain⟨F2,f2,dj⟩:∃F2,FrF W E0 N pin B σ H1 F2/\Den W (hid (aU N F2) H1) vj d:=by
        by_cases b2:D.fb 0 d=true
        .rw[if_pos (by simp only[List.all_cons,List.all_nil,b1,b2,Bool.and_self])] at hB;rw[<-hB];exact⟨F1,f1,(Own.flat_inv b2 oj).2⟩
        .rw[if_neg (by simp only[List.all_cons,List.all_nil,b1,b2,Bool.and_false,Bool.false_and]; exact GX)] at hB;rw[<-hB];have g:=f1.frz (Ex.namess [e,.var j]);have hm:j∈Ex.namess [e,.var j]:=by simp[Ex.namess,Ex.names]
         obtain⟨v2,h2,o2⟩:=g.rel j (0,d) (by rw[mU,if_pos hm,hj]; rfl);rw[hσj] at h2;cases h2;exact⟨_,g,o2.2⟩
       have fw:FrV W E0 N pin B σ H1 (0,d) vj:=by
        have e:(λb=>N b\/b∈([]:ao))=N:=by
         funext b
         simp
        exact⟨[],F2,by rw[e]; exact f2,.nil,λb z=>by simp at z,⟨rfl,by rw[e]; exact dj⟩⟩
       obtain⟨l,ws,g1,g2,g3,g4,g5,g6⟩:=pD fw q2;rw[hv] at g1;cases g1;obtain⟨F',g7⟩:=g6 (ws.take i.toNat++vj::ws.drop i.toNat) (ys.take i.toNat++d::ys.drop i.toNat) λS hS hw=>(hS.take _).append (.cons hw (hS.drop _));exact⟨vj,hσj,l,ws,i,vj,rfl,rfl,g2,hl.1,by rw[g3]; exact hl.2.1,by rw[g3]; exact d6 hl.2.2 (ji (bI _)),h _ _ _ g7⟩
      .rw[if_neg hl] at h; exact h.elim
end
section
variable {X:Cx}{W:Wd}{G:Pg}{n:Nat}{io:ak}{E:St->XK}{E0:Hp}{N:Addr->Prop}{pin:List (Nat×V)}{A:Fr}{σ:St}{H:Hp}{F:Nat->ao}
def FrX.freeze {c:Nat}{fs:List aK}{e:Addr}(h:FrX W E0 N pin A σ H c fs e):FrX W E0 N pin (excA A fs) σ H c fs e:=by
 obtain⟨F,f,he,C,vs,h1,h2,h3⟩:=h;unfold excA;split
 .exact⟨F,f,he,C,vs,h1,h2,h3⟩
 .rw[mV];exact⟨_,f.frz _,⟨he.1,λz=>he.2 (l8 z)⟩,C,vs,h1,h2,h3.mono qR⟩
def Am {c:Nat}{es:aG}{Dn:Ends}{fl:ak}(hK:W.K=X.K)(cf:CF W fl)(h:bT W G n io E (.rais c es) Dn σ H):gk X.K (bm W G (Ip.run G n) (.make c es) E) E Dn σ H:=by
 obtain⟨E0,N,pin,A,F,hp,f,h⟩:=h;rw[Ip.yX] at h;unfold gk;refine lX f h λx ex hk v H' hZz=>?_;obtain⟨fp,F1,f1,nd,fr,o⟩:=hZz;obtain⟨kx,d⟩:=x;cases kx with
 | zero=>cases d <;> exact hk.elim
 | succ kx=>
  have hd:∃c' fs,d=.exc c' fs:=by
   cases d <;> first | exact⟨_,_,rfl⟩ | exact hk.elim
  obtain⟨c',fs,rfl⟩:=hd;simp only[Ip.iw] at hk;obtain⟨a,C,nw,vs,fq,rfl,e2,⟨hC,hnw⟩,e3,e4⟩:=o;subst hnw;obtain⟨ic,_⟩:=cf.exc c' C hC;obtain⟨fI,tl,T⟩:=ic.xc;have ha:a∈fp:=by rw[e4]; exact bZ
  have nd':=nd;rw[e4] at nd';obtain⟨aq,ndq⟩:=GN.mp nd';have up:∀b,b≠a->(L2.upd H' a (.exc C false vs)) b=H' b:=λb nb=>bP nb;have sub:Sub (hid (aU (λb=>N b\/b∈fp) F1) H') (hid (aU N F1) (L2.upd H' a (.exc C false vs))):=λb u e=>by
   obtain⟨g1,g2⟩:=bg.mp e;have ba:b≠a:=λz=>g1 (.inl (.inr (z ▸ ha)));refine bg.mpr ⟨λz=>g1 (z.imp .inl id),by rw[up b ba]; exact g2⟩
  refine⟨a,C,tl,vs,rfl,e2,hK ▸ T.toXO,hk a σ _ (FrX.freeze ⟨F1,?_,⟨(fr a ha).1,λz=>z.elim (fr a ha).2 λ⟨j,y⟩=>(f1.fr j a y).2 (.inr ha)⟩,C,vs,cm,hC,?_⟩)⟩
  .refine⟨λb u e=>?_,λb z=>?_,f1.len,f1.pn,f1.nd,f1.dj,λi b hb=>⟨(f1.fr i b hb).1,λz=>(f1.fr i b hb).2 (.inl z)⟩,λi y hy=>?_,f1.em⟩
   .rw[up b λz=>by rw[z,(fr a ha).1] at e; cases e]; exact f1.sub b u e
   .by_cases q:b=a
    .rw[q,cm]; simp
    .rw[up b q]; exact f1.nok b (.inl z)
   .obtain⟨w,h1,h2⟩:=f1.rel i y hy;exact⟨w,h1,h2.mono sub λb hb u e=>by rw[up b λz=>(f1.fr i b hb).2 (.inr (z ▸ ha))]; exact e⟩
  .refine e3.dens λv d g hg o=>o.den sub λb hb u e=>?_;have bq:=hg b hb;have ba:b≠a:=λz=>aq (z ▸ bq);have bf:b∈fp:=by rw[e4]; exact bQ _ bq
   refine bg.mpr ⟨λz=>?_,by rw[up b ba]; exact e⟩;rcases z with z | ⟨j,z⟩
   .exact (fr b bf).2 z
   .exact (f1.fr j b z).2 (.inr bf)
def rW {Q:aw->Hp->Prop}{es:aG}{Dn:Ends}{k:ax->O}(f:FrF W E0 N pin A σ H F)(h:PostS W E0 N pin E Dn ((evals G (Ip.run G n) A.sl es).toO A k))
  (ok:∀xs,evals G (Ip.run G n) A.sl es=.ok xs->PostS W E0 N pin E Dn (k xs)->∀vs H',FrF W E0 N pin A σ H' F->Dens W H' vs (xs.map (·.2))->Q vs H'):ci W G (Ip.run G n) es E σ H Q:=by
 have f1:=f.frz (Ex.namess es);have hN:NOk (aU N (bD (Ex.namess es) F)) H:=λb z=>z.elim (f.nok b) λ⟨j,q⟩=>f1.dom q;refine⟨aU N (bD (Ex.namess es) F),mask (Ex.namess es) A.sl,hN,λi d hi=>?_,?_⟩
 .obtain⟨h1,h2⟩:=on hi;obtain⟨k,h3⟩:=lx h2;exact f.see h1 h3
 rw[<-zAH (a:=A.sl) es λi hi=>oa hi];cases q:evals G (Ip.run G n) A.sl es with
 | bad=>rw[q] at h; exact h
 | exc c fs=>rw[q] at h; exact λa H' r=>h a σ H' (f.excIn r)
 | ok xs=>
  rw[q] at h;intro vs H' r;have g:=f.grow r.1 (fp:=[]) λb z=>by simp at z
  have:(λb=>N b\/b∈([]:ao))=N:=funext λb=>propext (by simp);rw[this] at g;exact ok xs q h vs H' g ((r.dens hN).mono bS)
def Bj {es:aG}{Dn:Ends}{fl:ak}(hK:W.K=X.K)(cf:CF W fl)(hl:es.length<=100)(h:bT W G n io E (.xinit es) Dn σ H):cM (gj X.K (ci W G (Ip.run G n) es E)) Dn σ H:=by
 obtain⟨E0,N,pin,A,F,hp,f,h⟩:=h;rw[Ip.CT] at h;unfold cM gj;refine rW f h λxs ex hk vs H' f' dv=>?_;have hlen:=jz ex;match xs,vs,dv,hk with
 | [],_,_,hk=>exact hk.elim
 | (k,d)::xs,v::vs,.cons h1 h2,hk=>
  cases h1 <;> try (exact hk.elim)
  rename_i a C nw c ws ds e1 e2 e3;obtain⟨ic,_⟩:=cf.exc c C e2;obtain⟨fI,tl,T⟩:=ic.xc;refine⟨a,C,fI,tl,nw,ws,vs,rfl,?_,e1,hK ▸ T,hk _ _ _ f'⟩;rw[h2.length,GA];rw[List.length_cons] at hlen;omega
def FrX.caught {c i x:Nat}{fs:List aK}{e:Addr}(h:FrX W E0 N pin A σ H c fs e)(hx:∀p∈pin,p.1≠x)(hi:∀p∈pin,p.1≠i)(hix:i≠x)(hl:x<A.length) :
  ∃F,FrF W E0 N pin ((A.set x (some (0,.exc c fs))).set i none) (((σ.set i (some (.ref e))).set x (some (.ref e))).set i none) H F:=by
 obtain⟨F,f,he,C,vs,h1,h2,h3⟩:=h;have hd:Den W (hid (aU N F) H) (.ref e) (.exc c fs):=.exc (bg.mpr ⟨he.2,h1⟩) h2 h3;have g:=f.set0 hd hx hl;have sub:Sub (hid (aU N (bD [x] F)) H) (hid (aU N (bD [i] (bD [x] F))) H):=qR;have e1:((σ.set i (some (.ref e))).set x (some (.ref e))).set i none=(σ.set x (some (.ref e))).set i none:=by
  apply HG;intro j;by_cases z:i=j
  .subst z;simp only[List.getElem?_set_self',Gz (λy=>hix y.symm)];simp
  .rw[Gz z,Gz z];by_cases y:x=j
   .subst y;simp[JT]
   .rw[Gz y,Gz y,Gz z]
 rw[e1];refine⟨bD [i] (bD [x] F),g.sub,g.nok,by simpa using g.len,λp hp=>by rw[Gz λz=>hi p hp z.symm]; exact g.pn p hp,λj=>?_,λj k b q1 q2=>g.dj j k b (fS q1).2 (fS q2).2,λj b hb=>g.fr j b (fS hb).2,λj y hy=>?_,λj hj=>?_⟩
 .unfold bD;split
  .exact .nil
  .exact g.nd j
 .by_cases z:j=i
  .subst z;by_cases w:j<(A.set x (some (0,.exc c fs))).length
   .rw[GD w] at hy; cases hy
   .rw[Hu (by rw[GO]; omega)] at hy; cases hy
  .rw[Gz λy=>z y.symm] at hy;obtain⟨w,k1,k2⟩:=g.rel j y hy;refine⟨w,by rw[Gz λy=>z y.symm]; exact k1,?_⟩;have:bD [i] (bD [x] F) j=bD [x] F j:=by
    show (if j∈[i] then [] else bD [x] F j)=_;rw[if_neg (by simpa using z)]
   rw[this];exact k2.mono sub λ_ _ _ e=>e
 .by_cases z:j=i
  .show (if j∈[i] then [] else bD [x] F j)=_;rw[if_pos (by simpa using z)]
  .show (if j∈[i] then [] else bD [x] F j)=_;rw[if_neg (by simpa using z)];exact g.em j λy w=>hj y (by rw[Gz λy=>z y.symm]; exact w)
def D4 {b:List Ip.S}{c i x:Nat}{Wa:Addr}{Dn:Ends}(hcl:∀c' C fs,W.xA c'=some C->bh G (.exc c' fs) (.cls c)=true->∃tl,XO X.K C tl/\Wa∈C::tl)(h:bT W G n io E (.tryE b c i x) Dn σ H) :
  kK X.K Wa i (λEc=>eI W G n io Ec b) (hU (c8 i) (d8 x)) Dn σ H:=by
 obtain⟨E0,N,pin,A,F,hp,f,h⟩:=h;rw[Ip.tM] at h;unfold kK;refine⟨E0,N,pin,A,F,hp,f,?_⟩;cases q:Ip.execs G (Ip.run G n) io A b with
 | nx A'=>rw[q] at h; exact h
 | ret k d A'=>rw[q] at h; exact h
 | brk A'=>rw[q] at h; exact h
 | cnt A'=>rw[q] at h; exact h
 | bad=>rw[q] at h; exact h
 | exc c' fs A'=>
  rw[q] at h;simp only[Ip.i9] at h;by_cases ht:bh G (.exc c' fs) (.cls c)=true
  rotate_left
  .rw[if_neg ht] at h; exact h.elim
  rw[if_pos ht] at h;unfold ck at h;by_cases c1:io.contains x=false/\x<A'.length
  rotate_left
  .rw[if_neg c1] at h; exact h.elim
  rw[if_pos c1] at h;simp only[O.seq] at h;by_cases c2:io.contains i=false/\i≠x/\i<(A'.set x (some (0,.exc c' fs))).length
  rotate_left
  .rw[if_neg c2] at h; exact h.elim
  rw[if_pos c2] at h;intro e σ1 H1 fx;obtain⟨F1,f1,he,C,vs,g1,g2,g3⟩:=id fx;obtain⟨tl,xo,hin⟩:=hcl c' C fs g2 ht;have il:i < σ1.length:=by rw[f1.len]; have:=c2.2.2; rw[GO] at this; exact this
  refine⟨e,C,tl,vs,rfl,g1,xo,hin,.ref e,GD il,?_⟩;obtain⟨F2,f2⟩:=fx.caught (o9 hp c1.1) (o9 hp c2.1) c2.2.1 c1.2;exact h _ _ _ f2
end
structure GT (W:Wd)(G:Pg)(T:Tb)(mg:Str->aB):Prop where
 db:(T.wb == ("__debug__" : Str))=false
 wb:∃Wa tlW,mg T.wb=some (.ref Wa)/\XInit W.K Wa/\XO W.K Wa tlW/\∀c c' C fs,T.cls.lookup T.wb=some c->W.xA c'=some C->bh G (.exc c' fs) (.cls c)=true->∃tl,XO W.K C tl/\Wa∈C::tl
structure Gs (W:Wd)(G:Pg)(T:Tb)(n:Nat)(E:St->XK)(sc:Scope)(N:au)(X:Cx):Prop where
 gd:Gd W G T n E sc N X
 gt:GT W G T X.mg
 rais:m8 X E
 own:PassesOwn (model X.prog X.w) X.A X.env X.xe
 stk:∃L outer,X.stack=X.env::outer/\X.env.frame=some L
 scq:X.env.scope=sc
section
variable {W:Wd}{G:Pg}{T:Tb}{n:Nat}{io:ak}{m:Nat}{E:St->XK}{sc:Scope}{N:au}{X:Cx}
def kS {st:Stmt}{i:Nat}:PS X st (bT W G n io E (.set i .bad)):=λpins s σ H Dn I ⟨_,_,_,_,_,_,_,h⟩=>by
 rw[Ip.kC,fG] at h; exact h.elim
def Do {st:Stmt}:PS X st (bT W G n io E (.ex .bad)):=λpins s σ H Dn I ⟨_,_,_,_,_,_,_,h⟩=>by
 rw[Ip.pe,fG] at h; exact h.elim
def sR (e:Expr):(∃a b c d,e=.ListComp a b c d)\/(∀T sc N m,cE T sc N m e=.bad)\/∀t l env,swapsWith e t l env=pure false:=by
 cases e <;> first
  | exact .inl ⟨_,_,_,_,rfl⟩
  | exact .inr (.inr λ_ _ _=>rfl)
  | (refine .inr (.inl λT sc N m=>?_); cases m <;> rfl)
def zx (g:Gs W G T n E sc N X)(x:Str)(p:Pos)(e:Expr)(pos:Pos)(i:Nat)(hl:bG sc x=true)(hi:pos? x N=some i):PS X (.Assign [.Name x p] e pos) (bT W G n io E (.set i (cE T sc N m e))):=by
 obtain⟨l1,l2⟩:=g.gd.loc x hl;have hN:X.N.Nodup:=by rw[g.gd.nm]; exact g.gd.nd
 have hx:X.N[i]? = some x:=by rw[g.gd.nm]; exact pos?_get hi
 rcases sR e with ⟨el,gs,scope,cp,rfl⟩ | hb | hs
 .have hsw:∃b,swapsWith (.ListComp el gs scope cp) (some (.Name x p)) pos.line X.env=pure b:=⟨_,rfl⟩
  obtain⟨b,hsw⟩:=hsw;cases b with
  | false=>exact (ph hN hx l1 ((eR m).e g.gd _) hsw l2).mono λDn σ H h=>qf h
  | true=>
   cases m with
   | zero=>exact kS
   | succ m=>
    have ih:=eR (W:=W) (G:=G) (T:=T) (n:=n) m;match gs with
    | []=>exact kS
    | ⟨_,_,_,_⟩::_::_=>exact kS
    | [⟨tg,iter,ifs,as⟩]=>
     simp only[Ip.xF];by_cases h:(Ip.dD sc N (Ip.aY scope) (Ip.bv N scope) scope&&as == 0&&decide (ifs.length<=1))=true
     rotate_left
     .rw[if_neg h]; exact kS
     rw[if_pos h];simp only[tw,GC,GR] at h;obtain⟨⟨hb,has⟩,hln⟩:=h;subst has;cases ht:c9 scope (Ip.aY scope) tg with
     | none=>exact kS
     | some t=>
      by_cases h2:(eD (cI T sc N m iter).1 t&&(Ip.dB t).all (λi=>(Ip.bv N scope)[i]? == some none))=true
      rotate_left
      .simp only[h2]; exact kS
      simp only[h2,if_true];rw[tw] at h2;rcases sd iter with ⟨a,b,c,rfl⟩ | hs
      .rintro pins s σ H Dn I ⟨_,_,_,_,_,_,_,q⟩;rw[Ip.kC,Ip.lF,rT,bL,fG] at q;exact q.elim
      .have cp:=xE (e:=el) ih g.gd hb hln ht h2.1 h2.2;exact (CW g.gd.calm cp.hS hN hx l1 cp.hi cp.hg cp.ht cp.he hsw l2 (hs X.env)).mono λDn σ H h=>wI g.gd.K cp.hx (qf h)
 .rw[hb]; exact kS
 .exact (ph hN hx l1 ((eR m).e g.gd e) (hs _ _ _) l2).mono λDn σ H h=>qf h
def xB (g:Gs W G T n E sc N X)(e:Expr)(pos:Pos)(hl:∀a b c d,e≠.ListComp a b c d):PS X (.Expr e pos) (bT W G n io E (.ex (cE T sc N m e))):=by
 rcases sR e with ⟨a,b,c,d,rfl⟩ | hb | hs
 .exact absurd rfl (hl a b c d)
 .rw[hb]; exact Do
 .exact (lZ ((eR m).e g.gd e) (hs _ _ _)).mono λDn σ H h=>rb h
def vT {o:Expr}{f:Str}{p:Pos}(e:Expr)(l:Nat)(env:Env):swapsWith e (some (.Attribute o f p)) l env=pure false:=by
 cases e <;> rfl
def BB (g:Gs W G T n E sc N X)(es:av)(k:Nat)(tp:Pos)(e:Expr)(pos:Pos)(is:ak)(hc:Ip.f8 e=true)(ht:c9 sc N (.Tuple es k tp)=some (.many is)):PS X (.Assign [.Tuple es k tp] e pos) (bT W G n io E (.setT is (cE T sc N m e))):=by
 cases e with
 | Call f args kws cp=>exact (va ((eR m).e g.gd _) (oh g.gd ht)).mono λDn σ H h=>wM g.gd.K h
 | Name x p=>exact (va ((eR m).e g.gd _) (oh g.gd ht)).mono λDn σ H h=>wM g.gd.K h
 | _=>cases hc
def xQ (g:Gs W G T n E sc N X)(x:Str)(xp:Pos)(f:Str)(ap:Pos)(e:Expr)(pos:Pos)(k j:Nat)(hv:bb sc x=true)(hok:aR x=true)(hk:pos? x N=some k)(hj:pos? f T.att=some j)(hf:T.fl.contains j=true) :
  PS X (.Assign [.Attribute (.Name x xp) f ap] e pos) (bT W G n io E (.sfld k j (cE T sc N m e))):=by
 unfold aR at hok;simp only[tw,Iy] at hok;have hx:X.N[k]? = some x:=by rw[g.gd.nm]; exact pos?_get hk
 have po:=oK (pos:=xp) hx (g.gd.vis x hv) hok.1 hok.2;have he:=(eR m).e g.gd e;have r1:=AD (f:=f) (pos:=pos) (pos':=ap) po he (vT e _ _);have r2:=Ee (m:=f) (pos:=pos) (pos':=ap) po he (vT e _ _);intro pins s σ H Dn I h;have hnm:W.att[j]? = some f:=by rw[g.gd.gf.att]; exact pos?_get hj
 rcases yf g.gd.K g.gd.gf.cf (by simpa using hf) hnm h with q | q
 .exact r1 pins s σ H Dn I q
 .exact r2 pins s σ H Dn I q
end
section
variable {W:Wd}{G:Pg}{T:Tb}{n:Nat}{io:ak}{m:Nat}{E:St->XK}{sc:Scope}{N:au}{X:Cx}
def okN {x:Str}(h:aR x=true):(x == ("__debug__" : Str))=false/\(x == ("__classdict__" : Str))=false:=by
 unfold aR at h;simp only[tw,Iy] at h;exact h
def jg (g:Gs W G T n E sc N X){x:Str}{p:Pos}{i:Nat}(hv:bb sc x=true)(hok:aR x=true)(hi:pos? x N=some i):PE X (.Name x p) (c8 i):=
 oK (by rw[g.gd.nm]; exact pos?_get hi) (g.gd.vis x hv) (okN hok).1 (okN hok).2
def yv (g:Gs W G T n E sc N X)(e:Expr)(pos:Pos)(h:¬oW (cE T sc N m e)=true):PS X (.Return (some e) pos) (bT W G n io E (.ret (cE T sc N m e))):=
 (xl ((eR m).e g.gd e)).mono λDn σ H=>xD λi z=>h (by rw[z]; rfl)
def Ez (g:Gs W G T n E sc N X)(x:Str)(p pos:Pos)(i:Nat)(hv:bb sc x=true)(hok:aR x=true)(hi:pos? x N=some i):PS X (.Return (some (.Name x p)) pos) (bT W G n io E (.ret (.var i))):=
 (xl (jg g hv hok hi)).mono λDn σ H h=>Ci h
def Ct (pos:Pos):PS X (.Return none pos) (bT W G n io E (.ret (.cst .non))):=
 FC.mono λDn σ H h=>by
  obtain⟨N0,a,hN,hS,h⟩:=xD (λi=>by simp) h;rw[Ip.l9] at h;exact h _ _ (Res.of_flat (Sub.refl _) rfl .non)
def oi {e:Expr}{es:av}{cp:Pos}{env:Env}(ns:noStar (e::es)=true)(hl:es.length<29):((backTo cp (starEach (e::es) env)).all (λx=>!x.1)&&(backToKw cp (keywordEach [] env)).all (λx=>x.1.isSome)
   && decide ((e::es).length+([]:List Keyword).length+(if ([]:List Keyword).isEmpty then 0 else 1)<30))=true:=by
 rw[oZ ns];show (true&&true&&decide (es.length+1+0+0<30))=true;rw[HP (by omega)]; rfl
def A4 (g:Gs W G T n E sc N X)(x:Str)(xp mp cp pos:Pos)(e:Expr)(i:Nat)(hv:bb sc x=true)(hok:aR x=true)(hi:pos? x N=some i)(ns:noStar [e]=true)(hp:(mp.endLine == cp.line)=true) :
  PS X (.Expr (.Call (.Attribute (.Name x xp) "append" mp) [e] [] cp) pos) (bT W G n io E (.mut i [] .append [cE T sc N m e])):=by
 have s1:=(ef ns).1;exact (lZ (mj HI PySem.F.slot_list_append PySem.F.type_list_append ww (jg g hv hok hi) (hV ((eR m).e g.gd e) jx (dq s1)) rfl (oi ns (by decide)) hp (dq s1) rfl) rfl).mono λDn σ H h=>D1 g.gd.K h
def xP (g:Gs W G T n E sc N X)(x:Str)(xp mp cp pos:Pos)(e:Expr)(i:Nat)(hv:bb sc x=true)(hok:aR x=true)(hi:pos? x N=some i)(ns:noStar [e]=true)(hp:(mp.endLine == cp.line)=true) :
  PS X (.Expr (.Call (.Attribute (.Name x xp) "extend" mp) [e] [] cp) pos) (bT W G n io E (.mut i [] .extend [cE T sc N m e])):=by
 have s1:=(ef ns).1;exact (lZ (mj HI PySem.F.slot_list_extend PySem.F.type_list_extend C4 (jg g hv hok hi) (hV ((eR m).e g.gd e) jx (dq s1)) rfl (oi ns (by decide)) hp (dq s1) rfl) rfl).mono λDn σ H h=>Bc g.gd.K h
def zU (g:Gs W G T n E sc N X)(x y:Str)(p p1 p2:Pos)(b:Expr)(pos:Pos)(i j:Nat)(hl:bG sc x=true)(hi:pos? x N=some i)(hv:bb sc y=true)(hok:aR y=true)(hj:pos? y N=some j)(hs:Ip.isSl b=false):PS X (.Assign [.Name x p] (.Subscript (.Name y p1) b p2) pos) (bT W G n io E (.setI i j (cE T sc N m b))):=by
 obtain⟨l1,l2⟩:=g.gd.loc x hl;have hN:X.N.Nodup:=by rw[g.gd.nm]; exact g.gd.nd
 have hx:X.N[i]? = some x:=by rw[g.gd.nm]; exact pos?_get hi
 exact (ph hN hx l1 (vg xk (jg g hv hok hj) ((eR m).e g.gd b) (wY λ_ _ _ _ z=>by rw[z] at hs; cases hs)) rfl l2).mono λDn σ H h=>El h
def AL (g:Gs W G T n E sc N X)(x j:Str)(xp jp sp pos:Pos)(e:Expr)(i k:Nat)(hv:bb sc x=true)(hok:aR x=true)(hi:pos? x N=some i)(hv2:bb sc j=true)(hok2:aR j=true)(hk:pos? j N=some k) :
  PS X (.Assign [.Subscript (.Name x xp) (.Name j jp) sp] e pos) (bT W G n io E (.put i [] (.var k) (cE T sc N m e))):=
 (CP (jg g hv hok hi) (jg g hv2 hok2 hk) ((eR m).e g.gd e) (by cases e <;> rfl)).mono λDn σ H h=>xN h
def E7 (g:Gs W G T n E sc N X)(x:Str)(xp mp cp pos:Pos)(e:Expr)(i:Nat)(hv:bb sc x=true)(hok:aR x=true)(hi:pos? x N=some i)(ns:noStar [e]=true)(hp:(mp.endLine == cp.line)=true) :
  PS X (.Expr (.Call (.Attribute (.Name x xp) "remove" mp) [e] [] cp) pos) (bT W G n io E (.mut i [] .remove [cE T sc N m e])):=by
 have s1:=(ef ns).1;exact (lZ (mj HI PySem.F.slot_list_remove PySem.F.type_list_remove C7 (jg g hv hok hi) (hV ((eR m).e g.gd e) jx (dq s1)) rfl (oi ns (by decide)) hp (dq s1) rfl) rfl).mono λDn σ H h=>zC h
def Ek (g:Gs W G T n E sc N X)(x y:Str)(xp mp cp pos yp:Pos)(e:Expr)(i j:Nat)(hv:bb sc x=true)(hok:aR x=true)(hi:pos? x N=some i)(hv2:bb sc y=true)(hok2:aR y=true)(hj:pos? y N=some j)(ns:noStar [e,.Name y yp]=true)(hp:(mp.endLine == cp.line)=true) :
  PS X (.Expr (.Call (.Attribute (.Name x xp) "insert" mp) [e,.Name y yp] [] cp) pos) (bT W G n io E (.mut i [] .insert [cE T sc N m e,.var j])):=by
 obtain⟨s1,s2⟩:=ef ns;have s3:=(ef s2).1;exact (lZ (mj HI PySem.F.slot_list_insert PySem.F.type_list_insert ze (jg g hv hok hi) (hV ((eR m).e g.gd e) (hV (jg g hv2 hok2 hj) jx (dq s3)) (dq s1)) rfl (oi ns (by simp)) hp (dq s1) rfl) rfl).mono λDn σ H h=>Ce h
def Ap (g:Gs W G T n E sc N X)(xp mp cp pos:Pos)(e:Expr)(es:av)(hg:bw sc T.wb=true)(ns:noStar (e::es)=true)(hl:es.length<29)(hp:mp.endLine=cp.line) :
  PS X (.Expr (.Call (.Attribute (.Name T.wb xp) "__init__" mp) (e::es) [] cp) pos) (bT W G n io E (.xinit ((e::es).map (cE T sc N m)))):=by
 obtain⟨Wa,tlW,hm,XI,XW,_⟩:=g.gt.wb;obtain⟨s1,s2⟩:=ef ns;exact (lZ (Ba (g.gd.K ▸ XI) (g.gd.gl _ hg) hm ((eR m).args g.gd (e::es)) g.gt.db (dq s1) (me s2) (uI rfl ns (by rw[List.length_cons]; omega) hp)) rfl).mono λDn σ H h=>
  Bj g.gd.K g.gd.gf.cf (by rw[GA,List.length_cons]; omega) h
def AT (g:Gs W G T n E sc N X)(x:Str)(args:av)(p cp pos:Pos)(c:Nat)(hg:bw sc x=true)(ns:noStar args=true)(hc:T.cls.lookup x=some c):PS X (.Raise (some (.Call (.Name x p) args [] cp)) none pos) (bT W G n io E (.rais c (args.map (cE T sc N m)))):=
 (Et g.gd.calm g.rais (uQ (eR m) g.gd x args p cp c hg hc ns)).mono λDn σ H h=>Am g.gd.K g.gd.gf.cf h
def jn (W:Wd)(G:Pg)(T:Tb)(n m:Nat):Prop:=∀{io:ak} {E:St->XK} {sc:Scope} {N:au} {X:Cx},Gs W G T n E sc N X->∀st,PS X st (bT W G n io E (cS T sc N m st))
theorem ly (ih:jn W G T n m)(g:Gs W G T n E sc N X):∀sts:aH,PSs X sts (eI W G n io E (sts.map (cS T sc N m)))
 | []=>Fj
 | st::sts=>Fu (ih g st) (ly ih g sts)
def sg (ih:jn W G T n m)(g:Gs W G T n E sc N X)(c:Expr)(a b:aH)(pos:Pos):PS X (.If c a b pos) (bT W G n io E (.iff (Ip.cT T sc N m c) (a.map (cS T sc N m)) (b.map (cS T sc N m)))):=
 (FZ ((eR m).t g.gd c) (ly ih g a) (ly ih g b)).mono λDn σ H h=>Ea h
def Av {st:Stmt}{tg:Tg}{wk:Wk}{b:List Ip.S}:PS X st (bT W G n io E (.fo tg wk [.bad] b)):=λpins s σ H Dn I ⟨_,_,_,_,_,_,_,h⟩=>by
 rw[Ip.pN,bL,fG] at h; exact h.elim
def DQ (ih:jn W G T n m)(g:Gs W G T n E sc N X)(tg it:Expr)(b:aH)(pos:Pos)(t:Tg)(ht:c9 sc N tg=some t)(hw:eD (cI T sc N m it).1 t=true) :
  PS X (.For tg it b [] pos) (bT W G n io E (.fo t (cI T sc N m it).1 (cI T sc N m it).2 (b.map (cS T sc N m)))):=by
 rcases sd it with ⟨a,b',c,rfl⟩ | hs
 .rw[rT]; exact Av
 .exact (yN g.own g.gd.calm ((eR m).i g.gd tg it (tR ht hw)) (oh g.gd ht) (ly ih g b) (hs X.env)).mono λDn σ H h=>zV g.gd.K h
def zK (ih:jn W G T n m)(g:Gs W G T n E sc N X)(b:aH)(cp xp yp hp ap pos:Pos)(e x:Str)(k i j:Nat)(hg:bw sc T.wb=true)(hk:T.cls.lookup T.wb=some k)(hi:pos? e N=some i)(hj:pos? x N=some j)(hl:bG sc x=true)(he:sc.names.lookup e=some .local)(hok:aR e=true) :
  PS X (.Try b [.ExceptHandler (some (.Name T.wb cp)) (some e) [.Assign [.Name x xp] (.Name e yp) ap] hp] [] [] pos) (bT W G n io E (.tryE (b.map (cS T sc N m)) k i j)):=by
 obtain⟨Wa,tlW,hm,XI,XW,hcl⟩:=g.gt.wb;have hN:X.N.Nodup:=by rw[g.gd.nm]; exact g.gd.nd
 have hiX:X.N[i]? = some e:=by rw[g.gd.nm]; exact pos?_get hi
 have hjX:X.N[j]? = some x:=by rw[g.gd.nm]; exact pos?_get hj
 have heX:X.env.scope.names.lookup e=some .local:=by rw[g.scq]; exact he
 obtain⟨l1,l2⟩:=g.gd.loc x hl;refine (EI (tb:=λEc=>eI W G n io Ec (b.map (cS T sc N m))) (ts:=hU (c8 i) (d8 j)) hN hiX heX g.stk (g.gd.K ▸ XW) (g.gd.gl _ hg) hm (λxe pn Ec ps rt po=>?_) (λa=>?_) g.gt.db).mono λDn σ H h=>D4 (λc' C fs h1 h2=>g.gd.K ▸ hcl k c' C fs hk h1 h2) h
 .refine ly (X:=X.tryCx xe pn) ih ?_ b;have gd':Gd W G T n Ec sc N (X.tryCx xe pn):=⟨g.gd.gf,g.gd.K,g.gd.vis,g.gd.loc,g.gd.gl,g.gd.fr,g.gd.nm,g.gd.nd,g.gd.calm,ps,g.gd.room⟩
  exact⟨gd',g.gt,rt,po,g.stk,g.scq⟩
 .exact Ac (ph (X:=X.markCx a) hN hjX l1 (oK (X:=X.markCx a) hiX (.inl heX) (okN hok).1 (okN hok).2) rfl l2)
def ps?_or {x:Str}{N:au}{f:Nat->Ip.S}:ps? x N f=.bad\/∃i,pos? x N=some i/\ps? x N f=f i:=by
 unfold ps?;cases pos? x N with
 | none=>exact .inl rfl
 | some i=>exact .inr ⟨i,rfl,rfl⟩
def pc?_or {x:Str}{f:Nat->Ip.S}:pc? T x f=.bad\/∃i,T.cls.lookup x=some i/\pc? T x f=f i:=by
 unfold pc?;cases T.cls.lookup x with
 | none=>exact .inl rfl
 | some i=>exact .inr ⟨i,rfl,rfl⟩
def pq {st:Stmt}{x:Str}{N:au}{f:Nat->Ip.S}(h:∀i,pos? x N=some i->PS X st (bT W G n io E (f i))):PS X st (bT W G n io E (ps? x N f)):=by
 rcases ps?_or (x:=x) (N:=N) (f:=f) with q | ⟨i,hi,q⟩
 .rw[q]; exact cJ
 .rw[q]; exact h i hi
def tP {st:Stmt}{x:Str}{f:Nat->Ip.S}(h:∀i,T.cls.lookup x=some i->PS X st (bT W G n io E (f i))):PS X st (bT W G n io E (pc? T x f)):=by
 rcases pc?_or (T:=T) (x:=x) (f:=f) with q | ⟨i,hi,q⟩
 .rw[q]; exact cJ
 .rw[q]; exact h i hi
def zD (g:Gs W G T n E sc N X)(ts:av)(e:Expr)(pos:Pos):PS X (.Assign ts e pos) (bT W G n io E (cS T sc N (m+1) (.Assign ts e pos))):=by
 rw[Ip.yP];cases ts with
 | nil=>exact cJ
 | cons t r=>
  unfold Ip.kL;dsimp only;by_cases hr:r.isEmpty=true
  rotate_left
  .rw[if_neg hr]; exact cJ
  rw[if_pos hr];obtain rfl:=Ie.mp hr;cases q1:bJ t with
  | some x=>
   obtain⟨p1,rfl⟩:=Ip.gW q1;dsimp only;by_cases hl:bG sc x=true
   .rw[if_pos hl];cases qb:Ip.qE sc e with
    | none=>exact pq λi hi=>zx g _ _ e pos i hl hi
    | some t=>
     obtain⟨y,b⟩:=t;obtain⟨p1,p2,rfl,hv,ho,hsl⟩:=Ip.BQ qb;exact pq λi hi=>pq λj hj=>zU g _ _ _ _ _ b pos i j hl hi hv ho hj hsl
   .rw[if_neg hl]; exact cJ
  | none=>
   dsimp only;cases q2:Ip.kq t with
   | some xj=>
    obtain⟨x,j⟩:=xj;obtain⟨p1,p2,p3,rfl⟩:=Ip.yk q2;dsimp only;by_cases hl:(bb sc x&&aR x&&bb sc j&&aR j)=true
    .rw[if_pos hl];simp only[tw] at hl;obtain⟨⟨⟨h1,h2⟩,h3⟩,h4⟩:=hl;refine pq λk hk=>?_;refine pq λj hj=>?_;exact AL g _ _ _ _ _ pos e k j h1 h2 hk h3 h4 hj
    .rw[if_neg hl]; exact cJ
   | none=>
    dsimp only;cases q3:Ip.kB t with
    | none=>
     dsimp only;cases q4:Ip.ky t with
     | none=>exact cJ
     | some es=>
      obtain⟨k,tp,rfl⟩:=Ip.FH q4;dsimp only;by_cases hc:Ip.f8 e=true
      rotate_left
      .rw[if_neg hc]; exact cJ
      rw[if_pos hc];split
      .rename_i ht;exact BB g _ _ _ e pos _ hc ht
      .exact cJ
    | some xf=>
     obtain⟨x,f⟩:=xf;obtain⟨p1,p2,rfl⟩:=Ip.yq q3;dsimp only;by_cases hl:(bb sc x&&aR x)=true
     rotate_left
     .rw[if_neg hl]; exact cJ
     rw[if_pos hl];rw[tw] at hl;refine pq λk hk=>?_;refine pq λj hj=>?_;by_cases hf:T.fl.contains j=true
     .simp only[hf,if_true];exact xQ g _ _ _ _ e pos k j hl.1 hl.2 hk hj hf
     .simp only[hf]; exact cJ
def D8 (g:Gs W G T n E sc N X)(e:Expr)(pos:Pos):PS X (.Expr e pos) (bT W G n io E (cS T sc N (m+1) (.Expr e pos))):=by
 rw[Ip.yt];unfold Ip.kG;cases qm:Ip.kg e with
 | some t=>
  obtain⟨x,mm,mp,args,cp⟩:=t;obtain⟨xp,rfl⟩:=Ip.D7 qm;dsimp only;split
  .rename_i hc;simp only[tw,GC] at hc;obtain⟨⟨h1,h2⟩,rfl⟩:=hc;unfold Ip.mB;split
   .split
    .rename_i a hd;rw[tw] at hd;refine pq λk hk=>?_;exact A4 g _ _ _ _ _ _ _ h1 h2 hk hd.1 hd.2
    .exact cJ
   .exact cJ
  .split
   .rename_i hc;simp only[tw,GC] at hc;obtain⟨⟨h1,h2⟩,rfl⟩:=hc;unfold Ip.nM;split
    .split
     .rename_i hd;rw[tw] at hd;refine pq λk hk=>?_;exact xP g _ _ _ _ _ _ _ h1 h2 hk hd.1 hd.2
     .exact cJ
    .exact cJ
   .split
    .rename_i hc;simp only[tw,GC] at hc;obtain⟨⟨h1,h2⟩,rfl⟩:=hc;unfold Ip.nn;split
     .rename_i a b;cases hb:bJ b with
      | none=>exact cJ
      | some y=>
       dsimp only;obtain⟨yp,rfl⟩:=Ip.gW hb;split
       .rename_i hd;simp only[tw] at hd;refine pq λk hk=>?_;refine pq λj hj=>?_;exact Ek g _ _ _ _ _ _ _ _ k j h1 h2 hk hd.1.2 hd.2 hj hd.1.1.1 hd.1.1.2
       .exact cJ
     .exact cJ
    .split
     .rename_i hc;simp only[tw,GC] at hc;obtain⟨⟨h1,h2⟩,rfl⟩:=hc;unfold Ip.nE;split
      .split
       .rename_i hd;rw[tw] at hd;refine pq λk hk=>?_;exact E7 g _ _ _ _ _ _ _ h1 h2 hk hd.1 hd.2
       .exact cJ
      .exact cJ
     .split
      .rename_i hc;unfold Ip.uh at hc;simp only[tw,GC] at hc;obtain⟨⟨h1,rfl⟩,rfl⟩:=hc;unfold Ip.mD;split
       .exact cJ
       .split
        .rename_i hd;simp only[tw,GC,GR] at hd;exact Ap g _ _ _ _ _ _ h1 hd.1.1 hd.1.2 hd.2
        .exact cJ
      .exact xB g _ pos λ_ _ _ _ z=>by cases z
 | none=>
  dsimp only;by_cases hL:Ip.m9 e=true
  .rw[if_pos hL]; exact cJ
  .rw[if_neg hL]; exact xB g e pos λ_ _ _ _ z=>hL (by rw[z]; rfl)
def EF (g:Gs W G T n E sc N X)(o:aJ)(pos:Pos):PS X (.Return o pos) (bT W G n io E (cS T sc N (m+1) (.Return o pos))):=by
 rw[Ip.EZ];cases o with
 | none=>exact Ct pos
 | some e=>
  unfold Ip.lg;dsimp only;cases q1:bJ e with
  | some x=>
   obtain⟨p,rfl⟩:=Ip.gW q1;dsimp only;by_cases hc:(bb sc x&&aR x)=true
   .rw[if_pos hc];rw[tw] at hc;refine pq λk hk=>?_;exact Ez g _ _ pos k hc.1 hc.2 hk
   .rw[if_neg hc]; exact cJ
  | none=>
   dsimp only;by_cases hb:oW (cE T sc N m e)=true
   .rw[if_pos hb]; exact cJ
   .rw[if_neg hb]; exact yv g e pos hb
def zZ (ih:jn W G T n m)(g:Gs W G T n E sc N X)(tg it:Expr)(b els:aH)(pos:Pos):PS X (.For tg it b els pos) (bT W G n io E (cS T sc N (m+1) (.For tg it b els pos))):=by
 simp only[Ip.DL,Ip.kz];split
 .exact cJ
 .split
  .rename_i ht;split
   .rename_i hw;exact DQ ih g tg it b pos _ ht hw
   .exact cJ
  .exact cJ
def yU (g:Gs W G T n E sc N X)(e c:aJ)(pos:Pos):PS X (.Raise e c pos) (bT W G n io E (cS T sc N (m+1) (.Raise e c pos))):=by
 rw[Ip.C9];cases c with
 | some _=>exact cJ
 | none=>
  cases e with
  | none=>exact cJ
  | some e=>
   unfold Ip.lc;dsimp only;cases q:Ip.k8 e with
   | none=>exact cJ
   | some t=>
    obtain⟨x,args⟩:=t;obtain⟨p1,p2,rfl⟩:=Ip.Da q;dsimp only;by_cases hc:(bw sc x&&noStar args)=true
    .rw[if_pos hc];rw[tw] at hc;refine tP λk hk=>?_;exact AT g _ _ _ _ pos k hc.1 hc.2 hk
    .rw[if_neg hc]; exact cJ
def Eu (ih:jn W G T n m)(g:Gs W G T n E sc N X)(b:aH)(hs:List ExceptHandler)(els fin:aH)(pos:Pos):PS X (.Try b hs els fin pos) (bT W G n io E (cS T sc N (m+1) (.Try b hs els fin pos))):=by
 rw[Ip.zI];unfold Ip.kd;cases q:Ip.iF hs with
 | none=>exact cJ
 | some t=>
  obtain⟨c,e,x,y⟩:=t;obtain⟨p1,p2,p3,p4,p5,rfl⟩:=Ip.Aw q;simp only;split
  .rename_i hc;obtain⟨z1,z2,hc⟩:=hc;obtain rfl:=Ie.mp z1;obtain rfl:=Ie.mp z2;simp only[tw,GC] at hc;obtain⟨⟨⟨⟨⟨h1,rfl⟩,rfl⟩,h4⟩,h5⟩,h6⟩:=hc;refine tP λk hk=>?_;refine pq λi hi=>?_;refine pq λj hj=>?_;exact zK ih g b _ _ _ _ _ pos _ _ k i j h1 hk hi hj h5 h6 h4
  .exact cJ
theorem vF (W:Wd)(G:Pg)(T:Tb)(n:Nat):∀m,jn W G T n m
 | 0=>λg st=>by exact cJ
 | m+1=>λg st=>by
  have ih:jn W G T n m:=vF W G T n m;cases st with
  | Assign ts e pos=>exact zD g ts e pos
  | Expr e pos=>exact D8 g e pos
  | Return o pos=>exact EF g o pos
  | If c a b pos=>exact sg ih g c a b pos
  | For tg it b els pos=>exact zZ ih g tg it b els pos
  | Raise e c pos=>exact yU g e c pos
  | Try b hs els fin pos=>exact Eu ih g b hs els fin pos
  | _=>exact cJ
end
section
variable {W:Wd}{G:Pg}{T:Tb}{n:Nat}{P:Program}{w:World}{mg:Str->aB}{base:Heap}
theorem sJ {S:Hp}:∀{vs:aw} {ds:ay} {i:Nat} {d:D},Dens W S vs ds->ds[i]? = some d->∃v,vs[i]? = some v/\Den W S v d
 | _,_,_,_,.nil,h=>by simp at h
 | _,_,0,_,.cons h _,e=>by
  simp only[List.getElem?_cons_zero,Hj] at e;subst e;exact⟨_,rfl,h⟩
 | _,_,i+1,_,.cons _ q,e=>by
  simp only[List.getElem?_cons_succ] at e ⊢;exact sJ q e
def uz {F:Fn}{xs:ax}{i:Nat}{x:KD}(h:(bW F xs)[i]? = some (some x)):∃y,xs[i]? = some y/\x=if F.io.contains i then y else (0,y.2):=by
 unfold bW at h;by_cases hi:i<xs.length
 .rw[IK (by rw[JO]; exact hi),HD,GM hi] at h;simp only[Option.map_some,Hj] at h;refine⟨xs[i],GM hi,?_⟩;by_cases c:F.io.contains i=true
  .rw[if_pos c] at h ⊢; exact (cG h).symm
  .rw[if_neg c] at h ⊢; exact (cG h).symm
 .rw[List.getElem?_append_right (by rw[JO]; omega)] at h;have:=HC h;rw[List.mem_replicate] at this;cases this.2
def vW {F:Fn}{xs:ax}(h:xs.length=F.np)(h2:F.np<=F.ns):(bW F xs).length=F.ns:=by
 unfold bW;rw[GJ,JO,Jl];omega
def pi {N:au}{vs:aw}{i:Nat}{v:V}(h:vs[i]? = some v):(start N vs)[i]? = some (some v):=by
 unfold start;have hi:i<vs.length:=(eQ h).1;rw[IK (by rw[GA]; exact hi),GK,h]; rfl
def EM {N:au}{vs:aw}(h:vs.length<=N.length):(start N vs).length=N.length:=by
 unfold start;rw[GJ,GA,Jl]; omega
def FU {M:Addr->Prop}:aU M (λ_=>[])=M:=funext λb=>propext ⟨λz=>z.elim id λ⟨_,y⟩=>by simp at y,.inl⟩
def ER {S H:Hp}:Own W S H 99 .non .non []:=⟨rfl,.non⟩
def FN {S H:Hp}{k:Nat}{v:V}{fp:ao}(h:Own W S H k v .non fp):v=.non:=by
 cases k with
 | zero=>obtain⟨_,h⟩:=h; cases h; rfl
 | succ k=>obtain⟨_,h⟩:=h; cases h; rfl
def FrX.out {E0:Hp}{N:Addr->Prop}{pin:List (Nat×V)}{A:Fr}{σ:St}{H:Hp}{c:Nat}{fs:List aK}{e:Addr}(h:FrX W E0 N pin A σ H c fs e):ExcR W E0 N H c fs e:=by
 obtain⟨F,f,he,C,vs,h1,h2,h3⟩:=h;exact⟨f.sub,he.1,C,vs,h1,h2,h3.mono λb u z=>bg.mpr ⟨λy=>(bg.mp z).1 (.inl y),(bg.mp z).2⟩⟩
theorem EO {H:Hp}{N:Addr->Prop}{o:O}{Q:VK}{E:XK}(h:match Ip.fin [] o with
  | .ret k d []=>∀v H',Res W H N H' (k,d) v->Q v H'
  | .exc c fs []=>∀e H',ExcR W H N H' c fs e->E (.ref e) none H'
  | _=>False):PostS W H N [] (λ_=>E) { nx:=λ_ H'=>Q .non H',rt:=Q } o:=by
 cases o with
 | nx A=>exact λσ H' F f=>h .non H' ⟨f.sub,[],.nil,λ_ z=>by simp at z,ER⟩
 | ret k d A=>
  rintro v σ H' ⟨fp,F,f,nd,fr,o⟩;refine h v H' ⟨f.sub,fp,nd,λb hb=>(fr b hb).1,o.mono (λb u z=>?_) λ_ _ _ e=>e⟩;exact bg.mpr ⟨λy=>(bg.mp z).1 (.inl y),(bg.mp z).2⟩
 | brk A=>exact h.elim
 | cnt A=>exact h.elim
 | exc c fs A=>exact λe σ H' x=>h e H' x.out
 | bad=>exact h.elim
theorem AG {H:Hp}{N:Addr->Prop}{f0:ao}{v0:V}{o:O}{Q:VK}{E:XK}(h:match Ip.fin [0] o with
  | .ret k d [y]=>∀v H' (fp:ao),Sub (hid (λb=>b∈f0) H) H'->fp.Nodup->(∀b∈fp,hid (λb=>b∈f0) H b=none)->Own W (hid (λb=>N b\/b∈fp) H') H' y.1 v0 y.2 fp->(d=.non->v=.non)->Q v H'
  | .exc c fs _=>∀e H',ExcR W (hid (λb=>b∈f0) H) N H' c fs e->E (.ref e) none H'
  | _=>False):PostS W (hid (λb=>b∈f0) H) N [(0,v0)] (λ_=>E) { nx:=λ_ H'=>Q .non H',rt:=Q } o:=by
 have key:∀{N':Addr->Prop} {A:Fr} {σ:St} {H':Hp} {F:Nat->ao} {y:KD},FrF W (hid (λb=>b∈f0) H) N' [(0,v0)] A σ H' F->(∀b,N b->N' b)->A[0]? = some (some y)->Sub (hid (λb=>b∈f0) H) H'/\(F 0).Nodup/\(∀b∈F 0,hid (λb=>b∈f0) H b=none)/\Own W (hid (λb=>N b\/b∈F 0) H') H' y.1 v0 y.2 (F 0):=by
  intro N' A σ H' F y f hN hA;obtain⟨v,h1,h2⟩:=f.rel 0 y hA;have h3:=f.pn (0,v0) (by simp);rw[h1] at h3;cases h3;refine⟨f.sub,f.nd 0,λb hb=>(f.fr 0 b hb).1,h2.mono (λb u z=>?_) λ_ _ _ e=>e⟩;refine bg.mpr ⟨λy=>(bg.mp z).1 ?_,(bg.mp z).2⟩;exact y.elim (λq=>.inl (hN b q)) λq=>.inr ⟨0,q⟩
 cases o with
 | nx A=>
  intro σ H' F f;simp only[Ip.fin,outs] at h;cases q:A[0]? with
  | none=>rw[q] at h; exact h.elim
  | some o=>
   cases o with
   | none=>rw[q] at h; exact h.elim
   | some y=>
    rw[q] at h;obtain⟨a1,a2,a3,a4⟩:=key f (λ_ z=>z) q;exact h .non H' _ a1 a2 a3 a4 λ_=>rfl
 | ret k d A=>
  rintro v σ H' ⟨fp,F,f,nd,fr,o⟩;simp only[Ip.fin,outs] at h;cases q:A[0]? with
  | none=>rw[q] at h; exact h.elim
  | some o=>
   cases o with
   | none=>rw[q] at h; exact h.elim
   | some y=>
    rw[q] at h;obtain⟨a1,a2,a3,a4⟩:=key f (λ_ z=>.inl z) q;refine h v H' _ a1 a2 a3 a4 λz=>?_;subst z;exact FN o
 | brk A=>exact h.elim
 | cnt A=>exact h.elim
 | exc c fs A=>
  intro e σ H' x;simp only[Ip.fin,outs] at h;cases q:A[0]? with
  | none=>rw[q] at h; exact h.elim
  | some o=>
   cases o with
   | none=>rw[q] at h; exact h.elim
   | some y=>rw[q] at h; exact h e H' x.out
 | bad=>exact h.elim
def EQ {k:Nat}{F:Fn}{N:au}{vs:aw}{H:Hp}{Q:VK}{E:XK}(hF:G.fn k=some F)(hns:F.ns=N.length)(hnp:F.np<=F.ns)(h:gU W G (n+1) k F vs H Q E) :
  eI W G n F.io (λ_=>E) F.body { nx:=λ_ H'=>Q .non H',rt:=Q } (start N vs) H:=by
 have hlen:=qH hF h;have hsl:(start N vs).length=N.length:=EM (by omega);rcases h with ⟨hio,M,xs,hM,dv,h⟩ | ⟨hio,M,x0,xs,v0,ws,f0,rfl,hM,nd,dj,ow,dv,h⟩
 .have hx:xs.length=F.np:=by rw[dv.length,GA] at hlen; exact hlen
  rw[Ip.run,hF] at h;simp only[if_pos hx,hio] at h;refine⟨H,M,[],bW F xs,λ_=>[],λp hp=>by simp at hp,⟨λ_ _ e=>e,hM,by rw[hsl,vW hx hnp,hns],λp hp=>by simp at hp,λ_=>.nil,λi j b hb=>by simp at hb,λi b hb=>by simp at hb,λi x e=>?_,λ_ _=>rfl⟩,?_⟩
  .obtain⟨y,e1,e2⟩:=uz e;rw[hio] at e2;simp only[List.contains_nil,GE,if_false] at e2;obtain⟨v,e3,e4⟩:=sJ (i:=i) (d:=y.2) dv (by rw[GK,e1]; rfl);refine⟨v,pi e3,?_⟩;rw[FU,e2];exact⟨rfl,e4⟩
  .rw[hio];exact EO h
 .have hx:(x0::xs).length=F.np:=by rw[List.length_cons,dv.length,GA] at hlen; rw[List.length_cons]; exact hlen
  rw[Ip.run,hF] at h;simp only[if_pos hx,hio] at h;have hh:aU M (λi=>if i=0 then f0 else [])=λb=>M b\/b∈f0:=funext λb=>propext ⟨λz=>z.imp id λ⟨j,y⟩=>by
   by_cases q:j=0
   .simpa[q] using y
   .simp[q] at y,λz=>z.imp id λy=>⟨0,by simpa using y⟩⟩
  refine⟨hid (λb=>b∈f0) H,M,[(0,v0)],bW F (x0::xs),λi=>if i=0 then f0 else [],λp hp=>by simp at hp; rw[hp,hio]; simp,⟨λb u e=>(bg.mp e).2,hM,by rw[hsl,vW hx hnp,hns],λp hp=>?_,λi=>?_,λi j b h1 h2=>?_,λi b hb=>?_,λi x e=>?_,λi hi=>?_⟩,?_⟩
  .simp only[Gx] at hp;rw[hp];exact pi rfl
  .split
   .exact nd
   .exact .nil
  .split at h1
   .split at h2
    .omega
    .simp at h2
   .simp at h1
  .split at hb
   .exact⟨by unfold hid; exact if_pos hb,dj b hb⟩
   .simp at hb
  .obtain⟨y,e1,e2⟩:=uz e;rw[hio] at e2;rw[hh];cases i with
   | zero=>
    simp only[List.getElem?_cons_zero,Hj] at e1;subst e1;rw[if_pos (by simp)] at e2;subst e2;exact⟨v0,pi rfl,by simpa using ow⟩
   | succ i=>
    simp only[List.getElem?_cons_succ] at e1;rw[if_neg (by simp)] at e2;obtain⟨v,e3,e4⟩:=sJ (i:=i) (d:=y.2) dv (by rw[GK,e1]; rfl);refine⟨v,pi (by simpa using e3),?_⟩;rw[e2];exact⟨by simp,e4⟩
  .split
   .rename_i z;subst z;exact absurd (show (bW F (x0::xs))[0]? = some (some x0) by simp[bW,hio]) (hi x0)
   .rfl
  .rw[hio];exact AG h
structure FunD (K:bo)(x qual:Str)(st:Stmt)(f:Addr)(fd:FuncData):Prop where
 ex:∃(oc:Value) (od:aF) (dV kV doc pm:Value) (an:aF) (cdv ct:Value) (osl:Array aB),
  fd=PySem.W.fnOf x qual (aQ st) (aW st) (b8 st) dV kV doc pm an cdv ct/\K.lookup f=some ⟨oc,od,.func fd,osl⟩/\PySem.W.codeIn K cdv qual=true
def FunD.okX {N:au}{x qual:Str}{st:Stmt}{f:Addr}{fd:FuncData}{ps:au}{k:Nat}{sp:Sp}{K:bo}(F:FunD K x qual st f fd)(S:FnScope N ps (b8 st))(len:∀vs H Q E,sp vs H Q E->vs.length=ps.length)
  (hbody:∀(cdv:Value) (A:Around) (outer:List Env) (s:Shared) (H:Hp) (vs:aw) (Q:VK) (E:XK),Room k (A.deeper (envOfC qual (b8 st) s.heap.objs.size f cdv))->sp vs H Q E ->
   ∃t,PSs (fc (dY P w) P w K mg base N qual (b8 st) f cdv A outer s H E) (aW st) t/\t { nx:=λ_ H'=>Q .non H',rt:=Q } (start N vs) H):FnOk P w K mg base (dY P w) (k+1) f fd ps sp:=by
 obtain⟨oc,od,dV,kV,doc,pm,an,cdv,ct,osl,rfl,lk,hcd⟩:=F.ex;exact uK lk hcd S len λA outer s H vs Q E hr hsp=>hbody cdv A outer s H vs Q E hr hsp
structure DefAt (W:Wd)(T:Tb)(F:Fn)(a:Addr):Prop where
 ex:∃(x qual:Str) (st:Stmt) (fd:FuncData) (ps:au) (io:ak),FunD W.K x qual st a fd/\FnScope (fU (aQ st) (b8 st)) ps (b8 st)/\cF T io st=some F/\F.np=ps.length /\
  ∀m,m<=F.np->F.np - m<=F.dfl.length->∃(ds:ar) (dvs:aw),Binds W.K fd ps ds/\Vals dvs ds/\∀S,Dens W S dvs (cV F m)
def B4 {io:ak}{st:Stmt}{F:Fn}(h:cF T io st=some F):F.io=io/\F.ns=(fU (aQ st) (b8 st)).length/\F.np=(aQ st).args.length/\F.body=(aW st).map (cS T (b8 st) (fU (aQ st) (b8 st)) 60):=by
 unfold cF at h;split at h
 .obtain⟨ds,_,h2⟩:=dO h;subst h2;exact⟨rfl,rfl,rfl,rfl⟩
 .cases h
def FY {a:Arguments}{sc:Scope}:a.args.length<=(fU a sc).length:=by
 unfold fU;rw[GJ,GA]; omega
def sQ {k:Nat}{F:Fn}{a:Addr}{x qual:Str}{st:Stmt}{fd:FuncData}{ps:au}{io:ak}(hF:G.fn k=some F)(g:∀m,n=m+1->GF W G T m P w mg base)(gt:GT W G T mg)(fu:FunD W.K x qual st a fd)(S:FnScope (fU (aQ st) (b8 st)) ps (b8 st))(hc:cF T io st=some F)(hnp:F.np=ps.length) :
  FnOk P w W.K mg base (dY P w) (rm n) a fd ps (gU W G n k F):=by
 obtain⟨c1,c2,c3,c4⟩:=B4 hc;cases n with
 | zero=>
  refine fu.okX (k:=0) S (λvs H Q E h=>by rw[qH hF h,hnp]) λcdv A outer s H vs Q E hr h=>?_;rcases h with ⟨_,_,_,_,_,q⟩ | ⟨_,_,_,_,_,_,_,_,_,_,_,_,_,q⟩
  .exact q.elim
  .exact q.elim
 | succ n=>
  refine fu.okX (k:=3 * n+3) S (λvs H Q E h=>by rw[qH hF h,hnp]) λcdv A outer s H vs Q E hr h=>?_;refine⟨_,ly (io:=F.io) (E:=λ_=>E) (vF W G T n 60) (sc:=b8 st) (N:=fU (aQ st) (b8 st)) ?_ (aW st),?_⟩
  .refine⟨⟨g n rfl,rfl,λy hy=>?_,λy hy=>?_,λy hy=>?_,λy hy=>hy,rfl,S.nd,rfl,passF,hr.mono (by unfold rm; omega)⟩,gt,km,PassesOwn.leaving,⟨_,_,rfl,rfl⟩,rfl⟩
   .unfold bb at hy;simp only[G8,GC] at hy;exact hy.elim (λz=>z.elim .inl λz=>.inr (.inl z)) λz=>.inr (.inr z)
   .unfold bG at hy;simp only[G8,GC] at hy;exact⟨hy,.inl rfl⟩
   .unfold bw at hy;simp only[GC] at hy;exact hy
  .rw[<-c4];exact EQ hF c2 (by rw[c3,c2]; exact FY) h
def rf {k:Nat}{F:Fn}{a:Addr}(hF:G.fn k=some F)(g:∀m,n=m+1->GF W G T m P w mg base)(gt:GT W G T mg)(d:DefAt W T F a):FI W G n P w mg base k F a:=by
 obtain⟨x,qual,st,fd,ps,io,fu,S,hc,hnp,dfl⟩:=d.ex;exact⟨fd,ps,sQ hF g gt fu S hc hnp,dfl⟩
end
structure GF0 (W:Wd)(G:Pg)(T:Tb)(mg:Str->aB):Prop where
 cf:CF W T.fl
 att:W.att=T.att
 blt:∀x v,(x,v)∈fD->mg x=none/\bootBuiltins x=some v
 cst:∀x d,T.cst.lookup x=some d->(x == ("__debug__" : Str))=false/\∃u v,mg x=some u/\RelV v u/\d.flat=true/\∀S,Den W S v d
 fns:∀x k,T.fns.lookup x=some k->(x == ("__debug__" : Str))=false/\∃F a,G.fn k=some F/\mg x=some (.ref a)/\PySem.W.keepIn W.K (.ref a)=true/\DefAt W T F a
 cls:∀x c,T.cls.lookup x=some c->(x == ("__debug__" : Str))=false/\∃C,mg x=some (.ref C)/\∀Cl' f F,G.cl c=some Cl'->Cl'.init=some f->G.fn f=some F ->
  ∃a,DefAt W T F a/\if Cl'.isx=true then W.xA c=some C/\PySem.W.keepIn W.K (.ref C)=true/\∃tl,XC W.K C (.ref a) tl else W.iA c=some C/\Mk W.K C a
 meth:∀c Cl' m f F,G.cl c=some Cl'->Cl'.meths.lookup m=some f->G.fn f=some F->∀nm,W.att[m]? = some nm->∃C a,W.iA c=some C/\Meth W.K C nm a/\DefAt W T F a
 isB:∀x t,kO.lookup x=some t->mg x=none/\x ≠ "__name__" /\ (x == ("__debug__" : Str))=false/\∃nm,bootBuiltins x=some (.type nm)/\cu W G t (.type nm)
 isC:∀x c,T.cls.lookup x=some c->∃C,mg x=some (.ref C)/\cu W G (.cls c) (.ref C)
def DN {W:Wd}{G:Pg}{T:Tb}{P:Program}{w:World}{mg:Str->aB}{base:Heap}(g0:GF0 W G T mg)(gt:GT W G T mg):∀n,GF W G T n P w mg base:=by
 have step:∀n,(∀m,n=m+1->GF W G T m P w mg base)->GF W G T n P w mg base:=λn ih=>
  ⟨g0.cf,g0.att,g0.blt,g0.cst,λx k h=>by
   obtain⟨h1,F,a,h2,h3,h4,h5⟩:=g0.fns x k h;exact⟨h1,F,a,h2,h3,h4,rf h2 ih gt h5⟩,λx c h=>by
   obtain⟨h1,C,h2,h3⟩:=g0.cls x c h;refine⟨h1,C,h2,λCl' f F q1 q2 q3=>?_⟩;obtain⟨a,h4,h5⟩:=h3 Cl' f F q1 q2 q3;exact⟨a,rf q3 ih gt h4,h5⟩,λc Cl' m f F q1 q2 q3 nm q4=>by
   obtain⟨C,a,h1,h2,h3⟩:=g0.meth c Cl' m f F q1 q2 q3 nm q4;exact⟨C,a,h1,h2,rf q3 ih gt h3⟩,g0.isB,g0.isC⟩
 intro n;induction n with
 | zero=>exact step 0 λm h=>by cases h
 | succ n ih=>exact step (n+1) λm h=>by cases h; exact ih
section
variable {W:Wd}{T:Tb}{F:Fn}{f:Addr}{x qual:Str}{st:Stmt}{oc dV kV doc pm cdv ct:Value}{od an:aF}{osl:Array aB}{ps:au}{io:ak}
def Ev (l:W.K.lookup f=some ⟨oc,od,.func (PySem.W.fnOf x qual (aQ st) (aW st) (b8 st) dV kV doc pm an cdv ct),osl⟩)(c:PySem.W.codeIn W.K cdv qual=true)
  (S:FnScope (fU (aQ st) (b8 st)) ps (b8 st))(hc:cF T io st=some F)(hnp:F.np=ps.length)(hd:F.dfl=[])
  (hb:∀us:ar,us.length=ps.length->bindArgs (PySem.W.fnOf x qual (aQ st) (aW st) (b8 st) dV kV doc pm an cdv ct) ⟨us,[]⟩=pure (ps.zip us)):DefAt W T F f:=by
 refine⟨x,qual,st,_,ps,io,⟨oc,od,dV,kV,doc,pm,an,cdv,ct,osl,rfl,l,c⟩,S,hc,hnp,λm h1 h2=>⟨[],[],Binds.all hb,.nil,λS=>?_⟩⟩;unfold cV;rw[hd];simp;exact .nil
def zM {d:D}{v:V}{u:Value}(l:W.K.lookup f=some ⟨oc,od,.func (PySem.W.fnOf x qual (aQ st) (aW st) (b8 st) dV kV doc pm an cdv ct),osl⟩)(c:PySem.W.codeIn W.K cdv qual=true)
  (S:FnScope (fU (aQ st) (b8 st)) ps (b8 st))(hc:cF T io st=some F)(hnp:F.np=ps.length)(hd:F.dfl=[d])(r:RelV v u)(dv:∀S,Den W S v d)
  (hb0:Binds W.K (PySem.W.fnOf x qual (aQ st) (aW st) (b8 st) dV kV doc pm an cdv ct) ps [])(hb1:Binds W.K (PySem.W.fnOf x qual (aQ st) (aW st) (b8 st) dV kV doc pm an cdv ct) ps [u]):DefAt W T F f:=by
 refine⟨x,qual,st,_,ps,io,⟨oc,od,dV,kV,doc,pm,an,cdv,ct,osl,rfl,l,c⟩,S,hc,hnp,λm h1 h2=>?_⟩;unfold cV;rw[hd] at h2 ⊢;by_cases e:F.np - m=0
 .refine⟨[],[],hb0,.nil,λS=>?_⟩;rw[e];exact .nil
 .have:F.np - m=1:=by simp at h2; omega
  refine⟨[u],[v],hb1,.cons r .nil,λS=>?_⟩;rw[this];exact .cons (dv S) .nil
theorem mem_of_lookup {o:Obj}{a:Addr}:∀{l:ah},l.lookup a=some o->(a,o)∈l
 | [],h=>nomatch h
 | (y,j)::r,h=>by
  rw[List.lookup_cons] at h;cases e:a == y with
  | true=>
   rw[e] at h;rw[GC] at e;cases h;rw[e];exact bZ
  | false=>rw[e] at h; exact bQ _ (mem_of_lookup h)
def gJ (K:bo):Sp:=λvs H Q _=>∃(a:Addr) (ns:al),vs=[.ref a]/\SqL K H a (ns.map V.int)/\ns.length<=63/\∀H',Q (.bl true) H'
def Gm {G:Pg}{n k:Nat}(hio:F.io=[])(hno:(W.K.all λp=>!(p.2.cls == Value.type "list"))=true)(hr:∀ns:List Int,ns.length<=63->∃kk,Ip.run G n k [(0,.lst (ns.map D.int))]=.ret kk (.bl true) []) :
  ∀vs H Q E,gJ W.K vs H Q E->gU W G n k F vs H Q E:=by
 rintro vs H Q E ⟨a,ns,e,hS,hl,hq⟩;subst e;obtain⟨kk,hr⟩:=hr ns hl;refine .inl ⟨hio,λ_=>False,[(0,.lst (ns.map D.int))],λ_ z=>z.elim,?_,?_⟩
 .have e:hid (λ_=>False) H=H:=funext λb=>by unfold hid; exact if_neg id
  rw[e];have hR:Rd H a (.lst (ns.map V.int)):=by
   rcases hS with h | ⟨o,its,m,h1,h2,_⟩
   .exact h
   .have:=eB hno (a,o) (mem_of_lookup h1);rw[h2] at this;simp at this
  refine .cons (.lst hR ?_) .nil;clear hr hS hR hl;induction ns with
  | nil=>exact .nil
  | cons i ns ih=>exact .cons .int ih
 .rw[hr];rintro v H' ⟨_,fp,_,_,o⟩;have:v=.bl true:=by
   cases kk with
   | zero=>obtain⟨_,o⟩:=o; cases o; rfl
   | succ kk=>obtain⟨_,o⟩:=o; cases o; rfl
  subst this;exact hq H'
end
section
variable {W:Wd}{G:Pg}{T:Tb}{mg:Str->aB}
def PF (W:Wd)(T:Tb)(G:Pg)(mg:Str->aB)(p:Str×Nat):Prop:=(p.1 == ("__debug__" : Str))=false/\∃F a,G.fn p.2=some F/\mg p.1=some (.ref a)/\PySem.W.keepIn W.K (.ref a)=true/\DefAt W T F a
def xV (W:Wd)(T:Tb)(G:Pg)(mg:Str->aB)(p:Str×Nat):Prop:=(p.1 == ("__debug__" : Str))=false/\∃C,mg p.1=some (.ref C)/\cu W G (.cls p.2) (.ref C)/\∀Cl' f F,G.cl p.2=some Cl'->Cl'.init=some f->G.fn f=some F ->
  ∃a,DefAt W T F a/\if Cl'.isx=true then W.xA p.2=some C/\PySem.W.keepIn W.K (.ref C)=true/\∃tl,XC W.K C (.ref a) tl else W.iA p.2=some C/\Mk W.K C a
def PV (W:Wd)(mg:Str->aB)(p:Str×D):Prop:=(p.1 == ("__debug__" : Str))=false/\∃u v,mg p.1=some u/\RelV v u/\p.2.flat=true/\∀S,Den W S v p.2
def PM (W:Wd)(T:Tb)(G:Pg)(C:Addr)(p:Nat×Nat):Prop:=∃F nm a,G.fn p.2=some F/\W.att[p.1]? = some nm/\Meth W.K C nm a/\DefAt W T F a
theorem gc {α β:Type}[BEq α][LawfulBEq α]{a:α}{b:β}:∀{l:List (α×β)},l.lookup a=some b->(a,b)∈l
 | [],h=>nomatch h
 | (y,j)::r,h=>by
  rw[List.lookup_cons] at h;cases e:a == y with
  | true=>
   rw[e] at h;rw[GC] at e;cases h;rw[e];exact bZ
  | false=>rw[e] at h; exact bQ _ (gc h)
def xX (cf:CF W T.fl)(att:W.att=T.att)(blt:∀p∈fD,mg p.1=none/\bootBuiltins p.1=some p.2)(cst:∀p∈T.cst,PV W mg p)(fns:∀p∈T.fns,PF W T G mg p)(cls:∀p∈T.cls,xV W T G mg p)
  (meth:∀c Cl',G.cl c=some Cl'->Cl'.meths≠[]->∃C,W.iA c=some C/\∀p∈Cl'.meths,PM W T G C p)
  (isB:∀p∈kO,mg p.1=none/\p.1 ≠ "__name__" /\ (p.1 == ("__debug__" : Str))=false/\∃nm,bootBuiltins p.1=some (.type nm)/\cu W G p.2 (.type nm)):GF0 W G T mg where
 cf:=cf
 att:=att
 blt:=λx v h=>blt (x,v) h
 cst:=λx d h=>cst (x,d) (gc h)
 fns:=λx k h=>fns (x,k) (gc h)
 cls:=λx c h=>by
  obtain⟨h1,C,h2,_,h3⟩:=cls (x,c) (gc h);exact⟨h1,C,h2,h3⟩
 meth:=λc Cl' m f F h1 h2 h3 nm h4=>by
  have hm:=gc h2;obtain⟨C,e1,e2⟩:=meth c Cl' h1 (λz=>by rw[z] at hm; simp at hm);obtain⟨F',nm',a,e3,e4,e5,e6⟩:=e2 (m,f) hm;rw[h3] at e3; cases e3;rw[h4] at e4; cases e4;exact⟨C,a,e1,e5,e6⟩
 isB:=λx t h=>isB (x,t) (gc h)
 isC:=λx c h=>by
  obtain⟨_,C,h2,h3,_⟩:=cls (x,c) (gc h);exact⟨C,h2,h3⟩
def A7 {t:Ip.Ty}{cv:Value}(h0:PySem.W.kitOne W.K (.type "NoneType") cv=some (bh G .non t))(h1:PySem.W.kitOne W.K (.type "bool") cv=some (bh G (.bl true) t))(h2:PySem.W.kitOne W.K (.type "int") cv=some (bh G (.int 0) t))
  (h3:PySem.W.kitOne W.K (.type "str") cv=some (bh G (.str "") t))(h4:PySem.W.kitOne W.K (.type "list") cv=some (bh G (.lst []) t))(h5:PySem.W.kitOne W.K (.type "tuple") cv=some (bh G (.tup []) t))
  (h6:∀c C,W.iA c=some C->PySem.W.kitOne W.K (.ref C) cv=some (bh G (.ins c []) t))(h7:∀c C,W.xA c=some C->PySem.W.kitOne W.K (.ref C) cv=some (bh G (.exc c []) t)):cu W G t cv:=by
 intro d tv h;cases d with
 | non=>cases h; exact h0
 | bl b=>cases h; rw[h1]; cases t <;> rfl
 | int i=>cases h; rw[h2]; cases t <;> rfl
 | str s=>cases h; rw[h3]; cases t <;> rfl
 | lst xs=>cases h; rw[h4]; cases t <;> rfl
 | tup xs=>cases h; rw[h5]; cases t <;> rfl
 | ins c fs=>
  obtain⟨C,e1,e2⟩:=dO h;subst e2;rw[h6 c C e1]; cases t <;> rfl
 | exc c fs=>
  obtain⟨C,e1,e2⟩:=dO h;subst e2;rw[h7 c C e1]; cases t <;> rfl
end
noncomputable def dh (K:bo)(iL xL:List (Nat×Addr))(att:au):Wd:=⟨K,λc=>iL.lookup c,λc=>xL.lookup c,att⟩
def lm {α:Type}{l:List α}(h:l.length=1):∃a,l=[a]:=Hx.mp h
def je {α:Type}{l:List α}{n:Nat}(h:l.length=n+1):∃a r,l=a::r/\r.length=n:=by
 cases l with
 | nil=>cases h
 | cons a r=>exact⟨a,r,rfl,Nat.succ.inj h⟩
def kR {α:Type}{l:List α}(h:l.length=2):∃a b,l=[a,b]:=by
 obtain⟨a,r,rfl,h2⟩:=je h;obtain⟨b,rfl⟩:=lm h2;exact⟨a,b,rfl⟩
def mf {α:Type}{l:List α}(h:l.length=3):∃a b c,l=[a,b,c]:=by
 obtain⟨a,r,rfl,h2⟩:=je h;obtain⟨b,c,rfl⟩:=kR h2;exact⟨a,b,c,rfl⟩
def nh {α:Type}{l:List α}(h:l.length=4):∃a b c d,l=[a,b,c,d]:=by
 obtain⟨a,r,rfl,h2⟩:=je h;obtain⟨b,c,d,rfl⟩:=mf h2;exact⟨a,b,c,d,rfl⟩
def qU {α:Type}{l:List α}(h:l.length=5):∃a b c d e,l=[a,b,c,d,e]:=by
 obtain⟨a,r,rfl,h2⟩:=je h;obtain⟨b,c,d,e,rfl⟩:=nh h2;exact⟨a,b,c,d,e,rfl⟩
section
variable {K:bo}{iL xL:List (Nat×Addr)}{att:au}{fl:ak}{G:Pg}{T:Tb}{mg:Str->aB}
noncomputable def o5 (fl:ak)(att:au):au:=fl.filterMap λf=>att[f]?
abbrev NoA (K:bo)(C:Addr)(ns:au):Prop:=(ns.map λn=>PySem.W.findIn K (.ref C) n)=ns.map λ_=>some none
def NoA.at {C:Addr}{ns:au}(h:NoA K C ns){n:Str}(hn:n∈ns):NoAttr K C n:=G3.mp h n hn
def Cu (nd:att.Nodup)(hi:∀p∈iL,InsC K p.2/\NoA K p.2 (o5 fl att))(hx:∀p∈xL,ExcC K p.2/\NoA K p.2 (o5 fl att)):CF (dh K iL xL att) fl:=
 ⟨nd,λc C h=>⟨(hi (c,C) (gc h)).1,λf n hf hn=>(hi (c,C) (gc h)).2.at (Ig.mpr ⟨f,hf,hn⟩)⟩,
  λc C h=>⟨(hx (c,C) (gc h)).1,λf n hf hn=>(hx (c,C) (gc h)).2.at (Ig.mpr ⟨f,hf,hn⟩)⟩⟩
abbrev mJ (K:bo)(G:Pg)(t:Ip.Ty)(cv:Value):Prop:=[PySem.W.kitOne K (.type "NoneType") cv,PySem.W.kitOne K (.type "bool") cv,PySem.W.kitOne K (.type "int") cv,PySem.W.kitOne K (.type "str") cv,PySem.W.kitOne K (.type "list") cv,PySem.W.kitOne K (.type "tuple") cv]=[some (bh G .non t),some (bh G (.bl true) t),some (bh G (.int 0) t),some (bh G (.str "") t),some (bh G (.lst []) t),some (bh G (.tup []) t)]
abbrev sD (K:bo)(iL:List (Nat×Addr))(G:Pg)(t:Ip.Ty)(cv:Value):Prop:=(iL.map λp=>PySem.W.kitOne K (.ref p.2) cv)=iL.map λp=>some (bh G (.ins p.1 []) t)
abbrev qq (K:bo)(xL:List (Nat×Addr))(G:Pg)(t:Ip.Ty)(cv:Value):Prop:=(xL.map λp=>PySem.W.kitOne K (.ref p.2) cv)=xL.map λp=>some (bh G (.exc p.1 []) t)
def A0 {t:Ip.Ty}{cv:Value}(hb:mJ K G t cv)(hi:sD K iL G t cv)(hx:qq K xL G t cv):cu (dh K iL xL att) G t cv:=by
 unfold mJ at hb;injection hb with h0 hb;injection hb with h1 hb;injection hb with h2 hb;injection hb with h3 hb;injection hb with h4 hb;injection hb with h5 hb;exact A7 h0 h1 h2 h3 h4 h5 (λc C h=>G3.mp hi (c,C) (gc h)) λc C h=>G3.mp hx (c,C) (gc h)
def Dr {Wa:Addr}(db:(T.wb == ("__debug__" : Str))=false)(hm:mg T.wb=some (.ref Wa))(xi:XInit K Wa)(xo:XO K Wa [])(h:∀p∈xL,∃tl,XO K p.2 tl/\Wa∈p.2::tl):GT (dh K iL xL att) G T mg:=
 ⟨db,Wa,[],hm,xi,xo,λc c' C fs _ h2 _=>h (c',C) (gc h2)⟩
def FnAt (K:bo)(x qual:Str)(st:Stmt)(f:Addr):Prop:=∃(oc:Value) (od:aF) (kV doc pm:Value) (an:aF) (cdv ct:Value) (osl:Array aB),
 K.lookup f=some ⟨oc,od,.func (PySem.W.fnOf x qual (aQ st) (aW st) (b8 st) .none kV doc pm an cdv ct),osl⟩/\PySem.W.codeIn K cdv qual=true
def FnAt.mk {x qual:Str}{st:Stmt}{f:Addr}{oc kV doc pm cdv ct:Value}{od an:aF}{osl:Array aB}(l:K.lookup f=some ⟨oc,od,.func (PySem.W.fnOf x qual (aQ st) (aW st) (b8 st) .none kV doc pm an cdv ct),osl⟩)(c:PySem.W.codeIn K cdv qual=true):FnAt K x qual st f:=
 ⟨oc,od,kV,doc,pm,an,cdv,ct,osl,l,c⟩
def FnAtD (K:bo)(x qual:Str)(st:Stmt)(v:V)(f:Addr):Prop:=∃(oc:Value) (od:aF) (t:Addr) (kV doc pm:Value) (an:aF) (cdv ct:Value) (osl:Array aB) (u oct:Value) (odt:aF) (n:Nat) (slt:Array aB),
 K.lookup f=some ⟨oc,od,.func (PySem.W.fnOf x qual (aQ st) (aW st) (b8 st) (.ref t) kV doc pm an cdv ct),osl⟩/\PySem.W.codeIn K cdv qual=true/\K.lookup t=some ⟨oct,odt,.seq #[u] n,slt⟩/\RelV v u
def FnAtD.mk {x qual:Str}{st:Stmt}{v:V}{f t:Addr}{oc kV doc pm cdv ct u oct:Value}{od an odt:aF}{osl slt:Array aB}{n:Nat}(l:K.lookup f=some ⟨oc,od,.func (PySem.W.fnOf x qual (aQ st) (aW st) (b8 st) (.ref t) kV doc pm an cdv ct),osl⟩)(c:PySem.W.codeIn K cdv qual=true)
  (lt:K.lookup t=some ⟨oct,odt,.seq #[u] n,slt⟩)(r:RelV v u):FnAtD K x qual st v f:=⟨oc,od,t,kV,doc,pm,an,cdv,ct,osl,u,oct,odt,n,slt,l,c,lt,r⟩
def BY {K:bo}{iL xL:List (Nat×Addr)}{P:Program}{w:World}{n:Nat}{F:Fn}{f:Addr}{st:Stmt}{x:Str}(g0:GF0 (dh K iL xL att) G T mg)(gt:GT (dh K iL xL att) G T mg)(hno:(K.all λp=>!(p.2.cls == Value.type "list"))=true)(hF:G.fn 69=some F)(hio:F.io=[])(d:FnAt K "law" "law" st f)
  (S:FnScope (fU (aQ st) (b8 st)) [x] (b8 st))(hc:cF T [] st=some F)(hnp:F.np=1)(hb:∀(kV doc pm:Value) (an:aF) (cdv ct:Value) (u:Value),bindArgs (PySem.W.fnOf "law" "law" (aQ st) (aW st) (b8 st) .none kV doc pm an cdv ct) ⟨[u],[]⟩=pure [(x,u)])
  (hr:∀ns:al,ns.length<=63->∃kk,Ip.run G n 69 [(0,.lst (ns.map D.int))]=.ret kk (.bl true) []) :
  ∃fd:FuncData,(∀(s:Shared) (u:Value),BindsTo s fd ⟨[u],[]⟩ [(x,u)])/\∀base:Heap,K.In base->base.Ns mainGlobals mg->FnOk P w K mg base (dY P w) (rm n) f fd [x] (gJ K):=by
 obtain⟨oc,od,kV,doc,pm,an,cdv,ct,osl,l,c⟩:=d;refine⟨_,λs u=>.of_eq (hb kV doc pm an cdv ct u),λbase _ _=>?_⟩;have fu:FunD (dh K iL xL att).K "law" "law" st f (PySem.W.fnOf "law" "law" (aQ st) (aW st) (b8 st) .none kV doc pm an cdv ct):=⟨oc,od,.none,kV,doc,pm,an,cdv,ct,osl,rfl,l,c⟩
 exact (sQ (n:=n) hF (λm _=>DN g0 gt m) gt fu S hc hnp).imp (Gm (W:=dh K iL xL att) hio hno hr)
def XO.mk' {C:Addr}{tl:ao}{nm q:Str}{N:Addr}{bs:ar}{sn:au}{sub:ar}{ab:Bool}{col:Option Bool}{dd:aF}{k0 k1 k2 k3 k5:aB}
  (h:K.lookup C=some (excClassObj nm q C N bs (tl.map Value.ref++b7) true sn sub ab col dd k0 k1 k2 k3 k5 "ValueError.__new__")):XO K C tl:=⟨nm,q,N,bs,sn,sub,ab,col,dd,k0,k1,k2,k3,k5,h⟩
end
end L2
end
section
namespace Hd
open PySem PySem.W PySem.Calls PyProof.Rows
noncomputable def ip (thr ok:Thread->Bool)(stp:SharedT->Thread->Option (SharedT×Thread))(n:Nat):SharedT->Thread->Option SharedT:=
 @Nat.rec (λ_=>SharedT->Thread->Option SharedT) (λ_ _=>none) (λ_ ih s t=>match thr t with
  | true=>some s
  | false=>match ok t with
   | false=>none
   | true=>match stp s t with
    | some (s',t')=>ih s' t'
    | none=>none) n
theorem AR (thr ok:Thread->Bool)(stp:SharedT->Thread->Option (SharedT×Thread))(n:Nat)(s:SharedT)(t:Thread):ip thr ok stp (n+1) s t=(match thr t with
  | true=>some s
  | false=>match ok t with
   | false=>none
   | true=>match stp s t with
    | some (s',t')=>ip thr ok stp n s' t'
    | none=>none):=rfl
theorem wf {tb:String->Option Builtin}{p:Program}{w:World}{n₀:Nat}{ann:aB}:∀(n:Nat) (s s':SharedT) (t:Thread),ip through (stepOk n₀ ann) (stepT (denote tb) p w) n s t=some s'->topRun tb p w n₀ ann n s.abs t=some s'.abs
 | 0,_,_,_,h=>by cases h
 | n+1,s,s',t,h=>by
  rw[AR] at h;unfold topRun;cases ht:through t with
  | true=>rw[ht] at h; cases h; rfl
  | false=>
   rw[ht] at h;cases hk:stepOk n₀ ann t with
   | false=>rw[hk] at h; cases h
   | true=>
    rw[hk] at h;cases hs:stepT (denote tb) p w s t with
    | none=>rw[hs] at h; cases h
    | some r=>obtain⟨s₂,t₂⟩:=r; rw[hs] at h; dsimp only; rw[stepT_spec hs]; exact wf n s₂ s' t₂ h
noncomputable def lookG {β α:Type}(mods:au)(so lk:Heap->Heap->Bool)(nb:Heap->Bool)(seen:Shared->β)(Yf:Shared->α)(h₀:Heap)(st:SharedT):Bool×β×α:=
 (so h₀ st.abs.heap&&nb st.abs.heap&&gensDone st.abs&&lk h₀ st.abs.heap,seen st.abs,Yf st.abs)
def Bu {p q:Program}{loose:au}{Xt:Shared->Bool}{α:Type}{Yf:Shared->α}{Ya:World->α}{N m₀:Nat}{ann:aB}{T0:Params->BT}{life:Params->Life}
  (e:opening p=plainProg p.main.scope.names)(hN:Nat.ble 600 N=true)(f:∀s,fenceModules? p s=some s)
  (size:∀w:World,((boot_heap w.params).isNs mainGlobals,(boot_heap w.params).objs.size,(boot_heap w.params).nsMap mainGlobals "__annotations__")=(true,m₀,ann))
  (habs:∀P,absHeap (T0 P) m₀ (life P)=boot_heap P)
  (run:∀(w:World) (os:OsState),(ip through (stepOk m₀ ann) (stepT (denote treeTable) p w) N ⟨T0 w.params,m₀,life w.params,Array.mk [],boot_drawn,boot_toks,os⟩ (topStub p)).map
   (lookG (importedModules p.main.body) (staticsOk (importedModules p.main.body)) laidKept (namesBound p) (openSeen q loose (importedModules p.main.body) Xt true) Yf (boot_heap w.params))=some (true,openGood q loose,Ya w)) :
  LeftO p q loose Xt Yf Ya N:=λw=>by
 obtain⟨⟨h,gs,d,k,os⟩,e1,e'⟩:=dO (boot_open e hN f w);obtain⟨rfl,rfl,rfl,rfl⟩:h=boot_heap w.params/\gs=Array.mk []/\d=boot_drawn/\k=boot_toks:=by simpa using e'
 obtain⟨z1,z2,z3⟩:_/\_/\_:=by simpa only[He] using size w
 obtain⟨st,hr,hl⟩:=dO (run w os);have r:=wf _ _ _ _ hr;have ha:SharedT.abs ⟨T0 w.params,m₀,life w.params,Array.mk [],boot_drawn,boot_toks,os⟩=⟨boot_heap w.params,Array.mk [],boot_drawn,boot_toks,os⟩:=by
  show Shared.mk _ _ _ _ _=_;rw[habs]
 rw[ha] at r;obtain⟨l1,l2,l3⟩:_/\_/\_:=by simpa only[lookG,He] using hl
 have t:topFrom treeTable p w N ⟨boot_heap w.params,Array.mk [],boot_drawn,boot_toks,os⟩=some st.abs:=by
  unfold topFrom;dsimp only;rw[z1,z2,z3];show ((topRun treeTable p w m₀ ann N _ (topStub p)).bind _)=_;rw[r];show (match staticsOk (importedModules p.main.body) (boot_heap w.params) st.abs.heap&&namesBound p st.abs.heap&&gensDone st.abs&&laidKept (boot_heap w.params) st.abs.heap with | true=>_ | false=>_)=_;rw[l1]
 unfold openEnds;rw[e1];show (topFrom treeTable p w N _).map _=_;rw[t];exact congrArg some (Prod.ext l2 l3)
end Hd
end
section
namespace Hd
open PySem PySem.Spec PySem.W PyProof.Rows L2
noncomputable abbrev wl:=(Str×Str×Arguments×FuncBody)×Scope×Addr×List (Str×Addr)×Value×Addr×Bool
noncomputable def ki (K:Frag)(f:Addr):Option wl:=match K.lookup f with
 | some ⟨_,_,.func fd,_⟩=>some ((fd.name,fd.qualname,fd.params,fd.body),fd.scope,fd.globals,fd.closure,fd.defaults,fd.builtins,codeIn K fd.code fd.qualname)
 | _=>none
noncomputable abbrev nF:=Value×List Value×Bool×Bool×aB
noncomputable def pA (K:Frag)(C:Addr):Option nF:=match K.lookup C with
 | some ⟨c,_,.cls cd,⟨[_,_,_,_,k4,_]⟩⟩=>some (c,cd.mro,cd.hasDict,cd.hasDel,k4)
 | _=>none
noncomputable def iV (K:Frag)(t:Addr):Option ar:=match K.lookup t with
 | some ⟨_,_,.seq xs _,_⟩=>some xs.toList
 | _=>none
def DG {K:Frag}{f:Addr}{oc:Value}{od:aF}{fd:FuncData}{osl:Array aB}(l:K.lookup f=some ⟨oc,od,.func fd,osl⟩):ki K f=some ((fd.name,fd.qualname,fd.params,fd.body),fd.scope,fd.globals,fd.closure,fd.defaults,fd.builtins,codeIn K fd.code fd.qualname):=by
 unfold ki; rw[l]
def w8 {K:Frag}{f:Addr}{x qual:Str}{st:Stmt}(h:ki K f=some ((x,qual,aQ st,.stmts (aW st)),b8 st,mainGlobals,[],.none,builtinsNs,true)):FnAt K x qual st f:=by
 unfold ki at h;split at h
 .rename_i fd _ hk;obtain⟨a1,a2,a3,a4,a5,a6,a7,a8,a9,a10,a11,a12,a13,a14,a15⟩:=fd;simp only[Hj,He] at h;obtain⟨⟨rfl,rfl,rfl,rfl⟩,rfl,rfl,rfl,rfl,rfl,hc⟩:=h;exact .mk hk hc
 .cases h
def Dk {K:Frag}{f t:Addr}{x qual:Str}{st:Stmt}{v:V}{u:Value}(h:ki K f=some ((x,qual,aQ st,.stmts (aW st)),b8 st,mainGlobals,[],.ref t,builtinsNs,true))(ht:iV K t=some [u])(r:RelV v u):FnAtD K x qual st v f:=by
 unfold ki at h;split at h
 .rename_i fd _ hk;obtain⟨a1,a2,a3,a4,a5,a6,a7,a8,a9,a10,a11,a12,a13,a14,a15⟩:=fd;simp only[Hj,He] at h;obtain⟨⟨rfl,rfl,rfl,rfl⟩,rfl,rfl,rfl,rfl,rfl,hc⟩:=h;unfold iV at ht;split at ht
  .rename_i xs n _ hs;obtain⟨l⟩:=xs;obtain rfl:l=[u]:=cG ht;exact .mk hk hc hs r
  .cases ht
 .cases h
def vt {K:Frag}{C:Addr}{tl:ao}(h:pA K C=some (.type "type",.ref C::(tl.map Value.ref++b7),true,false,some (.builtin "ValueError.__new__"))):XO K C tl:=by
 unfold pA at h;split at h
 .rename_i c cd k0 k1 k2 k3 k4 k5 hk;obtain⟨a1,a2,a3,a4,a5,a6,a7,a8,a9,a10,a11⟩:=cd;simp only[Hj,He] at h;obtain⟨rfl,rfl,rfl,rfl,rfl⟩:=h;exact .mk' hk
 .cases h
noncomputable def oS (as:ao)(h:Heap):Frag:=as.filterMap λa=>(h.get? a).map λo=>(a,o)
theorem vR (h:Heap):∀as:ao,(oS as h).In h
 | []=>λa o e=>by cases e
 | a::as=>λb o e=>by
  have ih:=vR h as;unfold oS at e ih;rw[List.filterMap_cons] at e;cases q:h.get? a with
  | none=>rw[q] at e; exact ih b o e
  | some x=>
   rw[q] at e;by_cases hb:b=a
   .subst hb;have:some x=some o:=by simpa[List.lookup_cons] using e
    cases this;exact q
   .have:(List.filterMap (λa=>(h.get? a).map λo=>(a,o)) as).lookup b=some o:=by
     have hb':(b == a)=false:=Hf.mpr hb;simpa[List.lookup_cons,hb'] using e
    exact ih b o this
noncomputable def jt {α:Type}(as:ao)(q:Frag->α)(v:α):Hook where
 α:=α
 obs:=λs=>q (oS as s.heap)
 val:=λ_=>v
 says:=λ_ h=>∃K:Frag,K.In h/\q K=v
 of:=λ_ s e=>⟨_,vR s.heap as,e⟩
 keeps:=λ_ _ _ ⟨K,a,b⟩ k=>⟨K,a.keeps k,b⟩
def zT {l:OpenLaw}{n k:Nat}{q:Program}{loose:au}{XP:(Str->aB)->Heap->Prop}{d:DefRec}{α:Type}{as:ao}{qs:Frag->α}{v:α}{CX:World->gG}{sp:World->Frag->Sp}{x:Str}
  (hn:l.most=some n)(hn2:n<=sizeLine)(hdf:d.params.defaults=[])(hr:Room k callerA)
  (F:∀(w:World) (K:Frag) (mg:Str->aB) (fa:Addr) (h:Heap),qs K=v->K.In h->h.Ns mainGlobals mg->mg d.name=some (.ref fa) ->
   ∃fd:FuncData,(∀(s:Shared) (u:Value),BindsTo s fd ⟨[u],[]⟩ [(x,u)]) /\
    ∀base:Heap,K.In base->base.Ns mainGlobals mg->FnOk l.prog w K mg base (CX w) k fa fd [x] (sp w K))
  (hsp:∀(w:World) (K:Frag) (H:Hp) (a:Addr) (ns:al),ns.length<=n->iO H->SqL K H a (ns.map V.int)->sp w K [.ref a] H (λv _=>v=.bl true) λ_ _ _=>False)
  (hCX:∀(w:World) (H:Hp) (s:Shared) (e:Value) (s':Shared),CX w [] H s (λ_ _ _=>False) e s'->False) :
  WalkO q loose XP (Hook.says (jt as qs v)) l.row.toRowW d [] (λf vs=>PySem.call f vs):=by
 refine Att.attach_call hn hdf λw s₀ s₁ mg mb fa o pm cd doc a vs ns G Y ho hd hcd hmg hobj hints hlen hg=>?_;obtain⟨K,KX,hq⟩:=Y;obtain⟨fd,hb,hF⟩:=F w K mg fa _ hq KX G.T.g hmg;exact we KX G.T.g G.T.b G.T.builtins G.T.nolimit hg hobj hints (ce hlen hn2) hr hF hb (λH hO hS=>hsp w K H a ns hlen hO hS) λH e s'=>hCX w H s₁ e s'
def Cn {α:Type}{p:α->Prop}{a:α}{l:List α}(h:p a)(t:∀b∈l,p b):∀b∈a::l,p b:=List.forall_mem_cons.mpr ⟨h,t⟩
def Nl {α:Type}{p:α->Prop}:∀b∈([]:List α),p b:=λ_ h=>nomatch h
structure Fd where
 x:Str
 q:Str
 k:Nat
 f:Addr
 st:Stmt
 d:Option (Addr×Value)
noncomputable abbrev OV:=Option aB
noncomputable abbrev DV:=Option wl×Option (Option ar)
noncomputable def nL (d:Option (Addr×Value)):Value:=match d with
 | none=>.none
 | some p=>.ref p.1
noncomputable def qD (K:Frag)(d:Fd):DV:=(ki K d.f,d.d.map λp=>iV K p.1)
noncomputable def aD (d:Fd):DV:=(some ((d.x,d.q,aQ d.st,.stmts (aW d.st)),b8 d.st,mainGlobals,[],nL d.d,builtinsNs,true),d.d.map λp=>some [p.2])
section
variable {W:Wd}{T:Ip.Tb}{G:Ip.Pg}{F:Ip.Fn}{ps:au}{io:ak}{d:Fd}{mg:Str->aB}{K:Frag}
noncomputable def uv (N ps:au)(sc:Scope):Bool:=sc.kind == .function&&(sc.isCoroutine == false&&(sc.isGenerator == false&&(decide N.Nodup&&(N.take ps.length == ps&&(ps.all (λx=>sc.names.lookup x == some .local||sc.names.lookup x == some .cell)&&sc.names.all λy=>y.2 != .free)))))
def qK {N ps:au}{sc:Scope}(h:uv N ps sc=true):FnScope N ps sc:=by
 simp only[uv,tw,GC,GR,List.all_eq_true,G8,bne_iff_ne] at h;obtain⟨h1,h2,h3,h4,h5,h6,h7⟩:=h;exact⟨h1,h2,h3,h4,h5,h6,h7⟩
def dA (h:qD W.K d=aD d)(hd:d.d=none:=by rfl)(S:FnScope (Ip.fU (aQ d.st) (b8 d.st)) ps (b8 d.st):=by exact qK (by kernel_rfl))(hc:Ip.cF T io d.st=some F:=by kernel_rfl)(hnp:F.np=ps.length:=by rfl)(hf:F.dfl=[]:=by rfl)
  (hb:∀(kV doc pm:Value) (an:aF) (cdv ct:Value) (us:ar),us.length=ps.length->bindArgs (fnOf d.x d.q (aQ d.st) (aW d.st) (b8 d.st) .none kV doc pm an cdv ct) ⟨us,[]⟩=pure (ps.zip us):=by
   intro _ _ _ _ _ _ us hl;first | (obtain⟨_,rfl⟩:=lm hl; rfl) | (obtain⟨_,_,rfl⟩:=kR hl; rfl) | (obtain⟨_,_,_,rfl⟩:=mf hl; rfl) | (obtain⟨_,_,_,_,rfl⟩:=nh hl; rfl) | (obtain⟨_,_,_,_,_,rfl⟩:=qU hl; rfl)):DefAt W T F d.f:=by
 have h1:=(IE h).1;rw[hd] at h1;obtain⟨oc,od,kV,doc,pm,an,cdv,ct,osl,l,c⟩:=w8 h1;exact Ev l c S hc hnp hf λus hl=>hb kV doc pm an cdv ct us hl
def xR {t:Addr}{u:Value}{v:V}{dd:Ip.D}(h:qD W.K d=aD d)(hd:d.d=some (t,u))(S:FnScope (Ip.fU (aQ d.st) (b8 d.st)) ps (b8 d.st))(hc:Ip.cF T io d.st=some F)(hnp:F.np=ps.length)(hf:F.dfl=[dd])(r:RelV v u)(dv:∀S,Den W S v dd)
  (hb0:∀(kV doc pm:Value) (an:aF) (cdv ct:Value) {oct:Value} {odt:aF} {n:Nat} {slt:Array aB},W.K.lookup t=some ⟨oct,odt,.seq #[u] n,slt⟩->Binds W.K (fnOf d.x d.q (aQ d.st) (aW d.st) (b8 d.st) (.ref t) kV doc pm an cdv ct) ps [])
  (hb1:∀(kV doc pm:Value) (an:aF) (cdv ct:Value) {oct:Value} {odt:aF} {n:Nat} {slt:Array aB},W.K.lookup t=some ⟨oct,odt,.seq #[u] n,slt⟩->Binds W.K (fnOf d.x d.q (aQ d.st) (aW d.st) (b8 d.st) (.ref t) kV doc pm an cdv ct) ps [u]):DefAt W T F d.f:=by
 obtain⟨h1,h2⟩:=IE h;rw[hd] at h1 h2;obtain⟨oc,od,t',kV,doc,pm,an,cdv,ct,osl,u',oct,odt,n,slt,l,c,lt,r'⟩:=Dk (v:=v) h1 (cG h2) r;obtain rfl:t'=t:=by
  have z:=DG l;rw[h1] at z;simp only[Hj,He,nL,Value.ref.injEq] at z;exact z.2.2.2.2.1.symm
 have hu:=h2;simp only[Option.map_some,iV,lt,Hj,Hb,and_true] at hu;subst hu;exact zM (d:=dd) (v:=v) l c S hc hnp hf r dv (hb0 kV doc pm an cdv ct lt) (hb1 kV doc pm an cdv ct lt)
def oU (W:Wd)(T:Ip.Tb)(G:Ip.Pg)(d:Fd):Prop:=∃F,G.fn d.k=some F/\(qD W.K d=aD d->DefAt W T F d.f)
structure Ic where
 x:Str
 c:Nat
 C:Addr
 d:Fd
structure Xc where
 x:Str
 c:Nat
 C:Addr
 tl:ao
 d:Fd
noncomputable def qI (K:Frag)(ns:au)(e:Ic):OV×List Bool×List OV×List (Option Bool)×List OV×DV:=
  (nsIn K mainGlobals e.x,[plainGet K e.C Str.empty,hasDictIn K e.C,plainOver K e.C,makesIn K e.C,isFn K (.ref e.d.f),keepIn K (.ref e.C)],
   [findIn K (.ref e.C) "__setattr__",findIn K (.ref e.C) "__class__",specialIn K (.builtin "object.__class__") "__get__",findIn K (.ref e.C) "__init__"],
   [takesIn K (.builtin "object.__class__"),mroIn K e.C (.type "object")],ns.map λn=>findIn K (.ref e.C) n,qD K e.d)
noncomputable def aI (ns:au)(e:Ic):OV×List Bool×List OV×List (Option Bool)×List OV×DV:=
  (some (some (.ref e.C)),[true,true,true,true,true,true],
   [some (some (.builtin "object.__setattr__")),some (some (.builtin "object.__class__")),some (some (.builtin "getset_descriptor.__get__")),some (some (.ref e.d.f))],
   [some true,some true],ns.map λ_=>some none,aD e.d)
def ins_of {ns:au}{e:Ic}(h:qI K ns e=aI ns e):nsIn K mainGlobals e.x=some (some (.ref e.C))/\InsC K e.C/\NoA K e.C ns/\Mk K e.C e.d.f/\qD K e.d=aD e.d:=by
 simp only[qI,aI,He,Hb,and_true] at h;obtain⟨h1,⟨b1,b2,b3,b4,b5,b6⟩,⟨c1,c2,c3,c4⟩,⟨d1,d2⟩,h5,h6⟩:=h;exact⟨h1,⟨⟨b1,b2,b3,c1⟩,c2,c3,d1,d2⟩,h5,⟨b4,c4,b5,b6⟩,h6⟩
noncomputable def qX (K:Frag)(ns:au)(e:Xc):OV×Option nF×List Bool×List OV×List (Option Bool)×List OV×DV:=
  (nsIn K mainGlobals e.x,pA K e.C,[isFn K (.ref e.d.f),keepIn K (.ref e.C)],
   [findIn K (.ref e.C) "__init__",findIn K (.ref e.C) "__setattr__",findIn K (.ref e.C) "__getattribute__",findIn K (.ref e.C) "__getattr__",findIn K (.ref e.C) "__class__",specialIn K (.builtin "object.__class__") "__get__"],
   [takesIn K (.builtin "object.__class__"),mroIn K e.C (.type "object")],ns.map λn=>findIn K (.ref e.C) n,qD K e.d)
noncomputable def aX (ns:au)(e:Xc):OV×Option nF×List Bool×List OV×List (Option Bool)×List OV×DV:=
  (some (some (.ref e.C)),some (.type "type",.ref e.C::(e.tl.map Value.ref++b7),true,false,some (.builtin "ValueError.__new__")),[true,true],
   [some (some (.ref e.d.f)),some (some (.builtin "object.__setattr__")),some (some (.builtin "BaseException.__getattribute__")),some none,some (some (.builtin "object.__class__")),some (some (.builtin "getset_descriptor.__get__"))],
   [some true,some true],ns.map λ_=>some none,aD e.d)
def C8 {ns:au}{e:Xc}(h:qX K ns e=aX ns e):nsIn K mainGlobals e.x=some (some (.ref e.C))/\XC K e.C (.ref e.d.f) e.tl/\XI K e.C/\NoA K e.C ns/\keepIn K (.ref e.C)=true/\qD K e.d=aD e.d:=by
 simp only[qX,aX,He,Hb,and_true] at h;obtain⟨h1,h2,⟨b1,b2⟩,⟨c1,c2,c3,c4,c5,c6⟩,⟨d1,d2⟩,h5,h6⟩:=h;exact⟨h1,⟨vt h2,c1,.inl b1,c2,c3,c4⟩,⟨c5,c6,d1,d2⟩,h5,b2,h6⟩
noncomputable def qT (K:Frag)(iL xL:List (Nat×Addr))(cv:Value):List (Option Bool)×List (Option Bool)×List (Option Bool):=
 ([kitOne K (.type "NoneType") cv,kitOne K (.type "bool") cv,kitOne K (.type "int") cv,kitOne K (.type "str") cv,kitOne K (.type "list") cv,kitOne K (.type "tuple") cv],iL.map λp=>kitOne K (.ref p.2) cv,xL.map λp=>kitOne K (.ref p.2) cv)
noncomputable def aT (G:Ip.Pg)(iL xL:List (Nat×Addr))(t:Ip.Ty):List (Option Bool)×List (Option Bool)×List (Option Bool):=
 ([some (Ip.bh G .non t),some (Ip.bh G (.bl true) t),some (Ip.bh G (.int 0) t),some (Ip.bh G (.str "") t),some (Ip.bh G (.lst []) t),some (Ip.bh G (.tup []) t)],iL.map λp=>some (Ip.bh G (.ins p.1 []) t),xL.map λp=>some (Ip.bh G (.exc p.1 []) t))
def Gv {iL xL:List (Nat×Addr)}{att:au}{t:Ip.Ty}{cv:Value}(h:qT K iL xL cv=aT G iL xL t):cu (dh K iL xL att) G t cv:=
 A0 (IE h).1 (IE (IE h).2).1 (IE (IE h).2).2
end
structure Tl where
 fL:List Fd
 iC:List Ic
 xC:List Xc
 nC:List (Str×Nat×Addr)
 mL:List (Addr×Fd)
 wa:Addr
 cL:List (Str×Int×Nat)
 tL:List (Str×Addr×List (Str×Nat))
noncomputable def Tl.iL (B:Tl):List (Nat×Addr):=B.iC.map λe=>(e.c,e.C)
noncomputable def Tl.xL (B:Tl):List (Nat×Addr):=B.xC.map λe=>(e.c,e.C)
noncomputable def tyV:List (Ip.Ty×Value):=[(.int,.type "int"),(.bool,.type "bool"),(.str,.type "str"),(.list,.type "list"),(.tuple,.type "tuple"),(.dict,.type "dict"),(.verr,.type "ValueError")]
noncomputable def Tl.ty (B:Tl):List (Ip.Ty×Value):=tyV++(B.nC.map (λe=>(.cls e.2.1,.ref e.2.2))++(B.iC.map (λe=>(.cls e.c,.ref e.C))++B.xC.map λe=>(.cls e.c,.ref e.C)))
noncomputable def zL:au:=fD.map (·.1)++Ip.kO.map (·.1)
noncomputable abbrev OB:=List (OV×Bool×DV)×List (OV×List Bool×List OV×List (Option Bool)×List OV×DV)×List (OV×Option nF×List Bool×List OV×List (Option Bool)×List OV×DV)×List OV×List (OV×Bool×Bool×DV) ×
 (OV×Bool×Option CFound×Option nF)×List (List (Option Bool)×List (Option Bool)×List (Option Bool))×List OV×List OV×Bool×List (OV×Option (Value×Bool×Option ar))
noncomputable def i7 (K:Frag)(a:Addr):Option (Value×Bool×Option ar):=(K.lookup a).map λo=>(o.cls,o.dict.isNone,match o.data with
 | .seq its _=>some its.toList
 | _=>none)
noncomputable def Tl.q (B:Tl)(ns:au)(K:Frag):OB:=
  (B.fL.map λd=>(nsIn K mainGlobals d.x,keepIn K (.ref d.f),qD K d),B.iC.map (qI K ns),B.xC.map (qX K ns),B.nC.map λe=>nsIn K mainGlobals e.1,
   B.mL.map λe=>(findIn K (.ref e.1) e.2.x,isFn K (.ref e.2.f),keepIn K (.ref e.2.f),qD K e.2),
   (specialIn K (.ref B.wa) "__getattribute__",readsIn K B.wa (.type "type"),findCls K (.ref B.wa) (.type "type") "__init__",pA K B.wa),B.ty.map λe=>qT K B.iL B.xL e.2,
   zL.map λx=>nsIn K mainGlobals x,B.cL.map λc=>nsIn K mainGlobals c.1,K.all (λp=>!(p.2.cls == Value.type "list")),B.tL.map λc=>(nsIn K mainGlobals c.1,i7 K c.2.1))
noncomputable def Tl.a (B:Tl)(ns:au)(G:Ip.Pg):OB:=
  (B.fL.map λd=>(some (some (.ref d.f)),true,aD d),B.iC.map (aI ns),B.xC.map (aX ns),B.nC.map λe=>some (some (.ref e.2.2)),
   B.mL.map λe=>(some (some (.ref e.2.f)),true,true,aD e.2),
   (some (some (.builtin "type.__getattribute__")),true,some (.val (.builtin "ValueError.__init__")),some (.type "type",.ref B.wa::(([]:List Addr).map Value.ref++b7),true,false,some (.builtin "ValueError.__new__"))),B.ty.map λe=>aT G B.iL B.xL e.1,
   zL.map λ_=>some none,B.cL.map λc=>some (some (.int c.2.1 c.2.2)),true,B.tL.map λc=>(some (some (.ref c.2.1)),some (.type "tuple",true,some (c.2.2.map λs=>.str s.1 s.2))))
def EN:∀p∈fD,bootBuiltins p.1=some p.2:=Cn rfl <| Cn rfl <| Cn rfl <| Cn rfl <| Cn rfl <| Cn rfl <| Cn rfl <| Cn rfl <| Cn rfl <| Cn rfl Nl
def Bp:∀p∈Ip.kO,p.1 ≠ "__name__" /\ (p.1 == ("__debug__" : Str))=false/\∃nm,bootBuiltins p.1=some (.type nm)/\(p.2,Value.type nm)∈tyV:=
 Cn ⟨by decide +kernel,by decide +kernel,_,rfl,by simp[tyV]⟩ <| Cn ⟨by decide +kernel,by decide +kernel,_,rfl,by simp[tyV]⟩ <| Cn ⟨by decide +kernel,by decide +kernel,_,rfl,by simp[tyV]⟩ <| Cn ⟨by decide +kernel,by decide +kernel,_,rfl,by simp[tyV]⟩ <|
 Cn ⟨by decide +kernel,by decide +kernel,_,rfl,by simp[tyV]⟩ <| Cn ⟨by decide +kernel,by decide +kernel,_,rfl,by simp[tyV]⟩ <| Cn ⟨by decide +kernel,by decide +kernel,_,rfl,by simp[tyV]⟩ Nl
section
variable {T:Ip.Tb}{G:Ip.Pg}{mg:Str->aB}{K:Frag}{h:Heap}{B:Tl}{ns:au}
def oQ {l:au}(s:(l.all λx=>!(x == ("__debug__" : Str)))=true){x:Str}(hx:x∈l):(x == ("__debug__" : Str))=false:=by
 have:=eB s x hx;simpa using this
def xY {p:Str×Nat}(s:(B.nC.any (λe=>e.1 == p.1&&e.2.1 == p.2)||B.iC.any (λe=>e.x == p.1&&e.c == p.2)||B.xC.any (λe=>e.x == p.1&&e.c == p.2))=true) :
  (∃e∈B.nC,e.1=p.1/\e.2.1=p.2)\/(∃e∈B.iC,e.x=p.1/\e.c=p.2)\/∃e∈B.xC,e.x=p.1/\e.c=p.2:=by
 simp only[G8,List.any_eq_true,tw,GC] at s;rcases s with (s | s) | s
 .exact .inl s
 .exact .inr (.inl s)
 .exact .inr (.inr s)
structure Ans (B:Tl)(ns:au)(G:Ip.Pg)(K:Frag):Prop where
 f:∀d∈B.fL,nsIn K mainGlobals d.x=some (some (.ref d.f))/\keepIn K (.ref d.f)=true/\qD K d=aD d
 i:∀e∈B.iC,nsIn K mainGlobals e.x=some (some (.ref e.C))/\InsC K e.C/\NoA K e.C ns/\Mk K e.C e.d.f/\qD K e.d=aD e.d
 x:∀e∈B.xC,nsIn K mainGlobals e.x=some (some (.ref e.C))/\XC K e.C (.ref e.d.f) e.tl/\XI K e.C/\NoA K e.C ns/\keepIn K (.ref e.C)=true/\qD K e.d=aD e.d
 n:∀e∈B.nC,nsIn K mainGlobals e.1=some (some (.ref e.2.2))
 m:∀e∈B.mL,Meth K e.1 e.2.x e.2.f/\qD K e.2=aD e.2
 wi:XInit K B.wa
 wo:XO K B.wa []
 t:∀e∈B.ty,∀att,cu (dh K B.iL B.xL att) G e.1 e.2
 z:∀x∈zL,nsIn K mainGlobals x=some none
 c:∀c∈B.cL,nsIn K mainGlobals c.1=some (some (.int c.2.1 c.2.2))
 l:(K.all λp=>!(p.2.cls == Value.type "list"))=true
 u:∀c∈B.tL,nsIn K mainGlobals c.1=some (some (.ref c.2.1))/\i7 K c.2.1=some (.type "tuple",true,some (c.2.2.map λs=>.str s.1 s.2))
def yI (e:B.q ns K=B.a ns G):Ans B ns G K:=by
 simp only[Tl.q,Tl.a,He] at e;obtain⟨e1,e2,e3,e4,e5,⟨w1,w2,w3,w4⟩,e7,e8,e9,e10,e11⟩:=e;refine⟨λd hd=>?_,λd hd=>ins_of (G3.mp e2 d hd),λd hd=>C8 (G3.mp e3 d hd),λd hd=>G3.mp e4 d hd,λd hd=>?_,⟨w1,w2,w3⟩,vt w4,λd hd att=>Gv (G3.mp e7 d hd),λx hx=>G3.mp e8 x hx,λc hc=>G3.mp e9 c hc,e10,λc hc=>He .. ▸ G3.mp e11 c hc⟩
 .have:=G3.mp e1 d hd;simpa only[He] using this
 .have:=G3.mp e5 d hd;simp only[He] at this;exact⟨⟨this.1,this.2.1,this.2.2.1⟩,this.2.2.2⟩
def zo (l:List (Str×Nat)):(Ip.D.tup (l.map λs=>.str s.1)).flat=true:=by
 induction l with
 | nil=>rfl
 | cons x l ih=>simpa[Ip.D.flat,Ip.D.flats] using ih
theorem uX {W:Wd}{S:Hp}:∀l:List (Str×Nat),Dens W S (l.map λs=>V.str s.1) (l.map λs=>Ip.D.str s.1)
 | []=>.nil
 | _::l=>.cons .str (uX l)
theorem wp:∀l:List (Str×Nat),Vals (l.map λs=>V.str s.1) (l.map λs=>Value.str s.1 s.2)
 | []=>.nil
 | _::l=>.cons ⟨_,rfl⟩ (wp l)
def Fe {S:Hp}{a:Addr}{l:List (Str×Nat)}(h:i7 K a=some (.type "tuple",true,some (l.map λs=>.str s.1 s.2)))(hz:l.length<=6):SqT K S a (l.map λs=>V.str s.1):=by
 unfold i7 at h;cases e:K.lookup a with
 | none=>rw[e] at h; cases h
 | some o=>
  rw[e] at h;simp only[Option.map_some,Hj,He] at h;obtain⟨h1,h2,h3⟩:=h;have hd:o.dict=none:=by
   cases hh:o.dict with
   | none=>rfl
   | some x=>rw[hh] at h2; cases h2
  cases hdt:o.data with
  | seq its n=>
   rw[hdt] at h3;have e3:its.toList=l.map λs=>Value.str s.1 s.2:=cG h3;refine .inr ⟨o,its,n,e,h1,hd,hdt,?_,by rw[e3]; exact wp l⟩;have:its.size=l.length:=by rw[<-Array.length_toList,e3,GA]
   rw[this];exact ce hz (by decide)
  | _=>rw[hdt] at h3; cases h3
theorem Fa {cw:Nat}(clL:List (Nat×Ip.Cl))(X:K.In h)(Gl:h.Ns mainGlobals mg)(A:Ans B (o5 T.fl T.att) G K)(hcl:∀c,G.cl c=clL.lookup c)
  (s1:T.fns=B.fL.map λd=>(d.x,d.k))
  (s2:(T.cls.all λp=>B.nC.any (λe=>e.1 == p.1&&e.2.1 == p.2)||B.iC.any (λe=>e.x == p.1&&e.c == p.2)||B.xC.any (λe=>e.x == p.1&&e.c == p.2))=true)
  (s3:((T.wb::(T.fns.map (·.1)++(T.cls.map (·.1)++T.cst.map (·.1)))).all λx=>!(x == ("__debug__" : Str)))=true)
  (s4:T.cst=B.cL.map (λc=>(c.1,Ip.D.int c.2.1))++B.tL.map λc=>(c.1,Ip.D.tup (c.2.2.map λs=>.str s.1)))(nd:T.att.Nodup)(s5:(B.tL.all λc=>decide (c.2.2.length<=6))=true)
  (okF:∀d∈B.fL,oU (dh K B.iL B.xL T.att) T G d)
  (okI:∀e∈B.iC,oU (dh K B.iL B.xL T.att) T G e.d/\B.iL.lookup e.c=some e.C/\∃Cl,G.cl e.c=some Cl/\Cl.init=some e.d.k/\Cl.isx=false)
  (okX:∀e∈B.xC,oU (dh K B.iL B.xL T.att) T G e.d/\B.xL.lookup e.c=some e.C/\∃Cl,G.cl e.c=some Cl/\Cl.init=some e.d.k/\Cl.isx=true)
  (okN:∀e∈B.nC,∃Cl,G.cl e.2.1=some Cl/\Cl.init=none)
  (okM:∀e∈B.mL,oU (dh K B.iL B.xL T.att) T G e.2)
  (sM:(clL.all λp=>p.2.meths.isEmpty||(match B.iL.lookup p.1 with
   | some C=>p.2.meths.all λm=>B.mL.any λe=>e.1 == C&&(T.att[m.1]? == some e.2.x&&e.2.k == m.2)
   | none=>false))=true)
  (sW:(T.wb,cw,B.wa)∈B.nC)(sX:(B.xC.all λe=>(e.C::e.tl).contains B.wa)=true) :
  GF0 (dh K B.iL B.xL T.att) G T mg/\GT (dh K B.iL B.xL T.att) G T mg:=by
 have d1:∀p∈T.fns,(p.1 == ("__debug__" : Str))=false:=λp hp=>oQ s3 (bQ _ (fj _ (GQ hp)));have d2:∀p∈T.cls,(p.1 == ("__debug__" : Str))=false:=λp hp=>oQ s3 (bQ _ (cP _ (fj _ (GQ hp))));have d3:∀p∈T.cst,(p.1 == ("__debug__" : Str))=false:=λp hp=>oQ s3 (bQ _ (cP _ (cP _ (GQ hp))));have d4:(T.wb == ("__debug__" : Str))=false:=oQ s3 bZ;refine⟨xX ?cf rfl ?blt ?cst ?fns ?cls ?meth ?isB,Dr d4 (mg_of X Gl (A.n _ sW)) A.wi A.wo λp hp=>?_⟩
 case cf=>
  refine Cu nd (λp hp=>?_) λp hp=>?_
  .obtain⟨e,he,rfl⟩:=fH hp;exact⟨(A.i e he).2.1,(A.i e he).2.2.1⟩
  .obtain⟨e,he,rfl⟩:=fH hp;obtain⟨_,a1,a2,a3,_⟩:=A.x e he;exact⟨⟨⟨_,_,a1⟩,a2⟩,a3⟩
 case blt=>exact λp hp=>⟨mg_none_of X Gl (A.z _ (fj _ (GQ hp))),EN p hp⟩
 case cst=>
  intro p hp;have h0:=d3 p hp;rw[s4] at hp;rcases dN hp with hp | hp
  .obtain⟨c,hc,rfl⟩:=fH hp;exact⟨h0,_,.int c.2.1,mg_of X Gl (A.c c hc),⟨_,rfl⟩,rfl,λ_=>.int⟩
  .obtain⟨c,hc,rfl⟩:=fH hp;obtain⟨a1,a2⟩:=A.u c hc;have hz:c.2.2.length<=6:=of_decide_eq_true (eB s5 c hc);exact⟨h0,_,.ref c.2.1,mg_of X Gl a1,rfl,zo _,λS=>.tup (Fe a2 hz) (uX _)⟩
 case fns=>
  intro p hp;have h0:=d1 p hp;rw[s1] at hp;obtain⟨d,hd,rfl⟩:=fH hp;obtain⟨F,f1,f2⟩:=okF d hd;obtain⟨a1,a2,a3⟩:=A.f d hd;exact⟨h0,F,d.f,f1,mg_of X Gl a1,a2,f2 a3⟩
 case cls=>
  intro p hp;refine⟨d2 p hp,?_⟩;rcases xY (eB s2 p hp) with ⟨e,he,q1,q2⟩ | ⟨e,he,q1,q2⟩ | ⟨e,he,q1,q2⟩
  .obtain⟨Cl,c1,c2⟩:=okN e he;refine⟨e.2.2,by rw[<-q1]; exact mg_of X Gl (A.n e he),by rw[<-q2]; exact A.t (.cls e.2.1,.ref e.2.2) (cP _ (fj _ (GQ (f:=λe:Str×Nat×Addr=>(Ip.Ty.cls e.2.1,Value.ref e.2.2)) he))) _,λCl' f F h1 h2 _=>?_⟩;rw[<-q2,c1] at h1;cases h1;rw[c2] at h2;cases h2
  .obtain⟨⟨F',f1,f2⟩,li,Cl,c1,c2,c3⟩:=okI e he;obtain⟨a1,_,_,a4,a5⟩:=A.i e he;refine⟨e.C,by rw[<-q1]; exact mg_of X Gl a1,by rw[<-q2]; exact A.t (.cls e.c,.ref e.C) (cP _ (cP _ (fj _ (GQ (f:=λe:Ic=>(Ip.Ty.cls e.c,Value.ref e.C)) he)))) _,λCl' f F h1 h2 h3=>?_⟩;rw[<-q2,c1] at h1;cases h1;rw[c2] at h2;cases h2;rw[f1] at h3;cases h3;refine⟨e.d.f,f2 a5,?_⟩;rw[c3,<-q2];exact⟨li,a4⟩
  .obtain⟨⟨F',f1,f2⟩,li,Cl,c1,c2,c3⟩:=okX e he;obtain⟨a1,a2,_,_,a4,a5⟩:=A.x e he;refine⟨e.C,by rw[<-q1]; exact mg_of X Gl a1,by rw[<-q2]; exact A.t (.cls e.c,.ref e.C) (cP _ (cP _ (cP _ (GQ (f:=λe:Xc=>(Ip.Ty.cls e.c,Value.ref e.C)) he)))) _,λCl' f F h1 h2 h3=>?_⟩;rw[<-q2,c1] at h1;cases h1;rw[c2] at h2;cases h2;rw[f1] at h3;cases h3;refine⟨e.d.f,f2 a5,?_⟩;rw[c3,<-q2];exact⟨li,a4,_,a2⟩
 case meth=>
  intro c Cl' h1 hm;rw[hcl] at h1;have q:=eB sM (c,Cl') (gc h1);have hm':Cl'.meths.isEmpty=false:=by cases hh:Cl'.meths with | nil=>exact absurd hh hm | cons _ _=>rfl
  rw[hm',JU] at q;cases hi:B.iL.lookup c with
  | none=>rw[hi] at q; cases q
  | some C=>
   rw[hi] at q;refine⟨C,hi,λp hp=>?_⟩;obtain⟨e,he,q1⟩:=List.any_eq_true.mp (eB q p hp);simp only[tw,GC] at q1;obtain⟨rfl,q2,q3⟩:=q1;obtain⟨F,f1,f2⟩:=okM e he;obtain⟨a1,a2⟩:=A.m e he;exact⟨F,e.2.x,e.2.f,by rw[<-q3]; exact f1,q2,a1,f2 a2⟩
 case isB=>
  intro p hp;obtain⟨b1,b2,nm,b3,b4⟩:=Bp p hp;exact⟨mg_none_of X Gl (A.z _ (cP _ (GQ hp))),b1,b2,nm,b3,A.t (p.2,.type nm) (fj _ b4) _⟩
 .obtain⟨e,he,rfl⟩:=fH hp;exact⟨e.tl,(A.x e he).2.1.toXO,by have:=eB sX e he; exact GS.mp this⟩
end
end Hd
end
section
namespace Ip
open PySem (Str)
noncomputable def sI:au:=["__init__", "row", "garment", "over", "place", "first", "second", "moment", "name", "place_count", "covered_places", "spots", "many", "covers", "meet", "wardrobe", "prices", "start", "dressers", "beats", "scenes"]
noncomputable def T_k13:Tb:=⟨[("is_whole",0),("is_below",1),("copied",2),("is_rising",15),("are_places",16),("check_garment",17),("bare_wearing",23),("worn_in",24),("put_on",25),("dressed",30),("exchanges_between",31),("turned_pair",32),("set_against",33),("_law_cell",98),("_law_mix",71),("_law_whole",73),("_law_covers",99),("_law_order",91),("_law_spoiled",106),("_law_fault",107),("_law_refused",76),("_law_against",108),("_law_dressed",109),("law",69)],[("WardrobeError",0),("TooMuch",1),("NoGarment",2),("Worn",3),("NotWorn",4),("Covered",5),("NoLook",6),("NoDeed",7),("Wardrobe",17)], "WardrobeError",sI,[1,2,3,4,5,6,7,8,9,10,15,16,17,18,19,20],[("DEEPEST",(.int (100))),("MOST_PLACES",(.int (6))),("MOST_GARMENTS",(.int (6)))]⟩
noncomputable def lU:Fn:=⟨1,[],1,[],[
  .ret (.and (.op (.isi [.int]) [(.var 0)]) (.op .not [(.op (.isi [.bool]) [(.var 0)])]))]⟩
noncomputable def ke:Fn:=⟨2,[],2,[],[
  .ret (.and (.call 0 [(.var 0)]) (.chain .le .lt (.cst (.int (0))) (.var 0) (.var 1)))]⟩
noncomputable def iD:Fn:=⟨2,[],2,[(.int (0))],[
  .iff (.op .eq [(.var 1),(.cst (.int (100)))]) [.ret (.var 0)] [],
  .iff (.op (.isi [.list]) [(.var 0)]) [.ret (.comp [none,none,(some 1)] (.one 1) .seq [(.var 0)] [] (.call 2 [(.var 1),(.op .add [(.var 2),(.cst (.int (1)))])]))] [],
  .iff (.op (.isi [.tuple]) [(.var 0)]) [.ret (.op .tuple [(.comp [none,none,(some 1)] (.one 1) .seq [(.var 0)] [] (.call 2 [(.var 1),(.op .add [(.var 2),(.cst (.int (1)))])]))])] [],
  .iff (.op (.isi [.dict]) [(.var 0)]) [.ret .bad] [],
  .ret (.var 0)]⟩
noncomputable def oF:Fn:=⟨1,[],1,[],[
  .ret (.op .all [(.comp [none,none,none] (.many [1,2]) .zip [(.var 0),(.op .slL [(.var 0),(.cst (.int (1)))])] [] (.op .lt [(.var 1),(.var 2)]))])]⟩
noncomputable def lI:Fn:=⟨2,[],2,[],[
  .iff (.or (.op .not [(.op (.isi [.list]) [(.var 0)])]) (.op .eq [(.op .len [(.var 0)]),(.cst (.int (0)))])) [.ret (.cst (.bl false))] [],
  .ret (.and (.op .all [(.comp [none,none,(some 1)] (.one 1) .seq [(.var 0)] [] (.call 1 [(.var 1),(.var 2)]))]) (.call 15 [(.var 0)]))]⟩
noncomputable def jL:Fn:=⟨2,[],2,[],[
  .iff (.op .not [(.call 1 [(.var 1),(.meth 12 (.var 0) [])])]) [.rais 2 [(.var 1)]] []]⟩
noncomputable def nA:Fn:=⟨1,[],1,[],[
  .ret (.op .tuple [(.comp [none,none] (.one 1) .rng1 [(.meth 11 (.var 0) [])] [] (.op .tup []))])]⟩
noncomputable def mM:Fn:=⟨1,[],3,[],[
  .set 1 (.op .lst []),
  .fo (.one 2) .seq [(.var 0)] [.mut 1 [] .extend [(.var 2)]],
  .ret (.op .srtSet [(.var 1)])]⟩
noncomputable def iY:Fn:=⟨3,[],5,[],[
  .ex (.call 17 [(.var 0),(.var 2)]),
  .iff (.op .isin [(.var 2),(.call 24 [(.var 1)])]) [.rais 3 [(.var 2)]] [],
  .set 3 (.op .list [(.var 1)]),
  .fo (.one 4) .seq [(.meth 13 (.var 0) [(.var 2)])] [.put 3 [] (.var 4) (.op .add [(.op .ix [(.var 3),(.var 4)]),(.op .tup [(.var 2)])])],
  .ret (.op .tuple [(.var 3)])]⟩
noncomputable def iB:Fn:=⟨2,[],4,[],[
  .set 2 (.call 23 [(.var 0)]),
  .fo (.one 3) .seq [(.var 1)] [.set 2 (.call 25 [(.var 0),(.var 2),(.var 3)])],
  .ret (.var 2)]⟩
noncomputable def mi:Fn:=⟨2,[],7,[],[
  .set 2 (.op .lst []),
  .set 3 (.op .list [(.var 0)]),
  .fo (.many [4,5]) .enum [(.var 1)] [.fo (.one 6) .rngD [(.op .sub [(.op .index [(.var 3),(.var 5)]),(.cst (.int (1)))]),(.op .sub [(.var 4),(.cst (.int (1)))]),(.op .neg [(.cst (.int (1)))])] [.mut 2 [] .append [(.var 6)]],.mut 3 [] .remove [(.var 5)],.mut 3 [] .insert [(.var 4),(.var 5)]],
  .ret (.var 2)]⟩
noncomputable def nW:Fn:=⟨2,[],6,[],[
  .fo (.many [2,3]) .zip [(.var 0),(.var 1)] [.fo (.many [4,5]) .zip [(.var 2),(.var 3)] [.iff (.op .ne [(.var 4),(.var 5)]) [.ret (.op .tup [(.var 4),(.var 5)])] []]],
  .ret (.cst .non)]⟩
noncomputable def jl:Fn:=⟨3,[],6,[],[
  .set 3 (.call 30 [(.var 0),(.var 1)]),
  .set 4 (.call 30 [(.var 0),(.var 2)]),
  .iff (.op .eq [(.var 3),(.var 4)]) [.ret (.op .tup [(.cst (.str "same")),(.call 31 [(.var 1),(.var 2)])])] [],
  .set 5 (.op .symd [(.var 1),(.var 2)]),
  .iff (.op .gt [(.op .len [(.var 5)]),(.cst (.int (0)))]) [.ret (.op .tup [(.cst (.str "unlike")),(.op .ix [(.var 5),(.cst (.int (0)))]),(.cst .non)])] [],
  .ret (.op .add [(.op .tup [(.cst (.str "unlike"))]),(.call 32 [(.var 3),(.var 4)])])]⟩
noncomputable def gR:Fn:=⟨2,[],2,[],[
  .iff (.op .lt [(.var 1),(.op .len [(.var 0)])]) [.ret (.op .ix [(.var 0),(.var 1)])] [],
  .ret (.cst (.int (0)))]⟩
noncomputable def fP:Fn:=⟨3,[],6,[],[
  .iff (.op .gt [(.var 0),(.op .pow [(.cst (.int (10))),(.cst (.int (9)))])]) [.set 3 (.op .fdiv [(.var 0),(.cst (.int (1000)))]),.fo (.one 4) .rng1 [(.op .mod [(.var 1),(.cst (.int (9)))])] [.set 3 (.op .fdiv [(.var 3),(.cst (.int (1000)))])],.ret (.op .mod [(.op .mod [(.var 3),(.cst (.int (1000)))]),(.var 2)])] [],
  .set 5 (.op .add [(.op .add [(.op .mod [(.var 0),(.cst (.int (1000003)))]),(.op .mul [(.cst (.int (31))),(.var 1)])]),(.cst (.int (1)))]),
  .ret (.op .mod [(.op .fdiv [(.op .mod [(.op .add [(.op .add [(.op .mul [(.var 5),(.var 5)]),(.op .mul [(.cst (.int (65537))),(.var 5)])]),(.op .mul [(.cst (.int (977))),(.var 1)])]),(.cst (.int (999983)))]),(.cst (.int (3)))]),(.var 2)])]⟩
noncomputable def kD:Fn:=⟨1,[],1,[],[
  .ret (.and (.op (.isi [.int]) [(.var 0)]) (.op .not [(.op (.isi [.bool]) [(.var 0)])]))]⟩
noncomputable def pb:Fn:=⟨2,[],7,[],[
  .set 2 (.op .lst []),
  .fo (.one 3) .rng1 [(.op .mod [(.call 98 [(.var 0),(.cst (.int (1)))]),(.cst (.int (7)))])] [.set 4 (.call 98 [(.var 0),(.op .add [(.cst (.int (2))),(.var 3)])]),.set 5 (.op .add [(.cst (.int (1))),(.call 71 [(.var 4),(.cst (.int (1))),(.op .ix [(.op .lst [(.cst (.int (1))),(.cst (.int (3))),(.cst (.int (7))),(.cst (.int (15))),(.cst (.int (31))),(.cst (.int (63)))]),(.op .sub [(.var 1),(.cst (.int (1)))])])])]),.set 6 (.comp [none,none,(some 5)] (.one 1) .rng1 [(.var 1)] [(.op .eq [(.op .mod [(.op .fdiv [(.var 2),(.op .ix [(.op .lst [(.cst (.int (1))),(.cst (.int (2))),(.cst (.int (4))),(.cst (.int (8))),(.cst (.int (16))),(.cst (.int (32)))]),(.var 1)])]),(.cst (.int (2)))]),(.cst (.int (1)))])] (.var 1)),.iff (.op .eq [(.call 71 [(.var 4),(.cst (.int (2))),(.cst (.int (2)))]),(.cst (.int (1)))]) [.set 6 (.op .slH [(.op .slL [(.var 6),(.call 71 [(.var 4),(.cst (.int (3))),(.op .len [(.var 6)])])]),(.cst (.int (1)))])] [],.mut 2 [] .append [(.var 6)]],
  .ret (.var 2)]⟩
noncomputable def oX:Fn:=⟨3,[],6,[],[
  .set 3 (.op .lst []),
  .fo (.one 4) .rng1 [(.op .len [(.var 2)])] [.set 5 (.call 98 [(.var 0),(.op .add [(.var 1),(.var 4)])]),.iff (.op .gt [(.call 71 [(.var 5),(.cst (.int (4))),(.cst (.int (5)))]),(.cst (.int (0)))]) [.mut 3 [] .insert [(.call 71 [(.var 5),(.cst (.int (5))),(.op .add [(.op .len [(.var 3)]),(.cst (.int (1)))])]),(.var 4)]] []],
  .ret (.var 3)]⟩
noncomputable def kP:Fn:=⟨3,[],7,[],[
  .set 3 (.op .lst [(.var 2),(.op .neg [(.cst (.int (1)))]),(.cst (.bl true)),(.cst .non),(.cst (.str "0")),(.op .tup [(.cst (.int (0)))]),(.op .lst [(.cst (.int (0)))])]),
  .set 0 (.op .list [(.var 0)]),
  .fo (.one 4) .rng1 [(.op .add [(.cst (.int (1))),(.call 71 [(.var 1),(.cst (.int (9))),(.cst (.int (3)))])])] [.set 5 (.call 71 [(.op .add [(.var 1),(.op .mul [(.cst (.int (13))),(.var 4)])]),(.cst (.int (10))),(.op .add [(.op .len [(.var 0)]),(.cst (.int (1)))])]),.setI 6 3 (.call 71 [(.op .add [(.var 1),(.op .mul [(.cst (.int (13))),(.var 4)])]),(.cst (.int (11))),(.cst (.int (7)))]),.iff (.and (.op .gt [(.op .len [(.var 0)]),(.cst (.int (0)))]) (.op .eq [(.call 71 [(.op .add [(.var 1),(.op .mul [(.cst (.int (13))),(.var 4)])]),(.cst (.int (12))),(.cst (.int (2)))]),(.cst (.int (1)))])) [.setI 6 0 (.call 71 [(.op .add [(.var 1),(.op .mul [(.cst (.int (13))),(.var 4)])]),(.cst (.int (13))),(.op .len [(.var 0)])])] [],.mut 0 [] .insert [(.var 5),(.var 6)]],
  .ret (.var 0)]⟩
noncomputable def pj:Fn:=⟨2,[],3,[],[
  .fo (.one 2) .rng1 [(.op .len [(.var 0)])] [.iff (.or (.op .not [(.call 73 [(.op .ix [(.var 0),(.var 2)])])]) (.op .not [(.chain .le .lt (.cst (.int (0))) (.op .ix [(.var 0),(.var 2)]) (.var 1))])) [.ret (.op .tup [(.cst (.str "none")),(.op .ix [(.var 0),(.var 2)])])] [],.iff (.op .isin [(.op .ix [(.var 0),(.var 2)]),(.op .slH [(.var 0),(.var 2)])]) [.ret (.op .tup [(.cst (.str "worn")),(.op .ix [(.var 0),(.var 2)])])] []],
  .ret (.cst .non)]⟩
noncomputable def kY:Fn:=⟨2,[],2,[],[
  .iff (.or (.op .not [(.op (.isi [.cls 0]) [(.var 0)])]) (.op .not [(.op (.isi [.verr]) [(.var 0)])])) [.ret (.cst (.bl false))] [],
  .iff (.op (.isi [.cls 5,.cls 4,.cls 6,.cls 7,.cls 1]) [(.var 0)]) [.ret (.cst (.bl false))] [],
  .iff (.or (.op .ne [(.op (.isi [.cls 2]) [(.var 0)]),(.op .eq [(.op .ix [(.var 1),(.cst (.int (0)))]),(.cst (.str "none"))])]) (.op .ne [(.op (.isi [.cls 3]) [(.var 0)]),(.op .eq [(.op .ix [(.var 1),(.cst (.int (0)))]),(.cst (.str "worn"))])])) [.ret (.cst (.bl false))] [],
  .ret (.and (.op .eq [(.op (.fld 2) [(.var 0)]),(.op .ix [(.var 1),(.cst (.int (1)))])]) (.op .eq [(.op (.isi [.bool]) [(.op (.fld 2) [(.var 0)])]),(.op (.isi [.bool]) [(.op .ix [(.var 1),(.cst (.int (1)))])])]))]⟩
noncomputable def jX:Fn:=⟨3,[],5,[],[
  .set 3 (.cst .non),
  .tryE [.ex (.call 33 [(.var 0),(.var 1),(.var 2)])] 0 4 3,
  .ret (.var 3)]⟩
noncomputable def pC:Fn:=⟨2,[],4,[],[
  .set 2 (.cst .non),
  .tryE [.ex (.call 30 [(.var 0),(.var 1)])] 0 3 2,
  .ret (.var 2)]⟩
noncomputable def nS:Fn:=⟨1,[],12,[],[
  .set 1 (.op .add [(.cst (.int (1))),(.op .mod [(.call 98 [(.var 0),(.cst (.int (0)))]),(.cst (.int (6)))])]),
  .set 2 (.op .add [(.call 99 [(.var 0),(.var 1)]),(.op .lst [(.op .lst [(.cst (.int (0)))])])]),
  .set 2 (.op .slH [(.var 2),(.cst (.int (6)))]),
  .set 3 (.make 17 [(.var 1),(.comp [none,none] (.one 1) .seq [(.var 2)] [] (.op .list [(.var 1)]))]),
  .set 4 (.op .lst [(.call 91 [(.var 0),(.cst (.int (8))),(.var 2)]),(.call 91 [(.var 0),(.cst (.int (14))),(.var 2)])]),
  .set 5 (.op .mod [(.call 98 [(.var 0),(.cst (.int (20)))]),(.cst (.int (3)))]),
  .setT [6,7] (.var 4),
  .iff (.op .ne [(.var 5),(.cst (.int (1)))]) [.set 6 (.call 106 [(.var 6),(.call 98 [(.var 0),(.cst (.int (21)))]),(.op .len [(.var 2)])])] [],
  .iff (.op .ne [(.var 5),(.cst (.int (0)))]) [.set 7 (.call 106 [(.var 7),(.call 98 [(.var 0),(.cst (.int (22)))]),(.op .len [(.var 2)])])] [],
  .set 8 (.op .lst [(.op .list [(.var 6)]),(.op .list [(.var 7)])]),
  .set 9 (.comp [none,none,(some 2)] (.one 1) .seq [(.op .lst [(.var 6),(.var 7)])] [] (.call 107 [(.var 1),(.op .len [(.var 2)])])),
  .set 10 (.op .ix [(.comp [none,none] (.one 1) .seq [(.var 9)] [(.op .notN [(.var 1)])] (.var 1)),(.cst (.int (0)))]),
  .iff (.op .not [(.call 76 [(.call 108 [(.var 3),(.op .ix [(.var 8),(.cst (.int (0)))]),(.op .ix [(.var 8),(.cst (.int (1)))])]),(.var 10)])]) [.ret (.cst (.bl false))] [],
  .fo (.one 11) .rng1 [(.cst (.int (2)))] [.iff (.and (.op .notN [(.op .ix [(.var 9),(.var 11)])]) (.op .not [(.call 76 [(.call 109 [(.var 3),(.op .ix [(.var 8),(.var 11)])]),(.op .ix [(.var 9),(.var 11)])])])) [.ret (.cst (.bl false))] []],
  .iff (.or (.op .ne [(.var 8),(.op .lst [(.var 6),(.var 7)])]) (.op .notN [(.call 108 [(.var 3),(.op .ix [(.var 4),(.cst (.int (0)))]),(.op .ix [(.var 4),(.cst (.int (1)))])])])) [.ret (.cst (.bl false))] [],
  .ret (.call 76 [(.call 108 [(.var 3),(.op .ix [(.var 8),(.cst (.int (0)))]),(.op .ix [(.var 8),(.cst (.int (1)))])]),(.var 10)])]⟩
noncomputable def iM:Fn:=⟨2,[0],3,[],[
  .set 2 (.call 2 [(.var 1)]),
  .xinit [(.var 0),(.var 2)],
  .sfld 0 2 (.var 2)]⟩
noncomputable def lS:Fn:=⟨2,[0],2,[],[
  .xinit [(.var 0),(.var 1)],
  .sfld 0 2 (.var 1)]⟩
noncomputable def lL:Fn:=⟨3,[0],5,[],[
  .iff (.or (.op .not [(.call 0 [(.var 1)])]) (.op .not [(.chain .le .le (.cst (.int (1))) (.var 1) (.cst (.int (6))))])) [.rais 1 []] [],
  .iff (.op .gt [(.op .len [(.var 2)]),(.cst (.int (6)))]) [.rais 1 []] [],
  .fo (.many [3,4]) .enum [(.var 2)] [.iff (.op .not [(.call 16 [(.var 4),(.var 1)])]) [.rais 2 [(.var 3)]] []],
  .sfld 0 9 (.var 1),
  .sfld 0 10 (.comp [none,none] (.one 1) .seq [(.var 2)] [] (.op .tuple [(.var 1)]))]⟩
noncomputable def lO:Fn:=⟨1,[],1,[],[
  .ret (.op (.fld 9) [(.var 0)])]⟩
noncomputable def kZ:Fn:=⟨1,[],1,[],[
  .ret (.op .len [(.op (.fld 10) [(.var 0)])])]⟩
noncomputable def lJ:Fn:=⟨2,[],2,[],[
  .ex (.call 17 [(.var 0),(.var 1)]),
  .ret (.op .list [(.op .ix [(.op (.fld 10) [(.var 0)]),(.var 1)])])]⟩
noncomputable def fnL_k13:List (Nat×Fn):=[(0,lU),(1,ke),(2,iD),(15,oF),(16,lI),(17,jL),(23,nA),(24,mM),(25,iY),(30,iB),(31,mi),(32,nW),(33,jl),(98,gR),(71,fP),(73,kD),(99,pb),(91,oX),(106,kP),(107,pj),(76,kY),(108,jX),(109,pC),(69,nS),(4,iM),(5,lS),(18,lL),(19,lO),(20,kZ),(21,lJ)]
noncomputable def clL_k13:List (Nat×Cl):=[(0,⟨none,[],[],true⟩),(1,⟨none,[],[0],true⟩),(2,⟨(some 4),[],[0],true⟩),(3,⟨(some 5),[],[0],true⟩),(4,⟨none,[],[0],true⟩),(5,⟨none,[],[0],true⟩),(6,⟨none,[],[0],true⟩),(7,⟨none,[],[0],true⟩),(17,⟨(some 18),[(11,19),(12,20),(13,21)],[],false⟩)]
noncomputable def G_k13:Pg where
 fn:=λi=>fnL_k13.lookup i
 cl:=λi=>clL_k13.lookup i
theorem tJ {f:D->R aA}{g:D->KD}:∀{xs:ay},(∀x∈xs,f x=.ok (some (g x)))->be f xs=.ok (xs.map g)
 | [],_=>rfl
 | x::xs,h=>by
  rw[be,h x Hl,R.bind,tJ λy hy=>h y (Hk _ hy)];rfl
def nz {α:Type}{e:α->D}{f:D->R aA}{g:α->KD}{xs:List α}(h:∀x∈xs,f (e x)=.ok (some (g x))):be f (xs.map e)=.ok (xs.map g):=by
 induction xs with
 | nil=>rfl
 | cons x xs ih=>rw[GB,be,h x Hl,R.bind,ih λy hy=>h y (Hk _ hy)]; rfl
def FQ {α:Type}{e:α->D}{f:D->R aA}{p:α->Bool}{g:α->KD}{xs:List α}(h:∀x∈xs,f (e x)=.ok (if p x then some (g x) else none)):be f (xs.map e)=.ok ((xs.filter p).map g):=by
 induction xs with
 | nil=>rfl
 | cons x xs ih=>
  rw[GB,be,h x Hl,R.bind,ih λy hy=>h y (Hk _ hy)];by_cases q:p x=true
  .simp[q]
  .simp[q]
@[simp] theorem AI {α:Type}(p:α->Bool):∀xs:List α,allB (xs.map λx=>.bl (p x))=some (xs.all p)
 | []=>rfl
 | x::xs=>by rw[GB,allB,AI p xs]; rfl
@[simp] theorem AA {α:Type}(p:α->Bool):∀xs:List α,anyB (xs.map λx=>.bl (p x))=some (xs.any p)
 | []=>rfl
 | x::xs=>by rw[GB,anyB,AA p xs]; rfl
@[simp] theorem Fq:∀xs:al,fO (xs.map .int)=some xs
 | []=>rfl
 | x::xs=>by rw[GB,fO,Fq xs]; rfl
@[simp] theorem zq:∀xs:al,D.flats (xs.map .int)=true
 | []=>by simp
 | x::xs=>by simp[zq xs]
@[simp] theorem Eh:∀xs ys:al,D.eqs (xs.map .int) (ys.map .int)=decide (xs=ys)
 | [],[]=>by simp[D.eqs]
 | [],_::_=>by simp[D.eqs]
 | _::_,[]=>by simp[D.eqs]
 | x::xs,y::ys=>by simp[D.eqs,D.eq,Eh xs ys]
def sY {xs:ax}(h:∀x∈xs,x.2.flat=true):bi xs=98:=by
 have:xs.find? (λx=>!x.2.flat)=none:=by
  rw[List.find?_eq_none];intro x hx;simp[h x hx]
 rw[bi,this]
@[simp] theorem flat_int (i:Int):(D.int i).flat=true:=rfl
@[simp] theorem joinK_int (k:Nat)(i:Int)(xs:ax):bi ((k,.int i)::xs)=bi xs:=pr rfl
@[simp] theorem joinK_bl (k:Nat)(i:Bool)(xs:ax):bi ((k,.bl i)::xs)=bi xs:=pr rfl
@[simp] theorem joinK_non (k:Nat)(xs:ax):bi ((k,.non)::xs)=bi xs:=pr rfl
@[simp] theorem joinK_str (k:Nat)(i:Str)(xs:ax):bi ((k,.str i)::xs)=bi xs:=pr rfl
@[simp] theorem su (k:Nat)(i:Int):D.fb k (.int i)=true:=by cases k <;> rfl
@[simp] theorem fb_bl (k:Nat)(i:Bool):D.fb k (.bl i)=true:=by cases k <;> rfl
@[simp] theorem fb_non (k:Nat):D.fb k .non=true:=by cases k <;> rfl
@[simp] theorem fb_str (k:Nat)(i:Str):D.fb k (.str i)=true:=by cases k <;> rfl
def rj {α:Type}(xs:List α)(k:Nat):cutD xs none (some (k:Int))=xs.take k:=by
 simp only[cutD,gO];simp
def uN {α:Type}(xs:List α)(k:Nat):cutD xs (some (k:Int)) none=xs.drop k:=by
 simp only[cutD,gO];by_cases h:k<=xs.length
 .skip
  simp only[if_pos (IW k),Int.toNat_natCast,Nat.min_eq_left h];exact Il (by simp)
 .have h':xs.length<=k:=by omega
  simp[Nat.min_eq_right h',Io h']
@[simp] theorem wk_seq (k:Nat)(x:D):dJ .seq [(k,x)]=x.seq:=rfl
@[simp] theorem wk_enum (k:Nat)(xs:ay):dJ .enum [(k,.lst xs)]=some (xs.mapIdx λn d=>.tup [.int n,d]):=rfl
@[simp] theorem wk_zip (k k':Nat)(xs ys:ay):dJ .zip [(k,.lst xs),(k',.lst ys)]=some ((xs.zip ys).map λp=>.tup [p.1,p.2]):=rfl
def wk_rng1 {k p:Nat}(h:p<=SL):dJ .rng1 [(k,.int p)]=some ((List.range p).map λ(n:Nat)=>.int n):=by
 have h2:p<=1000000:=h;have:cZ (p:Int)=true:=fQ.mpr (by omega);show (if cZ (p:Int)=true then _ else none)=_;rw[if_pos this];rfl
def wB {n i:Nat}(h:i<n):dR n (i:Int)=some i:=by
 simp[dR,h]
theorem vn {body:D->Fr->O}{I:Fr->Prop}:∀{xs:ay} {A:Fr},I A->(∀x∈xs,∀A,I A->∃A',body x A=.nx A'/\I A')->∃A',bM body xs A=.nx A'/\I A'
 | [],A,h,_=>⟨A,rfl,h⟩
 | x::xs,A,h,k=>by
  obtain⟨A1,e1,h1⟩:=k x bZ A h;obtain⟨A2,e2,h2⟩:=vn (xs:=xs) h1 λy hy=>k y (bQ _ hy);exact⟨A2,by rw[bM,e1]; exact e2,h2⟩
noncomputable def RelK:aA->aA->Prop
 | none,none=>True
 | some x,some y=>x.2=y.2/\y.1<=x.1
 | _,_=>False
inductive RelF:Fr->Fr->Prop
 | nil:RelF [] []
 | cons {x y:aA} {A a:Fr} (h:RelK x y) (t:RelF A a):RelF (x::A) (y::a)
theorem RelK.refl:∀x:aA,RelK x x
 | none=>trivial
 | some _=>⟨rfl,bI _⟩
theorem RelF.refl:∀A:Fr,RelF A A
 | []=>.nil
 | x::A=>.cons (.refl x) (.refl A)
theorem RelF.sl {A a:Fr}(h:RelF A a):A.sl=a.sl:=by
 induction h with
 | nil=>rfl
 | @cons x y A a h t ih=>
  have:x.map (·.2)=y.map (·.2):=by
   cases x <;> cases y <;> first | rfl | exact h.elim | (simp only[Option.map]; exact congrArg some h.1)
  simp only[Fr.sl,GB] at ih ⊢;rw[this,ih]
def RelF.len {A a:Fr}(h:RelF A a):A.length=a.length:=by
 induction h with
 | nil=>rfl
 | cons _ _ ih=>simp[ih]
theorem RelF.set {A a:Fr}(h:RelF A a){x y:aA}(k:RelK x y):∀i,RelF (A.set i x) (a.set i y):=by
 induction h with
 | nil=>intro i; exact .nil
 | cons q t ih=>
  intro i;cases i with
  | zero=>exact .cons k t
  | succ i=>exact .cons q (ih i)
def RelF.get {A a:Fr}(h:RelF A a):∀i:Nat,(A[i]? = none/\a[i]? = none)\/∃x y,A[i]? = some x/\a[i]? = some y/\RelK x y:=by
 induction h with
 | nil=>intro i; exact .inl ⟨rfl,rfl⟩
 | @cons x y _ _ q t ih=>
  intro i;cases i with
  | zero=>exact .inr ⟨x,y,rfl,rfl,q⟩
  | succ i=>simpa using ih i
theorem RelF.frz1 {A a:Fr}(h:RelF A a)(i:Nat):RelF (frz1 A i) (frz1 a i):=by
 simp only[Ip.frz1];rcases h.get i with ⟨e1,e2⟩ | ⟨x,y,e1,e2,q⟩
 .rw[e1,e2]; exact h
 .rw[e1,e2];cases x <;> cases y
  .exact h
  .exact q.elim
  .exact q.elim
  .next x y=>exact h.set (x:=some (0,x.2)) (y:=some (0,y.2)) ⟨q.1,bI _⟩ i
theorem RelF.frz {ns:ak}:∀{A a:Fr},RelF A a->RelF (frz ns A) (frz ns a):=by
 induction ns with
 | nil=>exact λh=>h
 | cons n ns ih=>exact λh=>ih (h.frz1 n)
theorem RelF.trans {A a b:Fr}(h:RelF A a)(k:RelF a b):RelF A b:=by
 induction h generalizing b with
 | nil=>exact k
 | @cons x y _ _ q t ih=>
  cases k with
  | @cons _ z _ _ q' t'=>
   refine .cons ?_ (ih t');cases x <;> cases y <;> cases z <;> first | trivial | exact q.elim | exact q'.elim | exact⟨q.1.trans q'.1,ce q'.2 q.2⟩
def RelF.low1 (a:Fr)(i:Nat):RelF a (Ip.frz1 a i):=by
 simp only[Ip.frz1];cases e:a[i]? with
 | none=>exact .refl a
 | some x=>
  cases x with
  | none=>exact .refl a
  | some x=>
   have:a=a.set i (some x):=by
    refine (HG λj=>?_);rw[JT];by_cases hj:i=j
    .subst hj;have:=(eQ e).1;rw[e]; simp[this]
    .simp[hj]
   conv=>lhs; rw[this]
   exact (RelF.refl a).set (x:=some x) (y:=some (0,x.2)) ⟨rfl,Hr _⟩ i
def RelF.low (ns:ak):∀a:Fr,RelF a (Ip.frz ns a):=by
 induction ns with
 | nil=>exact .refl
 | cons n ns ih=>exact λa=>(RelF.low1 a n).trans (ih _)
def RelF.lowA (a:Fr):RelF a (cg a):=by
 induction a with
 | nil=>exact .nil
 | cons x a ih=>
  refine .cons ?_ ih;cases x with
  | none=>trivial
  | some x=>exact⟨rfl,Hr _⟩
theorem RelF.settle {A a:Fr}(h:RelF A a)(ns:ak)(x:KD):RelF (settle ns A x) (Ip.frz ns a):=by
 simp only[Ip.settle];split
 .exact h.trans (.low ns a)
 .exact h.frz
def RelF.settleK {A a:Fr}(h:RelF A a)(ns:ak){x:KD}(hx:x.2.fb x.1=true):RelF (Ip.settle ns A x) a:=by
 simp only[Ip.settle,hx,if_true]; exact h
theorem RelF.excA {A a:Fr}(h:RelF A a)(fs:List aK):RelF (Ip.excA A fs) (cg a):=by
 simp only[Ip.excA];split
 .exact h.trans (.lowA a)
 .have:RelF (cg A) (cg a):=by
   induction h with
   | nil=>exact .nil
   | @cons x y _ _ q t ih=>
    refine .cons ?_ ih;cases x <;> cases y <;> first | trivial | exact q.elim | exact⟨q.1,bI _⟩
  exact this
section
variable (G:Pg)(cl:Nat->ax->Run)(io:ak)
def Ou (a:Fr)(ss:az)(N:Fr->Prop)(V:D->Prop)(X:Nat->List aK->Fr->Prop):Prop:=∀A,RelF A a->match execs G cl io A ss with
 | .nx A'=>∃a',RelF A' a'/\N a'
 | .ret _ d _=>V d
 | .exc c fs A'=>∃a',RelF A' a'/\X c fs a'
 | _=>False
variable {G cl io}{a:Fr}{ss:az}{N:Fr->Prop}{V:D->Prop}{X:Nat->List aK->Fr->Prop}
def Ou.nil (h:N a):Ou G cl io a [] N V X:=λA r=>by
 simp only[rq,md]; exact⟨a,r,h⟩
def Ou.low {a':Fr}(l:RelF a a')(h:Ou G cl io a' ss N V X):Ou G cl io a ss N V X:=λA r=>h A (r.trans l)
def Ou.mono {N':Fr->Prop}{V':D->Prop}{X':Nat->List aK->Fr->Prop}(h:Ou G cl io a ss N V X)(n:∀a,N a->N' a)(r:∀d,V d->V' d)(x:∀c fs a,X c fs a->X' c fs a):Ou G cl io a ss N' V' X':=λA q=>by
 have:=h A q;revert this
 cases execs G cl io A ss with
 | nx A=>exact λ⟨a,h1,h2⟩=>⟨a,h1,n a h2⟩
 | ret k d A=>exact r d
 | exc c fs A=>exact λ⟨a,h1,h2⟩=>⟨a,h1,x c fs a h2⟩
 | _=>exact id
theorem Ou.step {s:S}(h:∀A,RelF A a->match exec G cl io A s with
  | .nx A'=>∃a',RelF A' a'/\Ou G cl io a' ss N V X
  | .ret _ d _=>V d
  | .exc c fs A'=>∃a',RelF A' a'/\X c fs a'
  | _=>False):Ou G cl io a (s::ss) N V X:=λA r=>by
 have:=h A r;simp only[rq,md];revert this
 cases exec G cl io A s with
 | nx A'=>exact λ⟨a',h1,h2⟩=>h2 A' h1
 | ret k d A=>exact id
 | exc c fs A=>exact id
 | _=>exact id
def okI {io:ak}{i n:Nat}(h:(!io.contains i&&Nat.blt i n)=true):io.contains i=false/\i<n:=by
 rw[tw] at h;exact⟨by simpa using h.1,HS h.2⟩
def uS {io is:ak}{m n:Nat}(h:(m == is.length&&is.all λi=>!io.contains i&&Nat.blt i n)=true):m=is.length/\∀i∈is,io.contains i=false/\i<n:=by
 rw[tw,List.all_eq_true] at h;exact⟨by simpa using h.1,λi hi=>okI (h.2 i hi)⟩
theorem Ou.set {i:Nat}{e:Ex}{x:KD}(h:eval G cl a.sl e=.ok x)(k:Ou G cl io ((frz e.names a).set i (some (0,x.2))) ss N V X)(hi:(!io.contains i&&Nat.blt i a.length)=true:=by rfl):Ou G cl io a (.set i e::ss) N V X:=
 .step λA r=>by
  obtain⟨hio,hi⟩:=okI hi;have l:(settle e.names A x).length=a.length:=by
   rw[<-r.len];have:=(r.settle e.names x).len;rw[this,<-(RelF.low e.names a).len,r.len]
  simp only[kC,r.sl,h,R.toO,ck,hio,l,hi,and_self,if_true];exact⟨_,(r.settle e.names x).set (x:=some x) (y:=some (0,x.2)) ⟨rfl,Hr _⟩ i,k⟩
def Ou.setE {i:Nat}{e:Ex}{d:D}(h:∃j,eval G cl a.sl e=.ok (j,d))(k:Ou G cl io ((frz e.names a).set i (some (0,d))) ss N V X)(hi:(!io.contains i&&Nat.blt i a.length)=true:=by rfl):Ou G cl io a (.set i e::ss) N V X:=by
 obtain⟨j,h⟩:=h;exact Ou.set h k hi
def Ou.setK {i:Nat}{e:Ex}{x:KD}(h:eval G cl a.sl e=.ok x)(hx:x.2.fb x.1=true)(k:Ou G cl io (a.set i (some x)) ss N V X)(hi:(!io.contains i&&Nat.blt i a.length)=true:=by rfl):Ou G cl io a (.set i e::ss) N V X:=
 .step λA r=>by
  obtain⟨hio,hi⟩:=okI hi;have l:(settle e.names A x).length=a.length:=(r.settleK e.names hx).len;simp only[kC,r.sl,h,R.toO,ck,hio,l,hi,and_self,if_true];exact⟨_,(r.settleK e.names hx).set (.refl _) i,k⟩
def Ou.setX {i:Nat}{e:Ex}{c:Nat}{fs:List aK}(h:eval G cl a.sl e=.exc c fs)(k:X c fs (cg a)):Ou G cl io a (.set i e::ss) N V X:=
 .step λA r=>by
  simp only[kC,r.sl,h,R.toO];exact⟨_,r.excA fs,k⟩
theorem Ou.ex {e:Ex}{x:KD}(h:eval G cl a.sl e=.ok x)(k:Ou G cl io (frz e.names a) ss N V X):Ou G cl io a (.ex e::ss) N V X:=
 .step λA r=>by
  simp only[pe,r.sl,h,R.toO];exact⟨_,r.settle e.names x,k⟩
def Ou.exX {e:Ex}{c:Nat}{fs:List aK}(h:eval G cl a.sl e=.exc c fs)(k:X c fs (cg a)):Ou G cl io a (.ex e::ss) N V X:=
 .step λA r=>by
  simp only[pe,r.sl,h,R.toO];exact⟨_,r.excA fs,k⟩
theorem Ou.ret {e:Ex}{x:KD}(h:eval G cl a.sl e=.ok x)(k:V x.2):Ou G cl io a (.ret e::ss) N V X:=
 .step λA r=>by
  rw[ou,r.sl,h];cases e with
  | var i=>
   rw[gM,<-r.sl] at h;rcases r.get i with ⟨e1,e2⟩ | ⟨x',y',e1,e2,q⟩
   .simp[Fr.sl,e1] at h
   .cases x' with
    | none=>simp[Fr.sl,e1] at h
    | some x'=>
     simp[Fr.sl,e1] at h;subst h;rw[vz,e1];exact k
  | _=>exact k
def Ou.retE {e:Ex}{d:D}(h:∃j,eval G cl a.sl e=.ok (j,d))(k:V d):Ou G cl io a (.ret e::ss) N V X:=by
 obtain⟨j,h⟩:=h;exact Ou.ret h k
theorem Ou.iff {c:Ex}{t e:az}{b:Bool}{j:Nat}(h:eval G cl a.sl c=.ok (j,.bl b))(k:if b then Ou G cl io a t (λa'=>Ou G cl io a' ss N V X) V X else Ou G cl io a e (λa'=>Ou G cl io a' ss N V X) V X):Ou G cl io a (.iff c t e::ss) N V X:=
 .step λA r=>by
  simp only[tV,r.sl,h,R.bl,R.bind,R.toO];cases b with
  | true=>exact k A r
  | false=>exact k A r
def Ou.iffT {c:Ex}{t e:az}{j:Nat}(h:eval G cl a.sl c=.ok (j,.bl true))(k:Ou G cl io a t (λa'=>Ou G cl io a' ss N V X) V X):Ou G cl io a (.iff c t e::ss) N V X:=.iff h k
def Ou.iffF {c:Ex}{t e:az}{j:Nat}(h:eval G cl a.sl c=.ok (j,.bl false))(k:Ou G cl io a e (λa'=>Ou G cl io a' ss N V X) V X):Ou G cl io a (.iff c t e::ss) N V X:=.iff h k
def Ou.iffN {c:Ex}{t:az}{j:Nat}(h:eval G cl a.sl c=.ok (j,.bl false))(k:Ou G cl io a ss N V X):Ou G cl io a (.iff c t []::ss) N V X:=Ou.iffF h (Ou.nil k)
theorem RelF.setFs {io:ak}:∀{is:ak} {ds:ay} {k:Nat} {A a:Fr},RelF A a->ds.length=is.length->(∀i∈is,io.contains i=false/\i<a.length)->∃A',setFs io is (ds.map λd=>(k,d)) A=.nx A'/\RelF A' (cY (λd=>(0,d)) is ds a)
 | [],[],_,A,a,r,_,_=>⟨A,rfl,r⟩
 | i::is,d::ds,k,A,a,r,hl,h=>by
  have hi:=h i bZ;have hl':i<A.length:=by rw[r.len]; exact hi.2
  obtain⟨A',e,r'⟩:=RelF.setFs (is:=is) (ds:=ds) (k:=k) (r.set (x:=some (k,d)) (y:=some (0,d)) ⟨rfl,Hr _⟩ i) (by simpa using hl) λj hj=>⟨(h j (bQ _ hj)).1,by simpa using (h j (bQ _ hj)).2⟩
  refine⟨A',?_,r'⟩;simp only[GB,Ip.setFs,ck,hi.1,hl',and_self,if_true,O.seq];exact e
theorem Ou.fo {tg:Tg}{wk:Wk}{it:aG}{b:az}{vs:ax}{xs:ay}(I:ay->Fr->Prop)(h:evals G cl a.sl it=.ok vs)(hw:dJ wk vs=some xs)(hx:xs.length<=SL)(h0:I xs (frz (wk.fz it) a))
  (step:∀x r a',I (x::r) a'->∃a'',(∀A,RelF A a'->∃A',cy io tg x A=.nx A'/\RelF A' a'')/\Ou G cl io a'' b (I r) V X)(k:∀a',I [] a'->Ou G cl io a' ss N V X):Ou G cl io a (.fo tg wk it b::ss) N V X:=
 .step λA r=>by
  simp only[pN,r.sl,h,R.toO,lQ,hw,hx,if_true];have lp:∀(xs:ay) (a':Fr),I xs a'->∀A,RelF A a'->match bM (gp G cl io tg b) xs A with
    | .nx A'=>∃a',RelF A' a'/\Ou G cl io a' ss N V X
    | .ret _ d _=>V d
    | .exc c fs A'=>∃a',RelF A' a'/\X c fs a'
    | _=>False:=by
   intro xs;induction xs with
   | nil=>exact λa' hi A r=>⟨a',r,k a' hi⟩
   | cons x xs ih=>
    intro a' hi A r;obtain⟨a'',hb,hO⟩:=step x xs a' hi;obtain⟨A',e,r'⟩:=hb A r;have:=hO A' r';rw[bM,gp,e];simp only[O.seq];revert this
    cases execs G cl io A' b with
    | nx A2=>exact λ⟨a2,h1,h2⟩=>ih a2 h2 A2 h1
    | ret k d A2=>exact id
    | exc c fs A2=>exact id
    | _=>exact False.elim
  exact lp xs _ h0 _ r.frz
def iq {i:Nat}{x:D}{a':Fr}(hi:(!io.contains i&&Nat.blt i a'.length)=true):∀A,RelF A a'->∃A',cy io (.one i) x A=.nx A'/\RelF A' (a'.set i (some (0,x))):=λA r=>by
 obtain⟨hio,hi⟩:=okI hi;have:i<A.length:=by rw[r.len]; exact hi
 simp only[cy,ck,hio,this,and_self,if_true];exact⟨_,rfl,r.set (.refl _) i⟩
def p0 {is:ak}{ds:ay}{a':Fr}(hi:(ds.length == is.length&&is.all λi=>!io.contains i&&Nat.blt i a'.length)=true):∀A,RelF A a'->∃A',cy io (.many is) (.tup ds) A=.nx A'/\RelF A' (cY (λd=>(0,d)) is ds a'):=λA r=>by
 obtain⟨hl,hi⟩:=uS hi;simp only[cy];exact RelF.setFs r hl hi
theorem Ou.tryE {b:az}{c i x:Nat}(h:Ou G cl io a b (λa'=>Ou G cl io a' ss N V X) V λc' fs a'=>bh G (.exc c' fs) (.cls c)=true/\io.contains x=false/\x<a'.length/\io.contains i=false/\i≠x/\i<a'.length/\Ou G cl io ((a'.set x (some (0,.exc c' fs))).set i none) ss N V X):Ou G cl io a (.tryE b c i x::ss) N V X:=
 .step λA r=>by
  have:=h A r;simp only[tM];revert this
  cases execs G cl io A b with
  | nx A'=>exact id
  | ret k d A'=>exact id
  | exc c' fs A'=>
   rintro⟨a',r',h1,h2,h3,h4,h5,h6,h7⟩;have l:x<A'.length:=by rw[r'.len]; exact h3
   have l2:i<(A'.set x (some (0,.exc c' fs))).length:=by rw[GO,r'.len]; exact h6
   simp only[i9,h1,if_true,ck,h2,l,and_self,O.seq,h4,l2,ne_eq,h5,not_false_eq_true];exact⟨_,(r'.set (.refl _) x).set (x:=none) (y:=none) trivial i,h7⟩
  | _=>exact False.elim
end
theorem Ou.run {G:Pg}{n f:Nat}{F:Fn}{vs:ax}{V:D->Prop}(hf:G.fn f=some F)(hn:vs.length=F.np)(hio:F.io=[])(h:Ou G (run G n) [] (bW F vs) F.body (λ_=>V .non) V λ_ _ _=>False):∃k d,Ip.run G (n+1) f vs=.ret k d []/\V d:=by
 rw[Ip.run,hf];simp only[hn,if_true,hio];have:=h _ (.refl _);revert this
 cases execs G (Ip.run G n) [] (bW F vs) F.body with
 | nx A=>exact λ⟨_,_,h⟩=>⟨99,.non,rfl,h⟩
 | ret k d A=>exact λh=>⟨k,d,rfl,h⟩
 | exc c fs A=>exact λ⟨_,_,h⟩=>h.elim
 | _=>exact False.elim
def Ou.runX {G:Pg}{n f:Nat}{F:Fn}{vs:ax}{X:Nat->List aK->Prop}(hf:G.fn f=some F)(hn:vs.length=F.np)(hio:F.io=[])(h:Ou G (Ip.run G n) [] (bW F vs) F.body (λ_=>False) (λ_=>False) λc fs _=>X c fs):∃c fs,Ip.run G (n+1) f vs=.exc c fs []/\X c fs:=by
 rw[Ip.run,hf];simp only[hn,if_true,hio];have:=h _ (.refl _);revert this
 cases execs G (Ip.run G n) [] (bW F vs) F.body with
 | nx A=>exact λ⟨_,_,h⟩=>h.elim
 | ret k d A=>exact False.elim
 | exc c fs A=>exact λ⟨_,_,h⟩=>⟨c,fs,rfl,h⟩
 | _=>exact False.elim
structure Pa (G:Pg):Prop where
 f0:G.fn 0=some lU
 f1:G.fn 1=some ke
 f2:G.fn 2=some iD
 f4:G.fn 4=some iM
 f15:G.fn 15=some oF
 f16:G.fn 16=some lI
 f17:G.fn 17=some jL
 f18:G.fn 18=some lL
 f19:G.fn 19=some lO
 f20:G.fn 20=some kZ
 f21:G.fn 21=some lJ
 c2:G.cl 2=some ⟨(some 4),[],[0],true⟩
 c17:G.cl 17=some ⟨(some 18),[(11,19),(12,20),(13,21)],[],false⟩
variable {G:Pg}(P:Pa G)
include P
noncomputable def isI:D->Bool
 | .int _=>true
 | _=>false
def rN (n:Nat)(k:Nat)(d:D):run G (n+1) 0 [(k,d)]=.ret 99 (.bl (isI d)) []:=by
 rw[run,P.f0];cases d <;> simp[lU,isI]
noncomputable def isB (b:Int):D->Bool
 | .int i=>decide (0<=i)&&decide (i<b)
 | _=>false
def pS (n:Nat)(k k':Nat)(d:D)(b:Int):run G (n+2) 1 [(k,d),(k',.int b)]=.ret 99 (.bl (isB b d)) []:=by
 rw[run,P.f1];cases d with
 | int i=>by_cases h:0<=i <;> simp[ke,P.f0,rN P,lU,isI,isB,h]
 | _=>simp[ke,P.f0,rN P,lU,isI,isB]
omit P in
noncomputable def dF (xs:al):Bool:=(xs.zip (xs.drop 1)).all λp=>decide (p.1<p.2)
def DB (n k:Nat)(xs:al)(hl:xs.length<=SL):run G (n+1) 15 [(k,.lst (xs.map .int))]=.ret 99 (.bl (dF xs)) []:=by
 rw[run,P.f15];have e:(xs.map D.int).zip (xs.map D.int).tail=(xs.zip xs.tail).map λp=>(.int p.1,.int p.2):=by
  rw[<-List.map_tail,List.zip_map]; rfl
 have c:cutD (xs.map D.int) (some 1) none=(xs.map D.int).drop 1:=uN _ 1;have hl2:xs.length<=SL+1:=by omega
 simp[oF,c,e,HZ,hl2];rw[nz (g:=λp:Int×Int=>(99,.bl (decide (p.1<p.2))))]
 .simp[HZ,Function.comp_def,dF]
 .intro x hx;simp[compF]
noncomputable def cvs (xs:al):D:=.lst (xs.map .int)
def BV (n k k':Nat)(xs:al)(b:Int)(hl:xs.length<=SL) :
  run G (n+3) 16 [(k,.lst (xs.map .int)),(k',.int b)]=.ret 99 (.bl (decide (xs≠[])&&(xs.all λi=>decide (0<=i)&&decide (i<b))&&dF xs)) []:=by
 rw[run,P.f16];have c:be (compF G (run G (n+2)) [none,none,some (.int b)] (.one 1) [] (.call 1 [.var 1,.var 2])) (xs.map .int)=.ok (xs.map λi=>(99,.bl (decide (0<=i)&&decide (i<b)))):=
  nz λi _=>by simp[compF,P.f1,ke,pS P n,isB]
 have q:=DB P (n+1) 0 xs hl;by_cases hx:xs=[]
 .subst hx;simp[lI,D.eq]
 .by_cases h:(xs.all λi=>decide (0<=i)&&decide (i<b))=true
  .simp[lI,D.eq,hx,hl,c,Function.comp_def,h,P.f15,oF,q]
  .have h':(xs.all λi=>decide (0<=i)&&decide (i<b))=false:=by simpa using h
   simp[lI,D.eq,hx,hl,c,Function.comp_def,h']
noncomputable def wd (p:Int)(cs:ac):D:=.ins 17 [(9,.int p),(10,.lst (cs.map λc=>.tup (c.map .int)))]
noncomputable def aZ (cs:ac):D:=.lst (cs.map λc=>.lst (c.map .int))
noncomputable def iZ (p:Int)(c:al):Bool:=decide (c≠[])&&(c.all λi=>decide (0<=i)&&decide (i<p))&&dF c
def F6 (n k k':Nat)(p:Int)(cs:ac)(hp:1<=p/\p<=6)(hn:cs.length<=6)(hc:∀c∈cs,iZ p c=true)(hl:∀c∈cs,c.length<=SL) :
  run G (n+4) 18 [(1,.ins 17 []),(k,.int p),(k',aZ cs)]=.ret 99 .non [(100,wd p cs)]:=by
 rw[run,P.f18];have hw:=rN P (n+2) 0 (.int p);have hS:cs.length<=SL:=ce hn (by decide);have h6:¬((6:Int)<cs.length):=by omega
 have lp:∃A',bM (gp G (run G (n+3)) [0] (.many [3,4]) [.iff (.op .not [(.call 16 [(.var 4),(.var 1)])]) [.rais 2 [(.var 3)]] []]) ((cs.map λc=>D.lst (c.map .int)).mapIdx λn d=>.tup [.int n,d])
   [some (1,.ins 17 []),some (0,.int p),some (0,aZ cs),none,none]=.nx A'/\∃a b,A'=[some (1,.ins 17 []),some (0,.int p),some (0,aZ cs),a,b]:=by
  refine vn (I:=λA'=>∃a b,A'=[some (1,.ins 17 []),some (0,.int p),some (0,aZ cs),a,b]) ⟨_,_,rfl⟩ ?_;rintro x hx A ⟨a,b,hA⟩;obtain⟨i,d,hi,hd⟩:∃(i:Nat) (c:al),c∈cs/\x=.tup [.int i,.lst (c.map .int)]:=by
   rw[List.mem_mapIdx] at hx;obtain⟨i,hi,e⟩:=hx;rw[List.getElem_map] at e;exact⟨i,_,GV (by simpa using hi),e.symm⟩
  subst hA hd;have g:=hc d hi;rw[iZ] at g;have q:=BV P n 0 0 d p (hl d hi);rw[g] at q;refine⟨_,?_,some (0,.int i),some (0,.lst (d.map .int)),rfl⟩;simp[gp,P.f16,lI,q]
 obtain⟨A',e,a,b,rfl⟩:=lp;simp only[aZ] at e;have c:be (compF G (run G (n+3)) [none,none] (.one 1) [] (.op .tuple [.var 1])) (cs.map λc=>D.lst (c.map .int))=.ok (cs.map λc=>(0,.tup (c.map .int))):=
  nz λc _=>by simp[compF]
 have j:bi (cs.map λc=>((0:Nat),D.tup (c.map .int)))=98:=sY λx hx=>by
  obtain⟨c,_,rfl⟩:=fH hx;simp
 simp[lL,P.f0,lU,hw,isI,hp.1,hp.2,aZ,hS,h6,e,c,j,wd,cK,br,Function.comp_def]
end Ip
end
section
namespace Ip
open PySem (Str)
def E2 {d:D}(h:d.scal=true):d.flat=true:=by cases d <;> simp at h ⊢
def Af {d:D}(k:Nat)(h:d.scal=true):d.fb k=true:=by cases d <;> simp at h ⊢ <;> cases k <;> rfl
def ux {ds:ay}(k:Nat)(h:ds.all D.scal=true):D.fb k (.tup ds)=true:=by
 have h':=eB h;cases k with
 | zero=>simp only[D.fb,D.flat,ud,List.all_eq_true]; exact λd hd=>E2 (h' d hd)
 | succ k=>simp only[D.fb,List.all_eq_true]; exact λd hd=>Af k (h' d hd)
def RelF.own {A a:Fr}(r:RelF A a){x k:Nat}{d:D}(h:a[x]? = some (some (k+1,d))):∃j,A[x]? = some (some (j+1,d)):=by
 rcases r.get x with ⟨_,e2⟩ | ⟨y,z,e1,e2,q⟩
 .rw[e2] at h; cases h
 .rw[e2] at h;cases h;cases y with
  | none=>exact q.elim
  | some y=>
   obtain⟨j,d'⟩:=y;obtain⟨q1,q2⟩:=q;have q1':d'=d:=q1;have q2':k+1<=j:=q2;subst q1';exact⟨j - 1,by rw[e1]; congr 3; omega⟩
section
variable {G:Pg}{cl:Nat->ax->Run}{io:ak}{a:Fr}{ss:az}{N:Fr->Prop}{V:D->Prop}{X:Nat->List aK->Fr->Prop}
theorem Ou.extend {x k j:Nat}{e:Ex}{xs ys:ay}(hx:a[x]? = some (some (k+1,.lst xs)))(he:eval G cl a.sl e=.ok (j,.tup ys))(hs:ys.all D.scal=true)(hl:xs.length+ys.length<=SL)(h:Ou G cl io (a.set x (some (1,.lst (xs++ys)))) ss N V X) :
  Ou G cl io a (.mut x [] .extend [e]::ss) N V X:=
 .step λA r=>by
  obtain⟨k',hA⟩:=r.own hx;have e1:cz A[x]? = true:=by rw[hA]; rfl
  have e2:([(j,D.tup ys)]:ax).all (λv=>v.2.fb v.1)=true:=by simp only[List.all_cons,List.all_nil,Bool.and_true]; exact ux j hs
  simp only[iz,e1,if_true,dk,bL,r.sl,he,R.bind,R.toO,dS,e2,hA,d7,vH,hs,hl,and_self];exact⟨_,r.set (.refl _) x,h⟩
theorem Ou.put {x k j:Nat}{e i:Ex}{xs:ay}{v:KD}{n:Int}(hx:a[x]? = some (some (k+1,.lst xs)))(he:eval G cl a.sl e=.ok v)(hv:v.2.fb v.1=true)(hi:eval G cl a.sl i=.ok (j,.int n))(hn:0<=n/\n<xs.length)(h:Ou G cl io (a.set x (some (1,.lst (xs.set n.toNat v.2)))) ss N V X) :
  Ou G cl io a (.put x [] i e::ss) N V X:=
 .step λA r=>by
  obtain⟨k',hA⟩:=r.own hx;simp only[uT,List.isEmpty_nil,if_true,r.sl,he,hi,R.toO,settle,hv,hA,iU,hn,and_self];exact⟨_,r.set (.refl _) x,h⟩
end
noncomputable def bn (r:ak):D:=.tup (aL r)
noncomputable def bE (rows:af):D:=.tup (rows.map bn)
def rh (r:ak):(aL r).all D.scal=true:=by simp[aL]
def uF (r:ak):D.pures (aL r)=true:=by simp[aL,D.pures]
theorem o7:∀{ns:ak},(∀n∈ns,n<6)->cD (aL ns)=some ns
 | [],_=>rfl
 | n::ns,h=>by
  have h1:=h n bZ;have ih:=o7 (ns:=ns) λm hm=>h m (bQ _ hm);have h2:(0:Int)<=Int.ofNat n/\Int.ofNat n<6:=⟨IW n,by simpa using (show (n:Int)<6 by omega)⟩
  show cD (.int (Int.ofNat n)::aL ns)=_;simp only[cD,h2,and_self,if_true,ih,Option.map];rfl
theorem rF (g:Nat):∀ns:ak,D.memb (.int g) (aL ns)=decide (g∈ns)
 | []=>rfl
 | n::ns=>by
  have ih:=rF g ns;have e:D.memb (.int g) (aL (n::ns))=((D.int (Int.ofNat n)).eq (.int g)||D.memb (.int g) (aL ns)):=rfl;rw[e,ih];simp only[D.eq];by_cases h:g=n
  .subst h; simp
  .have:¬(n:Int)=(g:Int):=by omega
   simp[this,h]
def vD {g:Nat}{ns:ak}(h:g<6):g∈da ns↔g∈ns:=by
 simp[da,h]
noncomputable def gq (c:al)(g:Nat)(rows:af):af:=c.foldl (λrs i=>rs.set i.toNat (rs.getD i.toNat []++[g])) rows
def zX (k:Nat)(r:ak):D.fb k (bn r)=true:=ux k (rh r)
def vJ (r:ak):(bn r).flat=true:=zX 0 r
def Cv {rs:af}{i:Int}(h:0<=i/\i<rs.length):bt (.lst (rs.map bn)) (.int i)=some (0,bn (rs.getD i.toNat [])):=by
 have h2:i.toNat<rs.length:=by omega
 simp[bt,dR,h.1,h.2,h2]
def yo {r:ak}{g:Nat}(h:r.length<=1000):dH (bn r) (.tup [.int g])=some (0,bn (r++[g])):=by
 have:(aL r).length+[D.int g].length<=SL:=by
  have:1001<=SL:=by decide
  simp[aL];omega
 simp only[bn,dH];rw[if_pos this];simp[aL]
structure Pv (G:Pg):Prop where
 a:Pa G
 f23:G.fn 23=some nA
 f24:G.fn 24=some mM
 f25:G.fn 25=some iY
section
variable {G:Pg}(P:Pa G)
include P
omit P in
theorem qG (p:Int)(cs:ac):gi 9 (wd p cs)=some (0,.int p):=rfl
omit P in
theorem jv (p:Int)(cs:ac):gi 10 (wd p cs)=some (0,.lst (cs.map λc=>.tup (c.map .int))):=rfl
def Dv (p:Int)(cs:ac):cj G 11 0 (wd p cs)=some (19,lO):=by
 simp[cj,wd,P.c17,P.f19,lO,List.lookup]
def uw (p:Int)(cs:ac):cj G 12 0 (wd p cs)=some (20,kZ):=by
 simp[cj,wd,P.c17,P.f20,kZ,List.lookup]
def AC (p:Int)(cs:ac):cj G 13 1 (wd p cs)=some (21,lJ):=by
 simp[cj,wd,P.c17,P.f21,lJ,List.lookup]
def wG (n k:Nat)(p:Int)(cs:ac):run G (n+1) 20 [(k,wd p cs)]=.ret 99 (.int cs.length) []:=by
 rw[run,P.f20];simp[kZ,jv]
def Dt (n k:Nat)(p:Int)(cs:ac):run G (n+1) 19 [(k,wd p cs)]=.ret 0 (.int p) []:=by
 rw[run,P.f19];simp[lO,qG]
def qL (n k k':Nat)(p:Int)(cs:ac)(d:D)(h:isB cs.length d=true):run G (n+4) 17 [(k,wd p cs),(k',d)]=.ret 99 .non []:=by
 rw[run,P.f17];have q:=pS P (n+1) 0 99 d cs.length;have q2:=wG P (n+2) 0 p cs;rw[h] at q;simp[jL,P.f1,ke,uw P,kZ,q2,q]
def Fy (n k k':Nat)(p:Int)(cs:ac)(j:Nat)(c:al)(h:cs[j]? = some c):run G (n+5) 21 [(k,wd p cs),(k',.int j)]=.ret 1 (.lst (c.map .int)) []:=by
 rw[run,P.f21];have hj:j<cs.length:=(eQ h).1;have hb:isB cs.length (.int j)=true:=by simp[isB,hj]
 have q:=qL P n 0 0 p cs (.int j) hb;have e:cs[j]=c:=(eQ h).2;simp[lJ,P.f17,jL,q,jv,dR,hj,e]
end
section
variable {G:Pg}(P:Pv G)
include P
def uo (n k:Nat)(p:Nat)(cs:ac)(hp:p<=6):∃j,run G (n+2) 23 [(k,wd p cs)]=.ret j (bE (List.replicate p [])) []:=by
 rw[run,P.f23];have q:=Dt P.a n 0 p cs;have hs:p<=SL:=ce hp (by decide);have cc:be (compF G (run G (n+1)) [none,none] (.one 1) [] (.op .tup [])) ((List.range p).map λ(n:Nat)=>.int n)=.ok ((List.range p).map λn=>(99,.tup [])):=
  nz λi _=>by simp[compF]
 have e:(List.range p).map (λ_=>D.tup [])=(List.replicate p ([]:ak)).map bn:=by
  rw[List.map_replicate];have:bn []=.tup []:=rfl;rw[this];exact (Jq.mpr ⟨by simp,by simp⟩)
 simp[nA,Dv P.a,lO,q,wk_rng1 hs,hs,cc,Function.comp_def,bE,e]
def vZ (n k:Nat)(rows:af)(h1:rows.length<=6)(h2:rows.flatten.length<=1000)(h3:∀g∈rows.flatten,g<6):∃j,run G (n+1) 24 [(k,bE rows)]=.ret j (.lst (aL (da rows.flatten))) []:=by
 have hs:rows.length<=SL:=ce h1 (by decide);have key:Ou G (run G n) [] [some (0,bE rows),none,none] mM.body (λ_=>False) (λd=>d=.lst (aL (da rows.flatten))) λ_ _ _=>False:=by
  refine Ou.setK (x:=(99,.lst [])) (by simp) (by simp) ?_;refine Ou.low (a':=[some (0,bE rows),some (1,.lst []),none]) (.cons (.refl _) (.cons ⟨rfl,by decide⟩ (.cons trivial .nil))) ?_;refine Ou.fo (λr a=>∃(x:aA) (fl:ak) (suf:af),a=[some (0,bE rows),some (1,.lst (aL fl)),x]/\r=suf.map bn/\fl++suf.flatten=rows.flatten) (vs:=[(0,bE rows)]) (xs:=rows.map bn) (by simp) (by simp[bE]) (by simpa using hs) ?_ ?_ ?_
  .exact⟨none,[],rows,by simp[aL],rfl,rfl⟩
  .rintro x r a ⟨y,fl,suf,ha,hr,he⟩;cases suf with
   | nil=>simp at hr
   | cons s suf=>
    simp only[GB,Hb] at hr;obtain⟨rfl,rfl⟩:=hr;subst ha;refine⟨_,iq rfl,?_⟩;refine Ou.extend (k:=0) (j:=0) (xs:=aL fl) (ys:=aL s) (by simp) (by simp[bn]) (rh s) ?_ ?_
    .have e2:rows.flatten.length=fl.length+(s.length+suf.flatten.length):=by rw[<-he]; simp
     have:1000<=SL:=by decide
     simp only[aL,GA];omega
    .exact Ou.nil ⟨some (0,bn s),fl++s,suf,by simp[aL],rfl,by simpa using he⟩
  .rintro a ⟨y,fl,suf,ha,hr,he⟩;have:suf=[]:=by simpa using hr.symm
   subst this ha;simp only[List.flatten_nil,HJ] at he;rw[<-he] at h3 ⊢;exact Ou.ret (x:=(1,.lst (aL (da fl)))) (by simp[o7 h3]) rfl
 obtain⟨j,d,e,rfl⟩:=Ou.run (n:=n) (vs:=[(k,bE rows)]) (V:=λd=>d=.lst (aL (da rows.flatten))) P.f24 rfl rfl (key.mono (λ_ h=>h.elim) (λ_ h=>h) λ_ _ _ h=>h);exact⟨j,e⟩
def xI (n k k' k'':Nat)(p:Nat)(cs:ac)(rows:af)(g:Nat)(c:al)(hc:cs[g]? = some c)(hpl:∀i∈c,0<=i/\i<rows.length)(h6:rows.length<=6)(hl:c.length<=6)(hf:rows.flatten.length<=900)(hg6:∀g∈rows.flatten,g<6)(hg:g<6)(hn:g∉rows.flatten) :
  ∃j,run G (n+6) 25 [(k,wd p cs),(k',bE rows),(k'',.int g)]=.ret j (bE (gq c g rows)) []:=by
 have hgl:g<cs.length:=(eQ hc).1;have hb:isB cs.length (.int g)=true:=by simp[isB,hgl]
 have q1:=qL P.a (n+1) 0 0 p cs (.int g) hb;obtain⟨j2,q2⟩:=vZ P (n+4) 0 rows h6 (by omega) hg6;have q3:=Fy P.a n 0 0 p cs g c hc;have hm:D.memb (.int g) (aL (da rows.flatten))=false:=by rw[rF]; simp[vD hg,hn]
 have hsc:=uF (da rows.flatten);have hS:c.length<=SL:=ce hl (by decide);have hrow:∀r∈rows,r.length<=900:=λr hr=>by
  have:=(List.sublist_flatten_of_mem hr).length_le;omega
 have key:Ou G (run G (n+5)) [] [some (0,wd p cs),some (0,bE rows),some (0,.int g),none,none] iY.body (λ_=>False) (λd=>d=bE (gq c g rows)) λ_ _ _=>False:=by
  refine Ou.ex (x:=(99,.non)) (by simp[P.a.f17,jL,q1]) ?_;refine Ou.iffN (j:=99) (by
   simp only[Fr.sl,cR,bL,dk,gM,lG];simp[-List.all_eq_true,P.f24,mM,q2,hm,hsc]) ?_
  refine Ou.setK (x:=(1,.lst (rows.map bn))) (by simp[bE]) (by simp[vJ]) ?_;refine Ou.fo (λr a=>∃(x:aA) (rs:af) (suf:al),a=[some (0,wd p cs),some (0,bE rows),some (0,.int g),some (1,.lst (rs.map bn)),x]/\r=suf.map .int/\suf.foldl (λrs i=>rs.set i.toNat (rs.getD i.toNat []++[g])) rs=gq c g rows/\rs.length=rows.length/\(∀i∈suf,0<=i/\i<rows.length)/\(∀r∈rs,r.length+suf.length<=906)) (vs:=[(1,.lst (c.map .int))]) (xs:=c.map .int) (by simp[AC P.a,lJ,q3]) (by simp) (by simpa using hS) ?_ ?_ ?_
  .exact⟨none,rows,c,by simp,rfl,rfl,rfl,hpl,λr hr=>by have:=hrow r hr; omega⟩
  .rintro x r a ⟨y,rs,suf,ha,hr,he,hlen,hi,hB⟩;cases suf with
   | nil=>simp at hr
   | cons s suf=>
    simp only[GB,Hb] at hr;obtain⟨rfl,rfl⟩:=hr;subst ha;have hs:0<=s/\s<rs.length:=by rw[hlen]; exact hi s bZ
    have hs':s.toNat<rs.length:=by omega
    have hmem:rs.getD s.toNat []∈rs:=by
     rw[IC,GM hs']; exact GV hs'
    have hBs:=hB _ hmem;simp only[List.length_cons] at hBs;refine⟨_,iq rfl,?_⟩;have ad:=yo (r:=rs.getD s.toNat []) (g:=g) (by omega);have ix:=Cv hs;simp only[List.foldl_cons] at he;generalize rs.getD s.toNat []=row at ad ix hBs he;refine Ou.put (k:=0) (j:=0) (xs:=rs.map bn) (v:=(0,bn (row++[g]))) (n:=s) (by simp) ?_ (vJ _) (by simp) (by simpa using hs) ?_
    .simp[-dH,-bt,ix,ad]
    .refine Ou.nil ⟨some (0,.int s),rs.set s.toNat (row++[g]),suf,by simp[List.map_set],rfl,?_,by simpa using hlen,λi h=>hi i (bQ _ h),?_⟩
     .exact he
     .intro r hr;rcases List.mem_or_eq_of_mem_set hr with h | h
      .have:=hB r h;simp only[List.length_cons] at this;omega
      .subst h;simp;omega
  .rintro a ⟨y,rs,suf,ha,hr,he,_⟩;have:suf=[]:=by simpa using hr.symm
   subst this ha;simp only[List.foldl_nil] at he;subst he;exact Ou.ret (x:=(0,bE (gq c g rows))) (by simp[bE]) rfl
 obtain⟨j,d,e,rfl⟩:=Ou.run (n:=n+5) (vs:=[(k,wd p cs),(k',bE rows),(k'',.int g)]) (V:=λd=>d=bE (gq c g rows)) P.f25 rfl rfl (key.mono (λ_ h=>h.elim) (λ_ h=>h) λ_ _ _ h=>h);exact⟨j,e⟩
end
noncomputable def ii (f:ak->ak)(c:al)(rows:af):af:=c.foldl (λrs i=>rs.set i.toNat (f (rs.getD i.toNat []))) rows
theorem yS (c:al)(g:Nat)(rows:af):gq c g rows=ii (λr=>r++[g]) c rows:=rfl
theorem vY (f:ak->ak):∀(c:al) (rows:af),c.Nodup->(∀i∈c,0<=i/\i<rows.length)->∀j:Nat,(ii f c rows)[j]? = rows[j]?.map λr=>if (j:Int)∈c then f r else r
 | [],rows,_,_,j=>by simp[ii]
 | i::c,rows,hn,hi,j=>by
  obtain⟨h1,h2⟩:=GN.mp hn;have hi0:=hi i bZ;have ih:=vY f c (rows.set i.toNat (f (rows.getD i.toNat []))) h2 (λx hx=>by simpa using hi x (bQ _ hx)) j;show (ii f c (rows.set i.toNat (f (rows.getD i.toNat []))))[j]? = _;rw[ih,JT];by_cases e:i.toNat=j
  .have e':i=(j:Int):=by omega
   have hj:j<rows.length:=by omega
   subst e';simp[hj,h1]
  .have e':¬(j:Int)=i:=by omega
   simp[e,e']
def D3 {f:ak->ak}{c:al}{rows:af}(hn:c.Nodup)(hi:∀i∈c,0<=i/\i<rows.length):ii f c rows=rows.mapIdx λj r=>if (j:Int)∈c then f r else r:=by
 refine HG λj=>?_;rw[vY f c rows hn hi j,HD]
def gz (r:ak):(aL r).length=r.length:=by simp[aL]
section
variable {G:Pg}{cl:Nat->ax->Run}{io:ak}{a:Fr}{ss:az}{N:Fr->Prop}{V:D->Prop}{X:Nat->List aK->Fr->Prop}
theorem Ou.append {x k:Nat}{e:Ex}{xs:ay}{v:KD}(hx:(frz e.names a)[x]? = some (some (k+1,.lst xs)))(he:eval G cl a.sl e=.ok v)(hl:xs.length<SL)(h:Ou G cl io ((frz e.names a).set x (some (1,.lst (xs++[v.2])))) ss N V X) :
  Ou G cl io a (.mut x [] .append [e]::ss) N V X:=
 .step λA r=>by
  obtain⟨k0,h0⟩:=(r.trans (.low e.names a)).own hx;have e1:cz A[x]? = true:=by rw[h0]; rfl
  have nm:Ex.namess [e]=e.names:=by simp
  have r1:RelF (if ([v]:ax).all (λv=>v.2.fb v.1)=true then A else frz (Ex.namess [e]) A) (frz e.names a):=by
   rw[nm];split
   .exact r.trans (.low e.names a)
   .exact r.frz
  obtain⟨k1,h1⟩:=r1.own hx;simp only[iz,e1,if_true,dk,bL,r.sl,he,R.bind,R.toO,dS];generalize (if ([v]:ax).all (λv=>v.2.fb v.1)=true then A else frz (Ex.namess [e]) A)=A1 at r1 h1;rw[h1];simp only[d7,vG,hl,if_true];exact⟨_,r1.set (x:=some (cK k1 xs v+1,.lst (xs++[v.2]))) (y:=some (1,.lst (xs++[v.2]))) ⟨rfl,by omega⟩ x,h⟩
end
structure Pd (G:Pg):Prop where
 f98:G.fn 98=some gR
 f71:G.fn 71=some fP
 f99:G.fn 99=some pb
theorem uk:∀{xs:al},xs.Pairwise (· < ·)->dF xs=true
 | [],_=>rfl
 | [x],_=>rfl
 | x::y::r,h=>by
  have ih:=uk (List.Pairwise.tail h);have hxy:x<y:=by cases h with | cons h _=>exact h y bZ
  unfold dF at ih ⊢;simp at ih ⊢;exact⟨hxy,ih⟩
structure OkC (p:Nat)(c:al):Prop where
 gd:iZ p c=true
 ne:c≠[]
 rg:∀i∈c,0<=i/\i<p
 nd:c.Nodup
 ln:c.length<=6
def sf {p:Nat}{ns:ak}(hp:p<=6)(h1:ns.Pairwise (· < ·))(h2:∀n∈ns,n<p)(h3:ns≠[]):OkC p (ns.map λ(n:Nat)=>(n:Int)):=by
 have pw:(ns.map λ(n:Nat)=>(n:Int)).Pairwise (· < ·):=List.Pairwise.map _ (λa b h=>by simpa using h) h1;have rg:∀i∈ns.map λ(n:Nat)=>(n:Int),0<=i/\i<p:=λi hi=>by
  obtain⟨n,hn,rfl⟩:=fH hi;have:=h2 n hn;omega
 have ne:ns.map (λ(n:Nat)=>(n:Int))≠[]:=by simpa using h3
 have ln:∀(ns:ak) (lo:Nat),ns.Pairwise (· < ·)->(∀n∈ns,lo<=n/\n<p)->lo+ns.length<=p\/ns=[]:=by
  intro ns;induction ns with
  | nil=>intro _ _ _; exact .inr rfl
  | cons x r ih=>
   intro lo hp' hr;obtain⟨q1,q2⟩:=List.pairwise_cons.mp hp';have hx:=hr x bZ;rcases ih (x+1) q2 (λn hn=>⟨q1 n hn,(hr n (bQ _ hn)).2⟩) with h | h
   .simp only[List.length_cons]; omega
   .subst h; simp; omega
 refine⟨?_,ne,rg,pw.imp λh=>by omega,?_⟩
 .simp only[iZ,tw,GR,List.all_eq_true];exact⟨⟨ne,rg⟩,uk pw⟩
 .rcases ln ns 0 h1 (λn hn=>⟨Hr _,h2 n hn⟩) with h | h
  .simp; omega
  .exact absurd h h3
variable {G:Pg}(P:Pd G)
include P
def ko (n k k':Nat)(ns:al)(j:Nat):∃d,run G (n+1) 98 [(k,.lst (ns.map .int)),(k',.int j)]=.ret d (.int (ns.getD j 0)) []:=by
 rw[run,P.f98];by_cases h:j<ns.length
 .have h':(j:Int)<ns.length:=by omega
  exact⟨0,by simp[gR,h',dR,h]⟩
 .have h':¬(j:Int)<ns.length:=by omega
  have e:ns[j]? = none:=Hu (by omega);exact⟨99,by simp[gR,h',e]⟩
def iy (n k k' k'':Nat)(c s m:Int)(hm:0<m)(hs:0<=s/\s<=1000):∃v j,run G (n+1) 71 [(k,.int c),(k',.int s),(k'',.int m)]=.ret j (.int v) []/\0<=v/\v<m:=by
 have b10:cZ 10=true:=fQ.mpr (by decide);have b31:cZ 31=true:=fQ.mpr (by decide);have b977:cZ 977=true:=fQ.mpr (by decide);have b65:cZ 65537=true:=fQ.mpr (by decide);have fin:∀x:Int,0<=x % m/\x % m<m:=λx=>⟨Int.emod_nonneg _ (by omega),JP _ hm⟩
 have key:Ou G (run G n) [] [some (0,.int c),some (0,.int s),some (0,.int m),none,none,none] fP.body (λ_=>False) (λd=>∃v,d=.int v/\0<=v/\v<m) λ_ _ _=>False:=by
  by_cases h:c > 1000000000
  .refine Ou.iffT (j:=99) (by simp[b10]; omega) ?_;refine Ou.set (x:=(99,.int (c / 1000))) rfl ?_;have hk:0<=s % 9/\s % 9<9:=⟨Int.emod_nonneg _ (by decide),JP _ (by decide)⟩
   obtain⟨q,eq⟩:∃q:Nat,s % 9=(q:Int):=⟨(s % 9).toNat,by omega⟩
   have hq:q<=SL:=by
    have:9<=SL:=by decide
    omega
   refine Ou.fo (λr a=>∃(x4:aA) (y:Int),a=[some (0,.int c),some (0,.int s),some (0,.int m),some (0,.int y),x4,none]) (vs:=[(99,.int (q:Int))]) (xs:=(List.range q).map λ(n:Nat)=>D.int n) (by simp[eq]) (wk_rng1 hq) (by simpa using hq) ⟨none,c / 1000,by simp⟩ ?_ ?_
   .rintro x r a ⟨x4,y,ha⟩;subst ha;refine⟨_,iq rfl,?_⟩;refine Ou.set (x:=(99,.int (y / 1000))) rfl ?_;exact Ou.nil ⟨some (0,x),y / 1000,by simp⟩
   .rintro a ⟨x4,y,ha⟩;subst ha;exact Ou.ret (x:=(99,.int (y % 1000 % m))) (by simp[hm]) ⟨_,rfl,fin _⟩
  .refine Ou.iffN (j:=99) (by simp[b10]; omega) ?_;refine Ou.set (x:=(99,.int (c % 1000003+31 * s+1))) (by simp[b31]) ?_;have hx:cZ (c % 1000003+31 * s+1)=true:=fQ.mpr (by omega);generalize c % 1000003+31 * s+1=x at hx;exact Ou.ret (x:=(99,.int ((x * x+65537 * x+977 * s) % 999983 / 3 % m))) (by simp[hx,b65,b977,hm]) ⟨_,rfl,fin _⟩
 obtain⟨j,d,e,v,rfl,h1,h2⟩:=Ou.run (n:=n) (vs:=[(k,.int c),(k',.int s),(k'',.int m)]) (V:=λd=>∃v,d=.int v/\0<=v/\v<m) P.f71 rfl rfl (key.mono (λ_ h=>h.elim) (λ_ h=>h) λ_ _ _ h=>h);exact⟨v,j,e,h1,h2⟩
end Ip
end
section
namespace Ip
open PySem (Str)
noncomputable def dr (p:Nat):Int:=([1,3,7,15,31,63]:al).getD (p - 1) 1
noncomputable def fN (v:Int)(p:Nat):ak:=(List.range p).filter λn=>decide (v / (([1,2,4,8,16,32]:al).getD n 1) % 2=1)
def B8:∀p:Fin 7,∀v:Fin 64,1<=p.1->1<=v.1->(v.1:Int)<=dr p.1->fN (v.1:Int) p.1≠[]:=by decide +kernel
def Gu:∀p:Fin 7,dr p.1<=63:=by decide +kernel
def zr {v:Int}{p:Nat}(hp:1<=p/\p<=6)(hv:1<=v/\v<=dr p):fN v p≠[]:=by
 have hf:=Gu ⟨p,by omega⟩;obtain⟨u,rfl⟩:∃u:Nat,v=(u:Int):=⟨v.toNat,by omega⟩
 exact B8 ⟨p,by omega⟩ ⟨u,by dsimp only at hf; omega⟩ hp.1 (by dsimp only; omega) hv.2
def Ej {i:Nat}(h:i<6):∃y:Int,([1,2,4,8,16,32]:al).getD i 1=y/\0<y/\y<1000000000000000000000000000000000000000000000000/\bt (.lst [.int 1,.int 2,.int 4,.int 8,.int 16,.int 32]) (.int (i:Nat))=some (0,.int y):=by
 have hq:i=0\/i=1\/i=2\/i=3\/i=4\/i=5:=by omega
 rcases hq with rfl | rfl | rfl | rfl | rfl | rfl <;> exact⟨_,rfl,by decide,by decide,rfl⟩
def zP {v:Int}{p:Nat}(hp:1<=p/\p<=6)(hv:1<=v/\v<=dr p):OkC p ((fN v p).map λ(n:Nat)=>(n:Int)):=by
 refine sf hp.2 (List.pairwise_lt_range.filter _) (λn hn=>?_) (zr hp hv);exact G1.mp (Hn.mp hn).1
def CV {p:Nat}(hp:1<=p/\p<=6):bt (.lst [.int 1,.int 3,.int 7,.int 15,.int 31,.int 63]) (.int ((p:Int) - 1))=some (0,.int (dr p)):=by
 have hq:p=1\/p=2\/p=3\/p=4\/p=5\/p=6:=by omega
 rcases hq with rfl | rfl | rfl | rfl | rfl | rfl <;> simp[bt,dR,dr]
def yW (p:Nat):0<dr p:=by
 unfold dr;by_cases h:p - 1<6
 .have hq:p - 1=0\/p - 1=1\/p - 1=2\/p - 1=3\/p - 1=4\/p - 1=5:=by omega
  rcases hq with e | e | e | e | e | e <;> rw[e] <;> decide
 .have:([1,3,7,15,31,63]:al)[p - 1]? = none:=Hu (by simpa using by omega);simp[this]
def Bt {α:Type}{xs:List α}{v:Nat}(h:v<xs.length):cutD (cutD xs (some (v:Int)) none) none (some 1)=[xs[v]]:=by
 have e:=rj (xs.drop v) 1;rw[uN];simp only[Int.natCast_one] at e;rw[e,HU h,List.take_succ_cons,List.take_zero]
def AU {p:Nat}{c:al}(hp:p<=6)(h:OkC p c){i:Int}(hi:i∈c):OkC p [i]:=by
 have h1:=h.rg i hi;have:=sf (p:=p) (ns:=[i.toNat]) hp (by simp) (λn hn=>by simp at hn; omega) (by simp);simp only[GB,List.map_nil] at this
 rwa [IP h1.1] at this
variable {G:Pg}(P:Pd G)
include P
set_option maxHeartbeats 600000 in
def zd (n k k':Nat)(ns:al)(p:Nat)(hp:1<=p/\p<=6):∃j cs,run G (n+2) 99 [(k,.lst (ns.map .int)),(k',.int p)]=.ret j (aZ cs) []/\cs.length<=6/\∀c∈cs,OkC p c:=by
 obtain⟨d1,q1⟩:=ko P n 0 99 ns 1;have hq0:0<=ns.getD 1 0 % 7/\ns.getD 1 0 % 7<7:=⟨Int.emod_nonneg _ (by decide),JP _ (by decide)⟩
 obtain⟨q,eq⟩:∃q:Nat,ns.getD 1 0 % 7=(q:Int):=⟨(ns.getD 1 0 % 7).toNat,by omega⟩
 have hq:q<=6:=by omega
 have hS:q<=SL:=ce hq (by decide);have hpS:p<=SL:=ce hp.2 (by decide);have i2:cZ 2=true:=fQ.mpr (by decide);have key:Ou G (run G (n+1)) [] [some (0,.lst (ns.map .int)),some (0,.int p),none,none,none,none,none] pb.body (λ_=>False) (λd=>∃cs,d=aZ cs/\cs.length<=6/\∀c∈cs,OkC p c) λ_ _ _=>False:=by
  refine Ou.setK (x:=(99,.lst [])) (by simp) (by simp) ?_;refine Ou.low (a':=[some (0,.lst (ns.map .int)),some (0,.int p),some (1,.lst []),none,none,none,none]) (.cons (.refl _) (.cons (.refl _) (.cons ⟨rfl,by decide⟩ (.refl _)))) ?_;refine Ou.fo (λr a=>∃(x3 x4 x5 x6:aA) (cs:ac) (suf:ak),a=[some (0,.lst (ns.map .int)),some (0,.int p),some (1,aZ cs),x3,x4,x5,x6]/\r=suf.map (λ(n:Nat)=>D.int n)/\cs.length+suf.length<=6/\∀c∈cs,OkC p c) (vs:=[(99,.int (q:Int))]) (xs:=(List.range q).map λ(n:Nat)=>D.int n) ?_ (wk_rng1 hS) (by simpa using hS) ?_ ?_ ?_
  .simp at q1 eq;simp[P.f98,gR,q1,eq]
  .exact⟨none,none,none,none,[],List.range q,by simp[aZ],rfl,by simpa using hq,by simp⟩
  .rintro x r a ⟨x3,x4,x5,x6,cs,suf,ha,hr,hl,hok⟩;cases suf with
   | nil=>simp at hr
   | cons s suf=>
    simp only[GB,Hb] at hr;obtain⟨rfl,rfl⟩:=hr;subst ha;simp only[List.length_cons] at hl;refine⟨_,iq rfl,?_⟩;obtain⟨d2,q2⟩:=ko P n 0 99 ns (2+s);have e2:((2+s:Nat):Int)=2+(s:Int):=by omega
    rw[e2] at q2;generalize ns.getD (2+s) 0=c at q2;refine Ou.set (x:=(d2,.int c)) (by simp[P.f98,gR,q2]) ?_;obtain⟨v,j3,q3,hv0,hv1⟩:=iy P n 0 99 0 c 1 (dr p) (yW p) (by decide);have im:=CV hp;refine Ou.set (x:=(99,.int (1+v))) (by simp[-bt,im,P.f71,fP,q3]) ?_;have ok:=zP (v:=1+v) hp (by omega);have eF:fN (1+v) p=(List.range p).filter λn=>decide ((1+v) / (([1,2,4,8,16,32]:al).getD n 1) % 2=1):=rfl;generalize fN (1+v) p=F at ok eF;have cc:be (compF G (run G (n+1)) [none,none,some (.int (1+v))] (.one 1) [(.op .eq [(.op .mod [(.op .fdiv [(.var 2),(.op .ix [(.op .lst [(.cst (.int (1))),(.cst (.int (2))),(.cst (.int (4))),(.cst (.int (8))),(.cst (.int (16))),(.cst (.int (32)))]),(.var 1)])]),(.cst (.int (2)))]),(.cst (.int (1)))])] (.var 1)) ((List.range p).map λ(n:Nat)=>D.int n)=.ok (F.map λ(n:Nat)=>((0:Nat),D.int n)):=by
     rw[eF];refine FQ λi hi=>?_;obtain⟨y,ey,hy,h3,ix⟩:=Ej (i:=i) (by have:=G1.mp hi; omega);rw[ey];have hy':¬y=0:=by omega
     simp[-bt,compF,ix,D.eq,hy,hy',h3]; split <;> rfl
    have hj:bi (F.map λ(n:Nat)=>((0:Nat),D.int n))=98:=sY λx hx=>by
     obtain⟨c,_,rfl⟩:=fH hx;simp
    clear eF;refine Ou.set (x:=(99,.lst (F.map λ(n:Nat)=>D.int n))) (by simp[wk_rng1 hpS,hpS,cc,hj,Function.comp_def]) ?_;obtain⟨c1,ec,oc⟩:∃c1:al,F.map (λ(n:Nat)=>D.int n)=c1.map .int/\OkC p c1:=⟨F.map λ(n:Nat)=>(n:Int),by simp,ok⟩
    rw[ec];clear ec cc hj ok;have fin:∀(c2:al) (a:Fr),a=[some (0,.lst (ns.map .int)),some (0,.int p),some (1,aZ cs),some (0,.int s),some (0,.int c),some (0,.int (1+v)),some (0,.lst (c2.map .int))]->OkC p c2->Ou G (run G (n+1)) [] a [.mut 2 [] .append [(.var 6)]] (λa=>∃(x3 x4 x5 x6:aA) (cs:ac) (suf':ak),a=[some (0,.lst (ns.map .int)),some (0,.int p),some (1,aZ cs),x3,x4,x5,x6]/\suf.map (λ(n:Nat)=>D.int n)=suf'.map (λ(n:Nat)=>D.int n)/\cs.length+suf'.length<=6/\∀c∈cs,OkC p c) (λd=>∃cs,d=aZ cs/\cs.length<=6/\∀c∈cs,OkC p c) λ_ _ _=>False:=by
     intro c2 a ea o2;subst ea;have hl6:cs.length<SL:=by
      have:7<=SL:=by decide
      omega
     refine Ou.append (k:=0) (xs:=cs.map λc=>.lst (c.map .int)) (v:=(0,.lst (c2.map .int))) (by simp[aZ,frz,frz1]) (by simp) (by simpa using hl6) ?_;refine Ou.nil ⟨some (0,.int s),some (0,.int c),some (0,.int (1+v)),some (0,.lst (c2.map .int)),cs++[c2],suf,by simp[aZ,frz,frz1],rfl,by simp; omega,?_⟩;intro c hc;rcases dN hc with h | h
     .exact hok c h
     .rw[Gx.mp h]; exact o2
    obtain⟨v4,j4,q4,h40,h41⟩:=iy P n 0 99 99 c 2 2 (by decide) (by decide);by_cases h:v4=1
    .subst h;have hlen:(0:Int)<c1.length:=by
      have:=oc.ne;have:=List.length_pos_iff.mpr this;omega
     obtain⟨v5,j5,q5,h50,h51⟩:=iy P n 0 99 99 c 3 c1.length hlen (by decide);obtain⟨u,rfl⟩:∃u:Nat,v5=(u:Int):=⟨v5.toNat,by omega⟩
     have hu:u<c1.length:=by omega
     have ct:=Bt (xs:=c1.map D.int) (v:=u) (by simpa using hu);refine Ou.iffT (j:=99) (by simp[P.f71,fP,q4,D.eq]) ?_;refine Ou.set (x:=(1,.lst ([c1[u]].map .int))) (by simp[P.f71,fP,q5,ct]) ?_;refine Ou.nil ?_;exact fin _ _ (by simp) (AU hp.2 oc (GV hu))
    .refine Ou.iffN (j:=99) (by simp[P.f71,fP,q4,D.eq,h]) ?_;exact fin _ _ (by simp) oc
  .rintro a ⟨x3,x4,x5,x6,cs,suf,ha,hr,hl,hok⟩;subst ha;exact Ou.ret (x:=(0,aZ cs)) (by simp) ⟨cs,rfl,by omega,hok⟩
 obtain⟨j,d,e,cs,rfl,h1,h2⟩:=Ou.run (n:=n+1) (vs:=[(k,.lst (ns.map .int)),(k',.int p)]) (V:=λd=>∃cs,d=aZ cs/\cs.length<=6/\∀c∈cs,OkC p c) P.f99 rfl rfl (key.mono (λ_ h=>h.elim) (λ_ h=>h) λ_ _ _ h=>h);exact⟨j,cs,e,h1,h2⟩
end Ip
end
section
namespace Ip
open PySem (Str)
noncomputable def covA (cs:ac)(g:Nat):al:=cs.getD g []
noncomputable def cn (cs:ac)(j:Nat)(gs:ak):ak:=gs.filter λg=>decide ((j:Int)∈covA cs g)
noncomputable def jO (cs:ac)(a b:Nat):Bool:=(covA cs a).any λpl=>decide (pl∈covA cs b)
structure Sm (cs:ac)(R os:ak):Prop where
 pm:R.Perm os
 fl:∀j,cn cs j R=cn cs j os
theorem Sm.symm {cs:ac}{R os:ak}(h:Sm cs R os):Sm cs os R:=⟨h.pm.symm,λj=>(h.fl j).symm⟩
theorem Sm.trans {cs:ac}{A B C:ak}(h:Sm cs A B)(k:Sm cs B C):Sm cs A C:=⟨h.pm.trans k.pm,λj=>(h.fl j).trans (k.fl j)⟩
def BG (cs:ac)(j:Nat)(A B:ak):cn cs j (A++B)=cn cs j A++cn cs j B:=by simp[cn]
def CN (cs:ac)(j g:Nat)(B:ak):cn cs j (g::B)=if (j:Int)∈covA cs g then g::cn cs j B else cn cs j B:=by
 simp only[cn,List.filter_cons,GR]
inductive Exg:Nat->ak->ak->ak->Prop
 | nil {k:Nat}:Exg k [] [] []
 | cons {k g:Nat} {R1 R2 os es:ak} (hg:g∉R1) (h:Exg (k+1) (R1++R2) os es):Exg k (R1++g::R2) (g::os) (((List.range R1.length).map λn=>k+R1.length - 1 - n)++es)
theorem uD:∀{os:ak} {R:ak} (k:Nat),R.Perm os->os.Nodup->∃es,Exg k R os es
 | [],R,k,h,_=>by
  obtain rfl:=h.eq_nil;exact⟨[],.nil⟩
 | g::os,R,k,h,hn=>by
  obtain⟨R1,R2,e⟩:=List.append_of_mem (h.mem_iff.mpr (bZ (a:=g)));subst e;have hr:(R1++g::R2).Nodup:=h.nodup_iff.mpr hn;have hg:g∉R1:=λz=>(GP.mp hr).2.2 g z g (by simp) rfl;have hp:(R1++R2).Perm os:=List.Perm.cons_inv ((IJ.symm).trans h);obtain⟨es,he⟩:=uD (k+1) hp (GN.mp hn).2;exact⟨_,.cons hg he⟩
def Exg.perm {k:Nat}{R os es:ak}(h:Exg k R os es):R.Perm os:=by
 induction h with
 | nil=>exact .refl _
 | cons hg h ih=>exact IJ.trans (ih.cons _)
def sr {g x:Nat}{os:ak}(h:x≠g):(g::os).idxOf x=os.idxOf x+1:=by
 have:(g == x)=false:=Hf.mpr (HV h);rw[List.idxOf_cons,this]; rfl
def RelF.of_eq {a b:Fr}(h:a=b):RelF a b:=h ▸ .refl a
section
variable {G:Pg}{cl:Nat->ax->Run}{io:ak}{a:Fr}{ss:az}{N:Fr->Prop}{V:D->Prop}{X:Nat->List aK->Fr->Prop}
def Ou.setD {i j:Nat}{e:Ex}{x:KD}(h:eval G cl a.sl e=.ok x)(hj:j<=x.1)(k:Ou G cl io ((frz e.names a).set i (some (j,x.2))) ss N V X)(hi:(!io.contains i&&Nat.blt i a.length)=true:=by rfl):Ou G cl io a (.set i e::ss) N V X:=
 .step λA r=>by
  obtain⟨hio,hi⟩:=okI hi;have l:(settle e.names A x).length=a.length:=by
   rw[<-r.len];have:=(r.settle e.names x).len;rw[this,<-(RelF.low e.names a).len,r.len]
  simp only[kC,r.sl,h,R.toO,ck,hio,l,hi,and_self,if_true];exact⟨_,(r.settle e.names x).set (x:=some x) (y:=some (j,x.2)) ⟨rfl,hj⟩ i,k⟩
theorem Ou.insert {x k j jj:Nat}{e:Ex}{xs:ay}{d:D}{n:Int}(hx:a[x]? = some (some (k+1,.lst xs)))(he:eval G cl a.sl e=.ok (jj,.int n))(hd:a.sl[j]? = some (some d))(hs:d.flat=true)(hn:0<=n/\n.toNat<=xs.length)(hl:xs.length<SL)
  (h:Ou G cl io (a.set x (some (1,.lst (xs.take n.toNat++d::xs.drop n.toNat)))) ss N V X):Ou G cl io a (.mut x [] .insert [e,.var j]::ss) N V X:=
 .step λA r=>by
  obtain⟨k',hA⟩:=r.own hx;have e1:cz A[x]? = true:=by rw[hA]; rfl
  have e2:([(jj,D.int n),(0,d)]:ax).all (λv=>v.2.fb v.1)=true:=by simp only[List.all_cons,List.all_nil,Bool.and_true,tw]; exact⟨su jj n,hs⟩
  have c:0<=n/\n.toNat<=xs.length/\xs.length<SL:=⟨hn.1,hn.2,hl⟩
  simp only[iz,e1,if_true,dk,bL,gM,r.sl,he,hd,R.bind,R.toO,dS,e2,hA,d7,rX,if_pos c];exact⟨_,r.set (.refl _) x,h⟩
theorem Ou.remove {x k p jj:Nat}{e:Ex}{xs:ay}{n:Int}(hx:a[x]? = some (some (k+1,.lst xs)))(he:eval G cl a.sl e=.ok (jj,.int n))(hs:xs.all D.isI=true)(hf:D.find (.int n) xs=some p)
  (h:Ou G cl io (a.set x (some (1,.lst (xs.eraseIdx p)))) ss N V X):Ou G cl io a (.mut x [] .remove [e]::ss) N V X:=
 .step λA r=>by
  obtain⟨k',hA⟩:=r.own hx;have e1:cz A[x]? = true:=by rw[hA]; rfl
  have e2:([(jj,D.int n)]:ax).all (λv=>v.2.fb v.1)=true:=by simp only[List.all_cons,List.all_nil,Bool.and_true]; exact su jj n
  simp only[iz,e1,if_true,dk,bL,r.sl,he,R.bind,R.toO,dS,e2,hA,d7,vm,if_pos hs,hf];exact⟨_,r.set (.refl _) x,h⟩
theorem vO:∀(ss ts:az) (A:Fr),execs G cl io A (ss++ts)=(execs G cl io A ss).seq λA=>execs G cl io A ts
 | [],ts,A=>by simp[O.seq]
 | s::ss,ts,A=>by
  rw[List.cons_append,md,md];cases exec G cl io A s with
  | nx A1=>exact vO ss ts A1
  | _=>rfl
end
def Ou.runV {G:Pg}{n f i:Nat}{F:Fn}{vs:ax}{init:az}{P:D->Prop}(hf:G.fn f=some F)(hn:vs.length=F.np)(hio:F.io=[])(hb:F.body=init++[.ret (.var i)])
  (h:Ou G (Ip.run G n) [] (bW F vs) init (λa=>∃k d,a[i]? = some (some (k+1,d))/\P d) (λ_=>False) λ_ _ _=>False):∃k d,Ip.run G (n+1) f vs=.ret k d []/\1<=k/\P d:=by
 rw[Ip.run,hf];simp only[hn,if_true,hio];rw[hb,vO];have:=h _ (.refl _);revert this
 cases execs G (Ip.run G n) [] (bW F vs) init with
 | nx A=>
  rintro⟨a,r,k,d,h1,h2⟩;obtain⟨k',hA⟩:=r.own h1;refine⟨k'+1,d,?_,by omega,h2⟩;simp[O.seq,hA,md,ou,fin]
 | ret k d A=>exact False.elim
 | exc c fs A=>exact λ⟨_,_,h⟩=>h.elim
 | _=>exact False.elim
def Cs {k l o:Nat}{i j:Int}(hi : -1000000<=i/\i<=1000000)(hj : -1000000<=j/\j<=1000000):dJ .rngD [(k,.int i),(l,.int j),(o,.int (-1))]=some ((List.range (i - j).toNat).map λ(n:Nat)=>.int (i - n)):=by
 have h1:cZ i=true:=fQ.mpr (by omega);have h2:cZ j=true:=fQ.mpr (by omega);show (if cZ i=true/\cZ j=true/\(-1:Int) = -1 then _ else none)=_;rw[if_pos ⟨h1,h2,rfl⟩]
structure Pj (G:Pg):Prop where
 v:Pv G
 d:Pd G
 f30:G.fn 30=some iB
 f31:G.fn 31=some mi
 f33:G.fn 33=some jl
 f73:G.fn 73=some kD
 f91:G.fn 91=some oX
 f69:G.fn 69=some nS
noncomputable def aP (cs:ac)(p:Nat)(gs:ak):af:=(List.range p).map λj=>cn cs j gs
def pd {cs:ac}{p:Nat}{gs:ak}{g:Nat}(h:g∈(aP cs p gs).flatten):g∈gs:=by
 obtain⟨r,hr,hg⟩:=List.mem_flatten.mp h;obtain⟨j,_,rfl⟩:=fH hr;exact (Hn.mp hg).1
def td {cs:ac}{gs:ak}:∀p:Nat,(aP cs p gs).flatten.length<=p * gs.length:=λp=>by
 have:∀l:ak,(l.map λj=>cn cs j gs).flatten.length<=l.length * gs.length:=by
  intro l;induction l with
  | nil=>simp
  | cons x l ih=>
   have h1:(cn cs x gs).length<=gs.length:=Iw _ _;rw[GB,List.flatten_cons,GJ,List.length_cons,Nat.add_mul,Nat.one_mul];omega
 simpa[aP] using this (List.range p)
def wJ {cs:ac}{p:Nat}{gs:ak}{g:Nat}{c:al}(hc:cs[g]? = some c)(ok:OkC p c):gq c g (aP cs p gs)=aP cs p (gs++[g]):=by
 have hl:(aP cs p gs).length=p:=by simp[aP]
 have e0:covA cs g=c:=by simp[covA,hc]
 rw[yS,D3 ok.nd λi hi=>by rw[hl]; exact ok.rg i hi];refine HG λj=>?_;rw[HD];unfold aP;rw[GK,GK];by_cases hj:j<p
 .rw[JD hj];have e1:cn cs j []=[]:=rfl;simp only[Option.map_some,BG,CN,e0,e1];by_cases h:(j:Int)∈c
  .rw[if_pos h,if_pos h]
  .rw[if_neg h,if_neg h,HJ]
 .rw[Hu (by simp; omega)];rfl
def gP {gs:ak}{m:Nat}(h1:gs.Nodup)(h2:∀g∈gs,g<m):gs.length<=m:=by
 induction m generalizing gs with
 | zero=>
  cases gs with
  | nil=>exact bI _
  | cons x r=>exact absurd (h2 x bZ) (by omega)
 | succ m ih=>
  have:=ih (h1.erase m) λx hx=>by
   have:=(h1.mem_erase_iff).mp hx;have:=h2 x this.2;omega
  rw[List.length_erase] at this;split at this <;> omega
theorem wx {g:Nat}:∀{os:ak},g∈os->D.find (.int g) (aL os)=some (os.idxOf g)
 | [],h=>by cases h
 | x::os,h=>by
  have e0:D.find (.int g) (aL (x::os))=if (D.int (Int.ofNat x)).eq (.int g) then some 0 else (D.find (.int g) (aL os)).map (·+1):=by
   unfold D.find aL;rw[GB,IV]
  rw[e0];by_cases hx:x=g
  .subst hx;simp[D.eq]
  .have h1:¬(x:Int)=(g:Int):=by omega
   have h2:=wx (os:=os) ((cH h).resolve_left λe=>hx e.symm);have h3:(x == g)=false:=Hf.mpr hx;rw[h2,List.idxOf_cons,h3];simp[D.eq,h1]
def Es (gs:ak):(aL gs).all D.isI=true:=by simp[aL,D.isI]
def xv (A B:ak):aL (A++B)=aL A++aL B:=by simp[aL]
variable {G:Pg}(P:Pj G)
include P
def jZ (n k k':Nat)(p:Nat)(cs:ac)(gs:ak)(hp:p<=6)(hm:cs.length<=6)(ok:∀c∈cs,OkC p c)(hn:gs.Nodup)(hg:∀g∈gs,g<cs.length):∃j,run G (n+7) 30 [(k,wd p cs),(k',.lst (aL gs))]=.ret j (bE (aP cs p gs)) []:=by
 have hl:gs.length<=6:=ce (gP hn hg) hm;have h6:6<=SL:=by decide
 obtain⟨jb,qb⟩:=uo P.v (n+4) 0 p cs hp;have e0:List.replicate p ([]:ak)=aP cs p []:=by
  unfold aP cn;exact (Jq.mpr ⟨by simp,by simp⟩).symm
 rw[e0] at qb;have key:Ou G (run G (n+6)) [] [some (0,wd p cs),some (0,.lst (aL gs)),none,none] iB.body (λ_=>False) (λd=>d=bE (aP cs p gs)) λ_ _ _=>False:=by
  refine Ou.set (x:=(jb,bE (aP cs p []))) (by simp[P.v.f23,nA,qb]) ?_;refine Ou.fo (λr a=>∃(x3:aA) (pre suf:ak),a=[some (0,wd p cs),some (0,.lst (aL gs)),some (0,bE (aP cs p pre)),x3]/\r=aL suf/\pre++suf=gs) (vs:=[(0,.lst (aL gs))]) (xs:=aL gs) (by simp) (by simp) (by rw[gz]; omega) ⟨none,[],gs,by simp,rfl,rfl⟩ ?_ ?_
  .rintro x r a ⟨x3,pre,suf,ha,hr,he⟩;cases suf with
   | nil=>simp[aL] at hr
   | cons g suf=>
    simp only[aL,GB,Hb] at hr;obtain⟨rfl,rfl⟩:=hr;subst ha;have hgm:g∈gs:=by rw[<-he]; simp
    have hgl:=hg g hgm;have hc:=GM hgl;generalize cs[g]=c at hc;have okc:=ok c (HC hc);have hrl:(aP cs p pre).length=p:=by simp[aP]
    have hpl:pre.length<=6:=by
     have:=congrArg List.length he;simp at this;omega
    have hfl:=td (cs:=cs) (gs:=pre) p;have hfl2:p * pre.length<=6 * 6:=Nat.mul_le_mul hp hpl;have hgp:g∉pre:=λz=>by
     rw[<-he] at hn;exact (GP.mp hn).2.2 g z g (by simp) rfl
    obtain⟨j1,q1⟩:=xI P.v n 0 0 0 p cs (aP cs p pre) g c hc (λi hi=>by rw[hrl]; exact okc.rg i hi) (by omega) okc.ln (by omega) (λx hx=>by have:=hg x (by rw[<-he]; exact fj _ (pd hx)); omega) (by omega) (λz=>hgp (pd z));rw[wJ hc okc] at q1;refine⟨_,iq rfl,?_⟩;refine Ou.set (x:=(j1,bE (aP cs p (pre++[g])))) (by simp[P.v.f25,iY,q1]) ?_;exact Ou.nil ⟨some (0,.int g),pre++[g],suf,by simp,rfl,by simpa using he⟩
  .rintro a ⟨x3,pre,suf,ha,hr,he⟩;have:suf=[]:=by simpa[aL] using hr.symm
   subst this ha;rw[HJ] at he;subst he;exact Ou.ret (x:=(0,bE (aP cs p pre))) (by simp) rfl
 obtain⟨j,d,e,rfl⟩:=Ou.run (n:=n+6) (vs:=[(k,wd p cs),(k',.lst (aL gs))]) (V:=λd=>d=bE (aP cs p gs)) P.f30 rfl rfl (key.mono (λ_ h=>h.elim) (λ_ h=>h) λ_ _ _ h=>h);exact⟨j,e⟩
end Ip
end
section
namespace Ip
open PySem (Str)
noncomputable def cO:Nat->ak->ay
 | _,[]=>[]
 | k,g::os=>.tup [.int (k:Nat),.int (g:Nat)]::cO (k+1) os
theorem vX:∀(os:ak) (k:Nat),(aL os).mapIdx (λn d=>D.tup [.int ((k+n:Nat):Int),d])=cO k os
 | [],_=>rfl
 | g::os,k=>by
  have e:aL (g::os)=.int (g:Nat)::aL os:=rfl;rw[e,List.mapIdx_cons,cO,<-vX os (k+1)];congr 1
  refine congrArg (λf=>List.mapIdx f (aL os)) (funext λn=>funext λd=>?_);have:k+(n+1)=k+1+n:=by omega
  rw[this]
def zk (os:ak):dJ .enum [(0,.lst (aL os))]=some (cO 0 os):=by
 rw[<-vX os 0];simp
def Bi (os:ak):∀k,(cO k os).length=os.length:=by
 induction os with
 | nil=>intro k; rfl
 | cons g os ih=>intro k; simp[cO,ih]
def EW {k:Nat}{R os es:ak}(h:Exg k R os es):R.length<=6->es.length<=6 * R.length:=by
 induction h with
 | nil=>intro _; simp
 | @cons k g R1 R2 os es hg h ih=>
  intro hl;simp only[GJ,List.length_cons,GA,List.length_range] at hl ih ⊢;have:=ih (by omega);omega
theorem xm {g:Nat}:∀{A B:ak},g∉A->(A++g::B).idxOf g=A.length
 | [],B,_=>by simp
 | x::A,B,h=>by
  have hx:(x == g)=false:=Hf.mpr λe=>h (by rw[e]; exact bZ);rw[List.cons_append,List.idxOf_cons,hx,xm λz=>h (Hk _ z)];rfl
def Bf (A B:ak)(g:Nat):(aL (A++g::B)).eraseIdx A.length=aL (A++B):=by
 have e:aL (A++g::B)=aL A++(.int (g:Nat)::aL B):=by simp[aL]
 rw[e,<-gz A,List.eraseIdx_append_of_length_le (Nat.le_refl _),Nat.sub_self,List.eraseIdx_cons_zero,xv]
variable {G:Pg}(P:Pj G)
include P
set_option maxHeartbeats 1000000 in
def zl (n k k':Nat)(R os es:ak)(hE:Exg 0 R os es)(hn:R.Nodup)(hl:R.length<=6):∃j,run G (n+1) 31 [(k,.lst (aL R)),(k',.lst (aL os))]=.ret j (.lst (aL es)) []/\1<=j:=by
 have h100:100<=SL:=by decide
 have hes:=EW hE hl;have hol:os.length<=6:=by rw[<-hE.perm.length_eq]; exact hl
 obtain⟨j,d,e,hj,rfl⟩:=Ou.runV (G:=G) (n:=n) (f:=31) (i:=2) (F:=mi) (vs:=[(k,.lst (aL R)),(k',.lst (aL os))]) (init:=mi.body.dropLast) (P:=λd=>d=.lst (aL es)) P.f31 rfl rfl rfl (by
  show Ou G (run G n) [] [some (0,.lst (aL R)),some (0,.lst (aL os)),none,none,none,none,none] _ _ _ _;refine Ou.setK (x:=(99,.lst [])) (by simp) (by simp) ?_;refine Ou.setK (x:=(1,.lst (aL R))) (by simp) (by simp[aL]) ?_;refine Ou.low (a':=[some (0,.lst (aL R)),some (0,.lst (aL os)),some (99,.lst []),some (1,.lst (aL R)),none,none,none]) (.of_eq (by simp)) ?_;refine Ou.low (a':=[some (0,.lst (aL R)),some (0,.lst (aL os)),some (1,.lst (aL [])),some (1,.lst (aL R)),none,none,none]) (.cons (.refl _) (.cons (.refl _) (.cons ⟨rfl,by decide⟩ (.refl _)))) ?_;refine Ou.fo (λr a=>∃(x4 x5 x6:aA) (gl:Nat) (E Z0 Q oo ee:ak),a=[some (0,.lst (aL R)),some (0,.lst (aL os)),some (1,.lst (aL E)),some (1,.lst (aL (Z0++Q))),x4,x5,x6]/\r=cO gl oo/\Exg gl Q oo ee/\E++ee=es/\Z0.length=gl/\(Z0++Q).Nodup/\(Z0++Q).length<=6) (vs:=[(0,.lst (aL os))]) (xs:=cO 0 os) (by simp) (zk os) (by rw[Bi]; omega) ⟨none,none,none,0,[],[],R,os,es,by simp,rfl,hE,rfl,rfl,hn,hl⟩ ?_ ?_
  .rintro x r a ⟨x4,x5,x6,gl,E,Z0,Q,oo,ee,ha,hr,hX,he,hD,hnd,hq6⟩;cases hX with
   | nil=>simp[cO] at hr
   | @cons _ g R1 R2 oo ee hg hX=>
    simp only[cO,Hb] at hr;obtain⟨rfl,rfl⟩:=hr;subst ha;have hgD:g∉Z0++R1:=λz=>by
     have e0:Z0++(R1++g::R2)=(Z0++R1)++g::R2:=by simp
     rw[e0] at hnd;exact (GP.mp hnd).2.2 g z g (by simp) rfl
    have e0:Z0++(R1++g::R2)=(Z0++R1)++g::R2:=by simp
    have fd:D.find (.int g) (aL (Z0++(R1++g::R2)))=some (gl+R1.length):=by
     rw[e0,wx (by simp),xm hgD,GJ,hD]
    have ixe:dI (.lst (aL (Z0++(R1++g::R2)))) (.int g)=some (99,.int ((gl+R1.length:Nat):Int)):=by
     have sc:=rh (Z0++(R1++g::R2));rw[qg,fd];simp[-List.all_eq_true,sc]
    have er:(aL (Z0++(R1++g::R2))).eraseIdx (gl+R1.length)=aL (Z0++(R1++R2)):=by
     have:=Bf (Z0++R1) R2 g;rw[GJ,hD] at this;rw[e0,this];simp
    have q6:Z0.length+(R1.length+(R2.length+1))<=6:=by simpa using hq6
    have ll:(aL (Z0++(R1++g::R2))).length=Z0.length+(R1.length+(R2.length+1)):=by rw[gz]; simp
    have isI:=Es (Z0++(R1++g::R2));generalize aL (Z0++(R1++g::R2))=L at fd ixe er ll isI;refine⟨_,p0 rfl,?_⟩;refine Ou.low (a':=[some (0,.lst (aL R)),some (0,.lst (aL os)),some (1,.lst (aL E)),some (1,.lst L),some (0,.int (gl:Nat)),some (0,.int (g:Nat)),x6]) (.of_eq (by simp[cY])) ?_;have dn:(List.range (((gl+R1.length:Nat):Int) - 1 - ((gl:Int) - 1)).toNat).map (λ(n:Nat)=>D.int (((gl+R1.length:Nat):Int) - 1 - n))=aL ((List.range R1.length).map λn=>gl+R1.length - 1 - n):=by
     have e1:(((gl+R1.length:Nat):Int) - 1 - ((gl:Int) - 1)).toNat=R1.length:=by omega
     rw[e1,aL,HZ];refine H0 λi hi=>?_;have:=G1.mp hi;simp only[Function.comp,D.int.injEq];show _=((gl+R1.length - 1 - i:Nat):Int);omega
    have hdl:((List.range R1.length).map λn=>gl+R1.length - 1 - n).length=R1.length:=by simp
    have hee:E.length+(R1.length+ee.length)<=36:=by
     have:=congrArg List.length he;simp only[GJ,hdl] at this;omega
    generalize ((List.range R1.length).map λn=>gl+R1.length - 1 - n)=dl at dn hdl he;refine Ou.fo (λr a=>∃(x6:aA) (E' suf:ak),a=[some (0,.lst (aL R)),some (0,.lst (aL os)),some (1,.lst (aL E')),some (1,.lst L),some (0,.int (gl:Nat)),some (0,.int (g:Nat)),x6]/\r=aL suf/\E'++suf=E++dl) (vs:=[(99,.int (((gl+R1.length:Nat):Int) - 1)),(99,.int ((gl:Int) - 1)),(99,.int (-1))]) (xs:=aL dl) ?_ ?_ ?_ ?_ ?_ ?_
    .simp[-qg,ixe]
    .rw[Cs (by omega) (by omega),dn]
    .rw[gz]; omega
    .exact⟨x6,E,dl,by simp,rfl,rfl⟩
    .rintro x r a ⟨x6,E',suf,ha,hr,hs⟩;cases suf with
     | nil=>simp[aL] at hr
     | cons y suf=>
      simp only[aL,GB,Hb] at hr;obtain⟨rfl,rfl⟩:=hr;subst ha;have hE':E'.length<100:=by
       have:=congrArg List.length hs;simp at this;omega
      refine⟨_,iq rfl,?_⟩;refine Ou.append (k:=0) (xs:=aL E') (v:=(0,.int (y:Nat))) (by simp[frz,frz1]) (by simp) (by rw[gz]; omega) ?_;exact Ou.nil ⟨some (0,.int (y:Nat)),E'++[y],suf,by simp[frz,frz1,aL],rfl,by simpa using hs⟩
    .rintro a ⟨x6,E',suf,ha,hr,hs⟩;have:suf=[]:=by simpa[aL] using hr.symm
     subst this ha;rw[HJ] at hs;subst hs;refine Ou.remove (k:=0) (p:=gl+R1.length) (jj:=0) (n:=(g:Nat)) (xs:=L) (by simp) (by simp) isI fd ?_;rw[er];refine Ou.insert (k:=0) (jj:=0) (d:=.int (g:Nat)) (n:=(gl:Nat)) (xs:=aL (Z0++(R1++R2))) (by simp) (by simp) (by simp) rfl ⟨by omega,?_⟩ ?_ ?_
     .rw[gz]; simp; omega
     .rw[gz]; simp; omega
     have nw:(aL (Z0++(R1++R2))).take (Int.toNat (gl:Nat))++D.int (g:Nat)::(aL (Z0++(R1++R2))).drop (Int.toNat (gl:Nat))=aL ((Z0++[g])++(R1++R2)):=by
      rw[xv Z0,Int.toNat_natCast];have hDl:(aL Z0).length=gl:=by rw[gz]; exact hD
      rw[List.take_append_of_le_length (by omega),List.drop_append_of_le_length (by omega),Il (by omega),Io (by omega)];simp[aL]
     rw[nw];refine Ou.nil ⟨some (0,.int (gl:Nat)),some (0,.int (g:Nat)),x6,gl+1,E++dl,Z0++[g],R1++R2,oo,ee,by simp,rfl,hX,by simpa using he,by simp[hD],?_,?_⟩
     .have:(Z0++(R1++g::R2)).Perm (Z0++[g]++(R1++R2)):=by
       rw[Jh];exact List.Perm.append_left Z0 IJ
      exact this.nodup_iff.mp hnd
     .simp; omega
  .rintro a ⟨x4,x5,x6,gl,E,Z0,Q,oo,ee,ha,hr,hX,he,hD,hnd,hq6⟩;cases hX with
   | nil=>
    subst ha;rw[HJ] at he;subst he;exact Ou.nil ⟨0,_,by simp,rfl⟩
   | cons=>simp[cO] at hr)
 exact⟨j,e,hj⟩
end Ip
end
section
namespace Ip
open PySem (Str)
theorem uW:∀ns:ak,D.eqs (aL ns) (aL ns)=true
 | []=>by simp[aL,D.eqs]
 | n::ns=>by
  show D.eqs (.int _::aL ns) (.int _::aL ns)=true;simp[D.eqs,D.eq,uW ns]
def E6 (rows:af):(bE rows).eq (bE rows)=true:=by
 have:∀rows:af,D.eqs (rows.map bn) (rows.map bn)=true:=by
  intro rows;induction rows with
  | nil=>simp[D.eqs]
  | cons r rows ih=>simp[D.eqs,ih,bn,D.eq,uW]
 simp only[bE,D.eq];exact this rows
def nR (rows:af):(bE rows).pur 60=true:=by
 simp[bE,bn,aL]
def mY {xs ys:ay}(h:xs.length+ys.length<=1000):dH (.lst xs) (.lst ys)=some (1,.lst (xs++ys)):=by
 have:xs.length+ys.length<=SL:=ce h (by decide);simp only[dH];rw[if_pos this]
def xZ {A B:ak}{a:Nat}:bt (.lst (aL (A++a::B))) (.int (A.length:Nat))=some (0,.int (a:Nat)):=by
 have h1:A.length<(aL (A++a::B)).length:=by rw[gz]; simp
 have h2:((A.length:Nat):Int)<((aL (A++a::B)).length:Nat):=by omega
 have e:(aL (A++a::B))[A.length]? = some (.int (a:Nat)):=by simp[aL]
 simp only[bt,D.seq,dR,IW,if_true,h2,Int.toNat_natCast,Option.bind_some,e]
variable {G:Pg}(P:Pj G)
include P
def xT (n k k1 k2:Nat)(p:Nat)(cs:ac)(one other es:ak)(hp:p<=6)(hm:cs.length<=6)(ok:∀c∈cs,OkC p c)(hn:one.Nodup)(hg:∀g∈one,g<cs.length)(hs:Sm cs one other)(hE:Exg 0 one other es) :
  ∃j,run G (n+8) 33 [(k,wd p cs),(k1,.lst (aL one)),(k2,.lst (aL other))]=.ret j (.tup [.str "same",.lst (aL es)]) []/\2<=j:=by
 have hn2:other.Nodup:=hs.pm.nodup_iff.mp hn;have hg2:∀g∈other,g<cs.length:=λg h=>hg g (hs.pm.mem_iff.mpr h);obtain⟨j1,q1⟩:=jZ P n 0 0 p cs one hp hm ok hn hg;obtain⟨j2,q2⟩:=jZ P n 0 0 p cs other hp hm ok hn2 hg2;obtain⟨j3,q3,h3⟩:=zl P (n+6) 0 0 one other es hE hn (ce (gP hn hg) hm);have er:aP cs p other=aP cs p one:=H0 λj _=>(hs.fl j).symm;rw[er] at q2;have e1:=E6 (aP cs p one);have e2:=nR (aP cs p one);generalize bE (aP cs p one)=W at q1 q2 e1 e2;have jk:bi [(99,.str "same"),(j3,.lst (aL es))]=j3:=by simp[bi,br]
 refine⟨bi [(99,.str "same"),(j3,.lst (aL es))]+1,?_,by rw[jk]; omega⟩;rw[run,P.f33];simp[jl,P.f30,iB,q1,q2,e1,e2,P.f31,mi,q3]
end Ip
end
section
namespace Ip
open PySem (Str)
variable {G:Pg}(P:Pj G)
include P
def vi (n k k1 k2 s0:Nat)(ns:al)(cs:ac)(hm:cs.length<=6):∃j gs,run G (n+2) 91 [(k,.lst (ns.map .int)),(k1,.int (s0:Nat)),(k2,aZ cs)]=.ret j (.lst (aL gs)) []/\gs.Nodup/\∀g∈gs,g<cs.length:=by
 have h100:100<=SL:=by decide
 have hS:cs.length<=SL:=by omega
 have hlen:eJ (λxs=>some (99,D.int xs.length)) (aZ cs)=some (99,.int cs.length):=by simp[aZ]
 have key:Ou G (run G (n+1)) [] [some (0,.lst (ns.map .int)),some (0,.int (s0:Nat)),some (0,aZ cs),none,none,none] oX.body (λ_=>False) (λd=>∃gs,d=.lst (aL gs)/\gs.Nodup/\∀g∈gs,g<cs.length) λ_ _ _=>False:=by
  refine Ou.setK (x:=(99,.lst [])) (by simp) (by simp) ?_;refine Ou.low (a':=[some (0,.lst (ns.map .int)),some (0,.int (s0:Nat)),some (0,aZ cs),some (99,.lst []),none,none]) (.of_eq (by simp)) ?_;refine Ou.low (a':=[some (0,.lst (ns.map .int)),some (0,.int (s0:Nat)),some (0,aZ cs),some (1,.lst (aL [])),none,none]) (.cons (.refl _) (.cons (.refl _) (.cons (.refl _) (.cons ⟨rfl,by decide⟩ (.refl _))))) ?_;refine Ou.fo (λr a=>∃(x4 x5:aA) (gs:ak) (i l:Nat),a=[some (0,.lst (ns.map .int)),some (0,.int (s0:Nat)),some (0,aZ cs),some (1,.lst (aL gs)),x4,x5]/\r=(List.range' i l).map (λ(n:Nat)=>D.int n)/\i+l=cs.length/\gs.Nodup/\(∀g∈gs,g<i)) (vs:=[(99,.int cs.length)]) (by generalize aZ cs=Z at hlen; simp[-eJ,hlen]) (wk_rng1 hS) (by simpa using hS) ⟨none,none,[],0,cs.length,by simp,by rw[List.range_eq_range'],by omega,by simp,by simp⟩ ?_ ?_
  .rintro x r a ⟨x4,x5,gs,i,l,ha,hr,hil,hn,hg⟩;cases l with
   | zero=>simp at hr
   | succ l=>
    rw[List.range'_succ,GB,Hb] at hr;obtain⟨rfl,rfl⟩:=hr;subst ha;obtain⟨d2,q2⟩:=ko P.d n 0 99 ns (s0+i);have e2:((s0+i:Nat):Int)=(s0:Int)+(i:Int):=by omega
    rw[e2] at q2;generalize ns.getD (s0+i) 0=c at q2;refine⟨_,iq rfl,?_⟩;refine Ou.set (x:=(d2,.int c)) (by simp[P.d.f98,gR,q2]) ?_;obtain⟨v4,j4,q4,_,_⟩:=iy P.d n 0 99 99 c 4 5 (by decide) (by decide);have hgl:gs.length<=6:=by
     have:=gP hn hg;omega
    by_cases h:0<v4
    .refine Ou.iffT (j:=99) (by simp[P.d.f71,fP,q4,h]) ?_;obtain⟨v5,j5,q5,h50,h51⟩:=iy P.d n 0 99 99 c 5 ((gs.length:Int)+1) (by omega) (by decide);obtain⟨u,rfl⟩:∃u:Nat,v5=(u:Int):=⟨v5.toNat,by omega⟩
     have hu:u<=gs.length:=by omega
     have hin:i∉gs:=λz=>by have:=hg i z; omega
     refine Ou.insert (k:=0) (jj:=j5) (d:=.int (i:Nat)) (n:=(u:Nat)) (xs:=aL gs) (by simp) (by simp[gz,P.d.f71,fP,q5]) (by simp) rfl ⟨by omega,by rw[gz]; simpa using hu⟩ (by rw[gz]; omega) (Ou.nil ?_);refine Ou.nil ⟨some (0,.int (i:Nat)),some (0,.int c),gs.take u++i::gs.drop u,i+1,l,?_,rfl,by omega,?_,?_⟩
     .simp[aL,IS,Ju]
     .have:(i::gs).Perm (gs.take u++i::gs.drop u):=by
       refine List.Perm.trans ?_ IJ.symm;rw[List.take_append_drop]
      exact this.nodup_iff.mp (GN.mpr ⟨hin,hn⟩)
     .intro g hgm;simp only[GU,GL] at hgm;rcases hgm with h | rfl | h
      .have:=hg g (ID h); omega
      .omega
      .have:=hg g (Jv h); omega
    .refine Ou.iffN (j:=99) (by simp[P.d.f71,fP,q4,h]) ?_;exact Ou.nil ⟨some (0,.int (i:Nat)),some (0,.int c),gs,i+1,l,by simp,rfl,by omega,hn,λg h=>by have:=hg g h; omega⟩
  .rintro a ⟨x4,x5,gs,i,l,ha,hr,hil,hn,hg⟩;subst ha;exact Ou.ret (x:=(0,.lst (aL gs))) (by simp) ⟨gs,rfl,hn,λg h=>by have:=hg g h; omega⟩
 obtain⟨j,d,e,gs,rfl,h1,h2⟩:=Ou.run (n:=n+1) (vs:=[(k,.lst (ns.map .int)),(k1,.int (s0:Nat)),(k2,aZ cs)]) (V:=λd=>∃gs,d=.lst (aL gs)/\gs.Nodup/\∀g∈gs,g<cs.length) P.f91 rfl rfl (key.mono (λ_ h=>h.elim) (λ_ h=>h) λ_ _ _ h=>h);exact⟨j,gs,e,h1,h2⟩
end Ip
end
section
namespace Ip
open PySem (Str)
theorem uj:∀a b:ak,D.eqs (aL a) (aL b)=decide (a=b)
 | [],[]=>rfl
 | [],y::b=>by simp[aL,D.eqs]
 | x::a,[]=>by simp[aL,D.eqs]
 | x::a,y::b=>by
  show D.eqs (.int (Int.ofNat x)::aL a) (.int (Int.ofNat y)::aL b)=_;have ih:=uj a b;simp only[D.eqs,D.eq,ih];have hi:(Int.ofNat x=Int.ofNat y)↔x=y:=⟨λh=>Int.ofNat.inj h,λh=>by rw[h]⟩
  simp only[hi];by_cases h1:x=y <;> by_cases h2:a=b <;> simp[h1,h2]
def vN (A B:af):(bE A).eq (bE B)=decide (A=B):=by
 have:∀A B:af,D.eqs (A.map bn) (B.map bn)=decide (A=B):=by
  intro A;induction A with
  | nil=>intro B; cases B <;> simp[D.eqs]
  | cons a A ih=>
   intro B;cases B with
   | nil=>simp[D.eqs]
   | cons b B=>
    simp only[GB,D.eqs,ih B,bn,D.eq,uj];by_cases h1:a=b <;> by_cases h2:A=B <;> simp[h1,h2]
 simp only[bE,D.eq];exact this A B
section
variable {p:Nat}{cs:ac}(ok:∀c∈cs,OkC p c)
include ok
def wt (g:Nat):∀i∈covA cs g,0<=i/\i<p:=λi hi=>by
 unfold covA at hi;rw[IC] at hi;cases e:cs[g]? with
 | none=>rw[e] at hi; cases hi
 | some c=>rw[e] at hi; exact (ok c (HC e)).rg i hi
def v3 {g:Nat}(h:g<cs.length):∃j:Nat,j<p/\(j:Int)∈covA cs g:=by
 have e:covA cs g=cs[g]:=by simp[covA,h]
 have o:=ok cs[g] (GV h);cases q:cs[g] with
 | nil=>exact absurd q o.ne
 | cons i c=>
  have hi:=wt ok g i (by rw[e,q]; exact bZ);exact⟨i.toNat,by omega,by rw[e,q,IP hi.1]; exact bZ⟩
def wc {j:Nat}(h:p<=j)(gs:ak):cn cs j gs=[]:=by
 refine List.filter_eq_nil_iff.mpr λg _=>?_;have:¬(j:Int)∈covA cs g:=λz=>by have:=wt ok g _ z; omega
 simpa using this
def FR {one other:ak}(n1:one.Nodup)(n2:other.Nodup)(g1:∀g∈one,g<cs.length)(g2:∀g∈other,g<cs.length)(h:aP cs p one=aP cs p other):Sm cs one other:=by
 have fl:∀j,cn cs j one=cn cs j other:=λj=>by
  by_cases hj:j<p
  .have:=congrArg (λl=>l[j]?) h;simpa[aP,hj] using this
  .rw[wc ok (by omega),wc ok (by omega)]
 have mem:∀A B:ak,(∀g∈A,g<cs.length)->(∀j,cn cs j A=cn cs j B)->∀g,g∈A->g∈B:=λA B hA hf g hg=>by
  obtain⟨j,_,hj⟩:=v3 ok (hA g hg);have:g∈cn cs j A:=Hn.mpr ⟨hg,HP hj⟩;rw[hf j] at this;exact (Hn.mp this).1
 exact⟨(List.perm_ext_iff_of_nodup n1 n2).mpr λg=>⟨mem one other g1 fl g,mem other one g2 (λj=>(fl j).symm) g⟩,fl⟩
end
def z9 {one other:ak}(h1:∀g∈one,g<6)(h2:∀g∈other,g<6)(h:kE other one=[]):∀g,g∈one↔g∈other:=λg=>by
 have key:g<6->(g∈one↔g∈other):=λhg=>by
  have:=List.filter_eq_nil_iff.mp h g (G1.mpr hg);by_cases a:g∈one <;> by_cases b:g∈other <;> simp[a,b] at this ⊢
 exact⟨λz=>(key (h1 g z)).mp z,λz=>(key (h2 g z)).mpr z⟩
theorem vb:∀{l:ak} {a b:Nat},[a,b].Sublist l->l.Nodup->l.idxOf a<l.idxOf b
 | x::l,a,b,h,hn=>by
  obtain⟨n1,n2⟩:=GN.mp hn;cases h with
  | cons _ h=>
   have ha:a∈l:=h.subset (by simp);have hb:b∈l:=h.subset (by simp);have xa:a≠x:=λe=>n1 (e ▸ ha);have xb:b≠x:=λe=>n1 (e ▸ hb);rw[sr xa,sr xb];have:=vb h n2;omega
  | cons_cons _ h=>
   have hb:b∈l:=h.subset (by simp);have xb:b≠x:=λe=>n1 (e ▸ hb);rw[sr xb];simp
def wP {cs:ac}{j:Nat}{one C R:ak}{a b:Nat}(hn:one.Nodup)(h:cn cs j one=C++a::R)(hb:b∈R):one.idxOf a<one.idxOf b:=by
 refine vb ?_ hn;refine List.Sublist.trans ?_ (List.filter_sublist (p:=λg=>decide ((j:Int)∈covA cs g)));show [a,b].Sublist (cn cs j one);rw[h];exact (List.Sublist.cons_cons a (List.singleton_sublist.mpr hb)).trans (List.sublist_append_right C (a::R))
def Cj {cs:ac}{j:Nat}{one other C R S:ak}{a b:Nat}(n1:one.Nodup)(n2:other.Nodup)(hm:∀g,g∈one↔g∈other)(h1:cn cs j one=C++a::R)(h2:cn cs j other=C++b::S)(hab:a≠b) :
  a∈one/\b∈one/\jO cs a b=true/\one.idxOf a<one.idxOf b/\other.idxOf b<other.idxOf a:=by
 have m1:∀g,g∈cn cs j one↔g∈one/\(j:Int)∈covA cs g:=λg=>by simp[cn]
 have m2:∀g,g∈cn cs j other↔g∈other/\(j:Int)∈covA cs g:=λg=>by simp[cn]
 have mm:∀g,g∈cn cs j one↔g∈cn cs j other:=λg=>by rw[m1,m2,hm]
 have a1:a∈cn cs j one:=by rw[h1]; simp
 have b2:b∈cn cs j other:=by rw[h2]; simp
 have a2:=(mm a).mp a1;have b1:=(mm b).mpr b2;have nf1:(cn cs j one).Nodup:=n1.filter _;have nf2:(cn cs j other).Nodup:=n2.filter _;have aS:a∈S:=by
  rw[h2] at a2;rcases dN a2 with z | z
  .rw[h1] at nf1;exact absurd rfl ((GP.mp nf1).2.2 a z a (by simp))
  .exact (cH z).resolve_left hab
 have bR:b∈R:=by
  rw[h1] at b1;rcases dN b1 with z | z
  .rw[h2] at nf2;exact absurd rfl ((GP.mp nf2).2.2 b z b (by simp))
  .exact (cH z).resolve_left (HV hab)
 exact⟨((m1 a).mp a1).1,((m1 b).mp b1).1,List.any_eq_true.mpr ⟨_,((m1 a).mp a1).2,HP ((m1 b).mp b1).2⟩,wP n1 h1 bR,wP n2 h2 aS⟩
structure Py (G:Pg):Prop where
 j:Pj G
 f32:G.fn 32=some nW
noncomputable def pairD (p:Nat×Nat):D:=.tup [.int (p.1:Nat),.int (p.2:Nat)]
noncomputable def jW (p:List Nat×ak):D:=.tup [bn p.1,bn p.2]
def EG {k k':Nat}(a b:ak):dJ .zip [(k,bn a),(k',bn b)]=some ((a.zip b).map pairD):=by
 show some (((aL a).zip (aL b)).map λp=>D.tup [p.1,p.2])=_;rw[aL,aL,List.zip_map,HZ];rfl
def F9 {k k':Nat}(a b:af):dJ .zip [(k,bE a),(k',bE b)]=some ((a.zip b).map jW):=by
 show some (((a.map bn).zip (b.map bn)).map λp=>D.tup [p.1,p.2])=_;rw[List.zip_map,HZ];rfl
def vq {α β:Type}{s:List α}{t:List β}{γ:Type}{f:α×β->γ}(hl:s.length=t.length)(h:[]=(s.zip t).map f):s=[]/\t=[]:=by
 cases s with
 | nil=>exact⟨rfl,IZ.mp hl.symm⟩
 | cons a s=>
  cases t with
  | nil=>simp at hl
  | cons b t=>simp at h
variable {G:Pg}(P:Py G)
include P
def BE (n k k':Nat)(A B:af)(hl:A.length=B.length)(h6:A.length<=6)(hr:∀p∈A.zip B,p.1.length=p.2.length/\p.1.length<=6)(hne:A≠B) :
  ∃j a b C R S,run G (n+1) 32 [(k,bE A),(k',bE B)]=.ret j (.tup [.int (a:Nat),.int (b:Nat)]) []/\(C++a::R,C++b::S)∈A.zip B/\a≠b:=by
 have hS:6<=SL:=by decide
 have key:Ou G (run G n) [] [some (0,bE A),some (0,bE B),none,none,none,none] nW.body (λ_=>False) (λd=>∃a b C R S,d=.tup [.int (a:Nat),.int (b:Nat)]/\(C++a::R,C++b::S)∈A.zip B/\a≠b) λ_ _ _=>False:=by
  refine Ou.fo (λr a=>∃(x2 x3 x4 x5:aA) (s t:af),a=[some (0,bE A),some (0,bE B),x2,x3,x4,x5]/\r=(s.zip t).map jW/\s.length=t.length/\s≠t/\∀p∈s.zip t,p∈A.zip B) (vs:=[(0,bE A),(0,bE B)]) (by simp) (F9 A B) (by simp; omega) ⟨none,none,none,none,A,B,by simp,rfl,hl,hne,λ_ h=>h⟩ ?_ ?_
  .rintro x r a ⟨x2,x3,x4,x5,s,t,ha,hq,hst,hn,hm⟩;cases s with
   | nil=>simp at hq
   | cons u s=>
    cases t with
    | nil=>simp at hst
    | cons v t=>
     simp only[List.zip_cons_cons,GB,Hb] at hq;obtain⟨rfl,rfl⟩:=hq;subst ha;have huv:=hm (u,v) (by simp);obtain⟨l1,l2⟩:=hr _ huv;have l1':u.length=v.length:=l1;have l2':u.length<=6:=l2;refine⟨_,p0 (ds:=[bn u,bn v]) rfl,?_⟩;refine Ou.low (a':=[some (0,bE A),some (0,bE B),some (0,bn u),some (0,bn v),x4,x5]) (.of_eq (by simp[cY])) ?_;refine Ou.fo (λr a=>∃(x4 x5:aA) (C s' t':ak),a=[some (0,bE A),some (0,bE B),some (0,bn u),some (0,bn v),x4,x5]/\r=(s'.zip t').map pairD/\s'.length=t'.length/\u=C++s'/\v=C++t') (vs:=[(0,bn u),(0,bn v)]) (by simp) (EG u v) (by simp; omega) ⟨x4,x5,[],u,v,by simp,rfl,l1',rfl,rfl⟩ ?_ ?_
     .rintro x r a ⟨x4,x5,C,s',t',ha,hq,hst',hu,hv⟩;cases s' with
      | nil=>simp at hq
      | cons g s'=>
       cases t' with
       | nil=>simp at hst'
       | cons h t'=>
        simp only[List.zip_cons_cons,GB,Hb] at hq;obtain⟨rfl,rfl⟩:=hq;subst ha;refine⟨_,p0 (ds:=[.int (g:Nat),.int (h:Nat)]) rfl,?_⟩;refine Ou.low (a':=[some (0,bE A),some (0,bE B),some (0,bn u),some (0,bn v),some (0,.int (g:Nat)),some (0,.int (h:Nat))]) (.of_eq (by simp[cY])) ?_;by_cases e:g=h
        .subst e;refine Ou.iffN (j:=99) (by simp[D.eq]) ?_;exact Ou.nil ⟨some (0,.int (g:Nat)),some (0,.int (g:Nat)),C++[g],s',t',rfl,rfl,by simpa using hst',by simpa using hu,by simpa using hv⟩
        .have e':¬(g:Int)=(h:Int):=by omega
         refine Ou.iffT (j:=99) (by simp[D.eq,e']) ?_;refine Ou.ret (x:=(99,.tup [.int (g:Nat),.int (h:Nat)])) (by simp) ⟨g,h,C,s',t',rfl,?_,e⟩;rw[<-hu,<-hv];exact huv
     .rintro a ⟨x4,x5,C,s',t',ha,hq,hst',hu,hv⟩;obtain⟨rfl,rfl⟩:=vq hst' hq;subst ha;refine Ou.nil ⟨some (0,bn u),some (0,bn v),x4,x5,s,t,rfl,rfl,by simpa using hst,λe=>hn ?_,λp h=>hm p (by simp[h])⟩;rw[hu,hv,e]
  .rintro a ⟨x2,x3,x4,x5,s,t,ha,hq,hst,hn,hm⟩;obtain⟨rfl,rfl⟩:=vq hst hq;exact absurd rfl hn
 obtain⟨j,d,e,a,b,C,R,S,rfl,h1,h2⟩:=Ou.run (n:=n) (vs:=[(k,bE A),(k',bE B)]) (V:=λd=>∃a b C R S,d=.tup [.int (a:Nat),.int (b:Nat)]/\(C++a::R,C++b::S)∈A.zip B/\a≠b) P.f32 rfl rfl (key.mono (λ_ h=>h.elim) (λ_ h=>h) λ_ _ _ h=>h);exact⟨j,a,b,C,R,S,e,h1,h2⟩
end Ip
end
section
namespace Ip
open PySem (Str)
def xz {one other:ak}(h1:∀g∈one,g<6)(h2:∀g∈other,g<6):fF (.lst (aL one)) (.lst (aL other))=some (1,.lst (aL (kE other one))):=by
 simp only[fF,D.lstO,Option.bind_some,o7 h1,o7 h2,Option.map_some]
def Cq {a b:Nat}{s:Str}:dH (.tup [.str s]) (.tup [.int (a:Nat),.int (b:Nat)])=some (0,.tup [.str s,.int (a:Nat),.int (b:Nat)]):=by
 have:3<=SL:=by decide
 simp only[dH];rw[if_pos (by simpa using this)];rfl
variable {G:Pg}(P:Py G)
include P
section
variable (n k k1 k2:Nat)(p:Nat)(cs:ac)(one other:ak)(hp:p<=6)(hm:cs.length<=6)(ok:∀c∈cs,OkC p c)(n1:one.Nodup)(n2:other.Nodup)(g1:∀g∈one,g<cs.length)(g2:∀g∈other,g<cs.length)(hne:aP cs p one≠aP cs p other)
include hp hm ok n1 n2 g1 g2 hne
theorem Fv (g:Nat)(r:ak)(hx:kE other one=g::r) :
  ∃j,run G (n+8) 33 [(k,wd p cs),(k1,.lst (aL one)),(k2,.lst (aL other))]=.ret j (.tup [.str "unlike",.int (g:Nat),.non]) []:=by
 obtain⟨j1,q1⟩:=jZ P.j n 0 0 p cs one hp hm ok n1 g1;obtain⟨j2,q2⟩:=jZ P.j n 0 0 p cs other hp hm ok n2 g2;have e1:=vN (aP cs p one) (aP cs p other);rw[Hy hne] at e1;have e2:=nR (aP cs p one);have e3:=nR (aP cs p other);have sy:=xz (one:=one) (other:=other) (λg h=>by have:=g1 g h; omega) (λg h=>by have:=g2 g h; omega);rw[hx] at sy;generalize bE (aP cs p one)=W at q1 e1 e2;generalize bE (aP cs p other)=W2 at q2 e1 e3;have ln:eJ (λxs=>some (99,D.int xs.length)) (.lst (aL (g::r)))=some (99,.int ((r.length:Int)+1)):=by simp[aL]
 have ix:bt (.lst (aL (g::r))) (.int 0)=some (0,.int (g:Nat)):=xZ (A:=[]) (B:=r) (a:=g);have pos:(0:Int)<(r.length:Int)+1:=by omega
 generalize D.lst (aL (g::r))=LL at sy ln ix;generalize D.lst (aL one)=L1 at q1 sy;generalize D.lst (aL other)=L2 at q2 sy;rw[run,P.j.f33];exact⟨99,by simp[-bt,-eJ,jl,P.j.f30,iB,q1,q2,e1,e2,e3,sy,ln,ix,pos]⟩
theorem xK {A B:ak}(h:(A,B)∈(aP cs p one).zip (aP cs p other)):∃j,A=cn cs j one/\B=cn cs j other:=by
 rw[aP,aP,List.zip_map,List.mem_map] at h;obtain⟨⟨i,j⟩,h1,h2⟩:=h;obtain⟨l,h3⟩:=List.mem_iff_getElem?.mp h1;obtain⟨a1,a2⟩:=IL.mp h3;have a1':(List.range p)[l]? = some i:=a1;have a2':(List.range p)[l]? = some j:=a2;rw[a1'] at a2';cases a2';cases h2;exact⟨i,rfl,rfl⟩
theorem y4 (hx:kE other one=[]) :
  ∃j a b,run G (n+8) 33 [(k,wd p cs),(k1,.lst (aL one)),(k2,.lst (aL other))]=.ret j (.tup [.str "unlike",.int (a:Nat),.int (b:Nat)]) []/\a∈one/\b∈one/\jO cs a b=true/\one.idxOf a<one.idxOf b/\other.idxOf b<other.idxOf a:=by
 obtain⟨j1,q1⟩:=jZ P.j n 0 0 p cs one hp hm ok n1 g1;obtain⟨j2,q2⟩:=jZ P.j n 0 0 p cs other hp hm ok n2 g2;have mm:=z9 (λg h=>by have:=g1 g h; omega) (λg h=>by have:=g2 g h; omega) hx;have l6:one.length<=6:=ce (gP n1 g1) hm;obtain⟨j3,a,b,C,R,S,q3,hz,hab⟩:=BE P (n+6) 0 0 (aP cs p one) (aP cs p other) (by simp[aP]) (by simpa[aP] using hp) (by
  rintro⟨A,B⟩ hq;obtain⟨j,rfl,rfl⟩:=xK P p cs one other hp hm ok n1 n2 g1 g2 hne hq;have pm:(cn cs j one).Perm (cn cs j other):=(List.perm_ext_iff_of_nodup (n1.filter _) (n2.filter _)).mpr λg=>by simp[mm g]
  have fl:(cn cs j one).length<=one.length:=Iw _ _;exact⟨pm.length_eq,by show (cn cs j one).length<=6; omega⟩) hne
 obtain⟨j,f1,f2⟩:=xK P p cs one other hp hm ok n1 n2 g1 g2 hne hz;have T:=Cj n1 n2 mm f1.symm f2.symm hab;have e1:=vN (aP cs p one) (aP cs p other);rw[Hy hne] at e1;have e2:=nR (aP cs p one);have e3:=nR (aP cs p other);have sy:=xz (one:=one) (other:=other) (λg h=>by have:=g1 g h; omega) (λg h=>by have:=g2 g h; omega);rw[hx] at sy;generalize bE (aP cs p one)=W at q1 q3 e1 e2;generalize bE (aP cs p other)=W2 at q2 q3 e1 e3;have ln:eJ (λxs=>some (99,D.int xs.length)) (.lst (aL []))=some (99,.int 0):=by simp[aL]
 generalize D.lst (aL [])=LL at sy ln;generalize D.lst (aL one)=L1 at q1 sy;generalize D.lst (aL other)=L2 at q2 sy;have ad:=Cq (a:=a) (b:=b) (s:=Str.ofString "unlike");refine⟨0,a,b,?_,T⟩;rw[run,P.j.f33];simp[-eJ,-dH,jl,P.j.f30,iB,q1,q2,e1,e2,e3,sy,ln,P.f32,nW,q3,ad]
end
end Ip
end
section
namespace Ip
open PySem (Str)
structure Pz (G:Pg):Prop where
 y:Py G
 f5:G.fn 5=some lS
 f76:G.fn 76=some kY
 f106:G.fn 106=some kP
 f107:G.fn 107=some pj
 f108:G.fn 108=some jX
 f109:G.fn 109=some pC
 c3:G.cl 3=some ⟨(some 5),[],[0],true⟩
inductive Th:D->Prop
 | int (i:Int):Th (.int i)
 | tr:Th (.bl true)
 | no:Th .non
 | zs:Th (.str "0")
 | tp:Th (.tup [.int 0])
 | ls:Th (.lst [.int 0])
theorem Th.pur {d:D}(h:Th d):d.pur 58=true:=by cases h <;> first | rfl | decide +kernel
theorem Th.eq {d:D}(h:Th d):d.eq d=true:=by cases h <;> first | simp[D.eq,D.eqs] | decide +kernel
theorem qh:∀{xs:ay},(∀x∈xs,Th x)->D.eqs xs xs=true
 | [],_=>by simp[D.eqs]
 | x::xs,h=>by simp[D.eqs,(h x Hl).eq,qh λy hy=>h y (Hk _ hy)]
def uq {xs:ay}(h:∀x∈xs,Th x):(D.lst xs).pur 59=true:=by
 rw[nY,List.all_eq_true]; exact λx hx=>(h x hx).pur
section
variable {G:Pg}(P:Pz G)
include P
def Gq (n k k':Nat)(i j:Int)(hj:j≠100):run G (n+1) 2 [(k,.int i),(k',.int j)]=.ret 0 (.int i) []:=by
 rw[run,P.y.j.v.a.f2];simp[iD,D.eq,hj]
def Cm (n k k':Nat)(d:D)(h:Th d):∃j,run G (n+2) 2 [(k,d),(k',.int 0)]=.ret j d []:=by
 have q:=Gq P n 0 99 0 1 (by decide);have hs:1<=SL:=by decide
 have cc:be (compF G (run G (n+1)) [none,none,some (.int 0)] (.one 1) [] (.call 2 [(.var 1),(.op .add [(.var 2),(.cst (.int (1)))])])) [.int 0]=.ok [(0,.int 0)]:=
  tJ (g:=λd=>(0,d)) (xs:=[.int 0]) λx hx=>by
   cases Gx.mp hx;simp[compF,P.y.j.v.a.f2,iD,q]
 rw[run,P.y.j.v.a.f2];cases h <;> exact⟨_,by simp[iD,D.eq,hs,cc]; rfl⟩
def Ff (n k:Nat)(d:D)(h:Th d):run G (n+3) 4 [(1,.exc 2 []),(k,d)]=.ret 99 .non [(1,.exc 2 [(2,d)])]:=by
 rw[run,P.y.j.v.a.f4];obtain⟨j,q⟩:=Cm P n 0 99 d h;by_cases hf:d.flat=true
 .by_cases hb:d.fb j=true
  .simp[iM,P.y.j.v.a.f2,iD,q,cK,br,hf,hb]
  .simp[iM,P.y.j.v.a.f2,iD,q,cK,br,hf,hb]
 .by_cases hb:d.fb j=true
  .simp[iM,P.y.j.v.a.f2,iD,q,cK,br,hf,hb]
  .simp[iM,P.y.j.v.a.f2,iD,q,cK,br,hf,hb]
def ED (n k:Nat)(i:Int):run G (n+1) 5 [(1,.exc 3 []),(k,.int i)]=.ret 99 .non [(1,.exc 3 [(2,.int i)])]:=by
 rw[run,P.f5];simp[lS,cK,br]
def Eg:bV G 2 1=some (4,iM,.exc 2 []):=by
 simp[bV,P.y.j.v.a.c2,P.y.j.v.a.f4,iM]
def FB:bV G 3 1=some (5,lS,.exc 3 []):=by
 simp[bV,P.c3,P.f5,lS]
def ya (n k k':Nat)(p:Int)(cs:ac)(d:D)(h:isB cs.length d=false)(o:Th d):run G (n+4) 17 [(k,wd p cs),(k',d)]=.exc 2 [(2,d)] []:=by
 rw[run,P.y.j.v.a.f17];have q:=pS P.y.j.v.a (n+1) 0 99 d cs.length;have q2:=wG P.y.j.v.a (n+2) 0 p cs;have q3:=Ff P n 0 d o;rw[h] at q;simp[jL,P.y.j.v.a.f1,ke,uw P.y.j.v.a,kZ,q2,q,Eg P,q3,iM,P.y.j.v.a.c2,P.y.j.v.a.f4]
def Dw (n k k' k'':Nat)(p:Nat)(cs:ac)(w:D)(d:D)(h:isB cs.length d=false)(o:Th d):run G (n+6) 25 [(k,wd p cs),(k',w),(k'',d)]=.exc 2 [(2,d)] []:=by
 have q1:=ya P (n+1) 0 0 p cs d h o;rw[run,P.y.j.v.f25];simp[iY,P.y.j.v.a.f17,jL,q1]
def BO (n k k' k'':Nat)(p:Nat)(cs:ac)(rows:af)(g:Nat)(hg:g<cs.length)(h6:rows.length<=6)(hf:rows.flatten.length<=900)(hg6:∀g∈rows.flatten,g<6)(hn:g∈rows.flatten) :
  run G (n+6) 25 [(k,wd p cs),(k',bE rows),(k'',.int g)]=.exc 3 [(2,.int g)] []:=by
 have hb:isB cs.length (.int g)=true:=by simp[isB,hg]
 have q1:=qL P.y.j.v.a (n+1) 0 0 p cs (.int g) hb;obtain⟨j2,q2⟩:=vZ P.y.j.v (n+4) 0 rows h6 (by omega) hg6;have hm:D.memb (.int g) (aL (da rows.flatten))=true:=by rw[rF]; simp[vD (hg6 g hn),hn]
 have hsc:=uF (da rows.flatten);have q4:=ED P (n+4) 0 g;rw[run,P.y.j.v.f25];simp[-List.all_eq_true,iY,P.y.j.v.a.f17,jL,q1,P.y.j.v.f24,mM,q2,hm,hsc,FB P,lS,q4]
end
noncomputable def dU:D->Nat
 | .int i=>i.toNat
 | _=>0
noncomputable def aO (m:Nat):ak->ay->Option (Bool×D)
 | _,[]=>none
 | pre,x::xs=>if isB m x=true then (if dU x∈pre then some (true,x) else aO m (pre++[dU x]) xs) else some (false,x)
def mh {m:Int}{x:D}(h:isB m x=true):∃g:Nat,x=.int g/\(g:Int)<m:=by
 cases x with
 | int i=>
  simp only[isB,tw,GR] at h;exact⟨i.toNat,by congr 1; omega,by omega⟩
 | _=>simp[isB] at h
theorem pY {m:Nat}:∀{xs:ay} {pre:ak},aO m pre xs=none->pre.Nodup->(∀x∈xs,isB m x=true)/\(pre++xs.map dU).Nodup
 | [],_,_,n=>⟨by simp,by simpa using n⟩
 | x::xs,pre,h,n=>by
  rw[aO] at h;by_cases hb:isB m x=true
  .rw[if_pos hb] at h;by_cases hp:dU x∈pre
   .rw[if_pos hp] at h; cases h
   .rw[if_neg hp] at h;obtain⟨e,q⟩:=pY h (GP.mpr ⟨n,by simp,λa ha b hb z=>hp (by rw[<-Gx.mp hb,<-z]; exact ha)⟩);refine⟨λy hy=>?_,by simpa using q⟩;rcases cH hy with rfl | hy
    .exact hb
    .exact e y hy
  .rw[if_neg hb] at h; cases h
theorem o3 {m:Nat}{t:Bool}{x:D}:∀{xs:ay} {pre:ak},aO m pre xs=some (t,x)->(∀y∈xs,Th y)->Th x
 | [],_,h,_=>nomatch h
 | y::xs,pre,h,ho=>by
  rw[aO] at h;have hy:=ho y bZ;by_cases hb:isB m y=true
  .rw[if_pos hb] at h;by_cases hp:dU y∈pre
   .rw[if_pos hp] at h; cases h; exact hy
   .rw[if_neg hp] at h;exact o3 h λz hz=>ho z (bQ _ hz)
  .rw[if_neg hb] at h; cases h; exact hy
theorem wq {m:Nat}:∀{gs pre:ak},(∀g∈gs,g<m)->(pre++gs).Nodup->aO m pre (aL gs)=none
 | [],_,_,_=>rfl
 | g::gs,pre,h,n=>by
  have hb:isB m (.int (g:Nat))=true:=by simp[isB,h g Hl]
  have t:dU (.int (g:Nat))=g:=by simp[dU]
  have hg:g∉pre:=λz=>(GP.mp n).2.2 g z g bZ rfl;show (if isB m (.int (g:Nat))=true then (if dU (.int (g:Nat))∈pre then _ else aO m (pre++[dU (.int (g:Nat))]) (aL gs)) else _)=none;rw[if_pos hb,t,if_neg hg];exact wq (λx hx=>h x (bQ _ hx)) (by simpa using n)
def yw {cs:ac}{p g:Nat}{gs:ak}(ok:∀c∈cs,OkC p c)(hg:g<cs.length)(h:g∈gs):g∈(aP cs p gs).flatten:=by
 obtain⟨j,hj,hc⟩:=v3 ok hg;exact List.mem_flatten.mpr ⟨_,List.mem_map.mpr ⟨j,G1.mpr hj,rfl⟩,Hn.mpr ⟨h,HP hc⟩⟩
section
variable {G:Pg}(P:Pz G)
include P
def rE (n k k':Nat)(p:Nat)(cs:ac)(hp:p<=6)(hm:cs.length<=6)(ok:∀c∈cs,OkC p c)(xs:ay)(hl:xs.length<=16)(ho:∀x∈xs,Th x)(t:Bool)(x:D)(hF:aO cs.length [] xs=some (t,x)) :
  run G (n+7) 30 [(k,wd p cs),(k',.lst xs)]=.exc (if t then 3 else 2) [(2,x)] []:=by
 have hS:xs.length<=SL:=ce hl (by decide);obtain⟨j0,q0⟩:=uo P.y.j.v (n+4) 0 p cs hp;have e0:List.replicate p ([]:ak)=aP cs p []:=by
  unfold aP cn;exact (Jq.mpr ⟨by simp,by simp⟩).symm
 rw[e0] at q0;have key:Ou G (run G (n+6)) [] [some (0,wd p cs),some (0,.lst xs),none,none] iB.body (λ_=>False) (λ_=>False) λc fs _=>c=(if t then 3 else 2)/\fs=[(2,x)]:=by
  refine Ou.set (x:=(j0,bE (aP cs p []))) (by simp[P.y.j.v.f23,nA,q0]) ?_;refine Ou.fo (λr a=>∃(y:aA) (pre:ak),a=[some (0,wd p cs),some (0,.lst xs),some (0,bE (aP cs p pre)),y]/\aO cs.length pre r=some (t,x)/\pre.length+r.length<=16/\(∀g∈pre,g<cs.length)/\∀x∈r,Th x) (vs:=[(0,.lst xs)]) (xs:=xs) (by simp) (by simp) hS ?_ ?_ ?_
  .exact⟨none,[],by simp,hF,by simpa using hl,by simp,ho⟩
  .rintro x r a ⟨y,pre,rfl,hf,hlen,hg,hr⟩;rw[List.length_cons] at hlen;have r6:(aP cs p pre).length<=6:=by simpa[aP] using hp
   have rl:(aP cs p pre).flatten.length<=900:=by
    have h1:=td (cs:=cs) (gs:=pre) p;have h2:p * pre.length<=6 * 16:=Nat.mul_le_mul hp (by omega);omega
   have rg:∀g∈(aP cs p pre).flatten,g<6:=λg h=>d6 (hg g (pd h)) hm;refine⟨_,iq rfl,?_⟩;by_cases hb:isB cs.length x=true
   .obtain⟨g,rfl,hgl⟩:=mh hb;have hgl':g<cs.length:=by omega
    have hc:cs[g]? = some cs[g]:=by simp[hgl']
    have o:=ok _ (GV hgl');have t:dU (.int (g:Int))=g:=by simp[dU]
    rw[aO,if_pos hb,t] at hf;by_cases hw:g∈pre
    .rw[if_pos hw] at hf;cases hf;have q:=BO P n 0 0 0 p cs (aP cs p pre) g hgl' r6 rl rg (yw ok hgl' hw);exact Ou.setX (c:=3) (fs:=[(2,.int g)]) (by simp[P.y.j.v.f25,iY,q]) ⟨rfl,rfl⟩
    .rw[if_neg hw] at hf;obtain⟨j,q⟩:=xI P.y.j.v n 0 0 0 p cs (aP cs p pre) g cs[g] hc (by simpa[aP] using o.rg) r6 o.ln rl rg (d6 hgl' hm) (λh=>hw (pd h));rw[wJ hc o] at q;refine Ou.set (x:=(j,bE (aP cs p (pre++[g])))) (by simp[P.y.j.v.f25,iY,q]) ?_;refine Ou.nil ⟨some (0,.int g),pre++[g],by simp,hf,by simp; omega,?_,λx hx=>hr x (bQ _ hx)⟩;intro y hy;rcases dN hy with h | h
     .exact hg y h
     .rw[Gx.mp h]; exact hgl'
   .have hb':isB cs.length x=false:=by simpa using hb
    rw[aO,if_neg hb] at hf;cases hf;have q:=Dw P n 0 0 0 p cs (bE (aP cs p pre)) x hb' (hr x bZ);exact Ou.setX (c:=2) (fs:=[(2,x)]) (by simp[P.y.j.v.f25,iY,q]) ⟨rfl,rfl⟩
  .rintro a ⟨y,pre,rfl,hf,_⟩;cases hf
 obtain⟨c,fs,e,rfl,rfl⟩:=Ou.runX (n:=n+6) (vs:=[(k,wd p cs),(k',.lst xs)]) P.y.j.f30 rfl rfl key;exact e
end
noncomputable def bu:Option (Bool×D)->D
 | none=>.non
 | some (t,x)=>.tup [.str (if t then "worn" else "none"),x]
theorem xq {m:Nat}(g:Nat):∀{L:ay},(∀x∈L,isB m x=true)->D.memb (.int g) L=decide (g∈L.map dU)
 | [],_=>rfl
 | x::L,h=>by
  obtain⟨y,rfl,_⟩:=mh (h x bZ);have ih:=xq g (L:=L) λz hz=>h z (bQ _ hz);have e:D.memb (.int g) (.int (y:Int)::L)=((D.int (y:Int)).eq (.int g)||D.memb (.int g) L):=rfl;rw[e,ih];have t:dU (.int (y:Int))=y:=by simp[dU]
  simp only[D.eq,GB,t,GL];by_cases h:g=y
  .subst h; simp
  .have:¬(y:Int)=(g:Int):=by omega
   simp[this,h]
def dl {T t:Nat}{x:D}{r:ay}(hr:x::r=((List.range T).map λ(n:Nat)=>D.int n).drop t):t<T/\x=.int t/\r=((List.range T).map λ(n:Nat)=>D.int n).drop (t+1):=by
 have htl:t<T:=by
  have:(x::r).length=(((List.range T).map λ(n:Nat)=>D.int n).drop t).length:=by rw[hr]
  simp at this;omega
 have htm:t<((List.range T).map λ(n:Nat)=>D.int n).length:=by simpa using htl
 rw[HU htm] at hr;refine⟨htl,?_,(List.cons.inj hr).2⟩;have:=(List.cons.inj hr).1;rw[this]; simp
def wQ {T t:Nat}(hr:[]=((List.range T).map λ(n:Nat)=>D.int n).drop t):T<=t:=by
 have:(((List.range T).map λ(n:Nat)=>D.int n).drop t).length=0:=by rw[<-hr]; rfl
 simp at this;omega
def D0 {xs:ay}{i:Nat}(h:i<xs.length):bt (.lst xs) (.int i)=some (0,xs[i]):=by
 simp[bt,wB h,h]
section
variable {G:Pg}(P:Pz G)
include P
def pT (n k:Nat)(d:D):run G (n+1) 73 [(k,d)]=.ret 99 (.bl (isI d)) []:=by
 rw[run,P.y.j.f73];cases d <;> simp[kD,isI]
def uO (n k k':Nat)(m:Nat)(xs:ay)(hl:xs.length<=16):∃j,run G (n+2) 107 [(k,.lst xs),(k',.int m)]=.ret j (bu (aO m [] xs)) []:=by
 have hS:xs.length<=SL:=ce hl (by decide);have key:Ou G (run G (n+1)) [] [some (0,.lst xs),some (0,.int m),none] pj.body (λ_=>False) (λd=>d=bu (aO m [] xs)) λ_ _ _=>False:=by
  refine Ou.fo (λr a=>(∃x,a=[some (0,.lst xs),some (0,.int m),x])/\∃j,r=((List.range xs.length).map λ(n:Nat)=>D.int n).drop j/\aO m ((xs.take j).map dU) (xs.drop j)=aO m [] xs/\∀x∈xs.take j,isB m x=true) (vs:=[(99,.int xs.length)]) (xs:=(List.range xs.length).map λ(n:Nat)=>D.int n) (by simp) (wk_rng1 hS) (by simpa using hS) ⟨⟨none,by simp⟩,0,rfl,by simp,by simp⟩ ?_ ?_
  .rintro x r a ⟨⟨y,rfl⟩,j,hr,hf,hb⟩;obtain⟨hjl,rfl,hr'⟩:=dl hr;have gx:=D0 hjl;have cut:bN none (some (j:Int)) (.lst xs)=some (1,.lst (xs.take j)):=by
    simp only[bN,rj]
   rw[HU hjl] at hf;have tk:xs.take (j+1)=xs.take j++[xs[j]]:=by rw[List.take_succ]; simp[hjl]
   refine⟨_,iq rfl,?_⟩;generalize xs[j]=x at hf tk gx;have w:=pT P n 0 x;rw[aO] at hf;have sc:D.pures (xs.take j)=true:=List.all_eq_true.mpr λy hy=>by
    obtain⟨w,rfl,_⟩:=mh (hb y hy);rfl
   by_cases hbx:isB m x=true
   .rw[if_pos hbx] at hf;obtain⟨q,rfl,hq⟩:=mh hbx;have t:dU (.int (q:Int))=q:=by simp[dU]
    rw[t] at hf;have mb:=xq q hb;have w':run G (n+1) 73 [(0,.int (q:Int))]=.ret 99 (.bl true) []:=w;have tkn:xs.take (j+1)=xs.take j++[.int (q:Int)]:=tk;generalize xs.take j=T at cut sc mb hf tkn hb;generalize D.lst xs=LX at gx cut;refine Ou.iffN (j:=99) (by simp[-bt,gx,P.y.j.f73,kD,w',hq]) ?_;by_cases hw:q∈T.map dU
    .rw[if_pos hw] at hf;rw[HP hw] at mb;refine Ou.iffT (j:=99) (by simp[-bt,-bN,-List.all_eq_true,gx,cut,sc,mb]) ?_;refine Ou.retE (d:=.tup [.str "worn",.int q]) (by simp[-bt,gx]) ?_;rw[<-hf]; rfl
    .rw[if_neg hw] at hf;rw[Hy hw] at mb;refine Ou.iffN (j:=99) (by simp[-bt,-bN,-List.all_eq_true,gx,cut,sc,mb]) ?_;refine Ou.nil ⟨⟨_,rfl⟩,j+1,hr',?_,?_⟩
     .rw[tkn,Ir]; simpa[t] using hf
     .rw[tkn];intro y hy;rcases dN hy with h | h
      .exact hb y h
      .rw[Gx.mp h]; exact hbx
   .rw[if_neg hbx] at hf;generalize D.lst xs=LX at gx cut;refine Ou.iffT (j:=99) ?_ ?_
    .cases x with
     | int i=>
      have w':run G (n+1) 73 [(0,.int i)]=.ret 99 (.bl true) []:=w;by_cases h1:0<=i
      .have h2:¬i<m:=λh2=>hbx (by simp[isB,h1,h2]);simp[-bt,gx,P.y.j.f73,kD,w',h1,h2]
      .simp[-bt,gx,P.y.j.f73,kD,w',h1]
     | _=>
      simp only[isI] at w;simp[-bt,gx,P.y.j.f73,kD,w]
    .refine Ou.retE (d:=.tup [.str "none",x]) (by simp[-bt,gx]) ?_;rw[<-hf]; rfl
  .rintro a ⟨⟨x,rfl⟩,j,hr,hf,_⟩;have hjl:=wQ hr;rw[Io hjl,aO] at hf;refine Ou.ret (x:=(99,.non)) (by simp) ?_;rw[<-hf]; rfl
 obtain⟨j,d,e,rfl⟩:=Ou.run (n:=n+1) (vs:=[(k,.lst xs),(k',.int m)]) (V:=λd=>d=bu (aO m [] xs)) P.f107 rfl rfl (key.mono (λ_ h=>h.elim) (λ_ h=>h) λ_ _ _ h=>h);exact⟨j,e⟩
end
section
variable {G:Pg}{cl:Nat->ax->Run}{io:ak}{a:Fr}{ss:az}{N:Fr->Prop}{V:D->Prop}{X:Nat->List aK->Fr->Prop}
theorem Ou.setI {i j k jj:Nat}{e:Ex}{xs:ay}{d:D}{n:Int}(hj:a[j]? = some (some (k+1,.lst xs)))(he:eval G cl a.sl e=.ok (jj,.int n))(hd:((dR xs.length n).bind λm=>xs[m]?)=some d)(h:Ou G cl io ((a.set j (some (1,.lst xs))).set i (some (0,d))) ss N V X)(hi:(!io.contains i&&Nat.blt i a.length)=true:=by rfl):Ou G cl io a (.setI i j e::ss) N V X:=
 .step λA r=>by
  obtain⟨hio,hi⟩:=okI hi;obtain⟨k',hA⟩:=r.own hj;have hl:i<A.length:=by rw[r.len]; exact hi
  have e2:lw A j=A.set j (some (1,.lst xs)):=by simp only[lw,hA]
  simp only[vP,hA,lstK,g9,r.sl,he,R.toO,ie,hd,e2,ck,hio,GO,hl,and_self,if_true];exact⟨_,(r.set (.refl _) j).set (.refl _) i,h⟩
def Ou.insF {x k j i:Nat}{xs:ay}{d:D}{n:Int}(hx:a[x]? = some (some (k+1,.lst xs)))(hx2:(frz [i,j] a)[x]? = some (some (k+1,.lst xs)))(hi:a.sl[i]? = some (some (.int n)))(hd:a.sl[j]? = some (some d))(hn:0<=n/\n.toNat<=xs.length)(hl:xs.length<SL)
  (h:Ou G cl io ((frz [i,j] a).set x (some (1,.lst (xs.take n.toNat++d::xs.drop n.toNat)))) ss N V X):Ou G cl io a (.mut x [] .insert [.var i,.var j]::ss) N V X:=
 .step λA r=>by
  obtain⟨k',hA⟩:=r.own hx;have e1:cz A[x]? = true:=by rw[hA]; rfl
  obtain⟨B,hB,rB⟩:∃B,(if (([(0,D.int n),(0,d)]:ax).all λv=>v.2.fb v.1)=true then A else frz [i,j] A)=B/\RelF B (frz [i,j] a):=⟨_,rfl,by
   split
   .exact r.trans (RelF.low _ _)
   .exact r.frz⟩
  obtain⟨k2,hB2⟩:=rB.own hx2;have c:0<=n/\n.toNat<=xs.length/\xs.length<SL:=⟨hn.1,hn.2,hl⟩
  have en:Ex.namess [.var i,.var j]=[i,j]:=rfl;simp only[iz,e1,if_true,dk,bL,gM,r.sl,hi,hd,R.bind,R.toO,dS,en,hB,hB2,d7,rX,if_pos c];exact⟨_,rB.set (.refl _) x,h⟩
end
def kA {v:Int}(h:0<=v):∃u:Nat,v=(u:Int):=⟨v.toNat,(IP h).symm⟩
def F7 {u l:Nat}(h:(u:Int)<(l:Int)+1):u<=l:=by omega
def dT {v:Int}(h:0<=v)(k:v<3):∃T:Nat,1+v=(T:Int)/\1<=T/\T<=3:=⟨(1+v).toNat,by omega,by omega,by omega⟩
def dP (c:Int):∃p:Nat,1+c % 6=(p:Int)/\1<=p/\p<=6:=⟨(1+c % 6).toNat,by omega,by omega,by omega⟩
def dQ (c:Int):c % 3=0\/c % 3=1\/c % 3=2:=by omega
noncomputable def h9 (m:Nat):ay:=[.int m,.int (-1),.bl true,.non,.str "0",.tup [.int 0],.lst [.int 0]]
theorem Ed (m:Nat):∀{v:Nat},v<7->∃d,((dR (h9 m).length (v:Int)).bind λi=>(h9 m)[i]?)=some d/\Th d/\isB m d=false
 | 0,_=>⟨_,rfl,.int _,by simp[isB]⟩
 | 1,_=>⟨_,rfl,.int _,by simp[isB]⟩
 | 2,_=>⟨_,rfl,.tr,rfl⟩
 | 3,_=>⟨_,rfl,.no,rfl⟩
 | 4,_=>⟨_,rfl,.zs,rfl⟩
 | 5,_=>⟨_,rfl,.tp,rfl⟩
 | 6,_=>⟨_,rfl,.ls,rfl⟩
def Dc {m v:Nat}{ys:ay}{d:D}(h:isB m d=false\/d∈ys):aO m [] (ys.take v++d::ys.drop v)≠none:=λhn=>by
 obtain⟨h1,h2⟩:=pY hn .nil;rcases h with h | h
 .rw[h1 d (by simp)] at h; cases h
 .have p:(ys.take v++d::ys.drop v).Perm (d::ys):=by
   refine IJ.trans ?_;rw[List.take_append_drop]
  have:=((p.map dU).nodup_iff).mp h2;exact (GN.mp this).1 (GQ h)
section
variable {G:Pg}(P:Pz G)
include P
def tD (n k k1 k2:Nat)(gs:ak)(c:Int)(m:Nat)(hl:gs.length<=6):∃j ys,run G (n+2) 106 [(k,.lst (aL gs)),(k1,.int c),(k2,.int m)]=.ret j (.lst ys) []/\(∀y∈ys,Th y)/\ys.length<=9/\aO m [] ys≠none:=by
 obtain⟨v9,j9,q9,h90,h91⟩:=iy P.y.j.d n 0 99 99 c 9 3 (by decide) (by decide);obtain⟨T,eT,hT⟩:=dT h90 h91;have hTS:T<=SL:=ce hT.2 (by decide);have h100:100<=SL:=by decide
 have i13:cZ 13=true:=fQ.mpr (by decide);have key:Ou G (run G (n+1)) [] [some (0,.lst (aL gs)),some (0,.int c),some (0,.int m),none,none,none,none] kP.body (λ_=>False) (λd=>∃ys,d=.lst ys/\(∀y∈ys,Th y)/\ys.length<=9/\aO m [] ys≠none) λ_ _ _=>False:=by
  refine Ou.setD (j:=1) (x:=(bi [(0,.int m),(99,.int (-1)),(99,.bl true),(99,.non),(99,.str "0"),(99,.tup [.int 0]),(99,.lst [.int 0])]+1,.lst (h9 m))) (by simp[h9]) (by omega) ?_;refine Ou.setD (j:=1) (x:=(1,.lst (aL gs))) (by simp) (by omega) ?_;refine Ou.low (a':=[some (1,.lst (aL gs)),some (0,.int c),some (0,.int m),some (1,.lst (h9 m)),none,none,none]) (.of_eq (by simp[frz,frz1])) ?_;refine Ou.fo (λr a=>∃ys x4 x5 x6 t,a=[some (1,.lst ys),some (0,.int c),some (0,.int m),some (1,.lst (h9 m)),x4,x5,x6]/\r=((List.range T).map λ(n:Nat)=>D.int n).drop t/\(∀y∈ys,Th y)/\ys.length<=gs.length+t/\t<=T/\(t=0\/aO m [] ys≠none)) (vs:=[(99,.int T)]) (xs:=(List.range T).map λ(n:Nat)=>D.int n) (by simp[P.y.j.d.f71,fP,q9,eT]) (wk_rng1 hTS) (by simpa using hTS) ⟨aL gs,none,none,none,0,by simp,rfl,?_,by simp[aL],Hr _,.inl rfl⟩ ?_ ?_
  .intro y hy;obtain⟨g,_,rfl⟩:=fH hy;exact .int _
  .rintro x r a ⟨ys,x4,x5,x6,t,rfl,hr,hy,hyl,_,_⟩;obtain⟨htl,rfl,hr'⟩:=dl hr;refine⟨_,iq rfl,?_⟩;obtain⟨v5,j5,q5,h50,h51⟩:=iy P.y.j.d n 99 99 99 (c+13 * t) 10 ((ys.length:Int)+1) (Int.lt_add_one_of_le (IW _)) (by decide);obtain⟨v5,rfl⟩:=kA h50;have hy8:ys.length<=8:=by omega
   clear hl hT eT h90 h91;obtain⟨v6,j6,q6,h60,h61⟩:=iy P.y.j.d n 99 99 99 (c+13 * t) 11 7 (by decide) (by decide);obtain⟨u6,rfl⟩:=kA h60;obtain⟨d,hd,thd,hbd⟩:=Ed m (v:=u6) (Int.ofNat_lt.mp h61);have fin:∀d:D,Th d->(isB m d=false\/d∈ys)->Ou G (run G (n+1)) [] [some (1,.lst ys),some (0,.int c),some (0,.int m),some (1,.lst (h9 m)),some (0,.int t),some (j5,.int v5),some (0,d)] [.mut 0 [] .insert [.var 5,.var 6]] (λa=>∃ys x4 x5 x6 t,a=[some (1,.lst ys),some (0,.int c),some (0,.int m),some (1,.lst (h9 m)),x4,x5,x6]/\r=((List.range T).map λ(n:Nat)=>D.int n).drop t/\(∀y∈ys,Th y)/\ys.length<=gs.length+t/\t<=T/\(t=0\/aO m [] ys≠none)) (λd=>∃ys,d=.lst ys/\(∀y∈ys,Th y)/\ys.length<=9/\aO m [] ys≠none) λ_ _ _=>False:=λd th hb=>by
    refine Ou.insF (k:=0) (xs:=ys) (d:=d) (n:=v5) rfl (by simp[frz,frz1]) rfl rfl ⟨h50,F7 h51⟩ (Nat.lt_of_le_of_lt hy8 (by decide)) (Ou.nil ⟨_,some (0,.int t),some (0,.int v5),some (0,d),t+1,by simp[frz,frz1]; rfl,hr',?_,?_,htl,.inr (Dc hb)⟩)
    .intro y h;simp only[GU,GL] at h;rcases h with h | rfl | h
     .exact hy y (ID h)
     .exact th
     .exact hy y (Jv h)
    .simp;omega
   refine Ou.setK (x:=(j5,.int v5)) (by simp[fE,i13,P.y.j.d.f71,fP,q5]) (su _ _) ?_;refine Ou.setI (k:=0) (jj:=j6) (n:=(u6:Int)) (xs:=h9 m) (d:=d) rfl (by simp[fE,i13,P.y.j.d.f71,fP,q6]) hd ?_;refine Ou.low (a':=[some (1,.lst ys),some (0,.int c),some (0,.int m),some (1,.lst (h9 m)),some (0,.int t),some (j5,.int v5),some (0,d)]) (.of_eq (by simp)) ?_;by_cases h0:ys.length=0
   .have h0':¬(0:Int)<(ys.length:Int):=by omega
    exact Ou.iffN (j:=99) (by simp[h0]) (fin d thd (.inl hbd))
   .have h0':(0:Int)<(ys.length:Int):=by omega
    have h0n:0<ys.length:=by omega
    obtain⟨v7,j7,q7,h70,h71⟩:=iy P.y.j.d n 99 99 99 (c+13 * t) 12 2 (by decide) (by decide);by_cases h7:v7=1
    .obtain⟨v8,j8,q8,h80,h81⟩:=iy P.y.j.d n 99 99 99 (c+13 * t) 13 (ys.length:Int) h0' (by decide);obtain⟨u8,rfl⟩:=kA h80;have hu:u8<ys.length:=Int.ofNat_lt.mp h81;refine Ou.iffT (j:=99) (by simp[h0n,fE,i13,P.y.j.d.f71,fP,q7,D.eq,h7]) ?_;refine Ou.setI (k:=0) (jj:=j8) (n:=(u8:Int)) (xs:=ys) (d:=ys[u8]) rfl (by simp[fE,i13,P.y.j.d.f71,fP,q8]) (by simp[wB hu,hu]) ?_;refine Ou.nil (Ou.low (a':=[some (1,.lst ys),some (0,.int c),some (0,.int m),some (1,.lst (h9 m)),some (0,.int t),some (j5,.int v5),some (0,ys[u8])]) (.of_eq (by simp)) ?_);exact fin _ (hy _ (GV hu)) (.inr (GV hu))
    .exact Ou.iffN (j:=99) (by simp[h0n,fE,i13,P.y.j.d.f71,fP,q7,D.eq,h7]) (fin d thd (.inl hbd))
  .rintro a ⟨ys,x4,x5,x6,t,rfl,hr,hy,hyl,htT,ht⟩;have htl:=wQ hr;exact Ou.ret (x:=(0,.lst ys)) (by simp) ⟨ys,rfl,hy,by omega,ht.resolve_left (by omega)⟩
 obtain⟨j,d,e,ys,rfl,h⟩:=Ou.run (n:=n+1) (vs:=[(k,.lst (aL gs)),(k1,.int c),(k2,.int m)]) (V:=λd=>∃ys,d=.lst ys/\(∀y∈ys,Th y)/\ys.length<=9/\aO m [] ys≠none) P.f106 rfl rfl (key.mono (λ_ h=>h.elim) (λ_ h=>h) λ_ _ _ h=>h);exact⟨j,ys,e,h⟩
end
def Th.pur60 {d:D}(h:Th d):d.pur 60=true:=by cases h <;> first | rfl | decide +kernel
def E3:(D.str "none").pur 60=true/\(D.str "worn").pur 60=true:=by decide +kernel
def Dp:¬(("none" : Str) = "worn")/\¬(("worn" : Str) = "none"):=by decide +kernel
theorem xx {m:Nat}:∀{xs:ay},(∀x∈xs,isB m x=true)->xs=aL (xs.map dU)/\∀g∈xs.map dU,g<m
 | [],_=>⟨rfl,by simp⟩
 | x::xs,h=>by
  obtain⟨e,q⟩:=xx λy hy=>h y (bQ _ hy);obtain⟨g,rfl,hg⟩:=mh (h x bZ);have t:dU (.int (g:Int))=g:=by simp[dU]
  refine⟨?_,?_⟩
  .rw[GB,t];show _=D.int (Int.ofNat g)::aL (xs.map dU);rw[<-e]; rfl
  .rw[GB,t];intro y hy;rcases cH hy with rfl | hy
   .omega
   .exact q y hy
section
variable {G:Pg}{cl:Nat->ax->Run}{io:ak}{a:Fr}{ss:az}{N:Fr->Prop}{V:D->Prop}{X:Nat->List aK->Fr->Prop}
def Ou.setU {is:ak}{e:Ex}{j:Nat}{ds:ay}(h:eval G cl a.sl e=.ok (j,.lst ds))(k:Ou G cl io (cY (λd=>(0,d)) is ds (frz e.names a)) ss N V X)(hi:(ds.length == is.length&&is.all λi=>!io.contains i&&Nat.blt i a.length)=true:=by rfl):Ou G cl io a (.setT is e::ss) N V X:=
 .step λA r=>by
  obtain⟨hl,hi⟩:=uS hi;obtain⟨A',q1,q2⟩:=RelF.setFs (io:=io) (is:=is) (ds:=ds) (k:=0) (r.settle e.names (j,.lst ds)) hl λi hm=>⟨(hi i hm).1,by rw[<-(RelF.low e.names a).len]; exact (hi i hm).2⟩
  simp only[wE,r.sl,h,R.toO,gL,q1];exact⟨_,q2,k⟩
end
noncomputable def cr (y:Bool×D):D:=.exc (if y.1 then 3 else 2) [(2,y.2)]
section
variable {G:Pg}(P:Pz G)
include P
def vM (n k k':Nat)(y:Bool×D)(th:Th y.2):run G (n+1) 76 [(k,cr y),(k',bu (some y))]=.ret 99 (.bl true) []:=by
 obtain⟨t,x⟩:=y;have e:x.eq x=true:=th.eq;have p:x.pur 60=true:=th.pur60;obtain⟨p1,p2⟩:=E3;obtain⟨e3,e4⟩:=Dp;rw[run,P.f76];cases t with
 | true=>simp[-nY,kY,cr,bu,P.c3,gi,dR,D.eq,e,p,p1,p2,e3,e4]
 | false=>simp[-nY,kY,cr,bu,P.y.j.v.a.c2,gi,dR,D.eq,e,p,p1,p2,e3,e4]
variable (p:Nat)(cs:ac)(hp:p<=6)(hm:cs.length<=6)(ok:∀c∈cs,OkC p c)
include hp hm ok
theorem yi (n k k':Nat)(xs:ay)(hl:xs.length<=16)(ho:∀x∈xs,Th x)(y:Bool×D)(hF:aO cs.length [] xs=some y):∃j,run G (n+8) 109 [(k,wd p cs),(k',.lst xs)]=.ret j (cr y) []:=by
 obtain⟨t,x⟩:=y;have q:=rE P n 0 0 p cs hp hm ok xs hl ho t x hF;have key:Ou G (run G (n+7)) [] [some (0,wd p cs),some (0,.lst xs),none,none] pC.body (λ_=>False) (λd=>d=cr (t,x)) λ_ _ _=>False:=by
  refine Ou.set (x:=(99,.non)) (by simp) ?_;refine Ou.tryE (Ou.exX (c:=if t then 3 else 2) (fs:=[(2,x)]) (by simp[P.y.j.f30,iB,q]) ?_);cases t with
  | true=>
   refine⟨by simp[P.c3],rfl,by simp[cg],rfl,by decide,by simp[cg],?_⟩;exact Ou.ret (x:=(0,cr (true,x))) (by simp[cg,cr]) rfl
  | false=>
   refine⟨by simp[P.y.j.v.a.c2],rfl,by simp[cg],rfl,by decide,by simp[cg],?_⟩;exact Ou.ret (x:=(0,cr (false,x))) (by simp[cg,cr]) rfl
 obtain⟨j,d,e,rfl⟩:=Ou.run (n:=n+7) (vs:=[(k,wd p cs),(k',.lst xs)]) (V:=λd=>d=cr (t,x)) P.f109 rfl rfl (key.mono (λ_ h=>h.elim) (λ_ h=>h) λ_ _ _ h=>h);exact⟨j,e⟩
theorem AV (n k k1 k2:Nat)(xs ys:ay)(hx:xs.length<=16)(hy:ys.length<=16)(ox:∀x∈xs,Th x)(oy:∀x∈ys,Th x)(t:Bool)(x:D)(hF:(aO cs.length [] xs).or (aO cs.length [] ys)=some (t,x)) :
  run G (n+8) 33 [(k,wd p cs),(k1,.lst xs),(k2,.lst ys)]=.exc (if t then 3 else 2) [(2,x)] []:=by
 rw[run,P.y.j.f33];cases h:aO cs.length [] xs with
 | some y=>
  rw[h] at hF;cases hF;have q:=rE P n 0 0 p cs hp hm ok xs hx ox t x h;simp[jl,P.y.j.f30,iB,q]
 | none=>
  rw[h] at hF;obtain⟨h1,h2⟩:=pY h .nil;obtain⟨e,h3⟩:=xx h1;obtain⟨j,q⟩:=jZ P.y.j n 0 0 p cs (xs.map dU) hp hm ok h2 h3;rw[<-e] at q;have q2:=rE P n 0 0 p cs hp hm ok ys hy oy t x hF;simp[jl,P.y.j.f30,iB,q,q2]
theorem C6 (n k k1 k2:Nat)(xs ys:ay)(hx:xs.length<=16)(hy:ys.length<=16)(ox:∀x∈xs,Th x)(oy:∀x∈ys,Th x)(y:Bool×D)(hF:(aO cs.length [] xs).or (aO cs.length [] ys)=some y) :
  ∃j,run G (n+9) 108 [(k,wd p cs),(k1,.lst xs),(k2,.lst ys)]=.ret j (cr y) []:=by
 obtain⟨t,x⟩:=y;have q:=AV P p cs hp hm ok n 0 0 0 xs ys hx hy ox oy t x hF;have key:Ou G (run G (n+8)) [] [some (0,wd p cs),some (0,.lst xs),some (0,.lst ys),none,none] jX.body (λ_=>False) (λd=>d=cr (t,x)) λ_ _ _=>False:=by
  refine Ou.set (x:=(99,.non)) (by simp) ?_;refine Ou.tryE (Ou.exX (c:=if t then 3 else 2) (fs:=[(2,x)]) (by simp[P.y.j.f33,jl,q]) ?_);cases t with
  | true=>
   refine⟨by simp[P.c3],rfl,by simp[cg],rfl,by decide,by simp[cg],?_⟩;exact Ou.ret (x:=(0,cr (true,x))) (by simp[cg,cr]) rfl
  | false=>
   refine⟨by simp[P.y.j.v.a.c2],rfl,by simp[cg],rfl,by decide,by simp[cg],?_⟩;exact Ou.ret (x:=(0,cr (false,x))) (by simp[cg,cr]) rfl
 obtain⟨j,d,e,rfl⟩:=Ou.run (n:=n+8) (vs:=[(k,wd p cs),(k1,.lst xs),(k2,.lst ys)]) (V:=λd=>d=cr (t,x)) P.f108 rfl rfl (key.mono (λ_ h=>h.elim) (λ_ h=>h) λ_ _ _ h=>h);exact⟨j,e⟩
theorem FG (n k k1 k2:Nat)(A B:ak)(n1:A.Nodup)(n2:B.Nodup)(g1:∀g∈A,g<cs.length)(g2:∀g∈B,g<cs.length) :
  ∃j,run G (n+9) 108 [(k,wd p cs),(k1,.lst (aL A)),(k2,.lst (aL B))]=.ret j .non []:=by
 obtain⟨j0,d0,q⟩:∃j d,run G (n+8) 33 [(0,wd p cs),(0,.lst (aL A)),(0,.lst (aL B))]=.ret j d []:=by
  by_cases hr:aP cs p A=aP cs p B
  .have hs:=FR ok n1 n2 g1 g2 hr;obtain⟨es,hE⟩:=uD 0 hs.pm n2;obtain⟨j,q,_⟩:=xT P.y.j n 0 0 0 p cs A B es hp hm ok n1 g1 hs hE;exact⟨_,_,q⟩
  .cases hx:kE B A with
   | cons g r=>
    obtain⟨j,q⟩:=Fv P.y n 0 0 0 p cs A B hp hm ok n1 n2 g1 g2 hr g r hx;exact⟨_,_,q⟩
   | nil=>
    obtain⟨j,a,b,q,_⟩:=y4 P.y n 0 0 0 p cs A B hp hm ok n1 n2 g1 g2 hr hx;exact⟨_,_,q⟩
 have key:Ou G (run G (n+8)) [] [some (0,wd p cs),some (0,.lst (aL A)),some (0,.lst (aL B)),none,none] jX.body (λ_=>False) (λd=>d=.non) λ_ _ _=>False:=by
  refine Ou.set (x:=(99,.non)) (by simp) ?_;refine Ou.tryE (Ou.ex (x:=(j0,d0)) (by simp[P.y.j.f33,jl,q]) (Ou.nil ?_));exact Ou.ret (x:=(0,.non)) (by simp[frz,frz1]) rfl
 obtain⟨j,d,e,rfl⟩:=Ou.run (n:=n+8) (vs:=[(k,wd p cs),(k1,.lst (aL A)),(k2,.lst (aL B))]) (V:=λd=>d=.non) P.f108 rfl rfl (key.mono (λ_ h=>h.elim) (λ_ h=>h) λ_ _ _ h=>h);exact⟨j,e⟩
end
def qN {p:Nat}(h:1<=p/\p<=6):OkC p [0]:=sf (ns:=[0]) h.2 (by simp) (by simp; omega) (by simp)
def uA (gs:ak):∀y∈aL gs,Th y:=λy hy=>by
 obtain⟨g,_,rfl⟩:=fH hy;exact .int _
section
variable {G:Pg}(P:Pz G)
include P
def rY:bV G 17 2=some (18,lL,.ins 17 []):=by
 simp[bV,P.y.j.v.a.c17,P.y.j.v.a.f18,lL]
def rZ (n:Nat)(S:D)(p:Nat)(cs:ac)(hp:p<=6)(hm:cs.length<=6)(ok:∀c∈cs,OkC p c)(A B:ak)(n1:A.Nodup)(n2:B.Nodup)(g1:∀g∈A,g<cs.length)(g2:∀g∈B,g<cs.length)(v:Int)
  (xs ys:ay)(ox:∀x∈xs,Th x)(oy:∀x∈ys,Th x)(hx:xs.length<=9)(hy:ys.length<=9)(y:Bool×D)(hF:(aO cs.length [] xs).or (aO cs.length [] ys)=some y) :
  Ou G (run G (n+9)) [] [some (0,S),some (0,.int p),some (0,aZ cs),some (0,wd p cs),some (0,.lst [.lst (aL A),.lst (aL B)]),some (0,.int v),some (0,.lst xs),some (0,.lst ys),none,none,none,none] (nS.body.drop 9) (λ_=>False) (λd=>d=.bl true) λ_ _ _=>False:=by
 obtain⟨j1,q1⟩:=uO P (n+7) 0 99 cs.length xs (by omega);obtain⟨j2,q2⟩:=uO P (n+7) 0 99 cs.length ys (by omega);obtain⟨j3,q3⟩:=C6 P p cs hp hm ok n 0 0 0 xs ys (by omega) (by omega) ox oy y hF;obtain⟨j4,q4⟩:=FG P p cs hp hm ok n 0 0 0 A B n1 n2 g1 g2;have thy:Th y.2:=by
  cases h:aO cs.length [] xs with
  | some z=>rw[h] at hF; cases hF; exact o3 h ox
  | none=>rw[h] at hF; exact o3 (x:=y.2) (t:=y.1) hF oy
 have q5:=vM P (n+8) j3 0 y thy;have lK:eJ (λxs=>some (99,D.int xs.length)) (aZ cs)=some (99,.int cs.length):=by simp[aZ]
 have hEq:(D.lst [.lst xs,.lst ys]).eq (.lst [.lst xs,.lst ys])=true:=by simp[D.eq,D.eqs,qh ox,qh oy]
 have hPu:(D.lst [.lst xs,.lst ys]).pur 60=true:=by
  rw[nY];simp only[List.all_cons,List.all_nil,uq ox,uq oy,Bool.and_self]
 have nd:∀y,eO true (bu (some y))=fB true:=λ_=>rfl;have ev:∀(HH FF:D) (i:Int) (zs:ay) (s0 s1 s2 s4 s5 s6 s7 s10:Option D),(∀x∈zs,Th x)->zs.length<=9->bt HH (.int i)=some (0,.lst zs)->bt FF (.int i)=some (0,bu (aO cs.length [] zs)) ->
   eval G (run G (n+9)) [s0,s1,s2,some (wd p cs),s4,s5,s6,s7,some HH,some FF,s10,some (.int i)] (.and (.op .notN [(.op .ix [(.var 9),(.var 11)])]) (.op .not [(.call 76 [(.call 109 [(.var 3),(.op .ix [(.var 8),(.var 11)])]),(.op .ix [(.var 9),(.var 11)])])]))=.ok (99,.bl false):=by
  intro HH FF i zs s0 s1 s2 s4 s5 s6 s7 s10 oz hz h1 h2;cases h:aO cs.length [] zs with
  | none=>
   rw[h] at h2;simp[-bt,h2,bu]
  | some y1=>
   rw[h] at h2;obtain⟨jd,qd⟩:=yi P p cs hp hm ok (n+1) 0 0 zs (by omega) oz y1 h;have qr:=vM P (n+8) jd 0 y1 (o3 (x:=y1.2) (t:=y1.1) h oz);have nd1:=nd y1;generalize bu (some y1)=DD at h2 qr nd1;generalize cr y1=EE at qd qr;generalize D.lst zs=LZ at h1 qd;simp[-bt,-eO,h1,h2,nd1,P.f109,pC,qd,P.f76,kY,qr]
 have cc:be (compF G (run G (n+9)) [none,none,some (aZ cs)] (.one 1) [] (.call 107 [(.var 1),(.op .len [(.var 2)])])) [.lst xs,.lst ys]=.ok [(j1,bu (aO cs.length [] xs)),(j2,bu (aO cs.length [] ys))]:=by
  generalize D.lst xs=LX at q1;generalize D.lst ys=LY at q2;generalize aZ cs=K at lK;simp[-eJ,be,compF,lK,P.f107,pj,q1,q2]
 have cf:∃L:ax,be (compF G (run G (n+9)) [none,none] (.one 1) [(.op .notN [(.var 1)])] (.var 1)) [bu (aO cs.length [] xs),bu (aO cs.length [] ys)]=.ok L/\bt (.lst (L.map λx=>x.2)) (.int 0)=some (0,bu (some y)):=by
  cases h:aO cs.length [] xs with
  | some z=>
   rw[h] at hF;cases hF;cases h2:aO cs.length [] ys with
   | none=>exact⟨[(0,bu (some y))],by simp[be,compF,bu],by simp[dR]⟩
   | some z2=>exact⟨[(0,bu (some y)),(0,bu (some z2))],by simp[be,compF,bu],by simp[dR]⟩
  | none=>
   rw[h] at hF;have hF:aO cs.length [] ys=some y:=hF;rw[hF];exact⟨[(0,bu (some y))],by simp[be,compF,bu],by simp[dR]⟩
 obtain⟨L,cf1,cf2⟩:=cf;have h2S:2<=SL:=by decide
 show Ou G (run G (n+9)) [] _ (.set 8 _::.set 9 _::.set 10 _::.iff _ _ _::.fo (.one 11) .rng1 _ _::.iff _ _ _::.ret _::[]) _ _ _;refine Ou.setE (d:=.lst [.lst xs,.lst ys]) (by simp) ?_;refine Ou.setE (d:=.lst [bu (aO cs.length [] xs),bu (aO cs.length [] ys)]) (by simp[cc,h2S]) ?_;have i0:bt (.lst [.lst xs,.lst ys]) (.int 0)=some (0,.lst xs):=by simp[dR]
 have i1:bt (.lst [.lst xs,.lst ys]) (.int 1)=some (0,.lst ys):=by simp[dR]
 have f0:bt (.lst [bu (aO cs.length [] xs),bu (aO cs.length [] ys)]) (.int 0)=some (0,bu (aO cs.length [] xs)):=by simp[dR]
 have f1:bt (.lst [bu (aO cs.length [] xs),bu (aO cs.length [] ys)]) (.int 1)=some (0,bu (aO cs.length [] ys)):=by simp[dR]
 have o0:bt (.lst [.lst (aL A),.lst (aL B)]) (.int 0)=some (0,.lst (aL A)):=by simp[dR]
 have o1:bt (.lst [.lst (aL A),.lst (aL B)]) (.int 1)=some (0,.lst (aL B)):=by simp[dR]
 refine Ou.setE (d:=bu (some y)) ⟨0,?_⟩ ?_
 .generalize bu (aO cs.length [] xs)=DX at cf1;generalize bu (aO cs.length [] ys)=DY at cf1;simp[-bt,cf1,cf2,h2S]
 generalize hHH:D.lst [.lst xs,.lst ys]=HH at i0 i1 hEq hPu ⊢;generalize D.lst [bu (aO cs.length [] xs),bu (aO cs.length [] ys)]=FF at f0 f1 ⊢;refine Ou.low (a':=[some (0,S),some (0,.int p),some (0,aZ cs),some (0,wd p cs),some (0,.lst [.lst (aL A),.lst (aL B)]),some (0,.int v),some (0,.lst xs),some (0,.lst ys),some (0,HH),some (0,FF),some (0,bu (some y)),none]) (.of_eq (by simp)) ?_;refine Ou.iffN (j:=99) ?_ ?_
 .generalize bu (some y)=DD at q5 ⊢;generalize cr y=EE at q3 q5;simp[-bt,i0,i1,P.f108,jX,q3,P.f76,kY,q5]
 refine Ou.fo (λr a=>∃x11,a=[some (0,S),some (0,.int p),some (0,aZ cs),some (0,wd p cs),some (0,.lst [.lst (aL A),.lst (aL B)]),some (0,.int v),some (0,.lst xs),some (0,.lst ys),some (0,HH),some (0,FF),some (0,bu (some y)),x11]/\∀x∈r,x=.int 0\/x=.int 1) (vs:=[(99,.int 2)]) (xs:=[.int 0,.int 1]) (by simp) (wk_rng1 (p:=2) h2S) (by simpa using h2S) ⟨none,by simp,by simp⟩ ?_ ?_
 .rintro x r a ⟨x11,rfl,hr⟩;refine⟨_,iq rfl,?_⟩;rcases hr x bZ with rfl | rfl
  .exact Ou.iffN (j:=99) (ev HH FF 0 xs _ _ _ _ _ _ _ _ ox hx i0 f0) (Ou.nil ⟨_,rfl,λx h=>hr x (bQ _ h)⟩)
  .exact Ou.iffN (j:=99) (ev HH FF 1 ys _ _ _ _ _ _ _ _ oy hy i1 f1) (Ou.nil ⟨_,rfl,λx h=>hr x (bQ _ h)⟩)
 .rintro a ⟨x11,rfl,_⟩;generalize bu (some y)=DD at q5 ⊢;generalize cr y=EE at q3 q5;refine Ou.iffN (j:=99) ?_ ?_
  .generalize D.lst [.lst (aL A),.lst (aL B)]=GG at o0 o1 ⊢;simp[-bt,hHH,hEq,hPu,o0,o1,P.f108,jX,q4]
  exact Ou.ret (x:=(99,.bl true)) (by simp[-bt,i0,i1,P.f108,jX,q3,P.f76,kY,q5]) rfl
set_option maxHeartbeats 1000000 in
def Dm (n k:Nat)(ns:al)(hl:ns.length<=63):∃kk,run G (n+10) 69 [(k,.lst (ns.map .int))]=.ret kk (.bl true) []:=by
 obtain⟨d1,q1⟩:=ko P.y.j.d (n+8) 0 99 ns 0;obtain⟨d20,q20⟩:=ko P.y.j.d (n+8) 0 99 ns 20;obtain⟨d21,q21⟩:=ko P.y.j.d (n+8) 0 99 ns 21;obtain⟨d22,q22⟩:=ko P.y.j.d (n+8) 0 99 ns 22;obtain⟨p,ep,hp⟩:=dP (ns.getD 0 0);obtain⟨jc,c0,qc,hm0,ok0⟩:=zd P.y.j.d (n+7) 0 0 ns p hp;have q1':run G (n+9) 98 [(0,.lst (ns.map .int)),(99,.int 0)]=.ret d1 (.int (ns.getD 0 0)) []:=q1;have q20':run G (n+9) 98 [(0,.lst (ns.map .int)),(99,.int 20)]=.ret d20 (.int (ns.getD 20 0)) []:=q20;have q21':run G (n+9) 98 [(0,.lst (ns.map .int)),(99,.int 21)]=.ret d21 (.int (ns.getD 21 0)) []:=q21;have q22':run G (n+9) 98 [(0,.lst (ns.map .int)),(99,.int 22)]=.ret d22 (.int (ns.getD 22 0)) []:=q22;clear q1 q20 q21 q22;generalize ns.getD 0 0=u0 at q1' ep;generalize ns.getD 20 0=u20 at q20';generalize ns.getD 21 0=u21 at q21';generalize ns.getD 22 0=u22 at q22';have a1:dH (aZ c0) (.lst [.lst [.int 0]])=some (1,aZ (c0++[[0]])):=by
  unfold aZ;rw[mY (by simp; omega)];simp
 have a2:bN none (some 6) (aZ (c0++[[0]]))=some (1,aZ ((c0++[[0]]).take 6)):=by
  have:=rj ((c0++[[0]]).map λc:al=>D.lst (c.map .int)) 6;simp only[aZ,bN];rw[show (some (6:Int))=some ((6:Nat):Int) from rfl,this,IS]
 have hm:((c0++[[0]]).take 6).length<=6:=by simp; omega
 have ok:∀c∈(c0++[[0]]).take 6,OkC p c:=λc hc=>by
  rcases dN (ID hc) with h | h
  .exact ok0 c h
  .rw[Gx.mp h]; exact qN hp
 generalize c0++[[0]]=c1 at a1 a2 hm ok;generalize c1.take 6=cs at a2 hm ok;have hCS:cs.length<=SL:=ce hm (by decide);have hcv:aZ cs=.lst (cs.map λc=>D.lst (c.map .int)):=rfl;have lK:eJ (λxs=>some (99,D.int xs.length)) (aZ cs)=some (99,.int cs.length):=by simp[aZ]
 have c5:be (compF G (run G (n+9)) [none,none] (.one 1) [] (.op .list [.var 1])) (cs.map λc=>D.lst (c.map .int))=.ok (cs.map λc=>(1,.lst (c.map .int))):=
  nz λc _=>by simp[compF]
 have qw:∀k,run G (n+9) 18 [(1,.ins 17 []),(0,.int p),(k,aZ cs)]=.ret 99 .non [(100,wd p cs)]:=λk=>F6 P.y.j.v.a (n+5) 0 k p cs (by omega) hm (λc hc=>(ok c hc).gd) λc hc=>ce (ok c hc).ln (by decide);obtain⟨ja,A,qa',n1,g1⟩:=vi P.y.j (n+7) 0 99 0 8 ns cs hm;have qa:run G (n+9) 91 [(0,.lst (ns.map .int)),(99,.int 8),(0,aZ cs)]=.ret ja (.lst (aL A)) []:=qa';obtain⟨jb,B,qb',n2,g2⟩:=vi P.y.j (n+7) 0 99 0 14 ns cs hm;have qb:run G (n+9) 91 [(0,.lst (ns.map .int)),(99,.int 14),(0,aZ cs)]=.ret jb (.lst (aL B)) []:=qb';clear qa' qb';have lA:A.length<=6:=ce (gP n1 g1) hm;have lB:B.length<=6:=ce (gP n2 g2) hm;obtain⟨j1,xs,s1,ox,hx,fx⟩:=tD P (n+7) 0 d21 99 A u21 cs.length lA;obtain⟨j2,ys,s2,oy,hy,fy⟩:=tD P (n+7) 0 d22 99 B u22 cs.length lB;have fA:aO cs.length [] (aL A)=none:=wq g1 (by simpa using n1);have m3:(0:Int)<3:=by decide
 have key:Ou G (run G (n+9)) [] [some (0,.lst (ns.map .int)),none,none,none,none,none,none,none,none,none,none,none] nS.body (λ_=>False) (λd=>d=.bl true) λ_ _ _=>False:=by
  refine Ou.set (x:=(99,.int p)) (by simp[P.y.j.d.f98,gR,q1',ep]) ?_;refine Ou.set (x:=(1,aZ c1)) (by simp[-dH,P.y.j.d.f99,pb,qc,a1]) ?_;refine Ou.set (x:=(1,aZ cs)) (by simp[-bN,a2]) ?_;refine Ou.low (a':=[some (0,.lst (ns.map .int)),some (0,.int p),some (0,aZ cs),none,none,none,none,none,none,none,none,none]) (.of_eq (by simp)) ?_;refine Ou.setE (d:=wd p cs) (by simp[hcv,hCS,c5,rY P,lL,Function.comp_def]; rw[<-hcv]; simp[qw]) ?_;refine Ou.low (a':=[some (0,.lst (ns.map .int)),some (0,.int p),some (0,aZ cs),some (0,wd p cs),none,none,none,none,none,none,none,none]) (.of_eq (by simp)) ?_;refine Ou.setE (d:=.lst [.lst (aL A),.lst (aL B)]) (by simp[P.y.j.f91,oX,qa,qb]) ?_;refine Ou.set (x:=(99,.int (u20 % 3))) (by simp[P.y.j.d.f98,gR,q20']) ?_;refine Ou.low (a':=[some (0,.lst (ns.map .int)),some (0,.int p),some (0,aZ cs),some (0,wd p cs),some (0,.lst [.lst (aL A),.lst (aL B)]),some (0,.int (u20 % 3)),none,none,none,none,none,none]) (.of_eq (by simp)) ?_;refine Ou.setU (j:=0) (ds:=[.lst (aL A),.lst (aL B)]) (by simp) ?_;refine Ou.low (a':=[some (0,.lst (ns.map .int)),some (0,.int p),some (0,aZ cs),some (0,wd p cs),some (0,.lst [.lst (aL A),.lst (aL B)]),some (0,.int (u20 % 3)),some (0,.lst (aL A)),some (0,.lst (aL B)),none,none,none,none]) (.of_eq (by simp[cY])) ?_;obtain⟨yx,ex⟩:=Option.ne_none_iff_exists'.mp fx;obtain⟨yy,ey⟩:=Option.ne_none_iff_exists'.mp fy;show Ou G (run G (n+9)) [] _ (.iff (.op .ne [(.var 5),(.cst (.int 1))]) [.set 6 _] []::.iff (.op .ne [(.var 5),(.cst (.int 0))]) [.set 7 _] []::_) _ _ _;rcases dQ u20 with h | h | h
  .rw[h];refine Ou.iffT (j:=99) (by simp[D.eq]) ?_;refine Ou.set (x:=(j1,.lst xs)) (by simp[-eJ,lK,P.f106,kP,q21',P.y.j.d.f98,gR,s1]) (Ou.nil ?_);refine Ou.iffN (j:=99) (by simp[D.eq]) ?_;refine Ou.low (a':=[some (0,.lst (ns.map .int)),some (0,.int p),some (0,aZ cs),some (0,wd p cs),some (0,.lst [.lst (aL A),.lst (aL B)]),some (0,.int (0)),some (0,.lst xs),some (0,.lst (aL B)),none,none,none,none]) (.of_eq (by simp)) ?_;exact rZ P n _ p cs hp.2 hm ok A B n1 n2 g1 g2 _ xs (aL B) ox (uA B) hx (by rw[gz]; omega) yx (by rw[ex]; rfl)
  .rw[h];refine Ou.iffN (j:=99) (by simp[D.eq]) ?_;refine Ou.iffT (j:=99) (by simp[D.eq]) ?_;refine Ou.set (x:=(j2,.lst ys)) (by simp[-eJ,lK,P.f106,kP,q22',P.y.j.d.f98,gR,s2]) (Ou.nil ?_);refine Ou.low (a':=[some (0,.lst (ns.map .int)),some (0,.int p),some (0,aZ cs),some (0,wd p cs),some (0,.lst [.lst (aL A),.lst (aL B)]),some (0,.int (1)),some (0,.lst (aL A)),some (0,.lst ys),none,none,none,none]) (.of_eq (by simp)) ?_;exact rZ P n _ p cs hp.2 hm ok A B n1 n2 g1 g2 _ (aL A) ys (uA A) oy (by rw[gz]; omega) hy yy (by rw[fA,ey]; rfl)
  .rw[h];refine Ou.iffT (j:=99) (by simp[D.eq]) ?_;refine Ou.set (x:=(j1,.lst xs)) (by simp[-eJ,lK,P.f106,kP,q21',P.y.j.d.f98,gR,s1]) (Ou.nil ?_);refine Ou.iffT (j:=99) (by simp[D.eq]) ?_;refine Ou.set (x:=(j2,.lst ys)) (by simp[-eJ,lK,P.f106,kP,q22',P.y.j.d.f98,gR,s2]) (Ou.nil ?_);refine Ou.low (a':=[some (0,.lst (ns.map .int)),some (0,.int p),some (0,aZ cs),some (0,wd p cs),some (0,.lst [.lst (aL A),.lst (aL B)]),some (0,.int (2)),some (0,.lst xs),some (0,.lst ys),none,none,none,none]) (.of_eq (by simp)) ?_;exact rZ P n _ p cs hp.2 hm ok A B n1 n2 g1 g2 _ xs ys ox oy hx hy yx (by rw[ex]; rfl)
 obtain⟨j,d,e,rfl⟩:=Ou.run (n:=n+9) (vs:=[(k,.lst (ns.map .int))]) (V:=λd=>d=.bl true) P.y.j.f69 rfl rfl (key.mono (λ_ h=>h.elim) (λ_ h=>h) λ_ _ _ h=>h);exact⟨j,e⟩
end
def zW:Pz G_k13:=⟨⟨⟨⟨⟨rfl,rfl,rfl,rfl,rfl,rfl,rfl,rfl,rfl,rfl,rfl,rfl,rfl⟩,rfl,rfl,rfl⟩,⟨rfl,rfl,rfl⟩,rfl,rfl,rfl,rfl,rfl,rfl⟩,rfl⟩,rfl,rfl,rfl,rfl,rfl,rfl,rfl⟩
def FW (ns:al)(hl:ns.length<=63):∃kk,run G_k13 10 69 [(0,.lst (ns.map .int))]=.ret kk (.bl true) []:=Dm zW 0 0 ns hl
end Ip
end
section
namespace Ek13
open PySem PySem.Spec PyProof.Rows L2
noncomputable abbrev Pw:=PySem.Challenge.pw_quickchange_k13_orders_refused
noncomputable def sT (n:Nat):Stmt:=Pw.main.body.getD n (.Pass ⟨0,0,0,0⟩)
noncomputable def BX:Stmt:=sT 5
noncomputable def oE:Hd.Fd:=⟨"copied", "copied",2,41,BX,some (36,.int 0 213)⟩
def AN {W:Wd}(h:Hd.qD W.K oE=Hd.aD oE):DefAt W Ip.T_k13 Ip.iD oE.f:=Hd.xR (ps:=["value", "depth"]) (io:=[]) (t:=36) (u:=.int 0 213) (v:=(.int 0)) (dd:=(.int 0)) h rfl (Hd.qK (by kernel_rfl)) (by kernel_rfl) rfl rfl ⟨_,rfl⟩ (λ_=>.int) (λ_ _ _ _ _ _ _ _ _ _ lt s us KX hl=>by
 obtain⟨_,_,rfl⟩:=kR (show us.length=2 by simpa using hl);first | exact .of_eq rfl | exact .of_defaults rfl (KX _ _ lt) rfl rfl rfl) (λ_ _ _ _ _ _ _ _ _ _ lt s us KX hl=>by
 obtain⟨_,rfl⟩:=lm (show us.length=1 by simpa using hl);exact .of_defaults rfl (KX _ _ lt) rfl rfl rfl)
noncomputable def nI:Stmt:=sT 42
noncomputable def ua:Hd.Fd:=⟨"law", "law",69,365,nI,none⟩
def Gf:FnScope (Ip.fU (aQ nI) (b8 nI)) ["_law_script"] (b8 nI):=(Hd.qK (by kernel_rfl))
theorem D6:Ip.cF Ip.T_k13 [] nI=some Ip.nS:=by kernel_rfl
end Ek13
end
section
namespace Ek13
open PySem PySem.Spec PySem.W PySem.Calls PyProof.Rows L2 Hd
set_option maxHeartbeats 0
noncomputable def B:Tl:=⟨[⟨"is_whole", "is_whole",0,28,sT 3,none⟩,⟨"is_below", "is_below",1,35,sT 4,none⟩,oE,⟨"is_rising", "is_rising",15,186,sT 18,none⟩,⟨"are_places", "are_places",16,191,sT 19,none⟩,⟨"check_garment", "check_garment",17,198,sT 20,none⟩,⟨"bare_wearing", "bare_wearing",23,250,sT 23,none⟩,⟨"worn_in", "worn_in",24,257,sT 24,none⟩,⟨"put_on", "put_on",25,264,sT 25,none⟩,⟨"dressed", "dressed",30,271,sT 26,none⟩,⟨"exchanges_between", "exchanges_between",31,278,sT 28,none⟩,⟨"turned_pair", "turned_pair",32,285,sT 29,none⟩,⟨"set_against", "set_against",33,292,sT 30,none⟩,⟨"_law_cell", "_law_cell",98,299,sT 32,none⟩,⟨"_law_mix", "_law_mix",71,306,sT 33,none⟩,⟨"_law_whole", "_law_whole",73,313,sT 34,none⟩,⟨"_law_covers", "_law_covers",99,318,sT 35,none⟩,⟨"_law_order", "_law_order",91,325,sT 36,none⟩,⟨"_law_spoiled", "_law_spoiled",106,332,sT 37,none⟩,⟨"_law_fault", "_law_fault",107,339,sT 38,none⟩,⟨"_law_refused", "_law_refused",76,346,sT 39,none⟩,⟨"_law_against", "_law_against",108,353,sT 40,none⟩,⟨"_law_dressed", "_law_dressed",109,360,sT 41,none⟩,ua],[⟨"Wardrobe",17,241,⟨"__init__", "Wardrobe.__init__",18,210,cQ (sT 21) 0,none⟩⟩],[⟨"NoGarment",2,91,[51],⟨"__init__", "NoGarment.__init__",4,88,cQ (sT 9) 0,none⟩⟩,⟨"Worn",3,110,[51],⟨"__init__", "Worn.__init__",5,107,cQ (sT 10) 0,none⟩⟩],[("WardrobeError",0,51),("TooMuch",1,72),("NotWorn",4,129),("Covered",5,148),("NoLook",6,167),("NoDeed",7,179)],[(241,⟨"spots", "Wardrobe.spots",19,217,cQ (sT 21) 1,none⟩),(241,⟨"many", "Wardrobe.many",20,224,cQ (sT 21) 2,none⟩),(241,⟨"covers", "Wardrobe.covers",21,231,cQ (sT 21) 3,none⟩)],51,[("DEEPEST",100,196),("MOST_PLACES",6,414),("MOST_GARMENTS",6,416)],[]⟩
noncomputable def lD:au:=o5 Ip.T_k13.fl Ip.T_k13.att
def facts {w:World}{K:Frag}{mg:Str->aB}{fa:Addr}{h:Heap}(hq:B.q lD K=B.a lD Ip.G_k13)(KX:K.In h)(Gl:h.Ns mainGlobals mg)(hmg:mg "law" = some (.ref fa)) :
  ∃fd:FuncData,(∀(s:Shared) (u:Value),BindsTo s fd ⟨[u],[]⟩ [("_law_script",u)])/\∀base:Heap,K.In base->base.Ns mainGlobals mg->FnOk Pw w K mg base (dY Pw w) (rm 10) fa fd ["_law_script"] (gJ K):=by
 have A:=yI hq;obtain⟨g0,gt⟩:=Fa (T:=Ip.T_k13) (cw:=0) Ip.clL_k13 KX Gl A (λ_=>rfl) rfl (by decide +kernel) (by decide +kernel) rfl (by decide +kernel) (by decide +kernel)
  (Cn ⟨_,rfl,λh=>Hd.dA (ps:=["value"]) (io:=[]) h⟩ <| Cn ⟨_,rfl,λh=>Hd.dA (ps:=["value", "bound"]) (io:=[]) h⟩ <| Cn ⟨_,rfl,AN⟩ <| Cn ⟨_,rfl,λh=>Hd.dA (ps:=["numbers"]) (io:=[]) h⟩ <| Cn ⟨_,rfl,λh=>Hd.dA (ps:=["told", "spots"]) (io:=[]) h⟩ <| Cn ⟨_,rfl,λh=>Hd.dA (ps:=["wardrobe", "garment"]) (io:=[]) h⟩ <| Cn ⟨_,rfl,λh=>Hd.dA (ps:=["wardrobe"]) (io:=[]) h⟩ <| Cn ⟨_,rfl,λh=>Hd.dA (ps:=["wearing"]) (io:=[]) h⟩ <| Cn ⟨_,rfl,λh=>Hd.dA (ps:=["wardrobe", "wearing", "garment"]) (io:=[]) h⟩ <| Cn ⟨_,rfl,λh=>Hd.dA (ps:=["wardrobe", "order"]) (io:=[]) h⟩ <| Cn ⟨_,rfl,λh=>Hd.dA (ps:=["one", "other"]) (io:=[]) h⟩ <| Cn ⟨_,rfl,λh=>Hd.dA (ps:=["first", "second"]) (io:=[]) h⟩ <| Cn ⟨_,rfl,λh=>Hd.dA (ps:=["wardrobe", "one", "other"]) (io:=[]) h⟩ <| Cn ⟨_,rfl,λh=>Hd.dA (ps:=["_law_script", "_law_k"]) (io:=[]) h⟩ <| Cn ⟨_,rfl,λh=>Hd.dA (ps:=["_law_cell_here", "_law_salt", "_law_many"]) (io:=[]) h⟩ <| Cn ⟨_,rfl,λh=>Hd.dA (ps:=["_law_thing"]) (io:=[]) h⟩ <| Cn ⟨_,rfl,λh=>Hd.dA (ps:=["_law_script", "_law_places"]) (io:=[]) h⟩ <| Cn ⟨_,rfl,λh=>Hd.dA (ps:=["_law_script", "_law_at", "_law_covers_here"]) (io:=[]) h⟩ <| Cn ⟨_,rfl,λh=>Hd.dA (ps:=["_law_order_here", "_law_cell_here", "_law_many"]) (io:=[]) h⟩ <| Cn ⟨_,rfl,λh=>Hd.dA (ps:=["_law_order_here", "_law_many"]) (io:=[]) h⟩ <| Cn ⟨_,rfl,λh=>Hd.dA (ps:=["_law_kept", "_law_due"]) (io:=[]) h⟩ <| Cn ⟨_,rfl,λh=>Hd.dA (ps:=["_law_wardrobe", "_law_one", "_law_other"]) (io:=[]) h⟩ <| Cn ⟨_,rfl,λh=>Hd.dA (ps:=["_law_wardrobe", "_law_order_here"]) (io:=[]) h⟩ <| Cn ⟨_,rfl,λh=>Hd.dA (ps:=["_law_script"]) (io:=[]) h⟩ <| Nl)
  (Cn ⟨⟨_,rfl,λh=>Hd.dA (ps:=["self", "places", "covers"]) (io:=[0]) h⟩,rfl,_,rfl,rfl,rfl⟩ <| Nl)
  (Cn ⟨⟨_,rfl,λh=>Hd.dA (ps:=["self", "garment"]) (io:=[0]) h⟩,rfl,_,rfl,rfl,rfl⟩ <| Cn ⟨⟨_,rfl,λh=>Hd.dA (ps:=["self", "garment"]) (io:=[0]) h⟩,rfl,_,rfl,rfl,rfl⟩ <| Nl)
  (Cn ⟨_,rfl,rfl⟩ <| Cn ⟨_,rfl,rfl⟩ <| Cn ⟨_,rfl,rfl⟩ <| Cn ⟨_,rfl,rfl⟩ <| Cn ⟨_,rfl,rfl⟩ <| Cn ⟨_,rfl,rfl⟩ <| Nl)
  (Cn ⟨_,rfl,λh=>Hd.dA (ps:=["self"]) (io:=[]) h⟩ <| Cn ⟨_,rfl,λh=>Hd.dA (ps:=["self"]) (io:=[]) h⟩ <| Cn ⟨_,rfl,λh=>Hd.dA (ps:=["self", "garment"]) (io:=[]) h⟩ <| Nl) (by decide +kernel) (by simp[B,Ip.T_k13]) (by decide +kernel)
 obtain⟨a1,_,a3⟩:=A.f ua (by simp[B]);have e:=hmg.symm.trans (mg_of KX Gl a1);cases e;exact BY (n:=10) g0 gt A.l rfl rfl (w8 (IE a3).1) Gf D6 rfl (λ_ _ _ _ _ _ _=>rfl) Ip.FW
noncomputable def T0 (P:Params):BT:=(.node (boot_o_0 P) (.node (boot_o_1 P) (.node (boot_o_3 P) (.node (boot_o_7 P) .nil .nil) .nil) (.node (boot_o_5 P) (.node (boot_o_9 P) .nil .nil) .nil)) (.node (boot_o_2 P) (.node (boot_o_4 P) (.node (boot_o_8 P) .nil .nil) .nil) (.node (boot_o_6 P) (.node (boot_o_10 P) .nil .nil) .nil)))
noncomputable def tH:ao:=[2,3,15,17,18,20,21,22,24,25,27,28,29,31,32,34,35,36,37,40,41,42,49,50,51,52,55,62,63,65,66,68,69,70,71,72,75,82,84,85,87,88,89,90,91,94,101,103,104,106,107,108,109,110,113,120,122,123,125,126,127,128,129,132,139,141,142,144,145,146,147,148,151,158,160,161,163,164,165,166,167,170,177,178,179,182,185,186,187,190,191,192,194,195,197,198,206,209,210,211,213,214,216,217,218,220,221,223,224,225,227,228,230,231,232,234,235,237,238,239,240,241,242,243,246,249,250,251,253,254,256,257,258,260,261,263,264,265,267,268,270,271,272,274,275,277,278,279,281,282,284,285,286,288,289,291,292,293,295,296,298,299,300,302,303,305,306,307,309,310,312,313,314,317,318,319,321,322,324,325,326,328,329,331,332,333,335,336,338,339,340,342,343,345,346,347,349,350,352,353,354,356,357,359,360,361,364,365]
noncomputable def looseL:List Str:=(["_wall", "DEEPEST", "is_whole", "is_below", "copied", "WardrobeError", "TooMuch", "NoGarment", "Worn", "NotWorn", "Covered", "NoLook", "NoDeed", "MOST_PLACES", "MOST_GARMENTS", "is_rising", "are_places", "check_garment", "Wardrobe", "bare_wearing", "worn_in", "put_on", "dressed", "exchanges_between", "turned_pair", "set_against", "_law_cell", "_law_mix", "_law_whole", "_law_covers", "_law_order", "_law_spoiled", "_law_fault", "_law_refused", "_law_against", "_law_dressed"]:List String).map Str.ofString
noncomputable abbrev hk:Hook:=jt tH (B.q lD) (B.a lD Ip.G_k13)
noncomputable abbrev Xt (s:Shared):Bool:=xlAt (view Pw [42]) [] s&&recOk (PySem.Challenge.rw_quickchange_k13_orders_refused.row.toRowW).records s
noncomputable def sw:Thread:=⟨do let code <-moduleCode Pw.main
                                       let frame <-newBodyFrame code mainNs mainNs
                                       let _ <-run (.body (behindTheImports Pw) { scope:=Pw.main.scope,locals:=mainNs,globals:=mainNs,cells:=[],code,frame:=some frame })
                                       ret .none,
   .builtin "claim.caller" {},default,[]⟩
noncomputable def runAll (w:World)(os:OsState):=(ip through (stepOk 11 (some (.ref 6))) (stepT (denote treeTable) Pw w) 3139 ⟨T0 w.params,11,(boot_heap w.params).life,Array.mk [],boot_drawn,boot_toks,os⟩ sw).map
 (lookG (importedModules Pw.main.body) (staticsOk (importedModules Pw.main.body)) laidKept (namesBound Pw) (openSeen (view Pw [42]) looseL (importedModules Pw.main.body) Xt true) (λs=>B.q lD (oS tH s.heap)) (boot_heap w.params))
noncomputable def _root_.PySem.W.Fast.tw6865446274956416865:Program:=PySem.Challenge.pw_quickchange_k13_orders_refused
theorem _root_.PySem.W.Fast.te6865446274956416865:PySem.Challenge.pw_quickchange_k13_orders_refused=PySem.W.Fast.tw6865446274956416865:=rfl
noncomputable def dum {α:Type}(_:α):Bool:=true
def mk:dum runAll=true:=by k_qdec
theorem t0 (P:Params):absHeap (T0 P) 11 (boot_heap P).life=boot_heap P:=by kernel_rfl
def CI (w:World)(os:OsState):runAll w os=some (true,openGood (view Pw [42]) looseL,B.a lD Ip.G_k13):=by
 rw[PySem.W.Fast.te13632065720412191387];kernel_rfl
def left:LeftO Pw (view Pw [42]) looseL Xt (Hook.obs hk) (Hook.val hk) 3139:=
 Bu (T0:=T0) (m₀:=11) (ann:=some (.ref 6)) (life:=λP=>(boot_heap P).life) (by kernel_rfl) (by decide) (λs=>rfl) (λw=>by kernel_rfl) t0 CI
end Ek13
open PySem PySem.W PyProof.Rows L2 Hd in
set_option maxRecDepth 100000 in
set_option maxHeartbeats 0 in
theorem PySem.Challenge.cw_quickchange_k13_orders_refused_holds : PySem.Challenge.rw_quickchange_k13_orders_refused.Holds := by
 w_on; o_law
 refine holds_open (r:=PySem.Challenge.rw_quickchange_k13_orders_refused.row) (q:=view Ek13.Pw [42]) (loose:=Ek13.looseL) (Xt:=Ek13.Xt) (XP:=XL (view Ek13.Pw [42]) []) (Yf:=Hook.obs Ek13.hk) (Ya:=Hook.val Ek13.hk) (YP:=Hook.says Ek13.hk) (N:=3139) Ek13.left (Hook.of Ek13.hk) (Hook.keeps Ek13.hk) (λs e=>xl_of s (Bool.and_eq_true_iff.mp e).1) XL.keeps (by rfl) (by rfl) (by rfl) (λs e=>recFacts_of (Bool.and_eq_true_iff.mp e).2) (by rfl) (by first | assumption | decide +kernel) (by decide +kernel) ⟨rfl,rfl,rfl,rfl,rfl,by decide +kernel⟩ ?hw ?hc
 case hw=>w_witness2
 case hc=>
  refine zT (l:=PySem.Challenge.rw_quickchange_k13_orders_refused) (n:=63) (k:=L2.rm 10) (x := "_law_script") (CX:=λw=>L2.dY PySem.Challenge.pw_quickchange_k13_orders_refused w) (sp:=λ_ K=>L2.gJ K) rfl (by decide) rfl ⟨rfl,by decide,by decide⟩ ?F ?S ?C
  case F=>exact λw K mg fa h hq KX G hmg=>Ek13.facts hq KX G hmg
  case S=>exact λw K H a ns hl _ hS=>⟨a,ns,rfl,hS,hl,λ_=>rfl⟩
  case C=>
   rintro w H s e s' ⟨_,_,_,_,_,_,_,_,_,_,_,_,_,_,z⟩;exact z
#print axioms PySem.Challenge.cw_quickchange_k13_orders_refused_holds
end
