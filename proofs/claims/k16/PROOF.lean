import PyProof.Rows.All
import Wide.All
import OpenK.AllK
import Wide.FinOn
import PyProof.EqAt
import PyProof.EqKinds
import PyProof.TupleCall
import Lean
import PyProof.Rows.SetFrom
import PyProof.Rows.SortWalk
import KE.KDictList
import KE.KSortedM
import PyProof.WalkInts
import KE.KSortTup
import KE.KRevIter
import KE.KUnpack
import PySem.Challenge.RW_quickchange_k16_rows_refused
set_option Elab.async false
set_option linter.all false
set_option maxRecDepth 100000
set_option compiler.extract_closed false
set_option genSizeOf false
set_option bootstrap.genMatcherCode false
def tw:=@Bool.and_eq_true
def Fc:=@List.mem_singleton
def Fe:=@List.size_toArray
def Ff:=@List.getElem?_set_ne
def Fg:=@List.length_map
def Fh:=@List.map_cons
def Fi:=@beq_iff_eq
def Fj:=@List.getElem?_set_self
def Fk:=@PySem.wpAny_loadPart_at
def Fl:=@List.mem_cons
def Fm:=@Bool.false_eq_true
def Fo:=@List.nodup_append
def Fp:=@List.not_mem_nil
def Fq:=@PySem.Heap.size_push
def Fs:=@List.mem_filter
def Ft:=@List.nodup_cons
def Fu:=@List.length_set
def Fv:=@List.getElem?_map
def Fw:=@decide_eq_true_eq
def Fx:=@List.length_append
def Fy:=@Nat.zero_le
def Fz:=@PySem.wpAny_Call_Name_kw
def FB:=@decide_eq_true
def FC:=@List.mem_map_of_mem
def FD:=@List.mem_append
def FE:=@List.mem_range
def FF:=@PySem.wpAny_newObj_type
def FG:=@List.map_inj_left
def FH:=@List.getElem?_eq_getElem
def FJ:=@PyProof.Rows.callWith_type1
def FK:=@PyProof.Rows.slot_tuple_getitem
def FL:=@PySem.W.kia_one
def FM:=@Prod.mk.injEq
def FN:=@List.mem_of_getElem?
def FO:=@decide_eq_false
def FP:=@List.cons.injEq
def FQ:=@PySem.mem_of_lookup
def FR:=@PySem.wpAny_isSubtype_exc
def FS:=@List.getElem?_eq_none
def FT:=@PySem.wpAny_truthy_bool
def FU:=@PySem.wpAny_mono
def FW:=@Array.getElem?_eq_some_iff
def FX:=@Bool.or_eq_true
def FY:=@PySem.wpAny_ite_split
def FZ:=@List.drop_eq_getElem_cons
def F0:=@Option.some.injEq
def F5:=@PySem.Heap.get?_update_self
def F6:=@Nat.lt_irrefl
def F7:=@List.append_nil
def F8:=@Nat.le_succ
def F9:=@Nat.ne_of_gt
def Ga:=@PySem.Heap.get?_update_other
def Gb:=@List.getD_eq_getElem?_getD
def Gc:=@List.length_eq_one_iff
def Ge:=@beq_eq_false_iff_ne
def Gf:=@Int.toNat_of_nonneg
def Gg:=@PySem.wpAny_field
def Gh:=@List.mem_cons_self
def Gi:=@PySem.wpAny_call_entry
def Gj:=@List.getElem_mem
def Gk:=@List.mem_cons_of_mem
def Gm:=@Nat.lt_succ_of_lt
def Gn:=@PySem.F.plainAttrs_list
def Go:=@PySem.Heap.SameBut.update
def Gp:=@Nat.lt_succ_self
def Gq:=@List.isEmpty_iff
def Gr:=@List.mem_filterMap
def Gu:=@PySem.F.excBase_ValueError
def Gv:=@List.findIdx?_cons
def Gw:=@List.contains_iff_mem
def Gx:=@List.length_filter_le
def Gy:=@PySem.builtinLookup_eq_fast
def Gz:=@List.findIdx?_eq_some_iff_getElem
def GA:=@PySem.wpAny_passesOwn
def GB:=@Nat.le_of_lt
def GC:=@Ne.symm
def GD:=@PySem.codeAny_call_builtin
def GE:=@List.append_assoc
def GG:=@PySem.Around.under_plainId
def GH:=@List.ext_getElem?
def GI:=@List.getElem?_mapIdx
def GJ:=@List.mem_of_mem_take
def GK:=@PySem.wpAny_holding
def GL:=@PySem.AutoSeq1.wpAny_loadPart'
def GM:=@List.length_take
def GN:=@PyProof.Rows.callWith_builtin1
def GO:=@Bool.false_ne_true
def GP:=@PySem.Calls.spliced_cons
def GQ:=@List.contains_cons
def GR:=@PySem.W.looks_findIn
def GS:=@PySem.F.called_set
def GU:=@List.take_of_length_le
def GV:=@List.drop_of_length_le
def GW:=@List.filter_eq_nil_iff
def GX:=@PySem.codeAny_builtin
def GY:=@List.cons.inj
def GZ:=@PySem.W.methodCall_KW
def G0:=@Nat.le_of_ble_eq_true
def G1:=@Array.getElem?_toList
def G2:=@PySem.Calls.spliced_nil
def G3:=@bne_self_eq_false
def G4:=@PySem.Heap.get?_none_of_le
def G5:=@True.intro
def G6:=@List.contains_append
def G7:=@Prod.mk.inj
def G8:=@List.mem_of_mem_drop
def G9:=@Nat.ne_of_lt
def Ha:=@PySem.codeAny_mono
def Hb:=@Nat.le_of_not_lt
def He:=@List.map_map
def Hf:=@List.getElem?_append_left
def Hg:=@Array.getElem?_eq_getElem
def Hh:=@PySem.W.callWith_K0
def Hi:=@PySem.F.args_tuple_add_2
def Hj:=@PySem.wpAny_execs_nil
def Hk:=@PySem.typeLookup_type
def Hl:=@PySem.W.callWith_K
def Hm:=@Int.natCast_nonneg
def Hn:=@List.append_of_mem
def Ho:=@PySem.F.entry_tuple_add
def Hq:=@PyProof.Rows.F.plain_set_update_loop
def Hr:=@PySem.F.slot_tuple_add
def Ht:=@List.reverse_cons
def Hu:=@Bool.or_true
def Hv:=@PySem.isSubtype_type
def Hw:=@PySem.wpAny_pyIter_enum
def Hx:=@Bool.not_eq_true'
def Hy:=@PySem.wpAny_setState_of
def Hz:=@Array.getElem?_eq_none
def HA:=@PySem.F.slot_tuple_iterator_next
def HB:=@of_decide_eq_true
def HC:=@Array.getElem?_setIfInBounds_ne
def HD:=@List.length_replicate
def HE:=@PySem.Obj.isFreed_of_fields
def HF:=@List.length_drop
def HG:=@Array.toList_inj
def HH:=@Bool.not_true
def HI:=@List.map_take
def HJ:=@List.map_drop
def HK:=@List.map_append
def HL:=@PySem.W.plainGet_of
def HM:=@PySem.wpAny_setEntries_of
def HN:=@List.map_congr_left
def HP:=@List.filter_eq_self
def HQ:=@Nat.le_of_eq
def HR:=@PySem.wpAny_typeOf
def HS:=@PySem.wpAny_pyIter_tuple
def HU:=@PySem.W.kitx_tuple
def HV:=@PySem.wpAny_call
def HW:=@PySem.call_meets
def HX:=@PySem.wpAny_setField
def HY:=@PySem.Obj.data_mapFields
def HZ:=@PySem.Code.quiet_builtin
def H0:=@List.length_mapIdx
def Ia:=@List.pairwise_cons
def Ib:=@Int.emod_lt_of_pos
def Ie:=@PySem.W.kitx_list
def Ig:=@Array.toList_push
def Ih:=@List.pairwise_map
def Ii:=@Bool.false_or
def Ij:=@PySem.wpAny_standAt
def Ik:=@PySem.plainId_quiet
def Il:=@Bool.and_true
def bU:=@Gk
def bW:=@Gh
def cr:=@List.mem_append_right
def d8:=@List.mem_append_left
def bV:=@PySem.Heap.get?_push_of_some
def dD:=@PySem.Heap.get?_push_size
def bM:=@PySem.Heap.lt_size
def bD:=@Nat.le_refl
def b8:=@Nat.le_trans
def dX:=@Nat.lt_of_lt_of_le
def cY:=@G9
def cy:=@Option.some.inj
def aM:=@PySem.wpAny_bind
def bg:=@PySem.wpAny_pure
theorem cu{α:Type}{a b:α}{l:List α}:a∈b::l->a=b\/a∈l:=Fl.mp
theorem cX{α:Type}{a:α}{s t:List α}:a∈s++t->a∈s\/a∈t:=FD.mp
theorem dW{α β:Type}{b:β}{x:Option α}{f:α->Option β}:x.bind f=some b->∃a,x=some a/\f a=some b:=Option.bind_eq_some_iff.mp
theorem dG{α β:Type}{b:β}{x:Option α}{f:α->β}:x.map f=some b->∃a,x=some a/\f a=b:=Option.map_eq_some_iff.mp
theorem eO{α:Type}{i:Nat}{a:α}{l:List α}:l[i]?=some a->∃h:i<l.length,l[i]=a:=List.getElem?_eq_some_iff.mp
theorem eQ{α:Type}{p:α->Bool}{l:List α}:l.all p=true->∀x∈l,p x=true:=List.all_eq_true.mp
theorem fh{α β:Type}{b:β}{l:List α}{f:α->β}:b∈l.map f->∃a,a∈l/\f a=b:=List.mem_map.mp
abbrev bm:=PySem.W.Frag
section
abbrev _root_.aH:=Option PySem.Expr
abbrev _root_.aG:=List PySem.Stmt
abbrev _root_.aE:=Option PySem.Addr
abbrev _root_.aC:=Option Nat
abbrev _root_.aB:=Array PySem.Value
abbrev _root_.aA:=Option PySem.Value
abbrev _root_.au:=List PySem.Expr
abbrev _root_.ar:=List PySem.Str
abbrev _root_.ao:=List PySem.Value
abbrev _root_.am:=List PySem.Addr
abbrev _root_.al:=List Int
abbrev _root_.ak:=List Nat
abbrev _root_.aj:=List (Nat×Nat)
abbrev _root_.ai:=List (PySem.Str×PySem.Value)
abbrev _root_.ah:=List (PySem.Str×PySem.Addr)
abbrev _root_.af:=List (PySem.Addr×PySem.Obj)
abbrev _root_.ac:=List al
namespace L2
open PySem PySem.Spec PyProof.Rows
noncomputable abbrev eJ:=Sum Int Str
noncomputable def jh:eJ->Value->Bool
 | .inl k,v=>Value.isInt k v
 | .inr x,v=>Value.isStrOf x v
noncomputable def pJ (w:World):eJ->Int
 | .inl k=>hashInt k
 | .inr x=>hashStr w x
theorem iH:∀{k:eJ} {v:Value},jh k v=true->(∃i t,k=Sum.inl i/\v=Value.int i t)\/(∃x t,k=Sum.inr x/\v=Value.str x t)
 | .inl i,v,h=>by
  obtain⟨t,e⟩:=Value.isInt_shape (k:=i) (v:=v) h;exact .inl ⟨i,t,rfl,e⟩
 | .inr x,v,h=>by
  obtain⟨t,e⟩:=Value.isStrOf_shape (x:=x) (v:=v) h;exact .inr ⟨x,t,rfl,e⟩
def BQ (a b:Int):decide ((Sum.inl a:eJ)=Sum.inl b)=(a == b):=by
 by_cases e:a=b
 .subst e; simp
 .have h:¬(Sum.inl a:eJ)=Sum.inl b:=λq=>e (Sum.inl.inj q);rw[FO h];exact (Ge.mpr e).symm
def BF (a b:Str):decide ((Sum.inr a:eJ)=Sum.inr b)=decide (a=b):=by
 by_cases e:a=b
 .subst e; simp
 .have h:¬(Sum.inr a:eJ)=Sum.inr b:=λq=>e (Sum.inr.inj q);rw[FO h,FO e]
def C9 (a:Int)(b:Str):decide ((Sum.inl a:eJ)=Sum.inr b)=false:=FO (λq=>nomatch q)
def BP (a:Str)(b:Int):decide ((Sum.inr a:eJ)=Sum.inl b)=false:=FO (λq=>nomatch q)
noncomputable def fZ (prog:Program)(w:World):PySem.KeyKind prog w eJ where
 is:=jh
 hash:=pJ w
 inj:=λv a b ha hb=>by
  rcases iH ha with ⟨i,t,rfl,rfl⟩ | ⟨x,t,rfl,rfl⟩
  .rcases iH hb with ⟨j,u,rfl,e⟩ | ⟨y,u,rfl,e⟩
   .injection e with e1 _; rw[e1]
   .exact nomatch e
  .rcases iH hb with ⟨j,u,rfl,e⟩ | ⟨y,u,rfl,e⟩
   .exact nomatch e
   .injection e with e1 _; rw[e1]
 byValue:=λk v h=>by
  rcases iH h with ⟨i,t,rfl,rfl⟩ | ⟨x,t,rfl,rfl⟩ <;> rfl
 pyHash:=λhv h=>by
  rcases iH hv with ⟨i,t,rfl,rfl⟩ | ⟨x,t,rfl,rfl⟩
  .exact wpAny_pyHash_int h
  .exact wpAny_pyHash_str h
 eqBool:=λhu hv h=>by
  rcases iH hu with ⟨i,t,rfl,rfl⟩ | ⟨x,t,rfl,rfl⟩
  .rcases iH hv with ⟨j,u,rfl,rfl⟩ | ⟨y,u,rfl,rfl⟩
   .rw[BQ] at h; exact wpAny_eqBool_int h
   .rw[C9] at h; exact SeqAt.EqAt.int_str i t y u _ _ _ _ h
  .rcases iH hv with ⟨j,u,rfl,rfl⟩ | ⟨y,u,rfl,rfl⟩
   .rw[BP] at h; exact SeqAt.EqAt.str_int x t j u _ _ _ _ h
   .rw[BF] at h; exact wpAny_eqBool_str h
 «strs»:=λk x t v h=>by
  rcases iH h with ⟨i,u,rfl,e⟩ | ⟨y,u,rfl,e⟩
  .exact nomatch e
  .injection e with e1 _;subst e1;cases v <;> rfl
end L2
namespace L2
open PySem PySem.Spec PyProof.Rows
inductive V where
 | non | bl (b:Bool) | int (i:Int) | str (x:Str) | byt (b:Array UInt8) | flt (b:UInt64) | ref (a:Addr) | ty (n:String)
 deriving DecidableEq
abbrev _root_.av:=List V
noncomputable def RelV:V->Value->Prop
 | .non,u=>u=Value.none
 | .bl b,u=>u=Value.bool b
 | .int i,u=>∃t,u=Value.int i t
 | .str x,u=>∃t,u=Value.str x t
 | .byt b,u=>∃t,u=Value.bytes b t
 | .flt b,u=>∃t,u=Value.float b t
 | .ref a,u=>u=Value.ref a
 | .ty n,u=>u=Value.type n
abbrev Vals:av->ao->Prop:=Paired RelV
theorem Vals.length {xs:av}{us:ao}(r:Vals xs us):xs.length=us.length:=Paired.length r
theorem Vals.get:∀{xs:av} {us:ao} {i:Nat} {x:V},Vals xs us->xs[i]? = some x->∃u,us[i]? = some u/\RelV x u
 | _,_,_,_,.nil,e=>by simp at e
 | _,_,0,_,.cons r _,e=>by simp at e; subst e; exact⟨_,rfl,r⟩
 | _,_,i+1,x,.cons _ t,e=>by
  obtain⟨u,h1,h2⟩:=Vals.get (i:=i) (x:=x) t (by simpa using e);exact⟨u,by simpa using h1,h2⟩
theorem Vals.set {x:V}{u:Value}(r:RelV x u):∀{xs:av} {us:ao} (i:Nat),Vals xs us->Vals (xs.set i x) (us.set i u)
 | _,_,_,.nil=>.nil
 | _,_,0,.cons _ t=>.cons r t
 | _,_,i+1,.cons q t=>.cons q (Vals.set r i t)
theorem Vals.append:∀{xs ys:av} {us ws:ao},Vals xs us->Vals ys ws->Vals (xs++ys) (us++ws)
 | _,_,_,_,.nil,s=>s
 | _,_,_,_,.cons r t,s=>.cons r (Vals.append t s)
theorem Vals.take:∀{xs:av} {us:ao} (n:Nat),Vals xs us->Vals (xs.take n) (us.take n)
 | _,_,0,_=>.nil
 | _,_,_+1,.nil=>.nil
 | _,_,n+1,.cons r t=>.cons r (Vals.take n t)
theorem Vals.drop:∀{xs:av} {us:ao} (n:Nat),Vals xs us->Vals (xs.drop n) (us.drop n)
 | _,_,0,r=>r
 | _,_,_+1,.nil=>.nil
 | _,_,n+1,.cons _ t=>Vals.drop n t
noncomputable def RelO:Option V->aA->Prop
 | some v,some u=>RelV v u
 | none,none=>True
 | _,_=>False
def KV {κ:Type}:List (κ×V)->List (κ×Value)->Prop:=Paired λ(p:κ×V) (q:κ×Value)=>p.1=q.1/\RelV p.2 q.2
noncomputable def kV:eJ->V
 | .inl i=>.int i
 | .inr x=>.str x
inductive HO where
 | lst (xs:av)
 | tup (xs:av)
 | dK (kvs:List (eJ×V)) | dT (kvs:List (List eJ×V))
 | set (S:Int->Bool) (n:Nat)
 | ins (C dx:Addr) (fs:List (Str×V))
 | own (x:Addr)
 | exc (C:Addr) (nw:Bool) (fs:List (Str×V))
 | xd (fs:List (Str×V))
 | met (f x:Addr)
 | rng (lo hi:Int)
 | frz (o:Obj) (u:HO)
 | tbl (ps:aB)
 | ext (φ:Heap->Prop)
noncomputable abbrev Hp:=Addr->Option HO
noncomputable def upd (H:Hp)(a:Addr)(o:HO):Hp:=λb=>if b=a then some o else H b
def bX {H:Hp}{a:Addr}{o:HO}:upd H a o a=some o:=by unfold upd; rw[if_pos rfl]
def bK {H:Hp}{a b:Addr}{o:HO}(h:b≠a):upd H a o b=H b:=by unfold upd; rw[if_neg h]
def Du {H:Hp}{a:Addr}{o u:HO}:upd (upd H a o) a u=upd H a u:=by
 funext b; unfold upd; split <;> rfl
def lV {H:Hp}{a b:Addr}{o:HO}(h:H a=some o)(h':H b=none):a≠b:=by
 intro e; subst e; rw[h] at h'; cases h'
section
variable (P:Program)(w:World)
def TupN (h:Heap)(a:Addr)(items:aB):Prop:=∃o,h.get? a=some o/\o.cls=.type "tuple" /\ (∃n,o.data=.seq items n)/\o.dict=none
def TupN.tup {h:Heap}{a:Addr}{items:aB}(x:TupN h a items):IsTup h a items:=let ⟨o,e,c,d,_⟩:=x; ⟨o,e,c,d⟩
def TupN.new (h:Heap)(items:aB):TupN (h.push { cls:=.type "tuple",data:=.seq items }) h.objs.size items:=⟨_,dD _ rfl,rfl,⟨_,rfl⟩,rfl⟩
noncomputable def ObjOk (H:Hp)(h:Heap)(a:Addr):HO->Prop
 | .lst xs=>xs.length<=sizeLine/\∃(its:ao) (n:Nat),Vals xs its/\h.get? a=some { cls:=.type "list",data:=.seq its.toArray n }
 | .tup xs=>xs.length<=sizeLine/\∃its:ao,Vals xs its/\TupN h a its.toArray
 | .dK kvs=>kvs.length<=sizeLine/\(a == sysModules)=false/\∃vs,KV kvs vs/\h.DictOf (fZ P w) a vs
 | .dT kvs=>kvs.length<=sizeLine/\(a == sysModules)=false/\∃xs:List (List eJ×Addr×Value),
   Paired (λ(p:List eJ×V) (q:List eJ×Addr×Value)=>p.1=q.1/\H q.2.1=some (.tup (p.1.map kV))/\RelV p.2 q.2.2) kvs xs /\
   ∃o es ep,h.get? a=some o/\o.ExactDict/\o.data=.dict es ep/\es.toList=xs.map (entryOfKey (tupleKind (fZ P w)))/\(xs.map (·.1)).Nodup
 | .set S n=>h.SetOf (intKind P w) a S n
 | .ins C dx fs=>H dx=some (.own a)/\fs.length<=1000/\dx≠a/\h.get? a=some (PySem.W.instObj C dx) /\
   ∃mA,h.Ns1 dx mA/\(∀f,RelO (fs.lookup f) (mA f))/\PySem.Within mA (fs.map (·.1))
 | .own _=>∃o,h.get? a=some o
 | .exc C nw fs=>fs.length<=1000/\∃(o:Obj) (vs:aB),h.get? a=some o/\o.cls=.ref C/\o.data=.fields vs/\vs.size=6/\(nw=true->vs[1]? = some Value.none) /\
   ((o.dict=none/\fs=[])\/∃dx,o.dict=some dx/\H dx=some (.own a)/\dx≠a/\∃mA,h.Ns1 dx mA/\(∀f,RelO (fs.lookup f) (mA f))/\PySem.Within mA (fs.map (·.1)))
 | .xd fs=>∃mA,h.Ns1 a mA/\∀f,RelO (fs.lookup f) (mA f)
 | .rng lo hi=>∃t u v,h.get? a=some { cls:=.type "range",data:=.fields #[.int lo t,.int hi u,.int 1 v] }
 | .frz o u=>h.get? a=some o/\ObjOk H h a u
 | .tbl ps=>h.get? a=some { cls:=.none,data:=.fields ps }
 | .met f x=>h.get? a=some (PySem.W.methodObj (.ref f) (.ref x))
 | .ext φ=>φ h/\(∃o,h.get? a=some o)/\∀h1 h2:Heap,φ h1->(∀o,h1.get? a=some o->h2.get? a=some o)->φ h2
def HOk (H:Hp)(h:Heap):Prop:=∀a o,H a=some o->ObjOk P w H h a o
end
section
variable {P:Program}{w:World}{H H':Hp}{h h':Heap}{a:Addr}{o:HO}
theorem ObjOk.lt (x:ObjOk P w H h a o):a<h.objs.size:=by
 cases o with
 | lst xs=>obtain⟨_,_,_,_,e⟩:=x; exact bM e
 | tup xs=>obtain⟨_,_,_,p⟩:=x; exact p.tup.lt
 | dK kvs=>obtain⟨_,_,_,_,o,_,_,e,_⟩:=x; exact bM e
 | dT kvs=>obtain⟨_,_,_,_,o,_,_,e,_⟩:=x; exact bM e
 | set S n=>obtain⟨o,_,_,_,e,_⟩:=x; exact bM e
 | ins C dx fs=>obtain⟨_,_,_,e,_⟩:=x; exact bM e
 | own y=>obtain⟨_,e⟩:=x; exact bM e
 | exc C nw fs=>obtain⟨_,_,_,e,_⟩:=x; exact bM e
 | xd fs=>obtain⟨_,⟨_,_,_,e,_⟩,_⟩:=x; exact bM e
 | rng lo hi=>obtain⟨_,_,_,e⟩:=x; exact bM e
 | frz ob u=>obtain⟨e,_⟩:=x; exact bM e
 | tbl ps=>exact bM (show h.get? a=some _ from x)
 | met f y=>exact bM (show h.get? a=some _ from x)
 | ext φ=>obtain⟨_,⟨_,e⟩,_⟩:=x; exact bM e
theorem Paired.mapP {α β:Type}{F G:α->β->Prop}:∀{l₁:List α} {l₂:List β},Paired F l₁ l₂->(∀a b,F a b->G a b)->Paired G l₁ l₂
 | _,_,.nil,_=>.nil
 | _,_,.cons r t,f=>.cons (f _ _ r) (Paired.mapP t f)
def ObjOk.stay (x:ObjOk P w H h a o)(k:∀b u,(b=a\/H b=some (.own a))->h.get? b=some u->h'.get? b=some u)
  (ho:∀b,H b=some (.own a)->H' b=some (.own a))(ht:∀b xs,H b=some (.tup xs)->H' b=some (.tup xs)):ObjOk P w H' h' a o:=by
 induction o with
 | lst xs=>obtain⟨z,its,n,r,e⟩:=x; exact⟨z,its,n,r,k _ _ (.inl rfl) e⟩
 | tup xs=>obtain⟨z,its,r,ob,e,c⟩:=x; exact⟨z,its,r,ob,k _ _ (.inl rfl) e,c⟩
 | dK kvs=>obtain⟨z,y,vs,r,ob,es,ep,e,c⟩:=x; exact⟨z,y,vs,r,ob,es,ep,k _ _ (.inl rfl) e,c⟩
 | dT kvs=>
  obtain⟨z,y,xs,r,ob,es,ep,e,c⟩:=x;exact⟨z,y,xs,Paired.mapP r λp q z=>⟨z.1,ht _ _ z.2.1,z.2.2⟩,ob,es,ep,k _ _ (.inl rfl) e,c⟩
 | set S n=>obtain⟨ob,es,ep,t,e,c⟩:=x; exact⟨ob,es,ep,t,k _ _ (.inl rfl) e,c⟩
 | ins C dx fs=>
  obtain⟨d,z,ne,e,mA,⟨od,es,ep,e2,c⟩,r⟩:=x;exact⟨ho _ d,z,ne,k _ _ (.inl rfl) e,mA,⟨od,es,ep,k _ _ (.inr d) e2,c⟩,r⟩
 | own y=>obtain⟨ob,e⟩:=x; exact⟨ob,k _ _ (.inl rfl) e⟩
 | exc C nw fs=>
  obtain⟨z,o,vs,e,c1,c2,c3,c4,q⟩:=x;refine⟨z,o,vs,k _ _ (.inl rfl) e,c1,c2,c3,c4,?_⟩;rcases q with q | ⟨dx,d1,d2,d3,mA,⟨od,es,ep,e2,c⟩,r⟩
  .exact .inl q
  .exact .inr ⟨dx,d1,ho _ d2,d3,mA,⟨od,es,ep,k _ _ (.inr d2) e2,c⟩,r⟩
 | xd fs=>obtain⟨mA,⟨od,es,ep,e,c⟩,r⟩:=x; exact⟨mA,⟨od,es,ep,k _ _ (.inl rfl) e,c⟩,r⟩
 | rng lo hi=>obtain⟨t,u,v,e⟩:=x; exact⟨t,u,v,k _ _ (.inl rfl) e⟩
 | frz ob u ih=>obtain⟨e,q⟩:=x; exact⟨k _ _ (.inl rfl) e,ih q⟩
 | tbl ps=>
  have e:h.get? a=some { cls:=.none,data:=.fields ps }:=x;show h'.get? a=some { cls:=.none,data:=.fields ps };exact k a _ (.inl rfl) e
 | met f y=>
  have e:h.get? a=some (PySem.W.methodObj (.ref f) (.ref y)):=x;show h'.get? a=some (PySem.W.methodObj (.ref f) (.ref y));exact k a _ (.inl rfl) e
 | ext φ=>obtain⟨p,⟨o,e⟩,st⟩:=x; exact⟨st _ _ p λo q=>k _ _ (.inl rfl) q,⟨o,k _ _ (.inl rfl) e⟩,st⟩
theorem HOk.lt (x:HOk P w H h)(e:H a=some o):a<h.objs.size:=(x a o e).lt
def HOk.fresh (x:HOk P w H h)(e:h.objs.size<=a):H a=none:=by
 cases q:H a with
 | none=>rfl
 | some u=>exact absurd (dX (x.lt q) e) (F6 _)
def HOk.kept (x:HOk P w H h)(k:∀b u,h.get? b=some u->h'.get? b=some u):HOk P w H h':=λa o e=>
 (x a o e).stay (λb u _ q=>k b u q) (λ_ q=>q) λ_ _ q=>q
def HOk.laid (x:HOk P w H h)(k:∀b u,h.get? b=some u->h'.get? b=some u)(hp:h.objs.size<=a)(new:ObjOk P w (upd H a o) h' a o):HOk P w (upd H a o) h':=λb u e=>by
 have hn:=x.fresh hp;by_cases hb:b=a
 .subst hb; rw[bX] at e; cases e; exact new
 .rw[bK hb] at e;exact (x b u e).stay (λc v _ q=>k c v q) (λc q=>by rw[bK (lV q hn)]; exact q) λc xs q=>by rw[bK (lV q hn)]; exact q
end
def Rd (H:Hp)(a:Addr)(u:HO):Prop:=H a=some u\/∃o,H a=some (.frz o u)
def Rd.ok {P:Program}{w:World}{H:Hp}{h:Heap}{a:Addr}{u:HO}(r:Rd H a u)(x:HOk P w H h):ObjOk P w H h a u:=by
 rcases r with r | ⟨o,r⟩
 .exact x a u r
 .obtain⟨_,q⟩:=x a _ r;exact q
noncomputable def nA:Option HO->Prop
 | some (.lst _)=>True
 | some (.dK _)=>True
 | some (.dT _)=>True
 | some (.set _ _)=>True
 | some (.ins _ _ _)=>True
 | some (.exc _ _ _)=>True
 | some (.ext _)=>True
 | _=>False
section
variable {P:Program}{w:World}{H:Hp}{h h':Heap}{x e:Addr}{o':HO}
def HOk.write (ok:HOk P w H h)(mu:nA (H x))(he:e=x\/H e=some (.own x))(k:∀b u,b≠e->h.get? b=some u->h'.get? b=some u)(heo:∃u,h'.get? e=some u)
  (new:ObjOk P w (upd H x o') h' x o'):HOk P w (upd H x o') h':=λb u q=>by
 have nown:∀c y,H c=some (.own y)->c≠x:=λc y r z=>by subst z; rw[r] at mu; exact mu
 have ntup:∀c xs,H c=some (.tup xs)->c≠x:=λc xs r z=>by subst z; rw[r] at mu; exact mu
 by_cases hb:b=x
 .subst hb; rw[bX] at q; cases q; exact new
 .rw[bK hb] at q;by_cases hbe:b=e
  .have q':H b=some (.own x):=by
    rcases he with z | z
    .exact absurd (hbe.trans z) hb
    .rw[hbe]; exact z
   rw[q] at q'; cases q';obtain⟨v,hv⟩:=heo;exact⟨v,by rw[hbe]; exact hv⟩
  .refine (ok b u q).stay (λc v hc r=>k c v ?_ r) (λc r=>by rw[bK (nown c b r)]; exact r) λc xs r=>by rw[bK (ntup c xs r)]; exact r
   rcases hc with rfl | hc
   .exact hbe
   .rintro rfl;rcases he with z | z
    .exact nown c b hc z
    .rw[hc] at z; cases z; exact hb rfl
end
structure Un (fs ex:am)(H H':Hp)(h h':Heap):Prop where
 keep:∀b o,h.get? b=some o->H b=none->b∉fs->b∉ex->h'.get? b=some o
 slot:∀b o,h.get? b=some o->H b=none->b∈fs->b∉ex->∃sl,h'.get? b=some { o with slots:=sl }
 free:∀b o,h.get? b=some o->H b=none->b∉ex->H' b=none
 there:∀b o,h.get? b=some o->b∉ex->∃o',h'.get? b=some o'
 tups:∀b xs,H b=some (.tup xs)->H' b=some (.tup xs)
 frzs:∀b o u,H b=some (.frz o u)->H' b=some (.frz o u)
 tbls:∀b ps,H b=some (.tbl ps)->∃more,H' b=some (.tbl (ps++more))
section
variable {fs fs' ex ex':am}{H H1 H2:Hp}{h h1 h2 h':Heap}{a x e:Addr}{o:HO}
def Un.any (u:Un fs ex H H1 h h1){b:Addr}{ob:Obj}(q:h.get? b=some ob)(n:H b=none)(hx:b∉ex):∃sl,h1.get? b=some { ob with slots:=sl }:=by
 by_cases hb:b∈fs
 .exact u.slot b ob q n hb hx
 .exact⟨ob.slots,u.keep b ob q n hb hx⟩
def Un.trans (a:Un fs ex H H1 h h1)(b:Un fs ex H1 H2 h1 h2):Un fs ex H H2 h h2 where
 keep:=λc ob q n hc hx=>b.keep c ob (a.keep c ob q n hc hx) (a.free c ob q n hx) hc hx
 slot:=λc ob q n hc hx=>by
  obtain⟨sl,e1⟩:=a.slot c ob q n hc hx;obtain⟨sl',e2⟩:=b.slot c _ e1 (a.free c ob q n hx) hc hx;exact⟨sl',e2⟩
 free:=λc ob q n hx=>by
  obtain⟨o',e1⟩:=a.there c ob q hx;exact b.free c o' e1 (a.free c ob q n hx) hx
 there:=λc ob q hx=>by
  obtain⟨o',e1⟩:=a.there c ob q hx;exact b.there c o' e1 hx
 tups:=λc xs q=>b.tups c xs (a.tups c xs q)
 frzs:=λc ob xs q=>b.frzs c ob xs (a.frzs c ob xs q)
 tbls:=λc ps q=>by
  obtain⟨m1,e1⟩:=a.tbls c ps q;obtain⟨m2,e2⟩:=b.tbls c _ e1;exact⟨m1++m2,by rw[e2,Array.append_assoc]⟩
def Un.kept (k:∀b u,h.get? b=some u->h'.get? b=some u):Un fs ex H H h h':=
 ⟨λb ob q _ _ _=>k b ob q,λb ob q _ _ _=>⟨ob.slots,k b ob q⟩,λ_ _ _ n _=>n,λb ob q _=>⟨ob,k b ob q⟩,λ_ _ q=>q,λ_ _ _ q=>q,λ_ ps q=>⟨#[],by rw[q]; simp⟩⟩
def Un.refl:Un fs ex H H h h:=Un.kept λ_ _ q=>q
def Un.laid (k:∀b u,h.get? b=some u->h'.get? b=some u)(hp:h.objs.size<=a)(hn:H a=none):Un fs ex H (upd H a o) h h' where
 keep:=λb u q _ _ _=>k b u q
 slot:=λb u q _ _ _=>⟨u.slots,k b u q⟩
 free:=λb u q n _=>by rw[bK (G9 (Nat.lt_of_lt_of_le (Heap.lt_size q) hp))]; exact n
 there:=λb u q _=>⟨u,k b u q⟩
 tups:=λb xs q=>by rw[bK (lV q hn)]; exact q
 frzs:=λb u xs q=>by rw[bK (lV q hn)]; exact q
 tbls:=λb ps q=>⟨#[],by rw[bK (lV q hn),q]; simp⟩
def Un.write (mu:nA (H x))(he:e=x\/H e=some (.own x))(k:∀b u,b≠e->h.get? b=some u->h'.get? b=some u)(heo:∃u,h'.get? e=some u):Un fs ex H (upd H x o) h h':=by
 have hx:∀b,H b=none->b≠x:=λb n z=>by subst z; rw[n] at mu; exact mu
 have hb:∀b,H b=none->b≠e:=λb n z=>by
  subst z;rcases he with r | r
  .exact hx b n r
  .rw[n] at r; cases r
 have hm:∀b u,H b=some u->¬nA (some u)->b≠x:=λb u q nm z=>by subst z; rw[q] at mu; exact nm mu
 refine⟨λb u q n _ _=>k b u (hb b n) q,λb u q n _ _=>⟨u.slots,k b u (hb b n) q⟩,λb u q n _=>by rw[bK (hx b n)]; exact n,λb u q _=>?_,
  λb xs q=>by rw[bK (hm b _ q λz=>z)]; exact q,λb u xs q=>by rw[bK (hm b _ q λz=>z)]; exact q,λb ps q=>⟨#[],by rw[bK (hm b _ q λz=>z),q]; simp⟩⟩
 by_cases hbe:b=e
 .subst hbe; exact heo
 .exact⟨u,k b u hbe q⟩
end
noncomputable def ou (h:Heap)(H:Hp):am:=(List.range h.objs.size).filter λa=>(H a).isSome
noncomputable def eI (h:Heap)(H:Hp):Heap:=PySem.W.hideAll h (ou h H)
def Cz (h:Heap)(H:Hp):(eI h H).objs.size=h.objs.size:=PySem.W.hideAll_size _ _
def D6 {h:Heap}{H:Hp}{b:Addr}{o:Obj}(e:h.get? b=some o)(n:H b=none):(eI h H).get? b=some o:=
 PySem.W.hideAll_get _ e λhm=>by
  have q:(H b).isSome=true:=(Fs.mp hm).2;rw[n] at q; simp at q
def zM {h:Heap}{H:Hp}{b:Addr}{o:Obj}(e:(eI h H).get? b=some o):h.get? b=some o/\H b=none:=by
 have e':h.get? b=some o:=PySem.W.of_hideAll (ou h H) e;refine⟨e',?_⟩;cases q:H b with
 | none=>rfl
 | some x=>
  have hm:b∈ou h H:=Fs.mpr ⟨FE.mpr (bM e'),by simp[q]⟩;have z:(eI h H).get? b=none:=PySem.W.hideAll_none (ou h H) hm;rw[z] at e; cases e
noncomputable def iu (g h:Heap)(L:Addr):af:=(List.range h.objs.size).filterMap λa=>if a=L\/(g.get? a).isSome=true then none else (h.get? a).map λo=>(a,o)
noncomputable def rest (g h:Heap)(L d:Addr):af:=(iu g h L).filter λp=>decide (p.1≠d)
end L2
namespace L2
open PySem PySem.Spec PyProof.Rows
structure Mod (K:bm)(mg:Str->aA)(base:Heap):Prop where
 kin:K.In base
 glob:base.Ns mainGlobals mg
 blt:∃mb,base.Ns builtinsNs mb/\∀x:Str,x ≠ "__name__" -> mb x=bootBuiltins x
 nolimit:base.NoLimit
structure Cx where
 prog:Program
 w:World
 K:bm
 mg:Str->aA
 base:Heap
 A:Around
 N:ar
 s₀:Shared
 H₀:Hp
 env:Env
 outer:List Env
 stack:List Env
 ex:am
 fn:Str->Bool
 calm:Bool
 pn:af
 xe:Value->Shared->Prop
noncomputable def fA (l:List Env):am:=l.filterMap (·.frame)
noncomputable abbrev Cx.fs (X:Cx):am:=fA X.outer
def nn (sc:Scope)(x:Str):Prop:=sc.names.lookup x=some .local\/sc.names.lookup x=some .cell\/sc.names.lookup x=some .free
def Loc (sc:Scope)(x:Str):Prop:=sc.names.lookup x=some .local\/sc.names.lookup x=some .cell
def Look (env:Env)(h:Heap)(m:Str->aA)(x:Str)(u:Value):Prop:=
 (env.kindOf x=some .local/\m x=some u)\/((env.kindOf x=some .cell\/env.kindOf x=some .free)/\∃c,env.cells.lookup x=some c/\h.IsCell c (some u))
structure Cx.Ok (X:Cx):Prop where
 mod:Mod X.K X.mg X.base
 kind:X.env.scope.kind=.function
 glob:X.env.globals=mainGlobals
 blt:X.env.builtins=builtinsNs
 above:X.s₀.heap.objs.size<=X.env.locals
 inj:∀x y c,X.env.cells.lookup x=some c->X.env.cells.lookup y=some c->x=y
 has:∀x,(X.env.kindOf x=some .cell\/X.env.kindOf x=some .free)->∃c,X.env.cells.lookup x=some c
 cab:∀x c,X.fn x=true->X.env.cells.lookup x=some c->X.s₀.heap.objs.size<=c
 hd:X.calm=true->X.A.handled=none
 frames:X.A.frames=some X.stack
 stk:X.stack=X.outer\/(X.stack=X.env::X.outer/\X.env.frame=some X.env.locals)
 exf:∀b∈X.ex,b≠X.env.locals/\∀x c,X.env.cells.lookup x=some c->c≠b
 bs:∀b o,X.base.get? b=some o->X.s₀.heap.get? b=some o/\X.H₀ b=none
 bsz:X.base.objs.size<=X.s₀.heap.objs.size
 noex:∀b o,X.base.get? b=some o->b∉X.ex
 exfs:∀b∈X.ex,b∉X.fs
 funs:X.s₀.heap.FunFrames X.base X.outer
 frf:∀b∈X.fs,X.H₀ b=none
structure Inv (X:Cx)(pins:af)(σ:List (Option V))(H:Hp)(s:Shared):Prop where
 ok:X.Ok
 os:s.os=X.s₀.os
 bare:AllBare s.gens
 base:Un X.fs X.ex X.H₀ H X.s₀.heap s.heap
 loc:∃m,s.heap.Ns X.env.locals m/\∀(i:Nat) (x:Str) (v:V),X.N[i]? = some x->σ[i]? = some (some v)->nn X.env.scope x->∃u,RelV v u/\Look X.env s.heap m x u
 cell:∀x c,X.env.cells.lookup x=some c->∃v,s.heap.IsCell c v
 free:H X.env.locals=none
 freeC:∀x c,X.env.cells.lookup x=some c->H c=none
 pin:∀p∈X.pn++pins,s.heap.get? p.1=some p.2/\H p.1=none/\p.1≠X.env.locals/\p.1∉X.fs/\∀v,p.2.data≠.cell v
 hok:HOk X.prog X.w H s.heap
 len:σ.length=X.N.length
section
variable {X:Cx}{pins:af}{σ:List (Option V)}{H H':Hp}{s:Shared}{h':Heap}
def Cx.Ok.nofr (ok:X.Ok){b:Addr}{o:Obj}(e:X.base.get? b=some o):b∉X.fs:=λhb=>by
 have:=(ok.funs.mem hb).1;rw[e] at this; cases this
theorem Inv.bs (I:Inv X pins σ H s):∀b o,X.base.get? b=some o->s.heap.get? b=some o/\H b=none:=λb o e=>
 ⟨I.base.keep b o (I.ok.bs b o e).1 (I.ok.bs b o e).2 (I.ok.nofr e) (I.ok.noex b o e),I.base.free b o (I.ok.bs b o e).1 (I.ok.bs b o e).2 (I.ok.noex b o e)⟩
def Inv.bk (I:Inv X pins σ H s):∀b o,X.base.get? b=some o->s.heap.get? b=some o:=λb o e=>(I.bs b o e).1
theorem Inv.mod (I:Inv X pins σ H s):Mod X.K X.mg X.base:=I.ok.mod
def Inv.kIn (I:Inv X pins σ H s):X.K.In s.heap:=I.ok.mod.kin.keeps I.bk
theorem Inv.lt (I:Inv X pins σ H s):X.env.locals<s.heap.objs.size:=let ⟨_,hn,_⟩:=I.loc; hn.lt
def Inv.sz (I:Inv X pins σ H s):X.s₀.heap.objs.size<=s.heap.objs.size:=b8 I.ok.above (GB I.lt)
def Inv.nofs (I:Inv X pins σ H s){a:Addr}(h:s.heap.objs.size<=a):a∉X.fs:=λhb=>by
 obtain⟨_,o,ho,_⟩:=I.ok.funs.mem hb;exact absurd (dX (bM ho) (b8 I.sz h)) (F6 _)
def Inv.cne (I:Inv X pins σ H s):∀x c,X.env.cells.lookup x=some c->c≠X.env.locals:=λx c e z=>by
 obtain⟨v,o,ho,hd⟩:=I.cell x c e;obtain⟨m,⟨o',es,ep,ho',hd',_⟩,_⟩:=I.loc;rw[z,ho'] at ho; cases ho; rw[hd'] at hd; cases hd
theorem Inv.funs (I:Inv X pins σ H s):s.heap.FunFrames X.base X.outer:=by
 have all:∀(l:List Env),(∀b∈fA l,b∈X.fs)->X.s₀.heap.FunFrames X.base l->s.heap.FunFrames X.base l:=by
  intro l;induction l with
  | nil=>intro _ _; trivial
  | cons env r ih=>
   intro hs hl;obtain⟨hk,⟨L,o,hf,hn,ho,hd⟩,hr⟩:=hl;have hL:L∈X.fs:=hs L (by unfold fA; rw[List.filterMap_cons,hf]; exact bW);obtain⟨sl,e⟩:=I.base.slot L o ho (I.ok.frf L hL) hL λz=>I.ok.exfs L z hL;exact⟨hk,⟨L,_,hf,hn,e,hd⟩,ih (λb hb=>hs b (by unfold fA; rw[List.filterMap_cons,hf]; exact bU _ hb)) hr⟩
 exact all X.outer (λ_ hb=>hb) I.ok.funs
theorem Inv.stack (I:Inv X pins σ H s):s.heap.FunFrames X.base X.stack:=by
 rcases I.ok.stk with e | ⟨e,hf⟩
 .rw[e]; exact I.funs
 .rw[e];obtain⟨m,hn,_⟩:=I.loc;refine .cons (by rw[I.ok.kind]; decide) hf hn ?_ I.funs;exact G4 (b8 I.ok.bsz I.ok.above)
def Inv.stkSub (I:Inv X pins σ H s):∀b∈fA X.stack,b∈X.env.locals::X.fs:=λb hb=>by
 rcases I.ok.stk with e | ⟨e,hf⟩
 .rw[e] at hb; exact bU _ hb
 .rw[e] at hb;unfold fA at hb;rw[List.filterMap_cons,hf] at hb;exact hb
def Inv.stkFree (I:Inv X pins σ H s):∀b∈fA X.stack,H b=none:=λb hb=>by
 rcases cu (I.stkSub b hb) with e | hb
 .rw[e]; exact I.free
 .obtain⟨_,o,ho,_⟩:=I.ok.funs.mem hb;exact I.base.free b o ho (I.ok.frf b hb) λz=>I.ok.exfs b z hb
def Inv.step {g':Array GenState}{t':Nat}{d':Drawn}{ch:am}(I:Inv X pins σ H s)
  (hch:∀b∈ch,(b∈X.ex\/X.s₀.heap.objs.size<=b)/\b≠X.env.locals/\(∀x c,X.env.cells.lookup x=some c->c≠b)/\∀p∈X.pn++pins,p.1≠b)
  (keep:∀b o,b≠X.env.locals->b∉X.fs->b∉ch->s.heap.get? b=some o->H b=none->h'.get? b=some o)
  (slot:∀b o,b≠X.env.locals->b∈X.fs->b∉ch->s.heap.get? b=some o->H b=none->∃sl,h'.get? b=some { o with slots:=sl })(free:∀b o,b∉ch->s.heap.get? b=some o->H b=none->H' b=none)
  (there:∀b o,b∉ch->s.heap.get? b=some o->∃o',h'.get? b=some o')
  (tups:∀b xs,H b=some (.tup xs)->H' b=some (.tup xs))(frzs:∀b o u,H b=some (.frz o u)->H' b=some (.frz o u))(tbls:∀b ps,H b=some (.tbl ps)->∃more,H' b=some (.tbl (ps++more)))
  (ns:∀m,s.heap.Ns X.env.locals m->h'.Ns X.env.locals m)(hok:HOk X.prog X.w H' h')(hg:AllBare g') :
  Inv X pins σ H' { s with heap:=h',gens:=g',drawn:=d',toks:=t' }:=by
 have neL:∀b o,X.s₀.heap.get? b=some o->b≠X.env.locals:=λb o e=>cY (dX (bM e) I.ok.above);have neC:∀b o,X.s₀.heap.get? b=some o->b∉X.ex->b∉ch:=λb o e hx hb=>by
  rcases (hch b hb).1 with z | z
  .exact hx z
  .exact absurd (dX (bM e) z) (F6 _)
 have cellK:∀x c,X.env.cells.lookup x=some c->∀v,s.heap.IsCell c v->h'.IsCell c v:=λx c e v ⟨o,ho,hd⟩=>by
  have nch:c∉ch:=λz=>(hch c z).2.2.1 x c e rfl;by_cases hc:c∈X.fs
  .obtain⟨sl,q⟩:=slot c o (I.cne x c e) hc nch ho (I.freeC x c e);exact⟨_,q,hd⟩
  .exact⟨o,keep c o (I.cne x c e) hc nch ho (I.freeC x c e),hd⟩
 refine⟨I.ok,I.os,hg,⟨λb o e n hb hx=>?_,λb o e n hb hx=>?_,λb o e n hx=>?_,λb o e hx=>?_,λb xs e=>tups b xs (I.base.tups b xs e),λb o xs e=>frzs b o xs (I.base.frzs b o xs e),λb ps e=>?_⟩,?_,λx c e=>?_,?_,λx c e=>?_,λp hp=>?_,hok,I.len⟩
 .exact keep b o (neL b o e) hb (neC b o e hx) (I.base.keep b o e n hb hx) (I.base.free b o e n hx)
 .obtain⟨sl,e1⟩:=I.base.slot b o e n hb hx;obtain⟨sl',e2⟩:=slot b _ (neL b o e) hb (neC b o e hx) e1 (I.base.free b o e n hx);exact⟨sl',e2⟩
 .obtain⟨o',e1⟩:=I.base.there b o e hx;exact free b o' (neC b o e hx) e1 (I.base.free b o e n hx)
 .obtain⟨o',e1⟩:=I.base.there b o e hx;exact there b o' (neC b o e hx) e1
 .obtain⟨m1,e1⟩:=I.base.tbls b ps e;obtain⟨m2,e2⟩:=tbls b _ e1;exact⟨m1++m2,by rw[e2,Array.append_assoc]⟩
 .obtain⟨m,hn,hl⟩:=I.loc;refine⟨m,ns m hn,λi x v e1 e2 e3=>?_⟩;obtain⟨u,r,l⟩:=hl i x v e1 e2 e3;refine⟨u,r,?_⟩;rcases l with l | ⟨k,c,e,z⟩
  .exact .inl l
  .exact .inr ⟨k,c,e,cellK x c e _ z⟩
 .obtain⟨v,z⟩:=I.cell x c e;exact⟨v,cellK x c e v z⟩
 .obtain⟨m,⟨o,_,_,ho,_⟩,_⟩:=I.loc;exact free _ o (λz=>(hch _ z).2.1 rfl) ho I.free
 .obtain⟨v,o,ho,hd⟩:=I.cell x c e;exact free c o (λz=>(hch c z).2.2.1 x c e rfl) ho (I.freeC x c e)
 .obtain⟨e,n,ne,nf,d⟩:=I.pin p hp;have nch:p.1∉ch:=λz=>(hch p.1 z).2.2.2 p hp rfl;exact⟨keep p.1 p.2 ne nf nch e n,free p.1 p.2 nch e n,ne,nf,d⟩
def Inv.un {t':Nat}(I:Inv X pins σ H s)(u:Un X.fs [] H H' s.heap h')(hok:HOk X.prog X.w H' h'):Inv X pins σ H' { s with heap:=h',toks:=t' }:=by
 obtain⟨m,⟨o,es,ep,ho,r⟩,_⟩:=id I.loc;obtain⟨sl,hL⟩:=u.any ho I.free (by simp);exact I.step (g':=s.gens) (d':=s.drawn) (ch:=[]) (λ_ z=>nomatch z) (λb o _ hb _ e n=>u.keep b o e n hb (by simp)) (λb o _ hb _ e n=>u.slot b o e n hb (by simp)) (λb o _ e n=>u.free b o e n (by simp)) (λb o _ e=>u.there b o e (by simp)) u.tups u.frzs u.tbls (λm' hm=>by
  obtain⟨o',es',ep',ho',r'⟩:=hm;rw[ho] at ho'; cases ho';exact⟨_,es',ep',hL,r'⟩) hok I.bare
def Inv.call {g':Array GenState}{t':Nat}{d':Drawn}{ch:am}(I:Inv X pins σ H s)(u:Un (fA X.stack) ch H H' s.heap h')(hok:HOk X.prog X.w H' h')(hg:AllBare g')
  (hch:∀b∈ch,(b∈X.ex\/X.s₀.heap.objs.size<=b)/\b≠X.env.locals/\(∀x c,X.env.cells.lookup x=some c->c≠b)/\∀p∈X.pn++pins,p.1≠b) :
  Inv X pins σ H' { s with heap:=h',gens:=g',drawn:=d',toks:=t' }:=by
 obtain⟨m,⟨o,es,ep,ho,r⟩,_⟩:=id I.loc;obtain⟨sl,hL⟩:=u.any ho I.free λz=>(hch _ z).2.1 rfl;exact I.step (ch:=ch) hch (λb o hL hb hc e n=>u.keep b o e n (λz=>(cu (I.stkSub b z)).elim hL hb) hc) (λb o _ _ hc e n=>u.any e n hc) (λb o hc e n=>u.free b o e n hc) (λb o hc e=>u.there b o e hc) u.tups u.frzs u.tbls (λm' hm=>by
  obtain⟨o',es',ep',ho',r'⟩:=hm;rw[ho] at ho'; cases ho';exact⟨_,es',ep',hL,r'⟩) hok hg
def Inv.turned {t':Nat}{it:Addr}(I:Inv X pins σ H s)(k:∀b o,b≠it->s.heap.get? b=some o->h'.get? b=some o)(hn:H it=none)(hL:it≠X.env.locals)
  (h1:it∈X.ex\/X.s₀.heap.objs.size<=it)(h2:∀x c,X.env.cells.lookup x=some c->c≠it)(h3:∀p∈X.pn++pins,p.1≠it):Inv X pins σ H { s with heap:=h',toks:=t' }:=by
 have nit:∀b u,H b=some u->b≠it:=λb u e z=>by rw[z,hn] at e; cases e
 refine I.step (g':=s.gens) (d':=s.drawn) (ch:=[it]) (λb hb=>?_) (λb o _ _ hc e _=>k b o (λz=>hc (by simp[z])) e) (λb o _ _ hc e _=>⟨o.slots,k b o (λz=>hc (by simp[z])) e⟩) (λ_ _ _ _ n=>n)
  (λb o hc e=>⟨o,k b o (λz=>hc (by simp[z])) e⟩) (λ_ _ e=>e) (λ_ _ _ e=>e) (λb ps e=>⟨#[],by rw[e]; simp⟩) (λm hm=>?_) (λb u e=>?_) I.bare
 .have e:b=it:=by simpa using hb
  subst e;exact⟨h1,hL,h2,h3⟩
 .obtain⟨o,es,ep,ho,r⟩:=hm;exact⟨o,es,ep,k _ o (GC hL) ho,r⟩
 .refine (I.hok b u e).stay (λc v hc q=>k c v ?_ q) (λ_ q=>q) λ_ _ q=>q;rcases hc with z | z
  .rw[z]; exact nit b u e
  .exact nit c _ z
def Inv.tok (I:Inv X pins σ H s)(t:Nat):Inv X pins σ H { s with toks:=t }:=I.un (h':=s.heap) (t':=t) Un.refl I.hok
theorem Inv.kept {t':Nat}(I:Inv X pins σ H s)(k:∀b u,s.heap.get? b=some u->h'.get? b=some u):Inv X pins σ H { s with heap:=h',toks:=t' }:=I.un (Un.kept k) (I.hok.kept k)
theorem Inv.laid {a:Addr}{o:HO}{t':Nat}(I:Inv X pins σ H s)(k:∀b u,s.heap.get? b=some u->h'.get? b=some u)(hp:s.heap.objs.size<=a)(new:ObjOk X.prog X.w (upd H a o) h' a o) :
  Inv X pins σ (upd H a o) { s with heap:=h',toks:=t' }:=I.un (Un.laid k hp (I.hok.fresh hp)) (I.hok.laid k hp new)
theorem Inv.write {x e:Addr}{o:HO}{t':Nat}(I:Inv X pins σ H s)(mu:nA (H x))(he:e=x\/H e=some (.own x))(k:∀b u,b≠e->s.heap.get? b=some u->h'.get? b=some u)(heo:∃u,h'.get? e=some u)
  (new:ObjOk X.prog X.w (upd H x o) h' x o):Inv X pins σ (upd H x o) { s with heap:=h',toks:=t' }:=I.un (Un.write mu he k heo) (I.hok.write mu he k heo new)
def Inv.pins_of {pins':af}(I:Inv X pins σ H s)(h:∀p∈pins',s.heap.get? p.1=some p.2/\H p.1=none/\p.1≠X.env.locals/\p.1∉X.fs/\∀v,p.2.data≠.cell v):Inv X pins' σ H s:=
 ⟨I.ok,I.os,I.bare,I.base,I.loc,I.cell,I.free,I.freeC,λp hp=>(cX hp).elim (λz=>I.pin p (d8 _ z)) (h p),I.hok,I.len⟩
def nS {N:ar}(hN:N.Nodup){i j:Nat}{x:Str}(a:N[i]? = some x)(b:N[j]? = some x):i=j:=by
 obtain⟨h1,e1⟩:=eO a;obtain⟨h2,e2⟩:=eO b;exact (List.getElem_inj hN).mp (e1.trans e2.symm)
def wK {M:Model}{A:Around}{E:Value->Shared->Prop}{i:Nat}{x:Str}{v:V}{u:Value}{Q:Unit->Shared->Prop}(I:Inv X pins σ H s)(hN:X.N.Nodup)(hi:X.N[i]? = some x)(hx:Loc X.env.scope x)(r:RelV v u)
  (h:∀s',Inv X pins (σ.set i (some v)) H s'->(∃a,Heap.SameBut a s.heap s'.heap/\(a=X.env.locals\/X.env.cells.lookup x=some a))->Q () s')(hf:X.fn x=true\/X.env.scope.names.lookup x=some .local:=by first | exact .inl rfl | exact .inr rfl | assumption):wpAny M A (storeName X.env x u) Q E s:=by
 obtain⟨m,hn,hl⟩:=id I.loc;have hcls:(X.env.scope.kind == .class||(X.env.scope.kind == .module&&X.env.locals != X.env.globals))=false:=by rw[I.ok.kind]; rfl
 have hiσ:i < σ.length:=by rw[I.len]; exact (eO hi).1
 have cne:=I.cne;have tracked:∀{a:Addr} {h':Heap},(∃o,s.heap.get? a=some o/\H a=none)->Heap.SameBut a s.heap h'->HOk X.prog X.w H h':=λ{a h'} ha hs b ob e=>by
  obtain⟨_,_,hfree⟩:=ha;refine (I.hok b ob e).stay (λc w' hc q=>(hs.2 c ?_).trans q) (λ_ q=>q) λ_ _ q=>q;rintro rfl;rcases hc with rfl | hc
  .rw[hfree] at e; cases e
  .rw[hfree] at hc; cases hc
 rcases hx with hk | hk
 .refine wpAny_storeName_local hk hn (λh' hn' hs=>?_) hcls;obtain⟨oL,_,_,hoL,_⟩:=id hn;refine h _ ⟨I.ok,I.os,I.bare,⟨λb o e n hb hx=>?_,λb o e n hb hx=>?_,I.base.free,λb o e hx=>?_,I.base.tups,I.base.frzs,I.base.tbls⟩,⟨_,hn',λj y v' e1 e2 e3=>?_⟩,λy c e=>?_,I.free,I.freeC,λp hp=>?_,tracked ⟨oL,hoL,I.free⟩ hs,by simpa using I.len⟩ ⟨_,hs,.inl rfl⟩
  .exact (hs.2 b (cY (dX (bM e) I.ok.above))).trans (I.base.keep b o e n hb hx)
  .obtain⟨sl,e1⟩:=I.base.slot b o e n hb hx;exact⟨sl,(hs.2 b (cY (dX (bM e) I.ok.above))).trans e1⟩
  .obtain⟨o',e1⟩:=I.base.there b o e hx;exact⟨o',(hs.2 b (cY (dX (bM e) I.ok.above))).trans e1⟩
  .by_cases hj:j=i
   .subst hj;rw[hi] at e1; cases e1;rw[Fj hiσ] at e2;cases e2;exact⟨u,r,.inl ⟨hk,by simp⟩⟩
   .rw[Ff (GC hj)] at e2;obtain⟨u',r',q⟩:=hl j y v' e1 e2 e3;refine⟨u',r',?_⟩;rcases q with ⟨k,e⟩ | ⟨k,c,e,z⟩
    .refine .inl ⟨k,?_⟩;have:y≠x:=λe=>hj (nS hN e1 (e ▸ hi));simp[this,e]
    .exact .inr ⟨k,c,e,z.sameBut hs (cne y c e)⟩
  .obtain⟨w',z⟩:=I.cell y c e;exact⟨w',z.sameBut hs (cne y c e)⟩
  .obtain⟨e,n,ne,nf,d⟩:=I.pin p hp;exact⟨(hs.2 p.1 ne).trans e,n,ne,nf,d⟩
 .have hfn:X.fn x=true:=by
   rcases hf with z | z
   .exact z
   .rw[z] at hk; cases hk
  obtain⟨c,hc⟩:=I.ok.has x (.inl hk);obtain⟨w',z⟩:=I.cell x c hc;refine wpAny_storeName_cell I.ok.kind hk hc z (λh' hc' hs=>?_);obtain⟨oc,hoc,hocd⟩:=id z;refine h { s with heap:=h' } ⟨I.ok,I.os,I.bare,⟨λb o e n hb hx=>?_,λb o e n hb hx=>?_,I.base.free,λb o e hx=>?_,I.base.tups,I.base.frzs,I.base.tbls⟩,⟨m,hn.sameBut hs (GC (cne x c hc)),λj y v' e1 e2 e3=>?_⟩,λy c' e=>?_,I.free,I.freeC,λp hp=>?_,tracked ⟨oc,hoc,I.freeC x c hc⟩ hs,by simpa using I.len⟩ ⟨c,hs,.inr hc⟩
  .exact (hs.2 b (cY (dX (bM e) (I.ok.cab x c hfn hc)))).trans (I.base.keep b o e n hb hx)
  .obtain⟨sl,e1⟩:=I.base.slot b o e n hb hx;exact⟨sl,(hs.2 b (cY (dX (bM e) (I.ok.cab x c hfn hc)))).trans e1⟩
  .obtain⟨o',e1⟩:=I.base.there b o e hx;exact⟨o',(hs.2 b (cY (dX (bM e) (I.ok.cab x c hfn hc)))).trans e1⟩
  .by_cases hj:j=i
   .subst hj;rw[hi] at e1; cases e1;rw[Fj hiσ] at e2;cases e2;exact⟨u,r,.inr ⟨.inl hk,c,hc,hc'⟩⟩
   .rw[Ff (GC hj)] at e2;obtain⟨u',r',q⟩:=hl j y v' e1 e2 e3;refine⟨u',r',?_⟩;rcases q with q | ⟨k,c',e,z'⟩
    .exact .inl q
    .refine .inr ⟨k,c',e,z'.sameBut hs ?_⟩;rintro rfl;exact hj (nS hN e1 (I.ok.inj _ _ _ e hc ▸ hi))
  .by_cases hcc:c'=c
   .subst hcc; exact⟨_,hc'⟩
   .obtain⟨w2,z2⟩:=I.cell y c' e;exact⟨w2,z2.sameBut hs hcc⟩
  .obtain⟨e,n,ne,nf,d⟩:=I.pin p hp;refine⟨(hs.2 p.1 ?_).trans e,n,ne,nf,d⟩;intro q;rw[q,hoc] at e;have q':oc=p.2:=cy e;exact d w' (by rw[<-q']; exact hocd)
def rZ {M:Model}{A:Around}{E:Value->Shared->Prop}{i:Nat}{x:Str}{v:V}{u:Value}{Q:Unit->Shared->Prop}(I:Inv X pins σ H s)(hN:X.N.Nodup)(hi:X.N[i]? = some x)(hx:Loc X.env.scope x)(r:RelV v u)
  (h:∀s',Inv X pins (σ.set i (some v)) H s'->Q () s')(hf:X.fn x=true\/X.env.scope.names.lookup x=some .local:=by first | exact .inl rfl | exact .inr rfl | assumption):wpAny M A (storeName X.env x u) Q E s:=
 wK I hN hi hx r (λs' I' _=>h s' I') hf
def Inv.call' {s':Shared}{ch:am}(I:Inv X pins σ H s)(ho:s'.os=s.os)(u:Un (fA X.stack) ch H H' s.heap s'.heap)(hok:HOk X.prog X.w H' s'.heap)(hg:AllBare s'.gens)
  (hch:∀b∈ch,(b∈X.ex\/X.s₀.heap.objs.size<=b)/\b≠X.env.locals/\(∀x c,X.env.cells.lookup x=some c->c≠b)/\∀p∈X.pn++pins,p.1≠b):Inv X pins σ H' s':=by
 obtain⟨h',g',d',t',o'⟩:=s';have e:o'=s.os:=ho;subst e;exact I.call (g':=g') (t':=t') (d':=d') u hok hg hch
end
abbrev XK:=Value->aE->Hp->Prop
noncomputable abbrev St:=List (Option V)
abbrev VK:=V->Hp->Prop
abbrev TE:=St->Hp->VK->Prop
abbrev TT:=St->Hp->(Bool->Hp->Prop)->Prop
abbrev TA:=St->Hp->(av->Hp->Prop)->Prop
structure Ends where
 nx:St->Hp->Prop
 rt:VK
 bk:St->Hp->Prop:=λ_ _=>False
 ct:St->Hp->Prop:=λ_ _=>False
abbrev TS:=Ends->St->Hp->Prop
def EP (X:Cx)(pins:af)(σ:St)(Q:VK)(u:Value)(s':Shared):Prop:=∃v H',Inv X pins σ H' s'/\RelV v u/\Q v H'
def TP (X:Cx)(pins:af)(σ:St)(Q:Bool->Hp->Prop)(b:Bool)(s':Shared):Prop:=∃H',Inv X pins σ H' s'/\Q b H'
def AP (X:Cx)(pins:af)(σ:St)(Q:av->Hp->Prop)(us:ao)(s':Shared):Prop:=∃vs H',Inv X pins σ H' s'/\Vals vs us/\Q vs H'
def SP (X:Cx)(pins:af)(D:Ends)(f:Flow)(s':Shared):Prop:=
 match f with
 | .next=>∃σ' H',Inv X pins σ' H' s'/\D.nx σ' H'
 | .brk=>∃σ' H',Inv X pins σ' H' s'/\D.bk σ' H'
 | .cont=>∃σ' H',Inv X pins σ' H' s'/\D.ct σ' H'
 | .ret u=>∃v σ' H',Inv X pins σ' H' s'/\RelV v u/\D.rt v H'
def PE (X:Cx)(e:Expr)(t:TE):Prop:=
 ∀(pins:af) (s:Shared) (σ:St) (H:Hp) (Q:VK),Inv X pins σ H s->t σ H Q->wpAny (model X.prog X.w) X.A (eval e X.env) (EP X pins σ Q) X.xe s
def PT (X:Cx)(e:Expr)(t:TT):Prop:=
 ∀(pins:af) (s:Shared) (σ:St) (H:Hp) (Q:Bool->Hp->Prop),Inv X pins σ H s->t σ H Q->wpAny (model X.prog X.w) X.A (isTrue e X.env (eval e X.env)) (TP X pins σ Q) X.xe s
def PW (X:Cx)(e:Expr)(t:TT):Prop:=
 ∀(whole:Sem Value) (pins:af) (s:Shared) (σ:St) (H:Hp) (Q:Bool->Hp->Prop),Inv X pins σ H s->t σ H Q->wpAny (model X.prog X.w) X.A (isTrue e X.env whole) (TP X pins σ Q) X.xe s
def PW.pt {X:Cx}{e:Expr}{t:TT}(h:PW X e t):PT X e t:=h _
def PA (X:Cx)(es:au)(t:TA):Prop:=
 ∀(pos:Pos) (pins:af) (s:Shared) (σ:St) (H:Hp) (Q:av->Hp->Prop),Inv X pins σ H s->t σ H Q->wpAny (model X.prog X.w) X.A (spliced (backTo pos (starEach es X.env))) (AP X pins σ Q) X.xe s
def PS (X:Cx)(st:Stmt)(t:TS):Prop:=
 ∀(pins:af) (s:Shared) (σ:St) (H:Hp) (D:Ends),Inv X pins σ H s->t D σ H->wpAny (model X.prog X.w) X.A (exec st X.env) (SP X pins D) X.xe s
def PSs (X:Cx)(st:aG)(t:TS):Prop:=
 ∀(pins:af) (s:Shared) (σ:St) (H:Hp) (D:Ends),Inv X pins σ H s->t D σ H->wpAny (model X.prog X.w) X.A (execs st X.env) (SP X pins D) X.xe s
def bh {α:Type}{t:Sem α}{Q Q':α->Shared->Prop}{M:Model}{A:Around}{E:Value->Shared->Prop}{s:Shared}(h:wpAny M A t Q E s)(hQ:∀a s,Q a s->Q' a s):wpAny M A t Q' E s:=FU h hQ λ_ _ x=>x
end L2
namespace L2
open PySem PySem.Spec PyProof.Rows
section
variable {X:Cx}
def du (i:Nat):TE:=λσ H Q=>∃v,σ[i]? = some (some v)/\Q v H
def tC (v:V):TE:=λ_ H Q=>Q v H
def nV {i:Nat}{x:Str}{pos:Pos}(hN:X.N[i]? = some x)(hv:nn X.env.scope x)(hd:(x == ("__debug__" : Str))=false:=by decide)(hcd:(x == ("__classdict__" : Str))=false:=by decide):PE X (.Name x pos) (du i):=by
 intro pins s σ H Q I h;obtain⟨v,e,h⟩:=h;obtain⟨m,hn,hl⟩:=I.loc;obtain⟨u,r,l⟩:=hl i x v hN e hv;have fin:EP X pins σ Q u s:=⟨v,H,I,r,h⟩
 rcases l with ⟨hk,hm⟩ | ⟨hk,c,hc,hcell⟩
 .exact wpAny_Name (wpAny_loadName_local I.ok.kind hk hn hm fin) hd
 .rcases hk with hk | hk
  .exact wpAny_Name (wpAny_loadName_cell I.ok.kind hk hc hcell fin) hd
  .exact wpAny_Name (wpAny_loadName_free I.ok.kind hk hc hcell fin hcd) hd
def B0 {i j pos}:PE X (.Constant (.int i) j pos) (tC (.int i)):=λ_ _ _ H _ I h=>wpAny_Constant_int ⟨.int i,H,I.tok _,⟨_,rfl⟩,h⟩
def A5 {b j pos}:PE X (.Constant (.bool b) j pos) (tC (.bl b)):=λ_ _ _ H _ I h=>Constant_bool ⟨.bl b,H,I,rfl,h⟩
def y3 {j pos}:PE X (.Constant .none j pos) (tC .non):=λ_ _ _ H _ I h=>Constant_none ⟨.non,H,I,rfl,h⟩
def tm {x j pos}:PE X (.Constant (.str x) j pos) (tC (.str x)):=λ_ _ _ H _ I h=>Calls.Constant_str ⟨.str x,H,I.tok _,⟨_,rfl⟩,h⟩
def Gl (X:Cx)(x:Str):Prop:=X.env.kindOf x=some .globalImplicit
def hX {E:Value->Shared->Prop}{pins:af}{s:Shared}{σ:St}{H:Hp}{x:Str}{u:Value}{pos:Pos}{Q:Value->Shared->Prop}(I:Inv X pins σ H s)(hg:Gl X x)(hm:X.mg x=some u)(h:Q u s)
  (hd:(x == ("__debug__" : Str))=false:=by decide):wpAny (model X.prog X.w) X.A (eval (.Name x pos) X.env) Q E s:=
 Calls.Name_function_global I.ok.kind hg (Calls.loadGlobal_global (by rw[I.ok.glob]; exact I.mod.glob.keeps I.bk) hm h) hd
def gW {E:Value->Shared->Prop}{pins:af}{s:Shared}{σ:St}{H:Hp}{x:Str}{u:Value}{pos:Pos}{Q:Value->Shared->Prop}(I:Inv X pins σ H s)(hg:Gl X x)(hm:X.mg x=none)(hv:bootBuiltins x=some u)(h:Q u s)
  (hn:x ≠ "__name__":=by decide)(hd:(x == ("__debug__" : Str))=false:=by decide):wpAny (model X.prog X.w) X.A (eval (.Name x pos) X.env) Q E s:=by
 obtain⟨mb,h1,h2⟩:=I.mod.blt;exact Calls.Name_function_global I.ok.kind hg (Calls.loadGlobal_builtin (by rw[I.ok.glob]; exact I.mod.glob.keeps I.bk) hm (by rw[I.ok.blt]; exact h1.keeps I.bk) ((h2 x hn).trans hv) h) hd
def sj {x:Str}{v:V}{u:Value}{pos:Pos}(hg:Gl X x)(hm:X.mg x=some u)(r:RelV v u)(hd:(x == ("__debug__" : Str))=false:=by decide):PE X (.Name x pos) (tC v):=
 λ_ _ _ H _ I h=>hX I hg hm ⟨v,H,I,r,h⟩ hd
def EU {x:Str}{v:V}{u:Value}{pos:Pos}(hg:Gl X x)(hm:X.mg x=none)(hv:bootBuiltins x=some u)(r:RelV v u)(hn:x ≠ "__name__":=by decide)(hd:(x == ("__debug__" : Str))=false:=by decide):PE X (.Name x pos) (tC v):=
 λ_ _ _ H _ I h=>gW I hg hm hv ⟨v,H,I,r,h⟩ hn hd
variable {a b:Expr}{ta tb:TE}{pos:Pos}
def PC (X:Cx)(op:CmpOp)(a b:Expr)(t:TE):Prop:=
 ∀(pins:af) (s:Shared) (σ:St) (H:Hp) (Q:VK),Inv X pins σ H s->t σ H Q ->
  wpAny (model X.prog X.w) X.A (eval a X.env) (λv s₁=>wpAny (model X.prog X.w) X.A (eval b X.env) (λu s₂=>wpAny (model X.prog X.w) X.A (compareOp op v u) (EP X pins σ Q) X.xe s₂) X.xe s₁) X.xe s
def sB (b:Expr){op:CmpOp}(h:op≠.In)(h2:op≠.NotIn):behindInMarks op b=false:=by
 have e1:(op == CmpOp.In)=false:=by cases op <;> first | rfl | exact absurd rfl h
 have e2:(op == CmpOp.NotIn)=false:=by cases op <;> first | rfl | exact absurd rfl h2
 cases b <;> simp[behindInMarks,e1,e2]
def qp (ta:TE):TE:=λσ H Q=>ta σ H λx H1=>Q (.bl (decide (x=.non))) H1
def mU (ta:TE):TE:=λσ H Q=>ta σ H λx H1=>Q (.bl (!decide (x=.non))) H1
def RelV.none_iff {x:V}{v:Value}(r:RelV x v):(v == Value.none)=decide (x=.non):=by
 cases x with
 | non=>cases r; rfl
 | bl _=>cases r; rfl
 | int _=>obtain⟨t,rfl⟩:=r; rfl
 | str _=>obtain⟨t,rfl⟩:=r; rfl
 | byt _=>obtain⟨t,rfl⟩:=r; rfl
 | flt _=>obtain⟨t,rfl⟩:=r; rfl
 | ref _=>cases r; rfl
 | ty _=>cases r; rfl
def tM {j pos'}(ha:PE X a ta):PC X .Is a (.Constant .none j pos') (qp ta):=by
 intro pins s σ H Q I h;refine bh (ha pins s σ H _ I h) λv s1 hZz=>?_;obtain⟨x,H1,I1,r1,q1⟩:=hZz;exact Constant_none (is_none_gen ⟨.bl _,H1,I1,by rw[r1.none_iff]; rfl,q1⟩)
def uQ {j pos'}(ha:PE X a ta):PC X .IsNot a (.Constant .none j pos') (mU ta):=by
 intro pins s σ H Q I h;refine bh (ha pins s σ H _ I h) λv s1 hZz=>?_;obtain⟨x,H1,I1,r1,q1⟩:=hZz;exact Constant_none (isnot_none_gen ⟨.bl _,H1,I1,by rw[r1.none_iff]; rfl,q1⟩)
def tB (t:TE):TT:=λσ H Q=>t σ H λx H1=>∃c,x=.bl c/\Q c H1
def wj {op:CmpOp}{t:TE}(h:PC X op a b t)(h1:behindInMarks op b=false:=by first | exact sB _ (by decide) (by decide) | rfl):PE X (.Compare a [op] [b] pos) t:=λpins s σ H Q I hw=>wpAny_Compare1 (h pins s σ H Q I hw) h1
def tX {op:CmpOp}{t:TE}(h:PC X op a b t)(h1:behindInMarks op b=false:=by first | exact sB _ (by decide) (by decide) | rfl):PT X (.Compare a [op] [b] pos) (tB t):=by
 intro pins s σ H Q I hw;refine wpAny_isTrue_Compare1 (bh (h pins s σ H _ I hw) λv s1 h1=>bh h1 λu s2 h2=>bh h2 λc s3 hZz=>?_) h1;obtain⟨x,H1,I1,r1,q1⟩:=hZz;obtain⟨d,rfl,q⟩:=q1;cases r1;exact FT ⟨H1,I1,q⟩
def Eb {e:Expr}{t:TE}(h:PE X e t)(he:∀whole,isTrue e X.env whole=(do let v <-whole; standAt e.pos; holding [v] (truthy v)):=by intro _; rfl):PT X e (tB t):=by
 intro pins s σ H Q I hw;refine isTrue_plain (bh (h pins s σ H _ I hw) λv s1 hZz=>?_) (he _);obtain⟨x,H1,I1,r1,q1⟩:=hZz;obtain⟨d,rfl,q⟩:=q1;cases r1;exact FT ⟨H1,I1,q⟩
variable {tA tB':TT}{rest:au}
def kB (t u:TT):TT:=λσ H Q=>t σ H λc H1=>if c=true then u σ H1 Q else Q false H1
def rP (t u:TT):TT:=λσ H Q=>t σ H λc H1=>if c=true then Q true H1 else u σ H1 Q
def kz (t:TT):TT:=λσ H Q=>t σ H λc H1=>Q (!c) H1
def xU (ha:PT X a tA):PW X (.BoolOp .And [a] pos) tA:=by
 intro wh pins s σ H Q I h;refine isTrue_and (bh (ha pins s σ H Q I h) λc s1 e=>?_);cases c with
 | true=>exact isTrue_and_nil e
 | false=>exact e
def Ea (ha:PT X a tA):PW X (.BoolOp .Or [a] pos) tA:=by
 intro wh pins s σ H Q I h;refine isTrue_or (bh (ha pins s σ H Q I h) λc s1 e=>?_);cases c with
 | false=>exact isTrue_or_nil e
 | true=>exact e
def DS (ha:PT X a tA)(hb:PW X (.BoolOp .And (b::rest) pos) tB'):PW X (.BoolOp .And (a::b::rest) pos) (kB tA tB'):=by
 intro wh pins s σ H Q I h;refine isTrue_and (bh (ha pins s σ H _ I h) λc s1 hZz=>?_);obtain⟨H1,I1,q1⟩:=hZz;cases c with
 | true=>exact hb wh pins s1 σ H1 Q I1 q1
 | false=>exact⟨H1,I1,q1⟩
def CT (ha:PT X a tA)(hb:PW X (.BoolOp .Or (b::rest) pos) tB'):PW X (.BoolOp .Or (a::b::rest) pos) (rP tA tB'):=by
 intro wh pins s σ H Q I h;refine isTrue_or (bh (ha pins s σ H _ I h) λc s1 hZz=>?_);obtain⟨H1,I1,q1⟩:=hZz;cases c with
 | true=>exact⟨H1,I1,q1⟩
 | false=>exact hb wh pins s1 σ H1 Q I1 q1
def xS (ha:PT X a tA):PT X (.UnaryOp .Not a pos) (kz tA):=by
 intro pins s σ H Q I h;exact isTrue_not (ha pins s σ H (λc H1=>Q (!c) H1) I h)
def gO (ta tb:TE):TE:=λσ H Q=>ta σ H λx H1=>∃c,x=.bl c/\if c=true then tb σ H1 Q else Q (.bl false) H1
def jW (ta tb:TE):TE:=λσ H Q=>ta σ H λx H1=>∃c,x=.bl c/\if c=true then Q (.bl true) H1 else tb σ H1 Q
def mD (ta:TE):TE:=λσ H Q=>ta σ H λx H1=>∃c,x=.bl c/\Q (.bl (!c)) H1
def Dz {op}{t:TE}(h:PE X a t):PE X (.BoolOp op [a] pos) t:=λpins s σ H Q I hw=>BoolOp_one (h pins s σ H Q I hw)
def yJ (ha:PE X a ta)(hb:PE X (.BoolOp .And (b::rest) pos) tb):PE X (.BoolOp .And (a::b::rest) pos) (gO ta tb):=by
 intro pins s σ H Q I h;refine BoolOp_and (bh (ha pins s σ H _ I h) λv s1 hZz=>?_);obtain⟨x,H1,I1,r1,q1⟩:=hZz;obtain⟨c,rfl,q1⟩:=q1;cases r1;refine FT ?_;cases c with
 | true=>exact hb pins s1 σ H1 Q I1 q1
 | false=>exact⟨.bl false,H1,I1,rfl,q1⟩
def DO (ha:PE X a ta)(hb:PE X (.BoolOp .Or (b::rest) pos) tb):PE X (.BoolOp .Or (a::b::rest) pos) (jW ta tb):=by
 intro pins s σ H Q I h;refine BoolOp_or (bh (ha pins s σ H _ I h) λv s1 hZz=>?_);obtain⟨x,H1,I1,r1,q1⟩:=hZz;obtain⟨c,rfl,q1⟩:=q1;cases r1;refine FT ?_;cases c with
 | false=>exact hb pins s1 σ H1 Q I1 q1
 | true=>exact⟨.bl true,H1,I1,rfl,q1⟩
def Bx (ha:PE X a ta):PE X (.UnaryOp .Not a pos) (mD ta):=by
 intro pins s σ H Q I h;refine UnaryOp_ (bh (ha pins s σ H _ I h) λv s1 hZz=>?_);obtain⟨x,H1,I1,r1,q1⟩:=hZz;obtain⟨c,rfl,q1⟩:=q1;cases r1;exact not_of (FT ⟨.bl (!c),H1,I1,rfl,q1⟩)
end
end L2
namespace L2
open PySem PySem.Spec PyProof.Rows
def SqL (K:bm)(H:Hp)(a:Addr)(xs:av):Prop:=
 Rd H a (.lst xs) \/
  ∃(o:Obj) (its:aB) (n:Nat),K.lookup a=some o/\o.cls=.type "list" /\ o.dict=none/\o.data=.seq its n/\its.size<=sizeLine/\Vals xs its.toList
def SqT (K:bm)(H:Hp)(a:Addr)(xs:av):Prop:=
 Rd H a (.tup xs) \/
  ∃(o:Obj) (its:aB) (n:Nat),K.lookup a=some o/\o.cls=.type "tuple" /\ o.dict=none/\o.data=.seq its n/\its.size<=sizeLine/\Vals xs its.toList
noncomputable def pZ:Value->Option V
 | .none=>some .non
 | .bool b=>some (.bl b)
 | .int i _=>some (.int i)
 | .str x _=>some (.str x)
 | .bytes b _=>some (.byt b)
 | .float b _=>some (.flt b)
 | .ref a=>some (.ref a)
 | .type n=>some (.ty n)
 | _=>none
def RelV.abs {x:V}{u:Value}(r:RelV x u):pZ u=some x:=by
 cases x with
 | non=>cases r; rfl
 | bl _=>cases r; rfl
 | int _=>obtain⟨t,rfl⟩:=r; rfl
 | str _=>obtain⟨t,rfl⟩:=r; rfl
 | byt _=>obtain⟨t,rfl⟩:=r; rfl
 | flt _=>obtain⟨t,rfl⟩:=r; rfl
 | ref _=>cases r; rfl
 | ty _=>cases r; rfl
theorem RelV.inj {x y:V}{u:Value}(r:RelV x u)(q:RelV y u):x=y:=cy (r.abs.symm.trans q.abs)
theorem Vals.inj:∀{xs ys:av} {us:ao},Vals xs us->Vals ys us->xs=ys
 | _,_,_,.nil,.nil=>rfl
 | _,_,_,.cons r t,.cons r' t'=>by rw[r.inj r',Vals.inj t t']
section
variable {X:Cx}{pins:af}{σ:St}{H:Hp}{s:Shared}{a:Addr}{xs ys:av}
def SqT.of {K:bm}(h:H a=some (.tup xs)):SqT K H a xs:=.inl (.inl h)
def Inv.list (I:Inv X pins σ H s)(h:SqL X.K H a xs):∃its:ao,Vals xs its/\PlainL s.heap a its.toArray/\xs.length<=sizeLine:=by
 rcases h with h | ⟨o,its,n,hk,hc,hd,hs,hz,r⟩
 .obtain⟨z,its,n,r,e⟩:=h.ok I.hok;exact⟨its,r,⟨_,n,e,rfl,rfl,rfl⟩,z⟩
 .refine⟨its.toList,r,⟨o,n,I.kIn a o hk,hc,hd,by simpa using hs⟩,?_⟩;have e:=r.length;simp only[Array.length_toList] at e;omega
def Inv.tupN (I:Inv X pins σ H s)(h:SqT X.K H a xs):∃its:ao,Vals xs its/\TupN s.heap a its.toArray/\xs.length<=sizeLine:=by
 rcases h with h | ⟨o,its,n,hk,hc,hn,hs,hz,r⟩
 .obtain⟨z,its,r,p⟩:=h.ok I.hok;exact⟨its,r,p,z⟩
 .refine⟨its.toList,r,⟨o,I.kIn a o hk,hc,⟨n,by simpa using hs⟩,hn⟩,?_⟩;have e:=r.length;simp only[Array.length_toList] at e;omega
def Inv.tuple (I:Inv X pins σ H s)(h:SqT X.K H a xs):∃its:ao,Vals xs its/\IsTup s.heap a its.toArray/\xs.length<=sizeLine:=
 let ⟨its,r,p,z⟩:=I.tupN h
 ⟨its,r,p.tup,z⟩
def Inv.list_inj (I:Inv X pins σ H s)(h:SqL X.K H a xs)(h':SqL X.K H a ys):xs=ys:=by
 obtain⟨its,r,⟨o,n,e,_,_,d⟩,_⟩:=I.list h;obtain⟨its',r',⟨o',n',e',_,_,d'⟩,_⟩:=I.list h';rw[e] at e'; cases e';rw[d] at d';injection d' with d1 _;have:its=its':=by simpa using congrArg Array.toList d1
 subst this;exact r.inj r'
def Inv.tuple_inj (I:Inv X pins σ H s)(h:SqT X.K H a xs)(h':SqT X.K H a ys):xs=ys:=by
 obtain⟨its,r,⟨o,e,_,n,d⟩,_⟩:=I.tuple h;obtain⟨its',r',⟨o',e',_,n',d'⟩,_⟩:=I.tuple h';rw[e] at e'; cases e';rw[d] at d';injection d' with d1 _;have:its=its':=by simpa using congrArg Array.toList d1
 subst this;exact r.inj r'
end
noncomputable abbrev Cx.wish (X:Cx)(E:Value->Shared->Prop):Cx:={ X with xe:=E }
noncomputable abbrev Cx.nox (X:Cx):Cx:=X.wish λ_ _=>False
theorem Cx.Ok.wish {X:Cx}(ok:X.Ok)(E:Value->Shared->Prop):(X.wish E).Ok:=
 ⟨ok.mod,ok.kind,ok.glob,ok.blt,ok.above,ok.inj,ok.has,ok.cab,ok.hd,ok.frames,ok.stk,ok.exf,ok.bs,ok.bsz,ok.noex,ok.exfs,ok.funs,ok.frf⟩
def Cx.Ok.unwish {X:Cx}{E:Value->Shared->Prop}(ok:(X.wish E).Ok):X.Ok:=
 ⟨ok.mod,ok.kind,ok.glob,ok.blt,ok.above,ok.inj,ok.has,ok.cab,ok.hd,ok.frames,ok.stk,ok.exf,ok.bs,ok.bsz,ok.noex,ok.exfs,ok.funs,ok.frf⟩
section
variable {X:Cx}{pins:af}{σ:St}{H:Hp}{s:Shared}{E:Value->Shared->Prop}
theorem Inv.wish (I:Inv X pins σ H s)(E:Value->Shared->Prop):Inv (X.wish E) pins σ H s:=⟨I.ok.wish E,I.os,I.bare,I.base,I.loc,I.cell,I.free,I.freeC,I.pin,I.hok,I.len⟩
theorem Inv.unwish (I:Inv (X.wish E) pins σ H s):Inv X pins σ H s:=⟨I.ok.unwish,I.os,I.bare,I.base,I.loc,I.cell,I.free,I.freeC,I.pin,I.hok,I.len⟩
theorem PE.nox {e:Expr}{t:TE}(h:PE X.nox e t):PE X e t:=λpins s σ H Q I hw=>
 FU (h pins s σ H Q (I.wish _) hw) (λ_ _ ⟨v,H',I',r,q⟩=>⟨v,H',I'.unwish,r,q⟩) λ_ _ z=>False.elim z
end
section
variable {X:Cx}{st:Stmt}{rest:aG}{t u:TS}{e:Expr}{te:TE}{pos:Pos}
def mz:TS:=λD σ H=>D.nx σ H
def qH (t u:TS):TS:=λD σ H=>t { D with nx:=u D } σ H
def C4:PSs X [] mz:=λ_ _ σ H _ I h=>Hj ⟨σ,H,I,h⟩
def DE (h1:PS X st t)(h2:PSs X rest u):PSs X (st::rest) (qH t u):=by
 intro pins s σ H D I h;refine wpAny_execs_cons (bh (h1 pins s σ H { D with nx:=u D } I h) λf s1 q=>?_);cases f with
 | next=>
  obtain⟨σ',H',I',q⟩:=q;exact h2 pins s1 σ' H' D I' q
 | ret v=>exact q
 | brk=>exact q
 | cont=>exact q
def wH (h1:PS X st t):PSs X [st] t:=by
 intro pins s σ H D I h;refine wpAny_execs_cons (bh (h1 pins s σ H D I h) λf s1 q=>?_);cases f with
 | next=>exact Hj q
 | ret v=>exact q
 | brk=>exact q
 | cont=>exact q
def Inv.quiet {pins:af}{σ:St}{H:Hp}{s:Shared}(I:Inv X pins σ H s):interactive X.env=false:=by simp[interactive,I.ok.kind]
def cG (te:TE):TS:=λD σ H=>te σ H λ_ H1=>D.nx σ H1
def k6 (he:PE X e te)(hs:swapsWith e none pos.line X.env=pure false:=by rfl):PS X (.Expr e pos) (cG te):=by
 intro pins s σ H D I h;exact wpAny_Expr_any (bh (he pins s σ H _ I h) λv s1 ⟨x,H1,I1,r1,q1⟩=>⟨σ,H1,I1,q1⟩) I.quiet hs
def mE (te:TE):TS:=λD σ H=>te σ H D.rt
def rB (he:PE X e te):PS X (.Return (some e) pos) (mE te):=by
 intro pins s σ H D I h;exact wpAny_Return_some (bh (he pins s σ H _ I h) λv s1 ⟨x,H1,I1,r1,q1⟩=>⟨x,σ,H1,I1,r1,q1⟩)
def mM:TS:=λD _ H=>D.rt .non H
def B5:PS X (.Return none pos) mM:=λ_ _ σ H _ I h=>wpAny_Return_none ⟨.non,σ,H,I,rfl,h⟩
def jA (c:TT)(t u:TS):TS:=λD σ H=>c σ H λb H1=>if b=true then t D σ H1 else u D σ H1
def Ed {c:Expr}{a b:aG}{tc:TT}(hc:PT X c tc)(ha:PSs X a t)(hb:PSs X b u):PS X (.If c a b pos) (jA tc t u):=by
 intro pins s σ H D I h;refine wpAny_If (bh (hc pins s σ H _ I h) λd s1 hZz=>?_);obtain⟨H1,I1,q1⟩:=hZz;cases d with
 | true=>exact ha pins s1 σ H1 D I1 q1
 | false=>exact hb pins s1 σ H1 D I1 q1
end
abbrev TG:=V->St->Hp->(St->Hp->Prop)->Prop
abbrev iS:=av->St->Hp->(St->Hp->Prop)->Prop
def PG (X:Cx)(target:Expr)(t:TG):Prop:=
 ∀(pins:af) (s:Shared) (σ:St) (H:Hp) (v:V) (u:Value) (Q:St->Hp->Prop),Inv X pins σ H s->RelV v u->t v σ H Q ->
  wpAny (model X.prog X.w) X.A (assign target X.env u) (λ_ s'=>∃σ' H',Inv X pins σ' H' s'/\Q σ' H') X.xe s
def lL (X:Cx)(ts:au)(t:iS):Prop:=
 ∀(pins:af) (s:Shared) (σ:St) (H:Hp) (vs:av) (us:ao) (Q:St->Hp->Prop),Inv X pins σ H s->Vals vs us->t vs σ H Q ->
  wpAny (model X.prog X.w) X.A (assignInOrder ((assignEach ts X.env).map (·.2)) us) (λ_ s'=>∃σ' H',Inv X pins σ' H' s'/\Q σ' H') X.xe s
noncomputable abbrev o8:=V->V->V->Hp->(Hp->Prop)->Prop
def pb (X:Cx)(t:o8):Prop:=
 ∀(pins:af) (s:Shared) (σ:St) (H:Hp) (o i v:V) (ov iv u:Value) (Q:Hp->Prop),Inv X pins σ H s->RelV o ov->RelV i iv->RelV v u->t o i v H Q ->
  wpAny (model X.prog X.w) X.A (setItem ov iv u) (λ_ s'=>∃H',Inv X pins σ H' s'/\Q H') X.xe s
section
variable {X:Cx}{pos:Pos}
def dH (i:Nat):TG:=λv σ H Q=>Q (σ.set i (some v)) H
def qJ {i:Nat}{x:Str}(hN:X.N.Nodup)(hi:X.N[i]? = some x)(hx:Loc X.env.scope x)(hf:X.fn x=true\/X.env.scope.names.lookup x=some .local:=by first | exact .inl rfl | exact .inr rfl | assumption):PG X (.Name x pos) (dH i):=by
 intro pins s σ H v u Q I r h;exact wpAny_assign_Name (rZ I hN hi hx r (λs' I'=>⟨_,H,I',h⟩) hf)
def lX:iS:=λvs σ H Q=>vs=[]/\Q σ H
def ju (t:TG)(u:iS):iS:=λvs σ H Q=>∃v r,vs=v::r/\t v σ H λσ' H'=>u r σ' H' Q
def zH:lL X [] lX:=by
 intro pins s σ H vs us Q I r h;obtain⟨e,h⟩:=h;subst e;cases r;exact assignInOrder_nil ⟨σ,H,I,h⟩
def BE {e:Expr}{es:au}{t:TG}{u:iS}(h1:PG X e t)(h2:lL X es u)
  (hs:(assignEach (e::es) X.env).map (·.2)=assign e X.env::(assignEach es X.env).map (·.2):=by rfl):lL X (e::es) (ju t u):=by
 intro pins s σ H vs us Q I r h;obtain⟨v,vr,e1,h⟩:=h;subst e1;cases r with
 | cons r rr=>
  rw[hs];refine assignInOrder_cons (bh (h1 pins s σ H _ _ _ I r h) λ_ s1 hZz=>?_);obtain⟨σ1,H1,I1,q1⟩:=hZz;exact h2 pins s1 σ1 H1 _ _ Q I1 rr q1
def mo (K:bm)(n:Nat)(t:iS):TG:=λv σ H Q=>∃a xs,v=.ref a/\SqT K H a xs/\xs.length=n/\t xs σ H Q
def EB {es:au}{k:Nat}{t:iS}{n:Nat}(hc:X.calm=true)(h:lL X es t)
  (hn:(assignEach es X.env).length=n:=by rfl)(hst:(assignEach es X.env).findIdx? (·.1)=none:=by rfl):PG X (.Tuple es k pos) (mo X.K n t):=by
 intro pins s σ H v u Q I r hw;obtain⟨a,xs,e1,hq,hl,hw⟩:=hw;subst e1;cases r;obtain⟨its,rv,ht,hz⟩:=I.tuple hq;refine assign_Tuple_tuple (I.ok.hd hc) ht (by simp[hn,<-hl,rv.length]) hst λh' hx=>?_;have I1:Inv X pins σ H { s with heap:=h' }:=I.kept (t':=s.toks) λb o e=>hx b o (cY (bM e)) e;exact h pins _ σ H xs _ Q I1 (by simpa using rv) hw
def gI (te:TE)(g:TG):TS:=λD σ H=>te σ H λx H1=>g x σ H1 D.nx
def tG {tg e:Expr}{te:TE}{g:TG}(he:PE X e te)(hg:PG X tg g)(hs:swapsWithSole [tg] e pos.line X.env=pure false:=by rfl)(hw:swappedStores [tg] e X.env=pure none:=by rfl)
  (h1:(assignEach [tg] X.env).map (·.2)=[assign tg X.env]:=by rfl):PS X (.Assign [tg] e pos) (gI te g):=by
 intro pins s σ H D I h;refine wpAny_Assign_stores (bh (he pins s σ H _ I h) λv s1 hZz=>?_) hs hw;obtain⟨x,H1,I1,r1,q1⟩:=hZz;rw[h1];exact bh (hg pins s1 σ H1 x v _ I1 r1 q1) λ_ s2 q=>q
def r8 {i:Nat}{x:Str}{e:Expr}{te:TE}{pos':Pos}(hN:X.N.Nodup)(hi:X.N[i]? = some x)(hx:Loc X.env.scope x)(he:PE X e te)(hs:swapsWith e (some (.Name x pos')) pos.line X.env=pure false:=by rfl)(hf:X.fn x=true\/X.env.scope.names.lookup x=some .local:=by first | exact .inl rfl | exact .inr rfl | assumption) :
  PS X (.Assign [.Name x pos'] e pos) (gI te (dH i)):=by
 intro pins s σ H D I h;refine wpAny_Assign_Name (bh (he pins s σ H _ I h) λv s1 hZz=>?_) hs;obtain⟨y,H1,I1,r1,q1⟩:=hZz;exact rZ I1 hN hi hx r1 (λs2 I2=>⟨_,H1,I2,q1⟩) hf
end
section
variable {X:Cx}{pos:Pos}
def fM (c:TT)(tb:TS):TS:=λD σ H=>∃W:Nat->St->Hp->Prop,(∃m,W m σ H)/\∀m σ H,W m σ H ->
 c σ H λb H1=>if b=true then ∃N:St->Hp->Prop,(∀σ' H',N σ' H'->∃m',m'<m/\W m' σ' H')/\tb { D with nx:=N,ct:=N,bk:=D.nx } σ H1 else D.nx σ H1
def zm {c:Expr}{body:aG}{tc:TT}{tb:TS}(hp:PassesOwn (model X.prog X.w) X.A X.env X.xe)(hc:PT X c tc)(hb:PSs X body tb):PS X (.While c body [] pos) (fM tc tb):=by
 intro pins s σ H D I h;obtain⟨W,⟨m0,w0⟩,turn⟩:=h;refine wpAny_While (codeAny_whileLoop (λn s'=>∃σ' H',Inv X pins σ' H' s'/\W n σ' H') ?_ m0 ⟨σ,H,I,w0⟩);rintro n s1 ⟨σ1,H1,I1,w1⟩;refine GA hp (bh (hc pins s1 σ1 H1 _ I1 (turn n σ1 H1 w1)) λb s2 hZz=>?_);obtain⟨H2,I2,q2⟩:=hZz;cases b with
 | true=>
  obtain⟨N,hN,q2⟩:=q2;rw[if_pos rfl];refine GA hp (bh (hb pins s2 σ1 H2 _ I2 q2) λf s3 q3=>?_);cases f with
  | next=>
   obtain⟨σ3,H3,I3,n3⟩:=q3;obtain⟨m',hm,w3⟩:=hN σ3 H3 n3;exact⟨m',hm,σ3,H3,I3,w3⟩
  | cont=>
   obtain⟨σ3,H3,I3,n3⟩:=q3;obtain⟨m',hm,w3⟩:=hN σ3 H3 n3;exact⟨m',hm,σ3,H3,I3,w3⟩
  | brk=>exact q3
  | ret v=>exact q3
 | false=>
  rw[if_neg GO];exact Hj ⟨σ1,H2,I2,q2⟩
end
structure It where
 go:Nat->Hp->Prop
 yld:Nat->Hp->V->Hp->Prop
 stop:Nat->Hp->Prop
def c8 (X:Cx)(pins:af)(H:Hp)(b:Addr):Prop:=
 H b=none/\b≠X.env.locals/\b∉X.fs/\(b∈X.ex\/X.s₀.heap.objs.size<=b)/\(∀x c,X.env.cells.lookup x=some c->c≠b)/\∀p∈X.pn++pins,p.1≠b
def Inv.fpOk {X:Cx}{pins:af}{σ:St}{H H':Hp}{s:Shared}{b:Addr}(I:Inv X pins σ H s)(hb:s.heap.objs.size<=b)(hn:H' b=none):c8 X pins H' b:=by
 refine⟨hn,F9 (dX I.lt hb),I.nofs hb,.inr (b8 I.sz hb),λx c e z=>?_,λp hp z=>?_⟩
 .obtain⟨v,q⟩:=I.cell x c e;exact absurd (dX q.lt (by rw[z]; exact hb)) (F6 _)
 .exact absurd (dX (bM (I.pin p hp).1) (by rw[z]; exact hb)) (F6 _)
structure Turn (P:Program)(w:World)(K:bm)(tg:Expr)(J:It)(fp:am)(it:Addr)(tn:Nat->Heap->Prop):Prop where
 mem:it∈fp
 obj:∀i h,tn i h->∀b∈fp,∃o,h.get? b=some o/\∀v,o.data≠.cell v
 keep:∀i h h',tn i h->(∀b∈fp,∀o,h.get? b=some o->h'.get? b=some o)->tn i h'
 item:∀(X:Cx),X.prog=P->X.w=w->X.K=K->X.calm=true->∀(i:Nat) (pins:af) (s:Shared) (σ:St) (H:Hp) (E:Value->Shared->Prop),Inv X pins σ H s->(∀b∈fp,c8 X pins H b)->tn i s.heap->J.go i H ->
  wpAny (model P w) X.A (pyNext (.ref it)) (λr s1=>∃u,r=some u /\
   wpAny (model P w) X.A (letOwnedTupleGo tg (.ref it) u) (λ_ s2=>∃x H',Inv X pins σ H' s2/\RelV x u/\J.yld i H x H'/\tn (i+1) s2.heap/\∀b∈fp,H' b=none) E s1) E s
 done:∀(X:Cx),X.prog=P->X.w=w->X.K=K->X.calm=true->∀(i:Nat) (pins:af) (s:Shared) (σ:St) (H:Hp) (E:Value->Shared->Prop),Inv X pins σ H s->(∀b∈fp,c8 X pins H b)->tn i s.heap->J.stop i H ->
  wpAny (model P w) X.A (pyNext (.ref it)) (λr s1=>r=none/\Inv X pins σ H s1) E s
 self:∀(A:Around) (i:Nat) (s:Shared) (Q:Value->Shared->Prop) (E:Value->Shared->Prop),tn i s.heap->Q (.ref it) s->wpAny (model P w) A (pyIter (.ref it)) Q E s
abbrev TI:=St->Hp->(It->Hp->Prop)->Prop
def wy (X:Cx)(pins:af)(σ:St)(tg:Expr)(R:It->Hp->Prop)(itv:Value)(s2:Shared):Prop:=
 ∃(it:Addr) (fp:am) (tn:Nat->Heap->Prop) (J:It) (H':Hp),itv=.ref it/\Inv X pins σ H' s2/\Turn X.prog X.w X.K tg J fp it tn/\tn 0 s2.heap/\(∀b∈fp,c8 X pins H' b)/\R J H'
def PI (X:Cx)(tg iter:Expr)(wi:TI):Prop:=
 ∀(pins:af) (s:Shared) (σ:St) (H:Hp) (R:It->Hp->Prop),Inv X pins σ H s->wi σ H R ->
  wpAny (model X.prog X.w) X.A (eval iter X.env) (λv s1=>wpAny (model X.prog X.w) X.A (pyIter v) (wy X pins σ tg R) X.xe s1) X.xe s
def rc {M:Model}{A:Around}{E:Value->Shared->Prop}{s:Shared}{tg:Expr}{it:Addr}{u:Value}{o:Obj}{n:String}{vs:aB}{Q:Unit->Shared->Prop}(ho:s.heap.get? it=some o)(hc:o.cls=.type n)(hd:o.data=.fields vs)
    (hn:["enumerate", "zip", "dict_itemiterator", "dict_reverseitemiterator", "odict_iterator", "itertools.zip_longest", "itertools.pairwise"].contains n=false)(hQ:Q () s):wpAny M A (letOwnedTupleGo tg (.ref it) u) Q E s:=by
  unfold letOwnedTupleGo;cases tg <;> first
    | exact bg hQ
    | (cases u <;> first
        | exact bg hQ
        | (refine aM (wpAny_load ho ?_)
           rw[hc,hd];show wpAny M A (if (["enumerate", "zip", "dict_itemiterator", "dict_reverseitemiterator", "odict_iterator", "itertools.zip_longest", "itertools.pairwise"].contains n&&vs[0]? == some (rawInt _))=true then _ else _) Q E s;rw[if_neg (by intro h; rw[hn,Bool.false_and] at h; cases h)];exact bg hQ))
noncomputable def rh (K:bm)(a:Addr):It:=
 ⟨λi H=>∃xs x,SqL K H a xs/\xs[i]? = some x,λi H x H'=>H'=H/\∀xs,SqL K H a xs->xs[i]? = some x,λi H=>∃xs,SqL K H a xs/\xs.length<=i⟩
noncomputable def pN (K:bm)(a:Addr):It:=
 ⟨λi H=>∃xs x,SqT K H a xs/\xs[i]? = some x,λi H x H'=>H'=H/\∀xs,SqT K H a xs->xs[i]? = some x,λi H=>∃xs,SqT K H a xs/\xs.length<=i⟩
noncomputable def mG (lo:Int)(n:Nat):It:=⟨λi _=>i<n,λi H x H'=>H'=H/\x=.int (lo+i),λi _=>n<=i⟩
def wB {P:Program}{w:World}{K:bm}{tg:Expr}(a it:Addr):Turn P w K tg (rh K a) [it] it (λi h=>h.IsListIter it a i) where
 mem:=by simp
 obj:=λi h st b hb=>by
  have e:b=it:=by simpa using hb
  subst e;obtain⟨o,e,c,d⟩:=st;exact⟨o,e,λv z=>by rw[d] at z; cases z⟩
 keep:=λi h h' st k=>st.at λo e=>k it (by simp) o e
 item:=by
  intro X hP hw hK hc i pins s σ H E I hf st hg;subst hP hw hK;obtain⟨xs,x,hq,hx⟩:=hg;obtain⟨its,rv,p,hz⟩:=I.list hq;obtain⟨u,hu,ru⟩:=rv.get hx;obtain⟨f0,f1,f2,f3,f4,f5⟩:=hf it (by simp);refine wpAny_pyNext_list_item st p.isList (x:=u) (by simpa using hu) λh' st' sb=>?_;have I1:Inv X pins σ H { s with heap:=h' }:=I.turned (t':=s.toks) (λb o hb e=>(sb.2 b hb).trans e) f0 f1 f3 f4 f5;obtain⟨o,e,c,d⟩:=id st';exact⟨u,rfl,rc (s:={ s with heap:=h' }) e c d (by decide) ⟨x,H,I1,ru,⟨rfl,λys hy=>by rw[I.list_inj hy hq]; exact hx⟩,st',λb hb=>(hf b hb).1⟩⟩
 done:=by
  intro X hP hw hK hc i pins s σ H E I hf st hg;subst hP hw hK;obtain⟨xs,hq,hx⟩:=hg;obtain⟨its,rv,p,hz⟩:=I.list hq;obtain⟨f0,f1,f2,f3,f4,f5⟩:=hf it (by simp);have hl:=rv.length;exact wpAny_pyNext_list_end (I.ok.hd hc) st p.isList (by simp; omega) λh' eb=>⟨rfl,I.turned (t':=s.toks) (λb o hb e=>eb b o hb e) f0 f1 f3 f4 f5⟩
 self:=λ_ _ _ _ _ st h=>wpAny_pyIter_listiter st h
def yj {P:Program}{w:World}{K:bm}{tg:Expr}(a it:Addr):Turn P w K tg (pN K a) [it] it (λi h=>h.IsTupleIter it a i) where
 mem:=by simp
 obj:=λi h st b hb=>by
  have e:b=it:=by simpa using hb
  subst e;obtain⟨o,e,c,d⟩:=st;exact⟨o,e,λv z=>by rw[d] at z; cases z⟩
 keep:=λi h h' st k=>st.at λo e=>k it (by simp) o e
 item:=by
  intro X hP hw hK hc i pins s σ H E I hf st hg;subst hP hw hK;obtain⟨xs,x,hq,hx⟩:=hg;obtain⟨its,rv,p,hz⟩:=I.tuple hq;obtain⟨u,hu,ru⟩:=rv.get hx;obtain⟨f0,f1,f2,f3,f4,f5⟩:=hf it (by simp);refine wpAny_pyNext_tuple_item st (show s.heap.IsTuple a its.toArray from p) (x:=u) (by simpa using hu) λh' st' sb=>?_;have I1:Inv X pins σ H { s with heap:=h' }:=I.turned (t':=s.toks) (λb o hb e=>(sb.2 b hb).trans e) f0 f1 f3 f4 f5;obtain⟨o,e,c,d⟩:=id st';exact⟨u,rfl,rc (s:={ s with heap:=h' }) e c d (by decide) ⟨x,H,I1,ru,⟨rfl,λys hy=>by rw[I.tuple_inj hy hq]; exact hx⟩,st',λb hb=>(hf b hb).1⟩⟩
 done:=by
  intro X hP hw hK hc i pins s σ H E I hf st hg;subst hP hw hK;obtain⟨xs,hq,hx⟩:=hg;obtain⟨its,rv,p,hz⟩:=I.tuple hq;obtain⟨f0,f1,f2,f3,f4,f5⟩:=hf it (by simp);have hl:=rv.length;exact wpAny_pyNext_tuple_end (I.ok.hd hc) st (show s.heap.IsTuple a its.toArray from p) (by simp; omega) λh' eb=>⟨rfl,I.turned (t':=s.toks) (λb o hb e=>eb b o hb e) f0 f1 f3 f4 f5⟩
 self:=λ_ _ _ _ _ st h=>wpAny_pyIter_tupleiter st h
def xg {P:Program}{w:World}{K:bm}{tg:Expr}(it:Addr)(lo:Int)(n:Nat):Turn P w K tg (mG lo n) [it] it (λi h=>IsRangeIter h it (lo+(i:Nat) * 1) ((n:Int) - (i:Nat)) 1) where
 mem:=by simp
 obj:=λi h st b hb=>by
  have e:b=it:=by simpa using hb
  subst e;exact⟨_,st,λv z=>by
   have z':Data.fields _=Data.cell v:=z;cases z'⟩
 keep:=λi h h' st k=>k it (by simp) _ st
 item:=by
  intro X hP hw hK hc i pins s σ H E I hf st hg;subst hP hw hK;obtain⟨f0,f1,f2,f3,f4,f5⟩:=hf it (by simp);have W:=Walks.range (prog:=X.prog) (w:=X.w) (I.ok.hd hc) it lo 1 n;refine W.item i s _ _ hg st λv h' tk hv st' kk=>?_;obtain⟨t,rfl⟩:=hv;have I1:Inv X pins σ H { s with heap:=h',toks:=tk }:=I.turned (λb o hb e=>kk b o (by simpa using hb) e) f0 f1 f3 f4 f5;refine⟨_,rfl,rc (s:={ s with heap:=h',toks:=tk }) (n := "range_iterator") st' rfl rfl (by decide) ⟨.int (lo+i),H,I1,⟨t,?_⟩,⟨rfl,rfl⟩,st',λb hb=>(hf b hb).1⟩⟩;rw[Int.mul_one]
 done:=by
  intro X hP hw hK hc i pins s σ H E I hf st hg;subst hP hw hK;obtain⟨f0,f1,f2,f3,f4,f5⟩:=hf it (by simp);exact wpAny_pyNext_range_end (I.ok.hd hc) st (by have:n<=i:=hg; omega) λh' eb=>⟨rfl,I.turned (t':=s.toks) (λb o hb e=>eb b o hb e) f0 f1 f3 f4 f5⟩
 self:=λ_ _ _ _ _ st h=>wpAny_pyIter_rangeiter st h
end L2
namespace L2
open PySem PySem.Spec PyProof.Rows
section
variable {X:Cx}{tg:Expr}
def lI (K:bm)(tl:TE):TI:=λσ H R=>tl σ H λx H1=>∃a,x=.ref a/\(∃xs,SqL K H1 a xs)/\R (rh K a) H1
def p6 (K:bm)(tl:TE):TI:=λσ H R=>tl σ H λx H1=>∃a,x=.ref a/\(∃xs,SqT K H1 a xs)/\R (pN K a) H1
def sO {l:Expr}{tl:TE}(hl:PE X l tl):PI X tg l (lI X.K tl):=by
 intro pins s σ H R I h;refine bh (hl pins s σ H _ I h) λv s1 hZz=>?_;obtain⟨x,H1,I1,r1,q1⟩:=hZz;obtain⟨a,e,⟨xs,hq⟩,q⟩:=q1;subst e;cases r1;obtain⟨its,rv,p,hz⟩:=I1.list hq;refine wpAny_pyIter_list p.isList ?_;refine⟨s1.heap.objs.size,[s1.heap.objs.size],_,_,H1,rfl,I1.kept (t':=s1.toks) λb o e=>bV _ e,wB a _,⟨_,dD _ rfl,rfl,rfl⟩,λb hb=>?_,q⟩;have e:b=s1.heap.objs.size:=by simpa using hb
 subst e;exact I1.fpOk (bD _) (I1.hok.fresh (bD _))
def wC {l:Expr}{tl:TE}(hl:PE X l tl):PI X tg l (p6 X.K tl):=by
 intro pins s σ H R I h;refine bh (hl pins s σ H _ I h) λv s1 hZz=>?_;obtain⟨x,H1,I1,r1,q1⟩:=hZz;obtain⟨a,e,⟨xs,hq⟩,q⟩:=q1;subst e;cases r1;obtain⟨its,rv,p,hz⟩:=I1.tuple hq;refine HS (show s1.heap.IsTuple a its.toArray from p) ?_;refine⟨s1.heap.objs.size,[s1.heap.objs.size],_,_,H1,rfl,I1.kept (t':=s1.toks) λb o e=>bV _ e,yj a _,⟨_,dD _ rfl,rfl,rfl⟩,λb hb=>?_,q⟩;have e:b=s1.heap.objs.size:=by simpa using hb
 subst e;exact I1.fpOk (bD _) (I1.hok.fresh (bD _))
def Ah {pins:af}{σ:St}{H:Hp}{s:Shared}{R:It->Hp->Prop}{E:Value->Shared->Prop}{lo hi:Int}{t u v:Tok}{tk:Nat}(I:Inv X pins σ H s)(h1 : -(2 ^ 62)<=lo)(h2:lo<2 ^ 62)(h3 : -(2 ^ 62)<=hi)(h4:hi<2 ^ 62)
  (q:R (mG lo (hi - lo).toNat) H):wpAny (model X.prog X.w) X.A (pyIter (.ref s.heap.objs.size)) (wy X pins σ tg R) E { s with heap:=s.heap.push { cls:=.type "range",data:=.fields #[.int lo t,.int hi u,.int 1 v] },toks:=tk }:=by
 refine wpAny_pyIter_range (IsRange.new ..) (small_one h1 h2 h3 h4) ?_;have I1:Inv X pins σ H { s with heap:=s.heap.push { cls:=.type "range",data:=.fields #[.int lo t,.int hi u,.int 1 v] },toks:=tk }:=I.kept λb o e=>bV _ e;refine⟨(s.heap.push { cls:=.type "range",data:=.fields #[.int lo t,.int hi u,.int 1 v] }).objs.size,[(s.heap.push { cls:=.type "range",data:=.fields #[.int lo t,.int hi u,.int 1 v] }).objs.size],_,_,H,rfl,
  I1.kept (t':=tk) λb o e=>bV _ e,xg _ lo (hi - lo).toNat,?_,λb hb=>?_,q⟩
 .have e1:lo+((0:Nat):Int) * 1=lo:=by simp
  have e2:(((hi - lo).toNat:Nat):Int) - ((0:Nat):Int)=Builtin.Range.rangeSize lo hi 1:=by rw[rangeSize_one]; split <;> omega
  show IsRangeIter _ _ (lo+((0:Nat):Int) * 1) ((((hi - lo).toNat:Nat):Int) - ((0:Nat):Int)) 1;rw[e1,e2];exact dD _ rfl
 .have e:b=(s.heap.push { cls:=.type "range",data:=.fields #[.int lo t,.int hi u,.int 1 v] }).objs.size:=by simpa using hb
  subst e;exact I1.fpOk (bD _) (I1.hok.fresh (bD _))
def lJ (ta:TA):TI:=λσ H R=>ta σ H λvs H1=>∃j:Int,vs=[.int j] /\ -(2 ^ 62)<=j/\j<2 ^ 62/\R (mG 0 j.toNat) H1
def Ds {a:Expr}{ta:TA}{p pos:Pos}(hg:Gl X "range")(hm:X.mg "range" = none)(ha:PA X [a] ta)(hs:starEach [a] X.env=[(false,eval a X.env)]:=by rfl):PI X tg (.Call (.Name "range" p) [a] [] pos) (lJ ta):=by
 intro pins s σ H R I h;refine Call_ (gW I hg hm boot_range (FJ (bh (ha pos pins s σ H _ I h) λus s1 hZz=>?_) hs rfl));obtain⟨vs,H1,I1,r1,q1⟩:=hZz;obtain⟨j,e,q1,q2,q⟩:=q1;subst e;cases r1 with
 | cons r rr=>
  cases rr;obtain⟨t,rfl⟩:=r;exact call_range_1 (Ah I1 (by omega) (by omega) q1 q2 (by simpa using q))
def jG (wi:TI)(g:TG)(tb:TS):TS:=λD σ H=>wi σ H λJ H1=>∃W:Nat->Nat->St->Hp->Prop,(∃m,W 0 m σ H1)/\∀i m σ H,W i m σ H ->
 (J.stop i H/\D.nx σ H)\/(J.go i H/\∃N:St->Hp->Prop,(∀σ' H',N σ' H'->∃m',m'<m/\W (i+1) m' σ' H')/\∀x H',J.yld i H x H'->g x σ H' λσ2 H2=>tb { D with nx:=N,ct:=N,bk:=D.nx } σ2 H2)
noncomputable def dr (fp:am)(h:Heap):af:=fp.filterMap λb=>(h.get? b).map λo=>(b,o)
def lm {fp:am}{h:Heap}{b:Addr}{o:Obj}(hb:b∈fp)(e:h.get? b=some o):(b,o)∈dr fp h:=Gr.mpr ⟨b,hb,by rw[e]; rfl⟩
def Ep {fp:am}{h:Heap}{p:Addr×Obj}(hp:p∈dr fp h):p.1∈fp/\h.get? p.1=some p.2:=by
 obtain⟨b,hb,e⟩:=Gr.mp hp;cases q:h.get? b with
 | none=>rw[q] at e; cases e
 | some o=>
  rw[q] at e;have e':(b,o)=p:=cy e;subst e';exact⟨hb,q⟩
def Inv.pinned {pins:af}{σ:St}{H:Hp}{s:Shared}{fp:am}(I:Inv X pins σ H s)(hf:∀b∈fp,c8 X pins H b)(ho:∀b∈fp,∃o,s.heap.get? b=some o/\∀v,o.data≠.cell v):Inv X (pins++dr fp s.heap) σ H s:=
 I.pins_of λp hp=>(cX hp).elim (λz=>I.pin p (cr _ z)) λz=>by
  obtain⟨hb,e⟩:=Ep z;obtain⟨f0,f1,f2,_⟩:=hf p.1 hb;obtain⟨o,e',d⟩:=ho p.1 hb;rw[e] at e'; cases e';exact⟨e,f0,f1,f2,d⟩
def Inv.unpinned {pins pl:af}{σ:St}{H:Hp}{s:Shared}(I:Inv X (pins++pl) σ H s):Inv X pins σ H s:=I.pins_of λp hp=>I.pin p (cr _ (d8 _ hp))
def BA {iter:Expr}{body:aG}{wi:TI}{g:TG}{tb:TS}{pos:Pos}(hp:PassesOwn (model X.prog X.w) X.A X.env X.xe)(hc:X.calm=true)(hi:PI X tg iter wi)(hg:PG X tg g)(hb:PSs X body tb)
  (hs:∀x,foldedSetIterable iter X.env x=pure x:=by intro _; rfl):PS X (.For tg iter body [] pos) (jG wi g tb):=by
 intro pins s σ H D I h;refine wpAny_For (bh (hi pins s σ H _ I h) λv s1 h1=>bh h1 λitv s2 h2=>?_) hs;obtain⟨it,fp,tn,J,H2,e,I2,T,st2,f2,W,⟨m0,w0⟩,turn⟩:=h2;subst e;have stat:∀{H':Hp},(∀b∈fp,H' b=none)->∀b∈fp,c8 X pins H' b:=λhn b hb=>⟨hn b hb,(f2 b hb).2⟩
 refine codeAny_forLoop_any (λn s'=>∃i σ' H',Inv X pins σ' H' s'/\tn i s'.heap/\(∀b∈fp,H' b=none)/\W i n σ' H') ?_ m0 ⟨0,σ,H2,I2,st2,λb hb=>(f2 b hb).1,w0⟩;rintro n s3 ⟨i,σ3,H3,I3,st3,fr3,w3⟩;rcases turn i n σ3 H3 w3 with ⟨stop,qn⟩ | ⟨go,N,hN,step⟩
 .refine GA hp (bh (T.done X rfl rfl rfl hc i pins s3 σ3 H3 X.xe I3 (stat fr3) st3 stop) λr s4 hZz=>?_);obtain⟨hr,I4⟩:=hZz;subst hr;exact Hj ⟨σ3,H3,I4,qn⟩
 .refine GA hp (bh (T.item X rfl rfl rfl hc i pins s3 σ3 H3 X.xe I3 (stat fr3) st3 go) λr s4 hZz=>?_);obtain⟨u,hr,h4⟩:=hZz;subst hr;refine GA hp (bh h4 λ_ s5 hZz=>?_);obtain⟨x,H5,I5,r5,y5,st5,fr5⟩:=hZz;have I5':=I5.pinned (stat fr5) (T.obj _ _ st5);refine GA hp (bh (hg _ s5 σ3 H5 x u _ I5' r5 (step x H5 y5)) λ_ s6 hZz=>?_);obtain⟨σ6,H6,I6,q6⟩:=hZz;refine GA hp (bh (hb _ s6 σ6 H6 _ I6 q6) λf s7 q7=>?_);have again:∀{σ7:St} {H7:Hp},Inv X (pins++dr fp s5.heap) σ7 H7 s7->N σ7 H7->∃m,m<n/\∃i σ' H',Inv X pins σ' H' s7/\tn i s7.heap/\(∀b∈fp,H' b=none)/\W i m σ' H':=λ{σ7 H7} I7 n7=>by
   obtain⟨m',hm,w7⟩:=hN σ7 H7 n7;refine⟨m',hm,i+1,σ7,H7,I7.unpinned,T.keep _ _ _ st5 λb hb o e=>(I7.pin (b,o) (cr _ (cr _ (lm hb e)))).1,λb hb=>?_,w7⟩;obtain⟨o,e,d⟩:=T.obj _ _ st5 b hb;exact (I7.pin (b,o) (cr _ (cr _ (lm hb e)))).2.1
  cases f with
  | next=>obtain⟨σ7,H7,I7,n7⟩:=q7; exact again I7 n7
  | cont=>obtain⟨σ7,H7,I7,n7⟩:=q7; exact again I7 n7
  | brk=>obtain⟨σ7,H7,I7,q7⟩:=q7; exact⟨σ7,H7,I7.unpinned,q7⟩
  | ret v=>obtain⟨x7,σ7,H7,I7,r7,q7⟩:=q7; exact⟨x7,σ7,H7,I7.unpinned,r7,q7⟩
end
end L2
namespace L2
open PySem PySem.Spec PyProof.Rows
abbrev R2:=V->V->Hp->VK->Prop
def OpR (X:Cx)(f:Value->Value->Sem Value)(r:R2):Prop:=
 ∀(pins:af) (s:Shared) (σ:St) (H:Hp) (x y:V) (v u:Value) (Q:VK),Inv X pins σ H s->RelV x v->RelV y u->r x y H Q ->
  wpAny (model X.prog X.w) X.A (f v u) (EP X pins σ Q) X.xe s
def qV (X:Cx)(f:Value->Sem Value)(r:V->Hp->VK->Prop):Prop:=
 ∀(pins:af) (s:Shared) (σ:St) (H:Hp) (x:V) (v:Value) (Q:VK),Inv X pins σ H s->RelV x v->r x H Q ->
  wpAny (model X.prog X.w) X.A (f v) (EP X pins σ Q) X.xe s
def CallR (X:Cx)(f:Value)(r:av->Hp->VK->Prop):Prop:=
 ∀(pins:af) (s:Shared) (σ:St) (H:Hp) (xs:av) (us:ao) (Q:VK),Inv X pins σ H s->Vals xs us->r xs H Q ->
  wpAny (model X.prog X.w) X.A (call f us) (EP X pins σ Q) X.xe s
def kS (r:R2)(ta tb:TE):TE:=λσ H Q=>ta σ H λx H1=>tb σ H1 λy H2=>r x y H2 Q
def qd (r:V->Hp->VK->Prop)(ta:TE):TE:=λσ H Q=>ta σ H λx H1=>r x H1 Q
def rI (C:Int->Int->Prop)(g:Int->Int->V):R2:=λx y H Q=>∃i j,x=.int i/\y=.int j/\C i j/\Q (g i j) H
def iK (g:Int->Int->V):R2:=λx y H Q=>∃i j,x=.int i/\y=.int j/\Q (g i j) H
def rU (g:Int->V):V->Hp->VK->Prop:=λx H Q=>∃i,x=.int i/\Q (g i) H
section
variable {X:Cx}{a b c:Expr}{ta tb tc:TE}{pos:Pos}
def jD (ha:PE X a ta)(hb:PE X b tb){pins:af}{s:Shared}{σ:St}{H:Hp}{R:V->V->Hp->Prop}(I:Inv X pins σ H s)
  (h:ta σ H λx H1=>tb σ H1 λy H2=>R x y H2){Q:Value->Shared->Prop}{f:Value->Value->Sem Value}
  (hf:∀v u s2 x y H2,Inv X pins σ H2 s2->RelV x v->RelV y u->R x y H2->wpAny (model X.prog X.w) X.A (f v u) Q X.xe s2) :
  wpAny (model X.prog X.w) X.A (eval a X.env) (λv s₁=>wpAny (model X.prog X.w) X.A (eval b X.env) (λu s₂=>wpAny (model X.prog X.w) X.A (f v u) Q X.xe s₂) X.xe s₁) X.xe s:=by
 refine bh (ha pins s σ H _ I h) λv s1 hZz=>?_;obtain⟨x,H1,I1,r1,q1⟩:=hZz;refine bh (hb pins s1 σ H1 _ I1 q1) λu s2 hZz=>?_;obtain⟨y,H2,I2,r2,q2⟩:=hZz;exact hf v u s2 x y H2 I2 r1 r2 q2
def lv {op:Operator}{r:R2}(ho:OpR X (binaryOp op) r)(ha:PE X a ta)(hb:PE X b tb):PE X (.BinOp a op b pos) (kS r ta tb):=by
 intro pins s σ H Q I h;exact wpAny_BinOp (jD ha hb I h λv u s2 x y H2 I2 rx ry q=>ho pins s2 σ H2 x y v u Q I2 rx ry q)
def wU {op:UnaryOp}{r:V->Hp->VK->Prop}(ho:qV X (unaryOp op) r)(ha:PE X a ta):PE X (.UnaryOp op a pos) (qd r ta):=by
 intro pins s σ H Q I h;exact UnaryOp_ (bh (ha pins s σ H _ I h) λv s1 ⟨x,H1,I1,r1,q1⟩=>ho pins s1 σ H1 x v Q I1 r1 q1)
def oB {f:Value->Value->Sem Value}{C:Int->Int->Prop}{g:Int->Int->Int}
  (rule:∀(i j:Int) (t u:Tok) (s:Shared) (Q:Value->Shared->Prop) (E:Value->Shared->Prop),C i j->Q (.int (g i j) s.toks) { s with toks:=s.toks+1 }->wpAny (model X.prog X.w) X.A (f (.int i t) (.int j u)) Q E s) :
  OpR X f (rI C λi j=>.int (g i j)):=by
 intro pins s σ H x y v u Q I rx ry h;obtain⟨i,j,rfl,rfl,hc,q⟩:=h;obtain⟨t,rfl⟩:=rx;obtain⟨t',rfl⟩:=ry;exact rule i j t t' s _ _ hc ⟨.int (g i j),H,I.tok _,⟨_,rfl⟩,q⟩
def mw {f:Value->Value->Sem Value}{g:Int->Int->Int}
  (rule:∀(i j:Int) (t u:Tok) (s:Shared) (Q:Value->Shared->Prop) (E:Value->Shared->Prop),Q (.int (g i j) s.toks) { s with toks:=s.toks+1 }->wpAny (model X.prog X.w) X.A (f (.int i t) (.int j u)) Q E s) :
  OpR X f (iK λi j=>.int (g i j)):=by
 intro pins s σ H x y v u Q I rx ry h;obtain⟨i,j,rfl,rfl,q⟩:=h;obtain⟨t,rfl⟩:=rx;obtain⟨t',rfl⟩:=ry;exact rule i j t t' s _ _ ⟨.int (g i j),H,I.tok _,⟨_,rfl⟩,q⟩
def iw {f:Value->Value->Sem Value}{g:Int->Int->Bool}
  (rule:∀(i j:Int) (t u:Tok) (s:Shared) (Q:Value->Shared->Prop) (E:Value->Shared->Prop),Q (.bool (g i j)) s->wpAny (model X.prog X.w) X.A (f (.int i t) (.int j u)) Q E s) :
  OpR X f (iK λi j=>.bl (g i j)):=by
 intro pins s σ H x y v u Q I rx ry h;obtain⟨i,j,rfl,rfl,q⟩:=h;obtain⟨t,rfl⟩:=rx;obtain⟨t',rfl⟩:=ry;exact rule i j t t' s _ _ ⟨.bl (g i j),H,I,rfl,q⟩
def rq (i j:Int):Prop:=0<=j/\j<=1000000/\i.natAbs<2 ^ 64
def CMul (i j:Int):Prop:=(-(2 ^ 64)<i/\i<2 ^ 64)\/(-(2 ^ 64)<j/\j<2 ^ 64)
def CMul.ok {i j:Int}(h:CMul i j):IntMulOk i j:=by
 rcases h with ⟨h1,h2⟩ | ⟨h1,h2⟩
 .exact .of_left (intBits_le_64 h1 h2)
 .exact .of_right (intBits_le_64 h1 h2)
def B2:OpR X (binaryOp .Add) (iK λi j=>.int (i+j)):=mw λ_ _ _ _ _ _ _ q=>add_int q
def Bc:OpR X (binaryOp .Sub) (iK λi j=>.int (i - j)):=mw λ_ _ _ _ _ _ _ q=>sub_int q
def Df:OpR X (binaryOp .Mult) (rI CMul λi j=>.int (i * j)):=oB λ_ _ _ _ _ _ _ hc q=>mul_int q hc.ok
def Dd:OpR X (binaryOp .Mod) (rI (λ_ j=>0<j) λi j=>.int (i % j)):=oB λi j _ _ _ _ _ hc q=>by
 have h1:(0:Int)<j:=hc;exact mod_int' (by omega) (by rw[Int.fmod_eq_emod_of_nonneg i (by omega)]; exact q)
def Am:OpR X (binaryOp .Pow) (rI rq λi j=>.int (i ^ j.toNat)):=oB λ_ _ _ _ _ _ _ hc q=>pow_int_small hc.1 hc.2.1 hc.2.2 q
def C6 {f:Value->Sem Value}{g:Int->Int}
  (rule:∀(i:Int) (t:Tok) (s:Shared) (Q:Value->Shared->Prop) (E:Value->Shared->Prop),Q (.int (g i) s.toks) { s with toks:=s.toks+1 }->wpAny (model X.prog X.w) X.A (f (.int i t)) Q E s) :
  qV X f (rU λi=>.int (g i)):=by
 intro pins s σ H x v Q I rx h;obtain⟨i,rfl,q⟩:=h;obtain⟨t,rfl⟩:=rx;exact rule i t s _ _ ⟨.int (g i),H,I.tok _,⟨_,rfl⟩,q⟩
def Cf:qV X (unaryOp .USub) (rU λi=>.int (-i)):=C6 λ_ _ _ _ _ q=>neg_int q
end
noncomputable def scal:V->V->Bool
 | .non,.non=>true | .non,.int _=>true | .int _,.non=>true | .non,.bl _=>true | .bl _,.non=>true | .non,.str _=>true | .str _,.non=>true
 | .int _,.int _=>true | .bl _,.bl _=>true | .str _,.str _=>true | .byt _,.byt _=>true
 | .int _,.str _=>true | .str _,.int _=>true | .bl _,.str _=>true | .str _,.bl _=>true
 | _,_=>false
section
variable {X:Cx}{a b c:Expr}{ta tb tc:TE}{pos:Pos}
def y2:OpR X (compareOp .Lt) (iK λi j=>.bl (decide (i<j))):=iw λ_ _ _ _ _ _ _ q=>lt_int q
def yX:OpR X (compareOp .LtE) (iK λi j=>.bl (decide (i<=j))):=iw λ_ _ _ _ _ _ _ q=>le_int q
def Cb:OpR X (compareOp .Gt) (iK λi j=>.bl (decide (j<i))):=iw λ_ _ _ _ _ _ _ q=>gt_int q
def yF:OpR X (compareOp .GtE) (iK λi j=>.bl (decide (j<=i))):=iw λ_ _ _ _ _ _ _ q=>ge_int q
def OpR.or {f:Value->Value->Sem Value}{r r':R2}(h:OpR X f r)(h':OpR X f r'):OpR X f (λx y H Q=>r x y H Q\/r' x y H Q):=by
 intro pins s σ H x y v u Q I rx ry q;rcases q with q | q
 .exact h pins s σ H x y v u Q I rx ry q
 .exact h' pins s σ H x y v u Q I rx ry q
def kE (b:Expr){op:CmpOp}(h:op≠.In:=by decide)(h2:op≠.NotIn:=by decide):behindInMarks op b=false:=by
 have e1:(op == CmpOp.In)=false:=by cases op <;> first | rfl | exact absurd rfl h
 have e2:(op == CmpOp.NotIn)=false:=by cases op <;> first | rfl | exact absurd rfl h2
 cases b <;> simp[behindInMarks,e1,e2]
def ze {op:CmpOp}{r:R2}(ho:OpR X (compareOp op) r)(ha:PE X a ta)(hb:PE X b tb)(hm:behindInMarks op b=false):PE X (.Compare a [op] [b] pos) (kS r ta tb):=by
 intro pins s σ H Q I h;exact wpAny_Compare1 (jD ha hb I h λv u s2 x y H2 I2 rx ry q=>ho pins s2 σ H2 x y v u Q I2 rx ry q) hm
def iX (t:TE):TT:=λσ H Q=>t σ H λx H'=>∃k,x=.bl k/\Q k H'
def zw {op:CmpOp}{r:R2}(ho:OpR X (compareOp op) r)(ha:PE X a ta)(hb:PE X b tb)(hm:behindInMarks op b=false):PT X (.Compare a [op] [b] pos) (iX (kS r ta tb)):=by
 intro pins s σ H Q I h;refine wpAny_isTrue_Compare1 (bh (ha pins s σ H _ I h) λv s1 ⟨x,H1,I1,r1,q1⟩=>bh (hb pins s1 σ H1 _ I1 q1) λu s2 ⟨y,H2,I2,r2,q2⟩=>
  bh (ho pins s2 σ H2 x y v u _ I2 r1 r2 q2) λc s3 ⟨z,H3,I3,r3,k,e,q3⟩=>?_) hm
 subst e;cases r3;exact FT ⟨H3,I3,q3⟩
def eD (r r':R2)(ta tb tc:TE):TE:=λσ H Q=>ta σ H λx H1=>tb σ H1 λy H2=>r x y H2 λz H3=>∃k,z=.bl k /\
 (if k=true then tc σ H3 λw' H4=>r' y w' H4 Q else Q (.bl false) H3)
def Ct {op op':CmpOp}{r r':R2}(ho:OpR X (compareOp op) r)(ho':OpR X (compareOp op') r')(ha:PE X a ta)(hb:PE X b tb)(hc:PE X c tc)
  (hm:lastMarks [op,op'] [b,c]=false:=by with_unfolding_all rfl):PE X (.Compare a [op,op'] [b,c] pos) (eD r r' ta tb tc):=by
 intro pins s σ H Q I h;refine Compare_chain (bh (ha pins s σ H _ I h) λv s1 ⟨x,H1,I1,r1,q1⟩=>chain_link (bh (hb pins s1 σ H1 _ I1 q1) λu s2 ⟨y,H2,I2,r2,q2⟩=>
  bh (ho pins s2 σ H2 x y v u _ I2 r1 r2 q2) λd s3 ⟨z,H3,I3,r3,k,e,q3⟩=>?_)) hm
 subst e;cases r3;refine FT ?_;cases k with
 | false=>exact ite_ff ⟨.bl false,H3,I3,rfl,q3⟩
 | true=>exact ite_tt (chain_last (bh (hc pins s3 σ H3 _ I3 q3) λw' s4 ⟨z',H4,I4,r4,q4⟩=>ho' pins s4 σ H4 y z' u w' Q I4 r2 r4 q4))
def BZ {op op':CmpOp}{r r':R2}(ho:OpR X (compareOp op) r)(ho':OpR X (compareOp op') r')(ha:PE X a ta)(hb:PE X b tb)(hc:PE X c tc)
  (hm:lastMarks [op,op'] [b,c]=false:=by with_unfolding_all rfl):PT X (.Compare a [op,op'] [b,c] pos) (iX (eD r r' ta tb tc)):=by
 intro pins s σ H Q I h;refine isTrue_chain (bh (ha pins s σ H _ I h) λv s1 ⟨x,H1,I1,r1,q1⟩=>test_link (bh (hb pins s1 σ H1 _ I1 q1) λu s2 ⟨y,H2,I2,r2,q2⟩=>
  bh (ho pins s2 σ H2 x y v u _ I2 r1 r2 q2) λd s3 ⟨z,H3,I3,r3,k,e,q3⟩=>?_)) hm
 subst e;cases r3;refine FT ?_;cases k with
 | false=>
  obtain⟨k',e',q'⟩:=q3;cases e';exact ite_ff ⟨H3,I3,q'⟩
 | true=>
  refine ite_tt (test_last (bh (hc pins s3 σ H3 _ I3 q3) λw' s4 ⟨z',H4,I4,r4,q4⟩=>bh (ho' pins s4 σ H4 y z' u w' _ I4 r2 r4 q4) λd' s5 hZz=>?_));obtain⟨z2,H5,I5,r5,k2,e2,q5⟩:=hZz;subst e2;cases r5;exact FT ⟨H5,I5,q5⟩
def eG:(sizeLine:Nat)<2 ^ 63:=by rw[sizeLine_eq]; decide
def vals1 {x:V}{us:ao}(r:Vals [x] us):∃u,us=[u]/\RelV x u:=by
 cases r with
 | cons r1 r2=>cases r2; exact⟨_,rfl,r1⟩
def vals2 {x y:V}{us:ao}(r:Vals [x,y] us):∃u w',us=[u,w']/\RelV x u/\RelV y w':=by
 cases r with
 | cons r1 r2=>
  cases r2 with
  | cons r3 r4=>cases r4; exact⟨_,_,rfl,r1,r3⟩
end
end L2
namespace L2
open PySem PySem.Spec PyProof.Rows
structure ObjM (h:Heap)(x dx C:Addr)(mA:Str->aA):Prop where
 obj:h.get? x=some (PySem.W.instObj C dx)
 ns:h.Ns1 dx mA
 ne:dx≠x
def Dy {h:Heap}{dx:Addr}{mA:Str->aA}(n:h.Ns1 dx mA):∃od,h.get? dx=some od/\∀name,PySem.W.lookIn name od=some (mA name):=by
 obtain⟨o,es,ep,ho,hd,hk,_,hm⟩:=n;refine⟨o,ho,λname=>?_⟩;have e:=hm name;unfold nsFind findBy at e;rw[<-Array.find?_toList] at e;unfold PySem.W.lookIn;rw[hd];dsimp only;split
 .rename_i y q;rw[q] at e;exact congrArg some e
 .rename_i q;rw[q] at e;have a:es.toList.any (·.refKey)=false:=by
   rw[List.any_eq_false];intro y hy;obtain⟨z,t,hkey⟩:=hk y (Array.mem_toList_iff.mp hy);simp[DictEntry.refKey,hkey]
  have a':¬es.toList.any (·.refKey)=true:=by rw[a]; exact GO
  rw[if_neg a'];exact congrArg some e
def ObjM.look {h:Heap}{x dx C:Addr}{mA:Str->aA}(I:ObjM h x dx C mA):∃od,PySem.W.InstAt h x (PySem.W.instObj C dx) C (some od)/\∀name,PySem.W.lookIn name od=some (mA name):=
 let ⟨od,ho,hl⟩:=Dy I.ns
 ⟨od,⟨I.obj,rfl,rfl,ho⟩,hl⟩
section
variable {prog:Program}{w:World}{A:Around}{E:Value->Shared->Prop}{s:Shared}{K:bm}{x dx C f:Addr}{mA:Str->aA}{name:Str}{v:Value}
def Dt {expr:Bool}{Q:Value->Shared->Prop}(X:K.In s.heap)(I:ObjM s.heap x dx C mA)(hg:PySem.W.plainGet K C name=true)(hh:PySem.W.hasDictIn K C=true)
  (ha:PySem.W.findIn K (.ref C) name=some none)(hv:mA name=some v)(hv':PySem.W.handedIn v=true)(h:Q v { s with toks:=s.toks+1 }) :
  wpAny (model prog w) A (getAttr (.ref x) name expr) Q E s:=by
 obtain⟨od,J,hl⟩:=I.look;exact PySem.W.get_value X J (HL hg).1 (PySem.W.findObj_own hh ha rfl (by rw[hl,hv])) hv' h
def Ay {pl:Sem Bool}{Q:Value×ao->Shared->Prop}(X:K.In s.heap)(I:ObjM s.heap x dx C mA)(hg:PySem.W.plainGet K C name=true)
  (hf:PySem.W.findIn K (.ref C) name=some (some (.ref f)))(ht:PySem.W.isFn K (.ref f)=true)(hv:mA name=none)(h:Q (.ref f,[.ref x]) s) :
  wpAny (model prog w) A (getMethod (.ref x) name pl) Q E s:=by
 obtain⟨od,J,hl⟩:=I.look;exact PySem.W.method_fn X J (HL hg).1 (HL hg).2 hf (Fi.mp ht) (by show (PySem.W.lookIn name od).map (·.isSome)=some false; rw[hl,hv]; rfl) h
def zK {ns:ar}{Q:Unit->Shared->Prop}(X:K.In s.heap)(I:ObjM s.heap x dx C mA)
  (hs:PySem.W.findIn K (.ref C) "__setattr__" = some (some (.builtin "object.__setattr__")))(hp:PySem.W.plainOver K C=true)(ht:PySem.W.takerIn K C name=some none)(hh:PySem.W.hasDictIn K C=true)
  (hw:PySem.Within mA ns)(hsz:ns.length<=sizeLine)
  (h:∀h',ObjM h' x dx C (λy=>if y=name then some v else mA y)->Heap.SameBut dx s.heap h'->Q () { s with heap:=h',toks:=s.toks+2 }) :
  wpAny (model prog w) A (setAttr (.ref x) name v) Q E s:=by
 obtain⟨od,J,hl⟩:=I.look;refine PySem.W.set_plain X J hs (PySem.W.osa_open (s:={ s with toks:=s.toks+1 }) (r:=none) X J hp ht λb=>?_);obtain⟨cd,hc,hd'⟩:=PySem.W.any_some hh;have hx:s.heap.get? x=some ⟨.ref C,some dx,.plain,#[]⟩:=I.obj;refine aM (bg (aM (aM (wpAny_loadPart hx (aM (PySem.W.Looks.here (s:={ s with toks:=s.toks+1 }) (PySem.W.looks_clsIn X hc) ?_))))));rw[hd'];refine bg (a:=some dx) (aM (bg (aM ?_)));refine wpAny_nsSet1 (s:={ s with toks:=s.toks+1 }) I.ns λh' hn2 hs2=>?_;obtain⟨oD,esD,epD,hoD,hdD,hcD⟩:=hn2.count (PySem.Within.cons name v hw);refine aM (wpAny_lookBehind hoD (by rw[hdD]; exact pastItsLine_dict (b8 hcD (by rw[List.length_cons]; omega))) ?_);exact bg (h _ ⟨(hs2.2 _ (GC I.ne)).trans I.obj,hn2,I.ne⟩ hs2)
def yT {R:Result->Shared->Prop}{vs:ao}{kw:ai}(X:K.In s.heap)(hm:PySem.W.makesIn K C=true)
  (hi:PySem.W.findIn K (.ref C) "__init__" = some (some (.ref f)))(hf:PySem.W.typeIn K (.ref f)=some (.type "function"))
  (h:codeAny (model prog w) (A.under (.builtin "type.__call__" ⟨.ref C::vs,kw⟩)) (.call (.ref f) ⟨.ref (s.heap.objs.size+1)::vs,kw⟩) (PySem.W.InitBack (s.heap.objs.size+1) R)
   { s with heap:=(s.heap.push PySem.W.emptyDict).push (PySem.W.instObj C s.heap.objs.size) }) :
  codeAny (model prog w) A (.call (.ref C) ⟨vs,kw⟩) R s:=by
 obtain⟨hh,g,d,t,os⟩:=s;exact PySem.W.make_core (PySem.W.makes_of X hm) (PySem.W.looks_findIn X hi) (λself=>PySem.W.bind_fn X self hf) (.inl rfl) h
end
noncomputable def putF (f:Str)(v:V):List (Str×V)->List (Str×V)
 | []=>[(f,v)]
 | (g,x)::r=>if g=f then (g,v)::r else (g,x)::putF f v r
theorem o3 (f g:Str)(v:V):∀fs:List (Str×V),(putF f v fs).lookup g=if g=f then some v else fs.lookup g
 | []=>by
  show List.lookup g [(f,v)]=_;by_cases h:g=f
  .have hb:(g == f)=true:=Fi.mpr h;simp only[List.lookup,hb,if_pos h]
  .have hb:(g == f)=false:=Ge.mpr h;simp only[List.lookup,hb,if_neg h]
 | (k,x)::r=>by
  have ih:=o3 f g v r;rw[show putF f v ((k,x)::r)=(if k=f then (k,v)::r else (k,x)::putF f v r) from rfl];by_cases hk:k=f
  .rw[if_pos hk];by_cases h:g=k
   .have hb:(g == k)=true:=Fi.mpr h;simp only[List.lookup,hb,if_pos (h.trans hk)]
   .have hb:(g == k)=false:=Ge.mpr h;simp only[List.lookup,hb,if_neg (λe:g=f=>h (e.trans hk.symm))]
  .rw[if_neg hk];by_cases h:g=k
   .have hb:(g == k)=true:=Fi.mpr h;simp only[List.lookup,hb,if_neg (λe:g=f=>hk (h.symm.trans e))]
   .have hb:(g == k)=false:=Ge.mpr h;simp only[List.lookup,hb];exact ih
theorem mH (f:Str)(v:V):∀fs:List (Str×V),f∈(putF f v fs).map (·.1)/\∀g,g∈fs.map (·.1)->g∈(putF f v fs).map (·.1)
 | []=>⟨by simp[putF],λg h=>by simp at h⟩
 | (k,x)::r=>by
  obtain⟨i1,i2⟩:=mH f v r;rw[show putF f v ((k,x)::r)=(if k=f then (k,v)::r else (k,x)::putF f v r) from rfl];by_cases hk:k=f
  .rw[if_pos hk];subst hk;exact⟨by simp,λg h=>by simpa using h⟩
  .rw[if_neg hk];refine⟨?_,λg h=>?_⟩
   .rw[Fh];exact bU _ i1
   .rw[Fh] at h ⊢;rcases cu h with e | e
    .exact Fl.mpr (.inl e)
    .exact bU _ (i2 g e)
theorem pe (f:Str)(v:V):∀fs:List (Str×V),(putF f v fs).length<=fs.length+1
 | []=>by simp[putF]
 | (k,x)::r=>by
  have ih:=pe f v r;rw[show putF f v ((k,x)::r)=(if k=f then (k,v)::r else (k,x)::putF f v r) from rfl];by_cases hk:k=f
  .rw[if_pos hk,List.length_cons,List.length_cons]; omega
  .rw[if_neg hk,List.length_cons,List.length_cons]; omega
def RelO.some_of {v:V}{o:aA}(r:RelO (some v) o):∃u,o=some u/\RelV v u:=by
 cases o with
 | none=>exact (show False from r).elim
 | some u=>exact⟨u,rfl,r⟩
def RelO.none_of {o:aA}(r:RelO none o):o=none:=by
 cases o with
 | none=>rfl
 | some u=>exact (show False from r).elim
def tK {v:V}{u:Value}(r:RelV v u):PySem.W.handedIn u=true:=by
 cases v with
 | non=>cases (show u=Value.none from r); rfl
 | bl b=>cases (show u=Value.bool b from r); rfl
 | int i=>obtain⟨t,e⟩:=(show ∃t,u=Value.int i t from r); cases e; rfl
 | str x=>obtain⟨t,e⟩:=(show ∃t,u=Value.str x t from r); cases e; rfl
 | byt b=>obtain⟨t,e⟩:=(show ∃t,u=Value.bytes b t from r); cases e; rfl
 | flt b=>obtain⟨t,e⟩:=(show ∃t,u=Value.float b t from r); cases e; rfl
 | ref a=>cases (show u=Value.ref a from r); rfl
 | ty n=>cases (show u=Value.type n from r); rfl
section
variable {P:Program}{w:World}{H H':Hp}{h h':Heap}{a C dx:Addr}{fs fs':List (Str×V)}
def lF (hok:HOk P w H h)(e:H a=some (.ins C dx fs)):∃mA,ObjM h a dx C mA/\(∀f,RelO (fs.lookup f) (mA f))/\PySem.Within mA (fs.map (·.1))/\fs.length<=1000/\H dx=some (.own a):=by
 obtain⟨d,z,ne,ob,mA,n,r,q⟩:=(show ObjOk P w H h a (.ins C dx fs) from hok a _ e)
 exact⟨mA,⟨ob,n,ne⟩,r,q,z,d⟩
end
structure Cls (K:bm)(C:Addr):Prop where
 pg:PySem.W.plainGet K C Str.empty=true
 hd:PySem.W.hasDictIn K C=true
 po:PySem.W.plainOver K C=true
 sa:PySem.W.findIn K (.ref C) "__setattr__" = some (some (.builtin "object.__setattr__"))
def Cls.get {K:bm}{C:Addr}(c:Cls K C)(f:Str):PySem.W.plainGet K C f=true:=c.pg
def NoAttr (K:bm)(C:Addr)(f:Str):Prop:=PySem.W.findIn K (.ref C) f=some none
def NoAttr.taker {K:bm}{C:Addr}{f:Str}(n:NoAttr K C f):PySem.W.takerIn K C f=some none:=by
 unfold PySem.W.takerIn;rw[show PySem.W.findIn K (.ref C) f=some none from n];rfl
structure Meth (K:bm)(C:Addr)(m:Str)(f:Addr):Prop where
 at_:PySem.W.findIn K (.ref C) m=some (some (.ref f))
 fn:PySem.W.isFn K (.ref f)=true
 kp:PySem.W.keepIn K (.ref f)=true
section
variable {X:Cx}{pins:af}{σ:St}{H:Hp}{s:Shared}{a C dx:Addr}{fs:List (Str×V)}{f:Str}{v:V}{A:Around}{E:Value->Shared->Prop}
def EW {b:Bool}{Q:Value->Shared->Prop}(I:Inv X pins σ H s)(e:H a=some (.ins C dx fs))(c:Cls X.K C)(n:NoAttr X.K C f)(l:fs.lookup f=some v)
  (h:∀u s',Inv X pins σ H s'->RelV v u->Q u s'):wpAny (model X.prog X.w) A (getAttr (.ref a) f b) Q E s:=by
 obtain⟨mA,O,r,_,_,_⟩:=lF I.hok e;obtain⟨u,hu,ru⟩:=RelO.some_of (v:=v) (o:=mA f) (by rw[<-l]; exact r f);exact Dt I.kIn O (c.get f) c.hd n hu (tK ru) (h u _ (I.tok _) ru)
def sH {m:Str}{g:Addr}{pl:Sem Bool}{Q:Value×ao->Shared->Prop}(I:Inv X pins σ H s)(e:H a=some (.ins C dx fs))(c:Cls X.K C)(k:Meth X.K C m g)(l:fs.lookup m=none)
  (h:Q (.ref g,[.ref a]) s):wpAny (model X.prog X.w) A (getMethod (.ref a) m pl) Q E s:=by
 obtain⟨mA,O,r,_,_,_⟩:=lF I.hok e;have hn:mA m=none:=RelO.none_of (by rw[<-l]; exact r m);exact Ay I.kIn O (c.get m) k.at_ k.fn hn h
def AV {y:V}{u:Value}{Q:Unit->Shared->Prop}(I:Inv X pins σ H s)(e:H a=some (.ins C dx fs))(c:Cls X.K C)(n:NoAttr X.K C f)(hl:fs.length<1000)(ry:RelV y u)
  (h:∀s',Inv X pins σ (upd H a (.ins C dx (putF f y fs))) s'->Q () s'):wpAny (model X.prog X.w) A (setAttr (.ref a) f u) Q E s:=by
 obtain⟨mA,O,r,wi,_,ho⟩:=lF I.hok e;have hz:(fs.map (·.1)).length<=sizeLine:=by rw[Fg,sizeLine_eq]; omega
 refine zK I.kIn O c.sa c.po n.taker c.hd wi hz λh' O' sb=>h _ ?_;have hd:∃o,h'.get? dx=some o:=let ⟨o,_,_,e',_⟩:=O'.ns; ⟨o,e'⟩
 refine I.write (x:=a) (e:=dx) (by rw[e]; exact G5) (.inr ho) (λb q hb z=>(sb.2 b hb).trans z) hd ?_;refine⟨by rw[bK O.ne]; exact ho,?_,O.ne,O'.obj,_,O'.ns,λg=>?_,λg hg=>?_⟩
 .have:=pe f y fs; omega
 .show RelO ((putF f y fs).lookup g) (if g=f then some u else mA g);rw[o3];by_cases q:g=f
  .rw[if_pos q,if_pos q]; exact ry
  .rw[if_neg q,if_neg q]; exact r g
 .by_cases q:g=f
  .rw[q]; exact (mH f y fs).1
  .refine (mH f y fs).2 g (wi g λz=>hg ?_);show (if g=f then some u else mA g)=none;rw[if_neg q]; exact z
def Inv.made (I:Inv X pins σ H s):Inv X pins σ (upd (upd H s.heap.objs.size (.own (s.heap.objs.size+1))) (s.heap.objs.size+1) (.ins C s.heap.objs.size []))
  { s with heap:=(s.heap.push PySem.W.emptyDict).push (PySem.W.instObj C s.heap.objs.size) }:=by
 have e1:(s.heap.push PySem.W.emptyDict).get? s.heap.objs.size=some PySem.W.emptyDict:=dD s.heap rfl;have e2:((s.heap.push PySem.W.emptyDict).push (PySem.W.instObj C s.heap.objs.size)).get? (s.heap.objs.size+1)=some (PySem.W.instObj C s.heap.objs.size):=by
  have:=dD (s.heap.push PySem.W.emptyDict) (o:=PySem.W.instObj C s.heap.objs.size) rfl
  rwa [Fq] at this
 have e3:(s.heap.push PySem.W.emptyDict).Ns s.heap.objs.size (λ_=>none):=⟨PySem.W.emptyDict,#[],_,e1,rfl,(λe he=>absurd he (by simp)),λ_=>rfl⟩
 have I1:=I.laid (a:=s.heap.objs.size) (o:=.own (s.heap.objs.size+1)) (h':=s.heap.push PySem.W.emptyDict) (t':=s.toks) (λb u q=>bV _ q) (bD _) ⟨_,e1⟩;refine I1.laid (a:=s.heap.objs.size+1) (o:=.ins C s.heap.objs.size []) (t':=s.toks) (λb u q=>bV _ q) (HQ (Fq _ _)) ?_;have ne:s.heap.objs.size≠s.heap.objs.size+1:=cY (Gp _);refine⟨by rw[bK ne,bX],Fy _,ne,e2,λ_=>none,(Heap.Ns1.of_empty e3).at λo q=>bV _ q,λ_=>G5,λy hy=>absurd rfl hy⟩
def sD {prog:Program}{w:World}{env:Env}{e:Expr}{f:Str}{pos:Pos}{s:Shared}{Q:Value->Shared->Prop}(hb:attributeBase e f env (eval e env)=eval e env)
  (h:wpAny (model prog w) A (eval e env) (λo s₁=>wpAny (model prog w) A (getAttr o f true) Q E s₁) E s):wpAny (model prog w) A (eval (.Attribute e f pos) env) Q E s:=
 Attribute_any_ h (by rw[arm_eval_Attribute,hb])
end
def rY (K:bm)(ta:TE)(f:Str):TE:=λσ H Q=>ta σ H λx H1=>∃a C dx fs v,x=.ref a/\H1 a=some (.ins C dx fs)/\Cls K C/\NoAttr K C f/\fs.lookup f=some v/\Q v H1
def iE (K:bm)(ta tv:TE)(f:Str):TS:=λD σ H=>tv σ H λy H1=>ta σ H1 λx H2=>∃a C dx fs,x=.ref a/\H2 a=some (.ins C dx fs)/\Cls K C/\NoAttr K C f/\fs.length<1000 /\
 D.nx σ (upd H2 a (.ins C dx (putF f y fs)))
section
variable {X:Cx}{o e value:Expr}{f:Str}{pos pos' tpos:Pos}{ta tv:TE}
def Dq (he:PE X e ta)(hb:attributeBase e f X.env (eval e X.env)=eval e X.env):PE X (.Attribute e f pos) (rY X.K ta f):=by
 intro pins s σ H Q I h;refine sD hb (bh (he pins s σ H _ I h) λu s1 hZz=>?_);obtain⟨x,H1,I1,rx,a,C,dx,fs,v,ex,ea,c,n,l,q⟩:=hZz;subst ex;obtain rfl:u=Value.ref a:=rx;exact EW I1 ea c n l λu' s2 I2 ru=>⟨v,H1,I2,ru,q⟩
def DG (ha:PE X o ta)(hv:PE X value tv)(hs:swapsWith value (some (.Attribute o f pos')) pos.line X.env=pure false):PS X (.Assign [.Attribute o f pos'] value pos) (iE X.K ta tv f):=by
 intro pins s σ H D I h;refine plainObj_wpAny_Assign_Attribute (bh (hv pins s σ H _ I h) λu s1 ⟨y,H1,I1,ry,q⟩=>bh (ha pins s1 σ H1 _ I1 q) λov s2 hZz=>?_) hs;obtain⟨x,H2,I2,rx,a,C,dx,fs,ex,ea,c,n,l,q2⟩:=hZz;subst ex;obtain rfl:ov=Value.ref a:=rx;exact AV I2 ea c n l ry λs3 I3=>⟨σ,_,I3,q2⟩
end
section
variable {X:Cx}{pins:af}{σ:St}{H:Hp}{s:Shared}{A:Around}{E:Value->Shared->Prop}{Q:Value->Shared->Prop}{c:Value}{b:Bool}
inductive TyOf (K:bm) (H:Hp):V->Value->Prop where
 | non:TyOf K H .non (.type "NoneType")
 | bl (x:Bool):TyOf K H (.bl x) (.type "bool")
 | int (i:Int):TyOf K H (.int i) (.type "int")
 | str (x:Str):TyOf K H (.str x) (.type "str")
 | flt (x:UInt64):TyOf K H (.flt x) (.type "float")
 | lst {a:Addr} {xs:av} (e:H a=some (.lst xs)):TyOf K H (.ref a) (.type "list")
 | frz {a:Addr} {o:Obj} {xs:av} (e:H a=some (.frz o (.lst xs))):TyOf K H (.ref a) (.type "list")
 | tup {a:Addr} {xs:av} (e:H a=some (.tup xs)):TyOf K H (.ref a) (.type "tuple")
 | dK {a:Addr} {kvs:List (eJ×V)} (e:H a=some (.dK kvs)):TyOf K H (.ref a) (.type "dict")
 | dT {a:Addr} {kvs:List (List eJ×V)} (e:H a=some (.dT kvs)):TyOf K H (.ref a) (.type "dict")
 | ins {a C dx:Addr} {fs:List (Str×V)} (e:H a=some (.ins C dx fs)) (cl:Cls K C) (ha:PySem.W.findIn K (.ref C) "__class__" = some (some (.builtin "object.__class__")))
   (hn:PySem.W.specialIn K (.builtin "object.__class__") "__get__" = some (some (.builtin "getset_descriptor.__get__"))) (htk:PySem.W.takesIn K (.builtin "object.__class__")=some true)
   (hm:PySem.W.mroIn K C (.type "object")=some true):TyOf K H (.ref a) (.ref C)
def jg {x:V}{u t:Value}(I:Inv X pins σ H s)(rx:RelV x u)(ty:TyOf X.K H x t)(e:PySem.W.kitOne X.K t c=some b)(h:∀tk,Q (.bool b) { s with toks:=tk }) :
  wpAny (model X.prog X.w) A (call (.builtin "isinstance") [u,c]) Q E s:=by
 cases ty with
 | non=>cases (show u=Value.none from rx); exact FL PySem.W.kitx_none I.kIn G5 e (λz=>nomatch z) h
 | bl y=>cases (show u=Value.bool y from rx); exact FL PySem.W.kitx_bool I.kIn G5 e (λz=>nomatch z) h
 | int i=>obtain⟨t,q⟩:=(show ∃t,u=Value.int i t from rx); cases q; exact FL PySem.W.kitx_int I.kIn G5 e (λz=>nomatch z) h
 | str y=>obtain⟨t,q⟩:=(show ∃t,u=Value.str y t from rx); cases q; exact FL PySem.W.kitx_str I.kIn G5 e (λz=>nomatch z) h
 | flt y=>obtain⟨t,q⟩:=(show ∃t,u=Value.float y t from rx); cases q; exact FL PySem.W.kitx_float I.kIn G5 e (λz=>nomatch z) h
 | @lst a xs ea=>
  cases (show u=Value.ref a from rx);obtain⟨_,_,n,_,h1⟩:=(show ObjOk X.prog X.w H s.heap a (.lst xs) from I.hok a _ ea)
  exact FL Ie I.kIn ⟨_,h1,rfl⟩ e (λz=>nomatch z) h
 | @frz a ob xs ea=>
  cases (show u=Value.ref a from rx);obtain⟨_,_,_,n,_,h1⟩:=(show ObjOk X.prog X.w H s.heap a (.frz ob (.lst xs)) from I.hok a _ ea)
  exact FL Ie I.kIn ⟨_,h1,rfl⟩ e (λz=>nomatch z) h
 | @tup a xs ea=>
  cases (show u=Value.ref a from rx);obtain⟨_,_,_,p⟩:=(show ObjOk X.prog X.w H s.heap a (.tup xs) from I.hok a _ ea)
  obtain⟨o,h1,h2,_⟩:=p;exact FL HU I.kIn ⟨o,h1,h2⟩ e (λz=>nomatch z) h
 | @dK a kvs ea=>
  cases (show u=Value.ref a from rx);obtain⟨_,_,vs,_,p⟩:=(show ObjOk X.prog X.w H s.heap a (.dK kvs) from I.hok a _ ea)
  obtain⟨o,es,ep,h1,h2,_⟩:=p;exact FL PySem.W.kitx_dict I.kIn ⟨o,h1,h2.1⟩ e (λz=>nomatch z) h
 | @dT a kvs ea=>
  cases (show u=Value.ref a from rx);obtain⟨_,_,xs,_,o,es,ep,h1,h2,_⟩:=(show ObjOk X.prog X.w H s.heap a (.dT kvs) from I.hok a _ ea)
  exact FL PySem.W.kitx_dict I.kIn ⟨o,h1,h2.1⟩ e (λz=>nomatch z) h
 | @ins a C dx fs ea cl ha hn htk hm=>
  cases (show u=Value.ref a from rx);obtain⟨mA,O,_⟩:=lF I.hok ea;obtain⟨od,J,_⟩:=O.look;exact FL (PySem.W.kitx_own (cl.get _) cl.hd ha hn htk hm) I.kIn J e (λz=>nomatch z) h
end
end L2
namespace L2
open PySem PySem.Spec PyProof.Rows
structure Room (k:Nat)(A:Around):Prop where
 hd:A.handled=none
 dp:A.depth+3 * k+5<recursionLimit
 un:A.units+16 * k+200<cLine
def Room.mono {j k:Nat}{A:Around}(r:Room k A)(h:j<=k):Room j A:=⟨r.hd,by have:=r.dp; omega,by have:=r.un; omega⟩
theorem Room.deeper {k:Nat}{A:Around}(r:Room (k+1) A)(env:Env):Room k (A.deeper env):=
 ⟨r.hd,by have:=r.dp; show A.depth+1+3 * k+5<_; omega,by have:=r.un; show A.units+3+16 * k+200<_; omega⟩
def zQ {A:Around}{C:Addr}{us:ao}{kw:ai}:(A.under (.builtin "type.__call__" ⟨.ref C::us,kw⟩)).depth=A.depth+1:=by
 first | rfl | simp[Around.under,Code.weight,Code.isCreation,Code.isGuard,Code.isCaller,Code.frames,Code.isFrame,guardIds]
def yK {A:Around}{C:Addr}{us:ao}{kw:ai}:(A.under (.builtin "type.__call__" ⟨.ref C::us,kw⟩)).units=A.units+1:=by
 first | rfl | simp[Around.under,Code.cUnits,Code.frames,Code.isFrame]
def Room.make {k:Nat}{A:Around}(r:Room (k+1) A)(C:Addr)(us:ao)(kw:ai):Room k (A.under (.builtin "type.__call__" ⟨.ref C::us,kw⟩)):=
 ⟨r.hd,by have:=r.dp; rw[zQ]; omega,by have:=r.un; rw[yK]; omega⟩
theorem Room.depth {k:Nat}{A:Around}(r:Room k A):A.depth<recursionLimit:=by have:=r.dp; omega
theorem Room.units {k:Nat}{A:Around}(r:Room k A):A.units+64<cLine:=by have:=r.un; omega
def dI:TA:=λ_ H Q=>Q [] H
def bY (ta:TE)(tr:TA):TA:=λσ H Q=>ta σ H λx H1=>tr σ H1 λxs H2=>Q (x::xs) H2
section
variable {X:Cx}{e:Expr}{es:au}{te:TE}{t:TA}{pos:Pos}
def hY:PA X [] dI:=λ_ _ _ _ H Q I h=>G2 ⟨[],H,I,.nil,h⟩
def gr (ha:PE X e te)(hr:PA X es t)(hs:starEach (e::es) X.env=(false,eval e X.env)::starEach es X.env:=by rfl):PA X (e::es) (bY te t):=by
 intro pos pins s σ H Q I h;rw[hs];show wpAny _ _ (spliced ((false,eval e X.env)::backTo pos (starEach es X.env))) _ _ s;refine GP (bh (ha pins s σ H _ I h) λu s1 hZz=>?_);obtain⟨x,H1,I1,r1,q1⟩:=hZz;exact bh (hr pos pins s1 σ H1 _ I1 q1) λus s2 ⟨xs,H2,I2,r2,q2⟩=>⟨x::xs,H2,I2,.cons r1 r2,q2⟩
def mZ (t:TA):TE:=λσ H Q=>t σ H λxs H1=>xs.length<=sizeLine/\∀p,H1 p=none->Q (.ref p) (upd H1 p (.tup xs))
def pE (t:TA):TE:=λσ H Q=>t σ H λxs H1=>xs.length<=sizeLine/\∀p,H1 p=none->Q (.ref p) (upd H1 p (.lst xs))
def pR {x1}(h:PA X es t):PE X (.Tuple es x1 pos) (mZ t):=by
 intro pins s σ H Q I hq;refine wpAny_Tuple_spliced (bh (h pos pins s σ H _ I hq) λus s1 ⟨xs,H1,I1,r,z,q⟩=>⟨by rw[<-r.length]; exact z,?_⟩);have hf:H1 s1.heap.objs.size=none:=I1.hok.fresh (bD _);refine⟨.ref s1.heap.objs.size,upd H1 s1.heap.objs.size (.tup xs),I1.laid (t':=s1.toks) (λb u e=>bV _ e) (bD _) ?_,rfl,q _ hf⟩;exact⟨z,us,r,⟨_,dD _ rfl,rfl,⟨_,rfl⟩,rfl⟩⟩
def Ck (h:PA X es t):PE X (.List es pos) (pE t):=by
 intro pins s σ H Q I hq;refine wpAny_List_spliced (bh (h pos pins s σ H _ I hq) λus s1 ⟨xs,H1,I1,r,z,q⟩=>⟨by rw[<-r.length]; exact z,?_⟩);have hf:H1 s1.heap.objs.size=none:=I1.hok.fresh (bD _);refine⟨.ref s1.heap.objs.size,upd H1 s1.heap.objs.size (.lst xs),I1.laid (t':=s1.toks) (λb u e=>bV _ e) (bD _) ?_,rfl,q _ hf⟩;exact⟨z,us,0,r,dD _ rfl⟩
end
abbrev Sp:=av->Hp->VK->XK->Prop
noncomputable abbrev gC:=List Env->Hp->Shared->XK->Value->Shared->Prop
structure Env0 (P:Program)(w:World)(K:bm)(mg:Str->aA)(base:Heap)(A:Around)(outer:List Env)(s:Shared)(H:Hp):Prop where
 frames:A.frames=some outer
 mod:Mod K mg base
 bs:∀b o,base.get? b=some o->s.heap.get? b=some o/\H b=none
 bsz:base.objs.size<=s.heap.objs.size
 funs:s.heap.FunFrames base outer
 frf:∀b∈fA outer,H b=none
 hok:HOk P w H s.heap
 bare:AllBare s.gens
def CE (outer:List Env)(P:Program)(w:World)(H:Hp)(s:Shared)(Q:VK)(u:Value)(s':Shared):Prop:=
 ∃v H',s'.os=s.os/\AllBare s'.gens/\Un (fA outer) [] H H' s.heap s'.heap/\HOk P w H' s'.heap/\RelV v u/\Q v H'
def CR (CX:gC)(outer:List Env)(P:Program)(w:World)(H:Hp)(s:Shared)(Q:VK)(E:XK)(r:Result)(s':Shared):Prop:=
 match r with
 | .ok (.ret u)=>CE outer P w H s Q u s'
 | .ok _=>False
 | .error e=>CX outer H s E e s'
structure FnOk (P:Program)(w:World)(K:bm)(mg:Str->aA)(base:Heap)(CX:gC)(k:Nat)(f:Addr)(fd:FuncData)(ps:ar)(sp:Sp):Prop where
 len:∀vs H Q E,sp vs H Q E->vs.length=ps.length
 run:∀(A:Around) (outer:List Env) (s:Shared) (H:Hp) (args:Args) (us:ao) (vs:av) (Q:VK) (E:XK),Room k A->Env0 P w K mg base A outer s H->BindsTo s fd args (ps.zip us)->Vals vs us->sp vs H Q E ->
  codeAny (model P w) A (.call (.ref f) args) (CR CX outer P w H s Q E) s
def FnOk.imp {P:Program}{w:World}{K:bm}{mg:Str->aA}{base:Heap}{CX:gC}{k:Nat}{f:Addr}{fd:FuncData}{ps:ar}{sp sp':Sp}(F:FnOk P w K mg base CX k f fd ps sp)
  (h:∀vs H Q E,sp' vs H Q E->sp vs H Q E):FnOk P w K mg base CX k f fd ps sp':=
 ⟨λvs H Q E q=>F.len vs H Q E (h _ _ _ _ q),λA outer s H args us vs Q E hr he hb hv hs=>F.run A outer s H args us vs Q E hr he hb hv (h _ _ _ _ hs)⟩
def Env0.make {P:Program}{w:World}{K:bm}{mg:Str->aA}{base:Heap}{A:Around}{outer:List Env}{s:Shared}{H:Hp}(e:Env0 P w K mg base A outer s H)(C:Addr)(us:ao)(kw:ai) :
  Env0 P w K mg base (A.under (.builtin "type.__call__" ⟨.ref C::us,kw⟩)) outer s H:=⟨by first | exact e.frames | (simpa[Around.under,Code.envs,Code.isFrame,pushEnvs] using e.frames),e.mod,e.bs,e.bsz,e.funs,e.frf,e.hok,e.bare⟩
section
variable {X:Cx}{pins:af}{σ:St}{H:Hp}{s s':Shared}
def Inv.env0 (I:Inv X pins σ H s):Env0 X.prog X.w X.K X.mg X.base X.A X.stack s H:=
 ⟨I.ok.frames,I.ok.mod,I.bs,b8 I.ok.bsz I.sz,I.stack,I.stkFree,I.hok,I.bare⟩
def Inv.after {Q:VK}{u:Value}(I:Inv X pins σ H s)(h:CE X.stack X.prog X.w H s Q u s'):EP X pins σ Q u s':=by
 obtain⟨v,H',os,bare,un,hok,r,q⟩:=h;obtain⟨hh,g,d,t,os'⟩:=s';obtain rfl:os'=s.os:=os;exact⟨v,H',I.call (h':=hh) (g':=g) (d':=d) (t':=t) (ch:=[]) un hok bare (λb z=>absurd z (by simp)),r,q⟩
end
def fQ (sp:Sp)(dvs:av)(E:St->XK)(t:TA):TE:=λσ H Q=>t σ H λvs H1=>sp (vs++dvs) H1 Q (E σ)
def ff (C:Addr)(m:Str)(sp:Sp)(dvs:av)(E:St->XK)(ta:TE)(t:TA):TE:=λσ H Q=>ta σ H λx H1=>∃a dx fs,x=.ref a/\H1 a=some (.ins C dx fs)/\fs.lookup m=none /\
 t σ H1 λvs H2=>sp (x::(vs++dvs)) H2 Q (E σ)
def gj (C:Addr)(sp:Sp)(dvs:av)(E:St->XK)(t:TA):TE:=λσ H Q=>t σ H λvs H1=>∀x dx,H1 x=none->H1 dx=none->dx≠x ->
 sp (.ref x::(vs++dvs)) (upd (upd H1 dx (.own x)) x (.ins C dx [])) (λv H2=>v=.non/\Q (.ref x) H2) (E σ)
def Binds (K:bm)(fd:FuncData)(ps:ar)(ds:ao):Prop:=
 ∀(s:Shared) (us:ao),K.In s.heap->(us++ds).length=ps.length->BindsTo s fd ⟨us,[]⟩ (ps.zip (us++ds))
def Binds.all {K:bm}{fd:FuncData}{ps:ar}(h:∀us:ao,us.length=ps.length->bindArgs fd ⟨us,[]⟩=pure (ps.zip us)):Binds K fd ps []:=λs us _ hl=>by
 rw[F7] at hl ⊢;exact .of_eq (h us hl)
def bv (CX:gC)(X:Cx)(E:St->XK):Prop:=∀(pins:af) (σ:St) (H:Hp) (s:Shared) (e:Value) (s':Shared),Inv X pins σ H s->CX X.stack H s (E σ) e s'->X.xe e s'
section
variable {X:Cx}{CX:gC}{k:Nat}{f C:Addr}{fd:FuncData}{ps:ar}{sp:Sp}{dvs:av}{ds:ao}{E:St->XK}{x m:Str}{p pos apos:Pos}{e o:Expr}{es:au}{ta:TE}{t:TA}
def nI {pins:af}{σ:St}{H:Hp}{s:Shared}{Q:VK}{us:ao}{vs:av}(F:FnOk X.prog X.w X.K X.mg X.base CX k f fd ps sp)(hr:Room k X.A)(hb:Binds X.K fd ps ds)(hd:Vals dvs ds)(hx:bv CX X E)
  (I:Inv X pins σ H s)(r:Vals vs us)(h:sp (vs++dvs) H Q (E σ)):wpAny (model X.prog X.w) X.A (call (.ref f) us) (EP X pins σ Q) X.xe s:=by
 have r2:Vals (vs++dvs) (us++ds):=r.append hd;have hl:(us++ds).length=ps.length:=by rw[<-r2.length]; exact F.len _ _ _ _ h
 refine HV (Ha (F.run X.A X.stack s H ⟨us,[]⟩ (us++ds) (vs++dvs) Q (E σ) hr I.env0 (hb s us I.kIn hl) r2 h) λr s' hq=>?_);cases r with
 | error e=>exact hx pins σ H s e s' I hq
 | ok fl=>
  cases fl with
  | ret u=>exact I.after hq
  | next=>exact False.elim hq
  | brk=>exact False.elim hq
  | cont=>exact False.elim hq
def zk (F:FnOk X.prog X.w X.K X.mg X.base CX k f fd ps sp)(hr:Room k X.A)(hg:Gl X x)(hm:X.mg x=some (.ref f))(hk:PySem.W.keepIn X.K (.ref f)=true)(hb:Binds X.K fd ps ds)(hd:Vals dvs ds)(hx:bv CX X E)
  (ha:PA X (e::es) t)(hdb:(x == ("__debug__" : Str))=false:=by decide)(he:starEach (e::es) X.env=(false,eval e X.env)::starEach es X.env:=by rfl)(hpl:(backTo pos (starEach es X.env)).any (·.1)=false:=by rfl) :
  PE X (.Call (.Name x p) (e::es) [] pos) (fQ sp dvs E t):=by
 intro pins s σ H Q I h;refine Fz (hX I hg hm ?_ hdb);refine Hl (h₀:=X.base) I.ok.mod.kin hk (bh (ha pos pins s σ H _ I h) λus s1 ⟨vs,H1,I1,r,q⟩=>⟨I1.kIn,?_⟩) he hpl;exact nI F hr hb hd hx I1 r q
def Dc (F:FnOk X.prog X.w X.K X.mg X.base CX k f fd ps sp)(hr:Room k X.A)(hg:Gl X x)(hm:X.mg x=some (.ref f))(hk:PySem.W.keepIn X.K (.ref f)=true)(hb:Binds X.K fd ps ds)(hd:Vals dvs ds)(hx:bv CX X E)
  (hdb:(x == ("__debug__" : Str))=false:=by decide):PE X (.Call (.Name x p) [] [] pos) (fQ sp dvs E dI):=by
 intro pins s σ H Q I h;refine Fz (hX I hg hm ?_ hdb);exact Hh I.kIn hk (nI (us:=[]) F hr hb hd hx I .nil h)
def yG {pl:Sem Bool}(he:PE X o ta)(c:Cls X.K C)(hm:Meth X.K C m f)(F:FnOk X.prog X.w X.K X.mg X.base CX k f fd ps sp)(hr:Room k X.A)(hb:Binds X.K fd ps ds)(hd:Vals dvs ds)(hx:bv CX X E)(ha:PA X (e::es) t)
  (hst:starEach (e::es) X.env=(false,eval e X.env)::starEach es X.env:=by rfl)(hpl:(backTo pos (starEach es X.env)).any (·.1)=false:=by rfl)
  (ht:eval (.Call (.Attribute o m apos) (e::es) [] pos) X.env=(do
   let ov <-eval o X.env
   standAt apos.atName
   let (f,first) <-holding [ov] (getMethod ov m pl)
   callWith pos f first (backTo pos (starEach (e::es) X.env)) (backToKw pos (keywordEach [] X.env))):=by rfl) :
  PE X (.Call (.Attribute o m apos) (e::es) [] pos) (ff C m sp dvs E ta t):=by
 intro pins s σ H Q I h;refine GZ (pl:=pl) (bh (he pins s σ H _ I h) λu s1 hZz=>?_) ht;obtain⟨x,H1,I1,rx,a,dx,fs,ex,ea,l,q⟩:=hZz;subst ex;obtain rfl:u=Value.ref a:=rx;refine sH I1 ea c hm l ?_;refine Hl (first:=[.ref a]) (h₀:=X.base) I.ok.mod.kin hm.kp (bh (ha pos pins s1 σ H1 _ I1 q) λus s2 ⟨vs,H2,I2,r,q2⟩=>⟨I2.kIn,?_⟩) hst hpl;exact nI (us:=.ref a::us) (vs:=.ref a::vs) F hr hb hd hx I2 (.cons rfl r) q2
def Co {pl:Sem Bool}(he:PE X o ta)(c:Cls X.K C)(hm:Meth X.K C m f)(F:FnOk X.prog X.w X.K X.mg X.base CX k f fd ps sp)(hr:Room k X.A)(hb:Binds X.K fd ps ds)(hd:Vals dvs ds)(hx:bv CX X E)
  (ht:eval (.Call (.Attribute o m apos) [] [] pos) X.env=(do
   let ov <-eval o X.env
   standAt apos.atName
   let (f,first) <-holding [ov] (getMethod ov m pl)
   callWith pos f first (backTo pos (starEach [] X.env)) (backToKw pos (keywordEach [] X.env))):=by rfl) :
  PE X (.Call (.Attribute o m apos) [] [] pos) (ff C m sp dvs E ta dI):=by
 intro pins s σ H Q I h;refine GZ (pl:=pl) (bh (he pins s σ H _ I h) λu s1 hZz=>?_) ht;obtain⟨x,H1,I1,rx,a,dx,fs,ex,ea,l,q⟩:=hZz;subst ex;obtain rfl:u=Value.ref a:=rx;refine sH I1 ea c hm l ?_;exact Hh (first:=[.ref a]) I1.kIn hm.kp (nI (us:=[.ref a]) (vs:=[.ref a]) F hr hb hd hx I1 (.cons rfl .nil) q)
structure Mk (K:bm)(C f:Addr):Prop where
 makes:PySem.W.makesIn K C=true
 init:PySem.W.findIn K (.ref C) "__init__" = some (some (.ref f))
 fn:PySem.W.isFn K (.ref f)=true
 kp:PySem.W.keepIn K (.ref C)=true
def uF {pins:af}{σ:St}{H:Hp}{s:Shared}{Q:VK}{us:ao}{vs:av}(M:Mk X.K C f)(F:FnOk X.prog X.w X.K X.mg X.base CX k f fd ps sp)(hr:Room (k+1) X.A)(hb:Binds X.K fd ps ds)(hd:Vals dvs ds)
  (hx:bv CX X E)(I:Inv X pins σ H s)(r:Vals vs us)
  (h:∀x dx,H x=none->H dx=none->dx≠x->sp (.ref x::(vs++dvs)) (upd (upd H dx (.own x)) x (.ins C dx [])) (λv H2=>v=.non/\Q (.ref x) H2) (E σ)) :
  wpAny (model X.prog X.w) X.A (call (.ref C) us) (EP X pins σ Q) X.xe s:=by
 have hq:=h (s.heap.objs.size+1) s.heap.objs.size (I.hok.fresh (F8 _)) (I.hok.fresh (bD _)) (cY (Gp _));have I2:=Inv.made (C:=C) I;have r2:Vals (V.ref (s.heap.objs.size+1)::(vs++dvs)) (Value.ref (s.heap.objs.size+1)::(us++ds)):=.cons rfl (r.append hd);have hl:(Value.ref (s.heap.objs.size+1)::us++ds).length=ps.length:=by
  have e:=r2.length;rw[F.len _ _ _ _ hq] at e;exact e.symm
 refine HV (yT (f:=f) I.kIn M.makes M.init (Fi.mp M.fn) (Ha (F.run _ X.stack _ _ ⟨Value.ref (s.heap.objs.size+1)::us,[]⟩ (Value.ref (s.heap.objs.size+1)::(us++ds)) _ _ (E σ) (hr.make C us [])
  (I2.env0.make C us []) (hb _ (Value.ref (s.heap.objs.size+1)::us) I2.kIn hl) r2 hq) λr s' hq'=>?_))
 cases r with
 | error e=>exact hx pins σ _ _ e s' I2 hq'
 | ok fl=>
  cases fl with
  | ret u=>
   obtain⟨v,H',I3,rv,ev,q3⟩:=I2.after hq';subst ev;exact⟨rv,⟨V.ref (s.heap.objs.size+1),H',I3,rfl,q3⟩⟩
  | next=>exact False.elim hq'
  | brk=>exact False.elim hq'
  | cont=>exact False.elim hq'
def ES (M:Mk X.K C f)(F:FnOk X.prog X.w X.K X.mg X.base CX k f fd ps sp)(hr:Room (k+1) X.A)(hg:Gl X x)(hm:X.mg x=some (.ref C))(hb:Binds X.K fd ps ds)(hd:Vals dvs ds)(hx:bv CX X E)
  (ha:PA X (e::es) t)(hdb:(x == ("__debug__" : Str))=false:=by decide)(he:starEach (e::es) X.env=(false,eval e X.env)::starEach es X.env:=by rfl)(hpl:(backTo pos (starEach es X.env)).any (·.1)=false:=by rfl) :
  PE X (.Call (.Name x p) (e::es) [] pos) (gj C sp dvs E t):=by
 intro pins s σ H Q I h;refine Fz (hX I hg hm ?_ hdb);refine Hl (h₀:=X.base) I.ok.mod.kin M.kp (bh (ha pos pins s σ H _ I h) λus s1 ⟨vs,H1,I1,r,q⟩=>⟨I1.kIn,?_⟩) he hpl;exact uF M F hr hb hd hx I1 r q
def y9 (M:Mk X.K C f)(F:FnOk X.prog X.w X.K X.mg X.base CX k f fd ps sp)(hr:Room (k+1) X.A)(hg:Gl X x)(hm:X.mg x=some (.ref C))(hb:Binds X.K fd ps ds)(hd:Vals dvs ds)(hx:bv CX X E)
  (hdb:(x == ("__debug__" : Str))=false:=by decide):PE X (.Call (.Name x p) [] [] pos) (gj C sp dvs E dI):=by
 intro pins s σ H Q I h;refine Fz (hX I hg hm ?_ hdb);exact Hh I.kIn M.kp (uF (us:=[]) M F hr hb hd hx I .nil h)
end
section
variable {X:Cx}{CX:gC}{k:Nat}{f C:Addr}{fd:FuncData}{ps ks:ar}{sp:Sp}{E:St->XK}{x m:Str}{p pos apos kpos:Pos}{e o:Expr}{es:au}{kws:List Keyword}{te ta:TE}{t tk:TA}{nm:Option Str}
variable {g:ao->ao->ao}{gV:av->av->av}
end
structure FnScope (N P:ar)(sc:Scope):Prop where
 kind:sc.kind=.function
 co:sc.isCoroutine=false
 gen:sc.isGenerator=false
 nd:N.Nodup
 pre:N.take P.length=P
 par:∀x∈P,sc.names.lookup x=some .local\/sc.names.lookup x=some .cell
 nofree:∀y∈sc.names,y.2≠.free
theorem tQ {kindOf:Str->Option NameKind}{x:Str}:∀{binds:ai} {m:Str->aA},(∀v,(x,v)∉binds)->bindL kindOf binds m x=m x
 | [],_,_=>rfl
 | (n,v)::r,m,h=>by
  unfold bindL;rw[tQ λw hw=>h w (Gk _ hw)];split
  .have:x≠n:=by rintro rfl; exact h v bW
   simp[this]
  .rfl
theorem sv {kindOf:Str->Option NameKind}{x:Str}:∀{binds:ai} {m:Str->aA},(∀v,(x,v)∉binds)->bindC kindOf binds m x=m x
 | [],_,_=>rfl
 | (n,v)::r,m,h=>by
  unfold bindC;rw[sv λw hw=>h w (Gk _ hw)];split
  .rfl
  .have:x≠n:=by rintro rfl; exact h v bW
   simp[this]
theorem sQ {kindOf:Str->Option NameKind}{x:Str}{v:Value}:∀{P:ar} {vs:ao} {i:Nat} {m:Str->aA},P.Nodup->P[i]? = some x->vs[i]? = some v->kindOf x=some .local ->
  bindL kindOf (P.zip vs) m x=some v
 | [],_,_,_,_,h,_,_=>by simp at h
 | _::_,[],_,_,_,_,h,_=>by simp at h
 | p::P,w::vs,0,m,nd,h1,h2,hk=>by
  simp at h1 h2; subst h1; subst h2;show bindL kindOf ((p,w)::P.zip vs) m p=_;unfold bindL;rw[tQ λv hv=>(Ft.mp nd).1 (List.of_mem_zip hv).1,if_pos hk];simp
 | p::P,w::vs,i+1,m,nd,h1,h2,hk=>by
  show bindL kindOf ((p,w)::P.zip vs) m x=_;unfold bindL;exact sQ (i:=i) (Ft.mp nd).2 (by simpa using h1) (by simpa using h2) hk
theorem vm {kindOf:Str->Option NameKind}{x:Str}{v:Value}:∀{P:ar} {vs:ao} {i:Nat} {m:Str->aA},P.Nodup->P[i]? = some x->vs[i]? = some v->kindOf x≠some .local ->
  bindC kindOf (P.zip vs) m x=some v
 | [],_,_,_,_,h,_,_=>by simp at h
 | _::_,[],_,_,_,_,h,_=>by simp at h
 | p::P,w::vs,0,m,nd,h1,h2,hk=>by
  simp at h1 h2; subst h1; subst h2;show bindC kindOf ((p,w)::P.zip vs) m p=_;unfold bindC;rw[sv λv hv=>(Ft.mp nd).1 (List.of_mem_zip hv).1,if_neg hk];simp
 | p::P,w::vs,i+1,m,nd,h1,h2,hk=>by
  show bindC kindOf ((p,w)::P.zip vs) m x=_;unfold bindC;exact vm (i:=i) (Ft.mp nd).2 (by simpa using h1) (by simpa using h2) hk
noncomputable def start (N:ar)(vs:av):St:=vs.map some++List.replicate (N.length - vs.length) none
noncomputable def fj (CX:gC)(P:Program)(w:World)(K:bm)(mg:Str->aA)(base:Heap)(N:ar)(qual:Str)(scope:Scope)(f:Addr)(cd:Value)(A:Around)(outer:List Env)(s:Shared)(H:Hp)(E:XK):Cx where
 prog:=P
 w:=w
 K:=K
 mg:=mg
 base:=base
 A:=A.deeper (envOfC qual scope s.heap.objs.size f cd)
 N:=N
 s₀:=s
 H₀:=H
 env:=envOfC qual scope s.heap.objs.size f cd
 outer:=outer
 stack:=envOfC qual scope s.heap.objs.size f cd::outer
 ex:=[]
 calm:=true
 fn:=λ_=>true
 pn:=[]
 xe:=λe s'=>wpAny (model P w) (A.deeper (envOfC qual scope s.heap.objs.size f cd)) (leaving (envOfC qual scope s.heap.objs.size f cd) e) (λ_ s''=>CX outer H s E e s'') (λe' s''=>CX outer H s E e' s'') s'
def tE {sc:Scope}{n:Nat}{x:Str}(h:sc.names.lookup x=some .cell):∃c,(cellsFrom n sc.names []).lookup x=some c:=by
 have q:=PySem.W.cellsFrom_some sc.names n [] (.inl h);exact Option.isSome_iff_exists.mp q
def Cj {CX:gC}{P:Program}{w:World}{K:bm}{mg:Str->aA}{base:Heap}{N ps:ar}{qual:Str}{scope:Scope}{f:Addr}{cd:Value}{A:Around}{outer:List Env}{s s1:Shared}{H:Hp}{E:XK}{us:ao}{vs:av}
  (S:FnScope N ps scope)(hd:A.handled=none)(e0:Env0 P w K mg base A outer s H)(hl:vs.length=ps.length)(r:Vals vs us)
  (x:InCallC s s.heap.objs.size (bindL (envOfC qual scope s.heap.objs.size f cd).kindOf (ps.zip us) λ_=>none) (cellsFrom (s.heap.objs.size+1) scope.names []) (bindC (envOfC qual scope s.heap.objs.size f cd).kindOf (ps.zip us) λ_=>none) s1) :
  Inv (fj CX P w K mg base N qual scope f cd A outer s H E) [] (start N vs) H s1:=by
 have hpl:ps.length<=N.length:=by have:=congrArg List.length S.pre; rw[GM] at this; omega
 obtain⟨h1,tk,rfl,hk⟩:=x.done;have noA:∀b:Addr,b∉(fj CX P w K mg base N qual scope f cd A outer s H E).ex:=λb z=>absurd (show b∈([]:am) from z) (by simp);refine⟨⟨e0.mod,S.kind,rfl,rfl,bD _,λy z c h1 h2=>?_,λy hy=>?_,λy c _ h=>?_,λ_=>hd,Around.frames_deeper e0.frames,.inr ⟨rfl,rfl⟩,λb z=>absurd z (noA b),e0.bs,e0.bsz,λb _ _=>noA b,λb z=>absurd z (noA b),e0.funs,e0.frf⟩,
  rfl,e0.bare,Un.kept hk,⟨_,x.toInCall.ns,λi y v h1 h2 h3=>?_⟩,λy c h=>⟨_,x.cell y c h⟩,e0.hok.fresh (bD _),λy c h=>?_,λp hp=>absurd (show p∈([]:af) from hp) (by simp),e0.hok.kept hk,?_⟩
 .exact name_of_addr x.apart (FQ h1) (FQ h2)
 .have hy:scope.names.lookup y=some .cell\/scope.names.lookup y=some .free:=hy;rcases hy with hy | hy
  .exact tE hy
  .exact absurd rfl (S.nofree _ (FQ hy))
 .exact GB (x.above y c (FQ h))
 .have hi:i<vs.length:=by
   unfold start at h2;by_cases hi:i<vs.length
   .exact hi
   .rw[List.getElem?_append_right (by simpa using hi)] at h2;rw[List.getElem?_replicate] at h2;split at h2 <;> cases h2
  have ha:vs[i]? = some v:=by
   unfold start at h2;rw[Hf (by simpa using hi),Fv] at h2;cases e:vs[i]? with
   | none=>rw[e] at h2; cases h2
   | some a=>rw[e] at h2; cases h2; rfl
  obtain⟨u,hu,rv⟩:=r.get ha;have hp:ps[i]? = some y:=by
   rw[<-S.pre,List.getElem?_take_of_lt (by omega)]; exact h1
  have ndP:ps.Nodup:=by rw[<-S.pre]; exact S.nd.sublist (List.take_sublist _ _)
  refine⟨u,rv,?_⟩;rcases S.par y (FN hp) with k | k
  .exact .inl ⟨k,sQ ndP hp hu k⟩
  .obtain⟨c,e⟩:=tE (n:=s.heap.objs.size+1) k;refine .inr ⟨.inl k,c,e,?_⟩;have q:=x.cell y c e;rw[vm ndP hp hu (by show scope.names.lookup y≠_; rw[k]; decide)] at q;exact q
 .exact e0.hok.fresh (GB (x.above y c (FQ h)))
 .unfold start;show _=N.length;rw[Fx,Fg,HD];omega
def AJ {CX:gC}{P:Program}{w:World}{K:bm}{mg:Str->aA}{base:Heap}{k:Nat}{f:Addr}{name qual:Str}{params:Arguments}{body:aG}{scope:Scope}{dV kV doc pm cdv ct oc:Value}{an od:aE}
  {osl:Array aA}{N ps:ar}{sp:Sp}(lk:K.lookup f=some ⟨oc,od,.func (PySem.W.fnOf name qual params body scope dV kV doc pm an cdv ct),osl⟩)(hcd:PySem.W.codeIn K cdv qual=true)(S:FnScope N ps scope)
  (len:∀vs H Q E,sp vs H Q E->vs.length=ps.length)
  (hbody:∀(A:Around) (outer:List Env) (s:Shared) (H:Hp) (vs:av) (Q:VK) (E:XK),Room k (A.deeper (envOfC qual scope s.heap.objs.size f cdv))->sp vs H Q E ->
   ∃t,PSs (fj CX P w K mg base N qual scope f cdv A outer s H E) body t/\t { nx:=λ_ H'=>Q .non H',rt:=Q } (start N vs) H) :
  FnOk P w K mg base CX (k+1) f (PySem.W.fnOf name qual params body scope dV kV doc pm an cdv ct) ps sp:=by
 refine⟨len,λA outer s H args us vs Q E hr e0 hb r hsp=>?_⟩;have hl:=len _ _ _ _ hsp;have KX:K.In s.heap:=e0.mod.kin.keeps λb o e=>(e0.bs b o e).1;have lim:s.heap.NoLimit:=e0.mod.nolimit.keeps λb o e=>(e0.bs b o e).1;have hkind:∀y∈ps.zip us,scope.names.lookup y.1=some .local\/(scope.names.lookup y.1=some .cell/\((cellsFrom (s.heap.objs.size+1) scope.names []).lookup y.1).isSome=true):=λ⟨n,v⟩ hy=>by
  rcases S.par n (List.of_mem_zip hy).1 with q | q
  .exact .inl q
  .exact .inr ⟨q,PySem.W.cellsFrom_some _ _ _ (.inl q)⟩
 refine codeAny_call_function hr.depth (KX _ _ lk) rfl S.co S.gen rfl (PySem.W.codeRec_of KX hcd) (hb _ _ _ _ ?_);refine wpAny_newFunctionEnv_cells S.kind hkind λenv he s1 x=>?_;subst he;refine⟨lim.keeps x.toInCall.keep,codeAny_func ?_⟩;obtain⟨t,ht,hq⟩:=hbody A outer s H vs Q E (hr.deeper _) hsp;have I:Inv (fj CX P w K mg base N qual scope f cdv A outer s H E) [] (start N vs) H s1:=Cj S hr.hd e0 hl r x;refine FU (ht [] s1 (start N vs) H _ I hq) (λfl s' hs=>?_) λe s' hs=>hs;have fin:∀{σ':St} {H':Hp} {v:V} {u:Value},Inv (fj CX P w K mg base N qual scope f cdv A outer s H E) [] σ' H' s'->RelV v u->Q v H'->CE outer P w H s Q u s':=
  λ{σ' H' v u} J rv q=>⟨v,H',J.os,J.bare,J.base,J.hok,rv,q⟩
 cases fl with
 | ret u=>
  obtain⟨v,σ',H',J,rv,q⟩:=hs;exact fin J rv q
 | next=>
  obtain⟨σ',H',J,q⟩:=hs;exact fin (v:=V.non) (u:=Value.none) J rfl q
 | brk=>
  obtain⟨_,_,_,q⟩:=hs;exact False.elim q
 | cont=>
  obtain⟨_,_,_,q⟩:=hs;exact False.elim q
end L2
namespace L2
open PySem PySem.Spec PyProof.Rows
section
variable {X:Cx}{x:Str}{p pos:Pos}{e:Expr}{es:au}{t:TA}{id T:String}{r:av->Hp->VK->Prop}
def nK (r:av->Hp->VK->Prop)(t:TA):TE:=λσ H Q=>t σ H λvs H1=>r vs H1 Q
def nz (hc:CallR X (.builtin id) r)(hg:Gl X x)(hm:X.mg x=none)(hv:bootBuiltins x=some (.builtin id))(ha:PA X (e::es) t)(hn:x ≠ "__name__":=by decide)(hdb:(x == ("__debug__" : Str))=false:=by decide)
  (he:starEach (e::es) X.env=(false,eval e X.env)::starEach es X.env:=by rfl)(hpl:(backTo pos (starEach es X.env)).any (·.1)=false:=by rfl):PE X (.Call (.Name x p) (e::es) [] pos) (nK r t):=by
 intro pins s σ H Q I h;refine Fz (gW I hg hm hv ?_ hn hdb);exact GN (bh (ha pos pins s σ H _ I h) λus s1 ⟨vs,H1,I1,r1,q1⟩=>hc pins s1 σ H1 vs us Q I1 r1 q1) he hpl
def tf (hc:CallR X (.type T) r)(hg:Gl X x)(hm:X.mg x=none)(hv:bootBuiltins x=some (.type T))(ha:PA X (e::es) t)(hn:x ≠ "__name__":=by decide)(hdb:(x == ("__debug__" : Str))=false:=by decide)
  (he:starEach (e::es) X.env=(false,eval e X.env)::starEach es X.env:=by rfl)(hpl:(backTo pos (starEach es X.env)).any (·.1)=false:=by rfl):PE X (.Call (.Name x p) (e::es) [] pos) (nK r t):=by
 intro pins s σ H Q I h;refine Fz (gW I hg hm hv ?_ hn hdb);exact FJ (bh (ha pos pins s σ H _ I h) λus s1 ⟨vs,H1,I1,r1,q1⟩=>hc pins s1 σ H1 vs us Q I1 r1 q1) he hpl
end
end L2
namespace HT
open PySem PyProof.Rows
section
open PySem.SeqAt
open PySem.AutoSeq1 (wpAny_loadPart')
open PySem.MeetsSeq PySem.MeetsSeq2 PySem.MeetsSeq3
end
section
variable {prog:Program}{w:World}{A:Around}{E:Value->Shared->Prop}{s:Shared}
def cat_tup {t b:Addr}{vs ws:ao}{Q:Value->Shared->Prop}(ht:IsTup s.heap t vs.toArray)(hb:IsTup s.heap b ws.toArray)(hv:vs≠[])
  (h1:ws=[]->Q (.ref t) s)(h2:ws≠[]->Q (.ref s.heap.objs.size) { s with heap:=s.heap.push { cls:=.type "tuple",data:=.seq (vs++ws).toArray } })
  (hsz:vs.length+ws.length<=sizeLine):wpAny (model prog w) A (binaryOp .Add (.ref t) (.ref b)) Q E s:=by
 obtain⟨⟨cls,dd,data,sl⟩,ho,hc,n,hd⟩:=id ht;obtain⟨⟨cls2,dd2,data2,sl2⟩,ho2,hc2,n2,hd2⟩:=id hb;simp only at hc hd hc2 hd2;subst hc hd hc2 hd2;have e:vs.toArray++ws.toArray=(vs++ws).toArray:=by simp
 by_cases hw:ws=[]
 .exact concat_meets ⟨_,ho,rfl⟩ ⟨_,ho2,rfl⟩ noFill_tuple_add seq_tuple_add Hr Ho (Hi _ _)
   (tuple_addW1 t b vs.toArray ws.toArray n n2 dd dd2 sl sl2 (by simpa using hv) (by simp[hw])) ⟨ho,ho2,h1 hw⟩
 .refine concat_meets ⟨_,ho,rfl⟩ ⟨_,ho2,rfl⟩ noFill_tuple_add seq_tuple_add Hr Ho (Hi _ _)
   (tuple_addW2 t b vs.toArray ws.toArray n n2 dd dd2 sl sl2 (by simpa using hv) (by simpa using hw) (by rw[Fe,Fe]; exact hsz)) ⟨ho,ho2,?_⟩
  rw[e];exact h2 hw
noncomputable def sIx (n d:Nat):Option Int->Nat
 | none=>d
 | some v=>if v<0 then (v+(n:Int)).toNat else min v.toNat n
def xQ (n d:Nat)(hd:d<=n)(o:Option Int):sIx n d o<=n:=by
 cases o with
 | none=>exact hd
 | some v=>
  show (if v<0 then (v+(n:Int)).toNat else min v.toNat n)<=n;by_cases hv:v<0
  .rw[if_pos hv]; omega
  .rw[if_neg hv]; exact Nat.min_le_right _ _
def vX (v:Int)(n d:Nat):(if v<0 then max (v+(n:Int)) 0 else min v (n:Int))=((sIx n d (some v):Nat):Int):=by
 show (if v<0 then max (v+(n:Int)) 0 else min v (n:Int))=(((if v<0 then (v+(n:Int)).toNat else min v.toNat n):Nat):Int);by_cases hv:v<0
 .simp only[if_pos hv]; omega
 .simp only[if_neg hv]; omega
def BU (lo hi:Option Int)(n:Nat):Builtin.Slice.sliceAdjust lo hi 1 (n:Int)=(((sIx n 0 lo:Nat):Int),((sIx n n hi:Nat):Int)):=by
 have h1:¬((1:Int)<0):=by omega
 unfold Builtin.Slice.sliceAdjust;simp only[h1,if_false];refine Prod.ext ?_ ?_
 .cases lo with
  | none=>rfl
  | some v=>exact vX v n 0
 .cases hi with
  | none=>rfl
  | some v=>exact vX v n n
def EN (i j:Nat):Builtin.Slice.slicePlaces (i:Int) (j:Int) 1=j - i:=by
 unfold Builtin.Slice.slicePlaces;have h1:(1:Int) > 0:=by omega
 simp only[h1,if_true,Int.ediv_one];split <;> omega
def uz {v:Value}{o:Option Int}{Q:Option Int->Shared->Prop}(p:IsPart v o)(h:Q o s):wpAny (model prog w) A (Builtin.Slice.slicePartIndex v) Q E s:=by
 cases p with
 | none=>exact slicePart_none h
 | int i t=>exact slicePart_int h
def sliceApplied_gen {sl:Addr}{vl vu:Value}{lo hi:Option Int}{n:Nat}{Q:Int×Int×Nat->Shared->Prop}(hs:s.heap.IsSliceOf sl vl vu .none)(pl:IsPart vl lo)(pu:IsPart vu hi)
  (h:Q (((sIx n 0 lo:Nat):Int),1,sIx n n hi - sIx n 0 lo) s):wpAny (model prog w) A (Builtin.Slice.sliceApplied (.ref sl) (pure (n:Int))) Q E s:=by
 obtain⟨os,hos,hcs,hds⟩:=id hs;unfold Builtin.Slice.sliceApplied Builtin.Slice.sliceFields;refine aM (aM (Gg hos hds (x:=vl) rfl (aM (Gg hos hds (x:=vu) rfl (aM (Gg hos hds (x:=.none) rfl (bg ?_)))))));refine aM (slicePart_none ?_);show wpAny _ _ (if ((1:Int) == 0)=true then _ else _) _ _ s;rw[if_neg (by decide)];refine aM (uz pl (aM (uz pu (aM (bg ?_)))));show wpAny _ _ (match Builtin.Slice.sliceAdjust lo hi 1 (n:Int) with | (lo,hi)=>pure (lo,(1:Int),Builtin.Slice.slicePlaces lo hi 1)) _ _ s;rw[BU lo hi n];show wpAny _ _ (pure (((sIx n 0 lo:Nat):Int),(1:Int),Builtin.Slice.slicePlaces ((sIx n 0 lo:Nat):Int) ((sIx n n hi:Nat):Int) 1)) _ _ s;rw[EN];exact bg h
def wT (xs:aB)(i k:Nat):((List.range k).filterMap λ(m:Nat)=>xs[((i:Int)+(m:Int) * 1).toNat]?).toArray=((xs.toList.drop i).take k).toArray:=by
 have e:(λ(m:Nat)=>xs[((i:Int)+(m:Int) * 1).toNat]?)=λm=>xs[i+m]?:=by
  funext m
  have:((i:Int)+(m:Int) * 1).toNat=i+m:=by omega
  rw[this]
 rw[e];have:=pick_run xs i k;rw[List.filterMap_map] at this;have e2:((λx=>xs[x]?) ∘ λx=>i+x)=λm=>xs[i+m]?:=rfl;rw[e2] at this;rw[this]
def getItem_tuple_cut {t sl:Addr}{items:aB}{vl vu:Value}{lo hi:Option Int}{Q:Value->Shared->Prop}(ht:IsTup s.heap t items)(hs:s.heap.IsSliceOf sl vl vu .none)(pl:IsPart vl lo)(pu:IsPart vu hi)
  (hw:¬(sIx items.size 0 lo=0/\sIx items.size items.size hi=items.size))
  (h:Q (.ref s.heap.objs.size) { s with heap:=s.heap.push { cls:=.type "tuple",data:=.seq ((items.toList.drop (sIx items.size 0 lo)).take (sIx items.size items.size hi - sIx items.size 0 lo)).toArray } })
  (hsz:items.size<=sizeLine):wpAny (model prog w) A (getItem (.ref t) (.ref sl)) Q E s:=by
 have htake:sizeOk (.seq ((items.toList.drop (sIx items.size 0 lo)).take (sIx items.size items.size hi - sIx items.size 0 lo)).toArray):=by
  show ((items.toList.drop (sIx items.size 0 lo)).take (sIx items.size items.size hi - sIx items.size 0 lo)).toArray.size<=sizeLine;rw[Fe,GM,HF,Array.length_toList];omega
 have hj:sIx items.size items.size hi<=items.size:=xQ _ _ (bD _) hi;obtain⟨os,hos,hcs,hds⟩:=id hs;have hTs:s.TypeIs (.ref sl) "slice":=⟨os,hos,hcs⟩
 unfold getItem;try with_reducible refine GK ?_
 first | refine aM (bg ?_) | skip
 refine aM (wpAny_sequenceKey ht.typeIs (by decide) ?_);refine aM (wpAny_callSpecial?_slot (name:=Str.ofString "__getitem__") ht.typeIs FK
  (Gi FK ht.typeIs entry_tuple_getitem ?_ (args_tuple_getitem _ _)))
 show wpAny _ _ (Builtin.Tuple.tupleItemsOf (.ref t) >>= _) _ _ s;refine aM (tupleItemsOf_ ht ?_);refine aM (HR hTs ?_);rw[if_pos (by decide)];refine aM (sliceApplied_gen hs pl pu ?_);have hno:¬((((sIx items.size 0 lo:Nat):Int) == 0&&(1:Int) == 1&&(sIx items.size items.size hi - sIx items.size 0 lo) == items.size)=true):=by
  intro q;rw[tw,tw] at q;have q1:((sIx items.size 0 lo:Nat):Int)=0:=eq_of_beq q.1.1;have q2:sIx items.size items.size hi - sIx items.size 0 lo=items.size:=eq_of_beq q.2;exact hw ⟨by omega,by omega⟩
 show wpAny _ _ (if (((sIx items.size 0 lo:Nat):Int) == 0&&(1:Int) == 1&&(sIx items.size items.size hi - sIx items.size 0 lo) == items.size)=true then _ else _) _ _ s;rw[if_neg hno,wT];first
  | exact aM (m:=Builtin.Tuple.tupleExact _) (FF (bg ⟨_,rfl,bg h⟩) htake)
  | exact aM (m:=Builtin.Tuple.tupleExact _) (FF (aM (bg (bg ⟨_,rfl,bg h⟩))) htake)
  | exact aM (aM (m:=Builtin.Tuple.tupleExact _) (FF (bg (bg ⟨_,rfl,bg h⟩)) htake))
  | exact aM (aM (m:=Builtin.Tuple.tupleExact _) (FF (bg ⟨_,rfl,bg h⟩) htake))
end
end HT
namespace L2
open PySem PySem.Spec PyProof.Rows
abbrev TO:=St->Hp->(Option Int->Hp->Prop)->Prop
def PO (X:Cx)(e:aH)(t:TO):Prop:=
 ∀(pins:af) (s:Shared) (σ:St) (H:Hp) (Q:Option Int->Hp->Prop),Inv X pins σ H s->t σ H Q ->
  wpAny (model X.prog X.w) X.A (evalPart e X.env) (λu s'=>∃o H',Inv X pins σ H' s'/\IsPart u o/\Q o H') X.xe s
def iy:TO:=λ_ H Q=>Q none H
def lU (t:TE):TO:=λσ H Q=>t σ H λx H1=>∃i,x=.int i/\Q (some i) H1
section
variable {X:Cx}{e:Expr}{te:TE}{lo hi:aH}{tl th:TO}{pos p2:Pos}
def se:PO X none iy:=by
 intro pins s σ H Q I h;rw[evalPart_none];exact bg ⟨none,H,I,.none,h⟩
def nQ (h:PE X e te):PO X (some e) (lU te):=by
 intro pins s σ H Q I hw;rw[evalPart_some];refine bh (h pins s σ H _ I hw) λu s1 hZz=>?_;obtain⟨x,H1,I1,r1,q1⟩:=hZz;obtain⟨i,rfl,q⟩:=q1;obtain⟨t,rfl⟩:=r1;exact⟨some i,H1,I1,.int i t,q⟩
def mq (X:Cx)(r:V->Option Int->Option Int->Hp->VK->Prop):Prop:=
 ∀(pins:af) (s:Shared) (σ:St) (H:Hp) (x:V) (v vl vu:Value) (lo hi:Option Int) (sl:Addr) (Q:VK),Inv X pins σ H s->RelV x v->s.heap.IsSliceOf sl vl vu .none->IsPart vl lo->IsPart vu hi->r x lo hi H Q ->
  ∃T id,typeLookup (.type T) "__getitem__" = pure (some (.builtin id))/\s.TypeIs v T/\wpAny (model X.prog X.w) X.A (getItem v (.ref sl)) (EP X pins σ Q) X.xe s
def wV (r:V->Option Int->Option Int->Hp->VK->Prop)(te:TE)(tl th:TO):TE:=λσ H Q=>te σ H λx H1=>tl σ H1 λl H2=>th σ H2 λu H3=>r x l u H3 Q
def qA {r:V->Option Int->Option Int->Hp->VK->Prop}(hr:mq X r)(he:PE X e te)(hl:PO X lo tl)(hu:PO X hi th):PE X (.Subscript e (.Slice lo hi none p2) pos) (wV r te tl th):=by
 intro pins s σ H Q I h;refine Subscript_ (bh (he pins s σ H _ I h) λv s1 hZz=>?_);obtain⟨x,H1,I1,r1,q1⟩:=hZz;refine wpAny_Slice (bh (hl pins s1 σ H1 _ I1 q1) λvl s2 ⟨l,H2,I2,pl,q2⟩=>bh (hu pins s2 σ H2 _ I2 q2) λvu s3 hZz=>?_);obtain⟨u,H3,I3,pu,q3⟩:=hZz;rw[evalPart_none];refine bg ?_;have I4:Inv X pins σ H3 { s3 with heap:=s3.heap.push { cls:=.type "slice",data:=.fields #[vl,vu,.none] } }:=I3.kept (t':=s3.toks) λb ob q=>bV _ q;obtain⟨T,id,hT,ht,hg⟩:=hr pins { s3 with heap:=s3.heap.push { cls:=.type "slice",data:=.fields #[vl,vu,.none] } } σ H3 x v vl vu l u s3.heap.objs.size Q I4 r1 (Heap.IsSliceOf.new ..) pl pu q3;show wpAny (model X.prog X.w) X.A (subscriptTail e (.Slice lo hi none p2) v (.ref s3.heap.objs.size)) (EP X pins σ Q) X.xe { s3 with heap:=s3.heap.push { cls:=.type "slice",data:=.fields #[vl,vu,.none] } };exact tail_any (ops:=[.ref s3.heap.objs.size,v]) ht hT hg (by with_unfolding_all rfl)
noncomputable def dR (xs:av)(lo hi:Option Int):av:=(xs.drop (HT.sIx xs.length 0 lo)).take (HT.sIx xs.length xs.length hi - HT.sIx xs.length 0 lo)
def tu (xs:av)(lo hi:Option Int):(dR xs lo hi).length<=xs.length:=by
 unfold dR;rw[GM,HF];omega
def pU (K:bm):V->Option Int->Option Int->Hp->VK->Prop:=λx lo hi H Q=>∃a xs,x=.ref a/\SqT K H a xs /\
 ¬(HT.sIx xs.length 0 lo=0/\HT.sIx xs.length xs.length hi=xs.length)/\∀p,H p=none->Q (.ref p) (upd H p (.tup (dR xs lo hi)))
def AR:mq X (pU X.K):=by
 intro pins s σ H x v vl vu lo hi sl Q I rx hs pl pu h;obtain⟨a,xs,rfl,hx,hw,q⟩:=h;cases rx;obtain⟨its,r,ht,hz⟩:=I.tuple hx;have hlen:its.toArray.size=xs.length:=by rw[Fe]; exact r.length.symm
 refine⟨"tuple",_,FK.lookup,ht.typeIs,?_⟩;refine HT.getItem_tuple_cut ht hs pl pu (by rw[hlen]; exact hw) ?_ (by rw[hlen]; exact hz);rw[hlen];refine⟨.ref s.heap.objs.size,_,I.laid (t':=s.toks) (o:=.tup (dR xs lo hi)) (λb ob q=>bV _ q) (bD _) ?_,rfl,q _ (I.hok.fresh (bD _))⟩;exact⟨b8 (tu xs lo hi) hz,_,(r.drop (HT.sIx xs.length 0 lo)).take (HT.sIx xs.length xs.length hi - HT.sIx xs.length 0 lo),TupN.new _ _⟩
def lG (K:bm):R2:=λx y H Q=>∃a b xs ys,x=.ref a/\y=.ref b/\SqT K H a xs/\SqT K H b ys/\xs≠[]/\xs.length+ys.length<=sizeLine /\
 (ys=[]->Q (.ref a) H)/\(ys≠[]->∀p,H p=none->Q (.ref p) (upd H p (.tup (xs++ys))))
def Vals.nil_iff {xs:av}{us:ao}(r:Vals xs us):us=[]↔xs=[]:=by
 cases r with
 | nil=>simp
 | cons _ _=>simp
def yq:OpR X (binaryOp .Add) (lG X.K):=by
 intro pins s σ H x y v u Q I rx ry h;obtain⟨a,b,xs,ys,rfl,rfl,ha,hb,hx,hz,q1,q2⟩:=h;cases rx;cases ry;obtain⟨its,r1,p1,_⟩:=I.tuple ha;obtain⟨its2,r2,p2,_⟩:=I.tuple hb;refine HT.cat_tup p1 p2 (λz=>hx (r1.nil_iff.mp z)) (λz=>⟨.ref a,H,I,rfl,q1 (r2.nil_iff.mp z)⟩) (λz=>?_) (by rw[<-r1.length,<-r2.length]; exact hz);refine⟨.ref s.heap.objs.size,_,I.laid (t':=s.toks) (o:=.tup (xs++ys)) (λb ob q=>bV _ q) (bD _) ?_,rfl,q2 (λw=>z (r2.nil_iff.mpr w)) _ (I.hok.fresh (bD _))⟩;exact⟨by rw[Fx]; exact hz,_,r1.append r2,TupN.new _ _⟩
end
end L2
namespace L2
open PySem PySem.Spec PyProof.Rows
noncomputable def kU (n:Nat)(i:Int):aC:=if 0<=i then (if i<n then some i.toNat else none) else if -(n:Int)<=i then some (i+n).toNat else none
noncomputable def lc {α:Type}(xs:List α)(i:Int):Option α:=(kU xs.length i).bind λj=>xs[j]?
def sE {n:Nat}{i:Int}{j:Nat}(h:kU n i=some j):seqIndex? i n=some j/\j<n /\ -(n:Int)<=i/\i<n:=by
 unfold kU at h;by_cases h0:0<=i
 .rw[if_pos h0] at h;by_cases h1:i<n
  .rw[if_pos h1] at h;have e:i.toNat=j:=cy h;exact⟨by rw[seqIndex_of h0 h1,e],by omega,by omega,h1⟩
  .rw[if_neg h1] at h; cases h
 .rw[if_neg h0] at h;by_cases h1 : -(n:Int)<=i
  .rw[if_pos h1] at h;have e:(i+n).toNat=j:=cy h;exact⟨by rw[seqIndex_neg (by omega) h1,e],by omega,h1,by omega⟩
  .rw[if_neg h1] at h; cases h
def sJ {α:Type}{xs:List α}{i:Int}{v:α}(h:lc xs i=some v):∃j,seqIndex? i xs.length=some j/\xs[j]? = some v/\j<xs.length /\ -(xs.length:Int)<=i/\i<xs.length:=by
 unfold lc at h;cases e:kU xs.length i with
 | none=>rw[e] at h; cases h
 | some j=>
  rw[e] at h;obtain⟨h1,h2,h3,h4⟩:=sE e;exact⟨j,h1,h,h2,h3,h4⟩
def fU (b:Expr):Prop:=∀o i,subscripted b false o i=operate [o,i] (getItem o i)
def nD (X:Cx)(r:R2):Prop:=
 ∀(value slice:Expr) (pins:af) (s:Shared) (σ:St) (H:Hp) (x y:V) (v u:Value) (Q:VK),Inv X pins σ H s->RelV x v->RelV y u->r x y H Q ->
  subscripted slice false v u=operate [v,u] (getItem v u)->wpAny (model X.prog X.w) X.A (subscriptTail value slice v u) (EP X pins σ Q) X.xe s
def q0 (X:Cx)(id:String)(r:V->av->Hp->VK->Prop):Prop:=
 ∀(pins:af) (s:Shared) (σ:St) (H:Hp) (x:V) (xs:av) (v:Value) (us:ao) (Q:VK),Inv X pins σ H s->RelV x v->Vals xs us->r x xs H Q ->
  wpAny (model X.prog X.w) X.A (call (.builtin id) (v::us)) (EP X pins σ Q) X.xe s
section
variable {X:Cx}{a b:Expr}{ta tb:TE}{pos:Pos}
def Al {r:R2}(hr:nD X r)(ha:PE X a ta)(hb:PE X b tb)(hs:fU b):PE X (.Subscript a b pos) (kS r ta tb):=by
 intro pins s σ H Q I h;exact Subscript_ (jD ha hb I h λv u s2 x y H2 I2 rx ry q=>hr a b pins s2 σ H2 x y v u Q I2 rx ry q (hs _ _))
def qq (K:bm):R2:=λx y H Q=>∃p xs i v,x=.ref p/\y=.int i/\SqL K H p xs/\lc xs i=some v/\Q v H
def p8 (K:bm):R2:=λx y H Q=>∃p xs i v,x=.ref p/\y=.int i/\SqT K H p xs/\lc xs i=some v/\Q v H
def zc:nD X (qq X.K):=by
 intro value slice pins s σ H x y v u Q I rx ry h hs;obtain⟨p,xs,i,z,rfl,rfl,hq,he,q⟩:=h;cases rx;obtain⟨t,rfl⟩:=ry;obtain⟨its,r,pl,hz⟩:=I.list hq;obtain⟨j,h1,h2,h3,h4,h5⟩:=sJ he;obtain⟨w,ew,rw'⟩:=r.get h2;have hl:=r.length;have hn:=eG;have fin:EP X pins σ Q w s:=⟨z,H,I,rw',q⟩
 by_cases h0:0<=i
 .have hj:i.toNat=j:=by
   rw[seqIndex_of h0 h5] at h1;exact cy h1
  exact item_listR pl.isList h0 (by omega) (by rw[hj]; simpa using ew) fin hs
 .have hj:(i+(its.toArray.size:Int)).toNat=j:=by
   rw[seqIndex_neg (by omega) h4] at h1;rw[Fe,<-hl];exact cy h1
  exact subscriptTail_builtinR (x:=w) pl.isList.typeIs slot_list_getitem.lookup
   (wpAny_getItem_list_neg (Q:=λr s'=>r=w/\EP X pins σ Q r s') pl.isList (by omega) (by rw[Fe] <;> omega) (by omega) (by rw[hj]; simpa using ew) ⟨rfl,fin⟩) hs
def zJ:nD X (p8 X.K):=by
 intro value slice pins s σ H x y v u Q I rx ry h hs;obtain⟨p,xs,i,z,rfl,rfl,hq,he,q⟩:=h;cases rx;obtain⟨t,rfl⟩:=ry;obtain⟨its,r,pl,hz⟩:=I.tuple hq;obtain⟨j,h1,h2,h3,h4,h5⟩:=sJ he;obtain⟨w,ew,rw'⟩:=r.get h2;have hl:=r.length;have hn:=eG;have fin:EP X pins σ Q w s:=⟨z,H,I,rw',q⟩
 exact subscriptTail_builtinR (x:=w) pl.typeIs slot_tuple_getitem.lookup
  (getItem_tuple (j:=j) (Q:=λr s'=>r=w/\EP X pins σ Q r s') pl (by omega) (by omega) (by rw[Fe,<-hl]; exact h1) (by simpa using ew) ⟨rfl,fin⟩) hs
def zp (its:ao)(n j:Nat)(u:Value):Obj.mapSeq (·.setIfInBounds j u) { cls:=.type "list",data:=.seq its.toArray n }={ cls:=.type "list",data:=.seq (its.set j u).toArray n }:=by
 simp[Obj.mapSeq]
theorem Inv.lst {pins:af}{σ:St}{H:Hp}{s:Shared}{p:Addr}{xs:av}(I:Inv X pins σ H s)(h:H p=some (.lst xs)) :
  ∃(its:ao) (n:Nat),Vals xs its/\s.heap.get? p=some { cls:=.type "list",data:=.seq its.toArray n }/\xs.length<=sizeLine:=by
 obtain⟨z,its,n,r,e⟩:=I.hok p _ h;exact⟨its,n,r,e,z⟩
def Inv.lstUpd {pins:af}{σ:St}{H:Hp}{s:Shared}{p:Addr}{xs ys:av}{its its':ao}{n n':Nat}{f:Obj->Obj}(I:Inv X pins σ H s)(h:H p=some (.lst xs))
  (ho:s.heap.get? p=some { cls:=.type "list",data:=.seq its.toArray n })(hf:f { cls:=.type "list",data:=.seq its.toArray n }={ cls:=.type "list",data:=.seq its'.toArray n' })(r:Vals ys its')(hz:ys.length<=sizeLine)(t:Nat) :
  Inv X pins σ (upd H p (.lst ys)) { s with heap:=s.heap.update p f,toks:=t }:=by
 have e:(s.heap.update p f).get? p=some { cls:=.type "list",data:=.seq its'.toArray n' }:=by
  rw[F5 f ho (by rw[hf] <;> rfl),hf]
 refine I.write (x:=p) (e:=p) (by rw[h]; trivial) (.inl rfl) (λb u hb q=>(Ga _ _ (GC hb)).trans q) ⟨_,e⟩ ?_;exact⟨hz,its',n',r,e⟩
def lB:V->V->V->Hp->(Hp->Prop)->Prop:=λo i v H Q=>∃p xs k j,o=.ref p/\i=.int k/\H p=some (.lst xs)/\kU xs.length k=some j/\Q (upd H p (.lst (xs.set j v)))
def set_list:pb X lB:=by
 intro pins s σ H o i v ov iv u Q I ro ri rv h;obtain⟨p,xs,k,j,rfl,rfl,hp,hj,q⟩:=h;cases ro;obtain⟨t,rfl⟩:=ri;obtain⟨its,n,r,ho,hz⟩:=I.lst hp;obtain⟨h1,h2,h3,h4⟩:=sE hj;have hl:=r.length;have hn:=eG;have I':Inv X pins σ (upd H p (.lst (xs.set j v))) { s with heap:=s.heap.update p (Obj.mapSeq (·.setIfInBounds j u)) }:=
  I.lstUpd hp ho (zp its n j u) (r.set rv j) (by rw[Fu]; exact hz) s.toks
 by_cases h0:0<=k
 .have hk:k.toNat=j:=by
   rw[seqIndex_of h0 h4] at h1;exact cy h1
  exact PySem.W.ki_setAt ho h0 (by omega) (by rw[Fe,<-hl]; exact h4) (by rw[hk]; exact⟨_,I',q⟩)
 .have hk:(k+(its.toArray.size:Int)).toNat=j:=by
   rw[seqIndex_neg (by omega) h3] at h1;rw[Fe,<-hl];exact cy h1
  exact PySem.W.ki_setBack ho (by omega) (by rw[Fe,<-hl]; exact h3) (by omega) (by rw[hk]; exact⟨_,I',q⟩)
def xl (lo hi:Option Int)(n:Nat):(sliceBounds lo hi none n).1=((HT.sIx n 0 lo:Nat):Int)/\(sliceBounds lo hi none n).2.1=((HT.sIx n n hi:Nat):Int)/\(sliceBounds lo hi none n).2.2=1:=by
 refine⟨?_,?_,rfl⟩
 .cases lo with
  | none=>simp[sliceBounds,HT.sIx]
  | some i=>
   simp only[sliceBounds,HT.sIx,Option.getD_none,show (1:Int) > 0 by decide,if_true];by_cases h:i<0
   .simp only[h,if_true] <;> omega
   .simp only[h,if_false] <;> omega
 .cases hi with
  | none=>simp[sliceBounds,HT.sIx]
  | some i=>
   simp only[sliceBounds,HT.sIx,Option.getD_none,show (1:Int) > 0 by decide,if_true];by_cases h:i<0
   .simp only[h,if_true] <;> omega
   .simp only[h,if_false] <;> omega
def Ag (its:ao)(lo hi:Option Int):slicePick its.toArray lo hi none=((its.drop (HT.sIx its.length 0 lo)).take (HT.sIx its.length its.length hi - HT.sIx its.length 0 lo)).toArray:=by
 obtain⟨h1,h2,h3⟩:=xl lo hi its.toArray.size;unfold slicePick;rw[h1,h2,h3];simp only[sliceRange_one,pick_run,Fe] <;> rfl
def qy (K:bm):V->Option Int->Option Int->Hp->VK->Prop:=λx lo hi H Q=>∃a xs,x=.ref a/\SqL K H a xs/\∀p,H p=none->Q (.ref p) (upd H p (.lst (dR xs lo hi)))
def El:mq X (qy X.K):=by
 intro pins s σ H x v vl vu lo hi sl Q I rx hs pl pu h;obtain⟨a,xs,rfl,hx,q⟩:=h;cases rx;obtain⟨its,r,ht,hz⟩:=I.list hx;have hlen:=r.length;refine⟨"list",_,slot_list_getitem.lookup,ht.isList.typeIs,?_⟩;refine wpAny_getItem_list_slice ht.isList hs pl pu .none (by simp) ?_ (by rw[Fe] <;> omega);rw[Ag,<-hlen];refine⟨.ref s.heap.objs.size,_,I.laid (t':=s.toks) (o:=.lst (dR xs lo hi)) (λb ob q=>bV _ q) (bD _) ?_,rfl,q _ (I.hok.fresh (bD _))⟩;exact⟨b8 (tu xs lo hi) hz,_,0,(r.drop (HT.sIx xs.length 0 lo)).take (HT.sIx xs.length xs.length hi - HT.sIx xs.length 0 lo),dD _ rfl⟩
noncomputable def eqV:V->V->Bool
 | .non,.non=>true
 | .bl a,.bl b=>a == b
 | .bl a,.int b=>(if a then 1 else 0) == b
 | .int a,.bl b=>a == (if b then 1 else 0)
 | .int a,.int b=>a == b
 | .str a,.str b=>a == b
 | _,_=>false
def zi:CallR X (.builtin "len") (λxs H Q=>∃p ys,xs=[.ref p]/\(SqL X.K H p ys\/SqT X.K H p ys)/\Q (.int ys.length) H):=by
 intro pins s σ H xs us Q I r h;obtain⟨p,ys,rfl,hq,q⟩:=h;obtain⟨u,rfl,rx⟩:=vals1 r;cases rx;have hn:=eG;rcases hq with hq | hq
 .obtain⟨its,r',pl,hz⟩:=I.list hq;have hlen:=r'.length;exact Calls.call_len_list pl.isList (by simp only[Fe] <;> omega) ⟨.int ys.length,H,I.tok _,⟨s.toks+1,by rw[Fe,hlen]⟩,q⟩
 .obtain⟨its,r',pl,hz⟩:=I.tuple hq;have hlen:=r'.length;exact len_tuple pl (by simp only[Fe] <;> omega) ⟨.int ys.length,H,I.tok _,⟨s.toks+1,by rw[Fe,hlen]⟩,q⟩
def B1:CallR X (.type "list") (λxs H Q=>∃p ys,xs=[.ref p]/\(SqL X.K H p ys\/SqT X.K H p ys)/\∀l,H l=none->Q (.ref l) (upd H l (.lst ys))):=by
 intro pins s σ H xs us Q I r h;obtain⟨p,ys,rfl,hq,q⟩:=h;obtain⟨u,rfl,rx⟩:=vals1 r;cases rx;have fin:∀(its:ao),Vals ys its->ys.length<=sizeLine->∀(h':Heap) (c':Nat),(∀b o',s.heap.get? b=some o'->h'.get? b=some o') ->
   h'.get? s.heap.objs.size=some { cls:=.type "list",dict:=none,data:=.seq its.toArray c',slots:=#[] }->EP X pins σ Q (.ref s.heap.objs.size) { s with heap:=h' }:=λits r' hz h' c' kp e=>
  ⟨.ref s.heap.objs.size,_,I.laid (t':=s.toks) kp (bD _) (show ObjOk X.prog X.w _ h' _ (.lst ys) from ⟨hz,its,c',r',e⟩),rfl,q _ (I.hok.fresh (bD _))⟩
 rcases hq with hq | hq
 .obtain⟨its,r',pl,hz⟩:=I.list hq;have hlen:=r'.length;obtain⟨o,ho,hc,n,hd⟩:=pl.isList;exact call_list_seq p (.inl rfl) ho hc hd (λh' c' kp e=>fin its r' hz h' c' kp e) (by simp only[Fe] <;> omega)
 .obtain⟨its,r',pl,hz⟩:=I.tuple hq;have hlen:=r'.length;obtain⟨o,ho,hc,n,hd⟩:=pl;exact call_list_seq p (.inr rfl) ho hc hd (λh' c' kp e=>fin its r' hz h' c' kp e) (by simp only[Fe] <;> omega)
def ER:CallR X (.type "tuple") (λxs H Q=>∃p ys,xs=[.ref p]/\((SqL X.K H p ys/\∀l,H l=none->Q (.ref l) (upd H l (.tup ys)))\/(SqT X.K H p ys/\Q (.ref p) H))):=by
 intro pins s σ H xs us Q I r h;obtain⟨p,ys,rfl,h⟩:=h;obtain⟨u,rfl,rx⟩:=vals1 r;cases rx;rcases h with ⟨hq,q⟩ | ⟨hq,q⟩
 .obtain⟨its,r',pl,hz⟩:=I.list hq;have hlen:=r'.length;refine call_tuple_list pl.isList (λh' kp=>?_) (by simp only[Fe] <;> omega);have I1:Inv X pins σ H { s with heap:=h' }:=I.kept (t':=s.toks) kp;have I2:Inv X pins σ (upd H h'.objs.size (.tup ys)) { s with heap:=h'.push { cls:=.type "tuple",data:=.seq its.toArray } }:=
   I1.laid (t':=s.toks) (λb o e=>bV _ e) (bD _) (show ObjOk X.prog X.w _ _ _ (.tup ys) from ⟨hz,its,r',TupN.new _ _⟩)
  exact⟨.ref h'.objs.size,_,I2,rfl,q _ (I1.hok.fresh (bD _))⟩
 .obtain⟨its,r',pl,hz⟩:=I.tuple hq;exact call_tuple_same pl ⟨.ref p,H,I,rfl,q⟩
def tyV (K:bm)(T:String)(x:V)(H:Hp):Prop:=match x with
 | .str _=>T = "str"
 | .int _=>T = "int"
 | .ref p=>(T = "list" /\ ∃xs,SqL K H p xs)\/(T = "tuple" /\ ∃xs,SqT K H p xs) \/
   (T = "dict" /\ ((∃kvs,H p=some (.dK kvs))\/∃kvs,H p=some (.dT kvs)))\/(T = "set" /\ ∃S n,H p=some (.set S n))
 | _=>False
def Ez {pins:af}{σ:St}{H:Hp}{s:Shared}{T:String}{x:V}{v:Value}(I:Inv X pins σ H s)(r:RelV x v)(ty:tyV X.K T x H) :
  s.TypeIs v T/\∀a,v=.ref a->∃ob,s.heap.get? a=some ob/\ob.dict=none:=by
 cases x with
 | str z=>
  obtain⟨t,rfl⟩:=r;cases (show T = "str" from ty);exact⟨typeIs_str s z t,λ_ e=>nomatch e⟩
 | int i=>
  obtain⟨t,rfl⟩:=r;cases (show T = "int" from ty);exact⟨typeIs_int s i t,λ_ e=>nomatch e⟩
 | ref p=>
  cases r;rcases ty with ⟨rfl,xs,hq⟩ | ⟨rfl,xs,hq⟩ | ⟨rfl,hk⟩ | ⟨rfl,S,n,hk⟩
  .obtain⟨its,_,pl,_⟩:=I.list hq;refine⟨pl.isList.typeIs,λa e=>?_⟩;cases e;obtain⟨o,n,e,c,hd,_⟩:=pl;exact⟨o,e,hd⟩
  .obtain⟨its,_,⟨o,e,c,_,d⟩,_⟩:=I.tupN hq;refine⟨⟨o,e,c⟩,λa e2=>?_⟩;cases e2;exact⟨o,e,d⟩
  .have z:∃o,s.heap.get? p=some o/\o.ExactDict:=by
    rcases hk with ⟨kvs,hk⟩ | ⟨kvs,hk⟩
    .obtain⟨_,_,_,_,o,_,_,e,ex,_⟩:=I.hok p _ hk;exact⟨o,e,ex⟩
    .obtain⟨_,_,_,_,o,_,_,e,ex,_⟩:=I.hok p _ hk;exact⟨o,e,ex⟩
   obtain⟨o,e,ex⟩:=z;refine⟨⟨o,e,ex.1⟩,λa e2=>?_⟩;cases e2;exact⟨o,e,ex.2.1⟩
  .obtain⟨o,_,_,_,e,ex,_⟩:=I.hok p _ hk;refine⟨⟨o,e,ex.1⟩,λa e2=>?_⟩;cases e2;exact⟨o,e,ex.2.1⟩
 | _=>exact False.elim ty
def gv (K:bm)(T:String)(r:V->av->Hp->VK->Prop)(to:TE)(t:TA):TE:=λσ H Q=>to σ H λx H1=>tyV K T x H1/\t σ H1 λxs H2=>r x xs H2 Q
variable {o e:Expr}{es:au}{to:TE}{t:TA}{name:Str}{apos cpos:Pos}{T id:String}{r:V->av->Hp->VK->Prop}
def kL (pa:PlainAttrs T)(slot:Slot T name id)(hty:typeOf (.builtin id)=pure (.type "method_descriptor"))(hm:q0 X id r)(ho:PE X o to)(ha:PA X (e::es) t)
  (hbase:attributeBase o name X.env (eval o X.env)=eval o X.env:=by rfl)
  (hfew:((backTo cpos (starEach (e::es) X.env)).all (λx=>!x.1)&&(backToKw cpos (keywordEach [] X.env)).all (λx=>x.1.isSome)
   && decide ((e::es).length+([]:List Keyword).length+(if ([]:List Keyword).isEmpty then 0 else 1)<30))=true:=by rfl)
  (hline:(apos.endLine == cpos.line)=true:=by rfl)(hs:starEach (e::es) X.env=(false,eval e X.env)::starEach es X.env:=by rfl)(hplain:(backTo cpos (starEach es X.env)).any (·.1)=false:=by rfl) :
  PE X (.Call (.Attribute o name apos) (e::es) [] cpos) (gv X.K T r to t):=by
 intro pins s σ H Q I h;refine wpAny_Call_method_late hbase hfew hline rfl (bh (ho pins s σ H _ I h) λv s1 hZz=>?_);obtain⟨x,H1,I1,r1,ty,q1⟩:=hZz;obtain⟨h1,h2⟩:=Ez I1 r1 ty;refine⟨T,id,pa,slot,hty,h1,h2,?_⟩;have hA:=ha cpos pins s1 σ H1 _ I1 q1;rw[hs] at hA ⊢;refine Calls.callWith_builtin (by show (false||(backTo cpos (starEach es X.env)).any (·.1))=false; rw[hplain] <;> rfl) (Calls.evalArgs_plain ?_);exact bh hA λus s2 ⟨vs,H2,I2,r2,q2⟩=>hm pins s2 σ H2 x vs v us Q I2 r1 r2 q2
end
end L2
namespace L2
open PySem PySem.Spec PyProof.Rows
def nq (X:Cx)(id:String)(r:V->av->Hp->VK->Prop):Prop:=
 ∀(pins:af) (s:Shared) (σ:St) (H:Hp) (x:V) (xs:av) (v:Value) (us:ao) (Q:VK),Inv X pins σ H s->RelV x v->Vals xs us->r x xs H Q ->
  wpAny (model X.prog X.w) X.A (call (.builtin id) (v::us)) (EP X pins σ Q) X.xe s
theorem Vals.one:∀{x:V} {us:ao},Vals [x] us->∃u,us=[u]/\RelV x u
 | _,_,.cons r .nil=>⟨_,rfl,r⟩
theorem Vals.eraseIdx:∀{xs:av} {us:ao} (i:Nat),Vals xs us->Vals (xs.eraseIdx i) (us.eraseIdx i)
 | _,_,_,.nil=>.nil
 | _,_,0,.cons _ t=>t
 | _,_,i+1,.cons r t=>.cons r (Vals.eraseIdx i t)
theorem Vals.reverse {xs:av}{us:ao}(h:Vals xs us):Vals xs.reverse us.reverse:=by
 induction h with
 | nil=>exact .nil
 | cons r t ih=>rw[Ht,Ht]; exact Vals.append ih (.cons r .nil)
theorem vC {α:Type}:∀(l:List α) (i:Nat),(l.eraseIdx i).length<=l.length
 | [],_=>bD _
 | _::_,0=>F8 _
 | _::r,i+1=>Nat.succ_le_succ (vC r i)
section
variable {X:Cx}{pins:af}{σ:St}{H:Hp}{s:Shared}{l b:Addr}{xs ys zs:av}
def Inv.lset {its its':ao}{n:Nat}{f:aB->aB}{t':Nat}(I:Inv X pins σ H s)(hH:H l=some (.lst xs))
  (e:s.heap.get? l=some { cls:=.type "list",data:=.seq its.toArray n })(hf:f its.toArray=its'.toArray)(hv:Vals ys its')(hz:ys.length<=sizeLine) :
  Inv X pins σ (upd H l (.lst ys)) { s with heap:=s.heap.update l (Obj.mapSeq f),toks:=t' }:=by
 have q:=PySem.IsL.update e f;rw[hf] at q;refine I.write (x:=l) (e:=l) (by rw[hH]; exact trivial) (.inl rfl) (λb' u hb hu=>(Ga s.heap (Obj.mapSeq f) (GC hb)).trans hu) ⟨_,q⟩ ?_;exact⟨hz,its',_,hv,q⟩
def Inv.lnew {its:ao}{t':Nat}(I:Inv X pins σ H s)(hv:Vals ys its)(hz:ys.length<=sizeLine) :
  Inv X pins σ (upd H s.heap.objs.size (.lst ys)) { s with heap:=s.heap.push { cls:=.type "list",data:=.seq its.toArray },toks:=t' }:=
 I.laid (λ_ _ q=>bV _ q) (bD _) ⟨hz,its,0,hv,dD _ rfl⟩
theorem Inv.fresh (I:Inv X pins σ H s):H s.heap.objs.size=none:=I.hok.fresh (bD _)
def Inv.lstM (I:Inv X pins σ H s)(hH:H l=some (.lst xs)):xs.length<=sizeLine/\∃(its:ao) (n:Nat),Vals xs its/\xs.length=its.length/\s.heap.get? l=some { cls:=.type "list",data:=.seq its.toArray n }:=by
 obtain⟨z,its,n,r,e⟩:=I.hok l _ hH;exact⟨z,its,n,r,r.length,e⟩
def BY {n:Nat}(h:n<=sizeLine):Builtin.List.listTooLong n=false:=by
 unfold Builtin.List.listTooLong;exact FO (by omega)
end
section
variable {X:Cx}
def fR:V->av->Hp->VK->Prop:=λx vs H Q=>∃l xs y,x=.ref l/\vs=[y]/\H l=some (.lst xs)/\xs.length<sizeLine/\Q .non (upd H l (.lst (xs++[y])))
def wz:nq X "list.append" fR:=by
 intro pins s σ H x vs v us Q I rx rv h;obtain⟨l,xs,y,rfl,rfl,hH,hz,q⟩:=h;cases rx;obtain⟨u,rfl,ru⟩:=rv.one;obtain⟨z,its,n,r,hl,e⟩:=I.lstM hH;refine HW F.slot_list_append ⟨_,e,rfl⟩ F.entry_list_append (F.args_list_append_2 _ _) (PySem.list_append l its.toArray n u (by rw[Fe]; omega)) ⟨e,?_⟩;refine⟨.non,_,I.lset (its':=its++[u]) hH e (by simp) (r.append (.cons ru .nil)) ?_,rfl,q⟩;rw[Fx,List.length_singleton];omega
end
section
variable {prog:Program}{w:World}{A:Around}{E:Value->Shared->Prop}{s:Shared}
end
section
variable {X:Cx}
end
end L2
namespace Att
open PySem PySem.W PySem.Calls PyProof.Rows
def Cm {P:Params}{h:Heap}:∀(ns:al) (vs:ao),WellAll P h vs (ns.map WData.int)->IntsAre vs ns:=by
 intro ns;induction ns with
 | nil=>
  intro vs w;rw[List.map_nil] at w;cases w;exact .nil
 | cons n ns ih=>
  intro vs w;rw[Fh] at w;cases w with
  | cons a b=>
   cases a;exact .cons _ _ (ih _ b)
def Ak {l:OpenLaw}{n:Nat}(hn:l.most=some n){P:Params}{h:Heap}{args:List WData}{vals:ao}
  (hpre:l.row.toRowW.claim.pre args=true)(hwl:WellAll P h vals args) :
  ∃a vs ns,vals=[Value.ref a]/\args=[WData.list (ns.map WData.int)]/\h.get? a=some { cls:=.type "list",data:=.seq vs.toArray }/\IntsAre vs ns/\ns.length<=n:=by
 have hsh:WShape.hasAll [] args [.list .int]=true:=(pre_splitW hpre).1;have hc:l.pre.holds [] { args:=args }=true:=(pre_splitW hpre).2;obtain⟨d,r,rfl,h1,h2⟩:=hasAllW_cons hsh;obtain rfl:=hasAllW_nil h2;obtain⟨xs,rfl,h3⟩:=hasW_list h1;obtain⟨ns,rfl⟩:=items_int h3;have hlen:ns.length<=n:=by
  unfold OpenLaw.pre at hc;have h4:(WTm.not (.lt (.lit (.int (n:Int))) (.len (.arg 0)))).holds [] { args:=[.list (ns.map .int)] }=true:=by
   have h4:=(holds_andW hc).1;rw[hn] at h4;exact h4
  have h5:=condW_of h4 (w_not (w_lt w_lit (w_len_list (w_arg rfl))));rw[Fg] at h5;refine Hb λq=>?_;have q':(n:Int)<((ns.length:Nat):Int):=by omega
  first
   | (rw[FB q'] at h5; exact absurd h5 (by decide))
   | (simp at h5; omega)
 cases hwl with
 | cons w1 w2=>
  cases w2;cases w1 with
  | list ho hall=>exact⟨_,_,ns,rfl,rfl,ho,Cm ns _ hall,hlen⟩
def Dp (l:OpenLaw)(args:List WData):l.row.toRowW.claim.post args (.bool true) args=true:=
 postW_of (r:=l.row.toRowW) (X:=(true == true))
  (show WShape.has [] (.bool true) .bool=true by first | rfl | decide | simp[WShape.has,WShape.arms,WShape.armsAll])
  (show (WTm.eq .res (.lit (.bool true))).value [] { args:=args,res:=some (.bool true),after:=args }=some (.bool (true == true)) from w_eq_bool (w_res rfl) w_lit) rfl
def attach_call {l:OpenLaw}{n:Nat}{q:Program}{loose:ar}{XP:(Str->aA)->Heap->Prop}{YP:World->Heap->Prop}{d:DefRec}
  (hn:l.most=some n)(hdf:d.params.defaults=[])
  (call:∀(w:World) (s₀ s₁:Shared) (mg mb:Str->aA) (fa:Addr) (o:Obj) (pm cd doc:Value) (a:Addr) (vs:ao) (ns:al),
   Ground q loose [] XP w s₀ mg mb s₁.heap->YP w s₁.heap ->
   s₁.heap.get? fa=some o->o.data=.func (docDef d.name d.params d.body d.scope pm cd doc)->s₁.heap.CodeRec cd d.name->mg d.name=some (.ref fa) ->
   s₁.heap.get? a=some { cls:=.type "list",data:=.seq vs.toArray }->IntsAre vs ns->ns.length<=n->s₁.gens = #[] ->
   codeAny (model l.prog w) callerA (.call (.ref fa) ⟨[.ref a],[]⟩) (λr s'=>r=.ok (.ret (.bool true))/\OldK s₁.heap s'.heap/\s'.os=s₁.os/\AllBare s'.gens) s₁) :
  WalkO q loose XP YP l.row.toRowW d [] (λf vs=>PySem.call f vs):=by
 intro w s₀ s₁ mg mb G Y fa o pm cd doc dV kV ho hd hcd hD hmg hg args vals as hpre hlay hrd hwl hlo;obtain rfl:dV=.none:=Dflts.none hD hdf;obtain rfl:kV=.none:=Dflts.noKw hD;obtain⟨a,vs,ns,rfl,rfl,hobj,hints,hlen⟩:=Ak hn hpre hwl;refine enter_call (Ha (call w s₀ s₁ mg mb fa o pm cd doc a vs ns G Y ho (fd_plain hd) hcd hmg hobj hints hlen hg) λr s' hq=>?_);obtain⟨rfl,h2,h3,h4⟩:=hq;exact⟨.inl ⟨.bool true,.bool true,[],rfl,λ_=>rfl,.bool true,Dp l _,λ_=>⟨List.Pairwise.nil,λ_ hm=>(nomatch hm)⟩⟩,h2,h3,h4⟩
section
variable {prog:Program}{w:World}{A:Around}{E:Value->Shared->Prop}{s:Shared}{K:Frag}
end
end Att
namespace L2
open PySem PySem.Spec PyProof.Rows
theorem uU:∀{vs:ao} {ns:al},IntsAre vs ns->Vals (ns.map V.int) vs
 | _,_,.nil=>.nil
 | _,_,.cons n t h=>.cons ⟨t,rfl⟩ (uU h)
def jB (H:Hp):Prop:=∀b,H b=none\/∃o xs,H b=some (.frz o (.lst xs))
def CS {P:Program}{w:World}{K:bm}{mg mb:Str->aA}{CX:gC}{k:Nat}{fa a:Addr}{fd:FuncData}{x:Str}{sp:Sp}{s₁:Shared}{vs:ao}{ns:al}
  (KX:K.In s₁.heap)(hns:s₁.heap.Ns mainGlobals mg)(hb:s₁.heap.Ns builtinsNs mb)(hbb:∀x:Str,x ≠ "__name__" -> mb x=bootBuiltins x)(hlim:s₁.heap.NoLimit)(hg:s₁.gens = #[])
  (ha:s₁.heap.get? a=some { cls:=.type "list",data:=.seq vs.toArray })(hi:IntsAre vs ns)(hl:ns.length<=sizeLine)(hr:Room k callerA)
  (F:∀base:Heap,K.In base->base.Ns mainGlobals mg->FnOk P w K mg base CX k fa fd [x] sp)(hbind:∀(s:Shared) (u:Value),BindsTo s fd ⟨[u],[]⟩ [(x,u)])
  (hsp:∀H:Hp,jB H->SqL K H a (ns.map V.int)->sp [.ref a] H (λv _=>v=.bl true) λ_ _ _=>False)
  (hCX:∀H e s',CX [] H s₁ (λ_ _ _=>False) e s'->False) :
  codeAny (model P w) callerA (.call (.ref fa) ⟨[.ref a],[]⟩) (λr s'=>r=.ok (.ret (.bool true))/\OldK s₁.heap s'.heap/\s'.os=s₁.os/\AllBare s'.gens) s₁:=by
 have rv:=uU hi;have lenV:=hi.length;have core:∀H:Hp,jB H->SqL K H a (ns.map V.int)->HOk P w H s₁.heap->(∀b,H b≠none->b=a)->(H a≠none->K.lookup a=none) ->
   codeAny (model P w) callerA (.call (.ref fa) ⟨[.ref a],[]⟩) (λr s'=>r=.ok (.ret (.bool true))/\OldK s₁.heap s'.heap/\s'.os=s₁.os/\AllBare s'.gens) s₁:=by
  intro H hO hS hok hA hK;have base_of:∀{b:Addr} {o:Obj},s₁.heap.get? b=some o->H b=none->(eI s₁.heap H).get? b=some o:=λe n=>D6 e n;have noA:∀{b:Addr} {o:Obj} {es:Array DictEntry} {ep:Nat},s₁.heap.get? b=some o->o.data=.dict es ep->H b=none:=λ{b o es ep} e d=>by
   cases q:H b with
   | none=>rfl
   | some u=>
    have e':b=a:=hA b (by rw[q]; simp);subst e';rw[ha] at e; cases e;have d':Data.seq vs.toArray _=Data.dict es ep:=d;cases d'
  have nsK:∀{b:Addr} {m:Str->aA},s₁.heap.Ns b m->(eI s₁.heap H).Ns b m:=λ{b m} ⟨o,es,ep,e,d,r⟩=>⟨o,es,ep,base_of e (noA e d),d,r⟩
  have hKb:K.In (eI s₁.heap H):=λb o e=>base_of (KX b o e) (by
   cases q:H b with
   | none=>rfl
   | some u=>
    have e':b=a:=hA b (by rw[q]; simp);subst e';rw[hK (by rw[q]; simp)] at e; cases e)
  have hM:Mod K mg (eI s₁.heap H):=⟨hKb,nsK hns,⟨mb,nsK hb,hbb⟩,let ⟨mc,h1,h2⟩:=hlim; ⟨mc,nsK h1,h2⟩⟩
  have e0:Env0 P w K mg (eI s₁.heap H) callerA [] s₁ H:=⟨rfl,hM,λb o e=>zM e,HQ (Cz _ _),trivial,λb hb=>absurd (show b∈([]:am) from hb) (by simp),hok,.of_eq hg⟩
  refine Ha ((F _ hKb (nsK hns)).run callerA [] s₁ H ⟨[.ref a],[]⟩ [.ref a] [.ref a] _ _ hr e0 (hbind s₁ (.ref a)) (.cons rfl .nil) (hsp H hO hS)) λr s' h=>?_;cases r with
  | error e=>exact (hCX H e s' h).elim
  | ok fl=>
   cases fl with
   | next=>exact False.elim h
   | brk=>exact False.elim h
   | cont=>exact False.elim h
   | ret u=>
    obtain⟨v,H',os,bare,un,hok',r',q⟩:=h;have q':v=.bl true:=q;subst q';obtain rfl:u=Value.bool true:=r';refine⟨rfl,OldK.of_keep λb o e=>?_,os,bare⟩;cases q:H b with
    | none=>exact un.keep b o e q (by intro z; exact absurd (show b∈([]:am) from z) (by simp)) (by simp)
    | some u=>
     rcases hO b with z | ⟨ob,xs,z⟩
     .rw[q] at z; cases z
     .have z2:=un.frzs b ob _ z;obtain⟨e1,_⟩:=hok b _ z;obtain⟨e2,_⟩:=hok' b _ z2;rw[e] at e1; cases e1;exact e2
 cases hk:K.lookup a with
 | some o=>
  have e:=KX a o hk;rw[ha] at e;cases e;refine core (λ_=>none) (λ_=>.inl rfl) (.inr ⟨_,vs.toArray,_,hk,rfl,rfl,rfl,by rw[Fe,lenV]; exact hl,by simpa using rv⟩) (λb u z=>by have z':(none:Option HO)=some u:=z; cases z') (λb z=>absurd rfl z) λz=>absurd rfl z
 | none=>
  refine core (λb=>if b=a then some (.frz { cls:=.type "list",data:=.seq vs.toArray } (.lst (ns.map V.int))) else none) (λb=>?_) (.inl (.inr ⟨{ cls:=.type "list",data:=.seq vs.toArray },if_pos rfl⟩)) (λb u z=>?_) (λb z=>?_) λ_=>hk
  .by_cases hb:b=a
   .exact .inr ⟨_,_,if_pos hb⟩
   .exact .inl (if_neg hb)
  .by_cases hb:b=a
   .have z':=(if_pos hb).symm.trans z;cases z';subst hb;exact⟨ha,by rw[Fg]; exact hl,vs,_,rv,ha⟩
   .have z':=(if_neg hb).symm.trans z;cases z'
  .by_cases hb:b=a
   .exact hb
   .exact absurd (if_neg hb) z
end L2
namespace L2
open PySem PySem.Spec PyProof.Rows
end L2
namespace L2
open PySem PySem.Spec PyProof.Rows
noncomputable def df (s:Stmt)(j:Nat):Stmt:=match s with
 | .ClassDef _ _ _ body _ _ _ _ _ _ _=>body.getD j (.Pass ⟨0,0,0,0⟩)
 | _=>.Pass ⟨0,0,0,0⟩
noncomputable def aO (s:Stmt):Arguments:=match s with
 | .FunctionDef _ a _ _ _ _ _ _ _ _=>a
 | _=>{ posonlyargs:=[],args:=[],vararg:=none,kwonlyargs:=[],kw_defaults:=[],kwarg:=none,defaults:=[] }
noncomputable def aV (s:Stmt):aG:=match s with
 | .FunctionDef _ _ b _ _ _ _ _ _ _=>b
 | _=>[]
noncomputable def ce (s:Stmt):Scope:=match s with
 | .FunctionDef _ _ _ _ _ _ sc _ _ _=>sc
 | _=>{ kind:=.function,names:=[],isGenerator:=false,isCoroutine:=false }
abbrev E0:St->XK:=λ_ _ _ _=>False
section
variable {P:Program}{w:World}{K:bm}{mg:Str->aA}{base:Heap}
end
def rz {n:Nat}(h:n<=1000):n<sizeLine:=Nat.lt_of_le_of_lt h (by decide)
section
variable {X:Cx}
end
def Same (H H':Hp):Prop:=∀b o,H b=some o->H' b=some o
def Same.trans {H H1 H2:Hp}(a:Same H H1)(b:Same H1 H2):Same H H2:=λc o h=>b c o (a c o h)
def Same.free {H H':Hp}(e:Same H H'){l:Addr}(h:H' l=Option.none):H l=Option.none:=by
 cases q:H l with
 | none=>rfl
 | some o=>
  rw[e l o q] at h;cases h
def Same.seq {K:bm}{H H':Hp}{a:Addr}{xs:av}(e:Same H H')(h:SqL K H a xs):SqL K H' a xs:=by
 rcases h with (h | ⟨o,h⟩) | h
 .exact .inl (.inl (e _ _ h))
 .exact .inl (.inr ⟨o,e _ _ h⟩)
 .exact .inr h
end L2
end
section
namespace L2
open PySem PySem.W Builtin Builtin.ObjectAttr
structure Fly (h:Heap)(e T:Addr)(fl:Value):Prop where
 ex:∃oe vs oT ts,h.get? e=some oe/\oe.data=.fields vs/\vs[1]? = some (.ref T)/\h.get? T=some oT/\oT.data=.fields ts/\ts[3]? = some fl
 ne:T≠e
structure XStep (fr:am)(e:Addr)(ch:am)(h h':Heap):Prop where
 size:h.objs.size<=h'.objs.size
 keep:∀b o,h.get? b=some o->b≠e->b∉fr->b∉ch->h'.get? b=some o
 slot:∀b o,h.get? b=some o->b≠e->b∈fr->b∉ch->∃sl,h'.get? b=some { o with slots:=sl }
 exc:∀oe vs,h.get? e=some oe->oe.data=.fields vs->∃vs':aB,h'.get? e=some { oe with data:=.fields vs' }/\vs'.size=vs.size/\vs'[0]? = vs[0]?
 there:∀b o,h.get? b=some o->b≠e->∃o',h'.get? b=some o'
def At {o:Obj}{vs:aB}(hd:o.data=.fields vs)(f:aB->aB):o.mapFields f={ o with data:=.fields (f vs) }:=by
 obtain⟨c,d,dt,sl⟩:=o; subst hd; rfl
theorem XStep.trans {fr ch:am}{e:Addr}{h1 h2 h3:Heap}(a:XStep fr e ch h1 h2)(b:XStep fr e ch h2 h3):XStep fr e ch h1 h3 where
 size:=b8 a.size b.size
 keep:=λc o z n1 n2 n3=>b.keep c o (a.keep c o z n1 n2 n3) n1 n2 n3
 slot:=λc o z n1 n2 n3=>by
  obtain⟨sl,z1⟩:=a.slot c o z n1 n2 n3;obtain⟨sl',z2⟩:=b.slot c _ z1 n1 n2 n3;exact⟨sl',z2⟩
 exc:=λoe vs z hd=>by
  obtain⟨v1,z1,e1,e2⟩:=a.exc oe vs z hd;obtain⟨v2,z2,e3,e4⟩:=b.exc _ v1 z1 rfl;exact⟨v2,z2,e3.trans e1,e4.trans e2⟩
 there:=λc o z n1=>by
  obtain⟨o1,z1⟩:=a.there c o z n1;exact b.there c o1 z1 n1
def XStep.mono {fr fr' ch ch':am}{e:Addr}{h1 h2:Heap}(a:XStep fr e ch h1 h2)(hf:∀b∈fr,b∈fr')(hc:∀b∈ch,b∈ch'):XStep fr' e ch' h1 h2 where
 size:=a.size
 keep:=λc o z n1 n2 n3=>a.keep c o z n1 (λq=>n2 (hf c q)) λq=>n3 (hc c q)
 slot:=λc o z n1 n2 n3=>by
  by_cases q:c∈fr
  .exact a.slot c o z n1 q λq=>n3 (hc c q)
  .exact⟨o.slots,a.keep c o z n1 q λq=>n3 (hc c q)⟩
 exc:=a.exc
 there:=a.there
section
variable {M:Model}{A:Around}{E:Value->Shared->Prop}{s:Shared}{base:Heap}{env:Env}{outer:List Env}{L e T:Addr}{Q:Unit->Shared->Prop}
def oa {oe:Obj}{vs:aB}{i:Nat}{x:Value}(he:s.heap.get? e=some oe)(hd:oe.data=.fields vs)(hi:i<vs.size)
  (hQ:∀h',h'.objs.size=s.heap.objs.size->h'.get? e=some { oe with data:=.fields (vs.setIfInBounds i x) }->(∀b,b≠e->h'.get? b=s.heap.get? b)->Q () { s with heap:=h' }):wpAny M A (setField (.ref e) i x) Q E s:=by
 refine HX he hd hi (hQ _ (Heap.size_after_update ..) ?_ λb hb=>Ga _ _ (GC hb));rw[<-At hd (λws=>ws.setIfInBounds i x)];exact F5 _ he (HE (HY hd _))
def t3 {oe:Obj}{vs:aB}{head:Value}{hadNext:Bool}(hfr:A.frames=some (env::outer))(hl:s.heap.FunFrames base (env::outer))(hf:env.frame=some L)
  (he:s.heap.get? e=some oe)(hd:oe.data=.fields vs)(hz:1<vs.size)
  (hQ:∀h',Fly h' e s.heap.objs.size (rawInt L)->XStep ((env::outer).filterMap (·.frame)) e [] s.heap h'->Q () { s with heap:=h' }) :
  wpAny M A (do let a <-frameOf env; let pl <-entryPlaceOf L hadNext; let b <-EntryCells.newEntry head a .none (rawInt L) .none pl; setField (.ref e) 1 b) Q E s:=by
 have nfr:e∉(env::outer).filterMap (·.frame):=λhm=>by
  obtain⟨_,o,ho,hnf⟩:=hl.mem hm;rw[he] at ho;cases ho;exact hnf vs hd
 refine aM (wpAny_frameOf_fun hfr hl hf λh1 so=>aM (wpAny_entryPlaceOf λpl hpl=>?_));have z1:h1.get? e=some oe:=(so.2.1 e nfr).trans he;unfold EntryCells.newEntry newFields;refine aM (FF ?_ (hpl.sizeOk5 _ _ _ _ _));generalize hto:({ cls:=.type "traceback",dict:=none,data:=.fields ([head,.ref L,.none,rawInt L,.none]++(if pl.isEmpty then List.replicate 6 Value.none else pl)).toArray }:Obj)=to;have dto:to.data=.fields ([head,.ref L,.none,rawInt L,.none]++(if pl.isEmpty then List.replicate 6 Value.none else pl)).toArray:=by rw[<-hto]
 have nft:to.isFreed=false:=HE dto;refine oa (bV _ z1) hd hz λh2 sz2 g2 k2=>?_;have lte:e<h1.objs.size:=bM z1;have gT:h2.get? h1.objs.size=some to:=(k2 _ (F9 lte)).trans (dD _ nft);have sz1:h1.objs.size=s.heap.objs.size:=so.1;rw[<-sz1] at hQ;refine hQ h2 ⟨⟨_,_,to,_,g2,rfl,by simp[hz],gT,dto,by simp⟩,F9 lte⟩ ⟨?_,λb o z n1 n2 _=>?_,λb o z n1 _ _=>?_,λo ws z hw=>?_,λb o z n1=>?_⟩
 .rw[sz2];show s.heap.objs.size<=(h1.push to).objs.size;rw[Fq,sz1];omega
 .rw[k2 b n1];exact bV _ ((so.2.1 b n2).trans z)
 .obtain⟨sl,q⟩:=so.2.2 b o z;exact⟨sl,by rw[k2 b n1]; exact bV _ q⟩
 .rw[he] at z;cases z;rw[hd] at hw;cases hw;exact⟨_,g2,by simp,by rw[HC (by decide)]⟩
 .obtain⟨sl,q⟩:=so.2.2 b o z;exact⟨_,by rw[k2 b n1]; exact bV _ q⟩
def sP {oe:Obj}{vs:aB}(hfr:A.frames=some (env::outer))(hl:s.heap.FunFrames base (env::outer))(hf:env.frame=some L)(he:s.heap.get? e=some oe)(hd:oe.data=.fields vs)(h1:vs[1]? = some .none)
  (hQ:∀h',Fly h' e s.heap.objs.size (rawInt L)->XStep ((env::outer).filterMap (·.frame)) e [] s.heap h'->Q () { s with heap:=h' }):wpAny M A (noteFrame (.ref e) env) Q E s:=by
 unfold noteFrame;simp only[hf];refine aM (Gg he hd h1 ?_);rw[if_neg (by decide)];exact t3 hfr hl hf he hd (FW.mp h1).1 hQ
def uw (hfr:A.frames=some (env::outer))(hl:s.heap.FunFrames base (env::outer))(hf:env.frame=some L)(F:Fly s.heap e T .none)
  (hQ:∀h',Fly h' e s.heap.objs.size (rawInt L)->XStep ((env::outer).filterMap (·.frame)) e [T] s.heap h'->Q () { s with heap:=h' }):wpAny M A (noteFrame (.ref e) env) Q E s:=by
 obtain⟨⟨oe,vs,oT,ts,he,hd,h1,hT,hdT,h3⟩,hne⟩:=F;unfold noteFrame;simp only[hf];refine aM (Gg he hd h1 ?_);rw[if_pos (show (Value.ref T != Value.none)=true from by simp)];refine aM (Gg hT hdT h3 ?_);rw[if_neg (show ¬((Value.none == rawInt L)=true) from by simp[rawInt])];refine aM (oa hT hdT (FW.mp h3).1 λh1' sz1 g1 k1=>?_);have nT:∀b o,s.heap.get? b=some o->(∀vs,o.data≠.fields vs)->b≠T:=λb o hb hnf z=>by
  rw[z,hT] at hb;cases hb;exact hnf ts hdT
 have st:XStep ((env::outer).filterMap (·.frame)) e [T] s.heap h1':=⟨HQ sz1.symm,λb o z _ _ n=>by rw[k1 b (by simpa using n)]; exact z,λb o z _ _ n=>⟨o.slots,by rw[k1 b (by simpa using n)]; exact z⟩,
  λo ws z hw=>⟨ws,by rw[k1 e (GC hne),z,<-hw],rfl,rfl⟩,λb o z _=>by
   by_cases q:b=T
   .rw[q]; exact⟨_,g1⟩
   .exact⟨o,by rw[k1 b q]; exact z⟩⟩
 refine t3 (base:=base) (s:={ s with heap:=h1' }) hfr (hl.of_keeps λb o hb hnf=>⟨o,by rw[k1 b (nT b o hb hnf)]; exact hb,rfl⟩) hf (by rw[k1 e (GC hne)]; exact he) hd (FW.mp h1).1 λh2 F2 st2=>?_;rw[show ({ s with heap:=h1' }:Shared).heap.objs.size=s.heap.objs.size from sz1] at F2;exact hQ h2 F2 (st.trans (st2.mono (λ_ z=>z) λ_ z=>nomatch z))
def mQ {fl:Value}(F:Fly s.heap e T fl)(hQ:∀h',Fly h' e T .none->XStep [] e [T] s.heap h'->Q () { s with heap:=h' }):wpAny M A (setFlight (.ref e) none) Q E s:=by
 obtain⟨⟨oe,vs,oT,ts,he,hd,h1,hT,hdT,h3⟩,hne⟩:=F;unfold setFlight;refine aM (Gg he hd h1 ?_);rw[if_pos (show (Value.ref T != Value.none)=true from by simp)];refine oa hT hdT (FW.mp h3).1 λh' sz g k=>?_;refine hQ h' ⟨⟨oe,vs,_,_,by rw[k e (GC hne)]; exact he,hd,h1,g,rfl,by simp[(FW.mp h3).1]⟩,hne⟩ ⟨HQ sz.symm,λb o z _ _ n=>by rw[k b (by simpa using n)]; exact z,(λb o z _ n _=>nomatch n),
  λo ws z hw=>⟨ws,by rw[k e (GC hne),z,<-hw],rfl,rfl⟩,λb o z _=>?_⟩
 by_cases q:b=T
 .rw[q]; exact⟨_,g⟩
 .exact⟨o,by rw[k b q]; exact z⟩
def xq {oe:Obj}{vs:aB}(hfr:A.frames=some (env::outer))(hl:s.heap.FunFrames base (env::outer))(hf:env.frame=some L)(he:s.heap.get? e=some oe)(hd:oe.data=.fields vs)(h1:vs[1]? = some .none)
  (hQ:∀h',Fly h' e s.heap.objs.size .none->XStep ((env::outer).filterMap (·.frame)) e [s.heap.objs.size] s.heap h'->Q () { s with heap:=h' }):wpAny M A (leaving env (.ref e)) Q E s:=by
 unfold leaving;refine aM (sP hfr hl hf he hd h1 λh2 F2 s2=>mQ (s:={ s with heap:=h2 }) F2 λh3 F3 s3=>?_);exact hQ h3 F3 ((s2.mono (λ_ z=>z) λ_ z=>nomatch z).trans (s3.mono (λ_ z=>nomatch z) λ_ z=>z))
def EV (hfr:A.frames=some (env::outer))(hl:s.heap.FunFrames base (env::outer))(hf:env.frame=some L)(F:Fly s.heap e T .none)
  (hQ:∀h',Fly h' e s.heap.objs.size .none->XStep ((env::outer).filterMap (·.frame)) e [T,s.heap.objs.size] s.heap h'->Q () { s with heap:=h' }):wpAny M A (leaving env (.ref e)) Q E s:=by
 unfold leaving;refine aM (uw hfr hl hf F λh2 F2 s2=>mQ (s:={ s with heap:=h2 }) F2 λh3 F3 s3=>?_);exact hQ h3 F3 ((s2.mono (λ_ z=>z) λ_ z=>by simp at z; simp[z]).trans (s3.mono (λ_ z=>nomatch z) λ_ z=>by simp at z; simp[z]))
end
noncomputable abbrev bS:ao:=[.type "ValueError",.type "Exception",.type "BaseException",.type "object"]
structure XO (K:Frag)(C:Addr)(tl:am):Prop where
 obj:∃(nm q:Str) (N:Addr) (bs:ao) (sn:ar) (sub:ao) (ab:Bool) (col:Option Bool) (dd:aE) (k0 k1 k2 k3 k5:aA),
  K.lookup C=some (excClassObj nm q C N bs (tl.map Value.ref++bS) true sn sub ab col dd k0 k1 k2 k3 k5 "ValueError.__new__")
structure XC (K:Frag)(C:Addr)(fI:Value)(tl:am):Prop extends XO K C tl where
 init:findIn K (.ref C) "__init__" = some (some fI)
 fn:isFn K fI=true\/fI=.builtin "ValueError.__init__"
 sa:findIn K (.ref C) "__setattr__" = some (some (.builtin "object.__setattr__"))
 ga:findIn K (.ref C) "__getattribute__" = some (some (.builtin "BaseException.__getattribute__"))
 gh:findIn K (.ref C) "__getattr__" = some none
section
variable {prog:Program}{w:World}{A:Around}{E:Value->Shared->Prop}{s:Shared}{K:Frag}{C x:Addr}{fI:Value}{tl:am}{mA:Str->aA}{name:Str}{v:Value}
theorem uY (self:Value)(what:Str)(l:ao):∀tl:am,refuseLoop self what (tl.map Value.ref++l)=refuseLoop self what l
 | []=>rfl
 | a::r=>by
  rw[Fh,List.cons_append,refuseLoop_ref];exact uY self what l r
def nh {h:Heap}{x C:Addr}{mA:Str->aA}(I:h.Inst x C mA):∃ox od,InstAt h x ox C od:=by
 obtain⟨o,hx,hc,hn,hd⟩:=I;have hn':notCls o=true:=by
  unfold notCls;cases q:o.data <;> first | rfl | (exact absurd q (hn _))
 rcases hd with ⟨e,_⟩ | ⟨d,e,_,o',es,ep,ho,_⟩
 .exact⟨o,none,hx,hc,hn',by rw[e]; trivial⟩
 .exact⟨o,some o',hx,hc,hn',by rw[e]; exact ho⟩
def D7 {ns:ar}{Q:Unit->Shared->Prop}(T:XC K C fI tl)(X:K.In s.heap)(hna:findIn K (.ref C) name=some none)(I:s.heap.Inst x C mA)(hw:Within mA ns)(hsz:ns.length<sizeLine)
  (hq:∀h' tk',h'.Inst x C (λy=>if y=name then some v else mA y)->s.heap.objs.size<=h'.objs.size ->
   (∀b o,b≠x->(∀o₀ dx,s.heap.get? x=some o₀->o₀.dict=some dx->b≠dx)->s.heap.get? b=some o->h'.get? b=some o) ->
   (∀o₀,s.heap.get? x=some o₀->∃o₁,h'.get? x=some o₁/\o₁.data=o₀.data/\((∃dx,o₀.dict=some dx/\o₁.dict=some dx)\/(o₀.dict=none/\o₁.dict=some s.heap.objs.size)))->Q () { s with heap:=h',toks:=tk' }) :
  wpAny (model prog w) A (setAttr (.ref x) name v) Q E s:=by
 obtain⟨ox,od,J⟩:=nh I;have SF:=PySem.F.store_ValueError;obtain⟨nm,q,N,bs,sn,sub,ab,col,dd,k0,k1,k2,k3,k5,lk⟩:=T.obj;have hC:=X _ _ lk;have hcont:(Value.ref C::(tl.map Value.ref++bS)).contains (.type "object")=true:=by
  rw[GQ,G6];rw[show bS.contains (.type "object")=true from by decide +kernel,Hu,Hu]
 have iso:Looks (model prog w) s.heap (isInstance (.ref x) (.type "object")) true:=J.type.andThen λA' Q' E' s' k q'=>by
  obtain⟨h1,g1,d1,t1,o1⟩:=s';refine FR (k _ _ hC) ?_;rw[hcont]; exact q'
 have J':=J;have X':=X;obtain⟨hp,g,d,tk,os⟩:=s;refine set_plain X J T.sa (GD SF.slot.plain SF.entry (@check_slot (model prog w) _ _ _ "object.__setattr__" "object" "__setattr__" (.ref x) [.str name tk,v] [] _ SF.kind SF.split iso (SF.args (.ref x) (.str name tk) v) ?_));have hpass:=SF.passes (.ref x);obtain⟨o,hx,hc,hnc,hd⟩:=I;unfold Builtin.«object.__setattr__»;repeat (first | rw[refuse_eq] | (rw[refuseLoop_ref,uY,hpass]) | (with_reducible refine Fk hx ?_; rw[hc]) | with_reducible refine wpAny_mroOf_exc hC ?_ | with_reducible refine (GR X hna).here ?_ | wp_step)
 change K.In hp at X;show wpAny _ _ _ _ _ ⟨hp,g,d,tk+1,os⟩;refine (GR X hna).at ?_;repeat (first | (with_reducible refine Fk hx ?_; rw[hc]) | with_reducible refine Fk hC ?_ | wp_step)
 rcases hd with ⟨hdn,hmA⟩ | ⟨dx,hdx,hne,hns⟩
 .rw[hdn,if_neg (by simp[typeHasDict])];split
  .rename_i z;cases z
  split
  .rename_i c z;exact absurd z (hnc c)
  .have lt:x<hp.objs.size:=bM hx;have hx1:(hp.push { cls:=.type "dict",data:=.dict #[] }).get? x=some o:=bV _ hx;refine aM (wpAny_alloc' (aM (wpAny_update' hx1 (bg ?_))));generalize hh2:((hp.push { cls:=.type "dict",data:=.dict #[] }).update x λo=>{ cls:=o.cls,dict:=some hp.objs.size,data:=o.data,slots:=o.slots })=h2;have gd:h2.get? hp.objs.size=some { cls:=.type "dict",data:=.dict #[] }:=by
    rw[<-hh2];exact (Ga _ _ (cY lt)).trans (Heap.get?_push_at rfl rfl)
   have gx:h2.get? x=some { cls:=o.cls,dict:=some hp.objs.size,data:=o.data,slots:=o.slots }:=by
    rw[<-hh2];refine F5 _ hx1 ?_;have fr:=(Heap.get?_some_iff.mp hx).2;obtain⟨_,_,dt,_⟩:=o;cases dt <;> first | rfl | exact fr
   have gb:∀b ob,b≠x->hp.get? b=some ob->h2.get? b=some ob:=λb ob nb z=>by
    rw[<-hh2];exact (Ga _ _ (GC nb)).trans (bV _ z)
   have sz2:h2.objs.size=hp.objs.size+1:=by rw[<-hh2,Heap.size_after_update,Fq]
   have nd:h2.Ns1 hp.objs.size (λ_=>none):=Heap.Ns1.of_empty ⟨_,#[],_,gd,rfl,λe he=>absurd he (by simp),λ_=>rfl⟩;show wpAny _ _ (storeInDict hp.objs.size (.str name tk) name v) _ _ _;unfold storeInDict newKeyGuard;refine aM (bg (aM (wpAny_nsSet1 nd λh3 n3 s3=>?_)));obtain⟨oD,esD,epD,hoD,hdD,hcD⟩:=n3.count (Within.cons name v Within.nil);refine aM (wpAny_lookBehind hoD (by rw[hdD]; exact pastItsLine_dict (b8 hcD (by rw[List.length_cons,List.length_nil,sizeLine_eq]; omega))) ?_);wp_walk
   have gx3:=(s3.2 x (cY lt)).trans gx;refine hq h3 _ ⟨_,gx3,hc,hnc,.inr ⟨hp.objs.size,rfl,F9 lt,?_⟩⟩ (by rw[s3.1,sz2]; exact F8 _) (λb ob nb _ z=>?_) λo₀ z=>?_
   .obtain⟨o',es,ep,e1,e2,e3,eu,e4⟩:=n3;exact⟨o',es,ep,e1,e2,e3,eu,λy=>by rw[e4 y]; by_cases hy:y=name <;> simp[hy,hmA]⟩
   .exact (s3.2 b (cY (bM z))).trans (gb b ob nb z)
   .obtain rfl:o=o₀:=cy (hx.symm.trans z);exact⟨_,gx3,rfl,.inr ⟨hdn,rfl⟩⟩
 .rw[hdx];refine bg ?_;show wpAny _ _ (storeInDict dx (.str name tk) name v) _ _ _;unfold storeInDict newKeyGuard;refine aM (bg (aM (wpAny_nsSet1 hns λh3 n3 s3=>?_)));obtain⟨oD,esD,epD,hoD,hdD,hcD⟩:=n3.count (Within.cons name v hw);refine aM (wpAny_lookBehind hoD (by rw[hdD]; exact pastItsLine_dict (b8 hcD (by rw[List.length_cons]; omega))) ?_);wp_walk
  have gx3:=(s3.2 x (GC hne)).trans hx;refine hq h3 _ ⟨o,gx3,hc,hnc,.inr ⟨dx,hdx,hne,n3⟩⟩ (HQ s3.1.symm) (λb ob _ hbd z=>(s3.2 b (hbd o dx hx hdx)).trans z) λo₀ z=>?_;obtain rfl:o=o₀:=cy (hx.symm.trans z);exact⟨o,gx3,rfl,.inl ⟨dx,hdx,hdx⟩⟩
end
section
variable {prog:Program}{w:World}{A:Around}{E:Value->Shared->Prop}{s:Shared}{K:Frag}{C x:Addr}{fI:Value}{tl:am}{mA:Str->aA}{name:Str}{v:Value}
def uR {M:Model}{s:Shared}(T:XC K C fI tl)(X:K.In s.heap){ox:Obj}{od:Option Obj}(J:InstAt s.heap x ox C od){B:String}(hB:bS.contains (.type B)=true):Looks M s.heap (isInstance (.ref x) (.type B)) true:=by
 obtain⟨nm,q,N,bs,sn,sub,ab,col,dd,k0,k1,k2,k3,k5,lk⟩:=T.obj;have hC:=X _ _ lk;have hcont:(Value.ref C::(tl.map Value.ref++bS)).contains (.type B)=true:=by rw[GQ,G6,hB,Hu,Hu]
 exact J.type.andThen λA' Q' E' s' k q'=>by
  obtain⟨h1,g1,d1,t1,o1⟩:=s';refine FR (k _ _ hC) ?_;rw[hcont]; exact q'
def yg {expr:Bool}{Q:Value->Shared->Prop}(T:XC K C fI tl)(X:K.In s.heap)(hna:findIn K (.ref C) name=some none)(I:s.heap.Inst x C mA)(hv:mA name=some v)(hh:handedOut v=pure v)
  (hq:Q v { s with toks:=s.toks+1 }):wpAny (model prog w) A (getAttr (.ref x) name expr) Q E s:=by
 obtain⟨ox,od,J⟩:=nh I;have FA:=PySem.F.excAttr_ValueError;have iso:=uR (M:=model prog w) T X J (B := "BaseException") (by decide +kernel);have f3:=FA.ga.bind (.ref x);have hx0:(expr&&onTheHeap (Value.builtin "BaseException.__getattribute__"))=false:=by cases expr <;> rfl
 have hx2:(Value.builtin "BaseException.__getattribute__" == Value.builtin "object.__getattribute__")=false:=by decide +kernel
 have hx1:(onTheHeap (Value.ref C)&&Value.builtin "BaseException.__getattribute__" == Value.builtin "object.__getattribute__")=false:=by rw[hx2]; rfl
 obtain⟨nm,q,N,bs,sn,sub,ab,col,dd,k0,k1,k2,k3,k5,lk⟩:=T.obj;have hC:=X _ _ lk;obtain⟨o,hx,hc,hnc,hd⟩:=I;obtain⟨hp,g,d,tk,os⟩:=s;change K.In hp at X;change hp.get? x=some o at hx;have ga:∀{t:Nat} {Q':Option Value->Shared->Prop} {E':Value->Shared->Prop} {A':Around},Q' (some (.builtin "BaseException.__getattribute__")) ⟨hp,g,d,t,os⟩->wpAny (model prog w) A' (typeLookup (.ref C) "__getattribute__") Q' E' ⟨hp,g,d,t,os⟩:=λz=>(GR X T.ga).at z;have gh:∀{t:Nat} {Q':Option Value->Shared->Prop} {E':Value->Shared->Prop} {A':Around},Q' none ⟨hp,g,d,t,os⟩->wpAny (model prog w) A' (typeLookup (.ref C) "__getattr__") Q' E' ⟨hp,g,d,t,os⟩:=λz=>(GR X T.gh).at z;have gn:∀{t:Nat} {Q':Option Value->Shared->Prop} {E':Value->Shared->Prop} {A':Around},Q' none ⟨hp,g,d,t,os⟩->wpAny (model prog w) A' (typeLookup (.ref C) name) Q' E' ⟨hp,g,d,t,os⟩:=λz=>(GR X hna).at z;unfold getAttr getAttrBy;repeat (any_goals (first | assumption | (with_reducible refine Fk hx ?_; rw[hc]) | with_reducible refine ga ?_ | with_reducible refine gh ?_ | wp_step))
 refine GD FA.ga.plain F.entry_bexc_ga (@check_slot (model prog w) _ _ _ "BaseException.__getattribute__" "BaseException" "__getattribute__" (.ref x) [.str name tk] [] _ (by decide +kernel) (by decide +kernel) iso (F.args_bexc_ga _ _) ?_);rcases hd with ⟨_,hmA⟩ | ⟨dx,hdx,hne,hns⟩
 .rw[hmA name] at hv; cases hv
 unfold Builtin.«object.__getattribute__»;repeat (any_goals (first | assumption | (with_reducible refine Fk hx ?_; rw[hc]) | with_reducible refine Fk hC ?_ | with_reducible refine gn ?_ | wp_step))
 split
 .rename_i c z;exact absurd z (hnc c)
 unfold instanceDict;repeat (any_goals (first | assumption | (with_reducible refine Fk hx ?_; rw[hc]) | with_reducible refine Fk hC ?_ | wp_step))
 rw[hdx];repeat (any_goals (first | assumption | (with_reducible refine wpAny_nsGet hns.ns ?_; rw[hv]) | wp_step))
end
section
variable {prog:Program}{w:World}{A:Around}{E:Value->Shared->Prop}{s:Shared}{K:Frag}{C x:Addr}{fI:Value}{tl:am}{mA:Str->aA}{name:Str}{v:Value}
def xM {rest:ao}{o:Obj}{vs:aB}{Q:Value->Shared->Prop}(T:XC K C fI tl)(X:K.In s.heap)(hx:s.heap.get? x=some o)(hc:o.cls=.ref C)(hd:o.data=.fields vs)(hz:0<vs.size)(hr:rest.length<=sizeLine)
  (hq:∀h',s.heap.objs.size<=h'.objs.size->(∀b ob,b≠x->s.heap.get? b=some ob->h'.get? b=some ob)->(∃a0,h'.get? x=some { o with data:=.fields (vs.setIfInBounds 0 a0) })->Q .none { s with heap:=h' }) :
  wpAny (model prog w) A (call (.builtin "ValueError.__init__") (.ref x::rest)) Q E s:=by
 have F:=Gu;obtain⟨nm,q,N,bs,sn,sub,ab,col,dd,k0,k1,k2,k3,k5,lk⟩:=T.obj;have hC:=X _ _ lk;have hcont:(Value.ref C::(tl.map Value.ref++bS)).contains (.type "ValueError")=true:=by
  rw[GQ,G6,show bS.contains (.type "ValueError")=true from by decide +kernel,Hu,Hu]
 obtain⟨hp,g,d,tk,os⟩:=s;have hshort:=F.noStar;have h0:vs[0]? = some vs[0]:=by simp[hz]
 refine HV (GD F.init.plain F.initEntry ?_);simp only[checkBuiltinCall,F.initKind,F.initSplit,F.initRow];repeat (first | (with_reducible refine Fk hx ?_; rw[hc]) | with_reducible refine Fk hC ?_ | (with_reducible refine FR hC ?_; rw[hcont]) | wp_step)
 refine wpAny_onRaise ?_;rw[show ∀(a b:String) (n:Nat),Bind.check ⟨.positional, "*", "ValueError",.self,[⟨"args",.varPos,false⟩]⟩ a b n (List.map (λx=>x.fst) ({ pos:=Value.ref x::rest }:Args).kw)=pure () from λa b n=>check_star_args _ _ _ _ _ _];refine bg ?_;show wpAny _ _ (newTuple rest >>= λt=>Builtin.BaseException.bexcPut (.ref x) 0 t >>= λ_=>ret .none) _ _ _;refine aM (wpAny_newTuple (aM ?_) hr);unfold Builtin.BaseException.bexcPut;refine aM (Gg (bV _ hx) hd h0 (aM (oa (bV _ hx) hd hz λh2 sz2 g2 k2=>?_)));have fin:Q .none ⟨h2,g,d,tk,os⟩:=hq h2 (by rw[sz2]; show hp.objs.size<=(hp.push _).objs.size; rw[Fq]; exact F8 _) (λb ob nb z=>by rw[k2 b nb]; exact bV _ z) ⟨_,g2⟩;cases vs[0] <;> (repeat (first | exact fin | wp_step))
end
def kK (C:Addr)(tl:am)(n:String):(Value.ref C::(tl.map Value.ref++bS)).contains (.type n)=bS.contains (.type n):=by
 rw[GQ,G6];have h1:((Value.type n) == (Value.ref C))=false:=by rfl
 have h2:(tl.map Value.ref).contains (.type n)=false:=by
  induction tl with
  | nil=>rfl
  | cons a r ih=>rw[Fh,GQ,ih]; rfl
 rw[h1,h2,Ii,Ii]
section
variable {prog:Program}{w:World}{A:Around}{E:Value->Shared->Prop}{s:Shared}{K:Frag}{C:Addr}{fI:Value}{tl:am}
def xm {rest:ao}{R:Result->Shared->Prop}(T:XC K C fI tl)(X:K.In s.heap)(hrest:rest.length<=sizeLine)
  (hq:R (.ok (.ret (.ref (s.heap.objs.size+1)))) { s with heap:=(s.heap.push { cls:=.type "tuple",data:=.seq rest.toArray }).push { cls:=.ref C,data:=.fields #[.ref s.heap.objs.size,.none,.none,.none,.bool false,.none] } }) :
  codeAny (model prog w) A (.builtin "ValueError.__new__" ⟨.ref C::rest,[]⟩) R s:=by
 have F:=Gu;obtain⟨nm,q,N,bs,sn,sub,ab,col,dd,k0,k1,k2,k3,k5,lk⟩:=T.obj;have hC:=X _ _ lk;have cB:(Value.ref C::(tl.map Value.ref++bS)).contains (.type "ValueError")=true:=by rw[kK]; decide +kernel
 have cA:(Value.ref C::(tl.map Value.ref++bS)).contains (.type "AttributeError")=false:=by rw[kK]; decide +kernel
 have cN:(Value.ref C::(tl.map Value.ref++bS)).contains (.type "NameError")=false:=by rw[kK]; decide +kernel
 obtain⟨h,g,d,t,os⟩:=s;have ends:=F.ends;refine codeAny_builtinAt F.entry ?_;unfold Builtin.«BaseException.__new__»;refine wpAt_bind ?_;show wpAt _ _ _ (stack >>= _) _ _ _;refine wpAt_bind (wpAt_stack λp below=>wpAt_of_wpAny ?_);wp_walk
 refine wpAt_of_wpAny ?_;rw[F.owner];repeat (first | with_reducible refine wpAny_madeHere_exc F.canon hC ?_ | with_reducible refine Fk hC ?_ | (with_reducible refine FR hC ?_; first | rw[cB] | rw[cA] | rw[cN]) | wp_step)
 show R _ _;rw[Fq];exact hq
def Cp {rest:ao}{M:Model}{Q:Unit->Shared->Prop}(T:XC K C fI tl)(X:K.In s.heap)(hq:Q () s):wpAny M A (checkBuiltinCall "ValueError.__new__" ⟨.ref C::rest,[]⟩) Q E s:=by
 have F:=Gu;obtain⟨nm,q,N,bs,sn,sub,ab,col,dd,k0,k1,k2,k3,k5,lk⟩:=T.obj;have hC:=X _ _ lk;have cB:(Value.ref C::(tl.map Value.ref++bS)).contains (.type "ValueError")=true:=by rw[kK]; decide +kernel
 have star:=F.noStar;obtain⟨h,g,d,t,os⟩:=s;simp only[checkBuiltinCall,F.newKind,F.newSplit,F.newRow];repeat (first | refine Fk hC ?_ | (refine FR hC ?_; rw[cB]) | refine wpAny_staticBase_exc hC ?_ | refine wpAny_madeBy_exc hC ?_ | simp only[G3,Fm,if_false] | wp_step)
 exact hq
def CG {rest:ao}{Q:Fin->Shared->Prop}(T:XC K C fI tl)(X:K.In s.heap)(hrest:rest.length<=sizeLine)
  (hq:∀h' e,Heap.MadeExcOf s.heap h' e (.ref C) rest->s.heap.objs.size<=e->wpAny (model prog w) A (call fI (.ref e::rest)) (λr s'=>r=.none/\Q (.done (.ret (.ref e))) s') E { s with heap:=h' }) :
  wpAny (model prog w) A (Builtin.«type.__call__» ⟨.ref C::rest,[]⟩) Q E s:=by
 have F:=Gu;have T':=T;have X':=X;obtain⟨nm,q,N,bs,sn,sub,ab,col,dd,k0,k1,k2,k3,k5,lk⟩:=T.obj;have hC:=X _ _ lk;have self:(Value.ref C::(tl.map Value.ref++bS)).contains (.ref C)=true:=by simp
 obtain⟨h,g,d,t,os⟩:=s;change K.In h at X;repeat (first | with_reducible refine Fk hC ?_ | with_reducible refine wpAny_madeBy_exc hC ?_ | wp_step)
 refine codeAny_call_builtin_code (HZ _ F.quiet) (Cp T' X' (xm T' X' hrest ?_));show wpAny _ _ _ _ _ ⟨(h.push { cls:=.type "tuple",data:=.seq rest.toArray }).push { cls:=.ref C,data:=.fields #[.ref h.objs.size,.none,.none,.none,.bool false,.none] },g,d,t,os⟩;generalize hto:({ cls:=.type "tuple",data:=.seq rest.toArray }:Obj)=to;generalize heo:({ cls:=.ref C,data:=.fields #[.ref h.objs.size,.none,.none,.none,.bool false,.none] }:Obj)=eo;have kp:∀b o,h.get? b=some o->((h.push to).push eo).get? b=some o:=λb o z=>bV _ (bV _ z);have he1:((h.push to).push eo).get? (h.objs.size+1)=some eo:=by subst heo; subst hto; heap_get
 have ht1:((h.push to).push eo).get? h.objs.size=some to:=by subst hto; exact bV _ (Heap.get?_push_at rfl rfl)
 have ec:eo.cls=.ref C:=by rw[<-heo]
 have X2:K.In ((h.push to).push eo):=X.keeps kp;unfold isInstance;repeat (first | (with_reducible refine Fk he1 ?_; rw[ec]) | (with_reducible refine FR (kp _ _ hC) ?_; rw[self]) | wp_step)
 show wpAny _ _ (typeLookup (.ref C) _) _ _ _;have bd:∀Q':Value×ao->Shared->Prop,Q' (fI,[.ref (h.objs.size+1)]) ⟨(h.push to).push eo,g,d,t,os⟩->wpAny (model prog w) A (bindSpecial fI (.ref (h.objs.size+1))) Q' E ⟨(h.push to).push eo,g,d,t,os⟩:=λQ' q=>by
  rcases T.fn with hb | hb
  .unfold bindSpecial;refine aM ((looks_typeIn X2 (Fi.mp hb)).at ?_);rw[if_pos (by decide)];exact bg q
  .subst hb;exact wpAny_of_eq (F.init.bind _) q
 refine (GR X2 T.init).at (GK (aM (bd _ ?_)));refine (aM (FU (hq _ (h.objs.size+1) ⟨kp,G4 (F8 _),h.objs.size,by rw[heo]; exact he1,G4 (bD _),by rw[hto]; exact ht1⟩ (F8 _)) (λr s' hr=>?_) λ_ _ x=>x));obtain⟨rfl,hQ⟩:=hr;wp_walk
 exact hQ
def An {rest:ao}{Q:Value->Shared->Prop}(T:XC K C fI tl)(X:K.In s.heap)(hrest:rest.length<=sizeLine)
  (hq:∀h' e,Heap.MadeExcOf s.heap h' e (.ref C) rest->s.heap.objs.size<=e->wpAny (model prog w) (A.under (.builtin "type.__call__" ⟨.ref C::rest,[]⟩)) (call fI (.ref e::rest)) (λr s'=>r=.none/\Q (.ref e) s') E { s with heap:=h' }) :
  wpAny (model prog w) A (call (.ref C) rest) Q E s:=by
 obtain⟨nm,q,N,bs,sn,sub,ab,col,dd,k0,k1,k2,k3,k5,lk⟩:=T.obj;have hC:=X _ _ lk;have X':=X;obtain⟨h,g,d,t,os⟩:=s;have a1:=tc_lookup;have a2:=tc_bind (.ref C);have a3:(⟨h,g,d,t,os⟩:Shared).TypeIs (.ref C) "type":=⟨_,hC,rfl⟩
 refine HV (codeAny_of_tree ?_);show wpAny _ _ (callAny (.ref C) _) _ _ _;repeat (any_goals (first | assumption | with_reducible refine Fk hC ?_ | wp_step))
 exact⟨rfl,codeAny_call_builtin_at (HZ _ (by decide +kernel)) entry_typeCall (wpAny_check_type_call_sub hC (CG T X' hrest hq))⟩
end
section
variable {M:Model}{A:Around}{E:Value->Shared->Prop}{s:Shared}{env:Env}{K:Frag}{C:Addr}{tl:am}
def D1 {x:Sem Value}{Q:Flow->Shared->Prop}(hh:A.handled=none)
  (h:wpAny M A x (λv s₁=>∃(e C:Addr) (tl:am) (oe:Obj) (vs:aB),v=.ref e/\XO K C tl/\s₁.heap.get? e=some oe/\oe.cls=.ref C/\oe.data=.fields vs/\vs[1]? = some .none/\K.In s₁.heap/\E (.ref e) s₁) E s) :
  wpAny M A (raiseStmt env (some x) none) Q E s:=by
 unfold raiseStmt;refine aM (FU h (λv s₁ h₁=>?_) λ_ _ x=>x);obtain⟨e,C,tl,oe,vs,rfl,T,he,hc,hd,h1,X,hE⟩:=h₁;obtain⟨nm,q,N,bs,sn,sub,ab,col,dd,k0,k1,k2,k3,k5,lk⟩:=T.obj;have hC:=X _ _ lk;obtain⟨hp,g,d,tk,os⟩:=s₁;have hcB:(Value.ref C::(tl.map Value.ref++bS)).contains (.type "BaseException")=true:=by rw[kK]; decide +kernel
 obtain⟨oc,od,odt,osl⟩:=oe;cases hd;cases hc;repeat (any_goals (first | assumption | with_reducible refine Fk he ?_ | with_reducible refine Fk hC ?_ | (with_reducible refine FR hC ?_; rw[hcB]) | with_reducible refine Gg he rfl h1 ?_ | wp_step))
 exact wpAny_raiseNew_none hh hE
def xP {e D:Addr}{oe:Obj}{tlD:am}{Q:Bool->Shared->Prop}(he:s.heap.get? e=some oe)(hc:oe.cls=.ref C)(X:K.In s.heap)(T:XO K C tl)(Y:XO K D tlD)
  (hQ:Q ((Value.ref C::(tl.map Value.ref++bS)).contains (.ref D)) s):wpAny M A (excMatches (.ref e) (.ref D)) Q E s:=by
 obtain⟨nm,q,N,bs,sn,sub,ab,col,dd,k0,k1,k2,k3,k5,lk⟩:=T.obj;obtain⟨nm',q',N',bs',sn',sub',ab',col',dd',k0',k1',k2',k3',k5',lk'⟩:=Y.obj;have hC:=X _ _ lk;have hD:=X _ _ lk';obtain⟨hp,g,d,tk,os⟩:=s;have hcB:(Value.ref D::(tlD.map Value.ref++bS)).contains (.type "BaseException")=true:=by rw[kK]; decide +kernel
 have nt:isSubtype (.type "type") (.type "tuple")=pure false:=by rw[Hv]; kernel_rfl
 have hT:(⟨hp,g,d,tk,os⟩:Shared).TypeIs (.ref D) "type":=⟨_,hD,rfl⟩
 unfold excMatches;repeat (any_goals (first | assumption | with_reducible refine Fk hD ?_ | (with_reducible refine Fk he ?_; rw[hc]) | (with_reducible refine FR hD ?_; rw[hcB]) | with_reducible refine FR hC ?_ | wp_step))
 cases hh:(Value.ref C::(tl.map Value.ref++bS)).contains (.ref D) with
 | true=>
  rw[hh] at hQ;repeat (any_goals (first | assumption | wp_step))
 | false=>
  rw[hh] at hQ;repeat (any_goals (first | assumption | wp_step))
end
end L2
end
section
namespace L2
open PySem PySem.Spec PyProof.Rows
noncomputable def cM (env:Env)(names:List (Str×NameKind))(acc:ah):ah:=
 names.foldl (λcs x=>if x.2 == NameKind.free then (x.1,(env.cells.lookup x.1).getD 0)::cs else cs) acc
theorem uB {α β:Type}{f:α->β->Sem (ForInStep β)}(g:β->α->β):∀(l:List α) (c:β),(∀x∈l,∀c,f x c=pure (.yield (g c x)))->forIn l c f=pure (l.foldl g c)
 | [],_,_=>rfl
 | x::r,c,h=>by
  rw[List.forIn_cons,h x Gh c,pure_bind];exact uB g r (g c x) λy hy=>h y (bU _ hy)
theorem oP {env:Env}:∀(names:List (Str×NameKind)) (acc:ah),(∀y∈names,y.2=NameKind.free->∃c,env.cells.lookup y.1=some c)->(∀x c,acc.lookup x=some c->env.cells.lookup x=some c) ->
  (∀x c,(cM env names acc).lookup x=some c->env.cells.lookup x=some c)/\(∀y∈names,y.2=NameKind.free->∃c,(cM env names acc).lookup y.1=some c)/\∀x c,acc.lookup x=some c->∃c',(cM env names acc).lookup x=some c'
 | [],acc,_,ha=>⟨ha,(λ_ h=>nomatch h),λx c h=>⟨c,h⟩⟩
 | (n,k)::r,acc,hf,ha=>by
  by_cases hk:k=NameKind.free
  .subst hk;obtain⟨c,hc⟩:=hf (n,.free) bW rfl;have e:cM env ((n,NameKind.free)::r) acc=cM env r ((n,c)::acc):=by
    have hc':env.cells.lookup n=some c:=hc;show cM env r (if (NameKind.free == NameKind.free)=true then (n,(env.cells.lookup n).getD 0)::acc else acc)=_;rw[if_pos (by decide),hc'];rfl
   rw[e];obtain⟨h1,h2,h3⟩:=oP r ((n,c)::acc) (λy hy=>hf y (bU _ hy)) λx d h=>by
    rw[List.lookup_cons] at h;split at h
    .rename_i hx;have hx':x=n:=by simpa using hx
     cases h;rw[hx'];exact hc
    .exact ha x d h
   refine⟨h1,λy hy hyf=>?_,λx d h=>?_⟩
   .rcases cu hy with rfl | hy
    .exact h3 n c (by rw[List.lookup_cons]; simp)
    .exact h2 y hy hyf
   .by_cases hx:x=n
    .subst hx;exact h3 x c (by rw[List.lookup_cons]; simp)
    .refine h3 x d ?_;rw[List.lookup_cons,show (x == n)=false from by simpa using hx];exact h
  .have e:cM env ((n,k)::r) acc=cM env r acc:=by
    show cM env r (if (k == NameKind.free)=true then (n,(env.cells.lookup n).getD 0)::acc else acc)=_;rw[if_neg (by simpa using hk)]
   rw[e];obtain⟨h1,h2,h3⟩:=oP r acc (λy hy=>hf y (bU _ hy)) ha;refine⟨h1,λy hy hyf=>?_,h3⟩;rcases cu hy with rfl | hy
   .exact absurd hyf hk
   .exact h2 y hy hyf
def vn {scope:Scope}{env:Env}(hf:∀y∈scope.names,y.2=NameKind.free->∃c,env.cells.lookup y.1=some c) :
  ∃cl,closureFor scope env=pure cl/\(∀x c,cl.lookup x=some c->env.cells.lookup x=some c)/\∀y∈scope.names,y.2=NameKind.free->∃c,cl.lookup y.1=some c:=by
 obtain⟨h1,h2,_⟩:=oP (env:=env) scope.names [] hf (λ_ _ h=>nomatch h);refine⟨cM env scope.names [],?_,h1,h2⟩;simp only[closureFor];rw[uB (λcs x=>if x.2 == NameKind.free then (x.1,(env.cells.lookup x.1).getD 0)::cs else cs) scope.names [] λx hx c=>?_]
 .rfl
 .obtain⟨n,kind⟩:=x;by_cases hk:kind=NameKind.free
  .subst hk;obtain⟨a,ha⟩:=hf (n,.free) hx rfl;have ha':env.cells.lookup n=some a:=ha;simp only[show (NameKind.free == NameKind.free)=true from by decide,if_true,cellOf,ha'];rfl
  .have hb:(kind == NameKind.free)=false:=by simpa using hk
   simp only[hb,Fm,if_false]
noncomputable def bw (X:Cx)(N':ar)(scope:Scope)(cl:ah)(C:Addr)(s:Shared)(H:Hp)(fp:am)(E:Value->Shared->Prop):Cx:=
 { X with N:=N',s₀:=s,H₀:=H,env:=compEnvC scope cl C X.env,outer:=X.stack,stack:=X.stack,ex:=fp,fn:=λx=>scope.names.lookup x == some .cell,pn:=[],xe:=E }
noncomputable def compOk (sc:Scope)(N N':ar)(caps:List aC)(scope:Scope):Bool:=
 scope.kind == .function&&scope.names.all (λy=>(y.2 != .cell||scope.names.lookup y.1 == some .cell)&&(y.2 != .local||scope.names.lookup y.1 == some .local)&&(y.2 != .free||(sc.names.lookup y.1 == some .cell||sc.names.lookup y.1 == some .free))) &&
 caps.length == N'.length&&decide N'.Nodup&&(caps.zip N').all λp=>match p.1 with
  | none=>true
  | some j=>N[j]? == some p.2&&scope.names.lookup p.2 == some .free
structure CompS (sc:Scope)(N N':ar)(caps:List aC)(scope:Scope):Prop where
 kind:scope.kind=.function
 cells:∀y∈scope.names,y.2=.cell->scope.names.lookup y.1=some .cell
 locs:∀y∈scope.names,y.2=.local->scope.names.lookup y.1=some .local
 free:∀y∈scope.names,y.2=.free->sc.names.lookup y.1=some .cell\/sc.names.lookup y.1=some .free
 len:caps.length=N'.length
 nd:N'.Nodup
 cap:∀(i j:Nat) (x:Str),caps[i]? = some (some j)->N'[i]? = some x->N[j]? = some x/\scope.names.lookup x=some .free
def CompS.of {sc:Scope}{N N':ar}{caps:List aC}{scope:Scope}(h:compOk sc N N' caps scope=true):CompS sc N N' caps scope:=by
 unfold compOk at h;simp only[tw,List.all_eq_true,Fi,Fw] at h;obtain⟨⟨⟨⟨hk,hn⟩,hl⟩,hnd⟩,hc⟩:=h;refine⟨?_,λy hy e=>?_,λy hy e=>?_,λy hy e=>?_,hl,hnd,λi j x h1 h2=>?_⟩
 .cases hh:scope.kind <;> rw[hh] at hk <;> first | rfl | (exact absurd hk (by decide))
 .have:=(hn y hy).1.1;rw[e] at this;simpa using this
 .have:=(hn y hy).1.2;rw[e] at this;simpa using this
 .have:=(hn y hy).2;rw[e] at this;simpa using this
 .have hz:(caps.zip N')[i]? = some (some j,x):=by rw[List.getElem?_zip_eq_some]; exact⟨h1,h2⟩
  have:=hc _ (FN hz);simpa using this
noncomputable def iq (σ:St):aC->Option V
 | none=>none
 | some j=>(σ[j]?).join
section
variable {prog:Program}{w:World}{A:Around}{R:Result->Shared->Prop}{s:Shared}
theorem D0 {elt target iter:Expr}{ifs:au}{scope:Scope}{pos:Pos}{it acc:Value}{env:Env}(I:Nat->Shared->Prop)
  (turn:∀n s,I n s->wpAny (model prog w) A (pyNext it) (λr s₁=>match r with
   | none=>R (.ok .next) s₁
   | some v=>wpAny (model prog w) A (letOwnedTupleGo target it v) (λ_ s₀=>wpAny (model prog w) A (assign target env v) (λ_ s₂=>
     wpAny (model prog w) A (forIn ifs true λc r=>if r=true then do let ok <-isTrue c env (eval c env); pure (ForInStep.yield ok) else pure (ForInStep.yield r)) (λok s₃=>
      if ok=true then wpAny (model prog w) A (eval elt env) (λx s₄=>
       wpAny (model prog w) A (call (.builtin "list.append") [acc,x]) (λ_ s₅=>∃m,m<n/\I m s₅) (notedBy (model prog w) A env λe s'=>R (.error e) s') s₄) (notedBy (model prog w) A env λe s'=>R (.error e) s') s₃
      else ∃m,m<n/\I m s₃) (notedBy (model prog w) A env λe s'=>R (.error e) s') s₂) (notedBy (model prog w) A env λe s'=>R (.error e) s') s₀) (notedBy (model prog w) A env λe s'=>R (.error e) s') s₁) (notedBy (model prog w) A env λe s'=>R (.error e) s') s)
  (n:Nat)(h:I n s) :
  codeAny (model prog w) A (.compLoop (.ListComp elt [⟨target,iter,ifs,0⟩] scope pos) 0 it acc env) R s:=by
 refine codeAny_loop rfl I (λn s hI=>?_) n h;show wpAny _ A ((compTurn (.ListComp elt [⟨target,iter,ifs,0⟩] scope pos) 0 it acc env).onRaise (λx=>do noteFrame x env; theTreesLotGoes x)) _ _ s;refine wpAny_noted ?_;rw[compTurn_list];refine aM (Ij (aM (FU (turn n s hI) (λr s₁ h₁=>?_) λ_ _ h'=>h')));cases r with
 | none=>exact bg h₁
 | some v=>
  refine aM (FU h₁ (λ_ s₀ h₀=>?_) λ_ _ h'=>h');refine aM (FU h₀ (λ_ s₂ h₂=>aM (FU h₂ (λok s₃ h₃=>?_) λ_ _ h'=>h')) λ_ _ h'=>h');cases ok with
  | false=>exact bg ⟨rfl,h₃⟩
  | true=>
   exact aM (aM (FU h₃ (λx s₄ h₄=>aM (FU h₄ (λ_ s₅ h₅=>bg (bg ⟨rfl,h₅⟩)) λ_ _ h'=>h')) λ_ _ h'=>h'))
end
def PTs (X:Cx)(ifs:au)(t:TT):Prop:=
 ∀(pins:af) (s:Shared) (σ:St) (H:Hp) (Q:Bool->Hp->Prop),Inv X pins σ H s->t σ H Q ->
  wpAny (model X.prog X.w) X.A (forIn ifs true λc r=>if r=true then do let ok <-isTrue c X.env (eval c X.env); pure (ForInStep.yield ok) else pure (ForInStep.yield r)) (TP X pins σ Q) X.xe s
def gL:TT:=λ_ H Q=>Q true H
def xI {X:Cx}:PTs X [] gL:=λ_ _ _ H _ I h=>wpAny_tests_nil ⟨H,I,h⟩
def CY {X:Cx}{c:Expr}{t:TT}(h:PT X c t):PTs X [c] t:=λpins s σ H Q I hq=>wpAny_tests_one (h pins s σ H Q I hq)
theorem PTs.nox {X:Cx}{ifs:au}{t:TT}(h:PTs X.nox ifs t):PTs X ifs t:=λpins s σ H Q I hw=>
 FU (h pins s σ H Q (I.wish _) hw) (λ_ _ ⟨H',I',q⟩=>⟨H',I'.unwish,q⟩) λ_ _ f=>f.elim
theorem PG.nox {X:Cx}{tg:Expr}{t:TG}(h:PG X.nox tg t):PG X tg t:=λpins s σ H v u Q I r hw=>
 FU (h pins s σ H v u Q (I.wish _) r hw) (λ_ _ ⟨σ',H',I',q⟩=>⟨σ',H',I'.unwish,q⟩) λ_ _ f=>f.elim
def iT (J:It)(l:Addr)(g:TG)(tt:TT)(te:TE)(Q:VK)(σ0:St)(H:Hp):Prop:=
 ∃W:Nat->Nat->av->St->Hp->Prop,(∃m,W 0 m [] σ0 (upd H l (.lst [])))/\∀i m ys σ H,W i m ys σ H ->
  (J.stop i H/\Q (.ref l) H)\/(J.go i H/\∃N:av->St->Hp->Prop,(∀ys σ' H',N ys σ' H'->∃m',m'<m/\W (i+1) m' ys σ' H') /\
   ∀x H',J.yld i H x H'->g x σ H' λσ2 H3=>tt σ2 H3 λc H4=>if c=true then te σ2 H4 λv H5=>∃ys',H5 l=some (.lst ys')/\ys'.length<sizeLine/\N (ys'++[v]) σ2 (upd H5 l (.lst (ys'++[v]))) else N ys σ2 H4)
def fV (wi:TI)(caps:List aC)(g:TG)(tt:TT)(te:TE):TE:=λσ H Q=>wi σ H λJ H1=>∀l,H1 l=none->iT J l g tt te Q (caps.map (iq σ)) H1
section
variable {X:Cx}{elt iter tg:Expr}{ifs:au}{scope:Scope}{pos:Pos}{wi:TI}{g:TG}{tt:TT}{te:TE}{N':ar}{caps:List aC}
def pA {scope:Scope}{env:Env}{x:Str} :
  ∀k,(relabel scope env).names.lookup x=some k->scope.names.lookup x=some k\/(k=.cell/\scope.names.lookup x=some .free):=by
 have go:∀(g:Str×NameKind->Str×NameKind),(∀p,g p=p\/(p.2=.free/\g p=(p.1,.cell)))->∀(names:List (Str×NameKind)) k,(names.map g).lookup x=some k->names.lookup x=some k\/(k=.cell/\names.lookup x=some .free):=by
  intro g hg names;induction names with
  | nil=>intro k h; exact nomatch h
  | cons p r ih=>
   intro k h;rw[Fh] at h;obtain⟨n,kn⟩:=p;rcases hg (n,kn) with e | ⟨e1,e2⟩
   .rw[e,List.lookup_cons] at h;rw[List.lookup_cons];cases hx:x == n with
    | true=>rw[hx] at h; exact .inl h
    | false=>rw[hx] at h; exact ih k h
   .rw[e2,List.lookup_cons] at h;rw[List.lookup_cons];cases hx:x == n with
    | true=>
     rw[hx] at h;have e1':kn=.free:=e1;rw[e1'];exact .inr ⟨(cy h).symm,rfl⟩
    | false=>rw[hx] at h; exact ih k h
 refine go _ (λp=>?_) scope.names;obtain⟨n,k⟩:=p;by_cases hb:(k == NameKind.free&&env.scope.kind == .function&&env.kindOf n == some .cell)=true
 .refine .inr ⟨?_,if_pos hb⟩;simp only[tw,Fi] at hb;exact hb.1.1
 .exact .inl (if_neg hb)
theorem nU {x:Str}:∀(names:List (Str×NameKind)) (n:Nat) (acc:ah),(∀y∈names,y.2=.cell->y.1≠x)->(cellsFrom n names acc).lookup x=acc.lookup x
 | [],_,_,_=>rfl
 | (m,k)::r,n,acc,h=>by
  have hr:=λy hy=>h y (bU _ hy);unfold cellsFrom;split
  .rename_i hk;rw[nU r _ _ hr,List.lookup_cons,show (x == m)=false from by simpa using λe=>h (m,k) Gh (by simpa using hk) (Eq.symm e)]
  .exact nU r n acc hr
theorem rQ {x:Str}{lo:Nat}:∀(names:List (Str×NameKind)) (n:Nat) (acc:ah),lo<=n->(∃c,acc.lookup x=some c/\lo<=c)->∃c,(cellsFrom n names acc).lookup x=some c/\lo<=c
 | [],_,_,_,h=>h
 | (m,k)::r,n,acc,hn,h=>by
  unfold cellsFrom;split
  .refine rQ r (n+1) _ (by omega) ?_;rw[List.lookup_cons];cases x == m with
   | true=>exact⟨n,rfl,hn⟩
   | false=>exact h
  .exact rQ r n acc hn h
theorem oN {x:Str}{lo:Nat}:∀(names:List (Str×NameKind)) (n:Nat) (acc:ah),lo<=n->(x,NameKind.cell)∈names->∃c,(cellsFrom n names acc).lookup x=some c/\lo<=c
 | (m,k)::r,n,acc,hn,h=>by
  unfold cellsFrom;rcases cu h with e | h
  .cases e;rw[if_pos (by decide)];refine rQ r (n+1) _ (by omega) ⟨n,?_,hn⟩;rw[List.lookup_cons]; simp
  .split
   .exact oN r _ _ (by omega) h
   .exact oN r _ _ hn h
structure CfOk (P:Str->Addr->Prop)(lo:Nat)(h:Heap)(cs:ah):Prop where
 src:∀x c,cs.lookup x=some c->P x c\/(lo<=c/\h.IsCell c none)
 inj:∀x y c,cs.lookup x=some c->cs.lookup y=some c->x=y
 lt:∀x c,cs.lookup x=some c->c<h.objs.size
theorem pC {P:Str->Addr->Prop}{lo:Nat}:∀(names:List (Str×NameKind)) (h:Heap) (acc:ah),lo<=h.objs.size->CfOk P lo h acc->CfOk P lo (pushCells h names) (cellsFrom h.objs.size names acc)
 | [],_,_,_,x=>x
 | (m,k)::r,h,acc,hlo,x=>by
  unfold pushCells cellsFrom;split
  .have:=pC (P:=P) (lo:=lo) r (h.push { cls:=.type "cell",data:=.cell none }) ((m,h.objs.size)::acc) (by rw[Fq]; omega) ⟨λy c e=>?_,λy z c e e'=>?_,λy c e=>?_⟩
   .rwa [Fq] at this
   .rw[List.lookup_cons] at e;cases hy:y == m with
    | true=>rw[hy] at e; cases e; exact .inr ⟨hlo,_,dD _ rfl,rfl⟩
    | false=>rw[hy] at e; exact (x.src y c e).imp id λq=>⟨q.1,q.2.keeps λb o e=>bV _ e⟩
   .rw[List.lookup_cons] at e e';cases hy:y == m with
    | true=>
     rw[hy] at e; cases e;cases hz:z == m with
     | true=>rw[Fi] at hy hz; rw[hy,hz]
     | false=>rw[hz] at e'; exact absurd (x.lt z _ e') (F6 _)
    | false=>
     rw[hy] at e;cases hz:z == m with
     | true=>rw[hz] at e'; cases e'; exact absurd (x.lt y _ e) (F6 _)
     | false=>rw[hz] at e'; exact x.inj y z c e e'
   .rw[Fq];rw[List.lookup_cons] at e;cases hy:y == m with
    | true=>rw[hy] at e; cases e; exact Gp _
    | false=>rw[hy] at e; exact Gm (x.lt y c e)
  .exact pC r h acc hlo x
structure CsOk (X:Cx)(scope:Scope)(n:Nat)(h:Heap)(cs:ah):Prop where
 src:∀x c,cs.lookup x=some c->X.env.cells.lookup x=some c\/(n<=c/\h.IsCell c none)
 inj:∀x y c,cs.lookup x=some c->cs.lookup y=some c->x=y
 has:∀x,(scope.names.lookup x=some .cell\/scope.names.lookup x=some .free)->∃c,cs.lookup x=some c
 fr:∀x c,scope.names.lookup x=some .free->cs.lookup x=some c->X.env.cells.lookup x=some c
 own:∀x c,scope.names.lookup x=some .cell->cs.lookup x=some c->n<=c
def CsOk.mk' {X:Cx}{sc:Scope}{N N':ar}{caps:List aC}{scope:Scope}{pins:af}{σ:St}{H:Hp}{s:Shared}{cl:ah}{c0:Value}(S:CompS sc N N' caps scope)(I:Inv X pins σ H s)
  (h1:∀x c,cl.lookup x=some c->X.env.cells.lookup x=some c)(h2:∀y∈scope.names,y.2=NameKind.free->∃c,cl.lookup y.1=some c) :
  CsOk X scope s.heap.objs.size (pushCells (s.heap.push { cls:=c0,data:=.dict #[] }) scope.names) (cellsFrom (s.heap.objs.size+1) scope.names cl):=by
 have ok:=pC (P:=λx c=>X.env.cells.lookup x=some c) (lo:=s.heap.objs.size) scope.names (s.heap.push { cls:=c0,data:=.dict #[] }) cl (by rw[Fq]; omega)
  ⟨λx c e=>.inl (h1 x c e),λx y c e e'=>I.ok.inj x y c (h1 x c e) (h1 y c e'),λx c e=>by
   obtain⟨v,o,ho,_⟩:=I.cell x c (h1 x c e);rw[Fq];exact Gm (bM ho)⟩
 rw[Fq] at ok;have nf:∀x,scope.names.lookup x=some .free->∀y∈scope.names,y.2=.cell->y.1≠x:=λx e y hy hk z=>by
  have:=S.cells y hy hk;rw[z,e] at this; cases this
 refine⟨ok.src,ok.inj,λx h=>?_,λx c e h=>?_,λx c e h=>?_⟩
 .rcases h with e | e
  .obtain⟨c,q,_⟩:=oN (lo:=0) scope.names (s.heap.objs.size+1) cl (Fy _) (FQ e);exact⟨c,q⟩
  .obtain⟨c,q⟩:=h2 _ (FQ e) rfl;exact⟨c,(nU _ _ _ (nf x e)).trans q⟩
 .rw[nU _ _ _ (nf x e)] at h;exact h1 x c h
 .obtain⟨c',q,l⟩:=oN (lo:=s.heap.objs.size) scope.names (s.heap.objs.size+1) cl (F8 _) (FQ e);rw[h] at q; cases q;exact l
def CO {M:Model}{A:Around}{E:Value->Shared->Prop}{s:Shared}{scope:Scope}{globals:Addr}{closure:ah}{qual:Str}{around:Env}{Q:Env->Shared->Prop}
  (h:Q (newEnv scope s.heap.objs.size globals (cellsFrom (s.heap.objs.size+1) scope.names closure) qual none .none (some around) builtinsNs) { s with heap:=pushCells (s.heap.push { cls:=.type "dict",data:=.dict #[] }) scope.names }) :
  wpAny M A (newFunctionEnv scope globals closure [] qual none .none (some around)) Q E s:=by
 simp only[newFunctionEnv,Option.isSome_some,if_true];refine aM (wpAny_alloc ?_);refine aM (wpAny_layCells _ (λname kind cells=>by cases hkc:kind == NameKind.cell <;> simp[hkc]) _ _ _ _ ?_);rw[show ({ s with heap:=s.heap.push { cls:=.type "dict",data:=.dict #[] } }:Shared).heap.objs.size=s.heap.objs.size+1 from Fq ..];exact aM (bg (bg h))
def zg {pins:af}{σ:St}{H:Hp}{s:Shared}{cl:ah}{fp:am}{C:Addr}(E:Value->Shared->Prop)(S:CompS X.env.scope X.N N' caps scope)(I:Inv X pins σ H s)(hC:s.heap.objs.size<=C)
  {h1:Heap}(O:CsOk X scope s.heap.objs.size h1 cl)(hf:∀b∈fp,c8 X pins H b/\b<s.heap.objs.size) :
  (bw X N' scope cl C s H fp E).Ok where
 mod:=I.ok.mod
 kind:=S.kind
 glob:=I.ok.glob
 blt:=I.ok.blt
 above:=hC
 inj:=O.inj
 has:=λx hx=>by
  have hx':(relabel scope X.env).names.lookup x=some .cell\/(relabel scope X.env).names.lookup x=some .free:=hx;refine O.has x ?_;rcases hx' with q | q
  .exact (pA _ q).imp id λz=>z.2
  .rcases pA _ q with z | z
   .exact .inr z
   .exact absurd z.1 (by decide)
 cab:=λx c z e=>O.own x c (by
  have z':(scope.names.lookup x == some NameKind.cell)=true:=z;simpa using z') e
 hd:=I.ok.hd
 frames:=I.ok.frames
 stk:=.inl rfl
 exf:=λb hb=>⟨cY (dX (hf b hb).2 hC),λx c e=>(O.src x c e).elim (λq=>(hf b hb).1.2.2.2.2.1 x c q) λq z=>absurd (z ▸ (hf b hb).2) (Nat.not_lt.mpr q.1)⟩
 bs:=I.bs
 bsz:=b8 I.ok.bsz I.sz
 noex:=λb o e hb=>by
  rcases (hf b hb).1.2.2.2.1 with z | z
  .exact I.ok.noex b o e z
  .exact absurd (dX (bM e) (b8 I.ok.bsz z)) (F6 _)
 exfs:=λb hb z=>by
  rcases cu (I.stkSub b z) with e | e
  .exact (hf b hb).1.2.1 e
  .exact (hf b hb).1.2.2.1 e
 funs:=I.stack
 frf:=I.stkFree
def Ad {pins:af}{σ:St}{H:Hp}{s:Shared}{cl:ah}{fp:am}{h1:Heap}{tk:Nat}{m:Str->aA}(E:Value->Shared->Prop)(S:CompS X.env.scope X.N N' caps scope)(I:Inv X pins σ H s)
  (O:CsOk X scope s.heap.objs.size h1 cl)(hf:∀b∈fp,c8 X pins H b/\b<s.heap.objs.size)
  (hns:h1.Ns s.heap.objs.size m)(hk:∀b o,s.heap.get? b=some o->h1.get? b=some o) :
  Inv (bw X N' scope cl s.heap.objs.size s H fp E) [] (caps.map (iq σ)) H { s with heap:=h1,toks:=tk } where
 ok:=zg E S I (bD _) O hf
 os:=rfl
 bare:=I.bare
 base:=Un.kept hk
 loc:=by
  refine⟨m,hns,λi x v e1 e2 e3=>?_⟩;rw[Fv] at e2;cases ec:caps[i]? with
  | none=>rw[ec] at e2; cases e2
  | some oc=>
   rw[ec] at e2;cases oc with
   | none=>cases e2
   | some j=>
    have e2':(σ[j]?).join=some v:=cy e2;have e4:σ[j]? = some (some v):=by
     cases q:σ[j]? with
     | none=>rw[q] at e2'; cases e2'
     | some o=>rw[q] at e2'; cases o with
      | none=>cases e2'
      | some v'=>cases e2'; rfl
    obtain⟨hN,hfr⟩:=S.cap i j x ec e1;have hkd:X.env.kindOf x=some .cell\/X.env.kindOf x=some .free:=S.free _ (FQ hfr) rfl;obtain⟨m0,_,hl⟩:=I.loc;obtain⟨u,r,l⟩:=hl j x v hN e4 (hkd.elim (λz=>.inr (.inl z)) λz=>.inr (.inr z));refine⟨u,r,?_⟩;rcases l with ⟨z,_⟩ | ⟨_,c,hc,hcell⟩
    .rcases hkd with q | q <;> rw[q] at z <;> cases z
    .obtain⟨c',hc'⟩:=O.has x (.inr hfr);have:c'=c:=by
      have:=O.fr x c' hfr hc';rw[hc] at this; exact (cy this).symm
     subst this;have e3':(relabel scope X.env).names.lookup x=some .local\/(relabel scope X.env).names.lookup x=some .cell\/(relabel scope X.env).names.lookup x=some .free:=e3;refine .inr ⟨?_,c',hc',?_⟩
     .rcases e3' with q | q | q
      .rcases pA _ q with z | z
       .rw[hfr] at z; cases z
       .exact absurd z.1 (by decide)
      .exact .inl q
      .exact .inr q
     .obtain⟨o,ho,hd⟩:=hcell;exact⟨o,hk _ o ho,hd⟩
 cell:=λx c e=>by
  rcases O.src x c e with q | q
  .obtain⟨v,o,ho,hd⟩:=I.cell x c q;exact⟨v,o,hk _ o ho,hd⟩
  .exact⟨none,q.2⟩
 free:=I.hok.fresh (bD _)
 freeC:=λx c e=>(O.src x c e).elim (I.freeC x c) λq=>I.hok.fresh q.1
 pin:=λp hp=>absurd (show p∈([]:af) from hp) (by simp)
 hok:=I.hok.kept hk
 len:=by rw[Fg]; exact S.len
def vh {pins:af}{σ:St}{H:Hp}{s:Shared}{cl:ah}{it:Addr}{fp:am}{tn:Nat->Heap->Prop}{J:It}{Q:VK}{RR:Value->Addr->Result->Shared->Prop}
  (hc:X.calm=true)(S:CompS X.env.scope X.N N' caps scope)(I:Inv X pins σ H s)
  (c1:∀x c,cl.lookup x=some c->X.env.cells.lookup x=some c)(c2:∀y∈scope.names,y.2=NameKind.free->∃c,cl.lookup y.1=some c)
  (T:Turn X.prog X.w X.K tg J fp it tn)(t0:tn 0 s.heap)(hf:∀b∈fp,c8 X pins H b)
  (hg:∀cl C s H fp,PG (bw X N' scope cl C s H fp λ_ _=>False) tg g)(ht:∀cl C s H fp,PTs (bw X N' scope cl C s H fp λ_ _=>False) ifs tt)(he:∀cl C s H fp,PE (bw X N' scope cl C s H fp λ_ _=>False) elt te)
  (hw:∀l,H l=none->iT J l g tt te Q (caps.map (iq σ)) H)
  (hR:∀l C s' H' m,Inv X pins σ H' s'->c8 X pins H' C->s'.heap.Ns C m->Q (.ref l) H'->RR (.ref l) C (.ok .next) s') :
  wpAny (model X.prog X.w) X.A (newList []) (λacc s₃=>wpAny (model X.prog X.w) X.A (newFunctionEnv scope X.env.globals cl [] X.env.qual none .none (some X.env)) (λcenv s₄=>
   codeAny (model X.prog X.w) X.A (.compStart (.ListComp elt [⟨tg,iter,ifs,0⟩] scope pos) 0 (.ref it) acc { cenv with scope:=relabel scope X.env }) (RR acc cenv.locals) s₄) X.xe s₃) X.xe s:=by
 refine FF (CO ?_);dsimp only;have I3:Inv X pins σ (upd H s.heap.objs.size (.lst [])) { s with heap:=s.heap.push { cls:=.type "list",dict:=none,data:=.seq ([]:List Value).toArray } }:=
  I.laid (t':=s.toks) (λb u e=>bV _ e) (bD _) ⟨Fy _,[],0,.nil,dD _ rfl⟩
 have hl0:H s.heap.objs.size=none:=I.hok.fresh (bD _);have lt0:∀b∈fp,b<s.heap.objs.size:=λb hb=>by
  obtain⟨o,e,_⟩:=T.obj 0 _ t0 b hb;exact bM e
 obtain⟨W,⟨m0,w0⟩,turn⟩:=hw s.heap.objs.size hl0;generalize hH2:s.heap.push { cls:=.type "list",dict:=none,data:=.seq ([]:List Value).toArray }=H2 at I3 ⊢;have hC:H2.objs.size=s.heap.objs.size+1:=by rw[<-hH2,Fq]
 have O:=CsOk.mk' (c0:=.type "dict") S I3 c1 c2;have hns₁:(pushCells (H2.push { cls:=.type "dict",data:=.dict #[] }) scope.names).Ns H2.objs.size λ_=>none:=(Heap.Ns.new H2 (.type "dict")).keeps (pushCells_keeps _ _);have old:∀b o,H2.get? b=some o->(pushCells (H2.push { cls:=.type "dict",data:=.dict #[] }) scope.names).get? b=some o:=λb o e=>pushCells_keeps _ _ b o (bV _ e);dsimp only at O;generalize pushCells (H2.push { cls:=.type "dict",data:=.dict #[] }) scope.names=h₁ at O hns₁ old ⊢;generalize hcs:cellsFrom (H2.objs.size+1) scope.names cl=cs at O ⊢;have old0:∀b o,s.heap.get? b=some o->h₁.get? b=some o:=λb o e=>old b o (hH2 ▸ bV _ e);have hf3:∀b∈fp,c8 X pins (upd H s.heap.objs.size (.lst [])) b/\b<H2.objs.size:=λb hb=>
  ⟨⟨by rw[bK (G9 (lt0 b hb))]; exact (hf b hb).1,(hf b hb).2⟩,by rw[hC]; exact Gm (lt0 b hb)⟩
 have Er:Value->Shared->Prop:=notedBy (model X.prog X.w) X.A (compEnvC scope cs H2.objs.size X.env) λe s'=>RR (.ref s.heap.objs.size) H2.objs.size (.error e) s';have loop:∀s₃:Shared,s₃={ s with heap:=h₁,toks:=s.toks } ->
   codeAny (model X.prog X.w) X.A (.compLoop (.ListComp elt [⟨tg,iter,ifs,0⟩] scope pos) 0 (.ref it) (.ref s.heap.objs.size) (compEnvC scope cs H2.objs.size X.env))
    (RR (.ref s.heap.objs.size) H2.objs.size) s₃:=by
  rintro s₃ rfl;have I4:=Ad (N':=N') (caps:=caps) (tk:=s.toks) (notedBy (model X.prog X.w) X.A (compEnvC scope cs H2.objs.size X.env) λe s'=>RR (.ref s.heap.objs.size) H2.objs.size (.error e) s') S I3 O hf3 hns₁ old;generalize hX':bw X N' scope cs H2.objs.size { s with heap:=H2 } (upd H s.heap.objs.size (.lst [])) fp (notedBy (model X.prog X.w) X.A (compEnvC scope cs H2.objs.size X.env) λe s'=>RR (.ref s.heap.objs.size) H2.objs.size (.error e) s')=X' at I4;have hg':PG X' tg g:=by rw[<-hX']; exact PG.nox (hg cs H2.objs.size { s with heap:=H2 } (upd H s.heap.objs.size (.lst [])) fp)
  have ht':PTs X' ifs tt:=by rw[<-hX']; exact PTs.nox (ht cs H2.objs.size { s with heap:=H2 } (upd H s.heap.objs.size (.lst [])) fp)
  have he':PE X' elt te:=by rw[<-hX']; exact PE.nox (he cs H2.objs.size { s with heap:=H2 } (upd H s.heap.objs.size (.lst [])) fp)
  have eP:X'.prog=X.prog:=by rw[<-hX']; rfl
  have eW:X'.w=X.w:=by rw[<-hX']; rfl
  have eK:X'.K=X.K:=by rw[<-hX']; rfl
  have eA:X'.A=X.A:=by rw[<-hX']; rfl
  have eC:X'.calm=true:=by rw[<-hX']; exact hc
  have eE:X'.env=compEnvC scope cs H2.objs.size X.env:=by rw[<-hX']; rfl
  have eX:X'.xe=notedBy (model X.prog X.w) X.A (compEnvC scope cs H2.objs.size X.env) λe s'=>RR (.ref s.heap.objs.size) H2.objs.size (.error e) s':=by rw[<-hX']; rfl
  have stat:∀{H':Hp},(∀b∈fp,H' b=none)->∀b∈fp,c8 X' [] H' b:=λ{H'} hn b hb=>by
   obtain⟨f0,f1,f2,f3,f4,f5⟩:=hf b hb;refine⟨hn b hb,?_,?_,.inl ?_,λx c e=>?_,λp hp=>?_⟩
   .rw[eE]; exact cY (by show b<H2.objs.size; rw[hC]; exact Gm (lt0 b hb))
   .intro z;have z':b∈fA X.stack:=by rw[<-hX'] at z; exact z
    rcases cu (I.stkSub b z') with e | e
    .exact f1 e
    .exact f2 e
   .rw[<-hX']; exact hb
   .rw[eE] at e; exact (O.src x c e).elim (f4 x c) λq z=>absurd (z ▸ lt0 b hb) (Nat.not_lt.mpr (b8 (by rw[hC]; exact F8 _) q.1))
   .have:p∈([]:af):=by rw[<-hX'] at hp; exact hp
    exact absurd this (by simp)
  refine D0 (λn s'=>∃i ys σ' H',Inv X' [] σ' H' s'/\tn i s'.heap/\(∀b∈fp,H' b=none)/\W i n ys σ' H') ?_ m0
   ⟨0,[],_,_,I4,T.keep 0 _ _ t0 λb _ o e=>old0 b o e,λb hb=>(hf3 b hb).1.1,w0⟩
  rintro n s5 ⟨i,ys,σ5,H5,I5,tn5,fr5,w5⟩;rw[<-eX];rcases turn i n ys σ5 H5 w5 with ⟨stop,q⟩ | ⟨go,N,hN,step⟩
  .have d:=T.done X' eP eW eK eC i [] s5 σ5 H5 X'.xe I5 (stat fr5) tn5 stop;rw[eA] at d;refine bh d λr s6 hZz=>?_;obtain⟨hr,I6⟩:=hZz;subst hr;have u:Un (fA X.stack) fp (upd H s.heap.objs.size (.lst [])) H5 H2 s6.heap:=by
    have:=I6.base;rw[<-hX'] at this; exact this
   have hok6:HOk X.prog X.w H5 s6.heap:=by have:=I6.hok; rw[eP,eW] at this; exact this
   have os6:s6.os=s.os:=by have:=I6.os; rw[<-hX'] at this; exact this
   have I7:Inv X pins σ H5 s6:=I3.call' (ch:=fp) os6 u hok6 I6.bare λb hb=>by
    obtain⟨f0,f1,f2,f3,f4,f5⟩:=hf b hb;exact⟨f3,f1,f4,f5⟩
   obtain⟨m6,n6,_⟩:=I6.loc;have fC:H5 H2.objs.size=none:=by have:=I6.free; rw[eE] at this; exact this
   rw[eE] at n6;exact hR _ _ s6 H5 m6 I7 (I3.fpOk (bD _) fC) n6 q
  .have d:=T.item X' eP eW eK eC i [] s5 σ5 H5 X'.xe I5 (stat fr5) tn5 go;rw[eA] at d;refine bh d λr s6 hZz=>?_;obtain⟨u,hr,h6⟩:=hZz;subst hr;refine bh h6 λ_ s7 hZz=>?_;obtain⟨x,H7,I7,r7,y7,tn7,fr7⟩:=hZz;have I7':=I7.pinned (stat fr7) (T.obj _ _ tn7);have ag:=hg' _ s7 σ5 H7 x u _ I7' r7 (step x H7 y7);rw[eP,eW,eA,eE] at ag;refine bh ag λ_ s8 hZz=>?_;obtain⟨σ8,H8,I8,q8⟩:=hZz;have at':=ht' _ s8 σ8 H8 _ I8 q8;rw[eP,eW,eA,eE] at at';have again:∀{s9:Shared} {σ9:St} {H9:Hp} {ys9:av},Inv X' ([]++dr fp s7.heap) σ9 H9 s9->N ys9 σ9 H9->∃m,m<n/\∃i ys σ' H',Inv X' [] σ' H' s9/\tn i s9.heap/\(∀b∈fp,H' b=none)/\W i m ys σ' H':=λ{s9 σ9 H9 ys9} I9 n9=>by
    obtain⟨m',hm,w9⟩:=hN ys9 σ9 H9 n9;refine⟨m',hm,i+1,ys9,σ9,H9,I9.unpinned,T.keep _ _ _ tn7 λb hb o e=>(I9.pin (b,o) (cr _ (cr _ (lm hb e)))).1,λb hb=>?_,w9⟩;obtain⟨o,e,dd⟩:=T.obj _ _ tn7 b hb;exact (I9.pin (b,o) (cr _ (cr _ (lm hb e)))).2.1
   refine bh at' λok s9 hZz=>?_;obtain⟨H9,I9,q9⟩:=hZz;cases ok with
   | false=>
    rw[if_neg (by decide)] at q9 ⊢;exact again I9 q9
   | true=>
    rw[if_pos rfl] at q9 ⊢;have ae:=he' _ s9 σ8 H9 _ I9 q9;rw[eP,eW,eA,eE] at ae;refine bh ae λy s10 hZz=>?_;obtain⟨v,H10,I10,r10,q10⟩:=hZz;obtain⟨ys',hy,hz,hn⟩:=q10;have aa:=wz (X:=X') _ s10 σ8 H10 (.ref s.heap.objs.size) [v] (.ref s.heap.objs.size) [y] (λ_ H'=>N (ys'++[v]) σ8 H') I10 rfl (.cons r10 .nil) ⟨_,ys',v,rfl,rfl,hy,hz,hn⟩;rw[eP,eW,eA] at aa;exact bh aa λ_ s11 ⟨_,H11,I11,_,q11⟩=>again I11 q11
 exact codeAny_compStart_list (loop _ rfl) (T.self _ 0 _ _ _ (T.keep 0 _ _ t0 λb _ o e=>old0 b o e) (loop _ rfl))
def xW (hc:X.calm=true)(hS:compOk X.env.scope X.N N' caps scope=true)(hi:PI X tg iter wi)
  (hg:∀cl C s H fp,PG (bw X N' scope cl C s H fp λ_ _=>False) tg g)(ht:∀cl C s H fp,PTs (bw X N' scope cl C s H fp λ_ _=>False) ifs tt)(he:∀cl C s H fp,PE (bw X N' scope cl C s H fp λ_ _=>False) elt te)
  (hs:∀x,foldedSetIterable iter X.env x=pure x:=by intro _; rfl) :
  PE X (.ListComp elt [⟨tg,iter,ifs,0⟩] scope pos) (fV wi caps g tt te):=by
 intro pins s σ H Q I h;have S:=CompS.of hS;obtain⟨cl,hcl,c1,c2⟩:=vn (scope:=scope) (env:=X.env) λy hy hyf=>I.ok.has y.1 (S.free y hy hyf);rw[eval_ListComp];refine wpAny_comprehension_free (use:=none) rfl hs hcl S.kind S.locs (bh (hi pins s σ H _ I h) λv s1 h1=>bh h1 λitv s2 h2=>?_);obtain⟨it,fp,tn,J,H2,rfl,I2,T,t0,f2,hw⟩:=h2;refine vh (RR:=λacc C=>compPost (model X.prog X.w) X.A X.xe none (EP X pins σ Q) acc C) hc S I2 c1 c2 T t0 f2 hg ht he hw ?_;intro l C s' H' m I' fC hn q;refine⟨m,hn,λh' hs'=>?_⟩;obtain⟨f0,f1,f3,f4,f5,f6⟩:=fC;have I'':Inv X pins σ H' { s' with heap:=h' }:=I'.turned (t':=s'.toks) (it:=C) (λb o hb e=>hs'.extBut b o hb e) f0 f1 f4 f5 f6;exact⟨.ref l,H',I'',rfl,q⟩
def Ek {i:Nat}{x:Str}{pos' spos:Pos}(hc:X.calm=true)(hS:compOk X.env.scope X.N N' caps scope=true)(hN:X.N.Nodup)(hx:X.N[i]? = some x)(hl:Loc X.env.scope x)(hi:PI X tg iter wi)
  (hg:∀cl C s H fp,PG (bw X N' scope cl C s H fp λ_ _=>False) tg g)(ht:∀cl C s H fp,PTs (bw X N' scope cl C s H fp λ_ _=>False) ifs tt)(he:∀cl C s H fp,PE (bw X N' scope cl C s H fp λ_ _=>False) elt te)
  (hsw:swapsWith (.ListComp elt [⟨tg,iter,ifs,0⟩] scope pos) (some (.Name x pos')) spos.line X.env=pure true)(hf:X.fn x=true\/X.env.scope.names.lookup x=some .local:=by first | exact .inl rfl | exact .inr rfl | assumption)
  (hs:∀x,foldedSetIterable iter X.env x=pure x:=by intro _; rfl) :
  PS X (.Assign [.Name x pos'] (.ListComp elt [⟨tg,iter,ifs,0⟩] scope pos) spos) (gI (fV wi caps g tt te) (dH i)):=by
 intro pins s σ H D I h;have S:=CompS.of hS;obtain⟨cl,hcl,c1,c2⟩:=vn (scope:=scope) (env:=X.env) λy hy hyf=>I.ok.has y.1 (S.free y hy hyf);rw[exec_Assign_Name_used _ _ _ _ hsw];refine aM (Ij (aM ?_));show wpAny _ X.A (do let _ <-comprehension (.ListComp elt [⟨tg,iter,ifs,0⟩] scope pos) scope X.env _ (newList []) false (eval iter X.env) (some (assign (.Name x pos') X.env))) _ _ s;refine aM (FU (wpAny_comprehension_free (use:=some (assign (.Name x pos') X.env)) (Q:=λ_ s'=>SP X pins D .next s') rfl hs hcl S.kind S.locs
  (bh (hi pins s σ H _ I h) λv s1 h1=>bh h1 λitv s2 h2=>?_)) (λ_ s' hq=>bg (bg hq)) λ_ _ e=>e)
 obtain⟨it,fp,tn,J,H2,rfl,I2,T,t0,f2,hw⟩:=h2;refine vh (RR:=λacc C=>compPost (model X.prog X.w) X.A X.xe (some (assign (.Name x pos') X.env)) (λ_ s'=>SP X pins D .next s') acc C) hc S I2 c1 c2 T t0 f2 hg ht he hw ?_;intro l C s' H' m I' fC hn q;show wpAny _ X.A (assign (.Name x pos') X.env (.ref l)) _ _ s';have oC:=hn;obtain⟨o,es,ep,ho,hd,_⟩:=oC;have I1:Inv X (pins++dr [C] s'.heap) σ H' s':=I'.pinned (fp:=[C]) (λb hb=>by rw[Fc.mp hb]; exact fC) λb hb=>by
  rw[Fc.mp hb];exact⟨o,ho,λv z=>by rw[hd] at z; cases z⟩
 refine bh (qJ (i:=i) hN hx hl hf _ s' σ H' (.ref l) (.ref l) D.nx I1 rfl q) λ_ s2 hZz=>?_;obtain⟨σ2,H2',I2',q2⟩:=hZz;have hC2:s2.heap.get? C=some o:=(I2'.pin (C,o) (cr _ (cr _ (lm (Fc.mpr rfl) ho)))).1;have nC2:H2' C=none:=(I2'.pin (C,o) (cr _ (cr _ (lm (Fc.mpr rfl) ho)))).2.1;have hn2:s2.heap.Ns C m:=by
  obtain⟨o',es',ep',ho',r'⟩:=hn;rw[ho] at ho'; cases ho';exact⟨o,es',ep',hC2,r'⟩
 refine⟨m,hn2,λh' hs'=>?_⟩;obtain⟨f0,f1,f3,f4,f5,f6⟩:=fC;have I'':Inv X pins σ2 H2' { s2 with heap:=h' }:=(I2'.unpinned).turned (t':=s2.toks) (it:=C) (λb o hb e=>hs'.extBut b o hb e) nC2 f1 f4 f5 f6;exact⟨σ2,H2',I'',q2⟩
end
noncomputable def dO (P:Program)(w:World):gC:=λouter H s E e s'=>∃(a T C:Addr) (fs:List (Str×V)) (H':Hp),e=.ref a/\s'.os=s.os/\AllBare s'.gens/\Un (fA outer) [] H H' s.heap s'.heap/\HOk P w H' s'.heap /\
 H' a=some (.exc C false fs)/\Fly s'.heap a T .none/\H' T=none/\s.heap.objs.size<=T/\E (.ref a) none H'
section
variable {X:Cx}{pins:af}{σ:St}{H:Hp}{s:Shared}
def Inv.fsFree (I:Inv X pins σ H s):∀b∈X.fs,H b=none:=λb hb=>by
 obtain⟨_,o,ho,_⟩:=I.ok.funs.mem hb;exact I.base.free b o ho (I.ok.frf b hb) λz=>I.ok.exfs b z hb
def Inv.xstep {a C:Addr}{nw:Bool}{fs:List (Str×V)}{fr ch:am}{h':Heap}(I:Inv X pins σ H s)(ha:H a=some (.exc C nw fs))(st:XStep fr a ch s.heap h')(hfr:∀b∈fr,b=X.env.locals\/b∈X.fs)
  (hch:∀b∈ch,H b=none/\X.s₀.heap.objs.size<=b/\b≠X.env.locals/\(∀x c,X.env.cells.lookup x=some c->c≠b)/\∀p∈X.pn++pins,p.1≠b) :
  Inv X pins σ (upd H a (.exc C false fs)) { s with heap:=h' }:=by
 have aN:∀b,H b=none->b≠a:=λb n z=>by rw[z,ha] at n; cases n
 have frN:∀b∈fr,H b=none:=λb hb=>by
  rcases hfr b hb with z | z
  .rw[z]; exact I.free
  .exact I.fsFree b z
 have tr:∀b o,H b=some o->b∉fr/\b∉ch:=λb o e=>⟨(λz=>by rw[frN b z] at e; cases e),(λz=>by rw[(hch b z).1] at e; cases e)⟩
 have up:∀b o,H b=some o->b≠a->(upd H a (.exc C false fs)) b=some o:=λb o e n=>by rw[bK n]; exact e
 refine I.step (g':=s.gens) (d':=s.drawn) (t':=s.toks) (ch:=ch) (λb hb=>⟨.inr (hch b hb).2.1,(hch b hb).2.2⟩) (λb o n1 n2 n3 e n=>?_) (λb o n1 n2 n3 e n=>?_) (λb o _ _ n=>by rw[bK (aN b n)]; exact n)
  (λb o n3 e=>?_) (λb xs e=>up b _ e λz=>by rw[z,ha] at e; cases e) (λb o u e=>up b _ e λz=>by rw[z,ha] at e; cases e) (λb ps e=>⟨#[],?_⟩) (λm hm=>?_) (λb o e=>?_) I.bare
 .exact st.keep b o e (aN b n) (λz=>(hfr b z).elim n1 n2) n3
 .by_cases z:b∈fr
  .exact st.slot b o e (aN b n) z n3
  .exact⟨o.slots,st.keep b o e (aN b n) z n3⟩
 .by_cases z:b=a
  .subst z;obtain⟨_,o',vs,e',_,hd,_⟩:=I.hok b _ ha;obtain⟨vs',e2,_⟩:=st.exc o' vs e' hd;exact⟨_,e2⟩
  .exact st.there b o e z
 .rw[up b _ e λz=>by rw[z,ha] at e; cases e]; simp
 .obtain⟨o,es,ep,ho,r⟩:=hm;have n:=aN _ I.free;have nc:X.env.locals∉ch:=λz=>(hch _ z).2.2.1 rfl;by_cases z:X.env.locals∈fr
  .obtain⟨sl,e⟩:=st.slot _ o ho n z nc;exact⟨_,es,ep,e,r⟩
  .exact⟨o,es,ep,st.keep _ o ho n z nc,r⟩
 .by_cases hb:b=a
  .subst hb;rw[bX] at e;cases e;obtain⟨z,o',vs,e',c1,c2,c3,c4,q⟩:=I.hok b _ ha;obtain⟨vs',e2,sz,_⟩:=st.exc o' vs e' c2;refine⟨z,_,vs',e2,c1,rfl,sz.trans c3,(λw=>nomatch w),?_⟩;rcases q with q | ⟨dx,d1,d2,d3,mA,⟨od,es,ep,e3,c⟩,r⟩
   .exact .inl q
   .exact .inr ⟨dx,d1,up dx _ d2 d3,d3,mA,⟨od,es,ep,st.keep dx od e3 d3 (tr dx _ d2).1 (tr dx _ d2).2,c⟩,r⟩
  .rw[bK hb] at e;refine (I.hok b o e).stay (λc u hc q=>?_) (λc q=>up c _ q λz=>by rw[z,ha] at q; cases q) λc xs q=>up c _ q λz=>by rw[z,ha] at q; cases q
   rcases hc with z | z
   .subst z;exact st.keep c u q hb (tr c _ e).1 (tr c _ e).2
   .exact st.keep c u q (λy=>by rw[y,ha] at z; cases z) (tr c _ z).1 (tr c _ z).2
def Inv.newAt (I:Inv X pins σ H s){b:Addr}(hb:s.heap.objs.size<=b):H b=none/\X.s₀.heap.objs.size<=b/\b≠X.env.locals/\(∀x c,X.env.cells.lookup x=some c->c≠b)/\∀p∈X.pn++pins,p.1≠b:=by
 obtain⟨f0,f1,f2,f3,f4,f5⟩:=I.fpOk hb (I.hok.fresh hb);exact⟨f0,b8 I.sz hb,f1,f4,f5⟩
def Inv.sinceAt {σ':St}{H':Hp}{s':Shared}(I:Inv X pins σ H s)(I':Inv X pins σ' H' s'){b:Addr}(hb:s.heap.objs.size<=b)(hn:H' b=none):H' b=none/\X.s₀.heap.objs.size<=b/\b≠X.env.locals/\(∀x c,X.env.cells.lookup x=some c->c≠b)/\∀p∈X.pn++pins,p.1≠b:=by
 obtain⟨f0,f1,f2,f3,f4⟩:=I.newAt hb;exact⟨hn,f1,f2,f3,f4⟩
def mN (X:Cx)(E:St->XK):Prop:=∀(pins:af) (σ:St) (H:Hp) (s:Shared) (a C:Addr) (fs:List (Str×V)),Inv X pins σ H s->H a=some (.exc C true fs)->E σ (.ref a) none (upd H a (.exc C false fs))->X.xe (.ref a) s
end
def passN {P:Program}{w:World}{X:Cx}:bv (dO P w) X (λ_ _ _ _=>False):=λ_ _ _ _ _ _ _ h=>by
 obtain⟨_,_,_,_,_,_,_,_,_,_,_,_,_,_,z⟩:=h;exact z.elim
section
variable {P:Program}{w:World}{K:bm}{mg:Str->aA}{base:Heap}{N:ar}{qual:Str}{scope:Scope}{f:Addr}{cd:Value}{A:Around}{outer:List Env}{s:Shared}{H:Hp}{E:XK}
def passF:bv (dO P w) (fj (dO P w) P w K mg base N qual scope f cd A outer s H E) (λ_=>E):=by
 intro pins σ H1 s1 e s' I1 hcx;obtain⟨a,T,C,fs,H2,rfl,os,bare,un,hok,ha,fly,nT,lT,q⟩:=hcx;have I2:=I1.call' (ch:=[]) os un hok bare λb z=>absurd z (by simp);show wpAny _ _ (leaving _ (.ref a)) _ _ s';refine EV (base:=base) I2.ok.frames I2.stack rfl fly λh' F' st=>?_;have I3:=I2.xstep ha st (λb hb=>cu (I2.stkSub b hb)) λb hb=>by
  rcases cu hb with z | z
  .rw[z]; exact I1.sinceAt I2 lT nT
  .rw[Fc.mp z]; exact I2.newAt (bD _)
 have e:upd H2 a (.exc C false fs)=H2:=by
  funext b
  by_cases z:b=a
  .subst z; rw[bX,ha]
  .rw[bK z]
 rw[e] at I3;exact⟨a,_,C,fs,H2,rfl,I3.os,I3.bare,I3.base,I3.hok,ha,F',(I2.newAt (bD _)).1,b8 I1.sz (b8 (Nat.le_of_lt_succ (Nat.lt_succ_of_le (by
  have:=I2.sz;have h1:s1.heap.objs.size<=s'.heap.objs.size:=by
   obtain⟨m,hn,_⟩:=I1.loc;exact b8 lT (GB (by obtain⟨⟨_,_,_,_,_,_,_,z,_⟩,_⟩:=fly; exact bM z))
  exact h1))) (bD _)),q⟩
def jU:mN (fj (dO P w) P w K mg base N qual scope f cd A outer s H E) (λ_=>E):=by
 intro pins σ H1 s1 a C fs I1 ha q;obtain⟨_,o,vs,e,c1,c2,c3,c4,_⟩:=I1.hok a _ ha;show wpAny _ _ (leaving _ (.ref a)) _ _ s1;refine xq (base:=base) I1.ok.frames I1.stack rfl e c2 (c4 rfl) λh' F' st=>?_;have I3:=I1.xstep ha st (λb hb=>cu (I1.stkSub b hb)) λb hb=>by
  rw[Fc.mp hb]; exact I1.newAt (bD _)
 have nT:(upd H1 a (.exc C false fs)) s1.heap.objs.size=none:=by
  rw[bK (λz=>by have:=I1.hok.lt ha; rw[<-z] at this; exact F6 _ this)];exact (I1.newAt (bD _)).1
 exact⟨a,_,C,fs,_,rfl,I3.os,I3.bare,I3.base,I3.hok,bX,F',nT,I1.sz,q⟩
end
section
variable {X:Cx}{e:Expr}{te:TE}{pos:Pos}{E:St->XK}
def fJ (K:bm)(te:TE)(E:St->XK):TS:=λ_ σ H=>te σ H λv H1=>∃(a C:Addr) (tl:am) (fs:List (Str×V)),v=.ref a/\H1 a=some (.exc C true fs)/\XO K C tl/\E σ (.ref a) none (upd H1 a (.exc C false fs))
def A6 (hc:X.calm=true)(hx:mN X E)(he:PE X e te):PS X (.Raise (some e) none pos) (fJ X.K te E):=by
 intro pins s σ H D I h;have go:wpAny (model X.prog X.w) X.A (raiseStmt X.env (some (do let v <-eval e X.env; standAt pos; pure v)) none) (SP X pins D) X.xe s:=by
  refine D1 (K:=X.K) (I.ok.hd hc) (aM (bh (he pins s σ H _ I h) λu s1 ⟨v,H1,I1,r1,q1⟩=>aM (Ij (bg ?_))));obtain⟨a,C,tl,fs,rfl,ha,T,q⟩:=q1;obtain rfl:u=Value.ref a:=r1;obtain⟨_,o,vs,e1,c1,c2,c3,c4,_⟩:=I1.hok a _ ha;exact⟨a,C,tl,o,vs,rfl,T,e1,c1,c2,c4 rfl,I1.kIn,hx pins σ H1 s1 a C fs I1 ha q⟩
 rw[arm_exec_Raise];exact aM (Ij go)
end
section
variable {X:Cx}{k:Nat}{f C W:Addr}{tl:am}{fd:FuncData}{ps:ar}{sp:Sp}{dvs:av}{ds:ao}{E:St->XK}{x m:Str}{p pos apos:Pos}{e o:Expr}{es:au}{ta tv:TE}{t:TA}
def eh (C:Addr)(sp:Sp)(dvs:av)(E:St->XK)(t:TA):TE:=λσ H Q=>t σ H λvs H1=>vs.length<=100/\∀x,H1 x=none ->
 sp (.ref x::(vs++dvs)) (upd H1 x (.exc C true [])) (λv H2=>v=.non/\Q (.ref x) H2) (E σ)
def uc {pins:af}{σ:St}{H:Hp}{s:Shared}{Q:VK}{us:ao}{vs:av}(T:XC X.K C (.ref f) tl)(F:FnOk X.prog X.w X.K X.mg X.base (dO X.prog X.w) k f fd ps sp)(hr:Room (k+1) X.A)(hb:Binds X.K fd ps ds)(hd:Vals dvs ds)
  (hx:bv (dO X.prog X.w) X E)(I:Inv X pins σ H s)(r:Vals vs us)(hl100:vs.length<=100)
  (h:∀x,H x=none->sp (.ref x::(vs++dvs)) (upd H x (.exc C true [])) (λv H2=>v=.non/\Q (.ref x) H2) (E σ)) :
  wpAny (model X.prog X.w) X.A (call (.ref C) us) (EP X pins σ Q) X.xe s:=by
 have hlen:us.length<=sizeLine:=by rw[<-r.length]; exact GB (rz (by omega))
 refine An T I.kIn hlen λh' a hm la=>?_;have hq:=h a (I.hok.fresh la);obtain⟨tt,ea,nt,et⟩:=hm.there;have I2:Inv X pins σ (upd H a (.exc C true [])) { s with heap:=h' }:=I.laid (t':=s.toks) hm.keeps la ⟨Fy _,_,_,ea,rfl,rfl,rfl,λ_=>rfl,.inl ⟨rfl,rfl⟩⟩;have r2:Vals (V.ref a::(vs++dvs)) (Value.ref a::(us++ds)):=.cons rfl (r.append hd);have hl:(Value.ref a::us++ds).length=ps.length:=by
  have e:=r2.length;rw[F.len _ _ _ _ hq] at e;exact e.symm
 refine HV (Ha (F.run _ X.stack _ _ ⟨Value.ref a::us,[]⟩ (Value.ref a::(us++ds)) _ _ (E σ) (hr.make C us []) (I2.env0.make C us []) (hb _ (Value.ref a::us) I2.kIn hl) r2 hq) λrr s' hq'=>?_);cases rr with
 | error e=>exact hx pins σ _ _ e s' I2 hq'
 | ok fl=>
  cases fl with
  | ret u=>
   obtain⟨v,H',I3,rv,ev,q3⟩:=I2.after hq';subst ev;exact⟨rv,⟨V.ref a,H',I3,rfl,q3⟩⟩
  | next=>exact False.elim hq'
  | brk=>exact False.elim hq'
  | cont=>exact False.elim hq'
def wG (T:XC X.K C (.ref f) tl)(hkp:PySem.W.keepIn X.K (.ref C)=true)(F:FnOk X.prog X.w X.K X.mg X.base (dO X.prog X.w) k f fd ps sp)(hr:Room (k+1) X.A)(hg:Gl X x)(hm:X.mg x=some (.ref C))(hb:Binds X.K fd ps ds)(hd:Vals dvs ds)(hx:bv (dO X.prog X.w) X E)
  (ha:PA X (e::es) t)(hdb:(x == ("__debug__" : Str))=false:=by decide)(he:starEach (e::es) X.env=(false,eval e X.env)::starEach es X.env:=by rfl)(hpl:(backTo pos (starEach es X.env)).any (·.1)=false:=by rfl) :
  PE X (.Call (.Name x p) (e::es) [] pos) (eh C sp dvs E t):=by
 intro pins s σ H Q I h;refine Fz (hX I hg hm ?_ hdb);refine Hl (h₀:=X.base) I.ok.mod.kin hkp (bh (ha pos pins s σ H _ I h) λus s1 ⟨vs,H1,I1,r,q⟩=>⟨I1.kIn,?_⟩) he hpl;exact uc T F hr hb hd hx I1 r q.1 q.2
def yc (T:XC X.K C (.ref f) tl)(hkp:PySem.W.keepIn X.K (.ref C)=true)(F:FnOk X.prog X.w X.K X.mg X.base (dO X.prog X.w) k f fd ps sp)(hr:Room (k+1) X.A)(hg:Gl X x)(hm:X.mg x=some (.ref C))(hb:Binds X.K fd ps ds)(hd:Vals dvs ds)(hx:bv (dO X.prog X.w) X E)
  (hdb:(x == ("__debug__" : Str))=false:=by decide):PE X (.Call (.Name x p) [] [] pos) (eh C sp dvs E dI):=by
 intro pins s σ H Q I h;refine Fz (hX I hg hm ?_ hdb);exact Hh I.kIn hkp (uc (us:=[]) T F hr hb hd hx I .nil h.1 h.2)
def Inv.inst {pins:af}{σ:St}{H:Hp}{s:Shared}{a:Addr}{nw:Bool}{fs:List (Str×V)}(I:Inv X pins σ H s)(ha:H a=some (.exc C nw fs)):∃mA,s.heap.Inst a C mA/\(∀f,RelO (fs.lookup f) (mA f))/\PySem.Within mA (fs.map (·.1)):=by
 obtain⟨_,o,vs,e,c1,c2,c3,c4,q⟩:=I.hok a _ ha;have nc:∀c,o.data≠.cls c:=λc z=>by rw[c2] at z; cases z
 rcases q with ⟨d0,rfl⟩ | ⟨dx,d1,d2,d3,mA,n,r,wi⟩
 .exact⟨λ_=>none,⟨o,e,c1,nc,.inl ⟨d0,λ_=>rfl⟩⟩,λf=>G5,PySem.Within.nil⟩
 .exact⟨mA,⟨o,e,c1,nc,.inr ⟨dx,d1,d3,n⟩⟩,r,wi⟩
def ml (K:bm)(ta:TE)(f:Str):TE:=λσ H Q=>ta σ H λx H1=>∃(a C:Addr) (fI:Value) (tl:am) (nw:Bool) (fs:List (Str×V)) (v:V),x=.ref a/\H1 a=some (.exc C nw fs)/\XC K C fI tl/\NoAttr K C f/\fs.lookup f=some v/\Q v H1
def zO (he:PE X e ta)(hb:attributeBase e m X.env (eval e X.env)=eval e X.env):PE X (.Attribute e m pos) (ml X.K ta m):=by
 intro pins s σ H Q I h;refine sD hb (bh (he pins s σ H _ I h) λu s1 hZz=>?_);obtain⟨x,H1,I1,r1,q1⟩:=hZz;obtain⟨a,C,fI,tl,nw,fs,v,rfl,ha,T,n,l,q⟩:=q1;obtain rfl:u=Value.ref a:=r1;obtain⟨mA,J,rel,_⟩:=I1.inst ha;have rv:=rel m;rw[l] at rv;obtain⟨w',e',rw'⟩:=RelO.some_of rv;exact yg T I1.kIn n J e' (PySem.W.handedOut_of (tK rw')) ⟨v,H1,I1.tok _,rw',q⟩
def gM (K:bm)(ta tv:TE)(f:Str):TS:=λD σ H=>tv σ H λy H1=>ta σ H1 λx H2=>∃(a C:Addr) (fI:Value) (tl:am) (nw:Bool) (fs:List (Str×V)),x=.ref a/\H2 a=some (.exc C nw fs)/\XC K C fI tl/\NoAttr K C f/\fs.length<100 /\
 ∀H3:Hp,H3 a=some (.exc C nw (putF f y fs))->(∀b o,b≠a->H2 b=some o->H3 b=some o)->D.nx σ H3
def yk {pins:af}{σ:St}{H:Hp}{s:Shared}{A:Around}{E':Value->Shared->Prop}{a:Addr}{fI:Value}{nw:Bool}{fs:List (Str×V)}{y:V}{u:Value}{Q:Unit->Shared->Prop}(I:Inv X pins σ H s)(ha:H a=some (.exc C nw fs))(T:XC X.K C fI tl)
  (n:NoAttr X.K C m)(hl:fs.length<100)(ry:RelV y u)(h:∀s' H',Inv X pins σ H' s'->H' a=some (.exc C nw (putF m y fs))->(∀b o,b≠a->H b=some o->H' b=some o)->Q () s') :
  wpAny (model X.prog X.w) A (setAttr (.ref a) m u) Q E' s:=by
 obtain⟨_,o,vs,e,c1,c2,c3,c4,q⟩:=I.hok a _ ha;obtain⟨mA,J,rel,wi⟩:=I.inst ha;have lt:a<s.heap.objs.size:=bM e;refine D7 T I.kIn n J wi (by rw[Fg]; exact rz (by omega)) λh' tk J' sz kp ob=>?_;obtain⟨o1,e1,d1,dd⟩:=ob o e;obtain⟨o2,e2,cl2,_,dc⟩:=J';obtain rfl:o1=o2:=cy (e1.symm.trans e2);obtain⟨d,hd1,hd2,hd3,hold,hnew⟩:∃d,o1.dict=some d/\d≠a/\h'.Ns1 d (λz=>if z=m then some u else mA z)/\(H d=some (.own a)\/H d=none)/\(∀b ob,b≠a->b≠d->s.heap.get? b=some ob->h'.get? b=some ob):=by
  rcases dc with ⟨z,_⟩ | ⟨d,z1,z2,z3⟩
  .rcases dd with ⟨dx,_,w⟩ | ⟨_,w⟩ <;> rw[w] at z <;> cases z
  .refine⟨d,z1,z2,z3,?_,λb ob nb nd zb=>kp b ob nb (λo0 dx g1 g2=>?_) zb⟩
   .rcases dd with ⟨dx,w1,w2⟩ | ⟨_,w⟩
    .rw[w2] at z1; cases z1;rcases q with ⟨q1,_⟩ | ⟨dy,q1,q2,_⟩
     .rw[q1] at w1; cases w1
     .rw[q1] at w1; cases w1; exact .inl q2
    .rw[w] at z1; cases z1;exact .inr (I.hok.fresh (bD _))
   .obtain rfl:o=o0:=cy (e.symm.trans g1);rcases dd with ⟨dy,w1,w2⟩ | ⟨w1,_⟩
    .rw[w1] at g2; cases g2; rw[w2] at z1; cases z1; exact nd
    .rw[w1] at g2; cases g2
 have tr:∀b ob,H b=some ob->b≠a->ob≠.own a->b≠d:=λb ob z _ ne w=>by
  rw[w] at z;rcases hold with w1 | w1 <;> rw[w1] at z <;> cases z
  exact ne rfl
 have up:∀b ob,H b=some ob->b≠a->(upd (upd H d (.own a)) a (.exc C nw (putF m y fs))) b=some ob:=λb ob z nb=>by
  rw[bK nb];by_cases w:b=d
  .subst w;rcases hold with w1 | w1 <;> rw[w1] at z
   .rw[bX]; exact z
   .cases z
  .rw[bK w]; exact z
 have unt:∀b,H b=none->s.heap.get? b≠none->b≠a/\b≠d:=λb z w=>by
  refine⟨(λv=>by rw[v,ha] at z; cases z),λv=>?_⟩;rcases dd with ⟨dx,w1,w2⟩ | ⟨_,w2⟩
  .rw[hd1] at w2; cases w2;rcases q with ⟨q1,_⟩ | ⟨dy,q1,q2,_⟩
   .rw[q1] at w1; cases w1
   .rw[q1] at w1; cases w1; rw[v,q2] at z; cases z
  .rw[hd1] at w2; cases w2;exact w (by rw[v]; exact G4 (bD _))
 have some_ne:∀{b:Addr} {ob:Obj},s.heap.get? b=some ob->s.heap.get? b≠none:=λz w=>by rw[z] at w; cases w
 refine h _ _ (I.un (H':=upd (upd H d (.own a)) a (.exc C nw (putF m y fs))) (h':=h') (t':=tk) ⟨λb ob z nb _ _=>?_,λb ob z nb _ _=>?_,λb ob z nb _=>?_,λb ob z _=>?_,λb xs z=>?_,λb ob v z=>?_,λb ps z=>⟨#[],?_⟩⟩ λb ob z=>?_) bX λb ob nb z=>up b ob z nb
 .obtain⟨n1,n2⟩:=unt b nb (some_ne z);exact hnew b ob n1 n2 z
 .obtain⟨n1,n2⟩:=unt b nb (some_ne z);exact⟨ob.slots,hnew b ob n1 n2 z⟩
 .obtain⟨n1,n2⟩:=unt b nb (some_ne z);rw[bK n1,bK n2]; exact nb
 .by_cases n1:b=a
  .rw[n1]; exact⟨_,e1⟩
  .by_cases n2:b=d
   .obtain⟨od,_,_,w,_⟩:=hd3;rw[n2]; exact⟨od,w⟩
   .exact⟨ob,hnew b ob n1 n2 z⟩
 .exact up b _ z λv=>by rw[v,ha] at z; cases z
 .exact up b _ z λv=>by rw[v,ha] at z; cases z
 .rw[up b _ z λv=>by rw[v,ha] at z; cases z]; simp
 .by_cases n1:b=a
  .subst n1;rw[bX] at z;cases z;refine⟨by have:=pe m y fs; omega,o1,vs,e1,cl2,by rw[d1]; exact c2,c3,c4,.inr ⟨d,hd1,by rw[bK hd2,bX],hd2,_,hd3,λg=>?_,λg hg=>?_⟩⟩
   .show RelO ((putF m y fs).lookup g) (if g=m then some u else mA g);rw[o3];by_cases w:g=m
    .rw[if_pos w,if_pos w]; exact ry
    .rw[if_neg w,if_neg w]; exact rel g
   .by_cases w:g=m
    .rw[w]; exact (mH m y fs).1
    .refine (mH m y fs).2 g (wi g λv=>hg ?_);show (if g=m then some u else mA g)=none;rw[if_neg w]; exact v
  .rw[bK n1] at z;by_cases n2:b=d
   .subst n2;rw[bX] at z;cases z;obtain⟨od,_,_,w,_⟩:=hd3;exact⟨od,w⟩
   .rw[bK n2] at z;have nown:ob≠.own a\/ob=.own a:=by
     by_cases w:ob=.own a
     .exact .inr w
     .exact .inl w
    refine (I.hok b ob z).stay (λc v hc w=>?_) (λc w=>up c _ w λv=>by rw[v,ha] at w; cases w) λc xs w=>up c _ w λv=>by rw[v,ha] at w; cases w
    rcases hc with w1 | w1
    .subst w1; exact hnew c v n1 n2 w
    .refine hnew c v (λx=>by rw[x,ha] at w1; cases w1) (λx=>?_) w;rw[x] at w1;rcases hold with w2 | w2 <;> rw[w2] at w1 <;> cases w1
     exact n1 rfl
def yY {pos':Pos}(ha:PE X o ta)(hv:PE X e tv)(hs:swapsWith e (some (.Attribute o m pos')) pos.line X.env=pure false):PS X (.Assign [.Attribute o m pos'] e pos) (gM X.K ta tv m):=by
 intro pins s σ H D I h;refine plainObj_wpAny_Assign_Attribute (bh (hv pins s σ H _ I h) λu s1 ⟨y,H1,I1,ry,q⟩=>bh (ha pins s1 σ H1 _ I1 q) λov s2 hZz=>?_) hs;obtain⟨x,H2,I2,rx,q2⟩:=hZz;obtain⟨a,C,fI,tl,nw,fs,rfl,ea,T,n,l,k⟩:=q2;obtain rfl:ov=Value.ref a:=rx;exact yk I2 ea T n l ry λs3 H3 I3 g1 g2=>⟨σ,H3,I3,k H3 g1 g2⟩
structure XInit (K:bm)(W:Addr):Prop where
 sp:PySem.W.specialIn K (.ref W) "__getattribute__" = some (some (.builtin "type.__getattribute__"))
 rd:PySem.W.readsIn K W (.type "type")=true
 fd:PySem.W.findCls K (.ref W) (.type "type") "__init__" = some (.val (.builtin "ValueError.__init__"))
def fO (K:bm)(t:TA):TE:=λσ H Q=>t σ H λvs H1=>∃(a C:Addr) (fI:Value) (tl:am) (nw:Bool) (fs:List (Str×V)) (rest:av),vs=.ref a::rest/\rest.length<=100/\H1 a=some (.exc C nw fs)/\XC K C fI tl/\Q .non H1
def Da {pins:af}{σ:St}{H:Hp}{s:Shared}{A:Around}{E':Value->Shared->Prop}{a:Addr}{fI:Value}{nw:Bool}{fs:List (Str×V)}{us:ao}{Q:Value->Shared->Prop}(I:Inv X pins σ H s)(ha:H a=some (.exc C nw fs))(T:XC X.K C fI tl)(hl:us.length<=100)
  (h:∀s',Inv X pins σ H s'->Q .none s'):wpAny (model X.prog X.w) A (call (.builtin "ValueError.__init__") (.ref a::us)) Q E' s:=by
 obtain⟨z0,o,vs,e,c1,c2,c3,c4,q⟩:=I.hok a _ ha;refine xM T I.kIn e c1 c2 (by omega) (GB (rz (by omega))) λh' sz kp hZz=>?_;obtain⟨a0,e1⟩:=hZz;have aN:∀b,H b=none->b≠a:=λb n z=>by rw[z,ha] at n; cases n
 have Hs:upd H a (.exc C nw fs)=H:=by
  funext b
  by_cases z:b=a
  .subst z; rw[bX,ha]
  .rw[bK z]
 have J:=I.write (x:=a) (e:=a) (o:=.exc C nw fs) (h':=h') (t':=s.toks) (by rw[ha]; exact G5) (.inl rfl) (λb u nb z=>kp b u nb z) ⟨_,e1⟩ (by
  rw[Hs];refine⟨z0,_,_,e1,c1,rfl,by rw[Array.size_setIfInBounds]; exact c3,λw=>by rw[HC (by decide)]; exact c4 w,?_⟩;rcases q with q | ⟨dx,d1,d2,d3,mA,⟨od,es,ep,e3,c⟩,r⟩
  .exact .inl q
  .exact .inr ⟨dx,d1,d2,d3,mA,⟨od,es,ep,kp dx od d3 e3,c⟩,r⟩)
 rw[Hs] at J;exact h _ J
def xy {pl:Sem Bool}{xp:Pos}(XI:XInit X.K W)(hg:Gl X x)(hm:X.mg x=some (.ref W))(ha:PA X (e::es) t)(hdb:(x == ("__debug__" : Str))=false:=by decide)
  (hst:starEach (e::es) X.env=(false,eval e X.env)::starEach es X.env:=by rfl)(hpl:(backTo pos (starEach es X.env)).any (·.1)=false:=by rfl)
  (ht:eval (.Call (.Attribute (.Name x xp) "__init__" apos) (e::es) [] pos) X.env=(do
   let ov <-eval (.Name x xp) X.env
   standAt apos.atName
   let (f,first) <-holding [ov] (getMethod ov "__init__" pl)
   callWith pos f first (backTo pos (starEach (e::es) X.env)) (backToKw pos (keywordEach [] X.env))):=by rfl) :
  PE X (.Call (.Attribute (.Name x xp) "__init__" apos) (e::es) [] pos) (fO X.K t):=by
 intro pins s σ H Q I h;refine GZ (pl:=pl) (hX I hg hm ?_ hdb) ht;refine PySem.W.method_cls I.kIn XI.sp (PySem.W.cls_value I.kIn XI.rd XI.fd rfl ?_);refine GN (bh (ha pos pins _ σ H _ (I.tok _) h) λus s1 hZz=>?_) hst hpl;obtain⟨vs,H1,I1,r1,q1⟩:=hZz;obtain⟨a,C,fI,tl,nw,fs,rest,rfl,hl,ea,T,q⟩:=q1;cases r1 with
 | @cons _ u _ us' ru rr=>
  obtain rfl:u=Value.ref a:=ru;exact Da I1 ea T (by rw[<-rr.length]; exact hl) λs2 I2=>⟨.non,H1,I2,rfl,q⟩
end
noncomputable abbrev Cx.tryCx (X:Cx)(xe:Value->Shared->Prop)(pn:af):Cx:={ X with xe:=xe,pn:=pn }
noncomputable abbrev Cx.markCx (X:Cx)(a:Addr):Cx:={ X with A:=X.A.mark (some (.ref a)),calm:=false,xe:=λ_ _=>False }
section
variable {X:Cx}{pins:af}{σ:St}{H:Hp}{s:Shared}
def Inv.try (I:Inv X pins σ H s)(xe:Value->Shared->Prop):Inv (X.tryCx xe (X.pn++pins)) [] σ H s:=
 ⟨⟨I.ok.mod,I.ok.kind,I.ok.glob,I.ok.blt,I.ok.above,I.ok.inj,I.ok.has,I.ok.cab,I.ok.hd,I.ok.frames,I.ok.stk,I.ok.exf,I.ok.bs,I.ok.bsz,I.ok.noex,I.ok.exfs,I.ok.funs,I.ok.frf⟩,
  I.os,I.bare,I.base,I.loc,I.cell,I.free,I.freeC,λp hp=>I.pin p (by simpa using hp),I.hok,I.len⟩
def Inv.untry {xe:Value->Shared->Prop}{pins':af}(I:Inv (X.tryCx xe (X.pn++pins)) pins' σ H s):Inv X pins σ H s:=
 ⟨⟨I.ok.mod,I.ok.kind,I.ok.glob,I.ok.blt,I.ok.above,I.ok.inj,I.ok.has,I.ok.cab,I.ok.hd,I.ok.frames,I.ok.stk,I.ok.exf,I.ok.bs,I.ok.bsz,I.ok.noex,I.ok.exfs,I.ok.funs,I.ok.frf⟩,
  I.os,I.bare,I.base,I.loc,I.cell,I.free,I.freeC,λp hp=>I.pin p (d8 _ hp),I.hok,I.len⟩
def Inv.mark (I:Inv X pins σ H s)(a:Addr):Inv (X.markCx a) pins σ H s:=
 ⟨⟨I.ok.mod,I.ok.kind,I.ok.glob,I.ok.blt,I.ok.above,I.ok.inj,I.ok.has,I.ok.cab,(λz=>nomatch z),I.ok.frames,I.ok.stk,I.ok.exf,I.ok.bs,I.ok.bsz,I.ok.noex,I.ok.exfs,I.ok.funs,I.ok.frf⟩,
  I.os,I.bare,I.base,I.loc,I.cell,I.free,I.freeC,I.pin,I.hok,I.len⟩
def Inv.unmark {a:Addr}(c:X.calm=true->X.A.handled=none)(I:Inv (X.markCx a) pins σ H s):Inv X pins σ H s:=
 ⟨⟨I.ok.mod,I.ok.kind,I.ok.glob,I.ok.blt,I.ok.above,I.ok.inj,I.ok.has,I.ok.cab,c,I.ok.frames,I.ok.stk,I.ok.exf,I.ok.bs,I.ok.bsz,I.ok.noex,I.ok.exfs,I.ok.funs,I.ok.frf⟩,
  I.os,I.bare,I.base,I.loc,I.cell,I.free,I.freeC,I.pin,I.hok,I.len⟩
def Inv.gone {i:Nat}{n:Str}{h':Heap}{t':Nat}{m:Str->aA}{v:aA}(I:Inv X pins σ H s)(hN:X.N.Nodup)(hi:X.N[i]? = some n)
  (hm:∀(i:Nat) (x:Str) (v:V),X.N[i]? = some x->σ[i]? = some (some v)->nn X.env.scope x->∃u,RelV v u/\Look X.env s.heap m x u)
  (hn:h'.Ns X.env.locals (λx=>if x=n then v else m x))(sb:Heap.SameBut X.env.locals s.heap h'):Inv X pins (σ.set i none) H { s with heap:=h',toks:=t' }:=by
 have neL:∀b o,X.s₀.heap.get? b=some o->b≠X.env.locals:=λb o e=>cY (dX (bM e) I.ok.above);have tr:∀b o,H b=some o->b≠X.env.locals:=λb o e z=>by rw[z,I.free] at e; cases e
 have cellK:∀x c,X.env.cells.lookup x=some c->∀w,s.heap.IsCell c w->h'.IsCell c w:=λx c e w ⟨o,ho,hd⟩=>⟨o,(sb.2 c (I.cne x c e)).trans ho,hd⟩
 refine⟨I.ok,I.os,I.bare,⟨λb o e n1 n2 n3=>?_,λb o e n1 n2 n3=>?_,λb o e n1 n3=>I.base.free b o e n1 n3,λb o e n3=>?_,I.base.tups,I.base.frzs,I.base.tbls⟩,⟨_,hn,λj x w e1 e2 e3=>?_⟩,λx c e=>?_,I.free,I.freeC,λp hp=>?_,λb o e=>?_,by rw[Fu]; exact I.len⟩
 .exact (sb.2 b (neL b o e)).trans (I.base.keep b o e n1 n2 n3)
 .obtain⟨sl,z⟩:=I.base.slot b o e n1 n2 n3;exact⟨sl,(sb.2 b (neL b o e)).trans z⟩
 .obtain⟨o',z⟩:=I.base.there b o e n3;exact⟨o',(sb.2 b (neL b o e)).trans z⟩
 .have ij:i≠j:=λz=>by
   subst z;by_cases q:i < σ.length
   .rw[Fj q] at e2; cases e2
   .rw[FS (by rw[Fu]; omega)] at e2; cases e2
  rw[Ff ij] at e2;have xn:x≠n:=λz=>ij (nS hN hi (by rw[<-z]; exact e1));obtain⟨u,r,l⟩:=hm j x w e1 e2 e3;refine⟨u,r,?_⟩;rcases l with ⟨k1,k2⟩ | ⟨k1,c,k2,k3⟩
  .exact .inl ⟨k1,by show (if x=n then v else m x)=some u; rw[if_neg xn]; exact k2⟩
  .exact .inr ⟨k1,c,k2,cellK x c k2 _ k3⟩
 .obtain⟨w,z⟩:=I.cell x c e;exact⟨w,cellK x c e w z⟩
 .obtain⟨z1,z2,z3,z4,z5⟩:=I.pin p hp;exact⟨(sb.2 p.1 z3).trans z1,z2,z3,z4,z5⟩
 .refine (I.hok b o e).stay (λc u hc q=>(sb.2 c ?_).trans q) (λ_ q=>q) λ_ _ q=>q;rcases hc with z | z
  .rw[z]; exact tr b o e
  .exact tr c _ z
end
def fy (K:bm)(W:Addr)(i:Nat)(ts:TS)(D:Ends):St->XK:=λσ v _ H=>∃(a C:Addr) (tl:am) (fs:List (Str×V)),v=.ref a/\H a=some (.exc C false fs)/\XO K C tl/\W∈C::tl /\
 ts { nx:=λσ2 H2=>D.nx (σ2.set i none) H2,rt:=D.rt,bk:=λσ2 H2=>D.bk (σ2.set i none) H2,ct:=λσ2 H2=>D.ct (σ2.set i none) H2 } (σ.set i (some (.ref a))) H
def jS (K:bm)(W:Addr)(i:Nat)(tb:(St->XK)->TS)(ts:TS):TS:=λD σ H=>tb (fy K W i ts D) D σ H
section
variable {X:Cx}{W:Addr}{tlW:am}{i:Nat}{n cls:Str}{np hpos pos:Pos}{body suite:aG}{b₀:Stmt}{tb:(St->XK)->TS}{ts:TS}
def AI {C:Addr}{tl:am}{W:Addr}(h:W∈C::tl):(Value.ref C::(tl.map Value.ref++bS)).contains (.ref W)=true:=by
 rw[Gw];rcases cu h with z | z
 .rw[z]; exact bW
 .exact bU _ (d8 _ (List.mem_map.mpr ⟨W,z,rfl⟩))
def ut {pins:af}{σ:St}{H:Hp}{s:Shared}{D:Ends}{a C T:Addr}{tl:am}{fs:List (Str×V)}(I:Inv X pins σ H s)(hN:X.N.Nodup)(hi:X.N[i]? = some n)(hn:X.env.scope.names.lookup n=some .local)
  (XW:XO X.K W tlW)(hg:Gl X cls)(hm:X.mg cls=some (.ref W))(hs:∀a,PSs (X.markCx a) (b₀::suite) ts)(ha:H a=some (.exc C false fs))(XCo:XO X.K C tl)(hW:W∈C::tl)(F:Fly s.heap a T .none)(fT:H T=none/\X.s₀.heap.objs.size<=T/\T≠X.env.locals/\(∀x c,X.env.cells.lookup x=some c->c≠T)/\∀p∈X.pn++pins,p.1≠T)
  (q:ts { nx:=λσ2 H2=>D.nx (σ2.set i none) H2,rt:=D.rt,bk:=λσ2 H2=>D.bk (σ2.set i none) H2,ct:=λσ2 H2=>D.ct (σ2.set i none) H2 } (σ.set i (some (.ref a))) H)
  (hdb:(cls == ("__debug__" : Str))=false) :
  wpAny (model X.prog X.w) X.A (handleBy (.ref a) X.env [.ExceptHandler (some (.Name cls np)) (some n) (b₀::suite) hpos]) (SP X pins D) X.xe s:=by
 refine wpAny_handleBy_cons (codeAny_handlers_test ?_) (by intro z; cases z);have Im:=I.mark a;refine hX (X:=X.markCx a) Im hg hm ?_ hdb;obtain⟨_,o,vs,e,c1,_⟩:=I.hok a _ ha;refine xP e c1 I.kIn XCo XW ?_;rw[AI hW];refine codeAny_handlers_suite_as (mQ F λh1 F1 st1=>?_);have I1:=Im.xstep ha st1 (λ_ z=>nomatch z) λb hb=>by rw[Fc.mp hb]; exact fT
 have e1:upd H a (.exc C false fs)=H:=by
  funext b
  by_cases z:b=a
  .subst z; rw[bX,ha]
  .rw[bK z]
 rw[e1] at I1;refine rZ (X:=X.markCx a) I1 hN hi (.inl hn) (r:=rfl) (v:=.ref a) (λs2 I2=>?_) (.inr hn);refine FU (hs a _ s2 _ H _ I2 q) (λf s3 h3=>?_) λ_ _ z=>z.elim;have fin:∀{σ3:St} {H3:Hp} {Q:Shared->Prop},Inv (X.markCx a) pins σ3 H3 s3->(∀s4,Inv X pins (σ3.set i none) H3 s4->Q s4)->wpAny (model X.prog X.w) X.A (do bindName X.env n .none; unbindBehindTheSuite X.env n hpos) (λ_ s4=>Q s4) X.xe s3:=λ{σ3 H3 Q} I3 hQ=>by
  have I3':=I3.unmark I.ok.hd;obtain⟨m,hns,hl⟩:=id I3'.loc;refine wpAny_nameGoes_keeps hn hns (by rw[I.ok.kind]; rfl) λh' v hn' sb=>hQ _ (I3'.gone hN hi hl hn' sb)
 show wpAny _ X.A (do bindName X.env n .none; unbindBehindTheSuite X.env n hpos) (λ_ s4=>SP X pins D f s4) X.xe s3;cases f with
 | next=>obtain⟨σ3,H3,I3,q3⟩:=h3; exact fin I3 λs4 I4=>⟨_,H3,I4,q3⟩
 | brk=>obtain⟨σ3,H3,I3,q3⟩:=h3; exact fin I3 λs4 I4=>⟨_,H3,I4,q3⟩
 | cont=>obtain⟨σ3,H3,I3,q3⟩:=h3; exact fin I3 λs4 I4=>⟨_,H3,I4,q3⟩
 | ret u=>obtain⟨v,σ3,H3,I3,r3,q3⟩:=h3; exact fin I3 λs4 I4=>⟨v,_,H3,I4,r3,q3⟩
def BG (hN:X.N.Nodup)(hi:X.N[i]? = some n)(hn:X.env.scope.names.lookup n=some .local)(hfr:∃L outer,X.stack=X.env::outer/\X.env.frame=some L)(XW:XO X.K W tlW)(hg:Gl X cls)(hm:X.mg cls=some (.ref W))
  (hb:∀(xe:Value->Shared->Prop) (pn:af) (Ec:St->XK),bv (dO X.prog X.w) (X.tryCx xe pn) Ec->mN (X.tryCx xe pn) Ec->PassesOwn (model X.prog X.w) X.A X.env xe->PSs (X.tryCx xe pn) body (tb Ec))
  (hs:∀a,PSs (X.markCx a) (b₀::suite) ts)(hdb:(cls == ("__debug__" : Str))=false:=by decide) :
  PS X (.Try body [.ExceptHandler (some (.Name cls np)) (some n) (b₀::suite) hpos] [] [] pos) (jS X.K W i tb ts):=by
 intro pins s σ H D I h;obtain⟨L,outer,hst,hL⟩:=hfr;refine wpAny_Try_except ?_;generalize hxe:(λ(e:Value) (s₁:Shared)=>wpAny (model X.prog X.w) X.A (noteFrame e X.env) (λ_ s₂=>wpAny (model X.prog X.w) X.A (setFlight e none) (λ_ s₃=>wpAny (model X.prog X.w) X.A (handleBy e X.env [.ExceptHandler (some (.Name cls np)) (some n) (b₀::suite) hpos]) (SP X pins D) X.xe s₃) X.xe s₂) X.xe s₁)=xe;have sub:∀b∈(X.env::outer).filterMap (·.frame),b=X.env.locals\/b∈X.fs:=λb hb'=>by
  have:b∈fA X.stack:=by rw[hst]; exact hb'
  exact cu (I.stkSub b this)
 have pass:bv (dO X.prog X.w) (X.tryCx xe (X.pn++pins)) (fy X.K W i ts D):=by
  intro pins' σ' H1 s1 e s' I1' hcx;obtain⟨a,T,C,fs,H2,rfl,os,bare,un,hok,ha,fly,nT,lT,a',C',tl,fs',eq,ha',xo,hW,q⟩:=hcx;cases eq;rw[ha] at ha';cases ha';have I1:Inv X pins σ' H1 s1:=I1'.untry;have I2:=I1.call' (ch:=[]) os un hok bare λb z=>absurd z (by simp);show xe (.ref a) s';rw[<-hxe];have fr2:=I2.ok.frames;have st2:=I2.stack;rw[hst] at fr2 st2;refine uw (base:=X.base) fr2 st2 hL fly λh3 F3 st3=>?_;have n2:=I2.newAt (b:=s'.heap.objs.size) (bD _);have I3:=I2.xstep ha st3 sub λb hb'=>by rw[Fc.mp hb']; exact I1.sinceAt I2 lT nT
  have e1:upd H2 a (.exc C false fs)=H2:=by
   funext b
   by_cases z:b=a
   .subst z; rw[bX,ha]
   .rw[bK z]
  rw[e1] at I3;refine mQ F3 λh4 F4 st4=>?_;have I4:=I3.xstep ha st4 (λ_ z=>nomatch z) λb hb'=>by rw[Fc.mp hb']; exact n2
  rw[e1] at I4;exact ut I4 hN hi hn XW hg hm hs ha xo hW F4 n2 q hdb
 have rais:mN (X.tryCx xe (X.pn++pins)) (fy X.K W i ts D):=by
  intro pins' σ' H1 s1 a C fs I1' ha hE;obtain⟨a',C',tl,fs',eq,ha',xo,hW,q⟩:=hE;cases eq;rw[bX] at ha';cases ha';have I1:Inv X pins σ' H1 s1:=I1'.untry;obtain⟨_,o,vs,e,c1,c2,c3,c4,_⟩:=I1.hok a _ ha;show xe (.ref a) s1;rw[<-hxe];have fr2:=I1.ok.frames;have st2:=I1.stack;rw[hst] at fr2 st2;refine sP (base:=X.base) fr2 st2 hL e c2 (c4 rfl) λh3 F3 st3=>?_;have n2:=I1.newAt (b:=s1.heap.objs.size) (bD _);have I3:=I1.xstep ha st3 sub (λ_ z=>nomatch z);have nT:(upd H1 a (.exc C false fs)) s1.heap.objs.size=none:=by
   rw[bK (λz=>by have:=I1.hok.lt ha; rw[<-z] at this; exact F6 _ this)];exact n2.1
  refine mQ F3 λh4 F4 st4=>?_;have I4:=I3.xstep bX st4 (λ_ z=>nomatch z) λb hb'=>by rw[Fc.mp hb']; exact⟨nT,n2.2⟩
  rw[Du] at I4;exact ut I4 hN hi hn XW hg hm hs bX xo hW F4 ⟨nT,n2.2⟩ q hdb
 have own:PassesOwn (model X.prog X.w) X.A X.env xe:=by
  rw[<-hxe];exact PassesOwn.looking (K:=λe s''=>wpAny (model X.prog X.w) X.A (setFlight e none) (λ_ s₃=>wpAny (model X.prog X.w) X.A (handleBy e X.env [.ExceptHandler (some (.Name cls np)) (some n) (b₀::suite) hpos]) (SP X pins D) X.xe s₃) X.xe s'')
 refine FU (hb xe (X.pn++pins) _ pass rais own [] s σ H D (I.try xe) h) (λf s1 h1=>?_) λe s1 h1=>?_
 .cases f with
  | next=>
   obtain⟨σ1,H1,I1,q1⟩:=h1;exact Hj ⟨σ1,H1,I1.untry,q1⟩
  | brk=>obtain⟨σ1,H1,I1,q1⟩:=h1; exact⟨σ1,H1,I1.untry,q1⟩
  | cont=>obtain⟨σ1,H1,I1,q1⟩:=h1; exact⟨σ1,H1,I1.untry,q1⟩
  | ret u=>obtain⟨v,σ1,H1,I1,r1,q1⟩:=h1; exact⟨v,σ1,H1,I1.untry,r1,q1⟩
 .exact h1
end
end L2
end
section
namespace L2
open PySem PySem.W Builtin Builtin.ObjectAttr
section
variable {prog:Program}{w:World}{A:Around}{E:Value->Shared->Prop}{s:Shared}{K:Frag}{C x:Addr}{fI:Value}{tl:am}{mA:Str->aA}
structure XI (K:Frag)(C:Addr):Prop where
 ca:findIn K (.ref C) "__class__" = some (some (.builtin "object.__class__"))
 gt:specialIn K (.builtin "object.__class__") "__get__" = some (some (.builtin "getset_descriptor.__get__"))
 tk:takesIn K (.builtin "object.__class__")=some true
 mr:mroIn K C (.type "object")=some true
def yo {Q:aA->Shared->Prop}(T:XC K C fI tl)(Y:XI K C)(X:K.In s.heap){ox:Obj}{od:Option Obj}(J:InstAt s.heap x ox C od)
  (hq:Q (some (.ref C)) { s with toks:=s.toks+1 }):wpAny (model prog w) A (getAttr? (.ref x) "__class__") Q E s:=by
 have FA:=PySem.F.excAttr_ValueError;have iso:=uR (M:=model prog w) T X J (B := "BaseException") (by decide +kernel);have f3:=FA.ga.bind (.ref x);have hx2:(Value.builtin "BaseException.__getattribute__" == Value.builtin "object.__getattribute__")=false:=by decide +kernel
 have hx1:(onTheHeap (Value.ref C)&&Value.builtin "BaseException.__getattribute__" == Value.builtin "object.__getattribute__")=false:=by rw[hx2]; rfl
 obtain⟨nm,q,N,bs,sn,sub,ab,col,dd,k0,k1,k2,k3,k5,lk⟩:=T.obj;have hf:findObj K C od "__class__" = some (.bind (.builtin "getset_descriptor.__get__") (.builtin "object.__class__")):=by
  obtain⟨cd,hcl⟩:∃cd,clsIn K C=some cd:=by unfold clsIn; rw[lk]; exact⟨_,rfl⟩
  unfold findObj;rw[hcl,Option.bind_some,Y.ca,Option.bind_some];dsimp only;rw[Y.gt,Option.bind_some];dsimp only;rw[Y.tk];rfl
 have hC:=X _ _ lk;have J0:=J;obtain⟨hx,hc,_,_⟩:=J;obtain⟨hp,g,d,tk,os⟩:=s;change K.In hp at X;change InstAt hp x ox C od at J0;change hp.get? x=some ox at hx;have ga:∀{t:Nat} {Q':Option Value->Shared->Prop} {E':Value->Shared->Prop} {A':Around},Q' (some (.builtin "BaseException.__getattribute__")) ⟨hp,g,d,t,os⟩->wpAny (model prog w) A' (typeLookup (.ref C) "__getattribute__") Q' E' ⟨hp,g,d,t,os⟩:=λz=>(GR X T.ga).at z;have gh:∀{t:Nat} {Q':Option Value->Shared->Prop} {E':Value->Shared->Prop} {A':Around},Q' none ⟨hp,g,d,t,os⟩->wpAny (model prog w) A' (typeLookup (.ref C) "__getattr__") Q' E' ⟨hp,g,d,t,os⟩:=λz=>(GR X T.gh).at z;have gf:∀{t:Nat} {Q':Found->Shared->Prop} {E':Value->Shared->Prop} {A':Around},Q' (.bind (.builtin "getset_descriptor.__get__") (.builtin "object.__class__")) ⟨hp,g,d,t,os⟩->wpAny (model prog w) A' (find (.ref x) (.ref C) "__class__") Q' E' ⟨hp,g,d,t,os⟩:=λz=>(looks_find X J0 hf).at z;unfold getAttr? getAttrBy? getAttrBy;repeat (any_goals (first | assumption | (with_reducible refine Fk hx ?_; rw[hc]) | with_reducible refine ga ?_ | with_reducible refine gh ?_ | wp_step))
 refine GD FA.ga.plain F.entry_bexc_ga (@check_slot (model prog w) _ _ _ "BaseException.__getattribute__" "BaseException" "__getattribute__" (.ref x) [.str "__class__" tk] [] _ (by decide +kernel) (by decide +kernel) iso (F.args_bexc_ga _ _) ?_);unfold Builtin.«object.__getattribute__»;repeat (any_goals (first | assumption | (with_reducible refine Fk hx ?_; rw[hc]) | with_reducible refine gf ?_ | wp_step))
 refine class_get (ox:=ox) (od:=od) X J0 Y.mr ?_;repeat (any_goals (first | assumption | wp_step))
end
section
variable {K:Frag}{C x:Addr}{fI:Value}{tl:am}
def uM (T:XC K C fI tl)(Y:XI K C):KitX K (.ref x) (.ref C) (λh=>∃ox od,InstAt h x ox C od) where
 ty:=λ_ _ _ ⟨_,_,J⟩=>J.type
 it:=λ_ _ X _=>by
  obtain⟨nm,q,N,bs,sn,sub,ab,col,dd,k0,k1,k2,k3,k5,lk⟩:=T.obj;intro A' Q' E' s' k q;unfold isType loadHead;exact aM (wpAny_loadPart (k _ _ (X _ _ lk)) (bg q))
 ne:=λh tp dd' its n sl X htp=>by
  obtain⟨nm,q,N,bs,sn,sub,ab,col,dd,k0,k1,k2,k3,k5,lk⟩:=T.obj;refine Bool.eq_false_iff.mpr λz=>?_;have e:C=tp:=Value.ref.inj (Fi.mp z);subst e;have z:=congrArg Obj.data (cy ((X _ _ lk).symm.trans htp));cases z
 ca:=λX ⟨_,_,J⟩ k=>yo T Y X J k
end
end L2
namespace L2
open PySem PySem.Spec PyProof.Rows
inductive TyX (K:bm) (H:Hp):V->Value->Prop where
 | old {x:V} {t:Value} (h:TyOf K H x t):TyX K H x t
 | exc {a C:Addr} {fI:Value} {tl:am} {nw:Bool} {fs:List (Str×V)} (e:H a=some (.exc C nw fs)) (T:XC K C fI tl) (Y:XI K C):TyX K H (.ref a) (.ref C)
section
variable {X:Cx}
def C8 {pins:af}{σ:St}{H:Hp}{s:Shared}{A:Around}{E:Value->Shared->Prop}{Q:Value->Shared->Prop}{c:Value}{b:Bool}{x:V}{u t:Value}(I:Inv X pins σ H s)(rx:RelV x u)(ty:TyX X.K H x t)(e:PySem.W.kitOne X.K t c=some b)(h:∀tk,Q (.bool b) { s with toks:=tk }) :
  wpAny (model X.prog X.w) A (call (.builtin "isinstance") [u,c]) Q E s:=by
 cases ty with
 | old ty=>exact jg I rx ty e h
 | @exc a C fI tl nw fs ea T Y=>
  cases (show u=Value.ref a from rx);obtain⟨mA,J,_,_⟩:=I.inst ea;exact FL (uM T Y) I.kIn (nh J) e (λz=>nomatch z) h
noncomputable def valOf:V->aA
 | .ref a=>some (.ref a)
 | .ty n=>some (.type n)
 | _=>none
end
end L2
end
section
namespace L2
open PySem PySem.Spec PyProof.Rows
section
variable {X:Cx}{pins:af}{σ:St}{H:Hp}{s:Shared}{h':Heap}
def Inv.turnedL {t':Nat}{fp:am}(I:Inv X pins σ H s)(hf:∀b∈fp,c8 X pins H b)(k:∀b o,b∉fp->s.heap.get? b=some o->h'.get? b=some o):Inv X pins σ H { s with heap:=h',toks:=t' }:=by
 have nf:∀b u,H b=some u->b∉fp:=λb u e z=>by rw[(hf b z).1] at e; cases e
 refine I.step (g':=s.gens) (d':=s.drawn) (ch:=fp) (λb hb=>⟨(hf b hb).2.2.2.1,(hf b hb).2.1,(hf b hb).2.2.2.2⟩) (λb o _ _ hc e _=>k b o hc e) (λb o _ _ hc e _=>⟨o.slots,k b o hc e⟩) (λ_ _ _ _ n=>n)
  (λb o hc e=>⟨o,k b o hc e⟩) (λ_ _ e=>e) (λ_ _ _ e=>e) (λb ps e=>⟨#[],by rw[e]; simp⟩) (λm hm=>?_) (λb u e=>?_) I.bare
 .obtain⟨o,es,ep,ho,r⟩:=hm;exact⟨o,es,ep,k _ o (λz=>(hf _ z).2.1 rfl) ho,r⟩
 .refine (I.hok b u e).stay (λc v hc q=>k c v ?_ q) (λ_ q=>q) λ_ _ q=>q;rcases hc with z | z
  .rw[z]; exact nf b u e
  .exact nf c _ z
def Inv.turnedN {t':Nat}{fp:am}{a:Addr}{o:HO}(I:Inv X pins σ H s)(hf:∀b∈fp,c8 X pins H b)(k:∀b o,b∉fp->s.heap.get? b=some o->h'.get? b=some o)(hp:s.heap.objs.size<=a)(new:ObjOk X.prog X.w (upd H a o) h' a o) :
  Inv X pins σ (upd H a o) { s with heap:=h',toks:=t' }:=by
 have ha:H a=none:=I.hok.fresh hp;have na:∀b o,s.heap.get? b=some o->b≠a:=λb o e=>cY (dX (bM e) hp);have nt:∀b u,H b=some u->b≠a:=λb u e z=>by rw[z,ha] at e; cases e
 have nf:∀b u,H b=some u->b∉fp:=λb u e z=>by rw[(hf b z).1] at e; cases e
 refine I.step (g':=s.gens) (d':=s.drawn) (ch:=fp) (λb hb=>⟨(hf b hb).2.2.2.1,(hf b hb).2.1,(hf b hb).2.2.2.2⟩) (λb o _ _ hc e _=>k b o hc e) (λb o _ _ hc e _=>⟨o.slots,k b o hc e⟩) (λb o _ e n=>by rw[bK (na b o e)]; exact n)
  (λb o hc e=>⟨o,k b o hc e⟩) (λb _ e=>by rw[bK (nt b _ e)]; exact e) (λb _ _ e=>by rw[bK (nt b _ e)]; exact e) (λb ps e=>⟨#[],by rw[bK (nt b _ e),e]; simp⟩) (λm hm=>?_) (λb u e=>?_) I.bare
 .obtain⟨o,es,ep,ho,r⟩:=hm;exact⟨o,es,ep,k _ o (λz=>(hf _ z).2.1 rfl) ho,r⟩
 .by_cases z:b=a
  .subst z; rw[bX] at e; cases e; exact new
  .rw[bK z] at e;refine (I.hok b u e).stay (λc v hc q=>k c v ?_ q) (λc q=>by rw[bK (nt c _ q)]; exact q) λc _ q=>by rw[bK (nt c _ q)]; exact q
   rcases hc with z | z
   .rw[z]; exact nf b u e
   .exact nf c _ z
end
noncomputable def rX (K:bm)(a b:Addr):It:=
 ⟨λi H=>∃xs ys x y,SqL K H a xs/\SqL K H b ys/\xs[i]? = some x/\ys[i]? = some y,λi H v H'=>∃x y p,v=.ref p/\H p=none/\H'=upd H p (.tup [x,y])/\(∀xs,SqL K H a xs->xs[i]? = some x)/\∀ys,SqL K H b ys->ys[i]? = some y,
  λi H=>∃xs ys,SqL K H a xs/\SqL K H b ys/\(xs.length<=i\/ys.length<=i)⟩
def kT {h:Heap}{a b:Addr}{o u:Obj}(A B:String)(ha:h.get? a=some o)(hb:h.get? b=some u)(hA:o.cls=.type A)(hB:u.cls=.type B)(n:A≠B):a≠b:=λz=>by
 subst z; rw[ha] at hb; cases hb; rw[hA] at hB; cases hB; exact n rfl
def iV (z TI TO i1 i2 l1 l2:Addr)(i:Nat)(h:Heap):Prop:=IsZip h z TI TO .none/\IsPair h TI (.ref i1) (.ref i2)/\(∃a b,IsPair h TO a b)/\h.IsListIter i1 l1 i/\h.IsListIter i2 l2 i
def v9 {h:Heap}{z TI TO i1 i2 l1 l2:Addr}{i:Nat}{xs ys:aB}(t:iV z TI TO i1 i2 l1 l2 i h)(h1:h.IsList l1 xs)(h2:h.IsList l2 ys)(n1:TI≠TO)(n2:i1≠i2):ZipApart z TI TO i1 i2 l1 l2:=by
 obtain⟨tz,tI,⟨a,b,tO⟩,⟨o1,e1,c1,_⟩,⟨o2,e2,c2,_⟩⟩:=t;obtain⟨u1,f1,d1,_⟩:=h1;obtain⟨u2,f2,d2,_⟩:=h2;have d:∀{a b:Addr} {o u:Obj} (A B:String),h.get? a=some o->h.get? b=some u->o.cls=.type A->u.cls=.type B->(A == B)=false->a≠b:=λA B x y hA hB n=>kT A B x y hA hB (by simpa using n);exact⟨d "tuple" "zip" tI tz rfl rfl rfl,d "tuple" "zip" tO tz rfl rfl rfl,d "list_iterator" "zip" e1 tz c1 rfl rfl,d "list_iterator" "zip" e2 tz c2 rfl rfl,n1,d "tuple" "list_iterator" tI e1 rfl c1 rfl,d "tuple" "list_iterator" tI e2 rfl c2 rfl,
  d "tuple" "list_iterator" tO e1 rfl c1 rfl,d "tuple" "list_iterator" tO e2 rfl c2 rfl,n2,d "list" "zip" f1 tz d1 rfl rfl,d "list" "tuple" f1 tO d1 rfl rfl,d "list" "list_iterator" f1 e1 d1 c1 rfl,d "list" "list_iterator" f1 e2 d1 c2 rfl,
  d "list" "zip" f2 tz d2 rfl rfl,d "list" "tuple" f2 tO d2 rfl rfl,d "list" "list_iterator" f2 e1 d2 c1 rfl,d "list" "list_iterator" f2 e2 d2 c2 rfl⟩
def Cv {P:Program}{w:World}{K:bm}{es:au}{k1:Nat}{ps:Pos}(l1 l2 z TI TO i1 i2:Addr)(n1:TI≠TO)(n2:i1≠i2):Turn P w K (.Tuple es k1 ps) (rX K l1 l2) [z,TI,TO,i1,i2] z (iV z TI TO i1 i2 l1 l2) where
 mem:=by simp
 obj:=λi h t b hb=>by
  obtain⟨tz,tI,⟨a,c,tO⟩,⟨o1,e1,_,d1⟩,⟨o2,e2,_,d2⟩⟩:=t;simp only[Fl,Fp,or_false] at hb;rcases hb with rfl | rfl | rfl | rfl | rfl
  .exact⟨_,tz,(λv q=>nomatch q)⟩
  .exact⟨_,tI,(λv q=>nomatch q)⟩
  .exact⟨_,tO,(λv q=>nomatch q)⟩
  .exact⟨o1,e1,λv q=>by rw[d1] at q; cases q⟩
  .exact⟨o2,e2,λv q=>by rw[d2] at q; cases q⟩
 keep:=λi h h' t k=>by
  obtain⟨tz,tI,⟨a,c,tO⟩,t1,t2⟩:=t;exact⟨k z (by simp) _ tz,k TI (by simp) _ tI,⟨a,c,k TO (by simp) _ tO⟩,t1.at λo e=>k i1 (by simp) o e,t2.at λo e=>k i2 (by simp) o e⟩
 item:=by
  intro X hP hw hK hc i pins s σ H E I hf st hg;subst hP hw hK;obtain⟨xs,ys,x,y,hx,hy,ex,ey⟩:=hg;obtain⟨its,rv,p,hz⟩:=I.list hx;obtain⟨its2,rv2,p2,hz2⟩:=I.list hy;obtain⟨u,hu,ru⟩:=rv.get ex;obtain⟨u2,hu2,ru2⟩:=rv2.get ey;have D:=v9 st p.isList p2.isList n1 n2;obtain⟨tz,tI,⟨a,c,tO⟩,t1,t2⟩:=st;refine wpAny_pyNext_zip_item D tz tI tO t1 t2 p.isList p2.isList (x:=u) (y:=u2) (by simpa using hu) (by simpa using hu2) λh' z1 z2 z3 z4 z5 z6 z7=>⟨_,rfl,?_⟩
  refine wpAny_letOwnedTupleGo_zip (s:={ s with heap:=h' }) z1 λh2 z1' sb=>?_;have kk:∀b o,b∉[z,TI,TO,i1,i2]->s.heap.get? b=some o->h2.get? b=some o:=λb o nb e=>by
   simp only[Fl,Fp,or_false,not_or] at nb;obtain⟨m1,m2,m3,m4,m5⟩:=nb;exact (sb.2 b m1).trans (z7 b o m1 m3 m4 m5 e)
  have lz:z<s.heap.objs.size:=bM tz;have gT:h2.get? s.heap.objs.size=some { cls:=.type "tuple",data:=.seq #[u,u2] }:=(sb.2 _ (F9 lz)).trans z5;have up:∀b o,b≠z->h'.get? b=some o->h2.get? b=some o:=λb o nb e=>(sb.2 b nb).trans e;refine⟨.ref s.heap.objs.size,upd H s.heap.objs.size (.tup [x,y]),I.turnedN (t':=s.toks) hf kk (bD _) ⟨by show 2<=sizeLine; decide,[u,u2],.cons ru (.cons ru2 .nil),_,gT,rfl,⟨_,rfl⟩,rfl⟩,rfl,
   ⟨x,y,_,rfl,I.hok.fresh (bD _),rfl,λzs hq=>by rw[I.list_inj hq hx]; exact ex,λzs hq=>by rw[I.list_inj hq hy]; exact ey⟩,
   ⟨z1',up _ _ D.TIz (z7 TI _ D.TIz D.TITO D.TIi1 D.TIi2 tI),⟨u,u2,up _ _ D.TOz z2⟩,z3.at λo e=>up _ _ D.i1z e,z4.at λo e=>up _ _ D.i2z e⟩,λb hb=>?_⟩
  obtain⟨o,e,_⟩:∃o,s.heap.get? b=some o/\True:=by
   simp only[Fl,Fp,or_false] at hb;obtain⟨o1,e1,_,d1⟩:=t1;obtain⟨o2,e2,_,d2⟩:=t2;rcases hb with rfl | rfl | rfl | rfl | rfl
   .exact⟨_,tz,trivial⟩
   .exact⟨_,tI,trivial⟩
   .exact⟨_,tO,trivial⟩
   .exact⟨o1,e1,trivial⟩
   .exact⟨o2,e2,trivial⟩
  rw[bK (G9 (Heap.lt_size e))];exact (hf b hb).1
 done:=by
  intro X hP hw hK hc i pins s σ H E I hf st hg;subst hP hw hK;obtain⟨xs,ys,hx,hy,hend⟩:=hg;obtain⟨its,rv,p,hz⟩:=I.list hx;obtain⟨its2,rv2,p2,hz2⟩:=I.list hy;have D:=v9 st p.isList p2.isList n1 n2;obtain⟨tz,tI,⟨a,c,tO⟩,t1,t2⟩:=st;have l1:=rv.length;have l2:=rv2.length;refine wpAny_pyNext_zip_end (I.ok.hd hc) D tz tI tO t1 t2 p.isList p2.isList (hend.elim (λq=>.inl (by simp; omega)) λq=>.inr (by simp; omega)) λh' kp=>⟨rfl,I.turnedL (t':=s.toks) hf λb o nb e=>?_⟩
  simp only[Fl,Fp,or_false,not_or] at nb;obtain⟨m1,m2,m3,m4,m5⟩:=nb;exact kp b o m1 m3 m4 m5 e
 self:=λ_ _ _ _ _ st h=>wpAny_pyIter_zip st.1 h
noncomputable def qB (K:bm)(a:Addr):It:=
 ⟨λi H=>∃xs x,SqL K H a xs/\xs[i]? = some x,λi H v H'=>∃x p,v=.ref p/\H p=none/\H'=upd H p (.tup [.int i,x])/\∀xs,SqL K H a xs->xs[i]? = some x,λi H=>∃xs,SqL K H a xs/\xs.length<=i⟩
def kd (e it l:Addr)(i:Nat)(h:Heap):Prop:=(∃old,IsEnum h e it i old)/\h.IsListIter it l i
def yL {P:Program}{w:World}{K:bm}{es:au}{k1:Nat}{ps:Pos}(l e it:Addr):Turn P w K (.Tuple es k1 ps) (qB K l) [e,it] e (kd e it l) where
 mem:=by simp
 obj:=λi h t b hb=>by
  obtain⟨⟨old,te⟩,⟨o1,e1,_,d1⟩⟩:=t;simp only[Fl,Fp,or_false] at hb;rcases hb with rfl | rfl
  .exact⟨_,te,(λv q=>nomatch q)⟩
  .exact⟨o1,e1,λv q=>by rw[d1] at q; cases q⟩
 keep:=λi h h' t k=>by
  obtain⟨⟨old,te⟩,t1⟩:=t;exact⟨⟨old,k e (by simp) _ te⟩,t1.at λo q=>k it (by simp) o q⟩
 item:=by
  intro X hP hw hK hc i pins s σ H E I hf st hg;subst hP hw hK;obtain⟨xs,x,hx,ex⟩:=hg;obtain⟨its,rv,p,hz⟩:=I.list hx;obtain⟨u,hu,ru⟩:=rv.get ex;obtain⟨⟨old,te⟩,t1⟩:=st;have ne:e≠it:=by
   obtain⟨o1,e1,c1,_⟩:=t1;exact kT "enumerate" "list_iterator" te e1 rfl c1 (by decide)
  refine wpAny_pyNext_enum_item te t1 p.isList (x:=u) (by simpa using hu) ne λh' z1 z2 z3 z4 z5=>⟨_,rfl,?_⟩
  refine wpAny_letOwnedTupleGo_enum (s:={ s with heap:=h',toks:=s.toks+1 }) z1 λh2 z1' sb=>?_;have kk:∀b o,b∉[e,it]->s.heap.get? b=some o->h2.get? b=some o:=λb o nb q=>by
   simp only[Fl,Fp,or_false,not_or] at nb;exact (sb.2 b nb.1).trans (z5 b o nb.1 nb.2 q)
  have le:e<s.heap.objs.size:=bM te;have gT:h2.get? s.heap.objs.size=some { cls:=.type "tuple",data:=.seq #[.int i s.toks,u] }:=(sb.2 _ (F9 le)).trans z3;refine⟨.ref s.heap.objs.size,upd H s.heap.objs.size (.tup [.int i,x]),I.turnedN (t':=s.toks+1) hf kk (bD _) ⟨by show 2<=sizeLine; decide,[.int i s.toks,u],.cons ⟨_,rfl⟩ (.cons ru .nil),_,gT,rfl,⟨_,rfl⟩,rfl⟩,rfl,
   ⟨x,_,rfl,I.hok.fresh (bD _),rfl,λzs hq=>by rw[I.list_inj hq hx]; exact ex⟩,⟨⟨u,by simpa using z1'⟩,z2.at λo q=>(sb.2 it (GC ne)).trans q⟩,λb hb=>?_⟩
  obtain⟨o,q,_⟩:∃o,s.heap.get? b=some o/\True:=by
   simp only[Fl,Fp,or_false] at hb;obtain⟨o1,e1,_,d1⟩:=t1;rcases hb with rfl | rfl
   .exact⟨_,te,trivial⟩
   .exact⟨o1,e1,trivial⟩
  rw[bK (G9 (Heap.lt_size q))];exact (hf b hb).1
 done:=by
  intro X hP hw hK hc i pins s σ H E I hf st hg;subst hP hw hK;obtain⟨xs,hx,hend⟩:=hg;obtain⟨its,rv,p,hz⟩:=I.list hx;obtain⟨⟨old,te⟩,t1⟩:=st;have l1:=rv.length;refine wpAny_pyNext_enum_end (I.ok.hd hc) te t1 p.isList (by simp; omega) λh' kp=>⟨rfl,I.turnedL (t':=s.toks) hf λb o nb q=>?_⟩
  simp only[Fl,Fp,or_false,not_or] at nb;exact kp b o nb.2 q
 self:=λ_ _ _ _ _ st h=>by
  obtain⟨⟨old,te⟩,_⟩:=st;exact Hw te h
section
variable {X:Cx}{es:au}{k1:Nat}{tp:Pos}
def rC (K:bm)(ta:TA):TI:=λσ H R=>ta σ H λvs H1=>∃a b xs ys,vs=[.ref a,.ref b]/\SqL K H1 a xs/\SqL K H1 b ys/\R (rX K a b) H1
def Bk {a b:Expr}{ta:TA}{p pos:Pos}(hg:Gl X "zip")(hm:X.mg "zip" = none)(hv:bootBuiltins "zip" = some (.type "zip"))(ha:PA X [a,b] ta)(hs:starEach [a,b] X.env=[(false,eval a X.env),(false,eval b X.env)]:=by rfl)(hs2:starEach [b] X.env=[(false,eval b X.env)]:=by rfl) :
  PI X (.Tuple es k1 tp) (.Call (.Name "zip" p) [a,b] [] pos) (rC X.K ta):=by
 intro pins s σ H R I h;refine Call_ (gW I hg hm hv (FJ (bh (ha pos pins s σ H _ I h) λus s1 hZz=>?_) (by rw[hs,hs2]) (by rw[hs2]; rfl)));obtain⟨vs,H1,I1,r1,q1⟩:=hZz;obtain⟨l1,l2,xs,ys,rfl,hx,hy,q⟩:=q1;obtain⟨u,v,rfl,ru,rv⟩:=vals2 r1;cases ru;cases rv;obtain⟨its,rx,px,hzx⟩:=I1.list hx;obtain⟨its2,ry,py,hzy⟩:=I1.list hy;refine call_zip_2 px.isList py.isList λh' z1 z2 z3 z4 z5 z6 z7=>?_;refine wpAny_pyIter_zip (s:={ s1 with heap:=h' }) z1 ⟨_,_,_,_,H1,rfl,I1.kept (t':=s1.toks) z7,Cv l1 l2 (s1.heap.objs.size+4) (s1.heap.objs.size+2) (s1.heap.objs.size+3) s1.heap.objs.size (s1.heap.objs.size+1) (cY (Gp _)) (cY (Gp _)),⟨z1,z2,⟨_,_,z3⟩,z4,z5⟩,λb hb=>?_,q⟩;have lb:s1.heap.objs.size<=b:=by
  simp only[Fl,Fp,or_false] at hb;rcases hb with rfl | rfl | rfl | rfl | rfl <;> omega
 exact I1.fpOk lb (I1.hok.fresh lb)
end
end L2
end
section
namespace St
open PySem PyProof.Rows
noncomputable def subs:Nat->List ak
 | 0=>[[]]
 | n+1=>subs n++(subs n).map (·++[n])
noncomputable def ins (l:ak)(k:Nat):ak:=l.filter (λx=>Nat.blt x k)++k::l.filter (λx=>Nat.blt k x)
noncomputable def b1 (l:ak)(k:Nat):Bool:=l.contains k||((!SetTable.has l.toArray k)&&(SetTable.below l.toArray k == (l.filter (λx=>Nat.blt x k)).length)&&(l.take (l.filter (λx=>Nat.blt x k)).length++k::l.drop (l.filter (λx=>Nat.blt x k)).length == ins l k)&&(subs 6).contains (ins l k))
def yV:((subs 6).all λl=>(List.range 6).all λk=>b1 l k)=true:=by decide +kernel
noncomputable def hs (l:ak):Array Int:=(l.map Int.ofNat).toArray
noncomputable def b2 (m:Nat)(l:ak):Bool:=((SetTable.layClean m (hs l)).map λowner=>(List.range (m+1)).filterMap λj=>(owner.getD j none).map (j,·)) == some (l.zip (List.range l.length))
noncomputable def gm (l:ak):Nat:=SetTable.sizeAbove (SetTable.grown l.length) - 1
noncomputable def sN (l:ak):Bool:=b2 (gm l) l&&(Nat.blt 4 l.length||b2 7 l)&&b2 15 l&&(gm l == 7&&Nat.ble l.length 4||gm l == 15||gm l == 31)
def Dv:((subs 6).all sN)=true:=by decide +kernel
noncomputable def b3 (l:ak):Bool:=(List.range (l.length+1)).all λi=>SetTable.below l.toArray (if i=0 then 0 else l.getD (i - 1) 0+1) == i
def uT:((subs 6).all b3)=true:=by decide +kernel
noncomputable def b4 (l:ak):Bool:=decide (l.length<=6)&&l.all (λx=>Nat.blt x 6)&&decide (l.Pairwise (· < ·))
def Db:((subs 6).all b4)=true:=by decide +kernel
noncomputable def b5 (l:ak):Bool:=((List.range 6).filter l.contains == l)&&(List.range 6).all λk=>(subs 6).contains (l.filter (· != k))
def BB {m k:Nat}(hm:m=7\/m=15\/m=31)(hk:k<6):SetTable.bits (Int.ofNat k) % (m+1)=k:=by
 have:∀m∈[7,15,31],∀k∈List.range 6,SetTable.bits (Int.ofNat k) % (m+1)=k:=by decide +kernel
 exact this m (by simpa using hm) k (FE.mpr hk)
def B4 {t:SetTable}{k:Nat}(hm:t.mask=7\/t.mask=15\/t.mask=31)(hk:k<6)(h1:SetTable.has t.place k=false)(h2:SetTable.has t.dummies k=false):t.freeSlot (Int.ofNat k)=some (k,false):=by
 have hs:t.slot k=.empty:=by
  show (if SetTable.has t.place k=true then _ else if SetTable.has t.dummies k=true then _ else _)=_;rw[h1,h2];rfl
 obtain⟨n,hn⟩:∃n,10 * SetTable.turns t.mask=n+1:=⟨10 * t.mask+149,by unfold SetTable.turns; omega⟩
 have e:(t.probeStart (Int.ofNat k)).j=k:=BB hm hk;unfold SetTable.freeSlot SetTable.probe;rw[hn];unfold SetTable.probe.go;rw[e,hs];rfl
structure TG (b:Bool)(l D:ak)(t:SetTable):Prop where
 mem:l∈subs 6
 place:t.place=l.toArray
 dum:∃ds,ds∈subs 6/\t.dummies=ds.toArray/\∀x∈ds,x∈D
 mask:t.mask=7/\t.fill<=4\/t.mask=15\/t.mask=31
 led:t.led=b
 plain:t.plain=true
def SG (b:Bool)(h:Heap)(a:Addr)(l D:ak):Prop:=∃es ep t,h.get? a=some { cls:=.type "set",dict:=none,data:=.set es ep t }/\es.toList.map (·.1)=l.map Int.ofNat/\(∀e∈es.toList,∃tk,e.2=.int e.1 tk)/\TG b l D t
def mem_b4 {l:ak}(h:l∈subs 6):l.length<=6/\(∀x∈l,x<6)/\l.Pairwise (· < ·):=by
 have:=eQ Db l h;simp only[b4,tw,Fw,List.all_eq_true] at this;exact⟨this.1.1,λx hx=>G0 (this.1.2 x hx),this.2⟩
def tR {k:Nat}(h:k<6):hashInt (Int.ofNat k)=Int.ofNat k:=by
 have:∀j∈List.range 6,hashInt (Int.ofNat j)=Int.ofNat j:=by decide +kernel
 exact this k (FE.mpr h)
theorem TG.size {b:Bool}{l D:ak}{t:SetTable}(h:TG b l D t):t.place.size=l.length:=by rw[h.place]; simp
theorem TG.fill {b:Bool}{l D:ak}{t:SetTable}(h:TG b l D t):t.fill<=l.length+6:=by
 obtain⟨ds,d1,d2,_⟩:=h.dum;have:=(mem_b4 d1).1;rw[SetTable.fill,h.size,d2,Fe];omega
theorem TG.fits {b:Bool}{l D:ak}{t:SetTable}{n:Nat}(h:TG b l D t)(hn:n=l.length):t.fits n=true:=by
 have h6:=(mem_b4 h.mem).1;have hf:=h.fill;simp only[SetTable.fits,h.size,tw,Fi,Fw];refine⟨hn.symm,?_⟩;rcases h.mask with ⟨e,q⟩ | e | e <;> omega
def TG.mask3 {b:Bool}{l D:ak}{t:SetTable}(h:TG b l D t):t.mask=7\/t.mask=15\/t.mask=31:=h.mask.imp And.left id
def ma {prog:Program}{w:World}{es:Array (Int×Value)}{l:ak}(hm:l∈subs 6)(h1:es.toList.map (·.1)=l.map Int.ofNat)(h2:∀e∈es.toList,∃tk,e.2=.int e.1 tk):ElemsOf (intKind prog w) es.toList:=by
 intro e he;obtain⟨tk,et⟩:=h2 e he;have:e.1∈l.map Int.ofNat:=by rw[<-h1]; exact FC he
 obtain⟨k,hk,ek⟩:=fh this;refine⟨⟨e.1,by rw[et]; exact intKind_is _ _ _ _,?_⟩,by rw[et]; rfl⟩;show e.1=hashInt e.1;rw[<-ek,tR ((mem_b4 hm).2.1 k hk)]
def gS {es:Array (Int×Value)}{l:ak}(h1:es.toList.map (·.1)=l.map Int.ofNat):es.size=l.length:=by
 have:=congrArg List.length h1;simpa using this
def ins_of {l:ak}{k:Nat}(hm:l∈subs 6)(hk:k<6)(hn:k∉l):SetTable.has l.toArray k=false/\SetTable.insertAt l.toArray (SetTable.below l.toArray k) k=(ins l k).toArray/\SetTable.below l.toArray k=(l.filter (λx=>Nat.blt x k)).length/\l.take (l.filter (λx=>Nat.blt x k)).length++k::l.drop (l.filter (λx=>Nat.blt x k)).length=ins l k/\ins l k∈subs 6/\(ins l k).length=l.length+1:=by
 have q:b1 l k=true:=eQ (eQ yV l hm) k (FE.mpr hk);have hc:l.contains k=false:=by simpa using hn
 simp only[b1,hc,Ii,tw,Fi,Gw,Hx] at q;obtain⟨⟨⟨q1,q2⟩,q3⟩,q4⟩:=q;refine⟨q1,?_,q2,q3,q4,?_⟩
 .rw[q2];apply HG.mp;rw[SetTable.toList_insertAt];simpa using q3
 .rw[<-q3,Fx,List.length_cons,GM,HF];have:(l.filter (λx=>Nat.blt x k)).length<=l.length:=Gx _ _;omega
def Eu {b:Bool}{l D:ak}{t:SetTable}{es:Array (Int×Value)}{k:Nat}{x:Value}(h:TG b l D t)(h1:es.toList.map (·.1)=l.map Int.ofNat)(hk:k<6)(hn:k∉l)(hD:k∉D) :
  ∃es' t',layNew t es (Int.ofNat k) x=(es',t',false,false)/\es'.toList.map (·.1)=(ins l k).map Int.ofNat/\(∀e∈es'.toList,e∈es.toList\/e=(Int.ofNat k,x))/\t'.mask=t.mask/\t'.place=(ins l k).toArray/\t'.dummies=t.dummies/\t'.led=b/\t'.plain=true/\t'.fill=t.fill+1/\ins l k∈subs 6:=by
 obtain⟨q1,hp,q2,q3,q4,hlen⟩:=ins_of h.mem hk hn;obtain⟨ds,d1,d2,d3⟩:=h.dum;have hnod:SetTable.has t.dummies k=false:=by rw[d2]; exact (ins_of d1 hk λe=>hD (d3 k e)).1
 have hnop:SetTable.has t.place k=false:=by rw[h.place]; exact q1
 have f1:t.freeSlot (Int.ofNat k)=some (k,false):=B4 h.mask3 hk hnop hnod;rw[<-h.place] at hp q2;have hf:=h.fill;have h6:=(mem_b4 h.mem).1;have hfl:({ t with place:=(ins l k).toArray,dummies:=t.dummies }:SetTable).fill=t.fill+1:=by
  simp only[SetTable.fill,h.size,Fe,hlen];omega
 have hfit:({ t with place:=(ins l k).toArray,dummies:=t.dummies }:SetTable).fits (l.length+1)=true:=by
  simp only[SetTable.fits,hfl,tw,Fi,Fw,Fe,hlen];refine⟨trivial,?_⟩;rcases h.mask with ⟨e,q⟩ | e | e <;> omega
 have hes:(SetTable.insertAt es (SetTable.below t.place k) (Int.ofNat k,x)).size=l.length+1:=by
  rw[<-Array.length_toList,(SetTable.insertAt_perm _ _ _).length_eq,Ig,Fx,Array.length_toList,gS h1];rfl
 refine⟨SetTable.insertAt es (SetTable.below t.place k) (Int.ofNat k,x),{ t with place:=(ins l k).toArray },?_,?_,λe he=>?_,rfl,rfl,rfl,h.led,h.plain,hfl,q4⟩
 .unfold layNew;rw[f1];dsimp only[SetTable.put];rw[hnod,hp];simp only[Fm,if_false];rw[hes];simp only[SetTable.orStandIn,hfit,if_true,HH]
 .rw[SetTable.toList_insertAt,q2,HK,Fh,HI,HJ,h1,<-HI,<-HJ,<-q3];simp
 .have:=(SetTable.insertAt_perm es (SetTable.below t.place k) (Int.ofNat k,x)).mem_iff.mp he;rw[Ig,FD,Fc] at this;exact this
def Ac {m f mv:Nat}{ld pl:Bool}{l:ak}{es:Array (Int×Value)}(q:b2 m l=true)(h1:es.toList.map (·.1)=l.map Int.ofNat):SetTable.laid m f mv ld pl (es.map (·.1))=some (⟨m,l.toArray,#[],f,ld,mv,pl⟩,(List.range l.length).toArray):=by
 simp only[b2,Fi] at q;obtain⟨owner,o1,o2⟩:=dG q;have hh:es.map (·.1)=hs l:=by
  apply HG.mp;rw[Array.toList_map,h1];rfl
 have hzip:(l.zip (List.range l.length)).map (·.1)=l:=by rw[List.map_fst_zip]; simp
 have hzip2:(l.zip (List.range l.length)).map (·.2)=List.range l.length:=by rw[List.map_snd_zip]; simp
 unfold SetTable.laid;rw[hh];show (SetTable.layClean m (hs l)).bind _=_;rw[o1];show some _=some _;rw[show (List.range (m+1)).filterMap (λj=>(owner.getD j none).map (j,·))=l.zip (List.range l.length) from o2,hzip,hzip2]
def AG {l:ak}{es:Array (Int×Value)}(hz:es.size=l.length):(List.range l.length).toArray.filterMap (es[·]?)=es:=by
 apply HG.mp;rw[Array.toList_filterMap];show (List.range l.length).filterMap (λi=>es[i]?)=es.toList;rw[<-hz];exact filterMap_getElem?_range es
def xZ {b:Bool}{l D:ak}{t:SetTable}{es:Array (Int×Value)}(hm:l∈subs 6)(h1:es.toList.map (·.1)=l.map Int.ofNat)(hl:t.led=b)(hp:t.plain=true) :
  ∃t',relayAll t es (SetTable.grown es.size)=(es,t',false)/\TG b l D t':=by
 have q:=eQ Dv l hm;simp only[sN,tw,FX,Fi] at q;obtain⟨⟨⟨q1,_⟩,_⟩,q4⟩:=q;have hz:es.size=l.length:=gS h1;have h6:=(mem_b4 hm).1;have TT:TG b l D ⟨gm l,l.toArray,#[],t.finger,t.led,t.movedTo (gm l),t.plain⟩:=by
  refine⟨hm,rfl,⟨[],by decide +kernel,rfl,λx hx=>by cases hx⟩,?_,hl,hp⟩;rcases q4 with (⟨q4,q5⟩ | q4) | q4
  .exact .inl ⟨q4,by simpa[SetTable.fill] using G0 q5⟩
  .exact .inr (.inl q4)
  .exact .inr (.inr q4)
 refine⟨_,?_,TT⟩;have hr:t.relaid (es.map (·.1)) (SetTable.grown es.size)=some (⟨gm l,l.toArray,#[],t.finger,t.led,t.movedTo (gm l),t.plain⟩,(List.range l.length).toArray):=by
  unfold SetTable.relaid;rw[hz];exact Ac q1 h1
 have hcov:coversAll (List.range l.length).toArray es.size=true:=by
  unfold coversAll;rw[hz];exact List.isPerm_iff.mpr (List.Perm.refl _)
 unfold relayAll;rw[hr];dsimp only;rw[AG hz,hcov,TT.fits hz];rfl
section
variable {prog:Program}{w:World}{A:Around}{E:Value->Shared->Prop}{s:Shared}
def SG.store {b:Bool}{h:Heap}{a:Addr}{es es':Array (Int×Value)}{ep:Nat}{t t':SetTable}{l D:ak}(ho:h.get? a=some { cls:=.type "set",dict:=none,data:=.set es ep t })(h1:es'.toList.map (·.1)=l.map Int.ofNat)(h2:∀e∈es'.toList,∃tk,e.2=.int e.1 tk)(ht:TG b l D t') :
  (h.update a (Obj.putSet es' t')).get? a=some { cls:=.type "set",dict:=none,data:=.set es' (ep+1) t' }/\SG b (h.update a (Obj.putSet es' t')) a l D:=by
 have e:=F5 (Obj.putSet es' t') ho rfl;exact⟨e,es',ep+1,t',e,h1,h2,ht⟩
def small_line {n:Nat}(h:n<=6):n<=sizeLine:=b8 h (by decide)
def xr {a:Addr}{l D:ak}{b:Bool}{k:Nat}{tk:Tok}{Q:Bool->Shared->Prop}(hS:SG b s.heap a l D)(hk:k<6)(hD:k∉D)
  (h:∀h' r,Heap.SameBut a s.heap h'->SG b h' a (if k∈l then l else ins l k) D->Q r { s with heap:=h' }) :
  wpAny (model prog w) A (setAddHashed a (.int (Int.ofNat k) tk) ((intKind prog w).hash (Int.ofNat k))) Q E s:=by
 obtain⟨es,ep,t,ho,h1,h2,ht⟩:=hS;have hel:ElemsOf (intKind prog w) es.toList:=ma ht.mem h1 h2;have hz:=gS h1;have h6:=(mem_b4 ht.mem).1;have hf:t.fits es.size=true:=ht.fits hz;have hb:es.size<scanBound:=by unfold scanBound; omega
 have hkey:(intKind prog w).is (Int.ofNat k) (.int (Int.ofNat k) tk)=true:=intKind_is _ _ _ _;unfold setAddHashed setAddHashedIn;refine GK (aM (Hy ho rfl hf ?_));dsimp only;rw[byScan_of (knd:=intKind prog w) rfl hb hel];simp only[↓reduceIte];unfold setAddByScan;refine aM ?_;refine aM (wpAny_rule ?_);refine aM (wpAny_setScan_of (knd:=intKind prog w) hkey ho rfl hf hel ?_);have hin:∀e∈es.toList,(intKind prog w).is (Int.ofNat k) e.2=true->k∈l:=by
  intro e he hi;obtain⟨tk',et⟩:=h2 e he;obtain⟨t2,e2⟩:=Value.isInt_shape (show Value.isInt (Int.ofNat k) e.2=true from hi);rw[et] at e2;injection e2 with e3 _;have:e.1∈l.map Int.ofNat:=by rw[<-h1]; exact FC he
  obtain⟨k',hk',ek⟩:=fh this;rw[e3] at ek;have:k'=k:=Int.ofNat.inj ek;exact this ▸ hk'
 cases hr:List.findIdx? (λe=>(intKind prog w).is (Int.ofNat k) e.2) es.toList with
 | some j=>
  dsimp only;obtain⟨hj,hpj,_⟩:=Gz.mp hr;have hkl:k∈l:=hin _ (Gj hj) hpj;refine bg (bg ?_);have e:s={ s with heap:=s.heap }:=by cases s; rfl
  have:=h s.heap false (Heap.SameBut.refl a s.heap) ⟨es,ep,t,ho,by rw[if_pos hkl]; exact h1,h2,by rw[if_pos hkl]; exact ht⟩;rw[e]; exact this
 | none=>
  dsimp only;have hkl:k∉l:=by
   intro hm;have:Int.ofNat k∈es.toList.map (·.1):=by rw[h1]; exact FC hm
   obtain⟨e,he,ee⟩:=fh this;have:=List.findIdx?_eq_none_iff.mp hr e he;obtain⟨tk',et⟩:=h2 e he;rw[et,ee] at this;have z:(intKind prog w).is (Int.ofNat k) (.int (Int.ofNat k) tk')=true:=intKind_is _ _ _ _;rw[z] at this;cases this
  rw[if_neg hkl] at h;have hh:(intKind prog w).hash (Int.ofNat k)=Int.ofNat k:=tR hk;rw[hh];obtain⟨es',t',hL,e1,e2,m1,m2,m3,m4,m5,m6,m7⟩:=Eu (x:=.int (Int.ofNat k) tk) ht h1 hk hkl hD;rw[hL];dsimp only;have e2':∀e∈es'.toList,∃tk,e.2=.int e.1 tk:=λe he=>by
   rcases e2 e he with q | q
   .exact h2 e q
   .rw[q]; exact⟨tk,rfl⟩
  have hz':=gS e1;have h6':=(mem_b4 m7).1;refine aM ?_;refine bg ?_;rw[m5];simp only[if_true];refine aM ?_;rw[hashByValue_scannable 8 (x:=.int (Int.ofNat k) tk) rfl];refine bg ?_;simp only[plainKind,if_true,Bool.not_false,Bool.true_and];refine aM (wpAny_storeSet_of ho rfl ?_ (small_line (by rw[hz']; exact h6')));by_cases hfull:t'.tooFull=true
  .rw[if_pos hfull];obtain⟨t2,r1,r2⟩:=xZ (b:=b) (D:=D) m7 e1 m4 m5;rw[r1];dsimp only;have hx:=F5 (Obj.putSet es' t') ho rfl;refine aM ?_;refine bg ?_;refine aM (wpAny_storeSet_of (o:={ cls:=.type "set",dict:=none,data:=.set es' (ep+1) t' }) hx rfl ?_ (small_line (by rw[hz']; exact h6')));refine bg (bg (h _ true ((Go s.heap a _).trans (Go _ a _)) (SG.store hx e1 e2' r2).2))
  .rw[if_neg hfull];have hm':t'.mask=7/\t'.fill<=4\/t'.mask=15\/t'.mask=31:=by
    rcases ht.mask with ⟨q,q2⟩ | q
    .refine .inl ⟨m1.trans q,?_⟩;simp only[SetTable.tooFull,m1,q,Fw,ge_iff_le] at hfull;omega
    .exact .inr (by rw[m1]; exact q)
   refine bg (bg (h _ true (Go s.heap a _) (SG.store ho e1 e2' ⟨m7,m2,by rw[m3]; exact ht.dum,hm',m4,m5⟩).2))
end
end St
end
section
namespace St
open PySem PyProof.Rows PySem.W
def yv:entryFor table "set.__iter__" = some Builtin.«frozenset.__iter__»:=
 entryFor_alias (id' := "frozenset.__iter__") (by kernel_rfl) rfl (by decide +kernel) (by kernel_rfl)
def kF:Slot "set_iterator" "__next__" "set_iterator.__next__" :=
 .of (owner := "set_iterator") (n := "__next__") (by rw[Hk,Gy]; kernel_rfl) (by decide +kernel) (by decide +kernel) (by decide +kernel)
  (by first | exact .inl (by decide +kernel) | exact .inr (by decide +kernel)) (by rw[Hv]; kernel_rfl)
def tq:entryFor table "set_iterator.__next__" = some Builtin.«set_iterator.__next__»:=entryFor_of_tree (by kernel_rfl)
theorem vW:Manifest.owners.lookup (String.ofList ['r','o','t','a','r','e','t','i','_','t','e','s'].reverse)=some Manifest.sig_set_iterator:=by kernel_rfl
def vz (a:Value):argsOk "set_iterator.__next__" ⟨[a],[]⟩:=by
 unfold argsOk; rw[signature?_of (id := "set_iterator.__next__") (n:=['_','_','t','x','e','n','_','_']) (o:=['r','o','t','a','r','e','t','i','_','t','e','s']) (by kernel_rfl) vW]; kernel_rfl
def vH:Slot "set_iterator" "__iter__" "set_iterator.__iter__" :=
 .of (owner := "set_iterator") (n := "__iter__") (by rw[Hk,Gy]; kernel_rfl) (by decide +kernel) (by decide +kernel) (by decide +kernel)
  (by first | exact .inl (by decide +kernel) | exact .inr (by decide +kernel)) (by rw[Hv]; kernel_rfl)
def C7:typeLookup (.type "set") "__len__" = pure (some (.builtin "set.__len__")):=by rw[Hk,Gy]; kernel_rfl
section
variable {prog:Program}{w:World}{A:Around}{E:Value->Shared->Prop}{s:Shared}{r:Addr}
def zh {Q:Bool->Shared->Prop}(hT:s.TypeIs (.ref r) "set")(h:Q false s):wpAny (model prog w) A (Builtin.List.listLengthHint (.ref r)) Q E s:=by
 unfold Builtin.List.listLengthHint;refine aM (wpAny_specialOf hT C7 ?_);generalize hid:("set.__len__" : String)=id0;wp_delta
 rw[show splitId id0=some ("set", "__len__") from by subst hid; decide +kernel];subst hid;refine aM (wpAny_isInstance (T := "set") (b:=true) hT (by rw[Hv]; kernel_rfl) ?_);refine FY (λhab=>absurd hab (by decide)) (λ_=>?_);refine FY (λ_=>?_) (λhab=>absurd (by decide +kernel) hab);refine aM (HR hT ?_);exact bg h
def qR {Q:Bool->Shared->Prop}(h:Q (w.params.followText "set-order") s):wpAny (model prog w) A setsByText Q E s:=by
 unfold setsByText;refine aM (wpAny_askSetting ?_);exact bg h
def zC {a:Addr}{es:Array (Int×Value)}{ep:Nat}{t:SetTable}{Q:Bool->Shared->Prop}(ho:s.heap.get? a=some { cls:=.type "set",dict:=none,data:=.set es ep t })(hf:t.fits es.size=true)(hp:t.plain=true)(h:Q false s) :
  wpAny (model prog w) A (setDrawn a) Q E s:=by
 unfold setDrawn;refine aM (Hy ho rfl hf ?_);dsimp only;refine aM (qR ?_);refine bg ?_;show Q (!w.params.followText "set-order" && (!t.plain&&decide (es.size > 1))) s;rw[hp,HH,Bool.false_and,Bool.and_false];exact h
end
noncomputable abbrev lu (slot i:Nat)(a:Addr)(n ep:Nat):Obj:={ cls:=.type "set_iterator",data:=.fields #[.int slot 0,.int i 0,.ref a,.int n 0,.int ep 0] }
section
variable {prog:Program}{w:World}{A:Around}{E:Value->Shared->Prop}{s:Shared}{a:Addr}{es:Array (Int×Value)}{ep:Nat}{t:SetTable}
def Bi {Q:Value->Shared->Prop}(ho:s.heap.get? a=some { cls:=.type "set",dict:=none,data:=.set es ep t })(hf:t.fits es.size=true)(hp:t.plain=true)
  (hQ:Q (.ref s.heap.objs.size) { s with heap:=s.heap.push (lu 0 0 a es.size ep) }):wpAny (model prog w) A (pyIter (.ref a)) Q E s:=by
 have hT:s.TypeIs (.ref a) "set":=⟨_,ho,rfl⟩
 refine wpAny_pyIter_slot hT F.slot_set_iter (Gi F.slot_set_iter hT yv ?_ (F.args_set_iter_1 _));unfold Builtin.«frozenset.__iter__» Builtin.Frozenset.slot0 slotArgs;simp only[List.isEmpty_nil,HH,Fm,↓reduceIte,bind_assoc,List.length_nil,G3];unfold Builtin.Frozenset.addrOf Builtin.Frozenset.sizeOf;refine aM (bg ?_);try dsimp only
 refine aM (bg ?_);refine aM (aM (HM ho rfl hf (bg ?_)));refine aM (zC ho hf hp ?_);simp only[Fm,if_false];refine aM (bg ?_);refine aM (wpAny_setEpoch_of ho rfl hf ?_);unfold newFields;refine aM (FF (bg ⟨_,rfl, "set_iterator",_,⟨_,dD _ rfl,rfl⟩,kF.lookup,?_⟩));exact hQ
noncomputable def ord (w:World)(a:Addr)(ep:Nat)(es:Array (Int×Value)):Array (Int×Value):=if w.params.followText "set-order" then pickOrder (w.params.setOrder a ep) es else es
noncomputable def nextOf (w:World)(a:Addr)(ep:Nat)(es:Array (Int×Value))(t:SetTable)(slot i:Nat):Option (Value×Nat):=
 if w.params.followText "set-order" then ((ord w a ep es)[i]?).map λe=>(e.2,slot) else match es[SetTable.below t.place slot]?,t.place[SetTable.below t.place slot]? with
  | some (_,x),some j=>some (x,j+1)
  | _,_=>none
def vt {slot i:Nat}{Q:Option (Value×Nat)->Shared->Prop}(ho:s.heap.get? a=some { cls:=.type "set",dict:=none,data:=.set es ep t })(hf:t.fits es.size=true)(hp:t.plain=true)(hl:t.led = !w.params.followText "set-order")(h:Q (nextOf w a ep es t slot i) s) :
  wpAny (model prog w) A (setNext a slot i ep) Q E s:=by
 unfold setNext;refine aM (Hy ho rfl hf ?_);dsimp only;refine aM (qR ?_);unfold nextOf ord at h;cases hb:w.params.followText "set-order" with
 | true=>
  rw[hb] at h;simp only[if_true,G3,Fm,if_false] at h ⊢;refine aM ?_;unfold setWalk;refine aM (Hy ho rfl hf ?_);dsimp only;refine aM (qR ?_);rw[hb];simp only[if_true];refine aM (wpAny_askSetting ?_);exact bg (bg h)
 | false=>
  rw[hb] at h hl;simp only[Fm,if_false] at h ⊢;refine FY (λhab=>absurd (show (!t.plain&&decide (es.size > 1))=true from hab) (by rw[hp]; simp)) (λ_=>?_);refine aM ?_;refine FY (λhab=>absurd (show (!t.led&&!es.isEmpty)=true from hab) (by rw[hl]; simp)) (λ_=>?_);exact bg (bg h)
end
theorem sI {α:Type}:∀{l:List α} {i:Nat} (h:i<l.length),List.Perm (l[i]::l.eraseIdx i) l
 | x::l,0,_=>List.Perm.refl _
 | x::l,i+1,h=>by
  have:=sI (l:=l) (i:=i) (Nat.lt_of_succ_lt_succ h);rw[List.eraseIdx_cons_succ,List.getElem_cons_succ];exact (List.Perm.swap x _ _).trans (this.cons x)
theorem uE {α:Type}(next:Nat->Nat):∀(fuel k:Nat) (left:List α) (out:Array α),fuel=left.length->List.Perm (pickOrder.go next fuel k left out).toList (out.toList++left)
 | 0,k,left,out,h=>by
  have:left=[]:=List.length_eq_zero_iff.mp h.symm;subst this;simp[pickOrder.go]
 | fuel+1,k,left,out,h=>by
  unfold pickOrder.go;have hl:next k % left.length<left.length:=Nat.mod_lt _ (by omega);rw[FH hl];dsimp only;refine (uE next fuel (k+1) _ _ ?_).trans ?_
  .rw[List.length_eraseIdx,if_pos hl]; omega
  .rw[Ig,GE];refine List.Perm.append_left _ ?_;exact sI hl
def wJ {α:Type}(next:Nat->Nat)(xs:Array α):List.Perm (pickOrder next xs).toList xs.toList:=by
 have:=uE next xs.size 0 xs.toList #[] (by simp);simpa[pickOrder] using this
def qk (w:World)(a:Addr)(ep:Nat)(es:Array (Int×Value)):List.Perm (ord w a ep es).toList es.toList:=by
 unfold ord;split
 .exact wJ _ _
 .exact List.Perm.refl _
def qu (w:World)(a:Addr)(ep:Nat)(es:Array (Int×Value)):(ord w a ep es).size=es.size:=by
 rw[<-Array.length_toList,(qk w a ep es).length_eq,Array.length_toList]
noncomputable def slotAt (w:World)(l:ak)(i:Nat):Nat:=if w.params.followText "set-order" then 0 else if i=0 then 0 else l.getD (i - 1) 0+1
section
variable {prog:Program}{w:World}{A:Around}{E:Value->Shared->Prop}{s:Shared}{a I:Addr}{es:Array (Int×Value)}{ep:Nat}{t:SetTable}{b:Bool}{l D:ak}
def Dk {i:Nat}(ht:TG b l D t)(h1:es.toList.map (·.1)=l.map Int.ofNat)(hi:i<es.size):∃e,(ord w a ep es)[i]? = some e/\nextOf w a ep es t (slotAt w l i) i=some (e.2,slotAt w l (i+1)):=by
 have hz:=gS h1;have ho:i<(ord w a ep es).size:=by rw[qu]; exact hi
 refine⟨(ord w a ep es)[i],by simp[ho],?_⟩;unfold nextOf slotAt;by_cases hb:w.params.followText "set-order" = true
 .simp only[hb,if_true];rw[Hg ho];rfl
 .have q:=eQ uT l ht.mem;simp only[b3,List.all_eq_true,Fi,FE] at q;have q1:=q i (by omega);have hbel:SetTable.below t.place (if i=0 then 0 else l.getD (i - 1) 0+1)=i:=by rw[ht.place]; exact q1
  have hil:i<l.length:=by omega
  have hb':w.params.followText "set-order" = false:=by simpa using hb
  simp only[hb',Fm,if_false,hbel];have e1:es[i]? = some es[i]:=by simp[hi]
  have e2:t.place[i]? = some (l[i]'hil):=by rw[ht.place]; simp[hil]
  have e3:(ord w a ep es)=es:=by unfold ord; rw[if_neg hb]
  rw[e1,e2];simp only[e3,Nat.add_eq_zero_iff,Nat.succ_ne_self,and_false,if_false,Nat.add_sub_cancel,Nat.reduceAdd,Nat.one_ne_zero];simp[hil]
def zr (ht:TG b l D t)(h1:es.toList.map (·.1)=l.map Int.ofNat):nextOf w a ep es t (slotAt w l es.size) es.size=none:=by
 have hz:=gS h1;unfold nextOf slotAt;by_cases hb:w.params.followText "set-order" = true
 .simp only[hb,if_true];rw[Hz (by rw[qu]; exact bD _)];rfl
 .have q:=eQ uT l ht.mem;simp only[b3,List.all_eq_true,Fi,FE] at q;have q1:=q es.size (by omega);have hbel:SetTable.below t.place (if es.size=0 then 0 else l.getD (es.size - 1) 0+1)=es.size:=by rw[ht.place]; exact q1
  have hb':w.params.followText "set-order" = false:=by simpa using hb
  simp only[hb',Fm,if_false,hbel];have e1:es[es.size]? = none:=by simp
  rw[e1]
def BC {i slot nx:Nat}{x:Value}{Q:aA->Shared->Prop}(hI:s.heap.get? I=some (lu slot i a es.size ep))(ho:s.heap.get? a=some { cls:=.type "set",dict:=none,data:=.set es ep t })(hf:t.fits es.size=true)(hp:t.plain=true)(hl:t.led = !w.params.followText "set-order")(hn:nextOf w a ep es t slot i=some (x,nx))
  (hQ:∀h',h'.get? I=some (lu nx (i+1) a es.size ep)->Heap.SameBut I s.heap h'->Q (some x) { s with heap:=h' }):wpAny (model prog w) A (pyNext (.ref I)) Q E s:=by
 have hT:s.TypeIs (.ref I) "set_iterator":=⟨_,hI,rfl⟩
 unfold pyNext;refine aM (wpAny_attempt (wpAny_callSpecial?_slot (name:=Str.ofString "__next__") hT kF (Gi kF hT tq ?_ (vz _))));unfold Builtin.«set_iterator.__next__» slotArgs;simp only[List.isEmpty_nil,HH,Fm,↓reduceIte,bind_assoc,List.length_nil,G3];refine aM (bg ?_);refine aM (wpAny_fieldsOf hI rfl ?_);dsimp only;refine aM (HM ho rfl hf ?_);refine FY (λhab=>absurd hab (by simp)) (λ_=>?_);simp only[Int.toNat_natCast];refine aM (vt ho hf hp hl ?_);rw[hn];dsimp only;refine aM (wpAny_setField_rec hI (by simp) λh1 g1 s1=>?_);refine aM (wpAny_setField_rec (s:={ s with heap:=h1 }) g1 (by simp) λh2 g2 s2=>?_);exact bg ⟨_,rfl,bg (hQ h2 g2 (s1.trans s2))⟩
def A7 {i slot:Nat}{Q:aA->Shared->Prop}(hh:A.handled=none)(hI:s.heap.get? I=some (lu slot i a es.size ep))(ho:s.heap.get? a=some { cls:=.type "set",dict:=none,data:=.set es ep t })(hf:t.fits es.size=true)(hp:t.plain=true)(hl:t.led = !w.params.followText "set-order")(hn:nextOf w a ep es t slot i=none)
  (hQ:∀h',Heap.ExtBut I s.heap h'->Q none { s with heap:=h' }):wpAny (model prog w) A (pyNext (.ref I)) Q E s:=by
 have hT:s.TypeIs (.ref I) "set_iterator":=⟨_,hI,rfl⟩
 unfold pyNext;refine aM (wpAny_attempt (wpAny_callSpecial?_slot (name:=Str.ofString "__next__") hT kF (Gi kF hT tq ?_ (vz _))));unfold Builtin.«set_iterator.__next__» slotArgs;simp only[List.isEmpty_nil,HH,Fm,↓reduceIte,bind_assoc,List.length_nil,G3];refine aM (bg ?_);refine aM (wpAny_fieldsOf hI rfl ?_);dsimp only;refine aM (HM ho rfl hf ?_);refine FY (λhab=>absurd hab (by simp)) (λ_=>?_);simp only[Int.toNat_natCast];refine aM (vt ho hf hp hl ?_);rw[hn];dsimp only;refine aM (HX hI rfl (by simp) ?_);show wpAny _ _ (newExc (.type "StopIteration") [] >>= _) _ _ _;refine aM ?_;simp only[newExc,newTuple];refine aM (FF ?_ (by size_fits));refine aM (m:=firstArgMember _ _) (wpAny_of_eq (a:=Value.none) (by first | rfl | (simp only[firstArgMember]; rfl)) ?_);refine FF ?_ (by size_fits);simp only[raiseNew];refine aM (wpAny_handled ?_);rw[show A.in1.handled=none from hh];refine aM (bg (wpAny_throw ?_));refine aM (wpAny_isInstance (T := "StopIteration") (b:=true) ⟨_,dD _ rfl,rfl⟩ isSubtype_stop ?_);exact bg (hQ _ (((Go ..).extBut.push _).push _))
end
def xX:entryFor table "set_iterator.__iter__" = some Builtin.«dict_keyiterator.__iter__»:=
 entryFor_alias (id' := "dict_keyiterator.__iter__") (by kernel_rfl) rfl (by decide +kernel) (by kernel_rfl)
def yb (a:Value):argsOk "set_iterator.__iter__" ⟨[a],[]⟩:=by
 unfold argsOk; rw[signature?_of (id := "set_iterator.__iter__") (n:=['_','_','r','e','t','i','_','_']) (o:=['r','o','t','a','r','e','t','i','_','t','e','s']) (by kernel_rfl) vW]; kernel_rfl
noncomputable abbrev mS (es:Array (Int×Value))(ep:Nat)(t:SetTable):Obj:={ cls:=.type "set",dict:=none,data:=.set es ep t }
section
variable {prog:Program}{w:World}{A:Around}{E:Value->Shared->Prop}{s:Shared}{a I:Addr}{es:Array (Int×Value)}{ep:Nat}{t:SetTable}{l D:ak}
def Ax (w:World)(l:ak):slotAt w l 0=0:=by unfold slotAt; split <;> rfl
def yi (hh:A.handled=none)(hne:a≠I)(ht:TG (!w.params.followText "set-order") l D t)(h1:es.toList.map (·.1)=l.map Int.ofNat) :
  Walks prog w A I [I,a] [I] es.size (λi v=>∃e,(ord w a ep es)[i]? = some e/\v=e.2) (λi h=>h.get? I=some (lu (slotAt w l i) i a es.size ep)/\h.get? a=some (mS es ep t)) where
 sub:=λb hb=>by simp at hb; simp[hb]
 frame:=λ_ _ _ st hk=>⟨hk I (by simp) _ st.1,hk a (by simp) _ st.2⟩
 item:=λi s Q E hi st hQ=>by
  obtain⟨e,e1,e2⟩:=Dk (w:=w) (a:=a) (ep:=ep) ht h1 hi;refine BC st.1 st.2 (ht.fits (gS h1)) ht.plain ht.led e2 λh' g sb=>?_;exact hQ _ h' s.toks ⟨e,e1,rfl⟩ ⟨g,sb.extBut _ _ hne st.2⟩ λb o hb q=>sb.extBut b o (λz=>hb (by simp[z])) q
 done:=λs Q E st hQ=>A7 hh st.1 st.2 (ht.fits (gS h1)) ht.plain ht.led (zr ht h1) λh' he=>hQ h' s.toks λb o hb q=>he b o (λz=>hb (by simp[z])) q
 self:=λi s Q E st hQ=>by
  have hT:s.TypeIs (.ref I) "set_iterator":=⟨_,st.1,rfl⟩
  refine wpAny_pyIter_slot hT vH (Gi vH hT xX ?_ (yb _));show wpAny _ _ (ret (.ref I)) _ _ s;exact bg ⟨_,rfl, "set_iterator",_,hT,kF.lookup,hQ⟩
def AU (ht:TG (!w.params.followText "set-order") l D t)(h1:es.toList.map (·.1)=l.map Int.ofNat):KdlSrc prog w "set" a a es.size (λi v=>∃e,(ord w a ep es)[i]? = some e/\v=e.2) (λh=>h.get? a=some (mS es ep t)) where
 type:=λ_ hm=>⟨_,hm,rfl⟩
 there:=λ_ hm=>⟨bM hm,bM hm⟩
 keep:=λ_ _ hm hk=>hk a (.inl rfl) _ hm
 notList:=by decide
 notTuple:=by decide
 hint:=λ_ _ _ _ hm hq=>zh ⟨_,hm,rfl⟩ hq
 iter:=λA s hh hm=>⟨lu 0 0 a es.size ep,_,(λ_ _ hq=>Bi hm (ht.fits (gS h1)) ht.plain hq),yi hh (cY (bM hm)) ht h1,⟨by rw[Ax]; exact dD _ rfl,bV _ hm⟩⟩
def Ch {T:String}{r d:Addr}{n:Nat}{P:Nat->Value->Prop}{OK:Heap->Prop}{Q:ao->Shared->Prop}(K:KdlSrc prog w T r d n P OK)(hh:A.handled=none)(hok:OK s.heap)(hn:n<=sizeLine)
  (hQ:∀h' tk acc,(∀b o,s.heap.get? b=some o->h'.get? b=some o)->ItemsOf P acc n->Q acc.toList { s with heap:=h',toks:=tk }):wpAny (model prog w) A (collect (.ref r)) Q E s:=by
 unfold collect;refine aM (wpAny_runValue (GX F.entry_proto_collect ?_));rw[GG F.plain_proto_collect _];show wpAny _ A.in1 (newList [] >>= λl=>again (.builtin "list.__iadd__" ⟨[l,.ref r],[]⟩)) _ _ s;refine aM (FF ?_);refine bg ⟨Ik F.plain_list_iadd _,GX F.entry_list_iadd ?_⟩;rw[GG F.plain_list_iadd _];show wpAny _ A.in1 (Builtin.List.listExtendWith (.ref s.heap.objs.size) (.ref r) (.ref s.heap.objs.size)) _ _ _;have hlt:=K.there _ hok;refine kdl_extend (R:=λr s'=>match r with
   | .ok (.ret v)=>wpAny (model prog w) A (match v with
    | .ref a=>do
     match (<-load a).data with
     | .seq xs _=>pure xs.toList
     | _=>unsupported "internal:collect"
    | _=>unsupported "internal:collect") Q E s'
   | .ok _=>False
   | .error e=>E e s') (s:={ s with heap:=s.heap.push { cls:=.type "list",data:=.seq ([]:List Value).toArray } }) K hh (K.keep _ _ hok λb _ o e=>bV _ e) s.heap.objs.size (F9 hlt.1) (F9 hlt.2) (.ref s.heap.objs.size) 0 (dD _ rfl) (λh' tk acc' c' hk hS' hacc=>?_) hn
 show wpAny _ A (load s.heap.objs.size >>= _) _ _ _;refine aM (wpAny_load hS' ?_);exact bg (hQ h' tk acc' (λb o e=>hk b o (cY (bM e)) (bV _ e)) hacc)
def sorted_set {Q:Value->Shared->Prop}(hh:A.handled=none)(hS:SG (!w.params.followText "set-order") s.heap a l D)
  (h:∀h' tk L (vs:ao) n,(∀b o,s.heap.get? b=some o->h'.get? b=some o)->a<L->h'.get? L=some { cls:=.type "list",data:=.seq vs.toArray n }->IntsAre vs (l.map Int.ofNat)->Q (.ref L) { s with heap:=h',toks:=tk }) :
  wpAny (model prog w) A (call (.builtin "sorted") [.ref a]) Q E s:=by
 obtain⟨es,ep,t,ho,h1,h2,ht⟩:=hS;have hz:=gS h1;have h6:=(mem_b4 ht.mem).1;refine Calls.call_function_entry kind_sorted plain_sorted entry_sorted (args_sorted1 _) ?_;unfold Builtin.«sorted»;refine aM (m:=checkCount "sorted" 1 1 _) (bg ?_);refine aM (Ch (AU (prog:=prog) (a:=a) (ep:=ep) ht h1) hh ho (small_line (by omega)) λh' tk acc hk hacc=>?_);refine aM (wpAny_newList ?_ (hsz:=by rw[Array.length_toList,hacc.1]; exact small_line (by omega)));have hvs:acc.toList=(ord w a ep es).toList.map (·.2):=by
  apply GH;intro j;rw[Fv,G1,G1];by_cases hj:j<acc.size
  .obtain⟨e,e1,e2⟩:=hacc.2 j acc[j] (by simp[hj]);rw[e1,Hg hj,e2];rfl
  .have hsz:(ord w a ep es).size<=j:=by rw[qu,<-hacc.1]; omega
   rw[Hz (by omega),Hz hsz];rfl
 have hints:IntsAre acc.toList ((ord w a ep es).toList.map (·.1)):=by
  rw[hvs];have:∀(m:List (Int×Value)),(∀e∈m,∃tk,e.2=.int e.1 tk)->IntsAre (m.map (·.2)) (m.map (·.1)):=by
   intro m;induction m with
   | nil=>intro _; exact IntsAre.nil
   | cons e m ih=>
    intro hm;obtain⟨tk,et⟩:=hm e bW;rw[Fh,Fh,et];exact IntsAre.cons _ _ (ih λx hx=>hm x (bU _ hx))
  exact this _ λe he=>h2 e ((qk w a ep es).mem_iff.mp he)
 have hoL:(h'.push (seqObj "list" acc.toList.toArray 0)).get? h'.objs.size=some (seqObj "list" acc.toList.toArray 0):=dD _ rfl;have hlen:acc.toList.length<64:=by rw[Array.length_toList,hacc.1]; omega
 refine aM (GK (Gi slot_list_sort ⟨_,hoL,rfl⟩ entry_list_sort (list_sort_tree hoL hints hlen λout ns' a1 a2 a3=>⟨_,rfl,?_⟩) (args_list_sort _)));have hns:ns'=l.map Int.ofNat:=by
  have p:ns'.Perm (l.map Int.ofNat):=by
   rw[<-h1];exact a2.trans ((qk w a ep es).map _)
  refine ksm_same p a3 ?_;rw[Ih];exact (mem_b4 ht.mem).2.2.imp λh=>Int.ofNat_le.mpr (GB h)
 subst hns;obtain⟨e,ge⟩:=sortedHeap_at (out:=out) hoL;refine bg ⟨_,rfl,h _ _ h'.objs.size out.toList e (λb o q=>?_) ?_ ?_ a1⟩
 .have hb:b<h'.objs.size:=bM (hk b o q);rw[sortedHeap_old (G9 hb) (by rw[Fq]; exact Gm hb)];exact bV _ (hk b o q)
 .exact bM (hk a _ ho)
 .simpa using ge
end
noncomputable def stp (l:ak)(k:Nat):ak:=if k∈l then l else ins l k
noncomputable def acc (val:Nat->Nat)(i:Nat):ak:=((List.range i).map val).foldl stp []
def C5 (val:Nat->Nat)(i:Nat):acc val (i+1)=stp (acc val i) (val i):=by
 unfold acc;rw[List.range_succ,HK,List.foldl_append];rfl
section
variable {prog:Program}{w:World}{A:Around}{R:Result->Shared->Prop}{I:Addr}{fp wr:am}{G:Array GenState->Array GenState->Prop}{n:Nat}{P:Nat->Value->Prop}{St:Nat->Shared->Prop}
def SG.at {b:Bool}{h h':Heap}{a:Addr}{l D:ak}(x:SG b h a l D)(e:∀o,h.get? a=some o->h'.get? a=some o):SG b h' a l D:=by
 obtain⟨es,ep,t,ho,r⟩:=x;exact⟨es,ep,t,e _ ho,r⟩
def Ei (b:Bool)(W:WalksS prog w A.in1 I fp wr G n P St)(S:Addr)(hSf:S∉fp)(val:Nat->Nat)(hval:∀i v,P i v->val i<6/\∃t,v=.int (Int.ofNat (val i)) t) :
  ∀(k i:Nat) (s:Shared),n - i=k->i<=n->St i s->SG b s.heap S (acc val i) [] ->
   (∀s',Moved (S::wr) G s s'->SG b s'.heap S (acc val n) []->R (.ok (.ret .none)) s') ->
   codeAny (model prog w) A (.builtin "set.update.loop" ⟨[.ref S,.ref I],[]⟩) R s:=by
 have hSw:S∉wr:=λh=>hSf (W.sub _ h);have hsub:∀b∈wr,b∈S::wr:=λb hb=>bU _ hb;intro k;induction k with
 | zero=>
  intro i s hk hi hst hS hR;have hin:i=n:=by omega
  subst hin;refine GX F.entry_set_update_loop ?_;rw[GG Hq _];show wpAny _ A.in1 (pyNext (.ref I) >>= _) _ _ s;refine aM (W.done s _ _ hst λs' hm=>?_);show wpAny _ A.in1 (ret Value.none) _ _ s';exact bg (hR s' (hm.mono hsub) (hS.at λo e=>hm.heap S _ hSw e))
 | succ k ih=>
  intro i s hk hi hst hS hR;have hlt:i<n:=by omega
  refine GX F.entry_set_update_loop ?_;rw[GG Hq _];show wpAny _ A.in1 (pyNext (.ref I) >>= _) _ _ s;refine aM (W.item i s _ _ hlt hst λv s' hP hst' hm=>?_);obtain⟨hv6,t,rfl⟩:=hval i v hP;have hS':SG b s'.heap S (acc val i) []:=hS.at λo e=>hm.heap S _ hSw e;show wpAny _ A.in1 (holding [Value.int (Int.ofNat (val i)) t] (setAdd S (.int (Int.ofNat (val i)) t)) >>= _) _ _ s';refine aM (GK ?_);unfold setAdd;refine GK ?_;refine aM ((intKind prog w).pyHash (k:=Int.ofNat (val i)) (intKind_is _ _ _ _) ?_);refine xr (s:={ s' with toks:=s'.toks+1 }) hS' hv6 (λz=>by cases z) λh' r hsb hS2=>?_;have hSi:SG b h' S (acc val (i+1)) []:=by rw[C5]; exact hS2
  refine bg ⟨Ik Hq _,ih (i+1) _ (by omega) hlt (W.frame _ s' _ _ hst' (F8 _) λb hb o e=>?_) hSi λs'' hm'' hS''=>?_⟩
  .rw[hsb.2 b (λh:b=S=>hSf (by rw[<-h]; exact hb))]; exact e
  .refine hR s'' (Moved.trans W.gtrans ((hm.mono hsub).then_heap (F8 _) λb o hb e=>?_) hm'') hS'';rw[hsb.2 b (λh:b=S=>hb (by rw[h]; exact bW))]; exact e
end
section
variable {prog:Program}{w:World}{A:Around}{E:Value->Shared->Prop}{s:Shared}
def xR (a:Value){Q₁:Value->Shared->Prop}
  (h:Q₁ (.ref s.heap.objs.size) { s with heap:=s.heap.push { cls:=.type "set",dict:=none,data:=.set #[] 0 (.fresh 0 0 (!w.params.followText "set-order")) } }) :
  codeAny (model prog w) A (.call (.builtin "set.__new__") ⟨[.type "set",a],[]⟩) (wants Q₁ E) s:=by
 refine codeAny_of_tree ?_;show wpAny _ A.in1 (do checkBuiltinCall "set.__new__" ⟨[.type "set",a],[]⟩; again (.builtin "set.__new__" ⟨[.type "set",a],[]⟩)) _ _ s;refine aM (wpAny_of_eq (F.newCall_set_1 a) (bg ⟨Ik F.plain_set_new _,GX F.entry_set_new ?_⟩));rw[GG F.plain_set_new _];unfold Builtin.«set.__new__» Builtin.Frozenset.newClass;have hsub:=sub_set_self;obtain⟨hp,g,d,tk,os⟩:=s;dsimp only;wp_walk
 refine wpAny_askSetting (bg ?_);dsimp only;simp only[newObj];refine aM (wpAny_alloc (bg ?_));exact bg h
def BJ (b:Bool){h:Heap}{a:Addr}(e:h.get? a=some { cls:=.type "set",dict:=none,data:=.set #[] 0 (.fresh 0 0 b) }):SG b h a [] []:=
 ⟨#[],0,_,e,rfl,λe he=>by simp at he,⟨by decide +kernel,rfl,⟨[],by decide +kernel,rfl,λx hx=>by cases hx⟩,.inl ⟨rfl,by simp[SetTable.fill,SetTable.fresh]⟩,rfl,rfl⟩⟩
set_option maxHeartbeats 3200000 in
def set_list {l:Addr}{items:aB}{ns:ak}{Q:Value->Shared->Prop}
  (hh:A.handled=none)(hl:s.heap.IsList l items)(hi:IntsAre items.toList (ns.map Int.ofNat))(h6:∀x∈ns,x<6)
  (h:∀(h':Heap) (tk:Nat),SG (!w.params.followText "set-order") h' s.heap.objs.size (ns.foldl stp []) [] ->
   (∀b o,b<s.heap.objs.size->s.heap.get? b=some o->h'.get? b=some o)->Q (.ref s.heap.objs.size) { s with heap:=h',toks:=tk }) :
  wpAny (model prog w) A (call (.type "set") [.ref l]) Q E s:=by
 have hlen:items.size=ns.length:=by have:=IntsAre.length hi; simpa using this
 have hacc:acc (λi=>ns.getD i 0) items.size=ns.foldl stp []:=by
  unfold acc;have:(List.range items.size).map (λi=>ns.getD i 0)=ns:=by
   rw[hlen];apply GH;intro j;by_cases hj:j<ns.length
   .simp[hj]
   .simp[Hb hj]
  rw[this]
 obtain⟨c,tl,hmro⟩:=GS.mro;have hmade:=GS.made;have hsub:=GS.sub;refine HV (codeAny_of_tree ?_);show wpAny _ _ (callAny (.type "set") _) _ _ _;refine bg ⟨HZ _ (by decide +kernel),GX F.entry_type_call ?_⟩;rw[Around.under_plain (weight_type_call_type "set" [.ref l] []) rfl];have h1:=GS.notType;have h2:=GS.canCreate;have hct:=F.typeCall_set_1 (.ref l);repeat (any_goals (first | assumption | wp_step))
 refine Ha (xR (.ref l) (E:=E) (Q₁:=λobj s₁=>obj=.ref s.heap.objs.size/\s₁={ s with heap:=s.heap.push { cls:=.type "set",dict:=none,data:=.set #[] 0 (.fresh 0 0 (!w.params.followText "set-order")) } }) ⟨rfl,rfl⟩) λr s₁ hr=>?_;cases r with
 | error e=>exact hr
 | ok fl=>
  cases fl with
  | ret obj=>
   obtain⟨rfl,rfl⟩:=hr;generalize hled:(!w.params.followText "set-order")=led at *;have hS:(s.heap.push { cls:=.type "set",dict:=none,data:=.set #[] 0 (.fresh 0 0 led) }).get? s.heap.objs.size=some { cls:=.type "set",dict:=none,data:=.set #[] 0 (.fresh 0 0 led) }:=dD _ rfl;have hT:Shared.TypeIs { s with heap:=s.heap.push { cls:=.type "set",dict:=none,data:=.set #[] 0 (.fresh 0 0 led) } } (.ref s.heap.objs.size) "set":=⟨_,hS,rfl⟩
   have hli:=GS.init.lookup;have hbi:=GS.init.bind (.ref s.heap.objs.size);repeat (any_goals (first | assumption | wp_step))
   refine Ha (GD (R:=wants (λr s₂=>r=.none/\∃h' tk,s₂={ s with heap:=h',toks:=tk }/\SG led h' s.heap.objs.size (ns.foldl stp []) [] /\
     (∀b o,b<s.heap.objs.size->s.heap.get? b=some o->h'.get? b=some o)) E) GS.init.plain F.entry_set_init (check_set_init_1 hT ?_)) λr₂ s₂ hr₂=>?_
   .obtain⟨ol,hol,hcl,nl,hdl⟩:=hl;obtain⟨ocls,odict,odata,oslots⟩:=ol;simp only at hcl hdl;subst hcl; subst hdl;have hol':(s.heap.push { cls:=.type "set",dict:=none,data:=.set #[] 0 (.fresh 0 0 led) }).get? l=some { cls:=.type "list",dict:=odict,data:=.seq items nl,slots:=oslots }:=bV _ hol;have hsls:=F.sub_list_set;have hslf:=F.sub_list_frozenset;have hne:(Value.type "list" == Value.type "dict")=false:=by decide
    have hl1:(s.heap.push { cls:=.type "set",dict:=none,data:=.set #[] 0 (.fresh 0 0 led) }).IsList l items:=⟨_,hol',rfl,nl,rfl⟩
    unfold Builtin.«set.__init__» noKeywords Builtin.Frozenset.updateFrom;generalize hPI:pyIter=PI;wp_walk
    subst hPI;refine wpAny_pyIter_list hl1 ?_;refine aM (wpAny_runValue ?_);have hlS:l<s.heap.objs.size:=bM hol;have hh3:A.in1.in1.in1.handled=none:=by simp[hh]
    have hneI:l≠(s.heap.push { cls:=.type "set",dict:=none,data:=.set #[] 0 (.fresh 0 0 led) }).objs.size:=by
     rw[Fq]; exact cY (Gm hlS)
    have hSf:s.heap.objs.size∉[(s.heap.push { cls:=.type "set",dict:=none,data:=.set #[] 0 (.fresh 0 0 led) }).objs.size,l]:=by
     rw[Fq]; simp only[Fl,Fc,Fp,or_false,not_or];exact⟨cY (Gp _),F9 hlS⟩
    have hval:∀(i:Nat) (v:Value),items[i]? = some v->(λi=>ns.getD i 0) i<6/\∃t,v=.int (Int.ofNat ((λi=>ns.getD i 0) i)) t:=λi v hv=>by
     have hil:i<ns.length:=by
      have:=(FW.mp hv).1;omega
     obtain⟨t,et⟩:=IntsAre.int_at hi i v (by rw[G1]; exact hv);refine⟨?_,t,?_⟩
     .simp only[Gb,FH hil,Option.getD_some];exact h6 _ (Gj hil)
     .rw[et];simp[hil]
    refine Ei led ((Walks.list hh3 _ l hneI items).toS) s.heap.objs.size
     hSf (λi=>ns.getD i 0) hval (items.size - 0) 0 _ (by omega) (Fy _)
     ⟨⟨_,dD _ rfl,rfl,rfl⟩,(hl1.push _)⟩ ?hS0 ?hR
    case hS0=>exact BJ led (bV _ hS)
    case hR=>
     intro s' hm hS';rw[hacc] at hS';obtain⟨h',g',d',tk',os'⟩:=s';have eg:g'=s.gens:=hm.gens;have ed:d'=s.drawn:=hm.drawn;have eo:os'=s.os:=hm.os;subst eg; subst ed; subst eo;show wpAny _ _ _ _ _ _;refine bg ?_;show wpAny _ _ (ret Value.none) _ _ _;refine bg ⟨rfl,h',tk',rfl,hS',λb o hb e=>?_⟩;have hb1:b≠s.heap.objs.size:=cY hb;have hb2:b≠(s.heap.push { cls:=.type "set",dict:=none,data:=.set #[] 0 (.fresh 0 0 led) }).objs.size:=by
      rw[Fq]; exact cY (Gm hb)
     exact hm.heap b o (by simp only[Fl,Fc,Fp,or_false,not_or]; exact⟨hb1,hb2⟩) (bV _ (bV _ e))
   .cases r₂ with
    | error e=>exact hr₂
    | ok fl₂=>
     cases fl₂ with
     | ret r=>
      obtain⟨rfl,h',tk,rfl,hS',hk'⟩:=hr₂;repeat (any_goals (first | assumption | wp_step))
      exact h _ _ hS' hk'
     | _=>exact hr₂.elim
  | _=>exact hr.elim
end
end St
end
section
namespace L2
open PySem PySem.Spec PyProof.Rows
section
variable {X:Cx}
noncomputable def d5 (ns:ak):av:=ns.map λn=>.int (Int.ofNat n)
def EG (K:bm)(te:TE):TE:=λσ H Q=>te σ H λx H1=>∃a ns,x=.ref a/\SqL K H1 a (d5 ns)/\(∀n∈ns,n<6)/\∀p,H1 p=none->Q (.ref p) (upd H1 p (.lst (d5 (ns.foldl St.stp []))))
theorem tH:∀{ns:ak} {its:ao},Vals (d5 ns) its->IntsAre its (ns.map Int.ofNat)
 | [],_,h=>by cases h; exact .nil
 | n::ns,_,h=>by
  cases h with
  | cons h1 h2=>
   obtain⟨t,rfl⟩:=(show ∃t,_=Value.int (Int.ofNat n) t from h1)
   exact .cons _ _ (tH h2)
theorem tU:∀{ns:ak} {its:ao},IntsAre its (ns.map Int.ofNat)->Vals (d5 ns) its
 | [],_,h=>by cases h; exact .nil
 | n::ns,_,h=>by
  cases h with
  | cons _ t h=>exact .cons ⟨t,rfl⟩ (tU h)
def Aq {e:Expr}{te:TE}{p1 p2 p3 p4:Pos}(hc:X.calm=true)(he:PE X e te)(g1:Gl X "sorted")(m1:X.mg "sorted" = none)(b1:bootBuiltins "sorted" = some (.builtin "sorted"))(g2:Gl X "set")(m2:X.mg "set" = none)(b2:bootBuiltins "set" = some (.type "set"))
  (hs1:starEach [.Call (.Name "set" p2) [e] [] p3] X.env=[(false,eval (.Call (.Name "set" p2) [e] [] p3) X.env)])(hs2:starEach [e] X.env=[(false,eval e X.env)]) :
  PE X (.Call (.Name "sorted" p1) [.Call (.Name "set" p2) [e] [] p3] [] p4) (EG X.K te):=by
 intro pins s σ H Q I h;have hh:=I.ok.hd hc;refine Fz (gW I g1 m1 b1 ?_);refine GN ?_ hs1 rfl;rw[hs1];show wpAny _ _ (spliced ((false,eval (.Call (.Name "set" p2) [e] [] p3) X.env)::[])) _ _ s;refine GP ?_;refine Fz (gW I g2 m2 b2 ?_);refine FJ ?_ hs2 rfl;rw[hs2];show wpAny _ _ (spliced ((false,eval e X.env)::[])) _ _ s;refine GP (bh (he pins s σ H _ I h) λu s1 hZz=>?_);obtain⟨x,H1,I1,r1,a,ns,ex,hx,h6,q⟩:=hZz;subst ex;cases r1;refine G2 ?_;obtain⟨its,rv,pl,hz⟩:=I1.list hx;refine St.set_list hh pl.isList (by simpa using tH rv) h6 λh' tk hS hk=>?_;refine G2 ?_;refine St.sorted_set hh hS λh'' tk' L vs n hk' hlt hget hints=>?_;refine⟨.ref L,upd H1 L (.lst (d5 (ns.foldl St.stp []))),I1.laid (t':=tk') (λb o qb=>hk' b o (hk b o (bM qb) qb)) (GB hlt) ⟨?_,vs,n,tU hints,hget⟩,rfl,q L (I1.hok.fresh (GB hlt))⟩;have:=hS;obtain⟨es,ep,t,_,h1,_,ht⟩:=this;rw[d5,Fg];exact St.small_line (St.mem_b4 ht.mem).1
end
section
variable {X:Cx}
def EY:OpR X (binaryOp .Add) (λx y H Q=>∃a b ys,x=.ref a/\y=.ref b/\SqT X.K H a []/\SqT X.K H b ys/\Q (.ref b) H):=by
 intro pins s σ H x y v u Q I rx ry h;obtain⟨a,b,ys,rfl,rfl,ha,hb,q⟩:=h;cases rx;cases ry;obtain⟨its,r1,⟨⟨cls,dd,data,sl⟩,ho,hc,n,hd⟩,_⟩:=I.tuple ha;obtain⟨its2,r2,⟨⟨cls2,dd2,data2,sl2⟩,ho2,hc2,n2,hd2⟩,_⟩:=I.tuple hb;simp only at hc hd hc2 hd2;subst hc hd hc2 hd2;cases r1;exact concat_meets ⟨_,ho,rfl⟩ ⟨_,ho2,rfl⟩ noFill_tuple_add seq_tuple_add Hr Ho (Hi _ _)
  (tuple_addW0 a b #[] its2.toArray n n2 dd dd2 sl sl2 rfl) ⟨ho,ho2,⟨.ref b,H,I,rfl,q⟩⟩
def Cg (l:Addr)(items:aB)(n:Nat)(b:Addr)(items2:aB)(n2:Nat)(dd2:aE)(sl2:Array aA)(hs0:¬(!items.isEmpty&&Builtin.List.listTooLong (items.size+items2.size))=true)(hs1:items.size<=sizeLine)(hs2:items.size+items2.size<=sizeLine+1) :
  Meets (Builtin.«list.extend» ⟨[.ref l,.ref b],[]⟩) (λ_ R s=>s.heap.get? l=some { cls:=.type "list",dict:=none,data:=.seq items n,slots:=#[] }/\s.heap.get? b=some { cls:=.type "tuple",dict:=dd2,data:=.seq items2 n2,slots:=sl2 }/\R (.ok (.ret Value.none)) { s with heap:=s.heap.update l (Obj.mapSeq λx=>x++items2),toks:=s.toks }):=
 .of_wp λprog w A R s h=>by
  obtain⟨hp,g,d,tk,os⟩:=s; obtain⟨hl,hb,h⟩:=h; have f1:=AutoSeq1.idx_int; have f2:=AutoSeq1.sub_tuple_tuple; have f3:=AutoSeq1.sub_list_list; have f4:=AutoSeq1.sub_tuple_list; have f5:=AutoSeq1.sub_list_tuple;have hz':(items++items2).size<=sizeLine+1:=by rw[Array.size_append]; exact hs2
  wp_walk using (wpAny_updateSeq hl rfl (hz:=hs1) (_hz':=hz')),wpAny_loadPart' hl,wpAny_loadPart' hb; exact⟨_,rfl,h⟩
def jq (K:bm):V->av->Hp->VK->Prop:=λx vs H Q=>∃l b xs zs,x=.ref l/\vs=[.ref b]/\H l=some (.lst xs)/\SqT K H b zs/\xs.length+zs.length<=sizeLine/\Q .non (upd H l (.lst (xs++zs)))
def xK:nq X "list.extend" (jq X.K):=by
 intro pins s σ H x vs v us Q I rx rv h;obtain⟨l,b,xs,zs,rfl,rfl,hH,hB,hz,q⟩:=h;cases rx;obtain⟨u,rfl,ru⟩:=rv.one;cases ru;obtain⟨z,its,n,r,hl,e⟩:=I.lstM hH;obtain⟨its2,r2,⟨⟨cls2,dd2,data2,sl2⟩,ho2,hc2,n2,hd2⟩,_⟩:=I.tuple hB;simp only at hc2 hd2;subst hc2 hd2;have hl2:=r2.length;have hsz:its.toArray.size+its2.toArray.size<=sizeLine:=by rw[Fe,Fe]; omega
 have hlong:¬(!its.toArray.isEmpty&&Builtin.List.listTooLong (its.toArray.size+its2.toArray.size))=true:=by
  rw[BY hsz,Bool.and_false];exact GO
 refine HW F.slot_list_extend ⟨_,e,rfl⟩ F.entry_list_extend (F.args_list_extend_2 _ _)
  (Cg l its.toArray n b its2.toArray n2 dd2 sl2 hlong (by rw[Fe]; omega) (by omega)) ⟨e,ho2,?_⟩
 refine⟨.non,_,I.lset (its':=its++its2) hH e (by simp) (r.append r2) ?_,rfl,q⟩;rw[Fx];omega
end
section
variable {X:Cx}
def BR {prog:Program}{w:World}{A:Around}{E:Value->Shared->Prop}{s:Shared}{t sl:Addr}{items:aB}{vl vu:Value}{lo hi:Option Int}{Q:Value->Shared->Prop}(ht:IsTup s.heap t items)(hs:s.heap.IsSliceOf sl vl vu .none)(pl:IsPart vl lo)(pu:IsPart vu hi)
  (hw:HT.sIx items.size 0 lo=0/\HT.sIx items.size items.size hi=items.size)(h:Q (.ref t) s):wpAny (model prog w) A (getItem (.ref t) (.ref sl)) Q E s:=by
 obtain⟨os,hos,hcs,hds⟩:=id hs;have hTs:s.TypeIs (.ref sl) "slice":=⟨os,hos,hcs⟩
 unfold getItem;try with_reducible refine GK ?_
 first | refine aM (bg ?_) | skip
 refine aM (wpAny_sequenceKey ht.typeIs (by decide) ?_);refine aM (wpAny_callSpecial?_slot (name:=Str.ofString "__getitem__") ht.typeIs FK
  (Gi FK ht.typeIs entry_tuple_getitem ?_ (args_tuple_getitem _ _)))
 show wpAny _ _ (Builtin.Tuple.tupleItemsOf (.ref t) >>= _) _ _ s;refine aM (tupleItemsOf_ ht ?_);refine aM (HR hTs ?_);rw[if_pos (by decide)];refine aM (HT.sliceApplied_gen hs pl pu ?_);have hyes:(((HT.sIx items.size 0 lo:Nat):Int) == 0&&(1:Int) == 1&&(HT.sIx items.size items.size hi - HT.sIx items.size 0 lo) == items.size)=true:=by
  rw[hw.1,hw.2]; simp
 show wpAny _ _ (if (((HT.sIx items.size 0 lo:Nat):Int) == 0&&(1:Int) == 1&&(HT.sIx items.size items.size hi - HT.sIx items.size 0 lo) == items.size)=true then _ else _) _ _ s;rw[if_pos hyes];unfold Builtin.Tuple.tupleIsExact;refine aM (aM (HR ht.typeIs (bg ?_)));rw[if_pos (by decide)];refine aM (wpAny_rule (aM (bg (bg ⟨_,rfl,bg h⟩))))
def mh (K:bm):V->Option Int->Option Int->Hp->VK->Prop:=λx lo hi H Q=>∃a xs,x=.ref a/\SqT K H a xs /\
 (HT.sIx xs.length 0 lo=0/\HT.sIx xs.length xs.length hi=xs.length->Q (.ref a) H) /\
 (¬(HT.sIx xs.length 0 lo=0/\HT.sIx xs.length xs.length hi=xs.length)->∀p,H p=none->Q (.ref p) (upd H p (.tup (dR xs lo hi))))
def Bu:mq X (mh X.K):=by
 intro pins s σ H x v vl vu lo hi sl Q I rx hs pl pu h;obtain⟨a,xs,rfl,hx,q1,q2⟩:=h;by_cases hw:HT.sIx xs.length 0 lo=0/\HT.sIx xs.length xs.length hi=xs.length
 .cases rx;obtain⟨its,r,ht,hz⟩:=I.tuple hx;have hlen:its.toArray.size=xs.length:=by rw[Fe]; exact r.length.symm
  refine⟨"tuple",_,FK.lookup,ht.typeIs,?_⟩;exact BR ht hs pl pu (by rw[hlen]; exact hw) ⟨.ref a,H,I,rfl,q1 hw⟩
 .exact AR pins s σ H _ v vl vu lo hi sl Q I rx hs pl pu ⟨a,xs,rfl,hx,hw,q2 hw⟩
def xh {M:Model}{A:Around}{E:Value->Shared->Prop}{s:Shared}{β:Type}{n:Nat}(f:Nat->β->Sem (ForInStep β))(I:Nat->β->Shared->Prop)(Q:β->Shared->Prop)
  (turn:∀i b s,i<n->I i b s->wpAny M A (f i b) (λr s'=>match r with | .yield b'=>I (i+1) b' s' | .done b'=>Q b' s') E s)
  (fin:∀b s,I n b s->Q b s)(b:β)(h:I 0 b s):wpAny M A (forIn [0:n] b f) Q E s:=by
 rw[Std.Legacy.Range.forIn_eq_forIn_range'];refine wpAny_forIn_list f (λrest b s=>∃i,rest=List.range' i (n - i)/\i<=n/\I i b s) Q ?_ ?_ _ b ⟨0,by simp[Std.Legacy.Range.size],Fy _,h⟩
 .rintro x rest b s ⟨i,e,hi,hI⟩;have hlt:i<n:=by
   have:=congrArg List.length e;simp at this;omega
  have e2:n - i=(n - (i+1))+1:=by omega
  rw[e2,List.range'_succ] at e;obtain⟨rfl,rfl⟩:=GY e;refine FU (turn x b s hlt hI) (λr s' hr=>?_) λ_ _ h'=>h';cases r with
  | done b'=>exact hr
  | yield b'=>exact⟨x+1,rfl,hlt,hr⟩
 .rintro b s ⟨i,e,hi,hI⟩;have:i=n:=by
   have:=congrArg List.length e;simp at this;omega
  subst this;exact fin b s hI
def Cq (l:Addr)(items:aB)(n:Nat)(dd:aE)(sl:Array aA)(x:Value)(e:Value->Bool)(j:Nat)(hj:j<items.size)
  (hit:e items[j]=true)(hno:∀m (hm:m<items.size),m<j->e items[m]=false) :
  Meets (Builtin.«tuple.index» ⟨[.ref l,x],[]⟩)
   (λA R s=>s.heap.get? l=some { cls:=.type "tuple",dict:=dd,data:=.seq items n,slots:=sl }/\(∀y,y∈items->SeqAt.EqAt A.in1 s y x (e y))/\R (.ok (.ret (.int j s.toks))) { s with toks:=s.toks+1 }):=
 .of_wp λprog w A R s h=>by
  obtain⟨hp,g,d,tk,os⟩:=s; obtain⟨hl,he,h⟩:=h;wp_walk using GL hl,xh _ (λi b s'=>b.1=none/\s'=⟨hp,g,d,tk,os⟩/\i<=j) _
  case turn=>
   rintro i b s' hi ⟨hb,rfl,hij⟩;have hi':i<items.size:=by omega
   have e1:items[i]? = some items[i]:=by simp[hi']
   rw[e1];refine aM (he _ (Array.getElem_mem hi') prog w _ _ ?_);by_cases hx:i=j
   .subst hx;rw[hit];wp_walk
    exact⟨_,rfl,h⟩
   .rw[hno i hi' (by omega)];wp_walk
    exact⟨rfl,rfl,by omega⟩
  case fin=>
   rintro b s' ⟨hb,rfl,hij⟩;omega
  case h=>exact⟨rfl,rfl,Fy _⟩
end
section
variable {prog:Program}{w:World}{A:Around}{E:Value->Shared->Prop}{s:Shared}{it t:Addr}{i:Nat}{items:aB}
def vT {Q:Value->Shared->Prop}(hit:s.heap.IsTupleIter it t i)
  (h:wpAny (model prog w) A.in1 (Builtin.«tuple_iterator.__next__» ⟨[.ref it],[]⟩) (λfin s'=>∃v,fin=.done (.ret v)/\Q v s') E s):wpAny (model prog w) A (Builtin.SmallTypes.nextOf (.ref it)) Q E s:=by
 unfold Builtin.SmallTypes.nextOf;refine aM (wpAny_callSpecial?_slot (name:=Str.ofString "__next__") hit.typeIs HA (Gi HA hit.typeIs PySem.F.entry_tuple_iterator_next ?_ (PySem.F.args_tuple_iterator_next_1 _)));refine FU h (λfin s' ⟨v,e,q⟩=>⟨v,e,bg q⟩) λ_ _ e=>e
def zW {x:Value}{Q:Value->Shared->Prop}(hit:s.heap.IsTupleIter it t i)(ht:s.heap.IsTuple t items)(hx:items[i]? = some x)(hQ:∀h',h'.IsTupleIter it t (i+1)->Heap.SameBut it s.heap h'->Q x { s with heap:=h' }):wpAny (model prog w) A (Builtin.SmallTypes.nextOf (.ref it)) Q E s:=by
 refine vT hit ?_;obtain⟨o,ho,hc,hd⟩:=id hit;obtain⟨ol,hol,_,nl,hdl⟩:=ht;show wpAny _ _ (field (.ref it) 0 >>= _) _ _ s;refine aM (Gg ho hd (x:=.ref t) rfl ?_);show wpAny _ _ (if (Value.ref t == Value.none)=true then _ else _) _ _ s;rw[if_neg (show ¬((Value.ref t == Value.none)=true) from GO)];show wpAny _ _ (field (.ref it) 1 >>= _) _ _ s;refine aM (Gg ho hd (x:=.int i 0) rfl ?_);show wpAny _ _ (seqItems? (.ref t) >>= _) _ _ s;refine aM (wpAny_seqItems hol hdl ?_);simp only[Int.toNat_natCast,hx];refine aM (HX ho hd (by simp) (bg ⟨x,rfl,hQ _ ?_ (Go ..)⟩));exact⟨_,F5 _ ho (HE (HY hd _)),(Obj.cls_mapFields ..).trans hc,by rw[HY hd]; simp[rawInt]⟩
def tY {Q:Value->Shared->Prop}(hh:A.handled=none)(hit:s.heap.IsTupleIter it t i)(ht:s.heap.IsTuple t items)(hx:items[i]? = none)
  (hE:∀h' e,Heap.ExtBut it s.heap h'->(∃o,h'.get? e=some o/\o.cls=.type "StopIteration")->E (.ref e) { s with heap:=h' }):wpAny (model prog w) A (Builtin.SmallTypes.nextOf (.ref it)) Q E s:=by
 refine vT hit ?_;obtain⟨o,ho,hc,hd⟩:=id hit;obtain⟨ol,hol,_,nl,hdl⟩:=ht;show wpAny _ _ (field (.ref it) 0 >>= _) _ _ s;refine aM (Gg ho hd (x:=.ref t) rfl ?_);show wpAny _ _ (if (Value.ref t == Value.none)=true then _ else _) _ _ s;rw[if_neg (show ¬((Value.ref t == Value.none)=true) from GO)];show wpAny _ _ (field (.ref it) 1 >>= _) _ _ s;refine aM (Gg ho hd (x:=.int i 0) rfl ?_);show wpAny _ _ (seqItems? (.ref t) >>= _) _ _ s;refine aM (wpAny_seqItems hol hdl ?_);simp only[Int.toNat_natCast,hx];refine aM (wpAny_rule (aM (HX ho hd (by simp) ?_)));show wpAny _ _ (newExc (.type "StopIteration") [] >>= _) _ _ _;refine aM ?_;simp only[newExc,newTuple];refine aM (FF ?_ (by size_fits));refine aM (m:=firstArgMember _ _) (wpAny_of_eq (a:=Value.none) (by first | rfl | (simp only[firstArgMember]; rfl)) ?_);refine FF ?_ (by size_fits);simp only[raiseNew];refine aM (wpAny_handled ?_);rw[show A.in1.handled=none from hh];exact aM (bg (wpAny_throw (hE _ _ (((Go ..).extBut.push _).push _) ⟨_,dD _ rfl,rfl⟩)))
def j9 (hh:A.handled=none)(it t:Addr)(hne:t≠it)(items:aB) :
  Draws prog w A it [it,t] items.size (λi v=>items[i]? = some v) (λi h=>h.IsTupleIter it t i/\h.IsTuple t items) where
 live:=λ_ _ st=>let ⟨o,ho,_⟩:=st.1; ⟨o,ho⟩
 frame:=λ_ _ _ st hk=>⟨st.1.at λo e=>hk it (by simp) o e,let ⟨o,ho,r⟩:=st.2; ⟨o,hk t (by simp) o ho,r⟩⟩
 item:=λi s Q E hi st hQ=>zW st.1 st.2 (x:=items[i]) (by simp[hi]) λh' a b=>hQ _ h' s.toks (by simp[hi]) ⟨a,let ⟨o,ho,r⟩:=st.2; ⟨o,(b.2 t hne).trans ho,r⟩⟩ b
 done:=λs Q E st hE=>tY hh st.1 st.2 (by simp) hE
def Cr (hh:A.handled=none)(it t:Addr)(items:aB)(n:Nat)(hx:items[n]? = none) :
  Draws prog w A it [it,t] n (λ_ _=>False) (λk h=>k=n/\h.IsTupleIter it t n/\h.IsTuple t items) where
 live:=λ_ _ st=>let ⟨o,ho,_⟩:=st.2.1; ⟨o,ho⟩
 frame:=λ_ _ _ st hk=>⟨st.1,st.2.1.at λo e=>hk it (by simp) o e,let ⟨o,ho,r⟩:=st.2.2; ⟨o,hk t (by simp) o ho,r⟩⟩
 item:=λi s Q E hi st hQ=>absurd hi (by rw[st.1]; exact F6 _)
 done:=λs Q E st hE=>tY hh st.2.1 st.2.2 hx hE
def DR (l:Addr)(items:aB)(n:Nat)(dct:aE)(sl:Array aA) :
  Meets (Builtin.«enumerate.__new__» ⟨[.type "enumerate",.ref l],[]⟩) (λ_ R s=>s.heap.get? l=some { cls:=.type "tuple",dict:=dct,data:=.seq items n,slots:=sl } /\
   R (.ok (.ret (.ref (s.heap.push { cls:=.type "tuple_iterator",data:=.fields #[.ref l,.int 0 0] }).objs.size)))
    { s with heap:=(s.heap.push { cls:=.type "tuple_iterator",data:=.fields #[.ref l,.int 0 0] }).push { cls:=.type "enumerate",data:=.fields #[.none,.bool false,.ref s.heap.objs.size,rawInt 0,.none,.none] } }):=
 .of_wp λprog w A R s h=>by
  obtain⟨hp,g,d,tk,os⟩:=s; obtain⟨hl,h⟩:=h;have hsub:=sub_enumerate;have hT:Heap.IsTuple (Shared.heap ⟨hp,g,d,tk,os⟩) l items:=⟨_,hl,rfl,n,rfl⟩
  wp_walk using GL hl
  refine wpAny_stack_any λst=>bg ?_;split
  .rename_i c _ _ _ _ _;cases (c == Value.type "enumerate") <;> (wp_walk using GL hl,HS hT; exact⟨_,rfl,h⟩)
  .wp_walk using GL hl,HS hT
   exact⟨_,rfl,h⟩
def CZ {l:Addr}{Q:Value->Shared->Prop}(hL:s.heap.IsTuple l items)
  (h:∀h',IsEnum h' (s.heap.objs.size+1) s.heap.objs.size 0 .none->h'.IsTupleIter s.heap.objs.size l 0->(∀b o,s.heap.get? b=some o->h'.get? b=some o)->Q (.ref (s.heap.objs.size+1)) { s with heap:=h' }) :
  wpAny (model prog w) A (call (.type "enumerate") [.ref l]) Q E s:=by
 obtain⟨⟨c,dct,dt,sl⟩,hl,hc,n,hd⟩:=hL;have hc':c=.type "tuple":=hc;have hd':dt=.seq items n:=hd;subst hc' hd';refine callType_new PySem.F.called_enumerate (by decide) (PySem.F.typeCall_enumerate_1 _) (PySem.F.newCall_enumerate_1 _) (λobj=>PySem.F.args_object_init_2 obj _) PySem.F.entry_enumerate_new (DR l items n dct sl) ⟨hl,?_⟩;have hz:(s.heap.push { cls:=.type "tuple_iterator",data:=.fields #[.ref l,.int 0 0] }).objs.size=s.heap.objs.size+1:=Fq ..;show _/\_;rw[hz];have he:=dD (s.heap.push { cls:=.type "tuple_iterator",data:=.fields #[.ref l,.int 0 0] }) (o:={ cls:=.type "enumerate",data:=.fields #[.none,.bool false,.ref s.heap.objs.size,rawInt 0,.none,.none] }) rfl;rw[hz] at he;exact⟨⟨_,he,rfl⟩,h _ he ⟨_,bV _ (dD _ rfl),rfl,rfl⟩ λb o x=>bV _ (bV _ x)⟩
end
noncomputable def kc (K:bm)(a:Addr):It:=
 ⟨λi H=>∃xs x,SqT K H a xs/\xs[i]? = some x,λi H v H'=>∃x p,v=.ref p/\H p=none/\H'=upd H p (.tup [.int i,x])/\∀xs,SqT K H a xs->xs[i]? = some x,λi H=>∃xs,SqT K H a xs/\xs.length<=i⟩
def h8 (e it l:Addr)(i:Nat)(h:Heap):Prop:=(∃old,IsEnum h e it i old)/\h.IsTupleIter it l i
def yn {P:Program}{w:World}{K:bm}{es:au}{k1:Nat}{ps:Pos}(l e it:Addr):Turn P w K (.Tuple es k1 ps) (kc K l) [e,it] e (h8 e it l) where
 mem:=by simp
 obj:=λi h t b hb=>by
  obtain⟨⟨old,te⟩,⟨o1,e1,_,d1⟩⟩:=t;simp only[Fl,Fp,or_false] at hb;rcases hb with rfl | rfl
  .exact⟨_,te,(λv q=>nomatch q)⟩
  .exact⟨o1,e1,λv q=>by rw[d1] at q; cases q⟩
 keep:=λi h h' t k=>by
  obtain⟨⟨old,te⟩,t1⟩:=t;exact⟨⟨old,k e (by simp) _ te⟩,t1.at λo q=>k it (by simp) o q⟩
 item:=by
  intro X hP hw hK hc i pins s σ H E I hf st hg;subst hP hw hK;obtain⟨xs,x,hx,ex⟩:=hg;obtain⟨its,rv,p,hz⟩:=I.tuple hx;obtain⟨u,hu,ru⟩:=rv.get ex;obtain⟨⟨old,te⟩,t1⟩:=st;have hl:=rv.length;have hi:i<its.toArray.size:=by
   have:=(eO hu).1;simpa using this
  have ne:e≠it:=by
   obtain⟨o1,e1,c1,_⟩:=t1;exact kT "enumerate" "tuple_iterator" te e1 rfl c1 (by decide)
  have nl:l≠it:=by
   obtain⟨o1,e1,c1,_⟩:=t1;obtain⟨o2,e2,c2,_⟩:=p;exact kT "tuple" "tuple_iterator" e2 e1 c2 c1 (by decide)
  have nel:e≠l:=by
   obtain⟨o2,e2,c2,_⟩:=p;exact kT "enumerate" "tuple" te e2 rfl c2 (by decide)
  refine wpAny_pyNext_enum_itemD (j9 (A:=X.A.in1) (by exact I.ok.hd hc) it l nl its.toArray) te (show s.heap.IsTupleIter it l i/\s.heap.IsTuple l its.toArray from ⟨t1,p⟩) hi ne (by simp; exact⟨ne,nel⟩) λy h' tk hy z1 z2 z3 z4 z5=>?_;have ey:y=u:=by
   have hu':its.toArray[i]? = some u:=by simpa using hu
   rw[hu'] at hy;exact (cy hy).symm
  subst ey;refine⟨_,rfl,?_⟩;refine wpAny_letOwnedTupleGo_enum (s:={ s with heap:=h',toks:=tk+1 }) z1 λh2 z1' sb=>?_;have kk:∀b o,b∉[e,it]->s.heap.get? b=some o->h2.get? b=some o:=λb o nb q=>by
   simp only[Fl,Fp,or_false,not_or] at nb;exact (sb.2 b nb.1).trans (z5 b o nb.1 nb.2 q)
  have le:e<s.heap.objs.size:=bM te;have gT:h2.get? s.heap.objs.size=some { cls:=.type "tuple",data:=.seq #[.int i tk,y] }:=(sb.2 _ (F9 le)).trans z3;refine⟨.ref s.heap.objs.size,upd H s.heap.objs.size (.tup [.int i,x]),I.turnedN (t':=tk+1) hf kk (bD _) ⟨by show 2<=sizeLine; decide,[.int i tk,y],.cons ⟨_,rfl⟩ (.cons ru .nil),_,gT,rfl,⟨_,rfl⟩,rfl⟩,rfl,
   ⟨x,_,rfl,I.hok.fresh (bD _),rfl,λzs hq=>by rw[I.tuple_inj hq hx]; exact ex⟩,⟨⟨y,by simpa using z1'⟩,z2.1.at λo q=>(sb.2 it (GC ne)).trans q⟩,λb hb=>?_⟩
  obtain⟨o,q,_⟩:∃o,s.heap.get? b=some o/\True:=by
   simp only[Fl,Fp,or_false] at hb;obtain⟨o1,e1,_,d1⟩:=t1;rcases hb with rfl | rfl
   .exact⟨_,te,trivial⟩
   .exact⟨o1,e1,trivial⟩
  rw[bK (G9 (Heap.lt_size q))];exact (hf b hb).1
 done:=by
  intro X hP hw hK hc i pins s σ H E I hf st hg;subst hP hw hK;obtain⟨xs,hx,hend⟩:=hg;obtain⟨its,rv,p,hz⟩:=I.tuple hx;obtain⟨⟨old,te⟩,t1⟩:=st;have hl:=rv.length;have nl:l≠it:=by
   obtain⟨o1,e1,c1,_⟩:=t1;obtain⟨o2,e2,c2,_⟩:=p;exact kT "tuple" "tuple_iterator" e2 e1 c2 c1 (by decide)
  refine wpAny_pyNext_enum_endD (Cr (A:=X.A.in1) (by exact I.ok.hd hc) it l its.toArray i (by simp; omega)) te ⟨rfl,t1,p⟩ λh' kp=>⟨rfl,I.turnedL (t':=s.toks) hf λb o nb q=>?_⟩
  simp only[Fl,Fp,or_false,not_or] at nb;exact kp b o nb.2 q
 self:=λ_ _ _ _ _ st h=>by
  obtain⟨⟨old,te⟩,_⟩:=st;exact Hw te h
section
variable {X:Cx}{es:au}{k1:Nat}{tp:Pos}
def xG {a:Expr}{ta:TA}{p pos:Pos}(hg:Gl X "enumerate")(hm:X.mg "enumerate" = none)(hv:bootBuiltins "enumerate" = some (.type "enumerate"))(ha:PA X [a] ta)(hs:starEach [a] X.env=[(false,eval a X.env)]:=by rfl) :
  PI X (.Tuple es k1 tp) (.Call (.Name "enumerate" p) [a] [] pos) (λσ H R=>ta σ H λvs H1=>(∃a xs,vs=[.ref a]/\SqL X.K H1 a xs/\R (qB X.K a) H1)\/∃a xs,vs=[.ref a]/\SqT X.K H1 a xs/\R (kc X.K a) H1):=by
 intro pins s σ H R I h;refine Call_ (gW I hg hm hv (FJ (bh (ha pos pins s σ H _ I h) λus s1 hZz=>?_) hs rfl));obtain⟨vs,H1,I1,r1,q1⟩:=hZz;rcases q1 with ⟨l1,xs,rfl,hx,q⟩ | ⟨l1,xs,rfl,hx,q⟩
 .obtain⟨u,rfl,ru⟩:=vals1 r1;cases ru;obtain⟨its,rx,px,hzx⟩:=I1.list hx;refine call_enumerate_list px.isList λh' z1 z2 z3 z4=>?_;refine Hw (s:={ s1 with heap:=h' }) z1 ⟨_,_,_,_,H1,rfl,I1.kept (t':=s1.toks) z4,yL l1 _ _,⟨⟨_,z1⟩,z2⟩,λb hb=>?_,q⟩;have lb:s1.heap.objs.size<=b:=by
   simp only[Fl,Fp,or_false] at hb;rcases hb with rfl | rfl <;> omega
  exact I1.fpOk lb (I1.hok.fresh lb)
 .obtain⟨u,rfl,ru⟩:=vals1 r1;cases ru;obtain⟨its,rx,px,hzx⟩:=I1.tuple hx;refine CZ px λh' z1 z2 z4=>?_;refine Hw (s:={ s1 with heap:=h' }) z1 ⟨_,_,_,_,H1,rfl,I1.kept (t':=s1.toks) z4,yn l1 _ _,⟨⟨_,z1⟩,z2⟩,λb hb=>?_,q⟩;have lb:s1.heap.objs.size<=b:=by
   simp only[Fl,Fp,or_false] at hb;rcases hb with rfl | rfl <;> omega
  exact I1.fpOk lb (I1.hok.fresh lb)
end
section
variable {X:Cx}
def fS:V->av->Hp->VK->Prop:=λx vs H Q=>∃l xs i y,x=.ref l/\vs=[.int i,y]/\H l=some (.lst xs)/\0<=i/\i.toNat<=xs.length/\xs.length<sizeLine/\Q .non (upd H l (.lst (xs.take i.toNat++y::xs.drop i.toNat)))
def Dh:nq X "list.insert" fS:=by
 intro pins s σ H x vs v us Q I rx rv h;obtain⟨l,xs,i,y,rfl,rfl,hH,h0,hk,hz,q⟩:=h;cases rx;cases rv with
 | @cons _ ui _ us ri rn=>
 obtain⟨u,rfl,ru⟩:=Vals.one rn;obtain⟨t,rfl⟩:=ri;obtain⟨z,its,n,r,hl,e⟩:=I.lstM hH;have hsl:sizeLine<2 ^ 62:=by decide
 have hfit:¬(!Builtin.List.listFitsIndex i)=true:=by rw[fitsIndex_both (by omega) (by omega)]; decide
 have hs0:its.toArray.size<=sizeLine:=by rw[Fe]; omega
 refine HW PySem.F.slot_list_insert ⟨_,e,rfl⟩ PySem.F.entry_list_insert (PySem.F.args_list_insert_3 _ _ _) (PySem.AutoSeq1.list_insert_list_int_val_1 l its.toArray n i t u hfit hs0) ⟨e,?_⟩;have hkl:i.toNat<=its.length:=by omega
 refine⟨.non,_,I.lset (its':=its.take i.toNat++u::its.drop i.toNat) hH e ?_ ((r.take i.toNat).append (.cons ru (r.drop i.toNat))) ?_,rfl,q⟩
 .have h0':¬i<0:=by omega
  simp only[h0',if_false,Fe,Nat.min_eq_left hkl];apply HG.mp;simp;exact GU (by simp)
 .simp only[Fx,GM,List.length_cons,HF];omega
noncomputable def fF:V->Bool
 | .int _=>true
 | _=>false
noncomputable def kh (i:Int):Value->Bool
 | .int j _=>j == i
 | _=>false
theorem uk {i:Int}{t:Tok}:∀{xs:av} {us:ao},Vals xs us->xs.all fF=true->∀u∈us,MeetsSeq.EqGives u (.int i t) (kh i u)
 | _,_,.nil,_=>λu hu=>by cases hu
 | y::xs,u::us,.cons r q,f=>λu' hu=>by
  rw[List.all_cons,tw] at f;rcases cu hu with rfl | hu
  .cases y with
   | int j=>obtain⟨t',rfl⟩:=r; exact MeetsSeq.EqGives.int j i t' t
   | _=>cases f.1
  .exact uk q f.2 u' hu
def gc:V->av->Hp->VK->Prop:=λx vs H Q=>∃l xs i j,x=.ref l/\vs=[.int i]/\H l=some (.lst xs)/\xs.all fF=true/\(xs.findIdx? λz=>eqV z (.int i))=some j/\Q .non (upd H l (.lst (xs.eraseIdx j)))
def Eo:nq X "list.remove" gc:=by
 intro pins s σ H x vs v us Q I rx rv h;obtain⟨l,xs,i,j,rfl,rfl,hH,hi,hf,q⟩:=h;cases rx;obtain⟨u,rfl,ru⟩:=Vals.one rv;obtain⟨t,rfl⟩:=ru;obtain⟨z,its,n,r,hl,e⟩:=I.lstM hH;obtain⟨hj,hp,hq⟩:=Gz.mp hf;have at':∀m (h1:m<xs.length) (h2:m<its.toArray.size),kh i its.toArray[m]=eqV xs[m] (.int i):=λm h1 h2=>by
  obtain⟨w,e,rw'⟩:=r.get (i:=m) (x:=xs[m]) (by simp[h1]);have e2:its.toArray[m]=w:=by
   have h2':m<its.length:=by simpa using h2
   rw[FH h2'] at e;simpa using cy e
  rw[e2];have fi:=eQ hi _ (Gj h1);cases hx:xs[m] with
  | int y=>rw[hx] at rw'; obtain⟨t',rfl⟩:=rw'; rfl
  | _=>rw[hx] at fi; cases fi
 have hj2:j<its.toArray.size:=by rw[Fe]; omega
 refine HW PySem.F.slot_list_remove ⟨_,e,rfl⟩ PySem.F.entry_list_remove (PySem.F.args_list_remove_2 _ _)
  (MeetsSeq.list_remove l its.toArray n (.int i t) (kh i) (λy hy=>uk r hi y (by simpa using hy)) j hj2 (by rw[at' j hj hj2]; exact hp) (λm hm hl'=>?_) (by rw[Fe]; omega)) ⟨e,?_⟩
 .have hm':m<xs.length:=by rw[Fe] at hm; omega
  rw[at' m hm' hm];simpa using hq m hl'
 .refine⟨.non,_,I.lset (its':=its.eraseIdx j) hH e ?_ (r.eraseIdx j) ?_,rfl,q⟩
  .show its.toArray.eraseIdxIfInBounds j=(its.eraseIdx j).toArray;rw[List.eraseIdxIfInBounds_toArray]
  .have:=vC xs j;omega
end
section
variable {X:Cx}{tg:Expr}
end
section
variable {X:Cx}
end
section
variable {prog:Program}{w:World}{A:Around}{E:Value->Shared->Prop}{s:Shared}
def Di:typeLookup (.type "list_reverseiterator") "__len__" = pure none:=by rw[Hk,Gy]; kernel_rfl
def Dg:typeLookup (.type "list_reverseiterator") "__length_hint__" = pure (some (.builtin "list_reverseiterator.__length_hint__")):=by rw[Hk,Gy]; kernel_rfl
def Aa {r:Addr}{Q:Bool->Shared->Prop}(hT:s.TypeIs (.ref r) "list_reverseiterator")(h:Q false s):wpAny (model prog w) A (Builtin.List.listLengthHint (.ref r)) Q E s:=by
 unfold Builtin.List.listLengthHint;refine aM (wpAny_specialOf hT Di ?_);wp_delta
 refine FY (λhab=>absurd hab (by decide +kernel)) (λ_=>?_);refine FY (λhab=>absurd hab (by decide +kernel)) (λ_=>?_);refine aM (wpAny_specialOf hT Dg ?_);generalize hid:("list_reverseiterator.__length_hint__" : String)=id0;wp_delta
 rw[show splitId id0=some ("list_reverseiterator", "__length_hint__") from by subst hid; decide +kernel];subst hid;refine aM (wpAny_isInstance (T := "list_reverseiterator") (b:=true) hT (by rw[Hv]; kernel_rfl) ?_);refine FY (λhab=>absurd hab (by decide)) (λ_=>?_);refine FY (λ_=>?_) (λhab=>absurd (by decide +kernel) hab);refine FY (λhab=>absurd hab (by decide +kernel)) (λ_=>?_);exact bg h
def zE {R:Result->Shared->Prop}{r l:Addr}{items:aB}(hh:A.handled=none)(hr:s.heap.IsRevIter r l ((items.size:Int) - 1))(hl:s.heap.IsList l items)(hlen:items.size<=sizeLine)(S:Addr)(hSr:S≠r)(hSl:S≠l)(hlr:l≠r)(res:Value)(c₀:Nat)(hS:s.heap.get? S=some { cls:=.type "list",data:=.seq #[] c₀ })
  (hR:∀h' tk acc' c',(∀b o,b≠S->b≠r->s.heap.get? b=some o->h'.get? b=some o)->h'.get? S=some { cls:=.type "list",dict:=none,data:=.seq acc' c',slots:=#[] } ->
   ItemsOf (λi v=>items[items.size - 1 - i]? = some v) acc' items.size->R (.ok (.ret res)) { s with heap:=h',toks:=tk }) :
  wpAny (model prog w) A.in1 (Builtin.List.listExtendWith (.ref S) (.ref r) res)
   (λfin s'=>match fin with | .done f=>R (.ok f) s' | .again c'=>c'.quiet=true/\codeAny (model prog w) A c' R s') (λe s'=>R (.error e) s') s:=by
 unfold Builtin.List.listExtendWith;refine aM (HR (T := "list_reverseiterator") hr.typeIs ?_);have h1:Builtin.List.listSameRef (.ref S) (.ref r)=false:=by simp[Builtin.List.listSameRef,hSr]
 have h2:(Value.type "list_reverseiterator" == Value.type "list")=false:=by decide
 have h3:(Value.type "list_reverseiterator" == Value.type "tuple")=false:=by decide
 simp only[h1,h2,h3,Bool.or_false,Fm,if_false];refine aM (wpAny_pyIter_revIter hr ?_);refine aM (GK (Aa hr.typeIs ?_));rw[if_neg (by decide)];have W:=(Walks.listRev (prog:=prog) (w:=w) (A:=A.in1) hh r l hlr items).toS;refine bg ⟨Ik F.plain_extend_loop _,codeAny_extend_loopS W hlen S (by simp[hSr,hSl]) res items.size 0 s #[] c₀ rfl (Fy _) ⟨Fy _,by simpa using hr,hl⟩ hS (ItemsOf.nil _) λs' acc' c' hm hS' hacc=>?_⟩;rw[Moved.eq_with hm];refine hR s'.heap s'.toks acc' c' (λb o hb hb' e=>hm.heap b o (λhmem=>?_) e) hS' hacc;rcases cu hmem with e' | hmem
 .exact hb e'
 .exact hb' (Fc.mp hmem)
def x8 {Q:Value->Shared->Prop}{r l:Addr}{items:aB}(hh:A.handled=none)(hr:s.heap.IsRevIter r l ((items.size:Int) - 1))(hl:s.heap.IsList l items)(hlen:items.size<=sizeLine)(hlr:l≠r)
  (hQ:∀h' tk acc' c',(∀b o,b≠r->s.heap.get? b=some o->h'.get? b=some o) ->
   h'.get? s.heap.objs.size=some { cls:=.type "list",dict:=none,data:=.seq acc' c',slots:=#[] }->ItemsOf (λi v=>items[items.size - 1 - i]? = some v) acc' items.size->Q (.ref s.heap.objs.size) { s with heap:=h',toks:=tk }) :
  wpAny (model prog w) A (call (.type "list") [.ref r]) Q E s:=by
 refine callType_codes (Q₁:=λobj s₁=>obj=.ref s.heap.objs.size/\s₁={ s with heap:=s.heap.push { cls:=.type "list",data:=.seq #[] } }) F.called_list (F.typeCall_list_1 _) F.entry_list_init
  (code_list_new _ ⟨rfl,rfl⟩) λobj s₁ h₁=>?_
 obtain⟨rfl,rfl⟩:=h₁;have hS:(s.heap.push { cls:=.type "list",data:=.seq #[] }).get? s.heap.objs.size=some { cls:=.type "list",data:=.seq #[] }:=dD _ rfl;have hrl:r<s.heap.objs.size:=let ⟨_,ho,_⟩:=hr; bM ho
 have hll:l<s.heap.objs.size:=let ⟨_,ho,_⟩:=hl; bM ho
 refine⟨⟨_,hS,rfl⟩,F.args_list_init_2 _ _,?_⟩;show wpAny _ _ (do let old <-Builtin.List.listItems (.ref s.heap.objs.size); Builtin.List.listUpdate (.ref s.heap.objs.size) (λ_=>#[]); letGo old.toList.reverse; Builtin.List.listExtendWith (.ref s.heap.objs.size) (.ref r) .none) _ _ _;refine aM ?_;unfold Builtin.List.listItems;refine aM (wpAny_seqItems hS rfl (bg ?_));show wpAny _ _ (updateSeq s.heap.objs.size (λ_=>#[]) >>= λ_=>letGo (#[]:Array Value).toList.reverse >>= λ_=>Builtin.List.listExtendWith (.ref s.heap.objs.size) (.ref r) .none) _ _ _;refine aM (wpAny_updateSeq hS rfl ?_);have hS₂:=F5 (Obj.mapSeq (λ_=>(#[]:Array Value))) hS rfl;have oth:∀b o,s.heap.get? b=some o->((s.heap.push { cls:=.type "list",data:=.seq #[] }).update s.heap.objs.size (Obj.mapSeq (λ_=>(#[]:Array Value)))).get? b=some o:=
  λb o e=>(Ga _ _ (GC (cY (bM e)))).trans (bV _ e)
 refine aM (wpAny_letGo ?_);refine zE (A:=A.in1) hh (hr.at λo e=>oth r o e) (hl.at λo e=>oth l o e) hlen s.heap.objs.size (F9 hrl) (F9 hll) hlr .none _ hS₂ λh' tk acc' c' hk hS' hacc=>?_;exact⟨rfl,hQ h' tk acc' c' (λb o hb e=>hk b o (cY (bM e)) hb (oth b o e)) hS' hacc⟩
end
section
variable {X:Cx}
def ph (K:bm)(te:TE):TE:=λσ H Q=>te σ H λx H1=>∃a xs,x=.ref a/\SqL K H1 a xs/\∀p,H1 p=none->Q (.ref p) (upd H1 p (.lst xs.reverse))
def DL {e:Expr}{te:TE}{p1 p2 p3 p4:Pos}(hc:X.calm=true)(he:PE X e te)(g1:Gl X "list")(m1:X.mg "list" = none)(b1:bootBuiltins "list" = some (.type "list"))(g2:Gl X "reversed")(m2:X.mg "reversed" = none)(b2:bootBuiltins "reversed" = some (.type "reversed"))
  (hs1:starEach [.Call (.Name "reversed" p2) [e] [] p3] X.env=[(false,eval (.Call (.Name "reversed" p2) [e] [] p3) X.env)])(hs2:starEach [e] X.env=[(false,eval e X.env)]) :
  PE X (.Call (.Name "list" p1) [.Call (.Name "reversed" p2) [e] [] p3] [] p4) (ph X.K te):=by
 intro pins s σ H Q I h;have hh:=I.ok.hd hc;refine Fz (gW I g1 m1 b1 ?_);refine FJ ?_ hs1 rfl;rw[hs1];show wpAny _ _ (spliced ((false,eval (.Call (.Name "reversed" p2) [e] [] p3) X.env)::[])) _ _ s;refine GP ?_;refine Fz (gW I g2 m2 b2 ?_);refine FJ ?_ hs2 rfl;rw[hs2];show wpAny _ _ (spliced ((false,eval e X.env)::[])) _ _ s;refine GP (bh (he pins s σ H _ I h) λu s1 hZz=>?_);obtain⟨x,H1,I1,r1,a,xs,ex,hx,q⟩:=hZz;subst ex;cases r1;refine G2 ?_;obtain⟨its,r,ht,hz⟩:=I1.list hx;have hl:=ht.isList;have hal:a<s1.heap.objs.size:=let ⟨_,ho,_⟩:=hl; bM ho
 refine call_reversed_list hl ?_;refine G2 ?_;refine x8 (r:=s1.heap.objs.size) (l:=a) (items:=its.toArray) hh ⟨_,dD _ rfl,rfl,rfl⟩ (hl.at λo e=>bV _ e) (by rw[Fe,<-r.length]; exact hz) (cY hal) λh' tk acc c kp ge it=>?_;rw[Fq] at ge ⊢;refine⟨.ref (s1.heap.objs.size+1),upd H1 (s1.heap.objs.size+1) (.lst xs.reverse),I1.laid (t':=tk) (λb o qb=>kp b o (cY (bM qb)) (bV _ qb)) (F8 _) ⟨by rw[List.length_reverse]; exact hz,acc.toList,c,?_,by simpa using ge⟩,rfl,q _ (I1.hok.fresh (F8 _))⟩;have e:acc.toList=its.reverse:=by
  have i1:acc.size=its.length:=it.1.trans Fe;have i2:∀j v,acc[j]? = some v->its.toArray[its.toArray.size - 1 - j]? = some v:=it.2;rw[Fe] at i2;apply GH;intro i;by_cases hi:i<its.length
  .have h1:acc[i]? = some (acc[i]'(by omega)):=Hg _;have h2:=i2 i _ h1;rw[G1,h1,List.getElem?_reverse hi,<-h2,List.getElem?_toArray]
  .rw[FS (by rw[Array.length_toList]; omega),FS (by rw[List.length_reverse]; omega)]
 rw[e];exact r.reverse
end
end L2
end
section
namespace L2
open PySem PySem.Spec PySem.W PyProof.Rows
noncomputable def t7 {α:Type}(c:Nat->Nat->Bool):KasT α->α
 | .ret a=>a
 | .ask i j k=>t7 c (k (c i j))
def Pm (N:Nat)(p:Array Nat):Prop:=p.Perm (List.toArray (List.range N))
section
variable {N:Nat}(hN:0<N)
include hN
end
noncomputable def xD {α:Type}(d:α)(c:Nat->Nat->Bool)(vs:List α):List α:=if vs.length<2 then vs else (t7 c (kas_sort vs.length)).toList.map λi=>vs.getD i d
section
variable {prog:Program}{w:World}{A:Around}{E:Value->Shared->Prop}{s:Shared}{a:Addr}{vs:ao}{n:Nat}{κ:SortKind}{c:Nat->Nat->Bool}
noncomputable def C2 (p q:Int×Int):Bool:=decide (p.1<q.1\/p.1=q.1/\p.2<q.2)
noncomputable def pi (ps:List (Int×Int))(i j:Nat):Bool:=C2 (ps.getD i (0,0)) (ps.getD j (0,0))
end
section
variable {X:Cx}
end
end L2
end
section
namespace L2
open PySem PySem.Spec PyProof.Rows
section
variable {X:Cx}{tg:Expr}
end
end L2
end
section
namespace Ip
open PySem (Str)
noncomputable section
inductive D where
 | non | bl (b:Bool) | int (i:Int) | str (s:Str)
 | lst (xs:List D) | tup (xs:List D)
 | ins (c:Nat) (fs:List (Nat×D))
 | exc (c:Nat) (fs:List (Nat×D))
 deriving Inhabited
abbrev _root_.aJ:=Nat×D
abbrev _root_.ax:=List D
mutual
@[simp] noncomputable def D.flat:D->Bool
 | .lst _=>false
 | .tup xs=>D.flats xs
 | .ins _ _=>false
 | .exc _ _=>false
 | _=>true
@[simp] noncomputable def D.flats:ax->Bool
 | []=>true
 | d::ds=>d.flat&&D.flats ds
end
theorem wp:∀xs:ax,D.flats xs=xs.all D.flat
 | []=>by rw[D.flats]; rfl
 | d::ds=>by rw[D.flats,wp ds]; rfl
@[simp] noncomputable def D.fb:Nat->D->Bool
 | 0,d=>d.flat
 | k+1,.lst xs=>xs.all (D.fb k)
 | k+1,.tup xs=>xs.all (D.fb k)
 | k+1,.ins _ fs=>fs.all λp=>D.fb k p.2
 | _+1,.exc _ _=>false
 | _+1,_=>true
noncomputable def D.pur:Nat->D->Bool
 | 0,.lst _=>false
 | 0,.tup _=>false
 | n+1,.lst xs=>xs.all (D.pur n)
 | n+1,.tup xs=>xs.all (D.pur n)
 | _,.ins _ _=>false
 | _,.exc _ _=>false
 | _,.str s=>s.cps.all (·<1114112)
 | _,_=>true
@[simp] theorem pur_non (n:Nat):D.pur n .non=true:=by cases n <;> rfl
@[simp] theorem pur_bl (n:Nat)(b:Bool):D.pur n (.bl b)=true:=by cases n <;> rfl
@[simp] theorem pur_int (n:Nat)(i:Int):D.pur n (.int i)=true:=by cases n <;> rfl
@[simp] theorem zG (n:Nat)(s:Str):D.pur n (.str s)=s.cps.all (·<1114112):=by cases n <;> rfl
@[simp] theorem pur_lst (n:Nat)(xs:ax):D.pur (n+1) (.lst xs)=xs.all (D.pur n):=rfl
@[simp] theorem pur_tup (n:Nat)(xs:ax):D.pur (n+1) (.tup xs)=xs.all (D.pur n):=rfl
@[simp] theorem pur_ints (n:Nat)(xs:al):(xs.map D.int).all (D.pur n)=true:=by simp
noncomputable abbrev D.pures (xs:ax):Bool:=xs.all (D.pur 60)
@[simp] noncomputable def D.scal:D->Bool
 | .non=>true | .bl _=>true | .int _=>true | .str _=>true
 | _=>false
mutual
noncomputable def D.eq:D->D->Bool
 | .non,.non=>true
 | .int i,.int j=>decide (i=j)
 | .int i,.bl b=>decide (i=if b then 1 else 0)
 | .bl b,.int i=>decide ((if b then 1 else 0)=i)
 | .bl b,.bl c=>decide (b=c)
 | .str s,.str t=>decide (s=t)
 | .lst xs,.lst ys=>D.eqs xs ys
 | .tup xs,.tup ys=>D.eqs xs ys
 | _,_=>false
noncomputable def D.eqs:ax->ax->Bool
 | [],[]=>true
 | x::xs,y::ys=>x.eq y&&D.eqs xs ys
 | _,_=>false
end
inductive R (α:Type) where
 | ok (a:α)
 | exc (c:Nat) (fs:List aJ)
 | bad
@[simp,reducible] noncomputable def R.bind {α β:Type}(r:R α)(f:α->R β):R β:=match r with
 | .ok a=>f a
 | .exc c fs=>.exc c fs
 | .bad=>.bad
noncomputable abbrev KD:=aJ
abbrev _root_.az:=Option KD
abbrev _root_.aw:=List KD
noncomputable def bo (j:Nat)(x:KD):Bool:=x.2.flat||(x.1 == j||(D.fb j x.2&&D.fb x.1 x.2))
noncomputable def aY (xs:aw):Nat:=match xs.find? λx=>!x.2.flat with
 | none=>98
 | some x=>if xs.all (bo x.1) then x.1 else 0
noncomputable def cK (k:Nat)(xs:ax)(v:KD):Nat:=if bo k v then k else if xs.all (λd=>bo v.1 (k,d)) then v.1 else 0
noncomputable abbrev SL:Nat:=1000000
inductive Ty where
 | int | bool | str | list | tuple | dict | verr | cls (c:Nat)
inductive Op where
 | add | sub | mul | fdiv | mod | pow | shr | neg | not
 | eq | ne | lt | le | gt | ge | isN | notN | isin | nin
 | lst | tup | ix | slL | slH | slLH | rev
 | fld (f:Nat) | isi (ts:List Ty)
 | len | list | lrng | lrev | tuple | all | any | toInt | sum | srt | srtSet | symd | min1 | min2 | max2
 | index | count
inductive Wk where
 | seq | rng1 | enum | zip
inductive Tg where
 | one (i:Nat) | many (is:ak)
inductive Ex where
 | var (i:Nat)
 | cst (d:D)
 | op (o:Op) (es:List Ex)
 | and (a b:Ex) | or (a b:Ex)
 | ite (c a b:Ex)
 | chain (o p:Op) (a b c:Ex)
 | sl2 (a l h:Ex)
 | comp (caps:List aC) (tg:Tg) (wk:Wk) (it:List Ex) (t:List Ex) (e:Ex)
 | call (f:Nat) (es:List Ex)
 | make (c:Nat) (es:List Ex)
 | meth (m:Nat) (o:Ex) (es:List Ex)
 | bad
 deriving Inhabited
abbrev _root_.aF:=List Ex
inductive Mu where
 | append | extend | clear | insert | remove | pop0
inductive S where
 | set (i:Nat) (e:Ex)
 | setT (is:ak) (e:Ex)
 | ret (e:Ex)
 | ex (e:Ex)
 | iff (c:Ex) (t e:List S)
 | whl (c:Ex) (b:List S)
 | fo (tg:Tg) (wk:Wk) (it:aF) (b:List S)
 | brk | cnt | pass
 | rais (c:Nat) (es:aF)
 | mut (x:Nat) (path:aF) (m:Mu) (es:aF)
 | sfld (i:Nat) (f:Nat) (e:Ex)
 | xinit (es:aF)
 | tryE (b:List S) (c:Nat) (i x:Nat)
 | retP (s:Str) (i:Nat)
 | bad
 deriving Inhabited
abbrev _root_.ay:=List S
structure Fn where
 np:Nat
 io:ak
 ns:Nat
 dfl:ax
 body:ay
structure Cl where
 init:aC
 meths:aj
 ups:ak
 isx:Bool
structure Pg where
 fn:Nat->Option Fn
 cl:Nat->Option Cl
inductive Run where
 | ret (k:Nat) (d:D) (outs:aw)
 | exc (c:Nat) (fs:List aJ) (outs:aw)
 | bad
def mx (n:Nat):∃f:Int->Bool,∀i,f i=true ↔ -(2 ^ n)<=i/\i<2 ^ n:=⟨λi=>decide (-(2 ^ n)<=i/\i<2 ^ n),λi=>decide_eq_true_iff⟩
noncomputable def d6:Int->Bool:=Classical.choose (mx 62)
def gU {i:Int}:d6 i=true ↔ -(2 ^ 62)<=i/\i<2 ^ 62:=Classical.choose_spec (mx 62) i
noncomputable def ef (n:Nat)(i:Int):aC:=if 0<=i then (if i<n then some i.toNat else none) else if -(n:Int)<=i then some (i+n).toNat else none
noncomputable def gp (n d:Nat):Option Int->Nat
 | none=>d
 | some i=>if 0<=i then min i.toNat n else (i+n).toNat
noncomputable def cutD {α:Type}(xs:List α)(lo hi:Option Int):List α:=(xs.drop (gp xs.length 0 lo)).take (gp xs.length xs.length hi - gp xs.length 0 lo)
@[simp] noncomputable def m9:Ty->Bool
 | .bool=>true | .int=>true | _=>false
@[simp] noncomputable def iQ:Ty->Bool
 | .int=>true | _=>false
@[simp] noncomputable def jm:Ty->Bool
 | .str=>true | _=>false
@[simp] noncomputable def iN:Ty->Bool
 | .list=>true | _=>false
@[simp] noncomputable def jd:Ty->Bool
 | .tuple=>true | _=>false
@[simp] noncomputable def iM (G:Pg)(c d:Nat):Bool:=match G.cl c with
 | some K=>decide (d=c)||K.ups.contains d
 | none=>false
@[simp] noncomputable def i8 (G:Pg)(c:Nat):Ty->Bool
 | .cls d=>iM G c d | _=>false
@[simp] noncomputable def iO (G:Pg)(c:Nat):Ty->Bool
 | .cls d=>iM G c d | .verr=>true | _=>false
noncomputable def bc (G:Pg):D->Ty->Bool
 | .bl _=>m9
 | .int _=>iQ
 | .str _=>jm
 | .lst _=>iN
 | .tup _=>jd
 | .ins c _=>i8 G c
 | .exc c _=>iO G c
 | .non=>λ_=>false
@[simp] theorem isTy_bl (G:Pg)(b:Bool)(t:Ty):bc G (.bl b) t=m9 t:=rfl
@[simp] theorem isTy_int (G:Pg)(b:Int)(t:Ty):bc G (.int b) t=iQ t:=rfl
@[simp] theorem isTy_str (G:Pg)(b:Str)(t:Ty):bc G (.str b) t=jm t:=rfl
@[simp] theorem isTy_lst (G:Pg)(b:ax)(t:Ty):bc G (.lst b) t=iN t:=rfl
@[simp] theorem isTy_tup (G:Pg)(b:ax)(t:Ty):bc G (.tup b) t=jd t:=rfl
@[simp] theorem isTy_ins (G:Pg)(c:Nat)(fs:List aJ)(t:Ty):bc G (.ins c fs) t=i8 G c t:=rfl
@[simp] theorem isTy_exc (G:Pg)(c:Nat)(fs:List aJ)(t:Ty):bc G (.exc c fs) t=iO G c t:=rfl
@[simp] theorem isTy_non (G:Pg)(t:Ty):bc G .non t=false:=rfl
noncomputable def allB:ax->Option Bool
 | []=>some true
 | .bl b::ds=>(allB ds).map λc=>b&&c
 | _::_=>none
noncomputable def anyB:ax->Option Bool
 | []=>some false
 | .bl b::ds=>(anyB ds).map λc=>b||c
 | _::_=>none
noncomputable def fc:ax->Option al
 | []=>some []
 | .int i::ds=>(fc ds).map λis=>i::is
 | _::_=>none
noncomputable def D.memb (x:D)(xs:ax):Bool:=xs.any λy=>y.eq x
noncomputable def D.find (x:D)(xs:ax):aC:=xs.findIdx? λy=>y.eq x
@[simp] noncomputable def fB (b:Bool):az:=some (99,.bl b)
@[simp] noncomputable def fI (i:Int):az:=some (99,.int i)
@[simp] noncomputable def k9 (b:Bool):R KD:=.ok (99,.bl b)
@[simp] noncomputable def D.seq:D->Option ax
 | .lst xs=>some xs
 | .tup xs=>some xs
 | _=>none
@[simp] noncomputable def D.lstO:D->Option ax
 | .lst xs=>some xs
 | _=>none
@[simp] noncomputable def cj (f:D->az):aw->az
 | [x]=>f x.2
 | _=>none
@[simp] noncomputable def bI (f:D->D->az):aw->az
 | [x,y]=>f x.2 y.2
 | _=>none
@[simp] noncomputable def on3 (f:D->D->D->az):aw->az
 | [x,y,z]=>f x.2 y.2 z.2
 | _=>none
@[simp] noncomputable def bP (f:Int->Int->az):D->D->az
 | .int i,.int j=>f i j
 | _,_=>none
@[simp] noncomputable def cm:D->D->az
 | .int i,.int j=>fI (i+j)
 | .lst xs,.lst ys=>if xs.length+ys.length<=SL then some (1,.lst (xs++ys)) else none
 | .tup xs,.tup ys=>if xs.length+ys.length<=SL then some (0,.tup (xs++ys)) else none
 | _,_=>none
noncomputable def cO:ax->Option ak
 | []=>some []
 | .int i::ds=>if 0<=i/\i<6 then (cO ds).map λns=>i.toNat::ns else none
 | _::_=>none
noncomputable def bB (ns:ak):ak:=(List.range 6).filter λk=>ns.contains k
noncomputable def aK (ns:ak):ax:=ns.map λn=>.int (Int.ofNat n)
@[simp] noncomputable def jQ:D->D->az
 | .int i,.int j=>if d6 i||d6 j then fI (i * j) else none
 | _,_=>none
@[simp] noncomputable def jz (neg:Bool)(x y:D):az:=if x.pur 60&&y.pur 60 then fB (if neg then !x.eq y else x.eq y) else none
@[simp] noncomputable def jL (neg:Bool)(x y:D):az:=match y.seq with
 | some ys=>if x.pur 60&&D.pures ys then fB (if neg then !x.memb ys else x.memb ys) else none
 | none=>none
@[simp] noncomputable def ixOp:D->D->az
 | x,.int i=>match x.seq with
  | some xs=>match (ef xs.length i).bind λj=>xs[j]? with
   | some d=>some (0,d)
   | none=>none
  | none=>none
 | _,_=>none
@[simp] noncomputable def aZ (lo hi:Option Int):D->az
 | .lst xs=>some (1,.lst (cutD xs lo hi))
 | .tup xs=>some (0,.tup (cutD xs lo hi))
 | _=>none
noncomputable def gP (f:Nat):D->az
 | .ins _ fs=>match fs.lookup f with | some d=>some (0,d) | none=>none
 | .exc _ fs=>match fs.lookup f with | some d=>some (0,d) | none=>none
 | _=>none
@[simp] noncomputable def fN (f:ax->az):D->az
 | .lst xs=>f xs
 | _=>none
@[simp] noncomputable def onS (f:ax->az)(x:D):az:=match x.seq with | some xs=>f xs | none=>none
@[simp] noncomputable def intD:D->az
 | .int i=>fI i
 | .bl b=>fI (if b then 1 else 0)
 | _=>none
@[simp] noncomputable def jT:D->az
 | .bl b=>fB (!b)
 | _=>none
@[simp] noncomputable def jY:D->az
 | .int i=>fI (-i)
 | _=>none
@[simp] noncomputable def fG (neg:Bool):D->az
 | .non=>fB (!neg)
 | _=>fB neg
@[simp] noncomputable def mK:D->az
 | .lst xs=>some (0,.tup xs)
 | .tup xs=>some (0,.tup xs)
 | _=>none
noncomputable def cD (x y:D):az:=match x.seq with
 | some xs=>if y.pur 60&&D.pures xs then (match y.find xs with | some j=>fI j | none=>none) else none
 | none=>none
@[simp] theorem oS (xs:ax)(y:D):cD (.lst xs) y=if y.pur 60&&D.pures xs then (match y.find xs with | some j=>fI j | none=>none) else none:=rfl
@[simp] theorem rJ (xs:ax)(y:D):cD (.tup xs) y=if y.pur 60&&D.pures xs then (match y.find xs with | some j=>fI j | none=>none) else none:=rfl
def BI {x y:D}{z:KD}(h:cD x y=some z):(∃xs,x=.tup xs)\/∃xs,x=.lst xs:=by cases x <;> first | exact .inl ⟨_,rfl⟩ | exact .inr ⟨_,rfl⟩ | cases h
@[simp] noncomputable def countD (x y:D):az:=match x.seq with
 | some xs=>if y.pur 60&&D.pures xs then fI (xs.countP λz=>z.eq y) else none
 | none=>none
noncomputable def jv (x y:D):az:=match x with
 | .lst xs=>if y.scal&&xs.all D.scal then fI ((xs.countP λz=>z.eq y:Nat):Int) else none
 | _=>none
@[simp] theorem cntD_lst (xs:ax)(y:D):jv (.lst xs) y=if y.scal&&xs.all D.scal then fI ((xs.countP λz=>z.eq y:Nat):Int) else none:=rfl
noncomputable def lx (xs:ax):az:=(fc xs).bind λis=>if is.all (λi=>decide (0<=i/\i<=10000000))=true/\is.length<=1000 then fI is.sum else none
noncomputable def zD:al->Option (Int×Int)
 | [i,j]=>some (i,j)
 | _=>none
noncomputable def wP:D->Option (Int×Int)
 | .tup xs=>(fc xs).bind zD
 | _=>none
noncomputable def mB:ax->Option (List (Int×Int))
 | []=>some []
 | x::xs=>(wP x).bind λp=>(mB xs).map λps=>p::ps
noncomputable def i7 (xs:ax):az:=(mB xs).bind λps=>if xs.length<64 then some (1,.lst (L2.xD .non (L2.pi ps) xs)) else none
@[simp] noncomputable def iY:D->az
 | .int j=>if 0<=j/\j<=SL then some (1,.lst (aK (List.range j.toNat))) else none
 | _=>none
noncomputable def bz (G:Pg):Op->aw->az
 | .lst,vs=>some (aY vs+1,.lst (vs.map (·.2)))
 | .tup,vs=>some (aY vs+1,.tup (vs.map (·.2)))
 | .add,vs=>bI cm vs
 | .sub,vs=>bI (bP λi j=>fI (i - j)) vs
 | .mul,vs=>bI jQ vs
 | .fdiv,vs=>bI (bP λi j=>if 0<j/\j<1000000000000000000000000000000000000000000000000 then fI (i / j) else none) vs
 | .mod,vs=>bI (bP λi j=>if 0<j then fI (i % j) else none) vs
 | .pow,vs=>bI (bP λi j=>if 0<=j/\j<=1000000/\d6 i=true then fI (i ^ j.toNat) else none) vs
 | .shr,vs=>bI (bP λi j=>if 0<=j then fI (i / 2 ^ j.toNat) else none) vs
 | .neg,vs=>cj jY vs
 | .not,vs=>cj jT vs
 | .eq,vs=>bI (jz false) vs
 | .ne,vs=>bI (jz true) vs
 | .lt,vs=>bI (bP λi j=>fB (decide (i<j))) vs
 | .le,vs=>bI (bP λi j=>fB (decide (i<=j))) vs
 | .gt,vs=>bI (bP λi j=>fB (decide (j<i))) vs
 | .ge,vs=>bI (bP λi j=>fB (decide (j<=i))) vs
 | .isN,vs=>cj (fG false) vs
 | .notN,vs=>cj (fG true) vs
 | .isin,vs=>bI (jL false) vs
 | .nin,vs=>bI (jL true) vs
 | .ix,vs=>bI ixOp vs
 | .slL,vs=>bI (λx y=>match y with | .int i=>aZ (some i) none x | _=>none) vs
 | .slH,vs=>bI (λx y=>match y with | .int i=>aZ none (some i) x | _=>none) vs
 | .slLH,_=>none
 | .rev,vs=>cj (fN λxs=>some (1,.lst xs.reverse)) vs
 | .fld f,vs=>cj (gP f) vs
 | .isi ts,vs=>cj (λx=>fB (ts.any (bc G x))) vs
 | .len,vs=>cj (onS λxs=>fI xs.length) vs
 | .list,vs=>cj (onS λxs=>some (1,.lst xs)) vs
 | .lrng,vs=>cj iY vs
 | .lrev,_=>none
 | .tuple,vs=>cj mK vs
 | .all,vs=>cj (fN λxs=>match allB xs with | some b=>fB b | none=>none) vs
 | .any,vs=>cj (fN λxs=>match anyB xs with | some b=>fB b | none=>none) vs
 | .toInt,vs=>cj intD vs
 | .sum,vs=>cj (fN lx) vs
 | .srt,vs=>cj (fN i7) vs
 | .srtSet,vs=>cj (fN λxs=>match cO xs with | some ns=>some (1,.lst (aK (bB ns))) | none=>none) vs
 | .symd,_=>none
 | .min1,_=>none
 | .min2,vs=>bI (bP λi j=>fI (if j<i then j else i)) vs
 | .max2,vs=>bI (bP λi j=>fI (if j > i then j else i)) vs
 | .index,vs=>bI cD vs
 | .count,vs=>bI jv vs
@[simp] theorem Ab (G:Pg)(vs:aw):bz G .lst vs=some (aY vs+1,.lst (vs.map (·.2))):=rfl
@[simp] theorem y0 (G:Pg)(vs:aw):bz G .tup vs=some (aY vs+1,.tup (vs.map (·.2))):=rfl
@[simp] theorem wR (G:Pg)(vs:aw):bz G .add vs=bI cm vs:=rfl
@[simp] theorem opD_sub (G:Pg)(vs:aw):bz G .sub vs=bI (bP λi j=>fI (i - j)) vs:=rfl
@[simp] theorem Bo (G:Pg)(vs:aw):bz G .mul vs=bI jQ vs:=rfl
@[simp] theorem opD_fdiv (G:Pg)(vs:aw):bz G .fdiv vs=bI (bP λi j=>if 0<j/\j<1000000000000000000000000000000000000000000000000 then fI (i / j) else none) vs:=rfl
@[simp] theorem opD_mod (G:Pg)(vs:aw):bz G .mod vs=bI (bP λi j=>if 0<j then fI (i % j) else none) vs:=rfl
@[simp] theorem opD_pow (G:Pg)(vs:aw):bz G .pow vs=bI (bP λi j=>if 0<=j/\j<=1000000/\d6 i=true then fI (i ^ j.toNat) else none) vs:=rfl
@[simp] theorem opD_shr (G:Pg)(vs:aw):bz G .shr vs=bI (bP λi j=>if 0<=j then fI (i / 2 ^ j.toNat) else none) vs:=rfl
@[simp] theorem Ba (G:Pg)(vs:aw):bz G .neg vs=cj jY vs:=rfl
@[simp] theorem zZ (G:Pg)(vs:aw):bz G .not vs=cj jT vs:=rfl
@[simp] theorem zt (G:Pg)(vs:aw):bz G .eq vs=bI (jz false) vs:=rfl
@[simp] theorem BN (G:Pg)(vs:aw):bz G .ne vs=bI (jz true) vs:=rfl
@[simp] theorem opD_lt (G:Pg)(vs:aw):bz G .lt vs=bI (bP λi j=>fB (decide (i<j))) vs:=rfl
@[simp] theorem opD_le (G:Pg)(vs:aw):bz G .le vs=bI (bP λi j=>fB (decide (i<=j))) vs:=rfl
@[simp] theorem opD_gt (G:Pg)(vs:aw):bz G .gt vs=bI (bP λi j=>fB (decide (j<i))) vs:=rfl
@[simp] theorem opD_ge (G:Pg)(vs:aw):bz G .ge vs=bI (bP λi j=>fB (decide (j<=i))) vs:=rfl
@[simp] theorem AT (G:Pg)(vs:aw):bz G .isN vs=cj (fG false) vs:=rfl
@[simp] theorem D4 (G:Pg)(vs:aw):bz G .notN vs=cj (fG true) vs:=rfl
@[simp] theorem opD_isin (G:Pg)(vs:aw):bz G .isin vs=bI (jL false) vs:=rfl
@[simp] theorem opD_nin (G:Pg)(vs:aw):bz G .nin vs=bI (jL true) vs:=rfl
@[simp] theorem AX (G:Pg)(vs:aw):bz G .ix vs=bI ixOp vs:=rfl
@[simp] theorem opD_slL (G:Pg)(vs:aw):bz G .slL vs=bI (λx y=>match y with | .int i=>aZ (some i) none x | _=>none) vs:=rfl
@[simp] theorem opD_slH (G:Pg)(vs:aw):bz G .slH vs=bI (λx y=>match y with | .int i=>aZ none (some i) x | _=>none) vs:=rfl
@[simp] theorem opD_slLH (G:Pg)(vs:aw):bz G .slLH vs=none:=rfl
@[simp] theorem DQ (G:Pg)(vs:aw):bz G .rev vs=cj (fN λxs=>some (1,.lst xs.reverse)) vs:=rfl
@[simp] theorem A3 (G:Pg)(f:Nat)(vs:aw):bz G (.fld f) vs=cj (gP f) vs:=rfl
@[simp] theorem opD_isi (G:Pg)(ts:List Ty)(vs:aw):bz G (.isi ts) vs=cj (λx=>fB (ts.any (bc G x))) vs:=rfl
@[simp] theorem Ee (G:Pg)(vs:aw):bz G .len vs=cj (onS λxs=>fI xs.length) vs:=rfl
@[simp] theorem EX (G:Pg)(vs:aw):bz G .list vs=cj (onS λxs=>some (1,.lst xs)) vs:=rfl
@[simp] theorem opD_lrng (G:Pg)(vs:aw):bz G .lrng vs=cj iY vs:=rfl
@[simp] theorem opD_lrev (G:Pg)(vs:aw):bz G .lrev vs=none:=rfl
@[simp] theorem zv (G:Pg)(vs:aw):bz G .tuple vs=cj mK vs:=rfl
@[simp] theorem EL (G:Pg)(vs:aw):bz G .all vs=cj (fN λxs=>match allB xs with | some b=>fB b | none=>none) vs:=rfl
@[simp] theorem opD_any (G:Pg)(vs:aw):bz G .any vs=cj (fN λxs=>match anyB xs with | some b=>fB b | none=>none) vs:=rfl
@[simp] theorem opD_toInt (G:Pg)(vs:aw):bz G .toInt vs=cj intD vs:=rfl
@[simp] theorem opD_sum (G:Pg)(vs:aw):bz G .sum vs=cj (fN lx) vs:=rfl
@[simp] theorem opD_srt (G:Pg)(vs:aw):bz G .srt vs=cj (fN i7) vs:=rfl
@[simp] theorem Bn (G:Pg)(vs:aw):bz G .srtSet vs=cj (fN λxs=>match cO xs with | some ns=>some (1,.lst (aK (bB ns))) | none=>none) vs:=rfl
@[simp] theorem opD_symd (G:Pg)(vs:aw):bz G .symd vs=none:=rfl
@[simp] theorem opD_min1 (G:Pg)(vs:aw):bz G .min1 vs=none:=rfl
@[simp] theorem opD_min2 (G:Pg)(vs:aw):bz G .min2 vs=bI (bP λi j=>fI (if j<i then j else i)) vs:=rfl
@[simp] theorem opD_max2 (G:Pg)(vs:aw):bz G .max2 vs=bI (bP λi j=>fI (if j > i then j else i)) vs:=rfl
@[simp] theorem DK (G:Pg)(vs:aw):bz G .index vs=bI cD vs:=rfl
@[simp] theorem opD_count (G:Pg)(vs:aw):bz G .count vs=bI jv vs:=rfl
@[simp,reducible] noncomputable def R.of {α:Type}:Option α->R α
 | some a=>.ok a
 | none=>.bad
def b9 {α:Type}{x:α}(h:(none:Option α)=some x):False:=nomatch h
noncomputable def nJ (f:D->Option ax):aw->Option ax
 | []=>none
 | x::r=>match r with
  | []=>f x.2
  | _::_=>none
noncomputable def ua (f:D->D->Option ax):aw->Option ax
 | []=>none
 | x::r=>match r with
  | []=>none
  | y::t=>match t with
   | []=>f x.2 y.2
   | _::_=>none
def sR {f:D->Option ax}{vs:aw}{ds:ax}(h:nJ f vs=some ds):∃x,vs=[x]/\f x.2=some ds:=by
 cases vs with
 | nil=>exact (b9 h).elim
 | cons x r=>
  cases r with
  | nil=>exact⟨x,rfl,h⟩
  | cons _ _=>exact (b9 h).elim
def Ao {f:D->D->Option ax}{vs:aw}{ds:ax}(h:ua f vs=some ds):∃x y,vs=[x,y]/\f x.2 y.2=some ds:=by
 cases vs with
 | nil=>exact (b9 h).elim
 | cons x r=>
  cases r with
  | nil=>exact (b9 h).elim
  | cons y t=>
   cases t with
   | nil=>exact⟨x,y,rfl,h⟩
   | cons _ _=>exact (b9 h).elim
noncomputable def jZ:D->Option Int
 | .int i=>some i
 | _=>none
def zo {d:D}{i:Int}(h:jZ d=some i):d=.int i:=by
 cases d <;> first | exact (b9 h).elim | exact congrArg D.int (cy h)
noncomputable def iW (d:D):Option ax:=(jZ d).bind λj=>if d6 j=true then some ((List.range j.toNat).map λ(n:Nat)=>.int n) else none
noncomputable def i5 (x:D):Option ax:=x.seq.map λxs=>xs.mapIdx λn d=>.tup [.int n,d]
noncomputable def lD (x y:D):Option ax:=x.lstO.bind λxs=>y.lstO.map λys=>(xs.zip ys).map λp=>.tup [p.1,p.2]
noncomputable def dF:Wk->aw->Option ax
 | .seq=>nJ D.seq
 | .rng1=>nJ iW
 | .enum=>nJ i5
 | .zip=>ua lD
noncomputable abbrev Sl:=List (Option D)
@[simp] noncomputable def cQ (a:Sl):aC->Option D
 | some i=>(a[i]?).join
 | none=>none
@[simp] noncomputable def cg {α:Type}(f:D->α):ak->ax->List (Option α)->List (Option α)
 | i::is,d::ds,a=>cg f is ds (a.set i (some (f d)))
 | _,_,a=>a
@[simp] noncomputable def dN {α:Type}(f:D->α)(a:List (Option α)):Tg->D->Option (List (Option α))
 | .one i,d=>some (a.set i (some (f d)))
 | .many is,d=>match d with
  | .tup ds=>if ds.length=is.length then some (cg f is ds a) else none
  | _=>none
noncomputable def be (f:D->R az):ax->R aw
 | []=>.ok []
 | x::xs=>(f x).bind λo=>(be f xs).bind λys=>.ok (match o with | some y=>y::ys | none=>ys)
@[simp] noncomputable def R.bl (r:R KD):R Bool:=r.bind λx=>match x.2 with
 | .bl b=>.ok b
 | _=>.bad
@[simp] noncomputable def R.nox {α:Type}(r:R α):R α:=match r with | .exc _ _=>.bad | r=>r
noncomputable def gD {α:Type}(d:D)(t e b:α):α:=match d with
 | .bl c=>if c then t else e
 | _=>b
@[simp] theorem kQ {α:Type}(c:Bool)(t e b:α):gD (.bl c) t e b=if c then t else e:=rfl
section
variable (G:Pg)(cl:Nat->aw->Run)
@[simp] noncomputable def hZ:Run->R KD
 | .ret k d []=>.ok (k,d)
 | .exc c fs []=>.exc c fs
 | _=>.bad
@[simp] noncomputable def fill (F:Fn)(vs:aw):aw:=vs++(F.dfl.drop (F.dfl.length - (F.np - vs.length))).map λd=>(99,d)
@[simp] noncomputable def dA (f m:Nat):Option Fn:=match G.fn f with
 | some F=>if F.io=[]/\m<=F.np/\F.np - m<=F.dfl.length then some F else none
 | none=>none
noncomputable def bZ (c m:Nat):Option (Nat×Fn×D):=match G.cl c with
 | some C=>match C.init with
  | some f=>match G.fn f with
   | some F=>if F.io=[0]/\m+1<=F.np/\F.np - (m+1)<=F.dfl.length/\m<=50 then some (f,F,if C.isx then .exc c [] else .ins c []) else none
   | none=>none
  | none=>none
 | none=>none
@[simp] noncomputable def made:Run->R KD
 | .ret _ .non [x]=>.ok x
 | .exc c fs _=>.exc c fs
 | _=>.bad
@[simp] noncomputable def fW (p:Nat×Fn×D)(vs:aw):R KD:=made (cl p.1 ((1,p.2.2)::fill { p.2.1 with np:=p.2.1.np - 1 } vs))
noncomputable def cn (m k:Nat):D->Option (Nat×Fn)
 | .ins c fs=>match G.cl c with
  | some C=>match C.meths.lookup m with
   | some f=>match G.fn f with
    | some F=>if F.io=[]/\fs.lookup m=none/\k+1<=F.np/\F.np - (k+1)<=F.dfl.length then some (f,F) else none
    | none=>none
   | none=>none
  | none=>none
 | _=>none
@[simp] noncomputable def jJ (i:Int)(x:D):D->R KD
 | .int j=>R.of (aZ (some i) (some j) x)
 | _=>.bad
mutual
noncomputable def eval (a:Sl):Ex->R KD
 | .var i=>match a[i]? with
  | some (some d)=>.ok (0,d)
  | _=>.bad
 | .cst d=>.ok (99,d)
 | .op o es=>(evals a es).bind λvs=>R.of (bz G o vs)
 | .and x y=>(eval a x).bind λv=>gD v.2 (eval a y) (k9 false) .bad
 | .or x y=>(eval a x).bind λv=>gD v.2 (k9 true) (eval a y) .bad
 | .ite c x y=>(eval a c).bind λv=>gD v.2 (eval a x) (eval a y) .bad
 | .chain o p x y z=>(eval a x).bind λu=>(eval a y).bind λv=>(R.of (bz G o [u,v])).bind λb=>gD b.2 ((eval a z).bind λw=>R.of (bz G p [v,w])) (k9 false) .bad
 | .sl2 x y z=>(eval a x).bind λu=>(eval a y).bind λv=>match v.2 with
  | .int i=>(eval a z).bind λw=>jJ i u.2 w.2
  | _=>.bad
 | .comp caps tg wk it t e=>(evals a it).bind λvs=>match dF wk vs with
  | some xs=>if xs.length<=SL then
    ((be (λx=>match dN id (caps.map (cQ a)) tg x with
     | some b=>((evals b t).bind λts=>match ts with
      | []=>(eval b e).bind λy=>.ok (some y)
      | [t]=>gD t.2 ((eval b e).bind λy=>.ok (some y)) (.ok none) .bad
      | _=>.bad)
     | none=>.bad) xs).nox).bind λys=>.ok (aY ys+1,.lst (ys.map (·.2)))
   else .bad
  | none=>.bad
 | .call f es=>(R.of (dA G f es.length)).bind λF=>(evals a es).bind λvs=>hZ (cl f (fill F vs))
 | .make c es=>(R.of (bZ G c es.length)).bind λp=>(evals a es).bind (fW cl p)
 | .meth m o es=>(eval a o).bind λx=>(R.of (cn G m es.length x.2)).bind λp=>(evals a es).bind λvs=>hZ (cl p.1 (fill p.2 (x::vs)))
 | .bad=>.bad
noncomputable def evals (a:Sl):aF->R aw
 | []=>.ok []
 | e::es=>(eval a e).bind λx=>(evals a es).bind λxs=>.ok (x::xs)
end
@[simp] theorem di (a:Sl):evals G cl a []=.ok []:=rfl
@[simp] theorem bL (a:Sl)(e:Ex)(es:aF):evals G cl a (e::es)=(eval G cl a e).bind λx=>(evals G cl a es).bind λxs=>.ok (x::xs):=rfl
noncomputable def compF (b0:Sl)(tg:Tg)(t:aF)(e:Ex)(x:D):R az:=match dN id b0 tg x with
 | some b=>(evals G cl b t).bind λts=>match ts with
  | []=>(eval G cl b e).bind λy=>.ok (some y)
  | [t]=>gD t.2 ((eval G cl b e).bind λy=>.ok (some y)) (.ok none) .bad
  | _=>.bad
 | none=>.bad
@[simp] theorem ip (a:Sl)(i:Nat):eval G cl a (.var i)=match a[i]? with
  | some (some d)=>.ok (0,d)
  | _=>.bad:=rfl
@[simp] theorem kY (a:Sl)(d:D):eval G cl a (.cst d)=.ok (99,d):=rfl
@[simp] theorem cW (a:Sl)(o:Op)(es:aF):eval G cl a (.op o es)=(evals G cl a es).bind λvs=>R.of (bz G o vs):=rfl
@[simp] theorem mF (a:Sl)(x y:Ex):eval G cl a (.and x y)=(eval G cl a x).bind λv=>gD v.2 (eval G cl a y) (k9 false) .bad:=rfl
@[simp] theorem lW (a:Sl)(x y:Ex):eval G cl a (.or x y)=(eval G cl a x).bind λv=>gD v.2 (k9 true) (eval G cl a y) .bad:=rfl
@[simp] theorem uV (a:Sl)(c x y:Ex):eval G cl a (.ite c x y)=(eval G cl a c).bind λv=>gD v.2 (eval G cl a x) (eval G cl a y) .bad:=rfl
@[simp] theorem p9 (a:Sl)(o p:Op)(x y z:Ex):eval G cl a (.chain o p x y z)=(eval G cl a x).bind λu=>(eval G cl a y).bind λv=>(R.of (bz G o [u,v])).bind λb=>
  gD b.2 ((eval G cl a z).bind λw=>R.of (bz G p [v,w])) (k9 false) .bad:=rfl
@[simp] theorem rM (a:Sl)(x y z:Ex):eval G cl a (.sl2 x y z)=(eval G cl a x).bind λu=>(eval G cl a y).bind λv=>match v.2 with
  | .int i=>(eval G cl a z).bind λw=>jJ i u.2 w.2
  | _=>.bad:=rfl
@[simp] theorem mX (a:Sl)(f:Nat)(es:aF):eval G cl a (.call f es)=(R.of (dA G f es.length)).bind λF=>(evals G cl a es).bind λvs=>hZ (cl f (fill F vs)):=rfl
@[simp] theorem kG (a:Sl)(f:Nat)(es:aF):eval G cl a (.make f es)=(R.of (bZ G f es.length)).bind λp=>(evals G cl a es).bind (fW cl p):=rfl
@[simp] theorem kC (a:Sl)(m:Nat)(o:Ex)(es:aF):eval G cl a (.meth m o es)=(eval G cl a o).bind λx=>(R.of (cn G m es.length x.2)).bind λp=>(evals G cl a es).bind λvs=>hZ (cl p.1 (fill p.2 (x::vs))):=rfl
@[simp] theorem eS (a:Sl):eval G cl a .bad=.bad:=rfl
@[simp] theorem lh (a:Sl)(caps:List aC)(tg:Tg)(wk:Wk)(it t:aF)(e:Ex):eval G cl a (.comp caps tg wk it t e)=(evals G cl a it).bind λvs=>match dF wk vs with
  | some xs=>if xs.length<=SL then ((be (compF G cl (caps.map (cQ a)) tg t e) xs).nox).bind λys=>.ok (aY ys+1,.lst (ys.map (·.2))) else .bad
  | none=>.bad:=by
 rfl
noncomputable abbrev Fr:=List az
@[simp] noncomputable def Fr.sl (A:Fr):Sl:=A.map (Option.map (·.2))
inductive O where
 | nx (A:Fr) | ret (k:Nat) (d:D) (A:Fr) | brk (A:Fr) | cnt (A:Fr) | exc (c:Nat) (fs:List aJ) (A:Fr) | bad
mutual
@[simp] noncomputable def Ex.names:Ex->ak
 | .var i=>[i]
 | .cst _=>[]
 | .op _ es=>Ex.namess es
 | .and a b=>a.names++b.names
 | .or a b=>a.names++b.names
 | .ite c a b=>c.names++(a.names++b.names)
 | .chain _ _ a b c=>a.names++(b.names++c.names)
 | .sl2 a b c=>a.names++(b.names++c.names)
 | .comp caps _ _ it _ _=>caps.filterMap id++Ex.namess it
 | .call _ es=>Ex.namess es
 | .make _ es=>Ex.namess es
 | .meth _ o es=>o.names++Ex.namess es
 | .bad=>[]
@[simp] noncomputable def Ex.namess:aF->ak
 | []=>[]
 | e::es=>e.names++Ex.namess es
end
@[simp] noncomputable def frz1 (A:Fr)(i:Nat):Fr:=match A[i]? with
 | some (some (_,d))=>A.set i (some (0,d))
 | _=>A
@[simp] noncomputable def frz (ns:ak)(A:Fr):Fr:=ns.foldl frz1 A
noncomputable def de (A:Fr):Fr:=A.map (Option.map λx=>(0,x.2))
@[simp] noncomputable def settle (ns:ak)(A:Fr)(x:KD):Fr:=if x.2.fb x.1 then A else frz ns A
@[simp] noncomputable def excA (A:Fr)(fs:List aJ):Fr:=if fs.all λp=>p.2.flat then A else de A
@[simp] noncomputable def putF (f:Nat)(d:D):List aJ->List aJ
 | []=>[(f,d)]
 | (g,e)::r=>if g=f then (g,d)::r else (g,e)::putF f d r
noncomputable def bJ (body:D->Fr->O):ax->Fr->O
 | [],A=>.nx A
 | x::xs,A=>match body x A with
  | .nx A=>bJ body xs A
  | .cnt A=>bJ body xs A
  | .brk A=>.nx A
  | o=>o
noncomputable def c7 (test:Fr->R Bool)(body:Fr->O):Nat->Fr->O
 | 0,_=>.bad
 | n+1,A=>match test A with
  | .ok true=>match body A with
   | .nx A=>c7 test body n A
   | .cnt A=>c7 test body n A
   | .brk A=>.nx A
   | o=>o
  | .ok false=>.nx A
  | .exc c fs=>.exc c fs (excA A fs)
  | .bad=>.bad
@[simp] noncomputable def R.toO {α:Type}(r:R α)(A:Fr)(f:α->O):O:=match r with
 | .ok a=>f a
 | .exc c fs=>.exc c fs (excA A fs)
 | .bad=>.bad
@[simp] noncomputable def O.seq (o:O)(f:Fr->O):O:=match o with
 | .nx A=>f A
 | o=>o
noncomputable def D.isI:D->Bool
 | .int _=>true
 | _=>false
noncomputable def fD (m:Mu)(k:Nat)(xs:ax)(vs:aw):az:=match m,vs with
 | .append,[v]=>if xs.length<SL then some (cK k xs v+1,.lst (xs++[v.2])) else none
 | .extend,[v]=>match v.2 with
  | .tup ys=>if ys.all D.scal=true/\xs.length+ys.length<=SL then some (1,.lst (xs++ys)) else none
  | _=>none
 | .clear,[]=>some (99,.lst [])
 | .insert,[v,w]=>match v.2 with
  | .int i=>if 0<=i/\i.toNat<=xs.length/\xs.length<SL/\w.2.scal=true then some (1,.lst (xs.take i.toNat++w.2::xs.drop i.toNat)) else none
  | _=>none
 | .remove,[v]=>match v.2 with
  | .int i=>if xs.all D.isI=true then (match D.find (.int i) xs with | some j=>some (1,.lst (xs.eraseIdx j)) | none=>none) else none
  | _=>none
 | .pop0,[]=>if xs=[] then none else some (k+1,.lst xs.dropLast)
 | _,_=>none
@[simp] theorem uj (k:Nat)(xs:ax)(v:KD):fD .append k xs [v]=if xs.length<SL then some (cK k xs v+1,.lst (xs++[v.2])) else none:=rfl
@[simp] theorem mutD_clear (k:Nat)(xs:ax):fD .clear k xs []=some (99,.lst []):=rfl
@[simp] theorem sd (k:Nat)(xs:ax)(v w:KD):fD .insert k xs [v,w]=match v.2 with
  | .int i=>if 0<=i/\i.toNat<=xs.length/\xs.length<SL/\w.2.scal=true then some (1,.lst (xs.take i.toNat++w.2::xs.drop i.toNat)) else none
  | _=>none:=rfl
@[simp] theorem uy (k:Nat)(xs:ax)(v:KD):fD .remove k xs [v]=match v.2 with
  | .int i=>if xs.all D.isI=true then (match D.find (.int i) xs with | some j=>some (1,.lst (xs.eraseIdx j)) | none=>none) else none
  | _=>none:=rfl
@[simp] theorem tS (k:Nat)(xs:ax)(v:KD):fD .extend k xs [v]=match v.2 with
  | .tup ys=>if ys.all D.scal=true/\xs.length+ys.length<=SL then some (1,.lst (xs++ys)) else none
  | _=>none:=rfl
noncomputable def f9 (v:D):ax->Option ax
 | []=>some []
 | .lst xs::ds=>if xs.length<SL then (f9 v ds).map λes=>.lst (xs++[v])::es else none
 | _::_=>none
section
variable (io:ak)
@[simp] noncomputable def cC (i:Nat)(x:KD)(A:Fr):O:=if io.contains i=false/\i<A.length then .nx (A.set i (some x)) else .bad
@[simp] noncomputable def setFs:ak->aw->Fr->O
 | [],[],A=>.nx A
 | i::is,x::xs,A=>(cC io i x A).seq (setFs is xs)
 | _,_,_=>.bad
@[simp] noncomputable def ck (tg:Tg)(d:D)(A:Fr):O:=match tg,d with
 | .one i,d=>cC io i (0,d) A
 | .many is,.tup ds=>setFs io is (ds.map λd=>(0,d)) A
 | _,_=>.bad
@[simp] noncomputable def fX (io:ak)(is:ak)(e:Ex)(A:Fr)(x:KD):O:=match x.2 with
 | .tup ds=>setFs io is (ds.map λd=>(0,d)) (settle e.names A x)
 | _=>.bad
noncomputable def cJ (A:Fr)(e:Ex)(r:R KD):O:=match e with
 | .var i=>match A[i]? with
  | some (some x)=>.ret x.1 x.2 (A.set i none)
  | _=>.bad
 | e=>r.toO A λx=>.ret x.1 x.2 (settle e.names A x)
@[simp] theorem r9 (A:Fr)(i:Nat)(r:R KD):cJ A (.var i) r=match A[i]? with
  | some (some x)=>.ret x.1 x.2 (A.set i none)
  | _=>.bad:=rfl
@[simp] theorem retO_cst (A:Fr)(d:D)(r:R KD):cJ A (.cst d) r=r.toO A λx=>.ret x.1 x.2 (settle (Ex.cst d).names A x):=rfl
@[simp] theorem retO_op (A:Fr)(o:Op)(es:aF)(r:R KD):cJ A (.op o es) r=r.toO A λx=>.ret x.1 x.2 (settle (Ex.op o es).names A x):=rfl
@[simp] theorem retO_and (A:Fr)(x y:Ex)(r:R KD):cJ A (.and x y) r=r.toO A λz=>.ret z.1 z.2 (settle (Ex.and x y).names A z):=rfl
@[simp] theorem retO_or (A:Fr)(x y:Ex)(r:R KD):cJ A (.or x y) r=r.toO A λz=>.ret z.1 z.2 (settle (Ex.or x y).names A z):=rfl
@[simp] theorem retO_ite (A:Fr)(c x y:Ex)(r:R KD):cJ A (.ite c x y) r=r.toO A λz=>.ret z.1 z.2 (settle (Ex.ite c x y).names A z):=rfl
@[simp] theorem retO_chain (A:Fr)(o p:Op)(x y w:Ex)(r:R KD):cJ A (.chain o p x y w) r=r.toO A λz=>.ret z.1 z.2 (settle (Ex.chain o p x y w).names A z):=rfl
@[simp] theorem retO_sl2 (A:Fr)(x y w:Ex)(r:R KD):cJ A (.sl2 x y w) r=r.toO A λz=>.ret z.1 z.2 (settle (Ex.sl2 x y w).names A z):=rfl
@[simp] theorem retO_comp (A:Fr)(caps:List aC)(tg:Tg)(wk:Wk)(it t:aF)(e:Ex)(r:R KD):cJ A (.comp caps tg wk it t e) r=r.toO A λz=>.ret z.1 z.2 (settle (Ex.comp caps tg wk it t e).names A z):=rfl
@[simp] theorem retO_call (A:Fr)(f:Nat)(es:aF)(r:R KD):cJ A (.call f es) r=r.toO A λz=>.ret z.1 z.2 (settle (Ex.call f es).names A z):=rfl
@[simp] theorem retO_make (A:Fr)(f:Nat)(es:aF)(r:R KD):cJ A (.make f es) r=r.toO A λz=>.ret z.1 z.2 (settle (Ex.make f es).names A z):=rfl
@[simp] theorem retO_meth (A:Fr)(f:Nat)(o:Ex)(es:aF)(r:R KD):cJ A (.meth f o es) r=r.toO A λz=>.ret z.1 z.2 (settle (Ex.meth f o es).names A z):=rfl
@[simp] theorem retO_bad (A:Fr)(r:R KD):cJ A .bad r=r.toO A λz=>.ret z.1 z.2 (settle Ex.bad.names A z):=rfl
@[simp] noncomputable def gk (ns:ak)(A:Fr)(x:KD):O:=match x with
 | (_+1,.exc c fs)=>.exc c fs (excA (settle ns A x) fs)
 | _=>.bad
@[simp] noncomputable def dZ (m:Mu)(vs:aw)(A:Fr)(x:Nat):Option az->O
 | some (some (k+1,.lst xs))=>match fD m k xs vs with
  | some y=>.nx (A.set x (some y))
  | none=>.bad
 | _=>.bad
noncomputable def qh (m:Mu)(vs:aw)(A:Fr)(x:Nat)(i:Int):Option az->O
 | some (some (k+2,.lst xs))=>match ef xs.length i with
  | some j=>match xs[j]? with
   | some (.lst ys)=>match fD m k ys vs with
    | some y=>.nx (A.set x (some (cK (k+1) (xs.eraseIdx j) y+1,.lst (xs.set j y.2))))
    | none=>.bad
   | _=>.bad
  | none=>.bad
 | _=>.bad
@[simp] noncomputable def cq:Option az->Bool
 | some (some (_,.lst _))=>true
 | _=>false
@[simp] noncomputable def dL (m:Mu)(A:Fr)(x:Nat)(es:aF)(ps vs:aw):O:=
 let A1:=if vs.all (λv=>v.2.fb v.1) then A else frz (Ex.namess es) A
 match ps with
 | []=>dZ m vs A1 x A1[x]?
 | [(_,.int i)]=>qh m vs A1 x i A1[x]?
 | _=>.bad
@[simp] noncomputable def put0 (A:Fr)(x:Nat)(v w:KD):Option az->O
 | some (some (k+1,.lst xs))=>match w.2 with
  | .int i=>if 0<=i/\i<xs.length then .nx (A.set x (some (1,.lst (xs.set i.toNat v.2)))) else .bad
  | _=>.bad
 | _=>.bad
@[simp] noncomputable def gi (A:Fr)(x f:Nat)(v:KD):Option az->O
 | some (some (k+1,.ins c fs))=>if fs.length<50 then .nx (A.set x (some (cK k (fs.map (·.2)) v+1,.ins c (putF f v.2 fs)))) else .bad
 | some (some (k+1,.exc c fs))=>if fs.length<50 then .nx (A.set x (some (cK k (fs.map (·.2)) v+1,.exc c (putF f v.2 fs)))) else .bad
 | _=>.bad
@[simp] noncomputable def gJ (A:Fr):aw->O
 | (_,.exc _ _)::_=>.nx A
 | _=>.bad
@[simp] noncomputable def iD (G:Pg)(io:ak)(c i x:Nat):O->O
 | .exc c' fs A'=>if bc G (.exc c' fs) (.cls c)=true then (cC io x (0,.exc c' fs) A').seq λA=>if io.contains i=false/\i≠x/\i<A.length then .nx (A.set i none) else .bad else .bad
 | o=>o
@[simp] noncomputable def appAll0 (io:ak)(A:Fr)(x y:Nat)(v:KD):Option az->O
 | some (some (k+2,.lst ds))=>if v.2.flat=true/\io.contains x=false/\x≠y/\x<A.length then match f9 v.2 ds with
   | some es=>.nx ((A.set y (some (k+2,.lst es))).set x none)
   | none=>.bad
  else .bad
 | _=>.bad
@[simp] noncomputable def i9 (A:Fr)(s:Str)(i:Nat):Option az->O
 | some (some x)=>.ret (x.1+1) (.tup [.str s,x.2]) (A.set i none)
 | _=>.bad
@[simp] noncomputable def appAt0 (A:Fr)(x i:Nat)(v:KD):Option az->O
 | some (some (k+2,.tup ds))=>match ds[i]? with
  | some (.lst ys)=>if v.2.scal=true/\ys.length<SL then .nx (A.set x (some (k+2,.tup (ds.set i (.lst (ys++[v.2])))))) else .bad
  | _=>.bad
 | _=>.bad
@[simp] noncomputable def Wk.rng:Wk->Bool
 | .rng1=>true
 | _=>false
@[simp] noncomputable def Wk.fz (wk:Wk)(it:aF):ak:=if wk.rng=true then [] else Ex.namess it
@[simp] noncomputable def kX (G:Pg)(loop:ax->Fr->O)(wk:Wk)(it:aF)(A:Fr)(vs:aw):O:=match dF wk vs with
 | some xs=>if xs.length<=SL then loop xs (frz (wk.fz it) A) else .bad
 | none=>.bad
mutual
noncomputable def exec (A:Fr):S->O
 | .set i e=>(eval G cl A.sl e).toO A λx=>cC io i x (settle e.names A x)
 | .setT is e=>(eval G cl A.sl e).toO A (fX io is e A)
 | .ret e=>cJ A e (eval G cl A.sl e)
 | .ex e=>(eval G cl A.sl e).toO A λx=>.nx (settle e.names A x)
 | .iff c t e=>((eval G cl A.sl c).bl).toO A λb=>if b then execs A t else execs A e
 | .whl c b=>c7 (λA=>(eval G cl A.sl c).bl) (λA=>execs A b) 10000 A
 | .fo tg wk it b=>(evals G cl A.sl it).toO A (kX G (bJ λx A=>(ck io tg x A).seq λA=>execs A b) wk it A)
 | .brk=>.brk A
 | .cnt=>.cnt A
 | .pass=>.nx A
 | .rais c es=>(eval G cl A.sl (.make c es)).toO A (gk (Ex.make c es).names A)
 | .mut x path m es=>if cq A[x]? then (evals G cl A.sl path).toO A λps=>(evals G cl A.sl es).toO A (dL m A x es ps) else .bad
 | .sfld x f e=>(eval G cl A.sl e).toO A λv=>gi (settle e.names A v) x f v (settle e.names A v)[x]?
 | .xinit es=>(evals G cl A.sl es).toO A (gJ A)
 | .tryE b c i x=>iD G io c i x (execs A b)
 | .retP s i=>i9 A s i A[i]?
 | .bad=>.bad
noncomputable def execs (A:Fr):ay->O
 | []=>.nx A
 | s::ss=>(exec A s).seq λA=>execs A ss
end
end
end
section
variable (G:Pg)(cl:Nat->aw->Run)(io:ak)
@[simp] theorem pQ (A:Fr):execs G cl io A []=.nx A:=rfl
@[simp] theorem jC (A:Fr)(s:S)(ss:ay):execs G cl io A (s::ss)=(exec G cl io A s).seq λA=>execs G cl io A ss:=rfl
noncomputable def fw (tg:Tg)(b:ay)(x:D)(A:Fr):O:=(ck io tg x A).seq λA=>execs G cl io A b
noncomputable def iI (c:Ex)(A:Fr):R Bool:=(eval G cl A.sl c).bl
noncomputable def ko (b:ay)(A:Fr):O:=execs G cl io A b
@[simp] theorem ku (A:Fr)(i:Nat)(e:Ex):exec G cl io A (.set i e)=(eval G cl A.sl e).toO A λx=>cC io i x (settle e.names A x):=rfl
@[simp] theorem uO (A:Fr)(is:ak)(e:Ex):exec G cl io A (.setT is e)=(eval G cl A.sl e).toO A (fX io is e A):=rfl
@[simp] theorem oI (A:Fr)(e:Ex):exec G cl io A (.ret e)=cJ A e (eval G cl A.sl e):=rfl
@[simp] theorem qG (A:Fr)(e:Ex):exec G cl io A (.ex e)=(eval G cl A.sl e).toO A λx=>.nx (settle e.names A x):=rfl
@[simp] theorem s0 (A:Fr)(c:Ex)(t e:ay):exec G cl io A (.iff c t e)=((eval G cl A.sl c).bl).toO A λb=>if b then execs G cl io A t else execs G cl io A e:=rfl
@[simp] theorem exec_brk (A:Fr):exec G cl io A .brk=.brk A:=rfl
@[simp] theorem exec_cnt (A:Fr):exec G cl io A .cnt=.cnt A:=rfl
@[simp] theorem exec_pass (A:Fr):exec G cl io A .pass=.nx A:=rfl
@[simp] theorem ti (A:Fr)(c:Nat)(es:aF):exec G cl io A (.rais c es)=(eval G cl A.sl (.make c es)).toO A (gk (Ex.make c es).names A):=rfl
@[simp] theorem hG (A:Fr)(x:Nat)(path:aF)(m:Mu)(es:aF):exec G cl io A (.mut x path m es)=if cq A[x]? then (evals G cl A.sl path).toO A λps=>(evals G cl A.sl es).toO A (dL m A x es ps) else .bad:=rfl
@[simp] theorem BH (A:Fr)(x f:Nat)(e:Ex):exec G cl io A (.sfld x f e)=(eval G cl A.sl e).toO A λv=>gi (settle e.names A v) x f v (settle e.names A v)[x]?:=rfl
@[simp] theorem EC (A:Fr)(es:aF):exec G cl io A (.xinit es)=(evals G cl A.sl es).toO A (gJ A):=rfl
@[simp] theorem uH (A:Fr)(b:ay)(c i x:Nat):exec G cl io A (.tryE b c i x)=iD G io c i x (execs G cl io A b):=rfl
@[simp] theorem ur (A:Fr)(s:Str)(i:Nat):exec G cl io A (.retP s i)=i9 A s i A[i]?:=rfl
@[simp] theorem wQ (A:Fr):exec G cl io A .bad=.bad:=rfl
@[simp] theorem pz (A:Fr)(tg:Tg)(wk:Wk)(it:aF)(b:ay):exec G cl io A (.fo tg wk it b)=(evals G cl A.sl it).toO A (kX G (bJ (fw G cl io tg b)) wk it A):=by
 rfl
@[simp] theorem vI (A:Fr)(c:Ex)(b:ay):exec G cl io A (.whl c b)=c7 (iI G cl c) (ko G cl io b) 10000 A:=by
 rfl
end
def vR {j:Nat}{x:KD}(h:x.2.flat=true):bo j x=true:=by simp[bo,h]
@[simp] theorem joinK_nil:aY []=98:=rfl
@[simp] theorem og {x:KD}{xs:aw}(h:x.2.flat=true):aY (x::xs)=aY xs:=by
 have h2:∀j,bo j x=true:=λj=>vR h;unfold aY;rw[List.find?_cons_of_neg (by simp[h])];cases xs.find? λx=>!x.2.flat with
 | none=>rfl
 | some y=>
  show (if (bo y.1 x&&xs.all (bo y.1))=true then y.1 else 0)=if xs.all (bo y.1)=true then y.1 else 0
  rw[h2 y.1,Bool.true_and]
@[simp] noncomputable def outs (A:Fr):ak->Option aw
 | []=>some []
 | i::is=>match A[i]? with
  | some (some x)=>(outs A is).map λxs=>x::xs
  | _=>none
@[simp] noncomputable def fin (io:ak):O->Run
 | .nx A=>match outs A io with
  | some xs=>.ret 99 .non xs
  | none=>.bad
 | .ret k d A=>match outs A io with
  | some xs=>.ret k d xs
  | none=>.bad
 | .exc c fs A=>match outs A io with
  | some xs=>.exc c fs xs
  | none=>.bad
 | _=>.bad
@[simp] noncomputable def bE (F:Fn)(vs:aw):Fr:=vs.mapIdx (λi v=>if F.io.contains i then some v else some (0,v.2))++List.replicate (F.ns - F.np) none
noncomputable def run (G:Pg):Nat->Nat->aw->Run
 | 0,_,_=>.bad
 | n+1,f,vs=>match G.fn f with
  | some F=>if vs.length=F.np then fin F.io (execs G (run G n) F.io (bE F vs) F.body) else .bad
  | none=>.bad
end
end Ip
end
section
namespace Ip
open PySem
structure Tb where
 fns:List (Str×Nat)
 cls:List (Str×Nat)
 wb:Str
 att:ar
 fl:ak
 cst:List (Str×D)
noncomputable def pos? (x:Str):ar->aC
 | []=>none
 | y::ys=>if y == x then some 0 else (pos? x ys).map (·+1)
theorem pos?_get {x:Str}:∀{l:ar} {i:Nat},pos? x l=some i->l[i]? = some x
 | [],_,h=>by simp[pos?] at h
 | y::ys,i,h=>by
  unfold pos? at h;by_cases e:(y == x)=true
  .rw[if_pos e] at h;cases h;simpa using e
  .rw[if_neg e] at h;cases q:pos? x ys with
   | none=>rw[q] at h; cases h
   | some j=>rw[q] at h; cases h; simpa using pos?_get q
noncomputable def pB:Operator->Option Op
 | .Add=>some .add | .Sub=>some .sub | .Mult=>some .mul | .FloorDiv=>some .fdiv | .Mod=>some .mod | .Pow=>some .pow
 | _=>none
noncomputable def gy:CmpOp->Option Op
 | .Eq=>some .eq | .NotEq=>some .ne | .Lt=>some .lt | .LtE=>some .le | .Gt=>some .gt | .GtE=>some .ge | .In=>some .isin | .NotIn=>some .nin
 | _=>none
noncomputable def bt (sc:Scope)(x:Str):Bool:=sc.names.lookup x == some .globalImplicit
noncomputable def bj (sc:Scope)(x:Str):Bool:=sc.names.lookup x == some .local||sc.names.lookup x == some .cell||sc.names.lookup x == some .free
noncomputable def bF (sc:Scope)(x:Str):Bool:=sc.names.lookup x == some .local||sc.names.lookup x == some .cell
noncomputable def lE:List (Str×Op):=[("len",.len),("list",.list),("tuple",.tuple),("all",.all)]
noncomputable def kr:List (Str×Ty):=[("int",.int),("bool",.bool),("str",.str),("list",.list),("tuple",.tuple),("dict",.dict),("ValueError",.verr)]
noncomputable def en (T:Tb)(sc:Scope):Expr->Option Ty
 | .Name x _=>if bt sc x then (match T.cls.lookup x with
  | some c=>some (.cls c)
  | none=>kr.lookup x) else none
 | _=>none
noncomputable def dS (T:Tb)(sc:Scope):Expr->Option (List Ty)
 | .Tuple es _ _=>if es.length<=1000 then es.mapM (en T sc) else none
 | e=>(en T sc e).map λt=>[t]
noncomputable def c9 (sc:Scope)(N N':ar)(caps:List aC)(scope:Scope):Bool:=
 scope.kind == .function&&scope.names.all (λy=>(y.2 != .cell||scope.names.lookup y.1 == some .cell)&&(y.2 != .local||scope.names.lookup y.1 == some .local)&&(y.2 != .free||(sc.names.lookup y.1 == some .cell||sc.names.lookup y.1 == some .free))) &&
 caps.length == N'.length&&decide N'.Nodup&&(caps.zip N').all λp=>match p.1 with
  | none=>true
  | some j=>N[j]? == some p.2&&scope.names.lookup p.2 == some .free
noncomputable def aU (scope:Scope):ar:=(scope.names.filter λy=>y.2 == .local||y.2 == .cell||y.2 == .free).map (·.1)
noncomputable def bn (N:ar)(scope:Scope):List aC:=(scope.names.filter λy=>y.2 == .local||y.2 == .cell||y.2 == .free).map λy=>if y.2 == .free then pos? y.1 N else none
noncomputable def cU (sc:Scope)(N:ar):Expr->Option Tg
 | .Name x _=>if bF sc x then (pos? x N).map .one else none
 | .Tuple es _ _=>(es.mapM λ(e:Expr)=>match e with
  | .Name x _=>if bF sc x then pos? x N else none
  | _=>none).map .many
 | _=>none
theorem uh (sc:Scope)(N:ar)(x:Str)(p:Pos):cU sc N (.Name x p)=if bF sc x then (pos? x N).map .one else none:=rfl
theorem DZ (sc:Scope)(N:ar)(es:au)(k:Nat)(p:Pos):cU sc N (.Tuple es k p)=(es.mapM λ(e:Expr)=>match e with
  | .Name x _=>if bF sc x then pos? x N else none
  | _=>none).map .many:=rfl
noncomputable def aR (x:Str):Bool:=!(x == ("__debug__" : Str))&&!(x == ("__classdict__" : Str))
noncomputable def cV:Expr->Bool
 | .Set _ _ _=>false
 | _=>true
noncomputable def iU:CmpOp->Option Op
 | .Eq=>some .eq | .NotEq=>some .ne | .Lt=>some .lt | .LtE=>some .le | .Gt=>some .gt | .GtE=>some .ge
 | _=>none
noncomputable def isNone:Expr->Bool
 | .Constant .none _ _=>true
 | _=>false
noncomputable def noStar (es:au):Bool:=es.all λe=>match e with
 | .Starred _ _=>false
 | _=>true
noncomputable def fH:Expr->Bool
 | .Call (.Name _ _) [] [] _=>false
 | _=>true
noncomputable def dY:Wk->Tg->Bool
 | .enum,.one _=>false
 | .zip,.one _=>false
 | _,_=>true
noncomputable def cZ:Tg->ak
 | .one i=>[i]
 | .many is=>is
noncomputable def bH:Expr->Option Str
 | .Name x _=>some x
 | _=>none
noncomputable def f7:Expr->Option (Expr×List Expr×List Keyword×Pos)
 | .Call f a k p=>some (f,a,k,p)
 | _=>none
noncomputable def gN:Expr->Option (Expr×Str×Pos)
 | .Attribute o m p=>some (o,m,p)
 | _=>none
noncomputable def km:Stmt->Option (List Expr×Expr×Pos)
 | .Assign ts e p=>some (ts,e,p)
 | _=>none
noncomputable def dB:ExceptHandler->Option Expr×Option Str×List Stmt×Pos
 | .ExceptHandler t n b p=>(t,n,b,p)
def gH {e:Expr}{x:Str}(h:bH e=some x):∃p,e=.Name x p:=by
 cases e <;> first | exact (b9 h).elim | exact⟨_,congrArg (λx=>Expr.Name x _) (cy h)⟩
def pH {e:Expr}{x:Expr×List Expr×List Keyword×Pos}(h:f7 e=some x):e=.Call x.1 x.2.1 x.2.2.1 x.2.2.2:=by
 cases e <;> first | exact (b9 h).elim | exact congrArg (λx:Expr×List Expr×List Keyword×Pos=>Expr.Call x.1 x.2.1 x.2.2.1 x.2.2.2) (cy h)
def td {e:Expr}{x:Expr×Str×Pos}(h:gN e=some x):e=.Attribute x.1 x.2.1 x.2.2:=by
 cases e <;> first | exact (b9 h).elim | exact congrArg (λx:Expr×Str×Pos=>Expr.Attribute x.1 x.2.1 x.2.2) (cy h)
def Ev {l:Stmt}{x:List Expr×Expr×Pos}(h:km l=some x):l=.Assign x.1 x.2.1 x.2.2:=by
 cases l <;> first | exact (b9 h).elim | exact congrArg (λx:List Expr×Expr×Pos=>Stmt.Assign x.1 x.2.1 x.2.2) (cy h)
def Dm (h:ExceptHandler):h=.ExceptHandler (dB h).1 (dB h).2.1 (dB h).2.2.1 (dB h).2.2.2:=by cases h; rfl
noncomputable def lZ (sc:Scope)(f:Str)(a:Expr):Option (Op×Expr):=(f7 a).bind λc=>(bH c.1).bind λg=>if c.2.1.length=1/\c.2.2.1.isEmpty=true/\(bt sc g&&noStar c.2.1)=true then
  (if (f == ("sorted" : Str)&&g == ("set" : Str))=true then c.2.1.head?.map λb=>(.srtSet,b) else if (f == ("list" : Str)&&g == ("reversed" : Str))=true then c.2.1.head?.map λb=>(.rev,b) else none)
 else none
def z9 {sc:Scope}{f:Str}{a b:Expr}{o:Op}(h:lZ sc f a=some (o,b)):∃g p1 p2,a=.Call (.Name g p1) [b] [] p2/\bt sc g=true/\noStar [b]=true/\((f = "sorted" /\ g = "set" /\ o=.srtSet)\/(f = "list" /\ g = "reversed" /\ o=.rev)):=by
 unfold lZ at h;obtain⟨c,n1,r1⟩:=dW h;obtain⟨g,n2,r2⟩:=dW r1;have e1:=pH n1;obtain⟨p,e2⟩:=gH n2;by_cases c1:c.2.1.length=1/\c.2.2.1.isEmpty=true/\(bt sc g&&noStar c.2.1)=true
 rotate_left
 .rw[if_neg c1] at r2; exact (b9 r2).elim
 rw[if_pos c1] at r2;obtain⟨l1,l2,l3⟩:=c1;obtain⟨x,ex⟩:=Gc.mp l1;rw[tw] at l3;have kw:c.2.2.1=[]:=Gq.mp l2;by_cases c2:(f == ("sorted" : Str)&&g == ("set" : Str))=true
 .rw[if_pos c2,ex] at r2;have r3:(Op.srtSet,x)=(o,b):=cy r2;cases r3;simp only[tw,Fi] at c2;exact⟨g,p,c.2.2.2,by rw[e1,e2,ex,kw],l3.1,by rw[<-ex]; exact l3.2,.inl ⟨c2.1,c2.2,rfl⟩⟩
 .rw[if_neg c2] at r2;by_cases c3:(f == ("list" : Str)&&g == ("reversed" : Str))=true
  .rw[if_pos c3,ex] at r2;have r3:(Op.rev,x)=(o,b):=cy r2;cases r3;simp only[tw,Fi] at c3;exact⟨g,p,c.2.2.2,by rw[e1,e2,ex,kw],l3.1,by rw[<-ex]; exact l3.2,.inr ⟨c3.1,c3.2,rfl⟩⟩
  .rw[if_neg c3] at r2; exact (b9 r2).elim
section
variable (T:Tb)
noncomputable def pv? (x:Str)(N:ar)(f:Nat->Ex):Ex:=match pos? x N with
 | some i=>f i
 | none=>.bad
noncomputable def mj:Expr->Bool
 | .Name _ _=>true
 | _=>false
noncomputable def gF:Expr->Bool
 | .Name _ _=>true
 | .Subscript a i _=>mj a&&mj i
 | _=>false
noncomputable def d7 (m:Str)(args:au):Bool:=m == ("index" : Str)&&args.length == 1&&args.all gF
mutual
noncomputable def cE (sc:Scope)(N:ar):Nat->Expr->Ex
 | 0,_=>.bad
 | n+1,.Name x _=>if bj sc x&&aR x then pv? x N .var else if bt sc x then (match T.cst.lookup x with | some d=>.cst d | none=>.bad) else .bad
 | n+1,.Constant c _ _=>match c with
  | .none=>.cst .non
  | .bool b=>.cst (.bl b)
  | .int i=>.cst (.int i)
  | .str s=>.cst (.str s)
  | _=>.bad
 | n+1,.BinOp a o b _=>match pB o with
  | some o=>.op o [cE sc N n a,cE sc N n b]
  | none=>.bad
 | n+1,.UnaryOp o a _=>match o with
  | .Not=>.op .not [cE sc N n a]
  | .USub=>.op .neg [cE sc N n a]
  | _=>.bad
 | n+1,.BoolOp o es p=>match es with
  | []=>.bad
  | [a]=>cE sc N n a
  | a::b::es=>match o with
   | .And=>.and (cE sc N n a) (cE sc N n (.BoolOp o (b::es) p))
   | .Or=>.or (cE sc N n a) (cE sc N n (.BoolOp o (b::es) p))
 | n+1,.Compare a os bs _=>match os,bs with
  | [o],[b]=>match o with
   | .Is=>if isNone b then .op .isN [cE sc N n a] else .bad
   | .IsNot=>if isNone b then .op .notN [cE sc N n a] else .bad
   | o=>match gy o with
    | some o=>if cV b then .op o [cE sc N n a,cE sc N n b] else .bad
    | none=>.bad
  | [o,p],[b,c]=>match iU o,iU p with
   | some o,some p=>.chain o p (cE sc N n a) (cE sc N n b) (cE sc N n c)
   | _,_=>.bad
  | _,_=>.bad
 | n+1,.List es _=>if es.length<=1000 then .op .lst (es.map (cE sc N n)) else .bad
 | n+1,.Tuple es _ _=>if es.length<=1000 then .op .tup (es.map (cE sc N n)) else .bad
 | n+1,.Subscript a i _=>match i with
  | .Slice lo hi st _=>match lo,hi,st with
   | some l,none,none=>.op .slL [cE sc N n a,cE sc N n l]
   | none,some l,none=>.op .slH [cE sc N n a,cE sc N n l]
   | some l,some h,none=>.sl2 (cE sc N n a) (cE sc N n l) (cE sc N n h)
   | _,_,_=>.bad
  | i=>.op .ix [cE sc N n a,cE sc N n i]
 | n+1,.Attribute o f _=>match pos? f T.att with
  | some k=>if T.fl.contains k&&fH o then .op (.fld k) [cE sc N n o] else .bad
  | none=>.bad
 | n+1,.ListComp e gs scope _=>match gs with
  | [⟨tg,iter,ifs,as⟩]=>
   if c9 sc N (aU scope) (bn N scope) scope&&as == 0&&decide (ifs.length<=1) then
    match cU scope (aU scope) tg with
    | some g=>if dY (cI sc N n iter).1 g&&(cZ g).all (λi=>(bn N scope)[i]? == some none) then
      .comp (bn N scope) g (cI sc N n iter).1 (cI sc N n iter).2 (ifs.map (cT scope (aU scope) n)) (cE scope (aU scope) n e)
     else .bad
    | none=>.bad
   else .bad
  | _=>.bad
 | n+1,.Call f args kws cp=>match kws with
  | []=>match f with
   | .Name f _=>if bt sc f then
     match T.fns.lookup f with
     | some k=>if noStar args then .call k (args.map (cE sc N n)) else .bad
     | none=>match T.cls.lookup f with
      | some c=>if noStar args then .make c (args.map (cE sc N n)) else .bad
      | none=>cB sc N n f args
    else .bad
   | .Attribute o m ap=>match pos? m T.att with
     | some k=>if fH o&&noStar args&&decide (args.length<30)&&ap.endLine == cp.line then .meth k (cE sc N n o) (args.map (cE sc N n)) else .bad
     | none=>if d7 m args&&fH o&&noStar args&&ap.endLine == cp.line then .op .index ((o::args).map (cE sc N n)) else .bad
   | _=>.bad
  | _=>.bad
 | _,_=>.bad
noncomputable def cT (sc:Scope)(N:ar):Nat->Expr->Ex
 | 0,_=>.bad
 | n+1,.BoolOp o es p=>match es with
  | []=>.bad
  | [a]=>cT sc N n a
  | a::b::es=>match o with
   | .And=>.and (cT sc N n a) (cT sc N n (.BoolOp o (b::es) p))
   | .Or=>.or (cT sc N n a) (cT sc N n (.BoolOp o (b::es) p))
 | n+1,.UnaryOp .Not a _=>.op .not [cT sc N n a]
 | n+1,.IfExp _ _ _ _=>.bad
 | n+1,e=>cE sc N n e
noncomputable def cB (sc:Scope)(N:ar):Nat->Str->au->Ex
 | 0,_,_=>.bad
 | n+1,f,args=>match args with
  | [a]=>match lZ sc f a with
   | some (o,b)=>.op o [cE sc N n b]
   | none=>match lE.lookup f with
    | some o=>.op o [cE sc N n a]
    | none=>.bad
  | [a,b]=>if f == ("isinstance" : Str) then (match dS T sc b with
    | some ts=>.op (.isi ts) [cE sc N n a]
    | none=>.bad)
   else .bad
  | _=>.bad
noncomputable def cI (sc:Scope)(N:ar):Nat->Expr->Wk×aF
 | 0,_=>(.seq,[.bad])
 | n+1,e=>match e with
  | .Call (.Name f p) args [] q=>
   if bt sc f&&f == ("range" : Str)&&noStar args then match args with
    | [a]=>(.rng1,[cE sc N n a])
    | _=>(.seq,[.bad])
   else if bt sc f&&f == ("enumerate" : Str)&&noStar args then match args with
    | [a]=>(.enum,[cE sc N n a])
    | _=>(.seq,[.bad])
   else if bt sc f&&f == ("zip" : Str)&&noStar args then match args with
    | [a,b]=>(.zip,[cE sc N n a,cE sc N n b])
    | _=>(.seq,[.bad])
   else (.seq,[cE sc N n (.Call (.Name f p) args [] q)])
  | e=>(.seq,[cE sc N n e])
end
theorem uo (sc:Scope)(N:ar)(e:Expr):cE T sc N 0 e=.bad:=rfl
theorem uG (sc:Scope)(N:ar)(n:Nat)(x:Str)(p:Pos):cE T sc N (n+1) (.Name x p)=if bj sc x&&aR x then pv? x N .var else if bt sc x then (match T.cst.lookup x with | some d=>.cst d | none=>.bad) else .bad:=rfl
theorem oX (sc:Scope)(N:ar)(n:Nat)(a:Expr)(os:List CmpOp)(bs:au)(p:Pos):cE T sc N (n+1) (.Compare a os bs p)=match os,bs with
  | [o],[b]=>match o with
   | .Is=>if isNone b then .op .isN [cE T sc N n a] else .bad
   | .IsNot=>if isNone b then .op .notN [cE T sc N n a] else .bad
   | o=>match gy o with
    | some o=>if cV b then .op o [cE T sc N n a,cE T sc N n b] else .bad
    | none=>.bad
  | [o,p],[b,c]=>match iU o,iU p with
   | some o,some p=>.chain o p (cE T sc N n a) (cE T sc N n b) (cE T sc N n c)
   | _,_=>.bad
  | _,_=>.bad:=rfl
theorem zR (sc:Scope)(N:ar)(n:Nat)(es:au)(p:Pos):cE T sc N (n+1) (.List es p)=if es.length<=1000 then .op .lst (es.map (cE T sc N n)) else .bad:=rfl
theorem yE (sc:Scope)(N:ar)(n:Nat)(es:au)(k:Nat)(p:Pos):cE T sc N (n+1) (.Tuple es k p)=if es.length<=1000 then .op .tup (es.map (cE T sc N n)) else .bad:=rfl
theorem oG (sc:Scope)(N:ar)(n:Nat)(a i:Expr)(p:Pos):cE T sc N (n+1) (.Subscript a i p)=match i with
  | .Slice lo hi st _=>match lo,hi,st with
   | some l,none,none=>.op .slL [cE T sc N n a,cE T sc N n l]
   | none,some l,none=>.op .slH [cE T sc N n a,cE T sc N n l]
   | some l,some h,none=>.sl2 (cE T sc N n a) (cE T sc N n l) (cE T sc N n h)
   | _,_,_=>.bad
  | i=>.op .ix [cE T sc N n a,cE T sc N n i]:=rfl
theorem yW (sc:Scope)(N:ar)(n:Nat)(o:Expr)(f:Str)(p:Pos):cE T sc N (n+1) (.Attribute o f p)=match pos? f T.att with
  | some k=>if T.fl.contains k&&fH o then .op (.fld k) [cE T sc N n o] else .bad
  | none=>.bad:=rfl
theorem uC (sc:Scope)(N:ar)(n:Nat)(e:Expr)(gs:List Comprehension)(scope:Scope)(p:Pos):cE T sc N (n+1) (.ListComp e gs scope p)=match gs with
  | [⟨tg,iter,ifs,as⟩]=>
   if c9 sc N (aU scope) (bn N scope) scope&&as == 0&&decide (ifs.length<=1) then
    match cU scope (aU scope) tg with
    | some g=>if dY (cI T sc N n iter).1 g&&(cZ g).all (λi=>(bn N scope)[i]? == some none) then
      .comp (bn N scope) g (cI T sc N n iter).1 (cI T sc N n iter).2 (ifs.map (cT T scope (aU scope) n)) (cE T scope (aU scope) n e)
     else .bad
    | none=>.bad
   else .bad
  | _=>.bad:=rfl
theorem tV (sc:Scope)(N:ar)(n:Nat)(f:Expr)(args:au)(kws:List Keyword)(cp:Pos):cE T sc N (n+1) (.Call f args kws cp)=match kws with
  | []=>match f with
   | .Name f _=>if bt sc f then
     match T.fns.lookup f with
     | some k=>if noStar args then .call k (args.map (cE T sc N n)) else .bad
     | none=>match T.cls.lookup f with
      | some c=>if noStar args then .make c (args.map (cE T sc N n)) else .bad
      | none=>cB T sc N n f args
    else .bad
   | .Attribute o m ap=>match pos? m T.att with
     | some k=>if fH o&&noStar args&&decide (args.length<30)&&ap.endLine == cp.line then .meth k (cE T sc N n o) (args.map (cE T sc N n)) else .bad
     | none=>if d7 m args&&fH o&&noStar args&&ap.endLine == cp.line then .op .index ((o::args).map (cE T sc N n)) else .bad
   | _=>.bad
  | _=>.bad:=rfl
theorem t8 (sc:Scope)(N:ar)(n:Nat)(f:Str)(args:au):cB T sc N (n+1) f args=match args with
  | [a]=>match lZ sc f a with
   | some (o,b)=>.op o [cE T sc N n b]
   | none=>match lE.lookup f with
    | some o=>.op o [cE T sc N n a]
    | none=>.bad
  | [a,b]=>if f == ("isinstance" : Str) then (match dS T sc b with
    | some ts=>.op (.isi ts) [cE T sc N n a]
    | none=>.bad)
   else .bad
  | _=>.bad:=rfl
theorem AE (sc:Scope)(N:ar)(n:Nat)(e:Expr):cI T sc N (n+1) e=match e with
  | .Call (.Name f p) args [] q=>
   if bt sc f&&f == ("range" : Str)&&noStar args then match args with
    | [a]=>(.rng1,[cE T sc N n a])
    | _=>(.seq,[.bad])
   else if bt sc f&&f == ("enumerate" : Str)&&noStar args then match args with
    | [a]=>(.enum,[cE T sc N n a])
    | _=>(.seq,[.bad])
   else if bt sc f&&f == ("zip" : Str)&&noStar args then match args with
    | [a,b]=>(.zip,[cE T sc N n a,cE T sc N n b])
    | _=>(.seq,[.bad])
   else (.seq,[cE T sc N n (.Call (.Name f p) args [] q)])
  | e=>(.seq,[cE T sc N n e]):=rfl
noncomputable def wv (x:Str)(sc:Scope):Bool:=bt sc x&&x == T.wb
noncomputable def pc? (x:Str)(f:Nat->S):S:=match T.cls.lookup x with
 | some i=>f i
 | none=>.bad
noncomputable def ps? (x:Str)(N:ar)(f:Nat->S):S:=match pos? x N with
 | some i=>f i
 | none=>.bad
noncomputable def ii (hs:List ExceptHandler):Option (Str×Str×Str×Str):=if hs.length=1 then
 (hs.head?.map dB).bind λh=>h.1.bind λte=>(bH te).bind λc=>h.2.1.bind λe=>if h.2.2.1.length=1 then (h.2.2.1.head?.bind km).bind λa=>if a.1.length=1 then (a.1.head?.bind bH).bind λx=>(bH a.2.1).bind λy=>some (c,e,x,y) else none else none
 else none
def yw {hs:List ExceptHandler}{c e x y:Str}(h:ii hs=some (c,e,x,y)):∃p1 p2 p3 p4 p5,hs=[.ExceptHandler (some (.Name c p1)) (some e) [.Assign [.Name x p2] (.Name y p3) p4] p5]:=by
 unfold ii at h;by_cases c1:hs.length=1
 rotate_left
 .rw[if_neg c1] at h; exact (b9 h).elim
 rw[if_pos c1] at h;obtain⟨hd,rfl⟩:=Gc.mp c1;obtain⟨q,n1,r1⟩:=dW h;obtain rfl:dB hd=q:=cy n1;obtain⟨te,n2,r2⟩:=dW r1;obtain⟨c',n3,r3⟩:=dW r2;obtain⟨e',n4,r4⟩:=dW r3;by_cases c2:(dB hd).2.2.1.length=1
 rotate_left
 .rw[if_neg c2] at r4; exact (b9 r4).elim
 rw[if_pos c2] at r4;obtain⟨s,es⟩:=Gc.mp c2;rw[es] at r4;obtain⟨a,n5,r5⟩:=dW r4;have e5:=Ev (show km s=some a from n5);by_cases c3:a.1.length=1
 rotate_left
 .rw[if_neg c3] at r5; exact (b9 r5).elim
 rw[if_pos c3] at r5;obtain⟨t,et⟩:=Gc.mp c3;rw[et] at r5;obtain⟨x',n6,r6⟩:=dW r5;obtain⟨y',n7,r7⟩:=dW r6;cases r7;obtain⟨p1,e3⟩:=gH n3;obtain⟨p2,e6⟩:=gH (show bH t=some x from n6);obtain⟨p3,e7⟩:=gH n7;refine⟨p1,p2,p3,a.2.2,(dB hd).2.2.2,?_⟩;have hh:=Dm hd;rw[n2,n4,es,e5,et,e3,e6,e7] at hh;exact congrArg (λh=>[h]) hh
noncomputable def fP:Expr->Bool
 | .Call _ _ _ _=>true
 | .Name _ _=>true
 | _=>false
noncomputable def ka (e:Expr):Option (Str×Str):=(gN e).bind λt=>(bH t.1).map λx=>(x,t.2.1)
def E2 {e:Expr}{x f:Str}(h:ka e=some (x,f)):∃p1 p2,e=.Attribute (.Name x p1) f p2:=by
 obtain⟨t,n1,r1⟩:=dW h;obtain⟨x',n2,r2⟩:=dG r1;cases r2;obtain⟨p1,e1⟩:=gH n2;exact⟨p1,t.2.2,by rw[td n1,e1]⟩
noncomputable def lO:Expr->Bool
 | .ListComp _ _ _ _=>true
 | _=>false
noncomputable def kD (e:Expr):Option (Str×Str×Pos×List Expr×Pos):=(f7 e).bind λc=>(gN c.1).bind λt=>(bH t.1).bind λx=>if c.2.2.1.isEmpty=true then some (x,t.2.1,t.2.2,c.2.1,c.2.2.2) else none
def zP {e:Expr}{x f:Str}{mp cp:Pos}{a:au}(h:kD e=some (x,f,mp,a,cp)):∃p1,e=.Call (.Attribute (.Name x p1) f mp) a [] cp:=by
 obtain⟨t,n1,r1⟩:=dW h;obtain⟨u,n2,r2⟩:=dW r1;obtain⟨x',n3,r3⟩:=dW r2;by_cases c:t.2.2.1.isEmpty=true
 rotate_left
 .rw[if_neg c] at r3; exact (b9 r3).elim
 rw[if_pos c] at r3;cases r3;obtain⟨p1,e1⟩:=gH n3;exact⟨p1,by rw[pH n1,td n2,e1,Gq.mp c]⟩
noncomputable def hU:Expr->Option au
 | .Tuple es _ _=>some es
 | _=>none
def vN {e:Expr}{es:au}(h:hU e=some es):∃k p,e=.Tuple es k p:=by
 cases e <;> first | exact (b9 h).elim | (cases h; exact⟨_,_,rfl⟩)
noncomputable def jX (e:Expr):Option (Str×au):=(f7 e).bind λt=>(bH t.1).bind λx=>if t.2.2.1.isEmpty=true then some (x,t.2.1) else none
def DC {e:Expr}{x:Str}{a:au}(h:jX e=some (x,a)):∃p1 p2,e=.Call (.Name x p1) a [] p2:=by
 obtain⟨t,n1,r1⟩:=dW h;obtain⟨x',n2,r2⟩:=dW r1;by_cases c:t.2.2.1.isEmpty=true
 rotate_left
 .rw[if_neg c] at r2; exact (b9 r2).elim
 rw[if_pos c] at r2;cases r2;obtain⟨p1,e1⟩:=gH n2;exact⟨p1,t.2.2.2,by rw[pH n1,e1,Gq.mp c]⟩
noncomputable def ke (sc:Scope)(N:ar)(n:Nat)(ts:au)(e:Expr):S:=match ts with
 | []=>.bad
 | t::r=>if r.isEmpty=true then (match bH t with
  | some x=>if bF sc x then ps? x N λi=>.set i (cE T sc N n e) else .bad
  | none=>match ka t with
    | some (x,f)=>if bj sc x&&aR x then ps? x N λk=>ps? f T.att λj=>if T.fl.contains j then .sfld k j (cE T sc N n e) else .bad else .bad
    | none=>match hU t with
     | some _=>if fP e then (match cU sc N t with
      | some (.many is)=>.setT is (cE T sc N n e)
      | _=>.bad) else .bad
     | none=>.bad) else .bad
noncomputable def my (sc:Scope)(N:ar)(n:Nat)(x:Str)(mp cp:Pos)(args:au):S:=match args with
 | [a]=>if noStar [a]&&mp.endLine == cp.line then ps? x N λi=>.mut i [] .append [cE T sc N n a] else .bad
 | _=>.bad
noncomputable def l9 (sc:Scope)(N:ar)(n:Nat)(x:Str)(mp cp:Pos)(args:au):S:=match args with
 | [a]=>if noStar [a]&&mp.endLine == cp.line then ps? x N λi=>.mut i [] .extend [cE T sc N n a] else .bad
 | _=>.bad
noncomputable def lQ (sc:Scope)(N:ar)(n:Nat)(x:Str)(mp cp:Pos)(args:au):S:=match args with
 | [a]=>if noStar [a]&&mp.endLine == cp.line then ps? x N λi=>.mut i [] .remove [cE T sc N n a] else .bad
 | _=>.bad
noncomputable def mI (sc:Scope)(N:ar)(n:Nat)(x:Str)(mp cp:Pos)(args:au):S:=match args with
 | [a,b]=>match bH b with
  | some y=>if noStar [a,b]&&mp.endLine == cp.line&&bj sc y&&aR y then ps? x N λi=>ps? y N λj=>.mut i [] .insert [cE T sc N n a,.var j] else .bad
  | none=>.bad
 | _=>.bad
noncomputable def lP (sc:Scope)(N:ar)(n:Nat)(mp cp:Pos)(args:au):S:=match args with
 | []=>.bad
 | a::as=>if noStar (a::as)&&decide (as.length<29)&&mp.endLine == cp.line then .xinit ((a::as).map (cE T sc N n)) else .bad
noncomputable def jI (sc:Scope)(N:ar)(n:Nat)(e:Expr):S:=match kD e with
 | some (x,m,mp,args,cp)=>
  if bj sc x&&aR x&&m == ("append" : Str) then my T sc N n x mp cp args
  else if bj sc x&&aR x&&m == ("extend" : Str) then l9 T sc N n x mp cp args
  else if bj sc x&&aR x&&m == ("insert" : Str) then mI T sc N n x mp cp args
  else if bj sc x&&aR x&&m == ("remove" : Str) then lQ T sc N n x mp cp args
  else if wv T x sc&&m == ("__init__" : Str) then lP T sc N n mp cp args
  else .ex (cE T sc N n e)
 | none=>if lO e then .bad else .ex (cE T sc N n e)
noncomputable def kf:Expr->Option Str
 | .Constant c _ _=>(match c with | .str s=>some s | _=>none)
 | _=>none
def Es {e:Expr}{s:Str}(h:kf e=some s):∃k p,e=.Constant (.str s) k p:=by
 cases e <;> first | exact (b9 h).elim | skip
 rename_i c k p;cases c <;> first | exact (b9 h).elim | (cases h; exact⟨_,_,rfl⟩)
noncomputable def nN (sc:Scope)(e:Expr):Option (Str×Str):=(hU e).bind λes=>if es.length=2 then (es.head?.bind kf).bind λs=>(es.getLast?.bind bH).bind λx=>if (bj sc x&&aR x)=true then some (s,x) else none else none
def En {sc:Scope}{e:Expr}{s x:Str}(h:nN sc e=some (s,x)):∃k1 p1 p2 k3 p3,e=.Tuple [.Constant (.str s) k1 p1,.Name x p2] k3 p3/\bj sc x=true/\aR x=true:=by
 unfold nN at h;obtain⟨es,n1,r1⟩:=dW h;obtain⟨k3,p3,e1⟩:=vN n1;by_cases c1:es.length=2
 rotate_left
 .rw[if_neg c1] at r1; exact (b9 r1).elim
 rw[if_pos c1] at r1;obtain⟨a,b,rfl⟩:∃a b,es=[a,b]:=by
  match es,c1 with
  | [a,b],_=>exact⟨a,b,rfl⟩
 obtain⟨s',n2,r2⟩:=dW r1;obtain⟨x',n3,r3⟩:=dW r2;by_cases c2:(bj sc x'&&aR x')=true
 rotate_left
 .rw[if_neg c2] at r3; exact (b9 r3).elim
 rw[if_pos c2] at r3;cases r3;obtain⟨k1,p1,e2⟩:=Es (show kf a=some s from n2);obtain⟨p2,e3⟩:=gH (show bH b=some x from n3);rw[tw] at c2;exact⟨k1,p1,p2,k3,p3,by rw[e1,e2,e3],c2.1,c2.2⟩
noncomputable def nR:Ex->Bool
 | .var _=>true
 | _=>false
noncomputable def jO (sc:Scope)(N:ar)(n:Nat)(o:aH):S:=match o with
 | none=>.ret (.cst .non)
 | some e=>match bH e with
  | some x=>if bj sc x&&aR x then ps? x N λi=>.ret (.var i) else .bad
  | none=>match nN sc e with
   | some (s,x)=>ps? x N λi=>.retP s i
   | none=>if nR (cE T sc N n e) then .bad else .ret (cE T sc N n e)
noncomputable def ky (sc:Scope)(N:ar)(n:Nat)(tg it:Expr)(b els:aG)(cb:ay):S:=match els with
 | _::_=>.bad
 | []=>match cU sc N tg with
   | some g=>if dY (cI T sc N n it).1 g then .fo g (cI T sc N n it).1 (cI T sc N n it).2 cb else .bad
   | none=>.bad
noncomputable def ki (sc:Scope)(N:ar)(n:Nat)(e c:aH):S:=match c with
 | some _=>.bad
 | none=>match e with
  | none=>.bad
  | some e=>match jX e with
   | some (x,args)=>if bt sc x&&noStar args then pc? T x λc=>.rais c (args.map (cE T sc N n)) else .bad
   | none=>.bad
noncomputable def jV (sc:Scope)(N:ar)(hs:List ExceptHandler)(els fin:aG)(cb:ay):S:=match ii hs with
 | some (c,e,x,y)=>
  if els.isEmpty=true/\fin.isEmpty=true/\(bt sc c&&c == T.wb&&y == e&&aR e&&bF sc x&&sc.names.lookup e == some .local)=true then pc? T c λk=>ps? e N λi=>ps? x N λj=>.tryE cb k i j else .bad
 | none=>.bad
noncomputable def cS (sc:Scope)(N:ar):Nat->Stmt->S
 | 0,_=>.bad
 | n+1,.Assign ts e _=>ke T sc N n ts e
 | n+1,.Expr e _=>jI T sc N n e
 | n+1,.Return o _=>jO T sc N n o
 | n+1,.If c a b _=>.iff (cT T sc N n c) (a.map (cS sc N n)) (b.map (cS sc N n))
 | n+1,.For tg it b els _=>ky T sc N n tg it b els (b.map (cS sc N n))
 | n+1,.While c b els _=>if els.isEmpty=true then .whl (cT T sc N n c) (b.map (cS sc N n)) else .bad
 | n+1,.Raise e c _=>ki T sc N n e c
 | n+1,.Try b hs els fin _=>jV T sc N hs els fin (b.map (cS sc N n))
 | _,_=>.bad
theorem E8 (sc:Scope)(N:ar)(n:Nat)(ts:au)(e:Expr)(p:Pos):cS T sc N (n+1) (.Assign ts e p)=ke T sc N n ts e:=rfl
theorem xu (sc:Scope)(N:ar)(n:Nat)(e:Expr)(p:Pos):cS T sc N (n+1) (.Expr e p)=jI T sc N n e:=rfl
theorem wF (sc:Scope)(N:ar)(n:Nat)(o:aH)(p:Pos):cS T sc N (n+1) (.Return o p)=jO T sc N n o:=rfl
theorem zA (sc:Scope)(N:ar)(n:Nat)(c:Expr)(b els:aG)(p:Pos):cS T sc N (n+1) (.While c b els p)=if els.isEmpty=true then .whl (cT T sc N n c) (b.map (cS T sc N n)) else .bad:=rfl
theorem wE (sc:Scope)(N:ar)(n:Nat)(tg it:Expr)(b els:aG)(p:Pos):cS T sc N (n+1) (.For tg it b els p)=ky T sc N n tg it b els (b.map (cS T sc N n)):=rfl
theorem De (sc:Scope)(N:ar)(n:Nat)(e c:aH)(p:Pos):cS T sc N (n+1) (.Raise e c p)=ki T sc N n e c:=rfl
theorem xv (sc:Scope)(N:ar)(n:Nat)(b:aG)(hs:List ExceptHandler)(els fin:aG)(p:Pos):cS T sc N (n+1) (.Try b hs els fin p)=jV T sc N hs els fin (b.map (cS T sc N n)):=rfl
noncomputable def rR:Expr->Option D
 | .Constant .none _ _=>some .non
 | .Constant (.bool b) _ _=>some (.bl b)
 | .Constant (.int i) _ _=>some (.int i)
 | .Constant (.str s) _ _=>some (.str s)
 | _=>none
noncomputable def fm (a:Arguments)(sc:Scope):ar:=
 let ps:=a.args.map (·.arg)
 ps++((sc.names.filter λy=>(y.2 == .local||y.2 == .cell)&&!ps.contains y.1).map (·.1))
noncomputable def cF (io:ak):Stmt->Option Fn
 | .FunctionDef _ a body [] _ _ sc _ _ _=>(a.defaults.mapM rR).map λds=>⟨a.args.length,io,(fm a sc).length,ds,body.map (cS T sc (fm a sc) 60)⟩
 | _=>none
end
end Ip
end
section
namespace L2
open PySem PySem.Spec PyProof.Rows
open Ip (D KD Ex Op Pg Fn Sl Fr Wk Tg Tb)
structure Wd where
 K:bm
 iA:Nat->aE
 xA:Nat->aE
 att:ar
def Sub (S H:Hp):Prop:=∀a o,S a=some o->H a=some o
def Sub.refl (H:Hp):Sub H H:=λ_ _ h=>h
def Sub.trans {A B C:Hp}(h:Sub A B)(k:Sub B C):Sub A C:=λa o e=>k a o (h a o e)
theorem Sub.upd {H:Hp}{a:Addr}{o:HO}(h:H a=none):Sub H (upd H a o):=λb u e=>by
 rw[bK (λz=>by rw[z,h] at e; cases e)]; exact e
theorem Sub.none {A B:Hp}(h:Sub A B){a:Addr}(e:B a=none):A a=none:=by
 cases q:A a with
 | none=>rfl
 | some o=>rw[h a o q] at e; cases e
open Classical in
noncomputable def hid (N:Addr->Prop)(H:Hp):Hp:=λa=>if N a then none else H a
def aW {N:Addr->Prop}{H:Hp}{a:Addr}{o:HO}:hid N H a=some o↔¬N a/\H a=some o:=by
 unfold hid;by_cases h:N a
 .simp[h]
 .simp[h]
def bN {N:Addr->Prop}{H:Hp}:Sub (hid N H) H:=λ_ _ e=>(aW.mp e).2
def gg {N N':Addr->Prop}{H H':Hp}(h:Sub H H')(n:∀a,N' a->N a\/H a=none):Sub (hid N H) (hid N' H'):=λa o e=>by
 obtain⟨h1,h2⟩:=aW.mp e;refine aW.mpr ⟨λz=>?_,h a o h2⟩;rcases n a z with q | q
 .exact h1 q
 .rw[h2] at q; cases q
theorem Rd.sub {S H:Hp}{a:Addr}{u:HO}(h:Sub S H):Rd S a u->Rd H a u
 | .inl e=>.inl (h _ _ e)
 | .inr ⟨o,e⟩=>.inr ⟨o,h _ _ e⟩
theorem SqL.sub {K:bm}{S H:Hp}{a:Addr}{xs:av}(h:Sub S H):SqL K S a xs->SqL K H a xs
 | .inl e=>.inl (Rd.sub h e)
 | .inr e=>.inr e
theorem SqT.sub {K:bm}{S H:Hp}{a:Addr}{xs:av}(h:Sub S H):SqT K S a xs->SqT K H a xs
 | .inl e=>.inl (Rd.sub h e)
 | .inr e=>.inr e
mutual
inductive Den (W:Wd) (S:Hp):V->D->Prop
 | non:Den W S .non .non
 | bl {b:Bool}:Den W S (.bl b) (.bl b)
 | int {i:Int}:Den W S (.int i) (.int i)
 | str {s:Str}:Den W S (.str s) (.str s)
 | lst {a:Addr} {vs:av} {ds:ax} (h:Rd S a (.lst vs)) (q:Dens W S vs ds):Den W S (.ref a) (.lst ds)
 | tup {a:Addr} {vs:av} {ds:ax} (h:SqT W.K S a vs) (q:Dens W S vs ds):Den W S (.ref a) (.tup ds)
 | ins {a C dx:Addr} {c:Nat} {fs:List (Str×V)} {ds:List aJ} (h:S a=some (.ins C dx fs)) (hc:W.iA c=some C) (q:DenF W S fs ds):Den W S (.ref a) (.ins c ds)
 | exc {a C:Addr} {nw:Bool} {c:Nat} {fs:List (Str×V)} {ds:List aJ} (h:S a=some (.exc C nw fs)) (hc:W.xA c=some C) (q:DenF W S fs ds):Den W S (.ref a) (.exc c ds)
inductive Dens (W:Wd) (S:Hp):av->ax->Prop
 | nil:Dens W S [] []
 | cons {v:V} {d:D} {vs:av} {ds:ax} (h:Den W S v d) (q:Dens W S vs ds):Dens W S (v::vs) (d::ds)
inductive DenF (W:Wd) (S:Hp):List (Str×V)->List aJ->Prop
 | nil:DenF W S [] []
 | cons {n:Str} {f:Nat} {v:V} {d:D} {vs:List (Str×V)} {ds:List aJ} (hf:W.att[f]? = some n) (h:Den W S v d) (q:DenF W S vs ds):DenF W S ((n,v)::vs) ((f,d)::ds)
end
mutual
theorem Den.mono {W:Wd}{S H:Hp}(h:Sub S H):∀{v d},Den W S v d->Den W H v d
 | _,_,.non=>.non
 | _,_,.bl=>.bl
 | _,_,.int=>.int
 | _,_,.str=>.str
 | _,_,.lst e q=>.lst (Rd.sub h e) (q.mono h)
 | _,_,.tup e q=>.tup (SqT.sub h e) (q.mono h)
 | _,_,.ins e hc q=>.ins (h _ _ e) hc (q.mono h)
 | _,_,.exc e hc q=>.exc (h _ _ e) hc (q.mono h)
theorem Dens.mono {W:Wd}{S H:Hp}(h:Sub S H):∀{v d},Dens W S v d->Dens W H v d
 | _,_,.nil=>.nil
 | _,_,.cons e q=>.cons (e.mono h) (q.mono h)
theorem DenF.mono {W:Wd}{S H:Hp}(h:Sub S H):∀{v d},DenF W S v d->DenF W H v d
 | _,_,.nil=>.nil
 | _,_,.cons f e q=>.cons f (e.mono h) (q.mono h)
end
theorem Dens.length {W:Wd}{S:Hp}:∀{vs ds},Dens W S vs ds->vs.length=ds.length
 | _,_,.nil=>rfl
 | _,_,.cons _ q=>by rw[List.length_cons,List.length_cons,q.length]
theorem Dens.get {W:Wd}{S:Hp}:∀{vs ds} {i:Nat} {d:D},Dens W S vs ds->ds[i]? = some d->∃v,vs[i]? = some v/\Den W S v d
 | _,_,_,_,.nil,e=>by simp at e
 | _,_,0,_,.cons h _,e=>by simp at e; subst e; exact⟨_,rfl,h⟩
 | _,_,i+1,_,.cons _ q,e=>by simpa using q.get (i:=i) (by simpa using e)
theorem Dens.append {W:Wd}{S:Hp}:∀{vs ws ds es},Dens W S vs ds->Dens W S ws es->Dens W S (vs++ws) (ds++es)
 | _,_,_,_,.nil,q=>q
 | _,_,_,_,.cons h t,q=>.cons h (t.append q)
theorem Dens.take {W:Wd}{S:Hp}:∀{vs ds} (n:Nat),Dens W S vs ds->Dens W S (vs.take n) (ds.take n)
 | _,_,0,_=>.nil
 | _,_,_+1,.nil=>.nil
 | _,_,n+1,.cons h t=>.cons h (t.take n)
theorem Dens.drop {W:Wd}{S:Hp}:∀{vs ds} (n:Nat),Dens W S vs ds->Dens W S (vs.drop n) (ds.drop n)
 | _,_,0,h=>h
 | _,_,_+1,.nil=>.nil
 | _,_,n+1,.cons _ t=>t.drop n
theorem Dens.set {W:Wd}{S:Hp}{v:V}{d:D}(r:Den W S v d):∀{vs ds} (i:Nat),Dens W S vs ds->Dens W S (vs.set i v) (ds.set i d)
 | _,_,_,.nil=>.nil
 | _,_,0,.cons _ t=>.cons r t
 | _,_,i+1,.cons q t=>.cons q (t.set r i)
theorem DenF.length {W:Wd}{S:Hp}:∀{vs ds},DenF W S vs ds->vs.length=ds.length
 | _,_,.nil=>rfl
 | _,_,.cons _ _ q=>by rw[List.length_cons,List.length_cons,q.length]
def oW {l:ar}(nd:l.Nodup){i j:Nat}{x:Str}(h:l[i]? = some x)(k:l[j]? = some x):i=j:=nS nd h k
theorem DenF.lookup {W:Wd}{S:Hp}(nd:W.att.Nodup){f:Nat}{n:Str}(hn:W.att[f]? = some n):∀{vs ds},DenF W S vs ds->(∀d,ds.lookup f=some d->∃v,vs.lookup n=some v/\Den W S v d)/\(ds.lookup f=none->vs.lookup n=none)
 | _,_,.nil=>⟨(λ_ e=>nomatch e),λ_=>rfl⟩
 | _,_,.cons (n:=m) (f:=g) hg h q=>by
  obtain⟨i1,i2⟩:=q.lookup nd hn;by_cases e:g=f
  .subst e;have:m=n:=by rw[hn] at hg; exact (cy hg).symm
   subst this;simp only[List.lookup_cons,beq_self_eq_true];exact⟨λd z=>⟨_,rfl,by cases cy z; exact h⟩,λz=>nomatch z⟩
  .have nm:n≠m:=λz=>e (oW nd hg (by rw[<-z]; exact hn));have b1:(f == g)=false:=by simpa using λz=>e (Eq.symm z)
   have b2:(n == m)=false:=by simpa using nm
   simp only[List.lookup_cons,b1,b2];exact⟨i1,i2⟩
theorem DenF.put {W:Wd}{S:Hp}(nd:W.att.Nodup){f:Nat}{n:Str}{v:V}{d:D}(hn:W.att[f]? = some n)(r:Den W S v d):∀{vs ds},DenF W S vs ds->DenF W S (putF n v vs) (Ip.putF f d ds)
 | _,_,.nil=>.cons hn r .nil
 | _,_,.cons (n:=m) (f:=g) hg h q=>by
  unfold putF Ip.putF;by_cases e:g=f
  .subst e;have:m=n:=by rw[hn] at hg; exact (cy hg).symm
   subst this;rw[if_pos rfl,if_pos rfl];exact .cons hg r q
  .have nm:m≠n:=λz=>e (oW nd hg (by rw[z]; exact hn));rw[if_neg e,if_neg nm];exact .cons hg h (q.put nd hn r)
inductive OwnL (P:V->D->am->Prop):av->ax->am->Prop
 | nil:OwnL P [] [] []
 | cons {v:V} {d:D} {f:am} {vs:av} {ds:ax} {g:am} (h:P v d f) (q:OwnL P vs ds g):OwnL P (v::vs) (d::ds) (f++g)
inductive OwnF (att:ar) (P:V->D->am->Prop):List (Str×V)->List aJ->am->Prop
 | nil:OwnF att P [] [] []
 | cons {n:Str} {i:Nat} {v:V} {d:D} {f:am} {vs:List (Str×V)} {ds:List aJ} {g:am} (hf:att[i]? = some n) (h:P v d f) (q:OwnF att P vs ds g):OwnF att P ((n,v)::vs) ((i,d)::ds) (f++g)
theorem OwnL.imp {P Q:V->D->am->Prop}:∀{vs ds fp},OwnL P vs ds fp->(∀v d f,(∀a∈f,a∈fp)->P v d f->Q v d f)->OwnL Q vs ds fp
 | _,_,_,.nil,_=>.nil
 | _,_,_,.cons h q,k=>.cons (k _ _ _ (λ_ z=>d8 _ z) h) (q.imp λv d f z=>k v d f λa y=>cr _ (z a y))
theorem OwnF.imp {att:ar}{P Q:V->D->am->Prop}:∀{vs ds fp},OwnF att P vs ds fp->(∀v d f,(∀a∈f,a∈fp)->P v d f->Q v d f)->OwnF att Q vs ds fp
 | _,_,_,.nil,_=>.nil
 | _,_,_,.cons hf h q,k=>.cons hf (k _ _ _ (λ_ z=>d8 _ z) h) (q.imp λv d f z=>k v d f λa y=>cr _ (z a y))
theorem OwnL.dens {W:Wd}{T:Hp}{P:V->D->am->Prop}:∀{vs ds fp},OwnL P vs ds fp->(∀v d f,(∀a∈f,a∈fp)->P v d f->Den W T v d)->Dens W T vs ds
 | _,_,_,.nil,_=>.nil
 | _,_,_,.cons h q,k=>.cons (k _ _ _ (λ_ z=>d8 _ z) h) (q.dens λv d f z=>k v d f λa y=>cr _ (z a y))
theorem OwnF.dens {W:Wd}{T:Hp}{P:V->D->am->Prop}:∀{vs ds fp},OwnF W.att P vs ds fp->(∀v d f,(∀a∈f,a∈fp)->P v d f->Den W T v d)->DenF W T vs ds
 | _,_,_,.nil,_=>.nil
 | _,_,_,.cons hf h q,k=>.cons hf (k _ _ _ (λ_ z=>d8 _ z) h) (q.dens λv d f z=>k v d f λa y=>cr _ (z a y))
theorem OwnL.length {P:V->D->am->Prop}:∀{vs ds fp},OwnL P vs ds fp->vs.length=ds.length
 | _,_,_,.nil=>rfl
 | _,_,_,.cons _ q=>by rw[List.length_cons,List.length_cons,q.length]
noncomputable def Own (W:Wd)(S H:Hp):Nat->V->D->am->Prop
 | 0,v,d,fp=>fp=[]/\Den W S v d
 | k+1,v,.lst ds,fp=>∃a vs fq,v=.ref a/\H a=some (.lst vs)/\OwnL (Own W S H k) vs ds fq/\fp=a::fq
 | k+1,v,.tup ds,fp=>∃a vs,v=.ref a/\SqT W.K S a vs/\OwnL (Own W S H k) vs ds fp
 | k+1,v,.ins c ds,fp=>∃a C dx fs fq,v=.ref a/\H a=some (.ins C dx fs)/\W.iA c=some C/\OwnF W.att (Own W S H k) fs ds fq/\fp=a::fq
 | k+1,v,.exc c ds,fp=>∃a C nw fs fq,v=.ref a/\H a=some (.exc C nw fs)/\(W.xA c=some C/\nw=true)/\OwnF W.att (Own W S H k) fs ds fq/\fp=a::fq
 | _+1,v,d,fp=>fp=[]/\Den W S v d
theorem Own.mono {W:Wd}{S S' H H':Hp}(hs:Sub S S'):∀{k v d fp},(∀a∈fp,∀o,H a=some o->H' a=some o)->Own W S H k v d fp->Own W S' H' k v d fp
 | 0,_,_,_,_,h=>⟨h.1,h.2.mono hs⟩
 | k+1,_,.lst ds,_,hf,⟨a,vs,fq,e1,e2,e3,e4⟩=>⟨a,vs,fq,e1,hf a (by rw[e4]; exact bW) _ e2,e3.imp λ_ _ _ z y=>Own.mono hs (λb hb=>hf b (by rw[e4]; exact bU _ (z b hb))) y,e4⟩
 | k+1,_,.tup ds,_,hf,⟨a,vs,e1,e2,e3⟩=>⟨a,vs,e1,SqT.sub hs e2,e3.imp λ_ _ _ z y=>Own.mono hs (λb hb=>hf b (z b hb)) y⟩
 | k+1,_,.ins c ds,_,hf,⟨a,C,dx,fs,fq,e1,e2,e5,e3,e4⟩=>⟨a,C,dx,fs,fq,e1,hf a (by rw[e4]; exact bW) _ e2,e5,e3.imp λ_ _ _ z y=>Own.mono hs (λb hb=>hf b (by rw[e4]; exact bU _ (z b hb))) y,e4⟩
 | k+1,_,.exc c ds,_,hf,⟨a,C,dx,fs,fq,e1,e2,e5,e3,e4⟩=>⟨a,C,dx,fs,fq,e1,hf a (by rw[e4]; exact bW) _ e2,e5,e3.imp λ_ _ _ z y=>Own.mono hs (λb hb=>hf b (by rw[e4]; exact bU _ (z b hb))) y,e4⟩
 | _+1,_,.non,_,_,h=>⟨h.1,h.2.mono hs⟩
 | _+1,_,.bl _,_,_,h=>⟨h.1,h.2.mono hs⟩
 | _+1,_,.int _,_,_,h=>⟨h.1,h.2.mono hs⟩
 | _+1,_,.str _,_,_,h=>⟨h.1,h.2.mono hs⟩
theorem Own.den {W:Wd}{S H T:Hp}(hs:Sub S T):∀{k v d fp},(∀a∈fp,∀o,H a=some o->T a=some o)->Own W S H k v d fp->Den W T v d
 | 0,_,_,_,_,h=>h.2.mono hs
 | k+1,_,.lst ds,_,hf,⟨a,vs,fq,e1,e2,e3,e4⟩=>by
  subst e1;exact .lst (.inl (hf a (by rw[e4]; exact bW) _ e2)) (e3.dens λ_ _ _ z y=>Own.den hs (λb hb=>hf b (by rw[e4]; exact bU _ (z b hb))) y)
 | k+1,_,.tup ds,_,hf,⟨a,vs,e1,e2,e3⟩=>by
  subst e1;exact .tup (SqT.sub hs e2) (e3.dens λ_ _ _ z y=>Own.den hs (λb hb=>hf b (z b hb)) y)
 | k+1,_,.ins c ds,_,hf,⟨a,C,dx,fs,fq,e1,e2,e5,e3,e4⟩=>by
  subst e1;exact .ins (hf a (by rw[e4]; exact bW) _ e2) e5 (e3.dens λ_ _ _ z y=>Own.den hs (λb hb=>hf b (by rw[e4]; exact bU _ (z b hb))) y)
 | k+1,_,.exc c ds,_,hf,⟨a,C,dx,fs,fq,e1,e2,e5,e3,e4⟩=>by
  subst e1;exact .exc (hf a (by rw[e4]; exact bW) _ e2) e5.1 (e3.dens λ_ _ _ z y=>Own.den hs (λb hb=>hf b (by rw[e4]; exact bU _ (z b hb))) y)
 | _+1,_,.non,_,_,h=>h.2.mono hs
 | _+1,_,.bl _,_,_,h=>h.2.mono hs
 | _+1,_,.int _,_,_,h=>h.2.mono hs
 | _+1,_,.str _,_,_,h=>h.2.mono hs
theorem OwnL.mem {P:V->D->am->Prop}{R:Addr->Prop}(hP:∀v d f,P v d f->∀a∈f,R a):∀{vs ds fp},OwnL P vs ds fp->∀a∈fp,R a
 | _,_,_,.nil,_,z=>by simp at z
 | _,_,_,.cons h q,a,z=>(cX z).elim (hP _ _ _ h a) (q.mem hP a)
theorem OwnF.mem {att:ar}{P:V->D->am->Prop}{R:Addr->Prop}(hP:∀v d f,P v d f->∀a∈f,R a):∀{vs ds fp},OwnF att P vs ds fp->∀a∈fp,R a
 | _,_,_,.nil,_,z=>by simp at z
 | _,_,_,.cons _ h q,a,z=>(cX z).elim (hP _ _ _ h a) (q.mem hP a)
theorem Own.dom {W:Wd}{S H:Hp}:∀{k v d fp},Own W S H k v d fp->∀a∈fp,H a≠none
 | 0,_,_,_,h,a,z=>by rw[h.1] at z; simp at z
 | k+1,_,.lst ds,_,⟨a,vs,fq,e1,e2,e3,e4⟩,b,z=>by
  rw[e4] at z;rcases cu z with q | q
  .rw[q,e2]; simp
  .exact e3.mem (λ_ _ _ y=>Own.dom y) b q
 | k+1,_,.tup ds,_,⟨a,vs,e1,e2,e3⟩,b,z=>e3.mem (λ_ _ _ y=>Own.dom y) b z
 | k+1,_,.ins c ds,_,⟨a,C,dx,fs,fq,e1,e2,e5,e3,e4⟩,b,z=>by
  rw[e4] at z;rcases cu z with q | q
  .rw[q,e2]; simp
  .exact e3.mem (λ_ _ _ y=>Own.dom y) b q
 | k+1,_,.exc c ds,_,⟨a,C,dx,fs,fq,e1,e2,e5,e3,e4⟩,b,z=>by
  rw[e4] at z;rcases cu z with q | q
  .rw[q,e2]; simp
  .exact e3.mem (λ_ _ _ y=>Own.dom y) b q
 | _+1,_,.non,_,h,a,z=>by rw[h.1] at z; simp at z
 | _+1,_,.bl _,_,h,a,z=>by rw[h.1] at z; simp at z
 | _+1,_,.int _,_,h,a,z=>by rw[h.1] at z; simp at z
 | _+1,_,.str _,_,h,a,z=>by rw[h.1] at z; simp at z
theorem OwnL.flat {W:Wd}{S:Hp}{P:V->D->am->Prop}(hP:∀v d,d.flat=true->Den W S v d->P v d []):∀{vs ds},D.flats ds=true->Dens W S vs ds->OwnL P vs ds []
 | _,_,_,.nil=>.nil
 | _,_,hf,.cons h q=>by
  rw[D.flats,tw] at hf;exact OwnL.cons (f:=[]) (g:=[]) (hP _ _ hf.1 h) (OwnL.flat hP hf.2 q)
theorem OwnL.flat_inv {W:Wd}{S:Hp}{P:V->D->am->Prop}(hP:∀v d f,d.flat=true->P v d f->f=[]/\Den W S v d):∀{vs ds fp},D.flats ds=true->OwnL P vs ds fp->fp=[]/\Dens W S vs ds
 | _,_,_,_,.nil=>⟨rfl,.nil⟩
 | _,_,_,hf,.cons h q=>by
  rw[D.flats,tw] at hf;obtain⟨e1,d1⟩:=hP _ _ _ hf.1 h;obtain⟨e2,d2⟩:=q.flat_inv hP hf.2;exact⟨by rw[e1,e2]; rfl,.cons d1 d2⟩
theorem Own.flat {W:Wd}{S H:Hp}:∀{k v d},d.flat=true->Den W S v d->Own W S H k v d []
 | 0,_,_,_,h=>⟨rfl,h⟩
 | k+1,_,.lst _,hf,_=>by simp[D.flat] at hf
 | k+1,_,.tup ds,hf,.tup e q=>⟨_,_,rfl,e,OwnL.flat (λ_ _=>Own.flat) (by rw[D.flat] at hf; exact hf) q⟩
 | k+1,_,.ins _ _,hf,_=>by simp[D.flat] at hf
 | k+1,_,.exc _ _,hf,_=>by simp[D.flat] at hf
 | _+1,_,.non,_,h=>⟨rfl,h⟩
 | _+1,_,.bl _,_,h=>⟨rfl,h⟩
 | _+1,_,.int _,_,h=>⟨rfl,h⟩
 | _+1,_,.str _,_,h=>⟨rfl,h⟩
theorem Own.flat_inv {W:Wd}{S H:Hp}:∀{k v d fp},d.flat=true->Own W S H k v d fp->fp=[]/\Den W S v d
 | 0,_,_,_,_,h=>h
 | k+1,_,.lst _,_,hf,_=>by simp[D.flat] at hf
 | k+1,_,.tup ds,_,hf,⟨a,vs,e1,e2,e3⟩=>by
  obtain⟨h1,h2⟩:=e3.flat_inv (λ_ _ _=>Own.flat_inv) (by rw[D.flat] at hf; exact hf);subst e1;exact⟨h1,.tup e2 h2⟩
 | k+1,_,.ins _ _,_,hf,_=>by simp[D.flat] at hf
 | k+1,_,.exc _ _,_,hf,_=>by simp[D.flat] at hf
 | _+1,_,.non,_,_,h=>h
 | _+1,_,.bl _,_,_,h=>h
 | _+1,_,.int _,_,_,h=>h
 | _+1,_,.str _,_,_,h=>h
theorem OwnL.re {P Q:V->D->am->Prop}{b:D->Bool}(hP:∀v d f,b d=true->P v d f->Q v d f):∀{vs ds fp},ds.all b=true->OwnL P vs ds fp->OwnL Q vs ds fp
 | _,_,_,_,.nil=>.nil
 | _,_,_,hf,.cons h q=>by
  rw[List.all_cons,tw] at hf;exact .cons (hP _ _ _ hf.1 h) (q.re hP hf.2)
def NOk (N:Addr->Prop)(H:Hp):Prop:=∀a,N a->H a≠none
def RelS (W:Wd)(S:Hp)(a:Sl)(σ:St):Prop:=∀(i:Nat) (d:D),a[i]? = some (some d)->∃v,σ[i]? = some (some v)/\Den W S v d
theorem RelS.mono {W:Wd}{S S':Hp}{a:Sl}{σ:St}(h:Sub S S')(r:RelS W S a σ):RelS W S' a σ:=λi d e=>by
 obtain⟨v,h1,h2⟩:=r i d e;exact⟨v,h1,h2.mono h⟩
def Res (W:Wd)(H:Hp)(N:Addr->Prop)(H':Hp)(x:KD)(v:V):Prop:=
 Sub H H'/\∃fp:am,fp.Nodup/\(∀a∈fp,H a=none)/\Own W (hid (λa=>N a\/a∈fp) H') H' x.1 v x.2 fp
inductive OwnV (W:Wd) (S H:Hp):av->aw->am->Prop
 | nil:OwnV W S H [] [] []
 | cons {v:V} {x:KD} {f:am} {vs:av} {xs:aw} {g:am} (h:Own W S H x.1 v x.2 f) (q:OwnV W S H vs xs g):OwnV W S H (v::vs) (x::xs) (f++g)
theorem OwnV.mono {W:Wd}{S S' H H':Hp}(hs:Sub S S'):∀{vs xs fp},(∀a∈fp,∀o,H a=some o->H' a=some o)->OwnV W S H vs xs fp->OwnV W S' H' vs xs fp
 | _,_,_,_,.nil=>.nil
 | _,_,_,hf,.cons h q=>.cons (h.mono hs λa z=>hf a (d8 _ z)) (q.mono hs λa z=>hf a (cr _ z))
theorem OwnV.dens {W:Wd}{S H T:Hp}(hs:Sub S T):∀{vs xs fp},(∀a∈fp,∀o,H a=some o->T a=some o)->OwnV W S H vs xs fp->Dens W T vs (xs.map (·.2))
 | _,_,_,_,.nil=>.nil
 | _,_,_,hf,.cons h q=>.cons (h.den hs λa z=>hf a (d8 _ z)) (q.dens hs λa z=>hf a (cr _ z))
theorem OwnV.dom {W:Wd}{S H:Hp}:∀{vs xs fp},OwnV W S H vs xs fp->∀a∈fp,H a≠none
 | _,_,_,.nil,a,z=>by simp at z
 | _,_,_,.cons h q,a,z=>(cX z).elim (h.dom a) (q.dom a)
theorem OwnV.length {W:Wd}{S H:Hp}:∀{vs xs fp},OwnV W S H vs xs fp->vs.length=xs.length
 | _,_,_,.nil=>rfl
 | _,_,_,.cons _ q=>by rw[List.length_cons,List.length_cons,q.length]
def ResL (W:Wd)(H:Hp)(N:Addr->Prop)(H':Hp)(xs:aw)(vs:av):Prop:=
 Sub H H'/\∃fp:am,fp.Nodup/\(∀a∈fp,H a=none)/\OwnV W (hid (λa=>N a\/a∈fp) H') H' vs xs fp
def ExcR (W:Wd)(H:Hp)(N:Addr->Prop)(H':Hp)(c:Nat)(fs:List aJ)(e:Addr):Prop:=
 Sub H H'/\H e=none/\∃C vs,H' e=some (.exc C false vs)/\W.xA c=some C/\DenF W (hid N H') vs fs
theorem Res.den {W:Wd}{H H':Hp}{N:Addr->Prop}{x:KD}{v:V}(hN:NOk N H)(r:Res W H N H' x v):Den W (hid N H') v x.2:=by
 obtain⟨hs,fp,_,hf,o⟩:=r;refine o.den (λa u e=>?_) λa ha u e=>aW.mpr ⟨λz=>hN a z (hf a ha),e⟩;obtain⟨h1,h2⟩:=aW.mp e;exact aW.mpr ⟨λz=>h1 (.inl z),h2⟩
theorem ResL.dens {W:Wd}{H H':Hp}{N:Addr->Prop}{xs:aw}{vs:av}(hN:NOk N H)(r:ResL W H N H' xs vs):Dens W (hid N H') vs (xs.map (·.2)):=by
 obtain⟨hs,fp,_,hf,o⟩:=r;refine o.dens (λa u e=>?_) λa ha u e=>aW.mpr ⟨λz=>hN a z (hf a ha),e⟩;obtain⟨h1,h2⟩:=aW.mp e;exact aW.mpr ⟨λz=>h1 (.inl z),h2⟩
def Res.of_den {W:Wd}{H H':Hp}{N:Addr->Prop}{v:V}{d:D}(hs:Sub H H')(h:Den W (hid N H') v d):Res W H N H' (0,d) v:=
 ⟨hs,[],.nil,λa z=>by simp at z,rfl,h.mono λa o e=>aW.mpr ⟨λz=>(aW.mp e).1 (by simpa using z),(aW.mp e).2⟩⟩
def Res.of_flat {W:Wd}{H H':Hp}{N:Addr->Prop}{v:V}{k:Nat}{d:D}(hs:Sub H H')(hf:d.flat=true)(h:Den W (hid N H') v d):Res W H N H' (k,d) v:=
 ⟨hs,[],.nil,λa z=>by simp at z,Own.flat hf (h.mono λa o e=>aW.mpr ⟨λz=>(aW.mp e).1 (by simpa using z),(aW.mp e).2⟩)⟩
def NOk.mono {N:Addr->Prop}{H H':Hp}(h:NOk N H)(hs:Sub H H'):NOk N H':=λa z q=>h a z (hs.none q)
section
variable (W:Wd)(G:Pg)(cl:Nat->aw->Ip.Run)
def bi (ir:Ex)(E:St->XK):TE:=λσ H Q=>∃(N:Addr->Prop) (a:Sl),NOk N H/\RelS W (hid N H) a σ/\match Ip.eval G cl a ir with
 | .ok x=>∀v H',Res W H N H' x v->Q v H'
 | .exc c fs=>∀e H',ExcR W H N H' c fs e->E σ (.ref e) none H'
 | .bad=>False
def bT (irs:aF)(E:St->XK):TA:=λσ H Q=>∃(N:Addr->Prop) (a:Sl),NOk N H/\RelS W (hid N H) a σ/\match Ip.evals G cl a irs with
 | .ok xs=>∀vs H',ResL W H N H' xs vs->Q vs H'
 | .exc c fs=>∀e H',ExcR W H N H' c fs e->E σ (.ref e) none H'
 | .bad=>False
end
def PE.mono {X:Cx}{e:Expr}{t t':TE}(h:PE X e t)(k:∀σ H Q,t' σ H Q->t σ H Q):PE X e t':=λpins s σ H Q I q=>h pins s σ H Q I (k σ H Q q)
def PA.mono {X:Cx}{e:au}{t t':TA}(h:PA X e t)(k:∀σ H Q,t' σ H Q->t σ H Q):PA X e t':=λpos pins s σ H Q I q=>h pos pins s σ H Q I (k σ H Q q)
def PT.mono {X:Cx}{e:Expr}{t t':TT}(h:PT X e t)(k:∀σ H Q,t' σ H Q->t σ H Q):PT X e t':=λpins s σ H Q I q=>h pins s σ H Q I (k σ H Q q)
def PS.mono {X:Cx}{e:Stmt}{t t':TS}(h:PS X e t)(k:∀D σ H,t' D σ H->t D σ H):PS X e t':=λpins s σ H D I q=>h pins s σ H D I (k D σ H q)
def PSs.mono {X:Cx}{e:aG}{t t':TS}(h:PSs X e t)(k:∀D σ H,t' D σ H->t D σ H):PSs X e t':=λpins s σ H D I q=>h pins s σ H D I (k D σ H q)
def bQ {X:Cx}{e:Expr}{W:Wd}{G:Pg}{cl:Nat->aw->Ip.Run}{E:St->XK}:PE X e (bi W G cl .bad E):=λ_ _ _ _ _ _ ⟨_,_,_,_,h⟩=>by
 rw[Ip.eval] at h; exact h.elim
section
variable {W:Wd}{G:Pg}{cl:Nat->aw->Ip.Run}{E:St->XK}{σ:St}{H:Hp}
theorem ExcR.trans {H1 H':Hp}{N N':Addr->Prop}{c:Nat}{fs:List aJ}{e:Addr}(hs:Sub H H1)(hn:∀a,N a->N' a)(r:ExcR W H1 N' H' c fs e):ExcR W H N H' c fs e:=by
 obtain⟨s1,e1,C,vs,h1,h2,h3⟩:=r;exact⟨hs.trans s1,hs.none e1,C,vs,h1,h2,h3.mono λa o z=>aW.mpr ⟨λq=>(aW.mp z).1 (hn a q),(aW.mp z).2⟩⟩
def gz {ir:Ex}{Q:VK}{N:Addr->Prop}{a:Sl}(hN:NOk N H)(hS:RelS W (hid N H) a σ)
  (ok:∀x,Ip.eval G cl a ir=.ok x->∀v H1 fp,Sub H H1->fp.Nodup->(∀b∈fp,H b=none)->Own W (hid (λb=>N b\/b∈fp) H1) H1 x.1 v x.2 fp ->
   NOk (λb=>N b\/b∈fp) H1->RelS W (hid (λb=>N b\/b∈fp) H1) a σ->Q v H1)
  (ex:∀c fs,Ip.eval G cl a ir=.exc c fs->∀e H',ExcR W H N H' c fs e->E σ (.ref e) none H')(nb:Ip.eval G cl a ir≠.bad):bi W G cl ir E σ H Q:=by
 refine⟨N,a,hN,hS,?_⟩;cases q:Ip.eval G cl a ir with
 | bad=>exact absurd q nb
 | exc c fs=>exact ex c fs q
 | ok x=>
  rintro v H1 ⟨hs,fp,nd,hf,o⟩;refine ok x q v H1 fp hs nd hf o (λb z=>?_) (hS.mono (gg hs λb z=>z.imp id λy=>hf b y));exact z.elim (λy=>(hN.mono hs) b y) (o.dom b)
end
end L2
end
section
namespace L2
open PySem PySem.Spec PyProof.Rows
open Ip (D KD Ex Op Pg Fn Sl Fr Wk Tg Tb R jz cW bL d6 b9 bP bI bz)
def rD (W:Wd)(G:Pg)(o:Op)(vs:av)(H:Hp)(Q:VK):Prop:=∃(N:Addr->Prop) (xs:aw) (x:KD),NOk N H/\Dens W (hid N H) vs (xs.map (·.2))/\bz G o xs=some x/\∀v H',Res W H N H' x v->Q v H'
theorem Res.trans {W:Wd}{H H2 H':Hp}{N:Addr->Prop}{x:KD}{v:V}(hs:Sub H H2)(r:Res W H2 N H' x v):Res W H N H' x v:=by
 obtain⟨h1,fp,nd,hf,o⟩:=r;exact⟨hs.trans h1,fp,nd,λa z=>hs.none (hf a z),o⟩
def Own.later {W:Wd}{H H1 H2:Hp}{N M:Addr->Prop}{k:Nat}{v:V}{d:D}{fp:am}(hN:NOk N H)(hs:Sub H1 H2)(hf:∀b∈fp,H b=none)(hM:∀b,N b->M b)(o:Own W (hid (λb=>M b\/b∈fp) H1) H1 k v d fp):Den W (hid N H2) v d:=by
 refine o.den (λa u e=>?_) λa ha u e=>aW.mpr ⟨λz=>hN a z (hf a ha),hs a u e⟩;obtain⟨h1,h2⟩:=aW.mp e;exact aW.mpr ⟨λz=>h1 (.inl (hM a z)),hs a u h2⟩
section
variable {W:Wd}{G:Pg}{cl:Nat->aw->Ip.Run}{E:St->XK}{σ:St}{H:Hp}{Q:VK}{o:Op}
def i3 {ia:Ex}{r:V->Hp->VK->Prop}(hr:∀x H Q,rD W G o [x] H Q->r x H Q)(h:bi W G cl (.op o [ia]) E σ H Q):qd r (bi W G cl ia E) σ H Q:=by
 obtain⟨N,a,hN,hS,h⟩:=h;unfold qd;refine gz hN hS (λx ex v H1 fp hs nd hf ow hN1 hS1=>?_) (λc fs ee=>?_) λee=>?_
 .simp only[cW,Ip.di,bL,ex,R.bind] at h;cases q:bz G o [x] with
  | none=>simp only[q,R.of] at h
  | some z=>
   simp only[q,R.of] at h;exact hr _ _ _ ⟨N,[x],z,hN.mono hs,.cons (ow.later hN (Sub.refl _) hf λ_ y=>y) .nil,q,λw H' r=>h w H' (r.trans hs)⟩
 .simp only[cW,bL,ee,R.bind] at h;exact h
 .simp only[cW,bL,ee,R.bind] at h
def hV {ia ib:Ex}{r:R2}(hr:∀x y H Q,rD W G o [x,y] H Q->r x y H Q)(h:bi W G cl (.op o [ia,ib]) E σ H Q):kS r (bi W G cl ia E) (bi W G cl ib E) σ H Q:=by
 obtain⟨N,a,hN,hS,h⟩:=h;unfold kS;refine gz hN hS (λx ex v H1 fp hs nd hf ow hN1 hS1=>?_) (λc fs ee=>?_) λee=>?_
 .refine gz hN1 hS1 (λy ey w H2 fq hs2 nd2 hf2 ow2 hN2 hS2=>?_) (λc fs ee e H' r=>?_) λee=>?_
  .simp only[cW,Ip.di,bL,ex,ey,R.bind] at h;cases q:bz G o [x,y] with
   | none=>simp only[q,R.of] at h
   | some z=>
    simp only[q,R.of] at h;exact hr _ _ _ _ ⟨N,[x,y],z,hN.mono (hs.trans hs2),.cons (ow.later hN hs2 hf λ_ y=>y) (.cons (ow2.later (hN.mono hs) (Sub.refl _) hf2 λ_ y=>.inl y) .nil),q,λw H' r=>h w H' (r.trans (hs.trans hs2))⟩
  .simp only[cW,bL,ex,ee,R.bind] at h;exact h e H' (r.trans hs λ_ y=>.inl y)
  .simp only[cW,bL,ex,ee,R.bind] at h
 .simp only[cW,bL,ee,R.bind] at h;exact h
 .simp only[cW,bL,ee,R.bind] at h
end
def Dens.one {W:Wd}{S:Hp}{vs:av}{d:D}(h:Dens W S vs [d]):∃v,vs=[v]/\Den W S v d:=by
 cases h with
 | cons h r=>cases r; exact⟨_,rfl,h⟩
def Dens.two {W:Wd}{S:Hp}{vs:av}{d e:D}(h:Dens W S vs [d,e]):∃v w,vs=[v,w]/\Den W S v d/\Den W S w e:=by
 cases h with
 | cons h r=>
  obtain⟨w,e,h2⟩:=r.one;subst e;exact⟨_,_,rfl,h,h2⟩
def fe {W:Wd}{S:Hp}{x:V}{xs:aw}(h:Dens W S [x] (xs.map (·.2))):∃p,xs=[p]/\Den W S x p.2:=by
 cases xs with
 | nil=>cases h
 | cons p r=>
  cases h with
  | cons h1 h2=>
   cases r with
   | nil=>exact⟨p,rfl,h1⟩
   | cons _ _=>cases h2
def dJ {W:Wd}{S:Hp}{x y:V}{xs:aw}(h:Dens W S [x,y] (xs.map (·.2))):∃p q,xs=[p,q]/\Den W S x p.2/\Den W S y q.2:=by
 cases xs with
 | nil=>cases h
 | cons p r=>
  cases h with
  | cons h1 h2=>
   obtain⟨q,rfl,h3⟩:=fe h2;exact⟨p,q,rfl,h1,h3⟩
def Den.int_inv {W:Wd}{S:Hp}{v:V}{i:Int}(h:Den W S v (.int i)):v=.int i:=by cases h; rfl
def Den.bl_inv {W:Wd}{S:Hp}{v:V}{i:Bool}(h:Den W S v (.bl i)):v=.bl i:=by cases h; rfl
theorem Res.int {W:Wd}{H:Hp}{N:Addr->Prop}{k:Nat}{i:Int}:Res W H N H (k,.int i) (.int i):=Res.of_flat (Sub.refl _) rfl .int
theorem Res.bl {W:Wd}{H:Hp}{N:Addr->Prop}{k:Nat}{i:Bool}:Res W H N H (k,.bl i) (.bl i):=Res.of_flat (Sub.refl _) rfl .bl
section
variable {X:Cx}{W:Wd}{G:Pg}
def OpR.imp {f:Value->Value->Sem Value}{r r':R2}(h:OpR X f r)(k:∀x y H Q,r' x y H Q->r x y H Q):OpR X f r':=λpins s σ H x y v u Q I rx ry q=>h pins s σ H x y v u Q I rx ry (k x y H Q q)
def jp {o:Op}{f:Int->Int->az}{C:Int->Int->Prop}{g:Int->Int->V}(ho:∀xs,bz G o xs=bI (bP f) xs)(hf:∀i j x,f i j=some x->C i j/\∀(N:Addr->Prop) (H:Hp),Res W H N H x (g i j)) :
  ∀x y H Q,rD W G o [x,y] H Q->rI C g x y H Q:=by
 rintro x y H Q ⟨N,xs,z,hN,hd,hz,hq⟩;obtain⟨p,q,rfl,d1,d2⟩:=dJ hd;rw[ho] at hz;obtain⟨k1,p⟩:=p;obtain⟨k2,q⟩:=q;simp only[bI] at hz;cases p <;> first | exact (b9 hz).elim | (cases q <;> first | exact (b9 hz).elim | simp only[bP] at hz)
 cases d1;cases d2;obtain⟨hc,hr⟩:=hf _ _ _ hz;exact⟨_,_,rfl,rfl,hc,hq _ _ (hr N H)⟩
def DU:OpR X (binaryOp .Sub) (λx y=>rD W G .sub [x,y]):=Bc.imp λx y H Q h=>by
 obtain⟨i,j,e1,e2,_,q⟩:=jp (C:=λ_ _=>True) (g:=λi j=>.int (i - j)) (λ_=>rfl) (λi j x e=>by cases e; exact⟨trivial,λ_ _=>Res.int⟩) x y H Q h;exact⟨i,j,e1,e2,q⟩
def ya:OpR X (binaryOp .FloorDiv) (rI (λ_ j=>0<j/\j<1000000000000000000000000000000000000000000000000) λi j=>.int (i / j)):=oB λi j _ _ _ _ _ hc q=>by
 have h1:(0:Int)<j:=hc.1;have h2:j<1000000000000000000000000000000000000000000000000:=hc.2;exact floordiv_int (by omega) (by rw[Int.fdiv_eq_ediv_of_nonneg i (by omega)]; exact q) (.inl (PyProof.noPylong_of_log2 (dX ((Nat.log2_lt (by omega)).mpr (by omega:j.natAbs<2 ^ 160)) (by decide))))
def AY:OpR X (binaryOp .FloorDiv) (λx y=>rD W G .fdiv [x,y]):=ya.imp (jp (λ_=>rfl) λi j x e=>by
 by_cases h:0<j/\j<1000000000000000000000000000000000000000000000000
 .rw[if_pos h] at e; cases e; exact⟨h,λ_ _=>Res.int⟩
 .rw[if_neg h] at e; cases e)
def CW:OpR X (binaryOp .Mod) (λx y=>rD W G .mod [x,y]):=Dd.imp (jp (λ_=>rfl) λi j x e=>by
 by_cases h:0<j
 .rw[if_pos h] at e; cases e; exact⟨h,λ_ _=>Res.int⟩
 .rw[if_neg h] at e; cases e)
def zf {i:Int}(h:d6 i=true):i.natAbs<2 ^ 64:=by
 rw[Ip.gU] at h;omega
def w6:OpR X (binaryOp .Pow) (λx y=>rD W G .pow [x,y]):=Am.imp (jp (λ_=>rfl) λi j x e=>by
 by_cases h:0<=j/\j<=1000000/\d6 i=true
 .rw[if_pos h] at e; cases e; exact⟨⟨h.1,h.2.1,zf h.2.2⟩,λ_ _=>Res.int⟩
 .rw[if_neg h] at e; cases e)
def rS:OpR X (compareOp .LtE) (λx y=>rD W G .le [x,y]):=yX.imp λx y H Q h=>by
 obtain⟨i,j,e1,e2,_,q⟩:=jp (C:=λ_ _=>True) (g:=λi j=>.bl (decide (i<=j))) (λ_=>rfl) (λi j x e=>by cases e; exact⟨trivial,λ_ _=>Res.bl⟩) x y H Q h;exact⟨i,j,e1,e2,q⟩
def rk:OpR X (compareOp .Gt) (λx y=>rD W G .gt [x,y]):=Cb.imp λx y H Q h=>by
 obtain⟨i,j,e1,e2,_,q⟩:=jp (C:=λ_ _=>True) (g:=λi j=>.bl (decide (j<i))) (λ_=>rfl) (λi j x e=>by cases e; exact⟨trivial,λ_ _=>Res.bl⟩) x y H Q h;exact⟨i,j,e1,e2,q⟩
def pW:OpR X (compareOp .GtE) (λx y=>rD W G .ge [x,y]):=yF.imp λx y H Q h=>by
 obtain⟨i,j,e1,e2,_,q⟩:=jp (C:=λ_ _=>True) (g:=λi j=>.bl (decide (j<=i))) (λ_=>rfl) (λi j x e=>by cases e; exact⟨trivial,λ_ _=>Res.bl⟩) x y H Q h;exact⟨i,j,e1,e2,q⟩
def oZ:OpR X (compareOp .Lt) (λx y=>rD W G .lt [x,y]):=y2.imp λx y H Q h=>by
 obtain⟨i,j,e1,e2,_,q⟩:=jp (C:=λ_ _=>True) (g:=λi j=>.bl (decide (i<j))) (λ_=>rfl) (λi j x e=>by cases e; exact⟨trivial,λ_ _=>Res.bl⟩) x y H Q h;exact⟨i,j,e1,e2,q⟩
theorem OwnL.zero {S T:Hp}:∀{vs ds},Dens W S vs ds->OwnL (Own W S T 0) vs ds []
 | _,_,.nil=>.nil
 | _,_,.cons h q=>OwnL.cons (f:=[]) (g:=[]) ⟨rfl,h⟩ (OwnL.zero q)
def zz {H:Hp}{N:Addr->Prop}{p:Addr}{o:HO}(hp:H p=none):Sub (hid N H) (hid (λa=>N a\/a∈[p]) (upd H p o)):=
 gg (Sub.upd hp) λa z=>z.imp id λy=>by rw[Fc.mp y]; exact hp
def Res.newL {H:Hp}{N:Addr->Prop}{p:Addr}{vs:av}{ds:ax}(hp:H p=none)(h:Dens W (hid N H) vs ds):Res W H N (upd H p (.lst vs)) (1,.lst ds) (.ref p):=
 ⟨Sub.upd hp,[p],by simp,λa z=>by rw[Fc.mp z]; exact hp,p,vs,[],rfl,bX,OwnL.zero (h.mono (zz hp)),rfl⟩
def Res.newT {H:Hp}{N:Addr->Prop}{p:Addr}{vs:av}{ds:ax}(hN:NOk N H)(hp:H p=none)(h:Dens W (hid N H) vs ds):Res W H N (upd H p (.tup vs)) (0,.tup ds) (.ref p):=
 Res.of_den (Sub.upd hp) (.tup (SqT.of (aW.mpr ⟨λz=>hN p z hp,bX⟩)) (h.mono (gg (Sub.upd hp) λa z=>.inl z)))
def Inv.rdL {pins:af}{σ:St}{H:Hp}{s:Shared}{l:Addr}{xs:av}(I:Inv X pins σ H s)(h:Rd H l (.lst xs)):xs.length<=sizeLine/\∃(its:ao) (n:Nat),Vals xs its/\xs.length=its.length/\s.heap.get? l=some { cls:=.type "list",data:=.seq its.toArray n }:=by
 obtain⟨z,its,n,r,e⟩:=h.ok I.hok;exact⟨z,its,n,r,r.length,e⟩
def l5:R2:=λx y H Q=>∃l b xs zs,x=.ref l/\y=.ref b/\Rd H l (.lst xs)/\Rd H b (.lst zs)/\xs.length+zs.length<=sizeLine/\∀p,H p=none->Q (.ref p) (upd H p (.lst (xs++zs)))
def D8:OpR X (binaryOp .Add) l5:=by
 intro pins s σ H x y v u Q I rx ry h;obtain⟨l,b,xs,zs,rfl,rfl,hH,hB,hz,q⟩:=h;cases rx;cases ry;obtain⟨z,its,n,r,hl,e⟩:=I.rdL hH;obtain⟨z2,its2,n2,r2,hl2,e2⟩:=I.rdL hB;refine PySem.P.add_list e e2 ?_ (by rw[Fe,Fe]; omega);have ea:its.toArray++its2.toArray=(its++its2).toArray:=by simp
 rw[ea];exact⟨.ref _,_,I.lnew (t':=s.toks) (r.append r2) (by rw[Fx]; omega),rfl,q _ I.fresh⟩
def iz {n:Nat}(h:n<=Ip.SL):n<=sizeLine:=b8 h (by decide)
def zU:OpR X (binaryOp .Mult) (λx y=>rD W G .mul [x,y]):=by
 refine Df.imp λx y H Q hZz=>?_;obtain⟨N,xs,z,hN,hd,hz,hq⟩:=hZz;obtain⟨⟨k1,p⟩,⟨k2,q⟩,rfl,d1,d2⟩:=dJ hd;simp only[Ip.Bo,bI] at hz;cases p <;> first | exact (b9 hz).elim | (cases q <;> first | exact (b9 hz).elim | simp only[Ip.jQ] at hz)
 .rename_i i j;cases d1;cases d2;by_cases h:(d6 i||d6 j)=true
  .rw[if_pos h] at hz;cases hz;refine⟨i,j,rfl,rfl,?_,hq _ _ Res.int⟩;simp only[FX,Ip.gU] at h;unfold CMul;omega
  .rw[if_neg h] at hz; cases hz
def B9 (hK:W.K=X.K):OpR X (binaryOp .Add) (λx y=>rD W G .add [x,y]):=by
 refine ((B2.or D8).or (EY.or yq)).imp λx y H Q hZz=>?_;obtain⟨N,xs,z,hN,hd,hz,hq⟩:=hZz;obtain⟨⟨k1,p⟩,⟨k2,q⟩,rfl,d1,d2⟩:=dJ hd;simp only[Ip.wR,bI] at hz;cases p <;> first | exact (b9 hz).elim | (cases q <;> first | exact (b9 hz).elim | simp only[Ip.cm] at hz)
 .cases d1;cases d2;cases hz;exact .inl (.inl ⟨_,_,rfl,rfl,hq _ _ Res.int⟩)
 .rename_i xs ys;split at hz
  .rename_i hl;cases hz;cases d1 with | lst e1 q1=>?_
   cases d2 with | lst e2 q2=>?_
   refine .inl (.inr ⟨_,_,_,_,rfl,rfl,Rd.sub bN e1,Rd.sub bN e2,?_,λp hp=>hq _ _ (Res.newL hp (q1.append q2))⟩);rw[q1.length,q2.length];exact iz hl
  .cases hz
 .rename_i xs ys;split at hz
  .rename_i hl;cases hz;cases d1 with | @tup a vs _ e1 q1=>?_
   cases d2 with | @tup b ws _ e2 q2=>?_
   have s1:SqT X.K H a vs:=by rw[<-hK]; exact SqT.sub bN e1
   have s2:SqT X.K H b ws:=by rw[<-hK]; exact SqT.sub bN e2
   by_cases c1:vs=[]
   .subst c1;cases q1;exact .inr (.inl ⟨a,b,ws,rfl,rfl,s1,s2,hq _ _ (Res.of_den (Sub.refl _) (.tup e2 q2))⟩)
   .refine .inr (.inr ⟨a,b,vs,ws,rfl,rfl,s1,s2,c1,?_,λc2=>?_,λ_ p hp=>hq _ _ (Res.newT hN hp (q1.append q2))⟩)
    .rw[q1.length,q2.length];exact iz hl
    .subst c2;cases q2;rw[F7] at hq;exact hq _ _ (Res.of_den (Sub.refl _) (.tup e1 q1))
  .cases hz
end
mutual
noncomputable def bR:D->PyData
 | .non=>.none
 | .bl b=>.bool b
 | .int i=>.int i
 | .str s=>.str s
 | .lst xs=>.list (pyDs xs)
 | .tup xs=>.tuple (pyDs xs)
 | .ins _ _=>.none
 | .exc _ _=>.none
noncomputable def pyDs:ax->List PyData
 | []=>[]
 | d::ds=>bR d::pyDs ds
end
mutual
theorem n8:∀x y:D,∀n m,x.pur n=true->y.pur m=true->PyData.eqv (bR x) (bR y)=x.eq y
 | .lst xs,y,n,m,hx,hy=>by
  cases n with
  | zero=>cases hx
  | succ n=>
   cases y with
   | lst ys=>
    cases m with
    | zero=>cases hy
    | succ m=>rw[bR,bR,D.eq,PyData.eqv]; exact zGP xs ys n m hx hy
   | ins _ _=>cases m <;> cases hy
   | exc _ _=>cases m <;> cases hy
   | _=>simp[bR,D.eq,PyData.eqv]
 | .tup xs,y,n,m,hx,hy=>by
  cases n with
  | zero=>cases hx
  | succ n=>
   cases y with
   | tup ys=>
    cases m with
    | zero=>cases hy
    | succ m=>rw[bR,bR,D.eq,PyData.eqv]; exact zGP xs ys n m hx hy
   | ins _ _=>cases m <;> cases hy
   | exc _ _=>cases m <;> cases hy
   | _=>simp[bR,D.eq,PyData.eqv]
 | .ins _ _,_,n,_,hx,_=>by cases n <;> cases hx
 | .exc _ _,_,n,_,hx,_=>by cases n <;> cases hx
 | .non,y,_,m,_,hy=>by
  cases y with
  | ins _ _=>cases m <;> cases hy
  | exc _ _=>cases m <;> cases hy
  | _=>simp[bR,D.eq,PyData.eqv]
 | .bl b,y,_,m,_,hy=>by
  cases y with
  | bl c=>cases b <;> cases c <;> rfl
  | int i=>rw[bR,bR,D.eq,PyData.eqv]; rfl
  | ins _ _=>cases m <;> cases hy
  | exc _ _=>cases m <;> cases hy
  | _=>simp[bR,D.eq,PyData.eqv]
 | .int i,y,_,m,_,hy=>by
  cases y with
  | bl c=>rw[bR,bR,D.eq,PyData.eqv]; rfl
  | int i=>rw[bR,bR,D.eq,PyData.eqv]; rfl
  | ins _ _=>cases m <;> cases hy
  | exc _ _=>cases m <;> cases hy
  | _=>simp[bR,D.eq,PyData.eqv]
 | .str i,y,_,m,_,hy=>by
  cases y with
  | str j=>rw[bR,bR,D.eq,PyData.eqv]; by_cases h:i=j <;> simp[h]
  | ins _ _=>cases m <;> cases hy
  | exc _ _=>cases m <;> cases hy
  | _=>simp[bR,D.eq,PyData.eqv]
theorem zGP:∀xs ys:ax,∀n m,xs.all (D.pur n)=true->ys.all (D.pur m)=true->PyData.eqvAll (pyDs xs) (pyDs ys)=D.eqs xs ys
 | [],[],_,_,_,_=>by simp[pyDs,D.eqs,PyData.eqvAll]
 | [],_::_,_,_,_,_=>by simp[pyDs,D.eqs,PyData.eqvAll]
 | _::_,[],_,_,_,_=>by simp[pyDs,D.eqs,PyData.eqvAll]
 | x::xs,y::ys,n,m,hx,hy=>by
  rw[List.all_cons,tw] at hx hy;rw[pyDs,pyDs,D.eqs,PyData.eqvAll,n8 x y n m hx.1 hy.1,zGP xs ys n m hx.2 hy.2]
end
mutual
theorem g9:∀x:D,∀n,x.pur n=true->(bR x).canLay0=true/\(bR x).depth<=n
 | .lst xs,n,hx=>by
  cases n with
  | zero=>cases hx
  | succ n=>
   obtain⟨h1,h2⟩:=zBF xs n hx;rw[bR,PyData.canLay0,PyData.depth];exact⟨h1,by omega⟩
 | .tup xs,n,hx=>by
  cases n with
  | zero=>cases hx
  | succ n=>
   obtain⟨h1,h2⟩:=zBF xs n hx;rw[bR,PyData.canLay0,PyData.depth];exact⟨h1,by omega⟩
 | .ins _ _,n,hx=>by cases n <;> cases hx
 | .exc _ _,n,hx=>by cases n <;> cases hx
 | .non,_,_=>by simp[bR,PyData.canLay0,PyData.depth]
 | .bl _,_,_=>by simp[bR,PyData.canLay0,PyData.depth]
 | .int _,_,_=>by simp[bR,PyData.canLay0,PyData.depth]
 | .str s,n,hx=>by
  rw[Ip.zG] at hx;rw[bR,PyData.canLay0,PyData.depth];exact⟨hx,Fy _⟩
theorem zBF:∀xs:ax,∀n,xs.all (D.pur n)=true->PyData.canLayAll0 (pyDs xs)=true/\PyData.depthAll (pyDs xs)<=n
 | [],_,_=>by simp[pyDs,PyData.canLayAll0,PyData.depthAll]
 | x::xs,n,hx=>by
  rw[List.all_cons,tw] at hx;obtain⟨h1,h2⟩:=g9 x n hx.1;obtain⟨h3,h4⟩:=zBF xs n hx.2;rw[pyDs,PyData.canLayAll0,PyData.depthAll,h1,h3];exact⟨rfl,Nat.max_le.mpr ⟨h2,h4⟩⟩
end
def nr {x:D}(h:x.pur 60=true):SeqAt.shaped (bR x)=true:=by
 obtain⟨h1,h2⟩:=g9 x 60 h;unfold SeqAt.shaped;rw[h1,Bool.true_and];exact FB (by omega)
section
variable {X:Cx}{W:Wd}{G:Pg}{pins:af}{σ:St}{H:Hp}{s:Shared}
mutual
theorem Den.reads (hK:W.K=X.K)(I:Inv X pins σ H s):∀{v:V} {d:D} {u:Value} (n:Nat),Den W H v d->d.pur n=true->RelV v u->∃as,Reads s.heap u (bR d) as
 | _,_,_,_,.non,_,r=>by cases r; exact⟨_,by rw[bR]; exact .none⟩
 | _,_,_,_,.bl,_,r=>by cases r; exact⟨_,by rw[bR]; exact .bool _⟩
 | _,_,_,_,.int,_,r=>by obtain⟨t,rfl⟩:=r; exact⟨_,by rw[bR]; exact .int _ t⟩
 | _,_,_,_,.str,_,r=>by obtain⟨t,rfl⟩:=r; exact⟨_,by rw[bR]; exact .str _ t⟩
 | _,_,_,n,.lst e q,hp,r=>by
  cases r;cases n with
  | zero=>cases hp
  | succ n=>
   obtain⟨_,its,k,rv,_,eo⟩:=I.rdL e;obtain⟨as,ra⟩:=q.reads hK I n hp rv;exact⟨_,by rw[bR]; exact reads_list_at eo rfl rfl (by simpa using ra)⟩
 | _,_,_,n,.tup e q,hp,r=>by
  cases r;cases n with
  | zero=>cases hp
  | succ n=>
   obtain⟨its,rv,⟨o,eo,hc,k,hd⟩,_⟩:=I.tuple (hK ▸ e);obtain⟨as,ra⟩:=q.reads hK I n hp rv;exact⟨_,by rw[bR]; exact reads_tuple_at eo hc hd (by simpa using ra)⟩
 | _,_,_,n,.ins _ _ _,hp,_=>by cases n <;> cases hp
 | _,_,_,n,.exc _ _ _,hp,_=>by cases n <;> cases hp
theorem Dens.reads (hK:W.K=X.K)(I:Inv X pins σ H s):∀{vs:av} {ds:ax} {us:ao} (n:Nat),Dens W H vs ds->ds.all (D.pur n)=true->Vals vs us->∃as,ReadsAll s.heap us (pyDs ds) as
 | _,_,_,_,.nil,_,.nil=>⟨_,by rw[pyDs]; exact .nil⟩
 | _,_,_,n,.cons h q,hp,.cons r t=>by
  rw[List.all_cons,tw] at hp;obtain⟨as,h1⟩:=h.reads hK I n hp.1 r;obtain⟨bs,h2⟩:=q.reads hK I n hp.2 t;exact⟨_,by rw[pyDs]; exact .cons h1 h2⟩
end
def oQ (hK:W.K=X.K)(hu:X.A.units+64<cLine):OpR X (compareOp .Eq) (λx y=>rD W G .eq [x,y]):=by
 rintro pins s σ H x y v u Q I rx ry ⟨N,xs,z,hN,hd,hz,hq⟩;obtain⟨⟨k1,p⟩,⟨k2,q⟩,rfl,d1,d2⟩:=dJ hd;simp only[Ip.zt,bI,jz] at hz;split at hz
 .rename_i hp;rw[tw] at hp;cases hz;obtain⟨_,r1⟩:=(d1.mono bN).reads hK I 60 hp.1 rx;obtain⟨_,r2⟩:=(d2.mono bN).reads hK I 60 hp.2 ry;refine eq_dataH r1 r2 (nr hp.1) (nr hp.2) hu ⟨.bl _,H,I,rfl,?_⟩;rw[n8 p q 60 60 hp.1 hp.2];exact hq _ _ Res.bl
 .cases hz
def pV (hK:W.K=X.K)(hu:X.A.units+64<cLine):OpR X (compareOp .NotEq) (λx y=>rD W G .ne [x,y]):=by
 rintro pins s σ H x y v u Q I rx ry ⟨N,xs,z,hN,hd,hz,hq⟩;obtain⟨⟨k1,p⟩,⟨k2,q⟩,rfl,d1,d2⟩:=dJ hd;simp only[Ip.BN,bI,jz] at hz;split at hz
 .rename_i hp;rw[tw] at hp;cases hz;obtain⟨_,r1⟩:=(d1.mono bN).reads hK I 60 hp.1 rx;obtain⟨_,r2⟩:=(d2.mono bN).reads hK I 60 hp.2 ry;refine ne_dataH r1 r2 (nr hp.1) (nr hp.2) hu ⟨.bl _,H,I,rfl,?_⟩;rw[n8 p q 60 60 hp.1 hp.2];exact hq _ _ Res.bl
 .cases hz
end
end L2
end
section
namespace L2
open PySem PySem.Spec PyProof.Rows
open Ip (D KD Ex Op Pg Fn Sl Fr Wk Tg Tb SL kQ lE dN bn aU cB cE cI cT dA cQ iU gy c9 be compF aZ mF eS mX lh kY kG kC cW lW ip evals bL di excA fB frz frz1 de jL bt d7 bF fG isNone bc bj aY bZ cn aK cO noStar b9 cV fH bo cj bI fN onS bz pos? pos?_get pv? bB cZ cU en dS dF dY)
section
variable {X:Cx}{W:Wd}{G:Pg}
def xw:∀x H Q,rD W G .neg [x] H Q->rU (λi=>.int (-i)) x H Q:=by
 rintro x H Q ⟨N,xs,z,hN,hd,hz,hq⟩;obtain⟨⟨k1,p⟩,rfl,d1⟩:=fe hd;simp only[Ip.Ba,cj] at hz;cases p <;> first | exact (b9 hz).elim | simp only[Ip.jY] at hz
 cases d1;cases hz;exact⟨_,rfl,hq _ _ Res.int⟩
def D2:∀x H Q,rD W G .not [x] H Q->∃c,x=.bl c/\Q (.bl (!c)) H:=by
 rintro x H Q ⟨N,xs,z,hN,hd,hz,hq⟩;obtain⟨⟨k1,p⟩,rfl,d1⟩:=fe hd;simp only[Ip.zZ,cj] at hz;cases p <;> first | exact (b9 hz).elim | simp only[Ip.jT] at hz
 cases d1;cases hz;exact⟨_,rfl,hq _ _ Res.bl⟩
def Den.non_iff {S:Hp}{v:V}{d:D}(h:Den W S v d):decide (v=.non)=(match d with | .non=>true | _=>false):=by
 cases h <;> simp
def wn:∀x H Q,rD W G .isN [x] H Q->Q (.bl (decide (x=.non))) H:=by
 rintro x H Q ⟨N,xs,z,hN,hd,hz,hq⟩;obtain⟨⟨k1,p⟩,rfl,d1⟩:=fe hd;rw[d1.non_iff];simp only[Ip.AT,cj] at hz;cases p <;> simp only[fG,fB] at hz <;> cases hz <;> exact hq _ _ Res.bl
def vD:∀x H Q,rD W G .notN [x] H Q->Q (.bl (!decide (x=.non))) H:=by
 rintro x H Q ⟨N,xs,z,hN,hd,hz,hq⟩;obtain⟨⟨k1,p⟩,rfl,d1⟩:=fe hd;rw[d1.non_iff];simp only[Ip.D4,cj] at hz;cases p <;> simp only[fG,fB] at hz <;> cases hz <;> exact hq _ _ Res.bl
theorem Den.eqV {S:Hp}{v w:V}{d e:D}(h:Den W S v d)(k:Den W S w e)(hs:d.scal=true)(ks:e.scal=true):eqV v w=d.eq e:=by
 cases h <;> first | (cases hs; done) | (cases k <;> first | (cases ks; done) | rfl | simp[L2.eqV,D.eq])
theorem vL:∀ys:ax,pyDs ys=ys.map bR
 | []=>by rw[pyDs]; rfl
 | y::ys=>by rw[pyDs,vL ys]; rfl
def wg {p:D}(hp:p.pur 60=true){ys:ax}(h:ys.all (D.pur 60)=true):(pyDs ys).map (λy=>PyData.eqv y (bR p))=ys.map λy=>y.eq p:=by
 rw[vL,He];exact HN λy hy=>n8 y p 60 60 (eQ h y hy) hp
def kP {p:D}{ys:ax}{u:Nat}(hp:p.pur 60=true)(hu:u+64<cLine):u+1+min (PyData.depthAll (pyDs ys)) (bR p).depth<cLine:=by
 have:=(g9 p 60 hp).2;omega
theorem Den.seq {S:Hp}{v:V}{d:D}{xs:ax}(h:Den W S v d)(e:d.seq=some xs):∃a vs,v=.ref a/\((SqL W.K S a vs/\Rd S a (.lst vs))\/SqT W.K S a vs)/\Dens W S vs xs:=by
 cases h <;> first | exact (b9 e).elim | simp only[D.seq] at e
 .rename_i h1 h2;cases e;exact⟨_,_,rfl,.inl ⟨.inl h1,h1⟩,h2⟩
 .rename_i h1 h2;cases e;exact⟨_,_,rfl,.inr h1,h2⟩
def vY {neg:Bool}{o:Op}{pins:af}{σ:St}{H:Hp}{s:Shared}{x y:V}{v u:Value}{Q:VK}(ho:∀xs,bz G o xs=bI (jL neg) xs)(hK:W.K=X.K)(I:Inv X pins σ H s)(rx:RelV x v)(ry:RelV y u)(h:rD W G o [x,y] H Q) :
  ∃p ys as bs,p.pur 60=true/\ys.all (D.pur 60)=true/\Reads s.heap v (bR p) as/\(Reads s.heap u (.list (pyDs ys)) bs\/Reads s.heap u (.tuple (pyDs ys)) bs)/\Q (.bl (if neg then !(pyDs ys).any λy=>PyData.eqv y (bR p) else (pyDs ys).any λy=>PyData.eqv y (bR p))) H:=by
 obtain⟨N,xs,z,hN,hd,hz,hq⟩:=h;obtain⟨⟨k1,p⟩,⟨k2,q⟩,rfl,d1,d2⟩:=dJ hd;rw[ho] at hz;simp only[bI,jL] at hz;cases e:q.seq with
 | none=>rw[e] at hz; cases hz
 | some ys=>
  rw[e] at hz;simp only at hz;split at hz
  .rename_i hp;rw[tw] at hp;cases hz;obtain⟨as,r1⟩:=(d1.mono bN).reads hK I 60 hp.1 rx;have em:p.memb ys=(pyDs ys).any λy=>PyData.eqv y (bR p):=by
    have e1:=congrArg (λl:List Bool=>l.any id) (wg hp.1 hp.2);simp only[List.any_map] at e1;exact e1.symm
   have hq':=hq (.bl (if neg then !p.memb ys else p.memb ys)) H Res.bl;rw[em] at hq';have d2':=d2.mono bN;cases q <;> first | exact (b9 e).elim | simp only[D.seq] at e
   .cases e;obtain⟨bs,r2⟩:=d2'.reads hK I 61 hp.2 ry;rw[bR] at r2;exact⟨p,ys,as,bs,hp.1,hp.2,r1,.inl r2,hq'⟩
   .cases e;obtain⟨bs,r2⟩:=d2'.reads hK I 61 hp.2 ry;rw[bR] at r2;exact⟨p,ys,as,bs,hp.1,hp.2,r1,.inr r2,hq'⟩
  .cases hz
def qY (hK:W.K=X.K)(hu:X.A.units+64<cLine):OpR X (compareOp .In) (λx y=>rD W G .isin [x,y]):=by
 intro pins s σ H x y v u Q I rx ry h;obtain⟨p,ys,as,bs,hp,hs,r1,r2,q⟩:=vY (neg:=false) (λ_=>rfl) hK I rx ry h;rcases r2 with r2 | r2
 .exact SeqAt.in_list_reads r2 r1 (zBF ys 60 hs).1 (g9 p 60 hp).1 (kP hp hu) ⟨.bl _,H,I,rfl,q⟩
 .exact SeqAt.in_tuple_reads r2 r1 (zBF ys 60 hs).1 (g9 p 60 hp).1 (kP hp hu) ⟨.bl _,H,I,rfl,q⟩
def Bw (hK:W.K=X.K)(hu:X.A.units+64<cLine):OpR X (compareOp .NotIn) (λx y=>rD W G .nin [x,y]):=by
 intro pins s σ H x y v u Q I rx ry h;obtain⟨p,ys,as,bs,hp,hs,r1,r2,q⟩:=vY (neg:=true) (λ_=>rfl) hK I rx ry h;rcases r2 with r2 | r2
 .exact SeqAt.notIn_list_reads r2 r1 (zBF ys 60 hs).1 (g9 p 60 hp).1 (kP hp hu) ⟨.bl _,H,I,rfl,q⟩
 .exact SeqAt.notIn_tuple_reads r2 r1 (zBF ys 60 hs).1 (g9 p 60 hp).1 (kP hp hu) ⟨.bl _,H,I,rfl,q⟩
def wq {h:Heap}{p:D}{ys:ax}{us:ao}{as:am}(hp:p.pur 60=true)(hs:ys.all (D.pur 60)=true)(ra:ReadsAll h us (pyDs ys) as):us.map (λv=>PyData.eqv (SeqAt.readOf h v) (bR p))=ys.map λy=>y.eq p:=by
 rw[<-wg hp hs,<-SeqAt.readsAll_map (pyDs ys) us as (zBF ys 60 hs).1 ra,He];rfl
def gB (W:Wd)(b:Bool):V->av->Hp->VK->Prop:=λx vs H Q=>∃y xs d j,vs=[y]/\Den W H x (if b then .lst xs else .tup xs)/\Den W H y d/\d.pur 60=true/\xs.all (D.pur 60)=true/\d.find xs=some j/\Q (.int (j:Nat)) H
def vq {f:Value->Bool}{g:D->Bool}{us:ao}{ys:ax}{j:Nat}(e:us.map f=ys.map g)(hf:ys.findIdx? g=some j):∃hj:j<us.toArray.size,f us.toArray[j]=true/\∀m (hm:m<us.toArray.size),m<j->f us.toArray[m]=false:=by
 obtain⟨hj,hp,hq⟩:=Gz.mp hf;have len:us.length=ys.length:=by simpa using congrArg List.length e
 have at':∀i (h1:i<ys.length) (h2:i<us.length),f us[i]=g ys[i]:=λi h1 h2=>by
  have:=congrArg (λl:List Bool=>l[i]?) e;simpa[h1,h2] using this
 refine⟨by simpa using (by omega:j<us.length),?_,λm hm hl=>?_⟩
 .simpa using (at' j hj (by omega)).trans hp
 .have h2:m<us.length:=by simpa using hm
  have:=(at' m (by omega) h2)
  simpa[this] using hq m hl
def zn (hK:W.K=X.K)(hu:X.A.units+64<cLine):q0 X "list.index" (gB W true):=by
 rintro pins s σ H x vs v us Q I rx rv ⟨y,xs,d,j,e,dx,dy,pd,ps,hf,q⟩;subst e;cases rv with
 | @cons _ u _ us ry rn=>
 cases rn;cases dx with | @lst l ws _ h1 h2=>?_
 cases rx;obtain⟨hz,its,n,r,ho⟩:=Rd.ok h1 I.hok;obtain⟨as,ra⟩:=h2.reads hK I 60 ps r;obtain⟨bs,rb⟩:=dy.reads hK I 60 pd ry;obtain⟨hj,f1,f2⟩:=vq (wq pd ps ra) hf;have hsm:(j:Int)<2 ^ 63 - 1:=by
  have:sizeLine<2 ^ 62:=by decide
  have:=r.length;have:j<its.length:=by simpa using hj
  omega
 exact HW PySem.F.slot_list_index ⟨_,ho,rfl⟩ PySem.F.entry_list_index (PySem.F.args_list_index_2 _ _)
  (SeqAt.list_indexAt l its.toArray n none #[] u _ j hj hsm f1 f2)
  ⟨ho,SeqAt.items_eqAt ra rb (zBF xs 60 ps).1 (g9 d 60 pd).1 (kP pd hu),⟨.int (j:Nat),H,I.tok _,⟨_,rfl⟩,q⟩⟩
def EA (hK:W.K=X.K)(hu:X.A.units+64<cLine):q0 X "tuple.index" (gB W false):=by
 rintro pins s σ H x vs v us Q I rx rv ⟨y,xs,d,j,e,dx,dy,pd,ps,hf,q⟩;subst e;cases rv with
 | @cons _ u _ us ry rn=>
 cases rn;cases dx with | @tup l ws _ h1 h2=>?_
 cases rx;obtain⟨its,r,⟨⟨cls,dd,data,sl⟩,ho,hc,n,hd⟩,_⟩:=I.tuple (hK ▸ h1);simp only at hc hd;subst hc hd;obtain⟨as,ra⟩:=h2.reads hK I 60 ps r;obtain⟨bs,rb⟩:=dy.reads hK I 60 pd ry;obtain⟨hj,f1,f2⟩:=vq (wq pd ps ra) hf;exact HW PySem.F.slot_tuple_index ⟨_,ho,rfl⟩ PySem.F.entry_tuple_index (PySem.F.args_tuple_index_2 _ _)
  (Cq l its.toArray n dd sl u _ j hj f1 f2)
  ⟨ho,SeqAt.items_eqAt ra rb (zBF xs 60 ps).1 (g9 d 60 pd).1 (kP pd hu),⟨.int (j:Nat),H,I.tok _,⟨_,rfl⟩,q⟩⟩
def rK (hK:W.K=X.K):nD X (λx y=>rD W G .ix [x,y]):=by
 rintro value slice pins s σ H x y v u Q I rx ry ⟨N,xs,z,hN,hd,hz,hq⟩ hs;obtain⟨⟨k1,p⟩,⟨k2,q⟩,rfl,d1,d2⟩:=dJ hd;simp only[Ip.AX,bI] at hz;cases q <;> first | exact (b9 hz).elim | simp only[Ip.ixOp] at hz
 cases d2;rename_i i;cases e:p.seq with
 | none=>rw[e] at hz; cases hz
 | some ds=>
  rw[e] at hz;simp only at hz;obtain⟨a,vs,rfl,hsq,hv⟩:=d1.seq e;cases e2:(Ip.ef ds.length i).bind λj=>ds[j]? with
  | none=>rw[e2] at hz; cases hz
  | some d=>
   rw[e2] at hz;cases hz;obtain⟨j,ej,ed⟩:=dW e2;obtain⟨w,ew,dw⟩:=hv.get ed;have ha:lc vs i=some w:=by
    unfold lc;have:kU vs.length i=some j:=by rw[hv.length]; exact ej
    rw[this]; exact ew
   have hr:Q w H:=hq _ _ (Res.of_den (Sub.refl _) dw);rcases hsq with hl | ht
   .exact zc value slice pins s σ H _ _ v u Q I rx ry ⟨a,vs,i,w,rfl,rfl,by rw[<-hK]; exact SqL.sub bN hl.1,ha,hr⟩ hs
   .exact zJ value slice pins s σ H _ _ v u Q I rx ry ⟨a,vs,i,w,rfl,rfl,by rw[<-hK]; exact SqT.sub bN ht,ha,hr⟩ hs
def ud (n d:Nat)(o:Option Int):HT.sIx n d o=Ip.gp n d o:=by
 cases o with
 | none=>rfl
 | some i=>
  show (if i<0 then (i+(n:Int)).toNat else min i.toNat n)=if 0<=i then min i.toNat n else (i+n).toNat
  by_cases h:i<0
  .rw[if_pos h,if_neg (by omega)]
  .rw[if_neg h,if_pos (by omega)]
def Dens.cut {S:Hp}{vs:av}{ds:ax}(h:Dens W S vs ds)(lo hi:Option Int):Dens W S (dR vs lo hi) (Ip.cutD ds lo hi):=by
 unfold dR Ip.cutD;rw[ud,ud,h.length];exact (h.drop _).take _
def kv (W:Wd):V->Option Int->Option Int->Hp->VK->Prop:=λx lo hi H Q=>∃N d z,NOk N H/\Den W (hid N H) x d/\aZ lo hi d=some z/\∀v H',Res W H N H' z v->Q v H'
def qK (hK:W.K=X.K):mq X (kv W):=by
 rintro pins s σ H x v vl vu lo hi sl Q I rx hs pl pu ⟨N,d,z,hN,hd,hz,hq⟩;cases hd <;> first | exact (b9 hz).elim | simp only[aZ] at hz
 rotate_left
 .rename_i a vs ds h1 h2;cases hz;refine Bu pins s σ H _ v vl vu lo hi sl Q I rx hs pl pu ⟨a,vs,rfl,by rw[<-hK]; exact SqT.sub bN h1,λhw=>hq _ _ (Res.of_den (Sub.refl _) ?_),λ_ p hp=>hq _ _ (Res.newT hN hp (h2.cut lo hi))⟩;have c:=h2.cut lo hi;have e:dR vs lo hi=vs:=by
   unfold dR;rw[hw.1,hw.2];simp
  rw[e] at c;exact .tup h1 c
 rename_i a vs ds h1 h2;cases hz;exact El pins s σ H _ v vl vu lo hi sl Q I rx hs pl pu ⟨a,vs,rfl,by rw[<-hK]; exact .inl (Rd.sub bN h1),λp hp=>hq _ _ (Res.newL hp (h2.cut lo hi))⟩
def Dens.rev {S:Hp}{vs:av}{ds:ax}(h:Dens W S vs ds):Dens W S vs.reverse ds.reverse:=by
 induction vs generalizing ds with
 | nil=>cases h; exact .nil
 | cons v vs ih=>
  cases h with
  | cons h q=>
   rw[Ht,Ht];exact (ih q).append (.cons h .nil)
def CallR.imp {f:Value}{r r':av->Hp->VK->Prop}(h:CallR X f r)(k:∀xs H Q,r' xs H Q->r xs H Q):CallR X f r':=λpins s σ H xs us Q I r q=>h pins s σ H xs us Q I r (k xs H Q q)
def Dens.vs1 {S:Hp}{vs:av}{xs:aw}{o:Op}{f:D->az}{z:KD}(h:Dens W S vs (xs.map (·.2)))(e:cj f xs=some z):∃v p,vs=[v]/\xs=[p]/\Den W S v p.2/\f p.2=some z:=by
 cases xs with
 | nil=>exact (b9 e).elim
 | cons p r=>
  cases r with
  | nil=>
   obtain⟨v,rfl,h1⟩:=Dens.one h;exact⟨v,p,rfl,rfl,h1,e⟩
  | cons _ _=>exact (b9 e).elim
def uu {f:ax->az}{d:D}{z:KD}(e:onS f d=some z):∃xs,d.seq=some xs/\f xs=some z:=by
 unfold onS at e;cases q:d.seq with
 | none=>rw[q] at e; cases e
 | some xs=>rw[q] at e; exact⟨xs,rfl,e⟩
def qx {f:ax->az}{d:D}{z:KD}(e:fN f d=some z):∃xs,d=.lst xs/\f xs=some z:=by
 cases d <;> simp only[fN] at e <;> first | exact⟨_,rfl,e⟩ | cases e
def yh (hK:W.K=X.K):CallR X (.builtin "len") (λxs=>rD W G .len xs):=zi.imp λvs H Q ⟨N,xs,z,hN,hd,hz,hq⟩=>by
 simp only[Ip.Ee] at hz;obtain⟨v,p,rfl,rfl,dv,ez⟩:=hd.vs1 (o:=.len) hz;obtain⟨ds,e1,e2⟩:=uu ez;obtain⟨a,ws,rfl,hs,hv⟩:=dv.seq e1;cases e2;refine⟨a,ws,rfl,?_,?_⟩
 .rw[<-hK]; exact hs.imp (λh=>SqL.sub bN h.1) (SqT.sub bN)
 .rw[hv.length]; exact hq _ _ Res.int
def D3 (hK:W.K=X.K):CallR X (.type "list") (λxs=>rD W G .list xs):=B1.imp λvs H Q ⟨N,xs,z,hN,hd,hz,hq⟩=>by
 simp only[Ip.EX] at hz;obtain⟨v,p,rfl,rfl,dv,ez⟩:=hd.vs1 (o:=.list) hz;obtain⟨ds,e1,e2⟩:=uu ez;obtain⟨a,ws,rfl,hs,hv⟩:=dv.seq e1;cases e2;refine⟨a,ws,rfl,?_,λl hl=>hq _ _ (Res.newL hl hv)⟩;rw[<-hK]; exact hs.imp (λh=>SqL.sub bN h.1) (SqT.sub bN)
def xN (hK:W.K=X.K):CallR X (.type "tuple") (λxs=>rD W G .tuple xs):=ER.imp λvs H Q ⟨N,xs,z,hN,hd,hz,hq⟩=>by
 simp only[Ip.zv] at hz;obtain⟨v,p,rfl,rfl,dv,ez⟩:=hd.vs1 (o:=.tuple) hz;obtain⟨k,d⟩:=p;cases dv with
 | @lst a ws ds h1 h2=>
  cases ez;exact⟨a,ws,rfl,.inl ⟨by rw[<-hK]; exact .inl (Rd.sub bN h1),λl hl=>hq _ _ (Res.newT hN hl h2)⟩⟩
 | @tup a ws ds h1 h2=>
  cases ez;exact⟨a,ws,rfl,.inr ⟨by rw[<-hK]; exact SqT.sub bN h1,hq _ _ (Res.of_den (Sub.refl _) (.tup h1 h2))⟩⟩
 | _=>cases ez
theorem tJ:∀{ds:ax} {b:Bool},Ip.allB ds=some b->∃bs:List Bool,ds=bs.map .bl/\b=bs.all id
 | [],b,h=>⟨[],rfl,by cases h; rfl⟩
 | .bl c::ds,b,h=>by
  rw[Ip.allB] at h;obtain⟨c',e,rfl⟩:=dG h;obtain⟨bs,rfl,rfl⟩:=tJ e;exact⟨c::bs,rfl,rfl⟩
theorem Dens.bools {S:Hp}:∀{vs:av} {bs:List Bool},Dens W S vs (bs.map .bl)->vs=bs.map .bl
 | [],[],_=>rfl
 | v::vs,b::bs,.cons h q=>by rw[h.bl_inv,q.bools]; rfl
def Vals.bool_at {bs:List Bool}:∀{us:ao} {i:Nat} {v:Value},Vals (bs.map .bl) us->us[i]? = some v->∃b,bs[i]? = some b/\v=.bool b:=by
 intro us i v r e;have hl:bs.length=us.length:=by simpa using r.length
 have hi:i<us.length:=(eO e).1;have hb:(bs.map V.bl)[i]? = some (.bl bs[i]):=by simp[Fv,FH (by omega:i<bs.length)]
 obtain⟨u,e2,r2⟩:=r.get hb;rw[e] at e2;cases e2;exact⟨_,FH (by omega),r2⟩
def DI (hc:X.calm=true):CallR X (.builtin "all") (λxs=>rD W G .all xs):=by
 rintro pins s σ H vs us Q I rs ⟨N,xs,z,hN,hd,hz,hq⟩;simp only[Ip.EL] at hz;obtain⟨v,p,rfl,rfl,dv,ez⟩:=hd.vs1 (o:=.all) hz;obtain⟨ds,e1,e2⟩:=qx ez;obtain⟨u,rfl,ru⟩:=rs.one;rw[e1] at dv;cases dv with | @lst l ws _ h1 h2=>?_
 cases ru;cases e3:Ip.allB ds with
 | none=>rw[e3] at e2; cases e2
 | some b=>
  rw[e3] at e2;cases e2;obtain⟨bs,rfl,rfl⟩:=tJ e3;have:=h2.bools;subst this;obtain⟨_,its,n,rv,hlen,eo⟩:=I.rdL (Rd.sub bN h1);have hl:s.heap.IsList l its.toArray:=⟨_,eo,rfl,n,rfl⟩
  have hlt:l<s.heap.objs.size:=bM eo;refine call_all_walk (wpAny_pyIter_list hl ?_);refine⟨s.heap.objs.size,[s.heap.objs.size,l],[s.heap.objs.size],its.toArray.size,_,_,λi=>(bs[i]?).getD true,rfl,Walks.list (A:=X.A.in1) (I.ok.hd hc) _ l (cY hlt) its.toArray,
   ⟨⟨_,dD _ rfl,rfl,rfl⟩,hl.push _⟩,λi v s' Q' E' hP hQ=>?_,λh' tk hk=>?_⟩
  .obtain⟨b,e,rfl⟩:=rv.bool_at (i:=i) (v:=v) (by simpa using hP);simp only[e,Option.getD_some] at hQ;exact FT hQ
  .have e:((List.range its.toArray.size).all λi=>(bs[i]?).getD true)=bs.all id:=by
    rw[Fe,<-hlen,Fg]; exact LSm.range_all bs
   rw[e];exact⟨.bl _,H,I.kept (t':=tk) (LSm.kept_iter hk),rfl,hq _ _ Res.bl⟩
theorem u9 {S:Hp}:∀{ns:ak} {vs:av},Dens W S vs (aK ns)->vs=d5 ns
 | [],_,h=>by cases h; rfl
 | n::ns,_,h=>by
  cases h with
  | cons h q=>
   cases h;rw[u9 q];rfl
theorem tP {S:Hp}:∀{ns:ak},Dens W S (d5 ns) (aK ns)
 | []=>.nil
 | n::ns=>.cons .int tP
theorem uI:∀{ds:ax} {ns:ak},cO ds=some ns->ds=aK ns/\∀n∈ns,n<6
 | [],ns,h=>by cases h; exact⟨rfl,λn hn=>by simp at hn⟩
 | d::ds,ns,h=>by
  cases d with
  | int i=>
   unfold cO at h;by_cases c:0<=i/\i<6
   .rw[if_pos c] at h;obtain⟨ms,e1,e2⟩:=dG h;obtain⟨h1,h2⟩:=uI e1;subst e2;refine⟨?_,λn hn=>?_⟩
    .rw[h1];show _=D.int (Int.ofNat i.toNat)::aK ms;rw[Int.ofNat_eq_natCast,Gf c.1]
    .rcases cu hn with z | z
     .rw[z]; omega
     .exact h2 n z
   .rw[if_neg c] at h; cases h
  | _=>exact nomatch h
def BX:((St.subs 6).all λl=>decide (l=(List.range 6).filter λk=>l.contains k))=true:=by decide +kernel
def wS {l:ak}{k x:Nat}:x∈St.stp l k↔x∈l\/x=k:=by
 unfold St.stp St.ins;by_cases c:k∈l
 .rw[if_pos c];exact⟨.inl,λh=>h.elim id λz=>z ▸ c⟩
 .rw[if_neg c];simp only[FD,Fs,Fl];have b1:∀a b:Nat,Nat.blt a b=true↔a<b:=λa b=>⟨G0,Nat.ble_eq_true_of_le⟩
  simp only[b1];constructor
  .rintro (h | h | h)
   .exact .inl h.1
   .exact .inr h
   .exact .inl h.1
  .rintro (h | h)
   .rcases Nat.lt_trichotomy x k with z | z | z
    .exact .inl ⟨h,z⟩
    .exact .inr (.inl z)
    .exact .inr (.inr ⟨h,z⟩)
   .exact .inr (.inl h)
def yz {l:ak}{k:Nat}(hl:l∈St.subs 6)(hk:k<6):St.stp l k∈St.subs 6:=by
 unfold St.stp;by_cases c:k∈l
 .rw[if_pos c]; exact hl
 .rw[if_neg c];exact (St.ins_of hl hk c).2.2.2.2.1
theorem ww:∀(ns l:ak),l∈St.subs 6->(∀n∈ns,n<6)->ns.foldl St.stp l∈St.subs 6/\∀x,x∈ns.foldl St.stp l↔x∈l\/x∈ns
 | [],l,hl,_=>⟨hl,λx=>by simp⟩
 | n::ns,l,hl,h=>by
  obtain⟨h1,h2⟩:=ww ns (St.stp l n) (yz hl (h n bW)) λm hm=>h m (bU _ hm);refine⟨h1,λx=>?_⟩;rw[List.foldl_cons,h2 x,wS,Fl,or_assoc]
def zy {ns:ak}(h:∀n∈ns,n<6):ns.foldl St.stp []=bB ns:=by
 obtain⟨h1,h2⟩:=ww ns [] (by decide +kernel) h;have:=HB (eQ BX _ h1);rw[this];unfold bB;refine List.filter_congr λk _=>?_;rw[Bool.eq_iff_iff,Gw,Gw,h2 k];simp
def wW (hK:W.K=X.K):∀x H Q,rD W G .srtSet [x] H Q->∃a ns,x=.ref a/\SqL X.K H a (d5 ns)/\(∀n∈ns,n<6)/\∀p,H p=none->Q (.ref p) (upd H p (.lst (d5 (ns.foldl St.stp [])))):=by
 rintro x H Q ⟨N,xs,z,hN,hd,hz,hq⟩;simp only[Ip.Bn] at hz;obtain⟨v,p,e,rfl,dv,ez⟩:=hd.vs1 (o:=.srtSet) hz;cases e;obtain⟨ds,e1,e2⟩:=qx ez;rw[e1] at dv;cases dv with | @lst a vs _ h1 h2=>?_
 cases q:cO ds with
 | none=>rw[q] at e2; cases e2
 | some ns=>
  rw[q] at e2;cases e2;obtain⟨r1,r2⟩:=uI q;rw[r1] at h2;have ev:=u9 h2;subst ev;refine⟨a,ns,rfl,by rw[<-hK]; exact .inl (Rd.sub bN h1),r2,λp hp=>hq _ _ ?_⟩;rw[zy r2];exact Res.newL hp tP
end
theorem OwnF.re {att:ar}{P Q:V->D->am->Prop}{b:D->Bool}(hP:∀v d f,b d=true->P v d f->Q v d f):∀{vs ds fp},(ds.all λp=>b p.2)=true->OwnF att P vs ds fp->OwnF att Q vs ds fp
 | _,_,_,_,.nil=>.nil
 | _,_,_,hf,.cons e h q=>by
  rw[List.all_cons,tw] at hf;exact .cons e (hP _ _ _ hf.1 h) (q.re hP hf.2)
theorem oK {α:Type}{p q:α->Bool}:∀{xs:List α},xs.all p=true->xs.all q=true->(xs.all λx=>p x&&q x)=true
 | [],_,_=>rfl
 | x::xs,h,k=>by
  rw[List.all_cons,tw] at h k;rw[List.all_cons,h.1,k.1,oK h.2 k.2]; rfl
section
variable {W:Wd}{S H:Hp}
theorem Own.fb:∀{k j v d fp},D.fb k d=true->D.fb j d=true->Own W S H k v d fp->Own W S H j v d fp
 | 0,j,_,d,_,h,_,o=>by
  rw[D.fb] at h;obtain⟨e1,e2⟩:=o.flat_inv h;rw[e1];exact Own.flat h e2
 | k+1,0,_,d,_,_,h,o=>by
  rw[D.fb] at h;obtain⟨e1,e2⟩:=o.flat_inv h;exact⟨e1,e2⟩
 | k+1,j+1,_,.lst ds,_,h1,h2,⟨a,vs,fq,e1,e2,e3,e4⟩=>⟨a,vs,fq,e1,e2,e3.re (b:=λd=>D.fb k d&&D.fb j d) (λv d f hb o=>by rw[tw] at hb; exact Own.fb hb.1 hb.2 o) (oK h1 h2),e4⟩
 | k+1,j+1,_,.tup ds,_,h1,h2,⟨a,vs,e1,e2,e3⟩=>⟨a,vs,e1,e2,e3.re (b:=λd=>D.fb k d&&D.fb j d) (λv d f hb o=>by rw[tw] at hb; exact Own.fb hb.1 hb.2 o) (oK h1 h2)⟩
 | k+1,j+1,_,.ins c ds,_,h1,h2,⟨a,C,dx,fs,fq,e1,e2,e5,e3,e4⟩=>⟨a,C,dx,fs,fq,e1,e2,e5,e3.re (b:=λd=>D.fb k d&&D.fb j d) (λv d f hb o=>by rw[tw] at hb; exact Own.fb hb.1 hb.2 o) (oK h1 h2),e4⟩
 | k+1,j+1,_,.exc c ds,_,h1,_,_=>by cases h1
 | _+1,_+1,_,.non,_,_,_,h=>h
 | _+1,_+1,_,.bl _,_,_,_,h=>h
 | _+1,_+1,_,.int _,_,_,_,h=>h
 | _+1,_+1,_,.str _,_,_,_,h=>h
theorem Own.at {j k:Nat}{v:V}{d:D}{fp:am}(h:bo j (k,d)=true)(o:Own W S H k v d fp):Own W S H j v d fp:=by
 unfold bo at h;rw[FX,FX,tw] at h;rcases h with h | h | ⟨h1,h2⟩
 .obtain⟨e1,e2⟩:=o.flat_inv h;rw[e1];exact Own.flat h e2
 .have:k=j:=by simpa using h
  rw[<-this]; exact o
 .exact o.fb h2 h1
theorem OwnV.at {j:Nat}:∀{vs xs fp},xs.all (bo j)=true->OwnV W S H vs xs fp->OwnL (Own W S H j) vs (xs.map (·.2)) fp
 | _,_,_,_,.nil=>.nil
 | _,_,_,hf,.cons h q=>by
  rw[List.all_cons,tw] at hf;exact .cons (h.at hf.1) (q.at hf.2)
def Bs {xs:aw}:xs.all (bo (aY xs))=true\/aY xs=0:=by
 unfold aY;cases e:xs.find? λx=>!x.2.flat with
 | none=>
  refine .inl (List.all_eq_true.mpr λx hx=>Ip.vR ?_);have:=List.find?_eq_none.mp e x hx;simpa using this
 | some y=>
  show xs.all (bo (if xs.all (bo y.1)=true then y.1 else 0))=true\/(if xs.all (bo y.1)=true then y.1 else 0)=0;by_cases h:xs.all (bo y.1)=true
  .rw[if_pos h]; exact .inl h
  .rw[if_neg h]; exact .inr rfl
def OwnV.join {N:Addr->Prop}{vs:av}{xs:aw}{fp:am}(nd:fp.Nodup)(hn:∀a∈fp,¬N a)(o:OwnV W (hid (λa=>N a\/a∈fp) H) H vs xs fp) :
  ∃fq:am,fq.Nodup/\(∀a∈fq,a∈fp)/\OwnL (Own W (hid (λa=>N a\/a∈fq) H) H (aY xs)) vs (xs.map (·.2)) fq:=by
 rcases Bs (xs:=xs) with h | h
 .exact⟨fp,nd,λ_ z=>z,o.at h⟩
 .rw[h];refine⟨[],.nil,λ_ z=>by simp at z,OwnL.zero ?_⟩;refine o.dens (λa u e=>?_) λa ha u e=>aW.mpr ⟨λz=>z.elim (hn a ha) (by simp),e⟩;obtain⟨h1,h2⟩:=aW.mp e;exact aW.mpr ⟨λz=>z.elim (λy=>h1 (.inl y)) (by simp),h2⟩
end
section
variable {X:Cx}{W:Wd}{G:Pg}{cl:Nat->aw->Ip.Run}{E:St->XK}
def oh (e:Expr)(es:au)(env:Env):(∃x p,e=.Starred x p)\/starEach (e::es) env=(false,PySem.eval e env)::starEach es env:=by
 cases e <;> first | exact .inl ⟨_,_,rfl⟩ | exact .inr rfl
def yd {ir:Ex}{irs:aF}{σ:St}{H:Hp}{Q:av->Hp->Prop}(h:bT W G cl (ir::irs) E σ H Q):bY (bi W G cl ir E) (bT W G cl irs E) σ H Q:=by
 obtain⟨N,a,hN,hS,h⟩:=h;unfold bY;refine gz hN hS (λx ex v H1 fp hs nd hf ow hN1 hS1=>?_) (λc fs ee=>?_) λee=>?_
 .refine⟨_,a,hN1,hS1,?_⟩;cases q:evals G cl a irs with
  | bad=>simp only[bL,ex,q,Ip.R.bind] at h
  | exc c fs=>
   simp only[bL,ex,q,Ip.R.bind] at h;exact λe H' r=>h e H' (r.trans hs λ_ y=>.inl y)
  | ok xs=>
   simp only[bL,ex,q,Ip.R.bind] at h;rintro vs H2 ⟨hs2,fq,nd2,hf2,o2⟩;refine h _ _ ⟨hs.trans hs2,fp++fq,?_,λb z=>(cX z).elim (hf b) λy=>hs.none (hf2 b y),?_⟩
   .refine Fo.mpr ⟨nd,nd2,λb hb c hc z=>?_⟩;rw[z] at hb;exact ow.dom c hb (hf2 c hc)
   .refine .cons (ow.mono (gg hs2 λb z=>?_) λb hb o e=>hs2 b o e) (o2.mono (λb o e=>?_) λb _ o e=>e)
    .rcases z with z | z
     .exact .inl (.inl z)
     .exact (cX z).elim (λy=>.inl (.inr y)) λy=>.inr (hf2 b y)
    .obtain⟨h1,h2⟩:=aW.mp e;refine aW.mpr ⟨λz=>h1 ?_,h2⟩;rcases z with z | z
     .exact .inl (.inl z)
     .exact (cX z).elim (λy=>.inl (.inr y)) .inr
 .simp only[bL,ee,Ip.R.bind] at h;exact h
 .simp only[bL,ee,Ip.R.bind] at h
def mJ {σ:St}{H:Hp}{Q:av->Hp->Prop}(h:bT W G cl [] E σ H Q):dI σ H Q:=by
 obtain⟨N,a,hN,hS,h⟩:=h;simp only[di] at h;exact h _ _ ⟨Sub.refl _,[],.nil,λa z=>by simp at z,.nil⟩
theorem ul:∀{es:au} {f:Expr->Ex},(∀e∈es,PE X e (bi W G cl (f e) E))->(∀e∈es,∀x p,e=.Starred x p->f e=.bad)->PA X es (bT W G cl (es.map f) E)
 | [],_,_,_=>hY.mono λσ H Q h=>mJ h
 | e::es,f,h,k=>by
  rcases oh e es X.env with ⟨x,p,hx⟩ | hs
  .rintro pos pins s σ H Q I ⟨N,a,_,_,q⟩;rw[Fh,k e Gh x p hx,bL,eS] at q;exact q.elim
  .refine (gr (h e bW) (ul (λy hy=>h y (bU _ hy)) λy hy=>k y (bU _ hy)) hs).mono λσ H Q q=>?_;rw[Fh] at q;exact yd q
def pI {es:au}{pos:Pos}{irs:aF}(hl:irs.length<=1000)(h:PA X es (bT W G cl irs E)):PE X (.List es pos) (bi W G cl (.op .lst irs) E):=by
 refine (Ck h).mono λσ H Q hZz=>?_;obtain⟨N,a,hN,hS,q⟩:=hZz;refine⟨N,a,hN,hS,?_⟩;rw[cW] at q;cases e:evals G cl a irs with
 | bad=>rw[e] at q; exact q
 | exc c fs=>rw[e] at q; exact q
 | ok xs=>
  simp only[e,Ip.R.bind,Ip.R.of,Ip.Ab] at q;rintro vs H1 ⟨hs,fp,nd,hf,o⟩;have hx:xs.length=irs.length:=evals_length e;refine⟨?_,λp hp=>?_⟩
  .rw[o.length,hx];exact b8 hl (by decide)
  obtain⟨fq,nd2,sub,o2⟩:=o.join nd λb hb z=>hN b z (hf b hb);refine q _ _ ⟨hs.trans (Sub.upd hp),p::fq,Ft.mpr ⟨λz=>o.dom p (sub p z) hp,nd2⟩,λb z=>?_,p,vs,fq,rfl,bX,?_,rfl⟩
  .rcases cu z with y | y
   .rw[y]; exact hs.none hp
   .exact hf b (sub b y)
  .refine o2.imp λv d f hf2 ow=>ow.mono (gg (Sub.upd hp) λb z=>?_) λb _ u e=>Sub.upd hp b u e;rcases z with z | z
   .exact .inl (.inl z)
   .rcases cu z with y | y
    .rw[y]; exact .inr hp
    .exact .inl (.inr y)
where
 evals_length {a:Sl}:∀{irs:aF} {xs:aw},evals G cl a irs=.ok xs->xs.length=irs.length
  | [],xs,h=>by rw[di] at h; cases h; rfl
  | ir::irs,xs,h=>by
   rw[bL] at h;cases e1:Ip.eval G cl a ir with
   | bad=>rw[e1] at h; cases h
   | exc c fs=>rw[e1] at h; cases h
   | ok x=>
    cases e2:evals G cl a irs with
    | bad=>rw[e1,e2] at h; cases h
    | exc c fs=>rw[e1,e2] at h; cases h
    | ok ys=>
     rw[e1,e2] at h;cases h;rw[List.length_cons,List.length_cons,evals_length e2]
def E7 {es:au}{k:Nat}{pos:Pos}{irs:aF}(hl:irs.length<=1000)(h:PA X es (bT W G cl irs E)):PE X (.Tuple es k pos) (bi W G cl (.op .tup irs) E):=by
 refine (pR h).mono λσ H Q hZz=>?_;obtain⟨N,a,hN,hS,q⟩:=hZz;refine⟨N,a,hN,hS,?_⟩;rw[cW] at q;cases e:evals G cl a irs with
 | bad=>rw[e] at q; exact q
 | exc c fs=>rw[e] at q; exact q
 | ok xs=>
  simp only[e,Ip.R.bind,Ip.R.of,Ip.y0] at q;rintro vs H1 ⟨hs,fp,nd,hf,o⟩;have hx:xs.length=irs.length:=pI.evals_length e;refine⟨?_,λp hp=>?_⟩
  .rw[o.length,hx];exact b8 hl (by decide)
  obtain⟨fq,nd2,sub,o2⟩:=o.join nd λb hb z=>hN b z (hf b hb);refine q _ _ ⟨hs.trans (Sub.upd hp),fq,nd2,λb z=>hf b (sub b z),p,vs,rfl,SqT.of (aW.mpr ⟨λz=>?_,bX⟩),?_⟩
  .rcases z with z | z
   .exact (hN.mono hs) p z hp
   .exact o.dom p (sub p z) hp
  .refine o2.imp λv d f hf2 ow=>ow.mono (gg (Sub.upd hp) λb z=>.inl z) λb _ u e=>Sub.upd hp b u e
end
section
variable {X:Cx}{W:Wd}{G:Pg}{cl:Nat->aw->Ip.Run}{E:St->XK}{σ:St}{H:Hp}
def EZ {e:Expr}{i:Nat}(h:PE X e (du i)):PE X e (bi W G cl (.var i) E):=h.mono λσ H Q ⟨N,a,hN,hS,q⟩=>by
 rw[ip] at q;cases e:a[i]? with
 | none=>rw[e] at q; exact q.elim
 | some o=>
  cases o with
  | none=>rw[e] at q; exact q.elim
  | some d=>
   rw[e] at q;obtain⟨v,h1,h2⟩:=hS i d e;exact⟨v,h1,q v H (Res.of_den (Sub.refl _) h2)⟩
def lN {e:Expr}{v:V}{d:D}(hd:d.flat=true)(hv:∀S,Den W S v d)(h:PE X e (tC v)):PE X e (bi W G cl (.cst d) E):=h.mono λσ H Q ⟨N,a,hN,hS,q⟩=>by
 rw[kY] at q;exact q v H (Res.of_flat (Sub.refl _) hd (hv _))
def b7 (W:Wd)(G:Pg)(cl:Nat->aw->Ip.Run)(ir:Ex)(E:St->XK):TT:=λσ H Q=>∃(N:Addr->Prop) (a:Sl),NOk N H/\RelS W (hid N H) a σ/\match (Ip.eval G cl a ir).bl with
 | .ok b=>∀H',Sub H H'->Q b H'
 | .exc c fs=>∀e H',ExcR W H N H' c fs e->E σ (.ref e) none H'
 | .bad=>False
def RelS.grow {N:Addr->Prop}{a:Sl}{H1:Hp}(hS:RelS W (hid N H) a σ)(hs:Sub H H1):RelS W (hid N H1) a σ:=hS.mono (gg hs λ_ z=>.inl z)
def mP {ir:Ex}{Q:Bool->Hp->Prop}(h:b7 W G cl ir E σ H Q):bi W G cl ir E σ H (λx H1=>∃c,x=.bl c/\Q c H1):=by
 obtain⟨N,a,hN,hS,h⟩:=h;refine⟨N,a,hN,hS,?_⟩;cases e:Ip.eval G cl a ir with
 | bad=>rw[e] at h; exact h
 | exc c fs=>rw[e] at h; exact h
 | ok x=>
  obtain⟨k,d⟩:=x;rw[e] at h;intro v H' r;cases d <;> try (exact h.elim)
  have:=(r.den hN).bl_inv;subst this;exact⟨_,rfl,h H' r.1⟩
def vy {e:Expr}{ir:Ex}(h:PE X e (bi W G cl ir E))(he:∀whole,isTrue e X.env whole=(do let v <-whole; standAt e.pos; holding [v] (truthy v))):PT X e (b7 W G cl ir E):=
 (Eb h he).mono λσ H Q q=>mP q
def iJ {α β:Type}{r:Ip.R α}{f:α->Ip.R β}{b:β}(h:r.bind f=.ok b):∃a,r=.ok a/\f a=.ok b:=by
 cases r with
 | ok a=>exact⟨a,rfl,h⟩
 | exc c fs=>cases h
 | bad=>cases h
def ExcR.of_sub {H1 H':Hp}{N:Addr->Prop}{c:Nat}{fs:List aJ}{e:Addr}(hs:Sub H H1)(r:ExcR W H1 N H' c fs e):ExcR W H N H' c fs e:=r.trans hs λ_ z=>z
def Cu {x y:Ex}{Q:Bool->Hp->Prop}(h:b7 W G cl (.and x y) E σ H Q):kB (b7 W G cl x E) (b7 W G cl y E) σ H Q:=by
 obtain⟨N,a,hN,hS,h⟩:=h;rw[mF] at h;unfold kB;refine⟨N,a,hN,hS,?_⟩;cases e:Ip.eval G cl a x with
 | bad=>rw[e] at h; exact h
 | exc c fs=>rw[e] at h; exact h
 | ok v=>
  obtain⟨k,d⟩:=v;rw[e] at h;cases d <;> try (exact h.elim)
  rename_i b;intro H1 hs;cases b with
  | false=>exact h H1 hs
  | true=>
   rw[if_pos rfl];refine⟨N,a,hN.mono hs,hS.grow hs,?_⟩;simp only[Ip.R.bind,kQ,if_true] at h;cases e2:(Ip.eval G cl a y).bl with
   | bad=>rw[e2] at h; exact h
   | exc c fs=>rw[e2] at h; exact λe' H' r=>h e' H' (r.of_sub hs)
   | ok b=>rw[e2] at h; exact λH' hs2=>h H' (hs.trans hs2)
def BV {x y:Ex}{Q:Bool->Hp->Prop}(h:b7 W G cl (.or x y) E σ H Q):rP (b7 W G cl x E) (b7 W G cl y E) σ H Q:=by
 obtain⟨N,a,hN,hS,h⟩:=h;rw[lW] at h;unfold rP;refine⟨N,a,hN,hS,?_⟩;cases e:Ip.eval G cl a x with
 | bad=>rw[e] at h; exact h
 | exc c fs=>rw[e] at h; exact h
 | ok v=>
  obtain⟨k,d⟩:=v;rw[e] at h;cases d <;> try (exact h.elim)
  rename_i b;intro H1 hs;cases b with
  | true=>exact h H1 hs
  | false=>
   rw[if_neg (by decide)];refine⟨N,a,hN.mono hs,hS.grow hs,?_⟩;simp only[Ip.R.bind,kQ,Fm,if_false] at h;cases e2:(Ip.eval G cl a y).bl with
   | bad=>rw[e2] at h; exact h
   | exc c fs=>rw[e2] at h; exact λe' H' r=>h e' H' (r.of_sub hs)
   | ok b=>rw[e2] at h; exact λH' hs2=>h H' (hs.trans hs2)
def CU {x:Ex}{Q:Bool->Hp->Prop}(h:b7 W G cl (.op .not [x]) E σ H Q):kz (b7 W G cl x E) σ H Q:=by
 obtain⟨N,a,hN,hS,h⟩:=h;rw[cW,bL,di] at h;unfold kz;refine⟨N,a,hN,hS,?_⟩;cases e:Ip.eval G cl a x with
 | bad=>rw[e] at h; exact h
 | exc c fs=>rw[e] at h; exact h
 | ok v=>
  obtain⟨k,d⟩:=v;rw[e] at h;cases d <;> first | exact h | exact h.elim
def zN {x y:Ex}{Q:VK}(h:bi W G cl (.and x y) E σ H Q):gO (bi W G cl x E) (bi W G cl y E) σ H Q:=by
 obtain⟨N,a,hN,hS,h⟩:=h;rw[mF] at h;unfold gO;refine⟨N,a,hN,hS,?_⟩;cases e:Ip.eval G cl a x with
 | bad=>rw[e] at h; exact h
 | exc c fs=>rw[e] at h; exact h
 | ok v=>
  obtain⟨k,d⟩:=v;rw[e] at h;cases d <;> try (exact h.elim)
  rename_i b;intro v H1 r;have:=(r.den hN).bl_inv;subst this;have hs:=r.1;refine⟨b,rfl,?_⟩;cases b with
  | false=>exact h _ _ (Res.of_flat hs rfl .bl)
  | true=>
   rw[if_pos rfl];refine⟨N,a,hN.mono hs,hS.grow hs,?_⟩;simp only[Ip.R.bind,kQ,if_true] at h;cases e2:Ip.eval G cl a y with
   | bad=>rw[e2] at h; exact h
   | exc c fs=>rw[e2] at h; exact λe' H' r=>h e' H' (r.of_sub hs)
   | ok b=>rw[e2] at h; exact λv H' r2=>h v H' (r2.trans hs)
def rV {x y:Ex}{Q:VK}(h:bi W G cl (.or x y) E σ H Q):jW (bi W G cl x E) (bi W G cl y E) σ H Q:=by
 obtain⟨N,a,hN,hS,h⟩:=h;rw[lW] at h;unfold jW;refine⟨N,a,hN,hS,?_⟩;cases e:Ip.eval G cl a x with
 | bad=>rw[e] at h; exact h
 | exc c fs=>rw[e] at h; exact h
 | ok v=>
  obtain⟨k,d⟩:=v;rw[e] at h;cases d <;> try (exact h.elim)
  rename_i b;intro v H1 r;have:=(r.den hN).bl_inv;subst this;have hs:=r.1;refine⟨b,rfl,?_⟩;cases b with
  | true=>exact h _ _ (Res.of_flat hs rfl .bl)
  | false=>
   rw[if_neg (by decide)];refine⟨N,a,hN.mono hs,hS.grow hs,?_⟩;simp only[Ip.R.bind,kQ,Fm,if_false] at h;cases e2:Ip.eval G cl a y with
   | bad=>rw[e2] at h; exact h
   | exc c fs=>rw[e2] at h; exact λe' H' r=>h e' H' (r.of_sub hs)
   | ok b=>rw[e2] at h; exact λv H' r2=>h v H' (r2.trans hs)
def va {o p:Op}{x y z:Ex}{Q:VK}(h:bi W G cl (.chain o p x y z) E σ H Q) :
  eD (λx y=>rD W G o [x,y]) (λx y=>rD W G p [x,y]) (bi W G cl x E) (bi W G cl y E) (bi W G cl z E) σ H Q:=by
 obtain⟨N,a,hN,hS,h⟩:=h;rw[Ip.p9] at h;unfold eD;refine gz hN hS (λx1 ex v H1 fp hs nd hf ow hN1 hS1=>?_) (λc fs ee=>?_) λee=>?_
 .refine gz hN1 hS1 (λy1 ey w H2 fq hs2 nd2 hf2 ow2 hN2 hS2=>?_) (λc fs ee e H' r=>?_) λee=>?_
  .simp only[ex,ey,Ip.R.bind] at h;have hN':=hN.mono (hs.trans hs2);have dx:=ow.later hN hs2 hf λ_ y=>y;have dy:=ow2.later (hN.mono hs) (Sub.refl _) hf2 λ_ y=>.inl y;cases q:bz G o [x1,y1] with
   | none=>simp only[q,Ip.R.of] at h
   | some b=>
    simp only[q,Ip.R.of] at h;refine⟨N,[x1,y1],b,hN',.cons dx (.cons dy .nil),q,λv2 H3 r3=>?_⟩;obtain⟨kb,b⟩:=b;cases b <;> try (exact h.elim)
    rename_i b;have:=(r3.den hN').bl_inv;subst this;have hs3:=(hs.trans hs2).trans r3.1;refine⟨b,rfl,?_⟩;cases b with
    | false=>exact h _ _ (Res.of_flat hs3 rfl .bl)
    | true=>
     rw[if_pos rfl];simp only[kQ,if_true] at h;refine gz (hN.mono hs3) (hS.grow hs3) (λz1 ez u H4 fz hs4 nd4 hf4 ow4 hN4 hS4=>?_) (λc fs ee e H' r=>?_) λee=>?_
     .simp only[ez] at h;cases q2:bz G p [y1,z1] with
      | none=>simp only[q2] at h
      | some t=>
       simp only[q2] at h;exact⟨N,[y1,z1],t,hN.mono (hs3.trans hs4),.cons (dy.mono (gg (r3.1.trans hs4) λ_ z=>.inl z)) (.cons (ow4.later (hN.mono hs3) (Sub.refl _) hf4 λ_ y=>y) .nil),q2,λv H' r=>h v H' (r.trans (hs3.trans hs4))⟩
     .simp only[ee] at h;exact h e H' (r.of_sub hs3)
     .simp only[ee] at h
  .simp only[ex,ee,Ip.R.bind] at h;exact h e H' (r.trans hs λ_ y=>.inl y)
  .simp only[ex,ee,Ip.R.bind] at h
 .simp only[ee,Ip.R.bind] at h;exact h
 .simp only[ee,Ip.R.bind] at h
end
def ItD (W:Wd)(N:Addr->Prop)(H1:Hp)(J:It)(ds:ax):Prop:=∀(M:Addr->Prop) (H:Hp),Sub (hid N H1) (hid M H)->NOk M H->∀i:Nat,
 (∀d,ds[i]? = some d->J.go i H/\∀x H',J.yld i H x H'->Sub H H'/\Den W (hid M H') x d)/\(ds.length<=i->J.stop i H)
section
variable {X:Cx}{W:Wd}{G:Pg}{cl:Nat->aw->Ip.Run}{E:St->XK}
def kq {N:Addr->Prop}{H H':Hp}(h:Sub H H'):Sub (hid N H) (hid N H'):=gg h λ_ z=>.inl z
def gq (W:Wd)(G:Pg)(cl:Nat->aw->Ip.Run)(wk:Wk)(irs:aF)(E:St->XK):TI:=λσ H R=>∃(N:Addr->Prop) (a:Sl),NOk N H/\RelS W (hid N H) a σ/\match evals G cl a irs with
 | .ok vs=>(match dF wk vs with
  | some ds=>∀J H',Sub H H'->ItD W N H' J ds->(wk.rng=true->∀M,ItD W M H' J ds)->R J H'
  | none=>False)
 | .exc c fs=>∀e H',ExcR W H N H' c fs e->E σ (.ref e) none H'
 | .bad=>False
def PI.mono {tg iter:Expr}{t t':TI}(h:PI X tg iter t)(k:∀σ H R,t' σ H R->t σ H R):PI X tg iter t':=λpins s σ H R I q=>h pins s σ H R I (k σ H R q)
def ItD.list {N:Addr->Prop}{H1:Hp}{a:Addr}{vs:av}{ds:ax}(hK:W.K=X.K)(h:Rd (hid N H1) a (.lst vs))(q:Dens W (hid N H1) vs ds):ItD W N H1 (rh X.K a) ds:=λM H hs hN i=>by
 have hq:SqL X.K H a vs:=.inl (Rd.sub (hs.trans bN) h);refine⟨λd e=>?_,λhl=>⟨vs,hq,by rw[q.length]; exact hl⟩⟩;obtain⟨v,e1,e2⟩:=q.get e;refine⟨⟨vs,v,hq,e1⟩,λx H' hZz=>?_⟩;obtain⟨hH,hx⟩:=hZz;subst hH;have:=hx vs hq;rw[e1] at this;cases this;exact⟨Sub.refl _,e2.mono hs⟩
def ItD.tup {N:Addr->Prop}{H1:Hp}{a:Addr}{vs:av}{ds:ax}(hK:W.K=X.K)(h:SqT W.K (hid N H1) a vs)(q:Dens W (hid N H1) vs ds):ItD W N H1 (pN X.K a) ds:=λM H hs hN i=>by
 have hq:SqT X.K H a vs:=hK ▸ SqT.sub (hs.trans bN) h;refine⟨λd e=>?_,λhl=>⟨vs,hq,by rw[q.length]; exact hl⟩⟩;obtain⟨v,e1,e2⟩:=q.get e;refine⟨⟨vs,v,hq,e1⟩,λx H' hZz=>?_⟩;obtain⟨hH,hx⟩:=hZz;subst hH;have:=hx vs hq;rw[e1] at this;cases this;exact⟨Sub.refl _,e2.mono hs⟩
def DJ {tg e:Expr}{ir:Ex}(hK:W.K=X.K)(h:PE X e (bi W G cl ir E)):PI X tg e (gq W G cl .seq [ir] E):=by
 rintro pins s σ H R I ⟨N,a,hN,hS,q⟩;rw[bL,di] at q;cases e1:Ip.eval G cl a ir with
 | bad=>rw[e1] at q; exact q.elim
 | exc c fs=>
  rw[e1] at q;refine sO h pins s σ H R I ⟨N,a,hN,hS,?_⟩;rw[e1];exact q
 | ok x=>
  obtain⟨k,d⟩:=x;rw[e1] at q;simp only[show dF .seq [(k,d)]=d.seq from rfl] at q;cases e2:d.seq with
  | none=>rw[e2] at q; exact q.elim
  | some ds=>
   rw[e2] at q;cases d <;> first | exact (b9 e2).elim | simp only[D.seq] at e2
   .cases e2;refine sO h pins s σ H R I ⟨N,a,hN,hS,?_⟩;rw[e1];intro v H' r;have dv:=r.den hN;cases dv with | @lst b vs _ h1 h2=>?_
    exact⟨b,rfl,⟨vs,.inl (Rd.sub bN h1)⟩,q _ _ r.1 (ItD.list hK h1 h2) λz=>nomatch z⟩
   .cases e2;refine wC h pins s σ H R I ⟨N,a,hN,hS,?_⟩;rw[e1];intro v H' r;have dv:=r.den hN;cases dv with | @tup b vs _ h1 h2=>?_
    exact⟨b,rfl,⟨vs,hK ▸ SqT.sub bN h1⟩,q _ _ r.1 (ItD.tup hK h1 h2) λz=>nomatch z⟩
theorem ItD.range {N:Addr->Prop}{H1:Hp}{lo:Int}{n:Nat}:ItD W N H1 (mG lo n) ((List.range n).map λ(i:Nat)=>.int (lo+i)):=λM H hs hN i=>by
 refine⟨λd e=>?_,λhl=>?_⟩;rotate_left
 .show n<=i;simpa using hl
 rw[Fv] at e;obtain⟨j,e1,e2⟩:=dG e;have hi:i<n:=by have:=(eO e1).1; simpa using this
 rw[List.getElem?_range hi] at e1;cases e1;subst e2;refine⟨hi,λx H' hZz=>?_⟩;obtain⟨hH,hx⟩:=hZz;subst hH hx;exact⟨Sub.refl _,.int⟩
def wk_rng1 {xs:aw}{ds:ax}(h:dF .rng1 xs=some ds):∃k j,xs=[(k,.int j)]/\(-(2 ^ 62)<=j/\j<2 ^ 62)/\ds=(List.range j.toNat).map λ(n:Nat)=>.int n:=by
 obtain⟨⟨k,d⟩,rfl,h2⟩:=Ip.sR (f:=Ip.iW) h;obtain⟨j,e1,h3⟩:=dW (show (Ip.jZ d).bind _=some ds from h2);clear h h2;obtain rfl:=Ip.zo e1;by_cases hj:Ip.d6 j=true
 .rw[if_pos hj] at h3;cases h3;exact⟨k,j,rfl,Ip.gU.mp hj,rfl⟩
 .rw[if_neg hj] at h3; exact (b9 h3).elim
def sU {d:D}{xs:ax}(h:d.lstO=some xs):d=.lst xs:=by
 cases d <;> simp only[D.lstO] at h <;> cases h
 rfl
def AB {d:D}{xs:ax}(h:d.seq=some xs):d=.lst xs\/d=.tup xs:=by
 cases d <;> simp only[D.seq] at h <;> cases h
 .exact .inl rfl
 .exact .inr rfl
def wk_enum {xs:aw}{ds:ax}(h:dF .enum xs=some ds):∃k d es,xs=[(k,d)]/\(d=.lst es\/d=.tup es)/\ds=es.mapIdx λn d=>.tup [.int n,d]:=by
 obtain⟨⟨k,d⟩,rfl,h2⟩:=Ip.sR (f:=Ip.i5) h;obtain⟨es,e1,e2⟩:=dG (show d.seq.map _=some ds from h2);exact⟨k,d,es,rfl,AB e1,e2.symm⟩
def wk_zip {xs:aw}{ds:ax}(h:dF .zip xs=some ds):∃k l d e us ws,xs=[(k,d),(l,e)]/\d=.lst us/\e=.lst ws/\ds=(us.zip ws).map λp=>.tup [p.1,p.2]:=by
 obtain⟨⟨k,d⟩,⟨l,e⟩,rfl,h2⟩:=Ip.Ao (f:=Ip.lD) h;obtain⟨us,e1,e2⟩:=dW (show d.lstO.bind _=some ds from h2);obtain⟨ws,e3,e4⟩:=dG e2;exact⟨k,l,d,e,us,ws,rfl,sU e1,sU e3,e4.symm⟩
def qU {wk:Wk}{irs:aF}{σ:St}{H:Hp}{R:It->Hp->Prop}{Q:av->Hp->Prop}(h:gq W G cl wk irs E σ H R)
  (k:∀(N:Addr->Prop) xs ds,dF wk xs=some ds->NOk N H->(∀J H',Sub H H'->ItD W N H' J ds->(wk.rng=true->∀M,ItD W M H' J ds)->R J H')->∀vs H',Sub H H'->Dens W (hid N H') vs (xs.map (·.2))->Q vs H'):bT W G cl irs E σ H Q:=by
 obtain⟨N,a,hN,hS,q⟩:=h;refine⟨N,a,hN,hS,?_⟩;cases e1:evals G cl a irs with
 | bad=>rw[e1] at q; exact q
 | exc c fs=>rw[e1] at q; exact q
 | ok xs=>
  rw[e1] at q;simp only at q;cases e2:dF wk xs with
  | none=>rw[e2] at q; exact q.elim
  | some ds=>
   rw[e2] at q;exact λvs H' r=>k N xs ds e2 hN q vs H' r.1 (r.dens hN)
def xB {tg e:Expr}{ir:Ex}{p pos:Pos}(hg:Gl X "range")(hm:X.mg "range" = none)(h:PA X [e] (bT W G cl [ir] E))(hs:starEach [e] X.env=[(false,PySem.eval e X.env)]):PI X tg (.Call (.Name "range" p) [e] [] pos) (gq W G cl .rng1 [ir] E):=by
 refine (Ds hg hm h hs).mono λσ H R q=>qU q λN xs ds e2 hN q vs H' hs dv=>?_;obtain⟨k,j,rfl,hj,rfl⟩:=wk_rng1 e2;obtain⟨v,rfl,h1⟩:=Dens.one dv;rw[h1.int_inv];have rr:∀M,ItD W M H' (mG 0 j.toNat) ((List.range j.toNat).map λ(n:Nat)=>.int n):=λM=>by
  have:=ItD.range (W:=W) (N:=M) (H1:=H') (lo:=0) (n:=j.toNat);simpa using this
 exact⟨j,rfl,hj.1,hj.2,q _ _ hs (rr N) λ_ M=>rr M⟩
def ItD.enum {N:Addr->Prop}{H1:Hp}{a:Addr}{vs:av}{ds:ax}(hK:W.K=X.K)(h:Rd (hid N H1) a (.lst vs))(q:Dens W (hid N H1) vs ds):ItD W N H1 (qB X.K a) (ds.mapIdx λn d=>.tup [.int n,d]):=λM H hs hN i=>by
 have hq:SqL X.K H a vs:=.inl (Rd.sub (hs.trans bN) h);refine⟨λd e=>?_,λhl=>⟨vs,hq,by rw[q.length]; simpa using hl⟩⟩;rw[GI] at e;obtain⟨d',e0,rfl⟩:=dG e;obtain⟨v,e1,e2⟩:=q.get e0;refine⟨⟨vs,v,hq,e1⟩,λx H' hZz=>?_⟩;obtain⟨y,p,hx,hp,hH,hy⟩:=hZz;have:=hy vs hq;rw[e1] at this;cases this;subst hx hH;exact⟨Sub.upd hp,.tup (SqT.of (aW.mpr ⟨λz=>hN p z hp,bX⟩)) (.cons .int (.cons (e2.mono (hs.trans (kq (Sub.upd hp)))) .nil))⟩
def ItD.enumT {N:Addr->Prop}{H1:Hp}{a:Addr}{vs:av}{ds:ax}(hK:W.K=X.K)(h:SqT W.K (hid N H1) a vs)(q:Dens W (hid N H1) vs ds):ItD W N H1 (kc X.K a) (ds.mapIdx λn d=>.tup [.int n,d]):=λM H hs hN i=>by
 have hq:SqT X.K H a vs:=by rw[<-hK]; exact SqT.sub (hs.trans bN) h
 refine⟨λd e=>?_,λhl=>⟨vs,hq,by rw[q.length]; simpa using hl⟩⟩;rw[GI] at e;obtain⟨d',e0,rfl⟩:=dG e;obtain⟨v,e1,e2⟩:=q.get e0;refine⟨⟨vs,v,hq,e1⟩,λx H' hZz=>?_⟩;obtain⟨y,p,hx,hp,hH,hy⟩:=hZz;have:=hy vs hq;rw[e1] at this;cases this;subst hx hH;exact⟨Sub.upd hp,.tup (SqT.of (aW.mpr ⟨λz=>hN p z hp,bX⟩)) (.cons .int (.cons (e2.mono (hs.trans (kq (Sub.upd hp)))) .nil))⟩
theorem ItD.zip {N:Addr->Prop}{H1:Hp}{a b:Addr}{vs ws:av}{ds es:ax}(hK:W.K=X.K)(h:Rd (hid N H1) a (.lst vs))(q:Dens W (hid N H1) vs ds)(h':Rd (hid N H1) b (.lst ws))(q':Dens W (hid N H1) ws es) :
  ItD W N H1 (rX X.K a b) ((ds.zip es).map λp=>.tup [p.1,p.2]):=λM H hs hN i=>by
 have hq:SqL X.K H a vs:=.inl (Rd.sub (hs.trans bN) h);have hq':SqL X.K H b ws:=.inl (Rd.sub (hs.trans bN) h');refine⟨λd e=>?_,λhl=>?_⟩
 .rw[Fv] at e;obtain⟨⟨d1,d2⟩,e0,rfl⟩:=dG e;obtain⟨e1,e2⟩:=List.getElem?_zip_eq_some.mp e0;obtain⟨v,f1,f2⟩:=q.get e1;obtain⟨w,g1,g2⟩:=q'.get e2;refine⟨⟨vs,ws,v,w,hq,hq',f1,g1⟩,λx H' hZz=>?_⟩;obtain⟨y,z,p,hx,hp,hH,hy,hz⟩:=hZz;have t1:=hy vs hq;have t2:=hz ws hq';rw[f1] at t1;rw[g1] at t2;cases t1;cases t2;subst hx hH;exact⟨Sub.upd hp,.tup (SqT.of (aW.mpr ⟨λz=>hN p z hp,bX⟩)) (.cons (f2.mono (hs.trans (kq (Sub.upd hp)))) (.cons (g2.mono (hs.trans (kq (Sub.upd hp)))) .nil))⟩
 .refine⟨vs,ws,hq,hq',?_⟩;rw[q.length,q'.length];simp only[Fg,List.length_zip] at hl;omega
def ET {e:Expr}{es:au}{k1:Nat}{tp:Pos}{ir:Ex}{p pos:Pos}(hK:W.K=X.K)(hg:Gl X "enumerate")(hm:X.mg "enumerate" = none)(hv:bootBuiltins "enumerate" = some (.type "enumerate"))(h:PA X [e] (bT W G cl [ir] E))(hs:starEach [e] X.env=[(false,PySem.eval e X.env)]) :
  PI X (.Tuple es k1 tp) (.Call (.Name "enumerate" p) [e] [] pos) (gq W G cl .enum [ir] E):=by
 refine (xG hg hm hv h hs).mono λσ H R q=>qU q λN xs ds e2 hN q vs H' hs dv=>?_;obtain⟨k,d,us,rfl,hd,rfl⟩:=wk_enum e2;obtain⟨v,rfl,h0⟩:=Dens.one dv;rcases hd with rfl | rfl
 .have h0':Den W (hid N H') v (.lst us):=h0;cases h0' with | @lst a ws _ h1 h2=>?_
  exact .inl ⟨a,ws,rfl,.inl (Rd.sub bN h1),q _ _ hs (ItD.enum hK h1 h2) λz=>nomatch z⟩
 .have h0':Den W (hid N H') v (.tup us):=h0;cases h0' with | @tup a ws _ h1 h2=>?_
  exact .inr ⟨a,ws,rfl,by rw[<-hK]; exact SqT.sub bN h1,q _ _ hs (ItD.enumT hK h1 h2) λz=>nomatch z⟩
def Ci {e e':Expr}{es:au}{k1:Nat}{tp:Pos}{ir ir':Ex}{p pos:Pos}(hK:W.K=X.K)(hg:Gl X "zip")(hm:X.mg "zip" = none)(hv:bootBuiltins "zip" = some (.type "zip"))(h:PA X [e,e'] (bT W G cl [ir,ir'] E))
  (hs:starEach [e,e'] X.env=[(false,PySem.eval e X.env),(false,PySem.eval e' X.env)])(hs2:starEach [e'] X.env=[(false,PySem.eval e' X.env)]) :
  PI X (.Tuple es k1 tp) (.Call (.Name "zip" p) [e,e'] [] pos) (gq W G cl .zip [ir,ir'] E):=by
 refine (Bk hg hm hv h hs hs2).mono λσ H R q=>qU q λN xs ds e2 hN q vs H' hs dv=>?_;obtain⟨k,l,d,e,us,ws,rfl,rfl,rfl,rfl⟩:=wk_zip e2;obtain⟨v,w,rfl,h0,g0⟩:=Dens.two dv;have h0':Den W (hid N H') v (.lst us):=h0;have g0':Den W (hid N H') w (.lst ws):=g0;cases h0' with | @lst a vs' _ h1 h2=>?_
 cases g0' with | @lst b ws' _ g1 g2=>?_
 exact⟨a,b,vs',ws',rfl,.inl (Rd.sub bN h1),.inl (Rd.sub bN g1),q _ _ hs (ItD.zip hK h1 h2 g1 g2) λz=>nomatch z⟩
noncomputable def kg:ak->iS
 | []=>lX
 | i::is=>ju (dH i) (kg is)
noncomputable def gT (K:bm):Tg->TG
 | .one i=>dH i
 | .many is=>mo K is.length (kg is)
theorem RelS.set {S:Hp}{a:Sl}{σ:St}{i:Nat}{v:V}{d:D}(h:RelS W S a σ)(hi:i < σ.length)(hd:Den W S v d):RelS W S (a.set i (some d)) (σ.set i (some v)):=λj e hj=>by
 by_cases z:i=j
 .subst z;by_cases y:i<a.length
  .rw[Fj y] at hj;cases hj;exact⟨v,Fj hi,hd⟩
  .rw[FS (by rw[Fu]; omega)] at hj; cases hj
 .rw[Ff z] at hj;rw[Ff z];exact h j e hj
def RelS.skip {S:Hp}{a:Sl}{σ:St}{i:Nat}{v:V}(h:RelS W S a σ)(hi:∀d,a[i]?≠some (some d)):RelS W S a (σ.set i (some v)):=λj e hj=>by
 by_cases z:i=j
 .subst z; exact absurd hj (hi e)
 .rw[Ff z]; exact h j e hj
theorem vB {S:Hp}{a0:Sl}{H:Hp}:∀{is:ak} {vs:av} {ds:ax} {a:Sl} {σ:St} {Q:St->Hp->Prop},Dens W S vs ds->ds.length=is.length->(∀i∈is,i < σ.length)->(∀i∈is,∀d,a0[i]?≠some (some d))->RelS W S a σ->RelS W S a0 σ ->
  (∀σ',RelS W S (Ip.cg id is ds a) σ'->RelS W S a0 σ'->σ'.length=σ.length->Q σ' H)->kg is vs σ H Q
 | [],_,_,a,σ,Q,.nil,_,_,_,h,h0,k=>⟨rfl,k σ h h0 rfl⟩
 | [],_,_,_,_,_,.cons _ _,hl,_,_,_,_,_=>by simp at hl
 | i::is,_,_,_,_,_,.nil,hl,_,_,_,_,_=>by simp at hl
 | i::is,_,_,a,σ,Q,.cons hd q,hl,hi,ha,h,h0,k=>by
  refine⟨_,_,rfl,?_⟩;show kg is _ (σ.set i (some _)) H Q;refine vB q (by simpa using hl) (λj hj=>by rw[Fu]; exact hi j (bU _ hj)) (λj hj=>ha j (bU _ hj)) (h.set (hi i bW) hd) (h0.skip (ha i bW)) λσ' h1 h2 h3=>k σ' h1 h2 (by rw[h3,Fu])
def zd {N:Addr->Prop}{H:Hp}{a0 a1:Sl}{σ:St}{tg:Tg}{v:V}{d:D}{Q:St->Hp->Prop}(hK:W.K=X.K)(hd:Den W (hid N H) v d)(hi:∀i∈cZ tg,i < σ.length)(ha:∀i∈cZ tg,∀d,a0[i]?≠some (some d))(h0:RelS W (hid N H) a0 σ)
  (hb:dN id a0 tg d=some a1)(k:∀σ',RelS W (hid N H) a1 σ'->RelS W (hid N H) a0 σ'->σ'.length=σ.length->Q σ' H):gT X.K tg v σ H Q:=by
 cases tg with
 | one i=>
  simp only[dN] at hb;cases hb;exact k _ (h0.set (hi i (by simp[cZ])) hd) (h0.skip (ha i (by simp[cZ]))) (by rw[Fu])
 | many is=>
  cases hd <;> first | exact (b9 hb).elim | simp only[dN] at hb
  rename_i a vs ds h1 h2;by_cases hl:ds.length=is.length
  .rw[if_pos hl] at hb;cases hb;refine⟨a,vs,rfl,hK ▸ SqT.sub bN h1,h2.length.trans hl,?_⟩;exact vB h2 hl hi ha h0 h0 k
  .rw[if_neg hl] at hb; cases hb
theorem uX {f:D->Ip.R az}:∀{ds:ax} {zs:aw},be f ds=.ok zs->∀i d,ds[i]? = some d->∃o z1,f d=.ok o/\be f (ds.take i)=.ok z1/\be f (ds.take (i+1))=.ok (z1++o.toList)
 | [],_,_,i,d,e=>by simp at e
 | x::xs,zs,h,i,d,e=>by
  rw[be] at h;obtain⟨o,ho,h⟩:=iJ h;obtain⟨ys,hy,h⟩:=iJ h;cases i with
  | zero=>
   simp at e;subst e;refine⟨o,[],ho,rfl,?_⟩;rw[List.take_succ_cons,List.take_zero,be,ho,Ip.R.bind,be,Ip.R.bind];cases o <;> rfl
  | succ i=>
   obtain⟨o2,z1,h1,h2,h3⟩:=uX hy i d (by simpa using e);refine⟨o2,_,h1,by rw[List.take_succ_cons,be,ho,Ip.R.bind,h2,Ip.R.bind],?_⟩;rw[List.take_succ_cons,be,ho,Ip.R.bind,h3,Ip.R.bind];cases o <;> rfl
def C0 {S:Hp}{a:Sl}{σ:St}(caps:List aC)(h:RelS W S a σ):RelS W S (caps.map (cQ a)) (caps.map (iq σ)):=λi d e=>by
 rw[Fv] at e;obtain⟨o,e1,e2⟩:=dG e;cases o with
 | none=>cases e2
 | some j=>
  have e3:a[j]? = some (some d):=by
   have:(a[j]?).join=some d:=e2;cases q:a[j]? with
   | none=>rw[q] at this; cases this
   | some r=>rw[q] at this; rw[show r=some d from this]
  obtain⟨v,h1,h2⟩:=h j d e3;refine⟨v,?_,h2⟩;rw[Fv,e1];show some ((σ[j]?).join)=some (some v);rw[h1];rfl
theorem OwnV.snoc {S H:Hp}{v:V}{x:KD}{f:am}(h:Own W S H x.1 v x.2 f):∀{vs xs fp},OwnV W S H vs xs fp->OwnV W S H (vs++[v]) (xs++[x]) (fp++f)
 | _,_,_,.nil=>by simpa using OwnV.cons h .nil
 | _,_,_,.cons h0 q=>by
  rw[List.cons_append,List.cons_append,GE];exact .cons h0 (OwnV.snoc h q)
theorem uN {f:D->Ip.R az}:∀{ds:ax} {zs:aw},be f ds=.ok zs->zs.length<=ds.length
 | [],_,h=>by cases h; exact bD _
 | x::xs,zs,h=>by
  rw[be] at h;obtain⟨o,ho,h⟩:=iJ h;obtain⟨ys,hy,h⟩:=iJ h;cases h;have:=uN hy;cases o <;> simp <;> omega
noncomputable def rp (W:Wd)(G:Pg)(cl:Nat->aw->Ip.Run):aF->TT
 | []=>gL
 | [t]=>b7 W G cl t λ_ _ _ _=>False
 | _=>λ_ _ _=>False
def eH (N:Addr->Prop)(l:Addr)(fp:am):Addr->Prop:=λb=>(N b\/b=l)\/b∈fp
abbrev o9 (W:Wd)(F:D->Ip.R az)(A:Ip.Sl)(n:Nat)(ds:ax)(N:Addr->Prop)(l:Addr)(H1:Hp)(i:Nat)(ys:av)(σ:St)(H:Hp):Prop:=∃(z1:aw) (fp:am),be F (ds.take i)=.ok z1/\fp.Nodup/\l∉fp/\(∀b∈fp,H1 b=none)/\OwnV W (hid (eH N l fp) H) H ys z1 fp/\H l=some (.lst ys)/\Sub H1 H/\RelS W (hid (eH N l fp) H) A σ/\σ.length=n
def sL {caps:List aC}{tg:Tg}{wk:Wk}{it ts:aF}{x:Ex}{σ:St}{H:Hp}{Q:VK}(hK:W.K=X.K)(hidx:∀i∈cZ tg,caps[i]? = some none)(h:bi W G cl (.comp caps tg wk it ts x) E σ H Q) :
  fV (gq W G cl wk it E) caps (gT X.K tg) (rp W G cl ts) (bi W G cl x λ_ _ _ _=>False) σ H Q:=by
 obtain⟨N,a,hN,hS,h⟩:=h;rw[lh] at h;unfold fV;refine⟨N,a,hN,hS,?_⟩;cases e1:evals G cl a it with
 | bad=>rw[e1] at h; exact h
 | exc c fs=>rw[e1] at h; exact h
 | ok vs=>
  rw[e1] at h;simp only[Ip.R.bind] at h;cases e2:dF wk vs with
  | none=>rw[e2] at h; exact h.elim
  | some ds=>
   rw[e2] at h;simp only at h;by_cases hl:ds.length<=SL
   rotate_left
   .rw[if_neg hl] at h; exact h.elim
   rw[if_pos hl] at h;cases e3:be (compF G cl (caps.map (cQ a)) tg ts x) ds with
   | bad=>rw[e3] at h; exact h.elim
   | exc c fs=>rw[e3] at h; exact h.elim
   | ok zs=>
    rw[e3] at h;simp only[Ip.R.nox] at h;simp only[e2];intro J H1 hs1 hJ _ l hl1;have hN1:=hN.mono hs1;have a0n:∀i∈cZ tg,∀d,(caps.map (cQ a))[i]?≠some (some d):=λi hi d z=>by
     rw[Fv,hidx i hi] at z; cases z
    have ilt:∀i∈cZ tg,i<caps.length:=λi hi=>(eO (hidx i hi)).1;refine⟨λi m ys σ Hc=>m=ds.length - i/\i<=ds.length/\o9 W (compF G cl (caps.map (cQ a)) tg ts x) (caps.map (cQ a)) caps.length ds N l H1 i ys σ Hc,
     ⟨ds.length,by simp,Fy _,[],[],rfl,.nil,by simp,λb z=>by simp at z,.nil,bX,Sub.upd hl1,?_,by simp⟩,?_⟩
    .refine (C0 caps (hS.grow hs1)).mono (gg (Sub.upd hl1) λb z=>?_);rcases z with (z | z) | z
     .exact .inl z
     .rw[z]; exact .inr hl1
     .simp at z
    rintro i m ys σ1 Hc ⟨rfl,hi,z1,fp,ez,nd,lf,hf,ow,hcl,hs2,hS2,hlen⟩;have hNc:NOk (eH N l fp) Hc:=λb z=>by
     rcases z with (z | z) | z
     .exact (hN1.mono hs2) b z
     .rw[z,hcl]; simp
     .exact ow.dom b z
    have hsub:Sub (hid N H1) (hid (eH N l fp) Hc):=gg hs2 λb z=>by
     rcases z with (z | z) | z
     .exact .inl z
     .rw[z]; exact .inr hl1
     .exact .inr (hf b z)
    obtain⟨J1,J2⟩:=hJ (eH N l fp) Hc hsub hNc i;by_cases hlt:i<ds.length
    .obtain⟨o,z1',f1,f2,f3⟩:=uX e3 i ds[i] (by simp[hlt]);rw[ez] at f2;cases f2;obtain⟨Jg,Jy⟩:=J1 ds[i] (by simp[hlt]);refine .inr ⟨Jg,λys σ' H'=>o9 W (compF G cl (caps.map (cQ a)) tg ts x) (caps.map (cQ a)) caps.length ds N l H1 (i+1) ys σ' H',
      λys' σ' H' p'=>⟨ds.length - (i+1),by omega,rfl,hlt,p'⟩,λv H' hy=>?_⟩
     obtain⟨s3,dx⟩:=Jy v H' hy;unfold compF at f1;cases eb:dN id (caps.map (cQ a)) tg ds[i] with
     | none=>rw[eb] at f1; cases f1
     | some a1=>
      rw[eb] at f1;simp only at f1;have hN3:=hNc.mono s3;refine zd hK dx (λj hj=>by rw[hlen]; exact ilt j hj) a0n (hS2.grow s3) eb λσ2 r1 r0 hl2=>?_;have hlen2:σ2.length=caps.length:=hl2.trans hlen;have takeIt:∀y H4,Sub H' H4->Ip.eval G cl a1 x=.ok y->o=some y->bi W G cl x (λ_ _ _ _=>False) σ2 H4 λv H5=>∃ys',H5 l=some (.lst ys')/\ys'.length<sizeLine /\
        o9 W (compF G cl (caps.map (cQ a)) tg ts x) (caps.map (cQ a)) caps.length ds N l H1 (i+1) (ys'++[v]) σ2 (upd H5 l (.lst (ys'++[v]))):=by
       intro y H4 s4 ey ho;refine⟨eH N l fp,a1,hN3.mono s4,r1.grow s4,?_⟩;rw[ey];rintro v H5 ⟨s5,fq,nd5,hf5,ow5⟩;have sc5:Sub Hc H5:=(s3.trans s4).trans s5;have l4:H4 l≠none:=by rw[(s3.trans s4) l _ hcl]; simp
       have lq:l∉fq:=λz=>l4 (hf5 l z);have up:∀b,b≠l->(upd H5 l (.lst (ys++[v]))) b=H5 b:=λb z=>bK z;have big:Sub (hid (eH N l fp) Hc) (hid (eH N l (fp++fq)) (upd H5 l (.lst (ys++[v])))):=λb u e=>by
        obtain⟨g1,g2⟩:=aW.mp e;have bl:b≠l:=λz=>g1 (.inl (.inr z));refine aW.mpr ⟨λz=>?_,by rw[up b bl]; exact sc5 b u g2⟩;rcases z with z | z
        .exact g1 (.inl z)
        .rcases cX z with z | z
         .exact g1 (.inr z)
         .have:=hf5 b z;rw[(s3.trans s4) b u g2] at this;cases this
       refine⟨ys,sc5 l _ hcl,?_,z1++[y],fp++fq,by rw[f3,ho]; rfl,?_,?_,?_,?_,bX,?_,?_,hlen2⟩
       .rw[ow.length];have:=uN ez;rw[GM] at this;have h2:SL<sizeLine:=by decide
        omega
       .refine Fo.mpr ⟨nd,nd5,λb hb c hc z=>?_⟩;subst z;have h1:=ow.dom b hb;cases hq:Hc b with
        | none=>exact h1 hq
        | some u=>
         have:=hf5 b hc;rw[(s3.trans s4) b u hq] at this;cases this
       .intro z;rcases cX z with z | z
        .exact lf z
        .exact lq z
       .intro b z;rcases cX z with z | z
        .exact hf b z
        .exact (hs2.trans (s3.trans s4)).none (hf5 b z)
       .refine OwnV.snoc (ow5.mono (λb u e=>?_) λb hb u e=>?_) (ow.mono big λb hb u e=>?_)
        .obtain⟨g1,g2⟩:=aW.mp e;have bl:b≠l:=λz=>g1 (.inl (.inl (.inr z)));refine aW.mpr ⟨λz=>?_,by rw[up b bl]; exact g2⟩;rcases z with z | z
         .exact g1 (.inl (.inl z))
         .rcases cX z with z | z
          .exact g1 (.inl (.inr z))
          .exact g1 (.inr z)
        .rw[up b λz=>lq (z ▸ hb)]; exact e
        .rw[up b λz=>lf (z ▸ hb)]; exact sc5 b u e
       .intro b u e;rw[up b λz=>by rw[z,hl1] at e; cases e];exact (hs2.trans sc5) b u e
       .refine RelS.mono (λb u e=>?_) r0;obtain⟨g1,g2⟩:=aW.mp e;have bl:b≠l:=λz=>g1 (.inl (.inr z));refine aW.mpr ⟨λz=>?_,by rw[up b bl]; exact (s4.trans s5) b u g2⟩;rcases z with z | z
        .exact g1 (.inl z)
        .rcases cX z with z | z
         .exact g1 (.inr z)
         .have:=hf5 b z;rw[s4 b u g2] at this;cases this
      match ts,f1 with
      | [],f1=>
       simp only[di,Ip.R.bind] at f1;cases ey:Ip.eval G cl a1 x with
       | bad=>rw[ey] at f1; cases f1
       | exc c fs=>rw[ey] at f1; cases f1
       | ok y=>
        rw[ey] at f1;cases f1;have t:=takeIt y H' (Sub.refl _) ey rfl;simp only[rp,gL,if_true];exact t
      | [t],f1=>
       simp only[di,bL,Ip.R.bind] at f1;refine⟨eH N l fp,a1,hN3,r1,?_⟩;cases et:Ip.eval G cl a1 t with
       | bad=>rw[et] at f1; cases f1
       | exc c fs=>rw[et] at f1; cases f1
       | ok tv=>
        obtain⟨kt,tv⟩:=tv;rw[et] at f1;simp only at f1;cases tv <;> simp only[Ip.gD] at f1 <;> try (cases f1; done)
        rename_i b;intro H4 s4;cases b with
        | true=>
         rw[if_pos rfl];simp only[if_true] at f1;cases ey:Ip.eval G cl a1 x with
         | bad=>rw[ey] at f1; cases f1
         | exc c fs=>rw[ey] at f1; cases f1
         | ok y=>
          rw[ey] at f1;cases f1;exact takeIt y H4 s4 ey rfl
        | false=>
         rw[if_neg (by decide)];simp only[Fm,if_false] at f1;cases f1;have sc4:Sub Hc H4:=s3.trans s4;exact⟨z1,fp,by rw[f3]; simp,nd,lf,hf,ow.mono (kq sc4) λb _ u e=>sc4 b u e,sc4 l _ hcl,hs2.trans sc4,r0.grow s4,hlen2⟩
      | _::_::_,f1=>
       exfalso;obtain⟨us,h1,h2⟩:=iJ f1;simp only[bL] at h1;obtain⟨u1,_,h1⟩:=iJ h1;obtain⟨u2,h3,h1⟩:=iJ h1;obtain⟨u4,_,h3⟩:=iJ h3;obtain⟨u5,_,h3⟩:=iJ h3;cases h1;cases h3;simp only at h2;cases h2
    .have e:i=ds.length:=by omega
     subst e;rw[GU (Nat.le_refl _),e3] at ez;cases ez;obtain⟨fq,nd2,sub,o2⟩:=OwnV.join (N:=λb=>N b\/b=l) nd (λb hb z=>z.elim (λy=>hN1 b y (hf b hb)) λy=>lf (y ▸ hb)) ow;refine .inl ⟨J2 (bD _),h _ _ ⟨hs1.trans hs2,l::fq,Ft.mpr ⟨λz=>lf (sub l z),nd2⟩,λb z=>?_,l,ys,fq,rfl,hcl,?_,rfl⟩⟩
     .rcases cu z with y | y
      .rw[y]; exact hs1.none hl1
      .exact hs1.none (hf b (sub b y))
     .refine o2.imp λv d f hf2 ow=>ow.mono (λb u e=>?_) λb _ u e=>e;obtain⟨g1,g2⟩:=aW.mp e;refine aW.mpr ⟨λz=>g1 ?_,g2⟩;rcases z with z | z
      .exact .inl (.inl z)
      .rcases cu z with y | y
       .exact .inl (.inr y)
       .exact .inr y
end
def yH (W:Wd)(G:Pg)(n f:Nat):Sp:=λvs H Q E=>∃(N:Addr->Prop) (xs:aw),NOk N H/\Dens W (hid N H) vs (xs.map (·.2))/\match Ip.run G n f xs with
 | .ret k d []=>∀v H',Res W H N H' (k,d) v->Q v H'
 | .exc c fs []=>∀e H',ExcR W H N H' c fs e->E (.ref e) none H'
 | _=>False
def xH (W:Wd)(G:Pg)(n f:Nat):Sp:=λvs H Q E=>∃(N:Addr->Prop) (x0:KD) (xs:aw) (v0:V) (ws:av) (f0:am),vs=v0::ws/\NOk N H/\f0.Nodup/\(∀b∈f0,¬N b) /\
 Own W (hid (λb=>N b\/b∈f0) H) H x0.1 v0 x0.2 f0/\Dens W (hid (λb=>N b\/b∈f0) H) ws (xs.map (·.2))/\match Ip.run G n f (x0::xs) with
 | .ret k d [y]=>∀v H' (fp:am),Sub (hid (λb=>b∈f0) H) H'->fp.Nodup->(∀b∈fp,hid (λb=>b∈f0) H b=none)->Own W (hid (λb=>N b\/b∈fp) H') H' y.1 v0 y.2 fp->(d=.non->v=.non)->Q v H'
 | .exc c fs _=>∀e H',ExcR W (hid (λb=>b∈f0) H) N H' c fs e->E (.ref e) none H'
 | _=>False
def gA (W:Wd)(G:Pg)(n f:Nat)(F:Fn):Sp:=λvs H Q E=>(F.io=[]/\yH W G n f vs H Q E)\/(F.io=[0]/\xH W G n f vs H Q E)
def ux {G:Pg}{n f:Nat}{xs:aw}{F:Fn}(hF:G.fn f=some F)(h:Ip.run G n f xs≠.bad):xs.length=F.np:=by
 cases n with
 | zero=>exact absurd rfl h
 | succ n=>
  rw[Ip.run,hF] at h;by_cases e:xs.length=F.np
  .exact e
  .simp only[if_neg e] at h; exact absurd rfl h
def qZ {W:Wd}{G:Pg}{n f:Nat}{F:Fn}(hF:G.fn f=some F){vs:av}{H:Hp}{Q:VK}{E:XK}(h:gA W G n f F vs H Q E):vs.length=F.np:=by
 rcases h with ⟨_,N,xs,_,d,q⟩ | ⟨_,N,x0,xs,v0,ws,f0,rfl,_,_,_,_,d,q⟩
 .have:=ux (xs:=xs) hF (λz=>by rw[z] at q; exact q);rw[d.length,Fg]; exact this
 .have:=ux (xs:=x0::xs) hF (λz=>by rw[z] at q; exact q);rw[List.length_cons,d.length,Fg]; simpa using this
section
variable {X:Cx}{W:Wd}{G:Pg}{n:Nat}{E:St->XK}{σ:St}{H:Hp}{Q:VK}
def kR {irs:aF}{cl:Nat->aw->Ip.Run}{Q:av->Hp->Prop}{N:Addr->Prop}{a:Sl}(hN:NOk N H)(hS:RelS W (hid N H) a σ)
  (ok:∀xs,evals G cl a irs=.ok xs->∀vs H1,Sub H H1->Dens W (hid N H1) vs (xs.map (·.2))->Q vs H1)
  (ex:∀c fs,evals G cl a irs=.exc c fs->∀e H',ExcR W H N H' c fs e->E σ (.ref e) none H')(nb:evals G cl a irs≠.bad):bT W G cl irs E σ H Q:=by
 refine⟨N,a,hN,hS,?_⟩;cases q:evals G cl a irs with
 | bad=>exact absurd q nb
 | exc c fs=>exact ex c fs q
 | ok xs=>exact λvs H1 r=>ok xs q vs H1 r.1 (r.dens hN)
noncomputable def cH (F:Fn)(m:Nat):ax:=F.dfl.drop (F.dfl.length - (F.np - m))
theorem yy (F:Fn)(xs:aw):Ip.fill F xs=xs++(cH F xs.length).map λd=>(99,d):=rfl
def o6 (F:Fn)(xs:aw):(Ip.fill F xs).map (·.2)=xs.map (·.2)++cH F xs.length:=by
 rw[yy,HK,He];congr 1
 exact List.map_id _
def iZ {cl:Nat->aw->Ip.Run}{a:Sl}{irs:aF}{xs:aw}(h:evals G cl a irs=.ok xs):xs.length=irs.length:=pI.evals_length h
def sk {f k:Nat}{F:Fn}(h:dA G f k=some F):G.fn f=some F/\F.io=[]/\k<=F.np/\F.np - k<=F.dfl.length:=by
 unfold dA at h;cases q:G.fn f with
 | none=>rw[q] at h; cases h
 | some F'=>
  rw[q] at h;simp only at h;by_cases c:F'.io=[]/\k<=F'.np/\F'.np - k<=F'.dfl.length
  .rw[if_pos c] at h; cases h; exact⟨rfl,c⟩
  .rw[if_neg c] at h; cases h
def tj {m k f:Nat}{d:D}{F:Fn}(h:cn G m k d=some (f,F)):∃c fs Cl',d=.ins c fs/\G.cl c=some Cl'/\Cl'.meths.lookup m=some f/\G.fn f=some F/\F.io=[]/\fs.lookup m=none/\k+1<=F.np/\F.np - (k+1)<=F.dfl.length:=by
 cases d <;> first | exact (b9 h).elim | simp only[cn] at h
 rename_i c fs;cases q1:G.cl c with
 | none=>rw[q1] at h; cases h
 | some Cl'=>
  rw[q1] at h;simp only at h;cases q2:Cl'.meths.lookup m with
  | none=>rw[q2] at h; cases h
  | some f'=>
   rw[q2] at h;simp only at h;cases q3:G.fn f' with
   | none=>rw[q3] at h; cases h
   | some F'=>
    rw[q3] at h;simp only at h;by_cases c1:F'.io=[]/\fs.lookup m=none/\k+1<=F'.np/\F'.np - (k+1)<=F'.dfl.length
    .rw[if_pos c1] at h;cases h;exact⟨c,fs,Cl',rfl,q1,q2,q3,c1⟩
    .rw[if_neg c1] at h; cases h
def sC {f:Nat}{F:Fn}{es:aF}{dvs:av}(hF:dA G f es.length=some F)(hd:∀S,Dens W S dvs (cH F es.length))(h:bi W G (Ip.run G n) (.call f es) E σ H Q):fQ (gA W G n f F) dvs E (bT W G (Ip.run G n) es E) σ H Q:=by
 obtain⟨N,a,hN,hS,h⟩:=h;obtain⟨_,hio,_⟩:=sk hF;rw[mX,hF] at h;simp only[Ip.R.bind] at h;unfold fQ;refine kR hN hS (λxs ex vs H1 hs dv=>?_) (λc fs ee=>?_) λee=>?_
 .rw[ex] at h;simp only at h;refine .inl ⟨hio,N,Ip.fill F xs,hN.mono hs,?_,?_⟩
  .rw[o6,iZ ex];exact dv.append (hd _)
  .cases q:Ip.run G n f (Ip.fill F xs) with
   | bad=>rw[q] at h; exact h
   | ret k d outs=>
    rw[q] at h;cases outs with
    | nil=>exact λv H' r=>h v H' (r.trans hs)
    | cons _ _=>exact h
   | exc c fs outs=>
    rw[q] at h;cases outs with
    | nil=>exact λe H' r=>h e H' (r.of_sub hs)
    | cons _ _=>exact h
 .rw[ee] at h; exact h
 .rw[ee] at h; exact h
theorem DX {m f c:Nat}{C:Addr}{nm:Str}{F:Fn}{io:Ex}{es:aF}{dvs:av}(nd:W.att.Nodup)(hnm:W.att[m]? = some nm)(hC:W.iA c=some C)(hd:∀S,Dens W S dvs (cH F (es.length+1)))
  {N:Addr->Prop}{a:Sl}{k:Nat}{fs0:List aJ}(hN:NOk N H)(hS:RelS W (hid N H) a σ)(ho:Ip.eval G (Ip.run G n) a io=.ok (k,.ins c fs0))(hm:cn G m es.length (.ins c fs0)=some (f,F))
  (h:match Ip.eval G (Ip.run G n) a (.meth m io es) with
   | .ok x=>∀v H',Res W H N H' x v->Q v H'
   | .exc c fs=>∀e H',ExcR W H N H' c fs e->E σ (.ref e) none H'
   | .bad=>False):ff C nm (gA W G n f F) dvs E (bi W G (Ip.run G n) io E) (bT W G (Ip.run G n) es E) σ H Q:=by
 obtain⟨_,_,_,e0,_,_,_,hio,hfl,_⟩:=tj hm;cases e0;rw[kC,ho] at h;simp only[Ip.R.bind,hm,Ip.R.of] at h;unfold ff;refine⟨N,a,hN,hS,?_⟩;rw[ho];intro v H1 r;have dv:=r.den hN;have hs:=r.1;cases dv with | @ins b C' dx _ fs ds hb hc' hf=>?_
 rw[hC] at hc';cases hc';have hb1:=aW.mp hb;refine⟨b,dx,fs,rfl,hb1.2,(hf.lookup nd hnm).2 hfl,?_⟩;refine kR (hN.mono hs) (hS.grow hs) (λxs ex vs H2 hs2 dv2=>?_) (λc fs ee e H' r=>?_) λee=>?_
 .rw[ex] at h;simp only at h;refine .inl ⟨hio,N,Ip.fill F ((k,.ins c fs0)::xs),hN.mono (hs.trans hs2),?_,?_⟩
  .rw[o6,List.length_cons,iZ ex];exact (Dens.cons ((Den.ins hb hC hf).mono (kq hs2)) dv2).append (hd _)
  .cases q2:Ip.run G n f (Ip.fill F ((k,.ins c fs0)::xs)) with
   | bad=>rw[q2] at h; exact h
   | ret k d outs=>
    rw[q2] at h;cases outs with
    | nil=>exact λv H' r=>h v H' (r.trans (hs.trans hs2))
    | cons _ _=>exact h
   | exc c fs outs=>
    rw[q2] at h;cases outs with
    | nil=>exact λe H' r=>h e H' (r.of_sub (hs.trans hs2))
    | cons _ _=>exact h
 .rw[ee] at h;exact h e H' (r.of_sub hs)
 .rw[ee] at h; exact h
end
structure InsC (K:bm)(C:Addr):Prop where
 cls:Cls K C
 ha:PySem.W.findIn K (.ref C) "__class__" = some (some (.builtin "object.__class__"))
 hn:PySem.W.specialIn K (.builtin "object.__class__") "__get__" = some (some (.builtin "getset_descriptor.__get__"))
 htk:PySem.W.takesIn K (.builtin "object.__class__")=some true
 hm:PySem.W.mroIn K C (.type "object")=some true
structure ExcC (K:bm)(C:Addr):Prop where
 xc:∃fI tl,XC K C fI tl
 xi:XI K C
structure CF (W:Wd)(fl:ak):Prop where
 nd:W.att.Nodup
 ins:∀c C,W.iA c=some C->InsC W.K C/\∀f n,f∈fl->W.att[f]? = some n->NoAttr W.K C n
 exc:∀c C,W.xA c=some C->ExcC W.K C/\∀f n,f∈fl->W.att[f]? = some n->NoAttr W.K C n
section
variable {X:Cx}{W:Wd}{G:Pg}{cl:Nat->aw->Ip.Run}{E:St->XK}{fl:ak}
def PE.or {e:Expr}{t t':TE}(h:PE X e t)(h':PE X e t'):PE X e (λσ H Q=>t σ H Q\/t' σ H Q):=λpins s σ H Q I q=>q.elim (h pins s σ H Q I) (h' pins s σ H Q I)
def DW {o:Expr}{io:Ex}{k:Nat}{n:Str}{pos:Pos}(hK:W.K=X.K)(cf:CF W fl)(hk:k∈fl)(hn:W.att[k]? = some n)(ho:PE X o (bi W G cl io E))(hb:attributeBase o n X.env (PySem.eval o X.env)=PySem.eval o X.env):PE X (.Attribute o n pos) (bi W G cl (.op (.fld k) [io]) E):=by
 refine ((Dq ho hb).or (zO ho hb)).mono λσ H Q hZz=>?_;obtain⟨N,a,hN,hS,q⟩:=hZz;rw[cW,bL,di] at q;cases e1:Ip.eval G cl a io with
 | bad=>rw[e1] at q; exact q.elim
 | exc c fs=>
  rw[e1] at q;refine .inl ⟨N,a,hN,hS,?_⟩;rw[e1]; exact q
 | ok x=>
  obtain⟨kx,d⟩:=x;rw[e1] at q;simp only[Ip.R.bind,Ip.A3,cj] at q;cases d <;> simp only[Ip.gP] at q <;> try (exact q.elim)
  .rename_i c fs;cases e2:fs.lookup k with
   | none=>rw[e2] at q; exact q.elim
   | some d=>
    rw[e2] at q;refine .inl ⟨N,a,hN,hS,?_⟩;rw[e1];intro v H1 r;have dv:=r.den hN;cases dv with | @ins b C dx _ vs ds hb hc hf=>?_
    obtain⟨w,l1,dw⟩:=(hf.lookup cf.nd hn).1 d e2;obtain⟨ic,na⟩:=cf.ins c C hc;exact⟨b,C,dx,vs,w,rfl,(aW.mp hb).2,hK ▸ ic.cls,hK ▸ na k n hk hn,l1,q _ _ (Res.of_den r.1 dw)⟩
  .rename_i c fs;cases e2:fs.lookup k with
   | none=>rw[e2] at q; exact q.elim
   | some d=>
    rw[e2] at q;refine .inr ⟨N,a,hN,hS,?_⟩;rw[e1];intro v H1 r;have dv:=r.den hN;cases dv with | @exc b C nw _ vs ds hb hc hf=>?_
    obtain⟨w,l1,dw⟩:=(hf.lookup cf.nd hn).1 d e2;obtain⟨ic,na⟩:=cf.exc c C hc;obtain⟨fI,tl,T⟩:=ic.xc;exact⟨b,C,fI,tl,nw,vs,w,rfl,(aW.mp hb).2,hK ▸ T,hK ▸ na k n hk hn,l1,q _ _ (Res.of_den r.1 dw)⟩
noncomputable def gK (W:Wd):D->aA
 | .non=>some (.type "NoneType")
 | .bl _=>some (.type "bool")
 | .int _=>some (.type "int")
 | .str _=>some (.type "str")
 | .lst _=>some (.type "list")
 | .tup _=>some (.type "tuple")
 | .ins c _=>(W.iA c).map .ref
 | .exc c _=>(W.xA c).map .ref
def DN {pins:af}{σ:St}{H:Hp}{s:Shared}{A:Around}{E:Value->Shared->Prop}{Q:Value->Shared->Prop}{c:Value}{b:Bool}{x:V}{u t:Value}{d:D}(hK:W.K=X.K)(cf:CF W fl)(I:Inv X pins σ H s)(rx:RelV x u)(hd:Den W H x d)(ht:gK W d=some t)
  (e:PySem.W.kitOne X.K t c=some b)(h:∀tk,Q (.bool b) { s with toks:=tk }):wpAny (model X.prog X.w) A (call (.builtin "isinstance") [u,c]) Q E s:=by
 cases hd with
 | non=>cases ht; exact jg I rx .non e h
 | bl=>cases ht; exact jg I rx (.bl _) e h
 | int=>cases ht; exact jg I rx (.int _) e h
 | str=>cases ht; exact jg I rx (.str _) e h
 | lst h1 h2=>
  cases ht;rcases h1 with h1 | ⟨o,h1⟩
  .exact jg I rx (.lst h1) e h
  .exact jg I rx (.frz h1) e h
 | @tup a vs ds h1 h2=>
  cases ht;cases (show u=Value.ref a from rx);obtain⟨its,_,⟨o,g1,g2,_⟩,_⟩:=I.tuple (hK ▸ h1);exact FL HU I.kIn ⟨o,g1,g2⟩ e (λz=>nomatch z) h
 | ins h1 hc _=>
  rw[gK,hc] at ht;cases ht;obtain⟨ic,_⟩:=cf.ins _ _ hc;exact jg I rx (.ins h1 (hK ▸ ic.cls) (hK ▸ ic.ha) (hK ▸ ic.hn) (hK ▸ ic.htk) (hK ▸ ic.hm)) e h
 | exc h1 hc _=>
  rw[gK,hc] at ht;cases ht;obtain⟨ic,_⟩:=cf.exc _ _ hc;obtain⟨fI,tl,T⟩:=ic.xc;exact C8 I rx (.exc h1 (hK ▸ T) (hK ▸ ic.xi)) e h
def ci (W:Wd)(G:Pg)(t:Ip.Ty)(cv:Value):Prop:=∀d tv,gK W d=some tv->PySem.W.kitOne W.K tv cv=some (bc G d t)
def Den.ty {S:Hp}{v:V}{d:D}(h:Den W S v d):∃t,gK W d=some t:=by
 cases h with
 | ins _ hc _=>exact⟨_,by rw[gK,hc]; rfl⟩
 | exc _ hc _=>exact⟨_,by rw[gK,hc]; rfl⟩
 | _=>exact⟨_,rfl⟩
def AS {a b:Expr}{ia:Ex}{t:Ip.Ty}{c:V}{cv:Value}{p pos:Pos}(hK:W.K=X.K)(cf:CF W fl)(hc:valOf c=some cv)(hi:ci W G t cv)(hg:Gl X "isinstance")(hm:X.mg "isinstance" = none)(hv:bootBuiltins "isinstance" = some (.builtin "isinstance"))
  (ha:PE X a (bi W G cl ia E))(hb:PE X b (tC c))(hs1:starEach [a,b] X.env=(false,PySem.eval a X.env)::starEach [b] X.env)(hs2:starEach [b] X.env=(false,PySem.eval b X.env)::starEach [] X.env) :
  PE X (.Call (.Name "isinstance" p) [a,b] [] pos) (bi W G cl (.op (.isi [t]) [ia]) E):=by
 have rule:CallR X (.builtin "isinstance") (λxs H Q=>∃N x d,NOk N H/\xs=[x,c]/\Den W (hid N H) x d/\Q (.bl ([t].any (bc G d))) H):=by
  rintro pins s σ H xs us Q I r ⟨N,x,d,hN,e,hd,q⟩;have e1:[t].any (bc G d)=bc G d t:=by simp
  rw[e1] at q;subst e;obtain⟨u,v,rfl,ru,rv⟩:=vals2 r;have ev:v=cv:=by
   cases c with
   | ref a=>cases hc; exact rv
   | ty n=>cases hc; exact rv
   | _=>cases hc
  subst ev;obtain⟨tv,et⟩:=hd.ty;exact DN hK cf I ru (hd.mono bN) et (hK ▸ hi d tv et) λtk=>⟨.bl _,H,I.tok _,rfl,q⟩
 refine (nz rule hg hm hv (gr ha (gr hb hY hs2) hs1) (by decide) (by decide) hs1 (by rw[hs2]; rfl)).mono λσ H Q hZz=>?_;obtain⟨N,as,hN,hS,q⟩:=hZz;rw[cW,bL,di] at q;refine⟨N,as,hN,hS,?_⟩;cases e1:Ip.eval G cl as ia with
 | bad=>rw[e1] at q; exact q.elim
 | exc c fs=>rw[e1] at q; exact q
 | ok x=>
  obtain⟨kx,d⟩:=x;rw[e1] at q;intro v H1 r;exact⟨N,v,d,hN.mono r.1,rfl,r.den hN,q _ _ (Res.of_flat r.1 rfl .bl)⟩
def yf {pins:af}{σ:St}{H:Hp}{s:Shared}{x:V}{u t:Value}{d:D}(hK:W.K=X.K)(cf:CF W fl)(I:Inv X pins σ H s)(rx:RelV x u)(hd:Den W H x d)(ht:gK W d=some t) :
  ∃P:Heap->Prop,PySem.W.KitX X.K u t P/\P s.heap/\u≠.builtin "__main__.__loader__#opaque":=by
 cases hd with
 | non=>cases ht; cases (show u=Value.none from rx); exact⟨_,PySem.W.kitx_none,trivial,λz=>nomatch z⟩
 | @bl y=>cases ht; cases (show u=Value.bool y from rx); exact⟨_,PySem.W.kitx_bool,trivial,λz=>nomatch z⟩
 | @int i=>cases ht; obtain⟨t,q⟩:=(show ∃t,u=Value.int i t from rx); cases q; exact⟨_,PySem.W.kitx_int,trivial,λz=>nomatch z⟩
 | @str y=>cases ht; obtain⟨t,q⟩:=(show ∃t,u=Value.str y t from rx); cases q; exact⟨_,PySem.W.kitx_str,trivial,λz=>nomatch z⟩
 | @lst a vs ds h1 h2=>
  cases ht;cases (show u=Value.ref a from rx);obtain⟨_,its,n,_,_,eo⟩:=I.rdL h1;exact⟨_,Ie,⟨_,eo,rfl⟩,λz=>nomatch z⟩
 | @tup a vs ds h1 h2=>
  cases ht;cases (show u=Value.ref a from rx);obtain⟨its,_,⟨o,g1,g2,_⟩,_⟩:=I.tuple (hK ▸ h1);exact⟨_,HU,⟨o,g1,g2⟩,λz=>nomatch z⟩
 | @ins a C dx c vs ds h1 hc _=>
  rw[gK,hc] at ht;cases ht;cases (show u=Value.ref a from rx);obtain⟨ic,_⟩:=cf.ins _ _ hc;obtain⟨mA,O,_⟩:=lF I.hok h1;obtain⟨od,J,_⟩:=O.look;exact⟨_,PySem.W.kitx_own ((hK ▸ ic.cls:Cls X.K C).get _) (hK ▸ ic.cls:Cls X.K C).hd (hK ▸ ic.ha) (hK ▸ ic.hn) (hK ▸ ic.htk) (hK ▸ ic.hm),J,λz=>nomatch z⟩
 | @exc a C nw c vs ds h1 hc _=>
  rw[gK,hc] at ht;cases ht;cases (show u=Value.ref a from rx);obtain⟨ic,_⟩:=cf.exc _ _ hc;obtain⟨fI,tl,T⟩:=ic.xc;obtain⟨mA,J,_,_⟩:=I.inst h1;exact⟨_,uM (hK ▸ T) (hK ▸ ic.xi),nh J,λz=>nomatch z⟩
inductive Isis (X:Cx) (W:Wd) (G:Pg):au->List Ip.Ty->av->ao->Prop
 | nil:Isis X W G [] [] [] []
 | cons {e:Expr} {es:au} {t:Ip.Ty} {ts:List Ip.Ty} {c:V} {cs:av} {cv:Value} {cvs:ao} (he:PE X e (tC c)) (hs:∀es,starEach (e::es) X.env=(false,PySem.eval e X.env)::starEach es X.env) (hc:valOf c=some cv) (hi:ci W G t cv) (r:Isis X W G es ts cs cvs):Isis X W G (e::es) (t::ts) (c::cs) (cv::cvs)
def yA (cs:av):TA:=λ_ H Q=>Q cs H
def Isis.pa {es:au}{ts:List Ip.Ty}{cs:av}{cvs:ao}(h:Isis X W G es ts cs cvs):PA X es (yA cs):=by
 induction h with
 | nil=>exact hY
 | cons he hs hc hi r ih=>exact gr he ih (hs _)
theorem Isis.any {es:au}{ts:List Ip.Ty}{cs:av}{cvs:ao}{d:D}{t:Value}(h:Isis X W G es ts cs cvs)(ht:gK W d=some t):PySem.W.kitAny W.K t cvs=some (ts.any (bc G d)):=by
 induction h with
 | nil=>rfl
 | @cons e es t' ts c cs cv cvs he hs hc hi r ih=>
  unfold PySem.W.kitAny;rw[hi d t ht,List.any_cons];cases bc G d t' with
  | true=>rfl
  | false=>exact ih
def Isis.vals {es:au}{ts:List Ip.Ty}{cs:av}{cvs its:ao}(h:Isis X W G es ts cs cvs)(r:Vals cs its):its=cvs:=by
 induction h generalizing its with
 | nil=>cases r; rfl
 | @cons e es t' ts c cs cv cvs he hs hc hi q ih=>
  cases r with
  | cons r1 r2=>
   rw[ih r2];congr 1
   cases c with
   | ref a=>cases hc; exact r1
   | ty n=>cases hc; exact r1
   | _=>cases hc
def Isis.len {es:au}{ts:List Ip.Ty}{cs:av}{cvs:ao}(h:Isis X W G es ts cs cvs):cs.length=es.length:=by
 induction h with
 | nil=>rfl
 | cons _ _ _ _ _ ih=>simp[ih]
def CA {a:Expr}{es:au}{ia:Ex}{ts:List Ip.Ty}{cs:av}{cvs:ao}{p pos tp:Pos}{kt:Nat}(hK:W.K=X.K)(cf:CF W fl)(hl:es.length<=1000)(hi:Isis X W G es ts cs cvs)(hg:Gl X "isinstance")(hm:X.mg "isinstance" = none)(hv:bootBuiltins "isinstance" = some (.builtin "isinstance"))
  (ha:PE X a (bi W G cl ia E))(hs1:starEach [a,.Tuple es kt tp] X.env=(false,PySem.eval a X.env)::starEach [.Tuple es kt tp] X.env)(hs2:starEach [.Tuple es kt tp] X.env=(false,PySem.eval (.Tuple es kt tp) X.env)::starEach [] X.env) :
  PE X (.Call (.Name "isinstance" p) [a,.Tuple es kt tp] [] pos) (bi W G cl (.op (.isi ts) [ia]) E):=by
 have rule:CallR X (.builtin "isinstance") (λxs H Q=>∃N x d q,NOk N H/\xs=[x,.ref q]/\H q=some (.tup cs)/\Den W (hid N H) x d/\Q (.bl (ts.any (bc G d))) H):=by
  rintro pins s σ H xs us Q I r ⟨N,x,d,q,hN,e,hq,hd,k⟩;subst e;obtain⟨u,v,rfl,ru,rv⟩:=vals2 r;cases (show v=Value.ref q from rv);obtain⟨tv,et⟩:=hd.ty;obtain⟨P,Z,hp,hne⟩:=yf hK cf I ru (hd.mono bN) et;obtain⟨_,its,rI,⟨o,g1,g2,⟨n,g3⟩,_⟩⟩:=(show ObjOk X.prog X.w H s.heap q (.tup cs) from I.hok q _ hq)
  have ei:=hi.vals rI;subst ei;have eo:o=⟨.type "tuple",o.dict,.seq its.toArray n,o.slots⟩:=by
   cases o;simp only at g2 g3;rw[g2,g3]
  exact PySem.W.kia_tup Z I.kIn hp (by rw[g1,eo]) (hK ▸ hi.any et) hne λtk=>⟨.bl _,H,I.tok _,rfl,k⟩
 refine (nz rule hg hm hv (gr ha (gr (pR hi.pa) hY hs2) hs1) (by decide) (by decide) hs1 (by rw[hs2]; rfl)).mono λσ H Q hZz=>?_;obtain⟨N,as,hN,hS,q⟩:=hZz;rw[cW,evals,evals] at q;refine⟨N,as,hN,hS,?_⟩;cases e1:Ip.eval G cl as ia with
 | bad=>rw[e1] at q; exact q.elim
 | exc c fs=>rw[e1] at q; exact q
 | ok x=>
  obtain⟨kx,d⟩:=x;rw[e1] at q;intro v H1 r;refine⟨by rw[hi.len]; exact b8 hl (by decide),λp hp=>?_⟩;exact⟨N,v,d,p,(hN.mono r.1).mono (Sub.upd hp),rfl,bX,(r.den hN).mono (gg (Sub.upd hp) λ_ z=>.inl z),q _ _ (Res.of_flat (r.1.trans (Sub.upd hp)) rfl .bl)⟩
end
section
variable {X:Cx}{W:Wd}{G:Pg}{n:Nat}{E:St->XK}{σ:St}{H:Hp}{Q:VK}
def pp {c k f:Nat}{F:Fn}{d:D}(h:bZ G c k=some (f,F,d)):∃Cl',G.cl c=some Cl'/\Cl'.init=some f/\G.fn f=some F/\(d=if Cl'.isx=true then .exc c [] else .ins c [])/\F.io=[0]/\k+1<=F.np/\F.np - (k+1)<=F.dfl.length/\k<=50:=by
 unfold bZ at h;cases q1:G.cl c with
 | none=>rw[q1] at h; cases h
 | some Cl'=>
  rw[q1] at h;simp only at h;cases q2:Cl'.init with
  | none=>rw[q2] at h; cases h
  | some f'=>
   rw[q2] at h;simp only at h;cases q3:G.fn f' with
   | none=>rw[q3] at h; cases h
   | some F'=>
    rw[q3] at h;simp only at h;by_cases c1:F'.io=[0]/\k+1<=F'.np/\F'.np - (k+1)<=F'.dfl.length/\k<=50
    .rw[if_pos c1] at h;cases h;exact⟨Cl',rfl,q2,q3,rfl,c1⟩
    .rw[if_neg c1] at h; cases h
theorem tD {f:Nat}{F:Fn}{dvs:av}{xs:aw}{vs:av}{N:Addr->Prop}{H1 H2:Hp}{x:Addr}{d0:D}(hio:F.io=[0])(hnp:xs.length+1<=F.np)
  (hd:∀S,Dens W S dvs (cH F (xs.length+1)))(hN:NOk N H1)(hs:Sub H H1)(dv:Dens W (hid N H1) vs (xs.map (·.2)))(hx:H1 x=none)(h12:∀b,b≠x->∀o,H1 b=some o->H2 b=some o)(h21:∀b,H2 b=none->H1 b=none)
  (ho:Own W (hid (λb=>N b\/b∈[x]) H2) H2 1 (.ref x) d0 [x])
  (h:match Ip.fW (Ip.run G n) (f,F,d0) xs with
   | .ok y=>∀v H',Res W H N H' y v->Q v H'
   | .exc c fs=>∀e H',ExcR W H N H' c fs e->E σ (.ref e) none H'
   | .bad=>False):gA W G n f F (.ref x::(vs++dvs)) H2 (λv H2=>v=.non/\Q (.ref x) H2) (E σ):=by
 simp only[Ip.fW] at h;have hN2:NOk N H2:=λb z q=>hN b z (h21 b q);have hxN:¬N x:=λz=>hN x z hx;have s1:Sub H1 (hid (λb=>b∈[x]) H2):=λb o e=>aW.mpr ⟨(λz=>by rw[Fc.mp z,hx] at e; cases e),h12 b (λz=>by rw[z,hx] at e; cases e) o e⟩;have none1:∀b,hid (λb=>b∈[x]) H2 b=none->H1 b=none:=λb z=>s1.none z;refine .inr ⟨hio,N,(1,d0),Ip.fill { F with np:=F.np - 1 } xs,.ref x,vs++dvs,[x],rfl,hN2,by simp,λb hb=>by rw[Fc.mp hb]; exact hxN,ho,?_,?_⟩
 .have e:(Ip.fill { F with np:=F.np - 1 } xs).map (·.2)=xs.map (·.2)++cH F (xs.length+1):=by
   rw[o6];congr 1
   unfold cH;show F.dfl.drop (F.dfl.length - (F.np - 1 - xs.length))=_;congr 2
   omega
  rw[e];refine (dv.mono λb o eb=>?_).append (hd _);obtain⟨g1,g2⟩:=aW.mp eb;have bx:b≠x:=λz=>by rw[z,hx] at g2; cases g2
  exact aW.mpr ⟨λz=>z.elim g1 λy=>bx (Fc.mp y),h12 b bx o g2⟩
 .cases q:Ip.run G n f ((1,d0)::Ip.fill { F with np:=F.np - 1 } xs) with
  | bad=>rw[q] at h; exact h
  | exc c fs outs=>
   rw[q] at h;rintro e H' ⟨g1,g2,C,ws,g3,g4,g5⟩;exact h e H' ⟨hs.trans (s1.trans g1),hs.none (none1 e g2),C,ws,g3,g4,g5⟩
  | ret k d outs=>
   rw[q] at h;cases d <;> try (exact h.elim)
   match outs,h with
   | [],h=>exact h.elim
   | _::_::_,h=>exact h.elim
   | [y],h=>
    intro v H' fp g1 nd hf ow hv;exact⟨hv rfl,h _ _ ⟨hs.trans (s1.trans g1),fp,nd,λb hb=>hs.none (none1 b (hf b hb)),ow⟩⟩
def tZ {c f:Nat}{C:Addr}{F:Fn}{es:aF}{dvs:av}(hC:W.iA c=some C)(hm:bZ G c es.length=some (f,F,.ins c []))(hd:∀S,Dens W S dvs (cH F (es.length+1)))
  (h:bi W G (Ip.run G n) (.make c es) E σ H Q):gj C (gA W G n f F) dvs E (bT W G (Ip.run G n) es E) σ H Q:=by
 obtain⟨N,a,hN,hS,h⟩:=h;obtain⟨_,_,_,_,_,hio,hnp,_⟩:=pp hm;rw[kG,hm] at h;simp only[Ip.R.bind] at h;unfold gj;refine kR hN hS (λxs ex vs H1 hs dv=>?_) (λc fs ee=>?_) λee=>?_
 .rw[ex] at h;intro x dx h1 h2 hne;have hN1:=hN.mono hs;refine tD (d0:=.ins c []) hio (by rw[iZ ex]; exact hnp) (by rw[iZ ex]; exact hd) hN1 hs dv h1 (λb nb o e=>?_) (λb e=>?_) ⟨x,C,dx,[],[],rfl,bX,hC,.nil,rfl⟩ h
  .rw[bK nb,bK λz=>by rw[z,h2] at e; cases e]; exact e
  .by_cases z:b=x
   .rw[z,bX] at e; cases e
   .rw[bK z] at e;by_cases y:b=dx
    .rw[y,bX] at e; cases e
    .rw[bK y] at e; exact e
 .rw[ee] at h; exact h
 .rw[ee] at h; exact h
def vS {c f:Nat}{C:Addr}{F:Fn}{es:aF}{dvs:av}(hC:W.xA c=some C)(hm:bZ G c es.length=some (f,F,.exc c []))(hd:∀S,Dens W S dvs (cH F (es.length+1)))
  (h:bi W G (Ip.run G n) (.make c es) E σ H Q):eh C (gA W G n f F) dvs E (bT W G (Ip.run G n) es E) σ H Q:=by
 obtain⟨N,a,hN,hS,h⟩:=h;obtain⟨_,_,_,_,_,hio,hnp,_,h50⟩:=pp hm;rw[kG,hm] at h;simp only[Ip.R.bind] at h;unfold eh;refine kR hN hS (λxs ex vs H1 hs dv=>?_) (λc fs ee=>?_) λee=>?_
 .rw[ex] at h;refine⟨by rw[dv.length,Fg,iZ ex]; omega,λx h1=>?_⟩;have hN1:=hN.mono hs;refine tD (d0:=.exc c []) hio (by rw[iZ ex]; exact hnp) (by rw[iZ ex]; exact hd) hN1 hs dv h1 (λb nb o e=>?_) (λb e=>?_) ⟨x,C,true,[],[],rfl,bX,⟨hC,rfl⟩,.nil,rfl⟩ h
  .rw[bK nb]; exact e
  .by_cases z:b=x
   .rw[z,bX] at e; cases e
   .rw[bK z] at e; exact e
 .rw[ee] at h; exact h
 .rw[ee] at h; exact h
end
def oq {o:Expr}{f:Str}{env:Env}{w:Sem Value}(h:fH o=true):attributeBase o f env w=w:=by
 unfold attributeBase;unfold fH at h;split
 .rename_i heq;simp at h
 .rfl
def eM {e:Expr}{es:au}(h:noStar (e::es)=true):(∀x p,e≠.Starred x p)/\noStar es=true:=by
 unfold noStar at h ⊢;rw[List.all_cons,tw] at h;refine⟨λx p z=>?_,h.2⟩;rw[z] at h;exact absurd (show false=true from h.1) (by decide)
def dE {e:Expr}{es:au}{env:Env}(h:∀x p,e≠.Starred x p):starEach (e::es) env=(false,PySem.eval e env)::starEach es env:=by
 rcases oh e es env with ⟨x,p,z⟩ | q
 .exact absurd z (h x p)
 .exact q
theorem k7 {pos:Pos}{env:Env}:∀{es:au},noStar es=true->(backTo pos (starEach es env)).any (·.1)=false
 | [],_=>rfl
 | e::es,h=>by
  obtain⟨h1,h2⟩:=eM h;rw[dE h1];show (false||(backTo pos (starEach es env)).any (·.1))=false;rw[k7 h2]; rfl
theorem nY {pos:Pos}{env:Env}:∀{es:au},noStar es=true->(backTo pos (starEach es env)).all (λx=>!x.1)=true
 | [],_=>rfl
 | e::es,h=>by
  obtain⟨h1,h2⟩:=eM h;rw[dE h1];show (!false&&(backTo pos (starEach es env)).all (λx=>!x.1))=true;rw[nY h2]; rfl
def sZ {o:Expr}{m:Str}{ap cp:Pos}{args:au}{env:Env}(hs:fH o=true)(ns:noStar args=true)(hl:args.length<30)(hp:ap.endLine=cp.line) :
  PySem.eval (.Call (.Attribute o m ap) args [] cp) env=(do
   let ov <-PySem.eval o env
   standAt ap.atName
   let (f,first) <-holding [ov] (getMethod ov m (do return (<-importBound o env).getD true))
   callWith cp f first (backTo cp (starEach args env)) (backToKw cp (keywordEach [] env))):=by
 show (do
  let ov <-attributeBase o m env (PySem.eval o env)
  standAt ap.atName
  methodCall o m ap cp env ov (args.length+0) (backTo cp (starEach args env)) (backToKw cp (keywordEach [] env)))=_
 rw[oq hs];have few:methodCallForm (args.length+0) (backTo cp (starEach args env)) (backToKw cp (keywordEach [] env))=true:=by
  unfold methodCallForm;rw[nY ns];show (true&&true&&decide (args.length+0+0<30))=true;rw[FB (by omega)]; rfl
 have hpos:methodCallPos true o env ap cp=pure cp:=by
  unfold methodCallPos;rw[if_pos (by rw[hp]; simp)]
 unfold methodCall;rw[few];unfold calleeOf;rw[hpos];rfl
noncomputable def rm (n:Nat):Nat:=3 * n+1
def FI (W:Wd)(G:Pg)(n:Nat)(P:Program)(w:World)(mg:Str->aA)(base:Heap)(k:Nat)(F:Fn)(a:Addr):Prop:=
 ∃(fd:FuncData) (ps:ar),FnOk P w W.K mg base (dO P w) (rm n) a fd ps (gA W G n k F)/\∀m,m<=F.np->F.np - m<=F.dfl.length->∃(ds:ao) (dvs:av),Binds W.K fd ps ds/\Vals dvs ds/\∀S,Dens W S dvs (cH F m)
noncomputable def eY:ai:=[("len",.builtin "len"),("all",.builtin "all"),("isinstance",.builtin "isinstance"),("list",.type "list"),("tuple",.type "tuple"),("range",.type "range"),("enumerate",.type "enumerate"),("zip",.type "zip"),("reversed",.type "reversed"),("sorted",.builtin "sorted"),("set",.type "set")]
def bA (i:Nat){x:Str×Value}(h:eY[i]? = some x):x∈eY:=FN h
structure GF (W:Wd)(G:Pg)(T:Tb)(n:Nat)(P:Program)(w:World)(mg:Str->aA)(base:Heap):Prop where
 cf:CF W T.fl
 att:W.att=T.att
 blt:∀x v,(x,v)∈eY->mg x=none/\bootBuiltins x=some v
 cst:∀x d,T.cst.lookup x=some d->(x == ("__debug__" : Str))=false/\∃u v,mg x=some u/\RelV v u/\d.flat=true/\∀S,Den W S v d
 fns:∀x k,T.fns.lookup x=some k->(x == ("__debug__" : Str))=false/\∃F a,G.fn k=some F/\mg x=some (.ref a)/\PySem.W.keepIn W.K (.ref a)=true/\FI W G n P w mg base k F a
 cls:∀x c,T.cls.lookup x=some c->(x == ("__debug__" : Str))=false/\∃C,mg x=some (.ref C)/\∀Cl' f F,G.cl c=some Cl'->Cl'.init=some f->G.fn f=some F ->
  ∃a,FI W G n P w mg base f F a/\if Cl'.isx=true then W.xA c=some C/\PySem.W.keepIn W.K (.ref C)=true/\∃tl,XC W.K C (.ref a) tl else W.iA c=some C/\Mk W.K C a
 meth:∀c Cl' m f F,G.cl c=some Cl'->Cl'.meths.lookup m=some f->G.fn f=some F->∀nm,W.att[m]? = some nm->∃C a,W.iA c=some C/\Meth W.K C nm a/\FI W G n P w mg base f F a
 isB:∀x t,Ip.kr.lookup x=some t->mg x=none/\x ≠ "__name__" /\ (x == ("__debug__" : Str))=false/\∃nm,bootBuiltins x=some (.type nm)/\ci W G t (.type nm)
 isC:∀x c,T.cls.lookup x=some c->∃C,mg x=some (.ref C)/\ci W G (.cls c) (.ref C)
structure Gd (W:Wd)(G:Pg)(T:Tb)(n:Nat)(E:St->XK)(sc:Scope)(N:ar)(X:Cx):Prop where
 gf:GF W G T n X.prog X.w X.mg X.base
 K:W.K=X.K
 vis:∀x,bj sc x=true->nn X.env.scope x
 loc:∀x,bF sc x=true->Loc X.env.scope x/\(X.fn x=true\/X.env.scope.names.lookup x=some .local)
 gl:∀x,bt sc x=true->Gl X x
 fr:∀x,(sc.names.lookup x=some .cell\/sc.names.lookup x=some .free)->(X.env.scope.names.lookup x=some .cell\/X.env.scope.names.lookup x=some .free)
 nm:X.N=N
 nd:N.Nodup
 calm:X.calm=true
 pass:bv (dO X.prog X.w) X E
 room:Room (rm n+1) X.A
def CJ {scope:Scope}{env:Env}{x:Str}{k:NameKind}(h:scope.names.lookup x=some k):(relabel scope env).names.lookup x=some k\/(k=.free/\(relabel scope env).names.lookup x=some .cell):=by
 have go:∀(g:Str×NameKind->Str×NameKind),(∀p,g p=p\/(p.2=.free/\g p=(p.1,.cell)))->∀(names:List (Str×NameKind)),names.lookup x=some k->(names.map g).lookup x=some k\/(k=.free/\(names.map g).lookup x=some .cell):=by
  intro g hg names;induction names with
  | nil=>intro h; exact nomatch h
  | cons p r ih=>
   intro h;rw[Fh];obtain⟨n,kn⟩:=p;rw[List.lookup_cons] at h;rcases hg (n,kn) with e | ⟨e1,e2⟩
   .rw[e,List.lookup_cons];cases hx:x == n with
    | true=>rw[hx] at h; exact .inl h
    | false=>rw[hx] at h; exact ih h
   .rw[e2,List.lookup_cons];cases hx:x == n with
    | true=>
     rw[hx] at h;have e1':kn=.free:=e1;exact .inr ⟨by rw[<-Option.some.inj h]; exact e1',rfl⟩
    | false=>rw[hx] at h; exact ih h
 refine go _ (λp=>?_) scope.names h;obtain⟨n,k⟩:=p;by_cases hb:(k == NameKind.free&&env.scope.kind == .function&&env.kindOf n == some .cell)=true
 .refine .inr ⟨?_,if_pos hb⟩;simp only[tw,Fi] at hb;exact hb.1.1
 .exact .inl (if_neg hb)
def Gd.block {W:Wd}{G:Pg}{T:Tb}{n:Nat}{E:St->XK}{sc:Scope}{N:ar}{X:Cx}(g:Gd W G T n E sc N X){scope:Scope}(hb:c9 sc N (aU scope) (bn N scope) scope=true)(cl:ah)(C:Addr)(s:Shared)(H:Hp)(fp:am) :
  Gd W G T n (λ_ _ _ _=>False) scope (aU scope) (bw X (aU scope) scope cl C s H fp λ_ _=>False):=by
 have S:=CompS.of (show compOk sc N (aU scope) (bn N scope) scope=true from hb);have look:∀x k,scope.names.lookup x=some k->(relabel scope X.env).names.lookup x=some k\/(k=.free/\(relabel scope X.env).names.lookup x=some .cell):=λx k=>CJ;refine⟨g.gf,g.K,λx h=>?_,λx h=>?_,λx h=>?_,λx h=>?_,rfl,S.nd,g.calm,passN,g.room⟩
 .unfold bj at h;simp only[FX,Fi] at h;rcases h with (h | h) | h
  .rcases look x _ h with q | ⟨q,_⟩
   .exact .inl q
   .cases q
  .rcases look x _ h with q | ⟨q,_⟩
   .exact .inr (.inl q)
   .cases q
  .rcases look x _ h with q | ⟨_,q⟩
   .exact .inr (.inr q)
   .exact .inr (.inl q)
 .unfold bF at h;simp only[FX,Fi] at h;rcases h with h | h
  .rcases look x _ h with q | ⟨q,_⟩
   .exact⟨.inl q,.inr q⟩
   .cases q
  .rcases look x _ h with q | ⟨q,_⟩
   .exact⟨.inr q,.inl (by show (scope.names.lookup x == some NameKind.cell)=true; rw[h]; decide)⟩
   .cases q
 .unfold bt at h;simp only[Fi] at h;rcases look x _ h with q | ⟨q,_⟩
  .exact q
  .cases q
 .rcases h with h | h
  .rcases look x _ h with q | ⟨q,_⟩
   .exact .inl q
   .cases q
  .rcases look x _ h with q | ⟨_,q⟩
   .exact .inr q
   .exact .inl q
theorem Gd.compOk {W:Wd}{G:Pg}{T:Tb}{n:Nat}{E:St->XK}{sc:Scope}{N:ar}{X:Cx}(g:Gd W G T n E sc N X){scope:Scope}(hb:c9 sc N (aU scope) (bn N scope) scope=true) :
  L2.compOk X.env.scope X.N (aU scope) (bn N scope) scope=true:=by
 rw[g.nm];unfold c9 at hb;unfold L2.compOk;simp only[tw,List.all_eq_true] at hb ⊢;obtain⟨⟨⟨⟨h1,h2⟩,h3⟩,h4⟩,h5⟩:=hb;refine⟨⟨⟨⟨h1,λy hy=>?_⟩,h3⟩,h4⟩,h5⟩;obtain⟨⟨a1,a2⟩,a3⟩:=h2 y hy;refine⟨⟨a1,a2⟩,?_⟩;simp only[FX,bne_iff_ne,ne_eq,Fi] at a3 ⊢;rcases a3 with a3 | a3
 .exact .inl a3
 .exact .inr (g.fr y.1 a3)
section
variable {X:Cx}{W:Wd}{G:Pg}{T:Tb}{n:Nat}{E:St->XK}{σ:St}{H:Hp}{sc:Scope}{N:ar}
def pk (d:D):(∃i,d=.int i)\/∀i,d≠.int i:=by
 cases d with
 | int i=>exact .inl ⟨i,rfl⟩
 | _=>exact .inr λi z=>by cases z
def sV {cl:Nat->aw->Ip.Run}{o:Op}{x y:Ex}{Q:VK}{lo hi:Int->Option Int}(ho:∀u v:KD,bz G o [u,v]=match v.2 with | .int i=>aZ (lo i) (hi i) u.2 | _=>none)(h:bi W G cl (.op o [x,y]) E σ H Q) :
  bi W G cl x E σ H λv H1=>bi W G cl y E σ H1 λw H2=>∃i,w=.int i/\kv W v (lo i) (hi i) H2 Q:=by
 obtain⟨N,a,hN,hS,h⟩:=h;refine gz hN hS (λu eu v H1 fp hs nd hf ow hN1 hS1=>?_) (λc fs ee=>?_) λee=>?_
 .refine gz hN1 hS1 (λu2 eu2 w H2 fq hs2 nd2 hf2 ow2 hN2 hS2=>?_) (λc fs ee e H' r=>?_) λee=>?_
  .simp only[cW,di,bL,eu,eu2,Ip.R.bind,ho] at h;have dv:=ow.later hN hs2 hf λ_ y=>y;have dw:=ow2.later (hN.mono hs) (Sub.refl _) hf2 λ_ y=>.inl y;obtain⟨k2,d2⟩:=u2;rcases pk d2 with ⟨i,rfl⟩ | ni
   .simp only at h;cases q:aZ (lo i) (hi i) u.2 with
    | none=>rw[q] at h; exact h.elim
    | some z=>
     rw[q] at h;exact⟨i,dw.int_inv,N,u.2,z,hN.mono (hs.trans hs2),dv,q,λv H' r=>h v H' (r.trans (hs.trans hs2))⟩
   .cases d2 <;> first | exact h.elim | exact absurd rfl (ni _)
  .simp only[cW,bL,eu,ee,Ip.R.bind] at h;exact h e H' (r.trans hs λ_ y=>.inl y)
  .simp only[cW,bL,eu,ee,Ip.R.bind] at h
 .simp only[cW,bL,ee,Ip.R.bind] at h;exact h
 .simp only[cW,bL,ee,Ip.R.bind] at h
def zx {cl:Nat->aw->Ip.Run}{x y z:Ex}{Q:VK}(h:bi W G cl (.sl2 x y z) E σ H Q) :
  bi W G cl x E σ H λv H1=>bi W G cl y E σ H1 λw H2=>∃i,w=.int i/\bi W G cl z E σ H2 λu H3=>∃j,u=.int j/\kv W v (some i) (some j) H3 Q:=by
 obtain⟨N,a,hN,hS,h⟩:=h;rw[Ip.rM] at h;refine gz hN hS (λu eu v H1 fp hs nd hf ow hN1 hS1=>?_) (λc fs ee=>?_) λee=>?_
 .refine gz hN1 hS1 (λu2 eu2 w H2 fq hs2 nd2 hf2 ow2 hN2 hS2=>?_) (λc fs ee e H' r=>?_) λee=>?_
  .have dw:=ow2.later (hN.mono hs) (Sub.refl _) hf2 λ_ y=>.inl y;obtain⟨k2,d2⟩:=u2;simp only[eu,eu2,Ip.R.bind] at h;rcases pk d2 with ⟨i,rfl⟩ | ni
   .refine⟨i,dw.int_inv,?_⟩;have hs3:=hs.trans hs2;simp only at h;refine gz (hN.mono hs3) (hS.grow hs3) (λu3 eu3 w3 H3 fr hs4 nd4 hf4 ow4 hN4 hS4=>?_) (λc fs ee e H' r=>?_) λee=>?_
    .have dv:=ow.later hN (hs2.trans hs4) hf λ_ y=>y;have dz:=ow4.later (hN.mono hs3) (Sub.refl _) hf4 λ_ y=>y;obtain⟨k3,d3⟩:=u3;simp only[eu3] at h;rcases pk d3 with ⟨j,rfl⟩ | nj
     .simp only[Ip.jJ] at h;cases q:aZ (some i) (some j) u.2 with
      | none=>rw[q] at h; exact h.elim
      | some t=>
       rw[q] at h;exact⟨j,dz.int_inv,N,u.2,t,hN.mono (hs3.trans hs4),dv,q,λv H' r=>h v H' (r.trans (hs3.trans hs4))⟩
     .cases d3 <;> first | exact h.elim | exact absurd rfl (nj _)
    .simp only[ee] at h;exact h e H' (r.of_sub hs3)
    .simp only[ee] at h
   .cases d2 <;> first | exact h.elim | exact absurd rfl (ni _)
  .simp only[eu,ee,Ip.R.bind] at h;exact h e H' (r.trans hs λ_ y=>.inl y)
  .simp only[eu,ee,Ip.R.bind] at h
 .simp only[ee,Ip.R.bind] at h;exact h
 .simp only[ee,Ip.R.bind] at h
theorem Dens.find {S:Hp}{x:V}{d:D}(hx:Den W S x d)(sx:d.scal=true):∀{vs:av} {ds:ax},Dens W S vs ds->ds.all D.scal=true->(vs.findIdx? λz=>L2.eqV z x)=d.find ds
 | _,_,.nil,_=>rfl
 | _,_,.cons h q,hs=>by
  rw[List.all_cons,tw] at hs;have e:=q.find hx sx hs.2;unfold D.find at e ⊢;rw[Gv,Gv,h.eqV hx hs.1 sx,e]
def qL {cl:Nat->aw->Ip.Run}{o:Op}{x y:Ex}{Q:VK}(sel:D->Bool)(Ts:Bool->String)(rs:Bool->V->av->Hp->VK->Prop)(nox:∀a c fs,Ip.eval G cl a y≠.exc c fs)
  (hr:∀u u2 z,bz G o [u,u2]=some z->∃i:Int,z=(99,.int i)/\(∀v H1,Den W H1 v u.2->tyV X.K (Ts (sel u.2)) v H1)/\∀v w H2 (Q':VK),Den W H2 v u.2->Den W H2 w u2.2->Q' (.int i) H2->rs (sel u.2) v [w] H2 Q')
  (h:bi W G cl (.op o [x,y]) E σ H Q):∃b,gv X.K (Ts b) (rs b) (bi W G cl x E) (bT W G cl [y] E) σ H Q:=by
 obtain⟨N,a,hN,hS,h⟩:=h;refine⟨match Ip.eval G cl a x with | .ok u=>sel u.2 | _=>true,?_⟩;unfold gv;refine gz hN hS (λu eu v H1 fp hs nd hf ow hN1 hS1=>?_) (λc fs ee=>?_) λee=>?_
 .cases q:Ip.eval G cl a y with
  | bad=>simp only[cW,bL,eu,q,Ip.R.bind] at h
  | exc c fs=>exact absurd q (nox a c fs)
  | ok u2=>
   simp only[cW,di,bL,eu,q,Ip.R.bind] at h;cases hz:bz G o [u,u2] with
   | none=>rw[hz] at h; exact h.elim
   | some z=>
    rw[hz] at h;obtain⟨i,rfl,h1,h2⟩:=hr u u2 z hz;have dv:=ow.later hN (Sub.refl _) hf λ_ y=>y;simp only[eu];refine⟨h1 v H1 (dv.mono bN),kR (hN.mono hs) (hS.grow hs) (λzs ez vs H2 hs2 dz=>?_) (λc fs ee=>?_) λee=>?_⟩
    .simp only[di,bL,q,Ip.R.bind] at ez;cases ez;obtain⟨w,rfl,dw⟩:=Dens.one dz;exact h2 v w H2 Q ((dv.mono (kq (N:=N) hs2)).mono bN) (dw.mono bN) (h _ _ (Res.trans (hs.trans hs2) Res.int))
    .simp only[di,bL,q,Ip.R.bind] at ee;cases ee
    .simp only[di,bL,q,Ip.R.bind] at ee;cases ee
 .simp only[cW,bL,ee,Ip.R.bind] at h;exact h
 .simp only[cW,bL,ee,Ip.R.bind] at h
noncomputable def pf:D->Bool
 | .lst _=>true
 | _=>false
noncomputable def oU (b:Bool):String:=if b then "list" else "tuple"
def E9 {cl:Nat->aw->Ip.Run}{x y:Ex}{Q:VK}(hK:W.K=X.K)(nox:∀a c fs,Ip.eval G cl a y≠.exc c fs)(h:bi W G cl (.op .index [x,y]) E σ H Q) :
  gv X.K "tuple" (gB W false) (bi W G cl x E) (bT W G cl [y] E) σ H Q\/gv X.K "list" (gB W true) (bi W G cl x E) (bT W G cl [y] E) σ H Q:=by
 obtain⟨b,t⟩:=qL (X:=X) pf oU (gB W) nox (λu u2 z hz=>by
  simp only[Ip.DK,bI] at hz;obtain⟨k,d⟩:=u;have key:∀xs,Ip.cD d u2.2=(if u2.2.pur 60&&D.pures xs then (match u2.2.find xs with | some j=>Ip.fI j | none=>none) else none)->d=(if pf d then .lst xs else .tup xs)->∃i:Int,z=(99,.int i)/\∀v w H2 (Q':VK),Den W H2 v d->Den W H2 w u2.2->Q' (.int i) H2->gB W (pf d) v [w] H2 Q':=λxs e1 e2=>by
   rw[hz] at e1;split at e1
   .rename_i hp;rw[tw] at hp;cases hj:u2.2.find xs with
    | none=>rw[hj] at e1; cases e1
    | some j=>
     rw[hj] at e1;cases e1;exact⟨j,rfl,λv w H2 Q' dv dw q=>⟨w,xs,u2.2,j,rfl,by rw[<-e2]; exact dv,dw,hp.1,hp.2,hj,q⟩⟩
   .cases e1
  rcases Ip.BI hz with ⟨xs,rfl⟩ | ⟨xs,rfl⟩
  .obtain⟨i,e,h2⟩:=key xs (Ip.rJ xs u2.2) rfl;exact⟨i,e,λv H1 dv=>by cases dv with | @tup l ws _ h1 h2=>exact .inr (.inl ⟨rfl,ws,hK ▸ h1⟩),h2⟩
  .obtain⟨i,e,h2⟩:=key xs (Ip.oS xs u2.2) rfl;exact⟨i,e,λv H1 dv=>by cases dv with | @lst l ws _ h1 h2=>exact .inl ⟨rfl,ws,.inl h1⟩,h2⟩) h
 cases b with
 | false=>exact .inl t
 | true=>exact .inr t
def nE {cl:Nat->aw->Ip.Run}{o:Op}{x:Ex}{Q:VK}(h:bi W G cl (.op o [x]) E σ H Q):nK (λvs=>rD W G o vs) (bT W G cl [x] E) σ H Q:=by
 obtain⟨N,a,hN,hS,h⟩:=h;rw[cW] at h;unfold nK;refine kR hN hS (λxs ex vs H1 hs dv=>?_) (λc fs ee=>?_) λee=>?_
 .rw[ex] at h;simp only[Ip.R.bind] at h;cases q:bz G o xs with
  | none=>rw[q] at h; exact h.elim
  | some z=>
   rw[q] at h;exact⟨N,xs,z,hN.mono hs,dv,q,λv H' r=>h v H' (r.trans hs)⟩
 .rw[ee] at h; exact h
 .rw[ee] at h; exact h
def oR (T:Tb)(sc:Scope)(N:ar)(m:Nat)(x:Expr)(p:Pos):cE T sc N m (.Starred x p)=.bad:=by
 cases m <;> rfl
theorem vo {α:Type}{x:Str}{v:α}:∀{l:List (Str×α)},l.lookup x=some v->(x,v)∈l
 | [],h=>nomatch h
 | (y,j)::r,h=>by
  rw[List.lookup_cons] at h;cases e:x == y with
  | true=>
   rw[e] at h;rw[Fi] at e;cases h;rw[e];exact bW
  | false=>rw[e] at h; exact bU _ (vo h)
theorem sK (g:Gd W G T n E sc N X):∀{es:au} {is:ak},(es.mapM λ(e:Expr)=>match e with
  | .Name x _=>if bF sc x then pos? x N else none
  | _=>none)=some is->lL X es (kg is)/\(assignEach es X.env).length=is.length/\(assignEach es X.env).findIdx? (·.1)=none
 | [],is,h=>by
  cases h;exact⟨zH,rfl,rfl⟩
 | e::es,is,h=>by
  rw[List.mapM_cons] at h;cases e with
  | Name x p=>
   by_cases hl:bF sc x=true
   .simp only[hl,if_true] at h;cases q:pos? x N with
    | none=>rw[q] at h; cases h
    | some i=>
     rw[q] at h;cases q2:(es.mapM λ(e:Expr)=>match e with
       | .Name x _=>if bF sc x then pos? x N else none
       | _=>none) with
     | none=>simp[q2] at h
     | some js=>
      simp[q2] at h;subst h;obtain⟨h1,h2,h3⟩:=sK g q2;obtain⟨l1,l2⟩:=g.loc x hl;have hi:X.N[i]? = some x:=by rw[g.nm]; exact pos?_get q
      refine⟨BE (qJ (by rw[g.nm]; exact g.nd) hi l1 l2) h1 rfl,?_,?_⟩
      .show (assignEach es X.env).length+1=js.length+1;rw[h2]
      .show List.findIdx? _ ((false,_)::assignEach es X.env)=none;rw[Gv,h3];rfl
   .simp only[hl] at h;cases h
  | _=>cases h
def ot (g:Gd W G T n E sc N X){tg:Expr}{t:Tg}(h:cU sc N tg=some t):PG X tg (gT X.K t):=by
 cases tg with
 | Name x p=>
  simp only[Ip.uh] at h;by_cases hl:bF sc x=true
  .rw[if_pos hl] at h;obtain⟨i,q,rfl⟩:=dG h;obtain⟨l1,l2⟩:=g.loc x hl;exact qJ (by rw[g.nm]; exact g.nd) (by rw[g.nm]; exact pos?_get q) l1 l2
  .rw[if_neg hl] at h; cases h
 | Tuple es k p=>
  simp only[Ip.DZ] at h;obtain⟨is,q,rfl⟩:=dG h;obtain⟨h1,h2,h3⟩:=sK g q;exact EB g.calm h1 h2 h3
 | _=>cases h
end
section
variable {W:Wd}{G:Pg}{T:Tb}{n:Nat}
structure IH (W:Wd)(G:Pg)(T:Tb)(n m:Nat):Prop where
 e:∀{E:St->XK} {sc:Scope} {N:ar} {X:Cx},Gd W G T n E sc N X->∀x,PE X x (bi W G (Ip.run G n) (cE T sc N m x) E)
 t:∀{E:St->XK} {sc:Scope} {N:ar} {X:Cx},Gd W G T n E sc N X->∀x,PT X x (b7 W G (Ip.run G n) (cT T sc N m x) E)
 c:∀{E:St->XK} {sc:Scope} {N:ar} {X:Cx},Gd W G T n E sc N X->∀a os bs p,PT X (.Compare a os bs p) (b7 W G (Ip.run G n) (cE T sc N m (.Compare a os bs p)) E)
 i:∀{E:St->XK} {sc:Scope} {N:ar} {X:Cx},Gd W G T n E sc N X->∀tg x,((cI T sc N m x).1=.enum\/(cI T sc N m x).1=.zip->∃es k p,tg=.Tuple es k p)->PI X tg x (gq W G (Ip.run G n) (cI T sc N m x).1 (cI T sc N m x).2 E)
 b:∀{E:St->XK} {sc:Scope} {N:ar} {X:Cx},Gd W G T n E sc N X->∀f args p pos,bt sc f=true->PE X (.Call (.Name f p) args [] pos) (bi W G (Ip.run G n) (cB T sc N m f args) E)
variable {m:Nat}{E:St->XK}{sc:Scope}{N:ar}{X:Cx}
def IH.args (ih:IH W G T n m)(g:Gd W G T n E sc N X)(es:au):PA X es (bT W G (Ip.run G n) (es.map (cE T sc N m)) E):=
 ul (λe _=>ih.e g e) λe _ x p h=>by rw[h]; exact oR T sc N m x p
theorem Gd.units (g:Gd W G T n E sc N X):X.A.units+64<cLine:=g.room.units
def ji {tg x:Expr}:PI X tg x (gq W G (Ip.run G n) .seq [.bad] E):=λpins s σ H R I ⟨_,_,_,_,q⟩=>by
 rw[bL,eS] at q;exact q.elim
def ft {x:Expr}:PT X x (b7 W G (Ip.run G n) .bad E):=λpins s σ H R I ⟨_,_,_,_,q⟩=>by
 rw[eS] at q;exact q.elim
def Ap (g:Gd W G T n E sc N X)(x:Str)(p:Pos):PE X (.Name x p) (bi W G (Ip.run G n) (cE T sc N (m+1) (.Name x p)) E):=by
 rw[Ip.uG];by_cases h1:(bj sc x&&Ip.aR x)=true
 .rw[if_pos h1];rw[tw] at h1;unfold pv?;cases q:pos? x N with
  | none=>exact bQ
  | some i=>
   have ok:=h1.2;unfold Ip.aR at ok;simp only[tw,Hx] at ok;exact EZ (nV (by rw[g.nm]; exact pos?_get q) (g.vis x h1.1) ok.1 ok.2)
 .rw[if_neg h1];by_cases h2:bt sc x=true
  .rw[if_pos h2];cases q:T.cst.lookup x with
   | none=>exact bQ
   | some d=>
    obtain⟨hd,u,v,hm,r,hf,hv⟩:=g.gf.cst x d q;exact lN hf hv (sj (g.gl x h2) hm r hd)
  .rw[if_neg h2]; exact bQ
def zI (c:Const)(k:Nat)(p:Pos):PE X (.Constant c k p) (bi W G (Ip.run G n) (cE T sc N (m+1) (.Constant c k p)) E):=by
 cases c with
 | none=>exact lN rfl (λ_=>.non) y3
 | bool b=>exact lN rfl (λ_=>.bl) A5
 | int i=>exact lN rfl (λ_=>.int) B0
 | str s=>exact lN rfl (λ_=>.str) tm
 | _=>exact bQ
def Bt (ih:IH W G T n m)(g:Gd W G T n E sc N X)(a b:Expr)(o:Operator)(p:Pos):PE X (.BinOp a o b p) (bi W G (Ip.run G n) (cE T sc N (m+1) (.BinOp a o b p)) E):=by
 have ha:=ih.e g a;have hb:=ih.e g b;cases o with
 | Add=>exact (lv (B9 g.K) ha hb).mono λσ H Q=>hV λ_ _ _ _ h=>h
 | Sub=>exact (lv DU ha hb).mono λσ H Q=>hV λ_ _ _ _ h=>h
 | Mult=>exact (lv zU ha hb).mono λσ H Q=>hV λ_ _ _ _ h=>h
 | FloorDiv=>exact (lv AY ha hb).mono λσ H Q=>hV λ_ _ _ _ h=>h
 | Mod=>exact (lv CW ha hb).mono λσ H Q=>hV λ_ _ _ _ h=>h
 | Pow=>exact (lv w6 ha hb).mono λσ H Q=>hV λ_ _ _ _ h=>h
 | _=>exact bQ
def o5 (ih:IH W G T n m)(g:Gd W G T n E sc N X)(a:Expr)(o:UnaryOp)(p:Pos):PE X (.UnaryOp o a p) (bi W G (Ip.run G n) (cE T sc N (m+1) (.UnaryOp o a p)) E):=by
 have ha:=ih.e g a;cases o with
 | Not=>exact (Bx ha).mono λσ H Q=>i3 D2
 | USub=>exact (wU Cf ha).mono λσ H Q=>i3 xw
 | _=>exact bQ
def y4 (ih:IH W G T n m)(g:Gd W G T n E sc N X)(o:BoolOp)(es:au)(p:Pos):PE X (.BoolOp o es p) (bi W G (Ip.run G n) (cE T sc N (m+1) (.BoolOp o es p)) E):=by
 match es with
 | []=>exact bQ
 | [a]=>exact Dz (ih.e g a)
 | a::b::es=>
  cases o with
  | And=>exact (yJ (ih.e g a) (ih.e g (.BoolOp .And (b::es) p))).mono λσ H Q=>zN
  | Or=>exact (DO (ih.e g a) (ih.e g (.BoolOp .Or (b::es) p))).mono λσ H Q=>rV
def u8 {o:CmpOp}{b:Expr}(h:cV b=true):behindInMarks o b=false:=by
 cases b <;> first | rfl | cases h
def lg (g:Gd W G T n E sc N X){o:CmpOp}{p:Op}(h:gy o=some p):OpR X (compareOp o) (λx y=>rD W G p [x,y]):=by
 cases o <;> (try cases h)
 .exact oQ g.K g.units
 .exact pV g.K g.units
 .exact oZ
 .exact rS
 .exact rk
 .exact pW
 .exact qY g.K g.units
 .exact Bw g.K g.units
def uv {o:CmpOp}{p:Op}(h:iU o=some p):gy o=some p/\o≠.In/\o≠.NotIn:=by
 cases o <;> (try cases h) <;> exact⟨rfl,by decide,by decide⟩
def tF {b:Expr}(h:isNone b=true):∃k p,b=.Constant .none k p:=by
 cases b <;> try (cases h; done)
 rename_i c k p;cases c <;> first | exact⟨k,p,rfl⟩ | cases h
def wt (ih:IH W G T n m)(g:Gd W G T n E sc N X)(a:Expr)(os:List CmpOp)(bs:au)(p:Pos) :
  PE X (.Compare a os bs p) (bi W G (Ip.run G n) (cE T sc N (m+1) (.Compare a os bs p)) E)/\PT X (.Compare a os bs p) (b7 W G (Ip.run G n) (cE T sc N (m+1) (.Compare a os bs p)) E):=by
 have ha:=ih.e g a;match os,bs with
 | [o],[b]=>
  have hb:=ih.e g b;have rest:∀q,gy o=some q->PE X (.Compare a [o] [b] p) (bi W G (Ip.run G n) (if cV b then .op q [cE T sc N m a,cE T sc N m b] else .bad) E)/\PT X (.Compare a [o] [b] p) (b7 W G (Ip.run G n) (if cV b then .op q [cE T sc N m a,cE T sc N m b] else .bad) E):=λq hq=>by
   by_cases ns:cV b=true
   .rw[if_pos ns];exact⟨(ze (lg g hq) ha hb (u8 ns)).mono λσ H Q=>hV λ_ _ _ _ h=>h,(zw (lg g hq) ha hb (u8 ns)).mono λσ H Q h=>hV (λ_ _ _ _ h=>h) (mP h)⟩
   .rw[if_neg ns]; exact⟨bQ,ft⟩
  cases o with
  | Is=>
   simp only[Ip.oX];by_cases hn:isNone b=true
   .rw[if_pos hn];obtain⟨k,p',rfl⟩:=tF hn;exact⟨(wj (tM ha)).mono λσ H Q=>i3 (r:=λx H Q=>Q (.bl (decide (x=.non))) H) wn,(tX (tM ha)).mono λσ H Q h=>i3 (r:=λx H Q=>Q (.bl (decide (x=.non))) H) wn (mP h)⟩
   .rw[if_neg hn]; exact⟨bQ,ft⟩
  | IsNot=>
   simp only[Ip.oX];by_cases hn:isNone b=true
   .rw[if_pos hn];obtain⟨k,p',rfl⟩:=tF hn;exact⟨(wj (uQ ha)).mono λσ H Q=>i3 (r:=λx H Q=>Q (.bl (!decide (x=.non))) H) vD,(tX (uQ ha)).mono λσ H Q h=>i3 (r:=λx H Q=>Q (.bl (!decide (x=.non))) H) vD (mP h)⟩
   .rw[if_neg hn]; exact⟨bQ,ft⟩
  | Eq=>exact rest _ rfl
  | NotEq=>exact rest _ rfl
  | Lt=>exact rest _ rfl
  | LtE=>exact rest _ rfl
  | Gt=>exact rest _ rfl
  | GtE=>exact rest _ rfl
  | In=>exact rest _ rfl
  | NotIn=>exact rest _ rfl
 | [o,q],[b,c]=>
  have hb:=ih.e g b;have hc:=ih.e g c;simp only[Ip.oX];cases h1:iU o with
  | none=>exact⟨bQ,ft⟩
  | some o'=>
   cases h2:iU q with
   | none=>exact⟨bQ,ft⟩
   | some q'=>
    obtain⟨c1,_,_⟩:=uv h1;obtain⟨c2,n1,n2⟩:=uv h2;have hm:lastMarks [o,q] [b,c]=false:=kE c n1 n2;exact⟨(Ct (lg g c1) (lg g c2) ha hb hc hm).mono λσ H Q=>va,(BZ (lg g c1) (lg g c2) ha hb hc hm).mono λσ H Q h=>va (mP h)⟩
 | [],_=>exact⟨bQ,ft⟩
 | [_],[]=>exact⟨bQ,ft⟩
 | [_],_::_::_=>exact⟨bQ,ft⟩
 | [_,_],[]=>exact⟨bQ,ft⟩
 | [_,_],[_]=>exact⟨bQ,ft⟩
 | [_,_],_::_::_::_=>exact⟨bQ,ft⟩
 | _::_::_::_,_=>exact⟨bQ,ft⟩
end
section
variable {W:Wd}{G:Pg}{T:Tb}{n:Nat}{m:Nat}{E:St->XK}{sc:Scope}{N:ar}{X:Cx}
def CV (ih:IH W G T n m)(g:Gd W G T n E sc N X)(es:au)(p:Pos):PE X (.List es p) (bi W G (Ip.run G n) (cE T sc N (m+1) (.List es p)) E):=by
 simp only[Ip.zR];by_cases h:es.length<=1000
 .rw[if_pos h]; exact pI (by rw[Fg]; exact h) (ih.args g es)
 .rw[if_neg h]; exact bQ
def zu (ih:IH W G T n m)(g:Gd W G T n E sc N X)(es:au)(k:Nat)(p:Pos):PE X (.Tuple es k p) (bi W G (Ip.run G n) (cE T sc N (m+1) (.Tuple es k p)) E):=by
 simp only[Ip.yE];by_cases h:es.length<=1000
 .rw[if_pos h]; exact E7 (by rw[Fg]; exact h) (ih.args g es)
 .rw[if_neg h]; exact bQ
def AA (ih:IH W G T n m)(g:Gd W G T n E sc N X)(o:Expr)(f:Str)(p:Pos):PE X (.Attribute o f p) (bi W G (Ip.run G n) (cE T sc N (m+1) (.Attribute o f p)) E):=by
 simp only[Ip.yW];cases q:pos? f T.att with
 | none=>exact bQ
 | some k=>
  by_cases h:(T.fl.contains k&&fH o)=true
  .simp only[h,if_true];rw[tw] at h;exact DW g.K g.gf.cf (by simpa using h.1) (by rw[g.gf.att]; exact pos?_get q) (ih.e g o) (oq h.2)
  .simp only[h]; exact bQ
def yB {i:Expr}(h:∀a b c p,i≠.Slice a b c p):fU i:=by
 intro o v;cases i <;> first | rfl | exact absurd rfl (h _ _ _ _)
def wN (hK:W.K=X.K):∀x H Q,rD W G .rev [x] H Q->∃a xs,x=.ref a/\SqL X.K H a xs/\∀p,H p=none->Q (.ref p) (upd H p (.lst xs.reverse)):=by
 rintro x H Q ⟨N,xs,z,hN,hd,hz,hq⟩;simp only[Ip.DQ] at hz;obtain⟨v,p,e,rfl,dv,ez⟩:=hd.vs1 (o:=.rev) hz;cases e;obtain⟨ds,e1,e2⟩:=qx ez;rw[e1] at dv;cases dv with | @lst a vs _ h1 h2=>?_
 cases e2;exact⟨a,vs,rfl,by rw[<-hK]; exact .inl (Rd.sub bN h1),λp hp=>hq _ _ (Res.newL hp h2.rev)⟩
def DY (ih:IH W G T n m)(g:Gd W G T n E sc N X)(a i:Expr)(p:Pos):PE X (.Subscript a i p) (bi W G (Ip.run G n) (cE T sc N (m+1) (.Subscript a i p)) E):=by
 have ha:=ih.e g a;cases i with
 | Slice lo hi st q=>
  match lo,hi,st with
  | some l,none,none=>
   simp only[Ip.oG];exact (qA (qK g.K) ha (nQ (ih.e g l)) se).mono λσ H Q h=>sV (lo:=λi=>some i) (hi:=λ_=>none) (λu v=>rfl) h
  | none,some l,none=>
   simp only[Ip.oG];exact (qA (qK g.K) ha se (nQ (ih.e g l))).mono λσ H Q h=>sV (lo:=λ_=>none) (hi:=λi=>some i) (λu v=>rfl) h
  | some l,some h,none=>
   simp only[Ip.oG];exact (qA (qK g.K) ha (nQ (ih.e g l)) (nQ (ih.e g h))).mono λσ H Q h=>zx h
  | none,none,none=>exact bQ
  | none,none,some st=>exact bQ
  | some _,none,some _=>exact bQ
  | none,some _,some _=>exact bQ
  | some _,some _,some _=>exact bQ
 | _=>
  simp only[Ip.oG];exact (Al (rK g.K) ha (ih.e g _) (yB λ_ _ _ _ z=>by cases z)).mono λσ H Q=>hV λ_ _ _ _ h=>h
def qN (e:Expr):(∃a b c,e=.Set a b c)\/∀(env:Env) (x:Value),foldedSetIterable e env x=pure x:=by
 cases e <;> first | exact .inl ⟨_,_,_,rfl⟩ | exact .inr λ_ _=>rfl
def qE {a:au}{b:Nat}{c:Pos}:(cI T sc N m (.Set a b c)).2=[.bad]:=by
 cases m with
 | zero=>rfl
 | succ m=>cases m <;> rfl
structure CompR (W:Wd)(G:Pg)(n:Nat)(E:St->XK)(X:Cx)(scope:Scope)(N:ar)(tg iter elt:Expr)(ifs:au)(t:Tg)(wk:Wk)(it ts:aF)(x:Ex):Prop where
 hS:compOk X.env.scope X.N (aU scope) (bn N scope) scope=true
 hi:PI X tg iter (gq W G (Ip.run G n) wk it E)
 hg:∀cl C s H fp,PG (bw X (aU scope) scope cl C s H fp λ_ _=>False) tg (gT X.K t)
 ht:∀cl C s H fp,PTs (bw X (aU scope) scope cl C s H fp λ_ _=>False) ifs (rp W G (Ip.run G n) ts)
 he:∀cl C s H fp,PE (bw X (aU scope) scope cl C s H fp λ_ _=>False) elt (bi W G (Ip.run G n) x λ_ _ _ _=>False)
 hx:∀i∈cZ t,(bn N scope)[i]? = some none
def uJ {tg:Expr}{t:Tg}{wk:Wk}(h1:cU sc N tg=some t)(h2:dY wk t=true):wk=.enum\/wk=.zip->∃es k p,tg=.Tuple es k p:=by
 intro hw;cases tg with
 | Name x p=>
  simp only[Ip.uh] at h1;by_cases hl:bF sc x=true
  .rw[if_pos hl] at h1;obtain⟨i,_,rfl⟩:=dG h1;rcases hw with rfl | rfl <;> cases h2
  .rw[if_neg hl] at h1; cases h1
 | Tuple es k p=>exact⟨es,k,p,rfl⟩
 | _=>cases h1
def vf (ih:IH W G T n m)(g:Gd W G T n E sc N X){e tg iter:Expr}{ifs:au}{scope:Scope}{t:Tg}(hb:c9 sc N (aU scope) (bn N scope) scope=true)(hl:ifs.length<=1)(ht:cU scope (aU scope) tg=some t)
  (hw:dY (cI T sc N m iter).1 t=true)(hx:(cZ t).all (λi=>(bn N scope)[i]? == some none)=true) :
  CompR W G n E X scope N tg iter e ifs t (cI T sc N m iter).1 (cI T sc N m iter).2 (ifs.map (cT T scope (aU scope) m)) (cE T scope (aU scope) m e):=by
 refine⟨g.compOk hb,ih.i g tg iter (uJ ht hw),λcl C s H fp=>?_,λcl C s H fp=>?_,λcl C s H fp=>ih.e (g.block hb cl C s H fp) e,λi hi=>?_⟩
 .exact ot (g.block hb cl C s H fp) ht
 .match ifs,hl with
  | [],_=>exact xI
  | [c],_=>exact CY (ih.t (g.block hb cl C s H fp) c)
 .have:=eQ hx i hi;simpa using this
def zV (ih:IH W G T n m)(g:Gd W G T n E sc N X)(e:Expr)(gs:List Comprehension)(scope:Scope)(p:Pos):PE X (.ListComp e gs scope p) (bi W G (Ip.run G n) (cE T sc N (m+1) (.ListComp e gs scope p)) E):=by
 match gs with
 | []=>exact bQ
 | ⟨_,_,_,_⟩::_::_=>exact bQ
 | [⟨tg,iter,ifs,as⟩]=>
  simp only[Ip.uC];by_cases h:(c9 sc N (aU scope) (bn N scope) scope&&as == 0&&decide (ifs.length<=1))=true
  rotate_left
  .rw[if_neg h]; exact bQ
  rw[if_pos h];simp only[tw,Fi,Fw] at h;obtain⟨⟨hb,has⟩,hl⟩:=h;subst has;cases ht:cU scope (aU scope) tg with
  | none=>exact bQ
  | some t=>
   by_cases h2:(dY (cI T sc N m iter).1 t&&(cZ t).all (λi=>(bn N scope)[i]? == some none))=true
   rotate_left
   .simp only[h2]; exact bQ
   simp only[h2,if_true];rw[tw] at h2;rcases qN iter with ⟨a,b,c,rfl⟩ | hs
   .rintro pins s σ H Q I ⟨_,_,_,_,q⟩;rw[lh,qE,bL,eS] at q;exact q.elim
   .have cp:=vf (e:=e) ih g hb hl ht h2.1 h2.2;exact (xW g.calm cp.hS cp.hi cp.hg cp.ht cp.he (hs X.env)).mono λσ H Q=>sL g.K cp.hx
def ym (ih:IH W G T n m)(g:Gd W G T n E sc N X)(e:Expr):PT X e (b7 W G (Ip.run G n) (cT T sc N (m+1) e) E):=by
 cases e with
 | BoolOp o es p=>
  match es with
  | []=>exact ft
  | [a]=>
   cases o with
   | And=>exact (xU (ih.t g a)).pt
   | Or=>exact (Ea (ih.t g a)).pt
  | a::b::es=>
   have hb:∀o,PW X (.BoolOp o (b::es) p) (b7 W G (Ip.run G n) (cT T sc N m (.BoolOp o (b::es) p)) E):=λo whole=>ih.t g (.BoolOp o (b::es) p);cases o with
   | And=>exact (DS (ih.t g a) (hb .And)).pt.mono λσ H Q=>Cu
   | Or=>exact (CT (ih.t g a) (hb .Or)).pt.mono λσ H Q=>BV
 | UnaryOp o a p=>
  cases o with
  | Not=>exact (xS (ih.t g a)).mono λσ H Q=>CU
  | _=>exact vy (ih.e g _) λ_=>rfl
 | IfExp c a b p=>exact ft
 | Compare a os bs p=>exact ih.c g a os bs p
 | _=>exact vy (ih.e g _) λ_=>rfl
end
section
variable {W:Wd}{G:Pg}{T:Tb}{n:Nat}{m:Nat}{E:St->XK}{sc:Scope}{N:ar}{X:Cx}
def xE (ih:IH W G T n m)(g:Gd W G T n E sc N X)(f:Str)(args:au)(p pos:Pos)(k:Nat)(hg:bt sc f=true)(hk:T.fns.lookup f=some k)(ns:noStar args=true):PE X (.Call (.Name f p) args [] pos) (bi W G (Ip.run G n) (.call k (args.map (cE T sc N m))) E):=by
 obtain⟨hdb,F,a,hF,hm,kp,fd,ps,fo,bd⟩:=g.gf.fns f k hk;cases q:dA G k args.length with
 | none=>
  rintro pins s σ H Q I ⟨_,_,_,_,h⟩;rw[mX,Fg,q] at h;exact h.elim
 | some F'=>
  obtain⟨e1,hio,h1,h2⟩:=sk q;rw[hF] at e1;cases e1;obtain⟨ds,dvs,hb,hv,hd⟩:=bd args.length h1 h2;have fo':FnOk X.prog X.w X.K X.mg X.base (dO X.prog X.w) (rm n) a fd ps (gA W G n k F):=g.K ▸ fo;have rm1:=g.room.mono (F8 (rm n));have q':dA G k (args.map (cE T sc N m)).length=some F:=by rw[Fg]; exact q
  have hd':∀S,Dens W S dvs (cH F (args.map (cE T sc N m)).length):=by rw[Fg]; exact hd
  match args,ns,q',hd' with
  | [],_,q',hd'=>exact (Dc fo' rm1 (g.gl f hg) hm (g.K ▸ kp) (g.K ▸ hb) hv g.pass hdb).mono λσ H Q h=>mJ (sC (es:=[]) q' hd' h)
  | e::es,ns,q',hd'=>
   obtain⟨s1,s2⟩:=eM ns;exact (zk fo' rm1 (g.gl f hg) hm (g.K ▸ kp) (g.K ▸ hb) hv g.pass (ih.args g (e::es)) hdb (dE s1) (k7 s2)).mono λσ H Q=>sC q' hd'
def u7 (ih:IH W G T n m)(g:Gd W G T n E sc N X)(f:Str)(args:au)(p pos:Pos)(c:Nat)(hg:bt sc f=true)(hk:T.cls.lookup f=some c)(ns:noStar args=true):PE X (.Call (.Name f p) args [] pos) (bi W G (Ip.run G n) (.make c (args.map (cE T sc N m))) E):=by
 obtain⟨hdb,C,hm,hc⟩:=g.gf.cls f c hk;cases q:bZ G c args.length with
 | none=>
  rintro pins s σ H Q I ⟨_,_,_,_,h⟩;rw[kG,Fg,q] at h;exact h.elim
 | some t=>
  obtain⟨fi,F,d⟩:=t;obtain⟨Cl',k1,k2,k3,k4,hio,h1,h2,h50⟩:=pp q;obtain⟨a,⟨fd,ps,fo,bd⟩,hx⟩:=hc Cl' fi F k1 k2 k3;obtain⟨ds,dvs,hb,hv,hd⟩:=bd (args.length+1) h1 h2;have fo':FnOk X.prog X.w X.K X.mg X.base (dO X.prog X.w) (rm n) a fd ps (gA W G n fi F):=g.K ▸ fo;have hd':∀S,Dens W S dvs (cH F ((args.map (cE T sc N m)).length+1)):=by rw[Fg]; exact hd
  by_cases hxx:Cl'.isx=true
  .rw[if_pos hxx] at hx k4;obtain⟨xA,kp,tl,xc⟩:=hx;subst k4;have q':bZ G c (args.map (cE T sc N m)).length=some (fi,F,.exc c []):=by rw[Fg]; exact q
   have xc':XC X.K C (.ref a) tl:=g.K ▸ xc;match args,ns,q',hd' with
   | [],_,q',hd'=>exact (yc xc' (g.K ▸ kp) fo' g.room (g.gl f hg) hm (g.K ▸ hb) hv g.pass hdb).mono λσ H Q h=>mJ (vS (es:=[]) xA q' hd' h)
   | e::es,ns,q',hd'=>
    obtain⟨s1,s2⟩:=eM ns;exact (wG xc' (g.K ▸ kp) fo' g.room (g.gl f hg) hm (g.K ▸ hb) hv g.pass (ih.args g (e::es)) hdb (dE s1) (k7 s2)).mono λσ H Q=>vS xA q' hd'
  .rw[if_neg hxx] at hx k4;obtain⟨iA,mk⟩:=hx;subst k4;have q':bZ G c (args.map (cE T sc N m)).length=some (fi,F,.ins c []):=by rw[Fg]; exact q
   have mk':Mk X.K C a:=g.K ▸ mk;match args,ns,q',hd' with
   | [],_,q',hd'=>exact (y9 mk' fo' g.room (g.gl f hg) hm (g.K ▸ hb) hv g.pass hdb).mono λσ H Q h=>mJ (tZ (es:=[]) iA q' hd' h)
   | e::es,ns,q',hd'=>
    obtain⟨s1,s2⟩:=eM ns;exact (ES mk' fo' g.room (g.gl f hg) hm (g.K ▸ hb) hv g.pass (ih.args g (e::es)) hdb (dE s1) (k7 s2)).mono λσ H Q=>tZ iA q' hd'
def Cs (ih:IH W G T n m)(g:Gd W G T n E sc N X)(o:Expr)(f:Str)(args:au)(ap pos:Pos)(k:Nat)(hk:pos? f T.att=some k)(hs:fH o=true)(ns:noStar args=true)(hl:args.length<30)(hp:ap.endLine=pos.line) :
  PE X (.Call (.Attribute o f ap) args [] pos) (bi W G (Ip.run G n) (.meth k (cE T sc N m o) (args.map (cE T sc N m))) E):=by
 rintro pins s σ H Q I ⟨N0,a,hN,hS,h⟩;have ho:=ih.e g o;have arm:=sZ (m:=f) (env:=X.env) hs ns hl hp;have hatt:W.att[k]? = some f:=by rw[g.gf.att]; exact pos?_get hk
 cases q:Ip.eval G (Ip.run G n) a (cE T sc N m o) with
 | bad=>rw[kC,q] at h; exact h.elim
 | exc c fs=>
  rw[kC,q] at h;refine GZ (pl:=_) (bh (ho pins s σ H (λ_ _=>False) I ⟨N0,a,hN,hS,by rw[q]; exact h⟩) λu s1 ⟨_,_,_,_,z⟩=>z.elim) arm
 | ok x=>
  obtain⟨kx,d⟩:=x;cases q2:cn G k args.length d with
  | none=>
   rw[kC,q] at h;simp only[Ip.R.bind,Fg,q2] at h
  | some t=>
   obtain⟨fi,F⟩:=t;obtain⟨c,fs,Cl',rfl,k1,k2,k3,hio,hfl,h1,h2⟩:=tj q2;obtain⟨C,ad,hC,hme,fd,ps,fo,bd⟩:=g.gf.meth c Cl' k fi F k1 k2 k3 f hatt;obtain⟨ds,dvs,hb,hv,hd⟩:=bd (args.length+1) h1 h2;have fo':FnOk X.prog X.w X.K X.mg X.base (dO X.prog X.w) (rm n) ad fd ps (gA W G n fi F):=g.K ▸ fo;have rm1:=g.room.mono (F8 (rm n));have cls:Cls X.K C:=g.K ▸ (g.gf.cf.ins c C hC).1.cls;have q3:cn G k (args.map (cE T sc N m)).length (.ins c fs)=some (fi,F):=by rw[Fg]; exact q2
   have hd':∀S,Dens W S dvs (cH F ((args.map (cE T sc N m)).length+1)):=by rw[Fg]; exact hd
   have key:=DX (E:=E) (Q:=Q) g.gf.cf.nd hatt hC hd' hN hS q q3 h;match args,ns,arm,key with
   | [],_,arm,key=>exact Co ho cls (g.K ▸ hme) fo' rm1 (g.K ▸ hb) hv g.pass arm pins s σ H Q I (by
     unfold ff at key ⊢;refine evT_mono key λx H1 ⟨a,dx,fs,e1,e2,e3,e4⟩=>⟨a,dx,fs,e1,e2,e3,mJ e4⟩)
   | e::es,ns,arm,key=>
    obtain⟨s1,s2⟩:=eM ns;exact yG ho cls (g.K ▸ hme) fo' rm1 (g.K ▸ hb) hv g.pass (ih.args g (e::es)) (dE s1) (k7 s2) arm pins s σ H Q I key
where
 evT_mono {ir:Ex} {cl:Nat->aw->Ip.Run} {E:St->XK} {σ:St} {H:Hp} {Q Q':VK} (h:bi W G cl ir E σ H Q) (k:∀v H,Q v H->Q' v H):bi W G cl ir E σ H Q':=by
  obtain⟨N,a,hN,hS,h⟩:=h;refine⟨N,a,hN,hS,?_⟩;cases q:Ip.eval G cl a ir with
  | bad=>rw[q] at h; exact h
  | exc c fs=>rw[q] at h; exact h
  | ok x=>rw[q] at h; exact λv H' r=>k v H' (h v H' r)
def pT {x:Str}{p:Pos}{cl:Nat->aw->Ip.Run}:∀m a c fs,Ip.eval G cl a (cE T sc N m (.Name x p))≠.exc c fs:=by
 intro m a c fs;cases m with
 | zero=>rw[Ip.uo,eS]; exact λz=>nomatch z
 | succ m=>
  rw[Ip.uG];split
  .unfold pv?;split
   .rw[ip];split <;> exact λz=>nomatch z
   .rw[eS]; exact λz=>nomatch z
  .split
   .split
    .rw[kY]; exact λz=>nomatch z
    .rw[eS]; exact λz=>nomatch z
   .rw[eS]; exact λz=>nomatch z
def md {e:Expr}{cp:Pos}{env:Env}(ns:noStar [e]=true):((backTo cp (starEach [e] env)).all (λx=>!x.1)&&(backToKw cp (keywordEach [] env)).all (λx=>x.1.isSome)
   && decide ([e].length+([]:List Keyword).length+(if ([]:List Keyword).isEmpty then 0 else 1)<30))=true:=by
 rw[nY ns]; rfl
def yZ {e:Expr}(h:Ip.gF e=true){cl:Nat->aw->Ip.Run}:∀m a c fs,Ip.eval G cl a (cE T sc N m e)≠.exc c fs:=by
 cases e with
 | Name x p=>exact pT
 | Subscript o i p=>
  unfold Ip.gF at h;rw[tw] at h;cases o <;> first | (have h1:=h.1; cases h1; done) | skip
  cases i <;> first | (have h1:=h.2; cases h1; done) | skip
  intro m a c fs;cases m with
  | zero=>rw[Ip.uo,eS]; exact λz=>nomatch z
  | succ m=>
   rename_i x p1 y p2;have n1:=pT (G:=G) (T:=T) (sc:=sc) (N:=N) (cl:=cl) (x:=x) (p:=p1) m a;have n2:=pT (G:=G) (T:=T) (sc:=sc) (N:=N) (cl:=cl) (x:=y) (p:=p2) m a;show Ip.eval G cl a (.op .ix [cE T sc N m (.Name x p1),cE T sc N m (.Name y p2)])≠_;rw[cW,bL,bL,di];cases q1:Ip.eval G cl a (cE T sc N m (.Name x p1)) with
   | bad=>exact λz=>nomatch z
   | exc c' fs'=>exact absurd q1 (n1 c' fs')
   | ok u=>
    cases q2:Ip.eval G cl a (cE T sc N m (.Name y p2)) with
    | bad=>exact λz=>nomatch z
    | exc c' fs'=>exact absurd q2 (n2 c' fs')
    | ok w=>
     simp only[Ip.R.bind];cases bz G .ix [u,w] <;> exact λz=>nomatch z
 | _=>cases h
def CP (ih:IH W G T n m)(g:Gd W G T n E sc N X)(o:Expr)(f:Str)(args:au)(ap pos:Pos)(hi:d7 f args=true)(hs:fH o=true)(ns:noStar args=true)(hp:ap.endLine=pos.line) :
  PE X (.Call (.Attribute o f ap) args [] pos) (bi W G (Ip.run G n) (.op .index ((o::args).map (cE T sc N m))) E):=by
 unfold d7 at hi;simp only[tw,Fi,List.all_eq_true] at hi;obtain⟨⟨rfl,hl⟩,hn⟩:=hi;obtain⟨a,rfl⟩:=Gc.mp hl;have ha:=hn a (Fc.mpr rfl);obtain⟨s1,s2⟩:=eM ns;have ln:(ap.endLine == pos.line)=true:=by rw[hp]; exact beq_self_eq_true _
 exact ((kL (T := "tuple") (id := "tuple.index") PySem.F.plainAttrs_tuple PySem.F.slot_tuple_index PySem.F.type_tuple_index (EA g.K g.units) (ih.e g o) (ih.args g [a]) (oq hs) (md ns) ln (dE s1) rfl).or
  (kL (T := "list") (id := "list.index") Gn PySem.F.slot_list_index PySem.F.type_list_index (zn g.K g.units) (ih.e g o) (ih.args g [a]) (oq hs) (md ns) ln (dE s1) rfl)).mono λσ H Q h=>E9 g.K (yZ ha m) h
def Gd.bl (g:Gd W G T n E sc N X){x:Str}{v:Value}(h:(x,v)∈eY):X.mg x=none/\bootBuiltins x=some v:=g.gf.blt x v h
def Ej (ih:IH W G T n m)(g:Gd W G T n E sc N X)(a:Expr):((∃x p,a=.Starred x p)/\cE T sc N m a=.bad)\/(PA X [a] (bT W G (Ip.run G n) [cE T sc N m a] E)/\starEach [a] X.env=(false,PySem.eval a X.env)::starEach [] X.env):=by
 rcases oh a [] X.env with ⟨x,p,rfl⟩ | h
 .exact .inl ⟨⟨x,p,rfl⟩,oR T sc N m x p⟩
 .exact .inr ⟨ih.args g [a],h⟩
def wm {o:Op}{x:Expr}{es:aF}:PE X x (bi W G (Ip.run G n) (.op o (.bad::es)) E):=λpins s σ H Q I ⟨_,_,_,_,h⟩=>by
 rw[cW,bL,eS] at h;exact h.elim
def ve (g:Gd W G T n E sc N X){b:Expr}{t:Ip.Ty}(q:en T sc b=some t):∃c cv,PE X b (tC c)/\valOf c=some cv/\ci W G t cv:=by
 cases b with
 | Name x bp=>
  simp only[en] at q;by_cases hgx:bt sc x=true
  .rw[if_pos hgx] at q;cases q2:T.cls.lookup x with
   | some c=>
    rw[q2] at q;cases q;obtain⟨hdb,_⟩:=g.gf.cls x c q2;obtain⟨C,hm,hi⟩:=g.gf.isC x c q2;exact⟨.ref C,.ref C,sj (g.gl x hgx) hm rfl hdb,rfl,hi⟩
   | none=>
    rw[q2] at q;obtain⟨hm,hn,hdb,nm,hb,hi⟩:=g.gf.isB x t q;exact⟨.ty nm,.type nm,EU (g.gl x hgx) hm hb rfl hn hdb,rfl,hi⟩
  .rw[if_neg hgx] at q; cases q
 | _=>cases q
theorem uq (g:Gd W G T n E sc N X):∀{es:au} {ts:List Ip.Ty},es.mapM (en T sc)=some ts->∃cs cvs,Isis X W G es ts cs cvs
 | [],ts,h=>by cases h; exact⟨[],[],.nil⟩
 | e::es,ts,h=>by
  rw[List.mapM_cons] at h;cases q:en T sc e with
  | none=>rw[q] at h; cases h
  | some t=>
   rw[q] at h;cases q2:es.mapM (en T sc) with
   | none=>simp[q2] at h
   | some ts'=>
    simp[q2] at h;subst h;obtain⟨cs,cvs,r⟩:=uq g q2;obtain⟨c,cv,he,hc,hi⟩:=ve g q;refine⟨c::cs,cv::cvs,.cons he (λes=>?_) hc hi r⟩;cases e with
    | Name x p=>rfl
    | _=>cases q
def yI (ih:IH W G T n m)(g:Gd W G T n E sc N X)(f:Str)(args:au)(p pos:Pos)(hg:bt sc f=true):PE X (.Call (.Name f p) args [] pos) (bi W G (Ip.run G n) (cB T sc N (m+1) f args) E):=by
 match args with
 | []=>exact bQ
 | _::_::_::_=>exact bQ
 | [a]=>
  simp only[Ip.t8];cases qi:Ip.lZ sc f a with
  | some ob=>
   obtain⟨o,b⟩:=ob;dsimp only;obtain⟨g',p1,p2,rfl,hg',ns,hc⟩:=Ip.z9 qi;obtain⟨s1,_⟩:=eM ns;rcases hc with ⟨rfl,rfl,rfl⟩ | ⟨rfl,rfl,rfl⟩
   .obtain⟨h1,h2⟩:=g.bl (x := "sorted") (v:=.builtin "sorted") (bA 9 rfl);obtain⟨h3,h4⟩:=g.bl (x := "set") (v:=.type "set") (bA 10 rfl);exact (Aq g.calm (ih.e g b) (g.gl _ hg) h1 h2 (g.gl _ hg') h3 h4 rfl (dE s1)).mono λσ H Q h=>i3 (wW g.K) h
   .obtain⟨h1,h2⟩:=g.bl (x := "list") (v:=.type "list") (bA 3 rfl);obtain⟨h3,h4⟩:=g.bl (x := "reversed") (v:=.type "reversed") (bA 8 rfl);exact (DL g.calm (ih.e g b) (g.gl _ hg) h1 h2 (g.gl _ hg') h3 h4 rfl (dE s1)).mono λσ H Q h=>i3 (r:=λx H Q=>∃a xs,x=.ref a/\SqL X.K H a xs/\∀p,H p=none->Q (.ref p) (upd H p (.lst xs.reverse))) (wN g.K) h
  | none=>
  dsimp only;cases q:lE.lookup f with
  | none=>exact bQ
  | some o=>
   rcases Ej ih g a with ⟨_,hb⟩ | ⟨pa,hs⟩
   .simp only[hb]; exact wm
   have hmem:=vo q;simp only[lE,Fl,Fp,or_false,FM] at hmem;rcases hmem with ⟨rfl,rfl⟩ | ⟨rfl,rfl⟩ | ⟨rfl,rfl⟩ | ⟨rfl,rfl⟩
   .obtain⟨h1,h2⟩:=g.bl (x := "len") (v:=.builtin "len") (bA 0 rfl);exact (nz (yh g.K) (g.gl _ hg) h1 h2 pa (by decide) (by decide) hs rfl).mono λσ H Q=>nE
   .obtain⟨h1,h2⟩:=g.bl (x := "list") (v:=.type "list") (bA 3 rfl);exact (tf (D3 g.K) (g.gl _ hg) h1 h2 pa (by decide) (by decide) hs rfl).mono λσ H Q=>nE
   .obtain⟨h1,h2⟩:=g.bl (x := "tuple") (v:=.type "tuple") (bA 4 rfl);exact (tf (xN g.K) (g.gl _ hg) h1 h2 pa (by decide) (by decide) hs rfl).mono λσ H Q=>nE
   .obtain⟨h1,h2⟩:=g.bl (x := "all") (v:=.builtin "all") (bA 1 rfl);exact (nz (DI g.calm) (g.gl _ hg) h1 h2 pa (by decide) (by decide) hs rfl).mono λσ H Q=>nE
 | [a,b]=>
  simp only[Ip.t8];by_cases hf:(f == ("isinstance" : Str))=true
  rotate_left
  .rw[if_neg hf]; exact bQ
  rw[if_pos hf];have hf':f = "isinstance":=by simpa using hf
  subst hf';cases q:dS T sc b with
  | none=>exact bQ
  | some ts=>
   rcases oh a [b] X.env with ⟨x,p',rfl⟩ | hs1
   .simp only[oR]; exact wm
   obtain⟨h1,h2⟩:=g.bl (x := "isinstance") (v:=.builtin "isinstance") (bA 2 rfl);cases b with
   | Name x bp=>
    simp only[dS] at q;obtain⟨t,q',rfl⟩:=dG q;obtain⟨c,cv,he,hc,hi⟩:=ve g q';exact AS g.K g.gf.cf hc hi (g.gl _ hg) h1 h2 (ih.e g a) he hs1 rfl
   | Tuple es k tp=>
    simp only[dS] at q;by_cases hl:es.length<=1000
    .rw[if_pos hl] at q;obtain⟨cs,cvs,hi⟩:=uq g q;exact CA g.K g.gf.cf hl hi (g.gl _ hg) h1 h2 (ih.e g a) hs1 rfl
    .rw[if_neg hl] at q; cases q
   | _=>simp[dS,en] at q
def As (ih:IH W G T n m)(g:Gd W G T n E sc N X)(tg x:Expr)(ht:(cI T sc N (m+1) x).1=.enum\/(cI T sc N (m+1) x).1=.zip->∃es k p,tg=.Tuple es k p):PI X tg x (gq W G (Ip.run G n) (cI T sc N (m+1) x).1 (cI T sc N (m+1) x).2 E):=by
 have gen:∀y,PI X tg y (gq W G (Ip.run G n) .seq [cE T sc N m y] E):=λy=>DJ g.K (ih.e g y);cases x with
 | Call f args kws q=>
  cases f with
  | Name f p=>
   cases kws with
   | cons _ _=>exact gen _
   | nil=>
    simp only[Ip.AE] at ht ⊢;by_cases h1:(bt sc f&&f == ("range" : Str)&&noStar args)=true
    .rw[if_pos h1];simp only[tw,Fi] at h1;obtain⟨⟨hg,rfl⟩,ns⟩:=h1;have hm:=(g.bl (x := "range") (v:=.type "range") (bA 5 rfl)).1;match args,ns with
     | [a],ns=>
      obtain⟨s1,_⟩:=eM ns;exact xB (g.gl _ hg) hm (ih.args g [a]) (dE s1)
     | [],_=>exact ji
     | _::_::_,_=>exact ji
    rw[if_neg h1] at ht ⊢;by_cases h2:(bt sc f&&f == ("enumerate" : Str)&&noStar args)=true
    .rw[if_pos h2] at ht ⊢;simp only[tw,Fi] at h2;obtain⟨⟨hg,rfl⟩,ns⟩:=h2;obtain⟨hm,hv⟩:=g.bl (x := "enumerate") (v:=.type "enumerate") (bA 6 rfl);match args,ns,ht with
     | [a],ns,ht=>
      obtain⟨s1,_⟩:=eM ns;obtain⟨es,k,p',rfl⟩:=ht (.inl rfl);exact ET g.K (g.gl _ hg) hm hv (ih.args g [a]) (dE s1)
     | [],_,_=>exact ji
     | _::_::_,_,_=>exact ji
    rw[if_neg h2] at ht ⊢;by_cases h3:(bt sc f&&f == ("zip" : Str)&&noStar args)=true
    .rw[if_pos h3] at ht ⊢;simp only[tw,Fi] at h3;obtain⟨⟨hg,rfl⟩,ns⟩:=h3;obtain⟨hm,hv⟩:=g.bl (x := "zip") (v:=.type "zip") (bA 7 rfl);match args,ns,ht with
     | [a,b],ns,ht=>
      obtain⟨s1,s2⟩:=eM ns;obtain⟨s3,_⟩:=eM s2;obtain⟨es,k,p',rfl⟩:=ht (.inr rfl);exact Ci g.K (g.gl _ hg) hm hv (ih.args g [a,b]) (by rw[dE s1,dE s3]; rfl) (dE s3)
     | [],_,_=>exact ji
     | [_],_,_=>exact ji
     | _::_::_::_,_,_=>exact ji
    rw[if_neg h3] at ht ⊢;exact gen _
  | _=>exact gen _
 | _=>exact gen _
def zl (ih:IH W G T n m)(g:Gd W G T n E sc N X)(f:Expr)(args:au)(kws:List Keyword)(p:Pos):PE X (.Call f args kws p) (bi W G (Ip.run G n) (cE T sc N (m+1) (.Call f args kws p)) E):=by
 cases kws with
 | cons _ _=>exact bQ
 | nil=>
  cases f with
  | Name f q=>
   simp only[Ip.tV];by_cases hg:bt sc f=true
   rotate_left
   .rw[if_neg hg]; exact bQ
   rw[if_pos hg];cases h1:T.fns.lookup f with
   | some k=>
    by_cases ns:noStar args=true
    .simp only[ns,if_true]; exact xE ih g f args q p k hg h1 ns
    .simp only[ns]; exact bQ
   | none=>
    cases h2:T.cls.lookup f with
    | some c=>
     by_cases ns:noStar args=true
     .simp only[ns,if_true]; exact u7 ih g f args q p c hg h2 ns
     .simp only[ns]; exact bQ
    | none=>exact ih.b g f args q p hg
  | Attribute o f ap=>
   simp only[Ip.tV];cases h1:pos? f T.att with
   | none=>
    by_cases h:(d7 f args&&fH o&&noStar args&&ap.endLine == p.line)=true
    .simp only[h,if_true];simp only[tw,Fi] at h;obtain⟨⟨⟨a0,a1⟩,a2⟩,a4⟩:=h;exact CP ih g o f args ap p a0 a1 a2 a4
    .simp only[h]; exact bQ
   | some k=>
    by_cases h:(fH o&&noStar args&&decide (args.length<30)&&ap.endLine == p.line)=true
    .simp only[h,if_true];simp only[tw,Fw,Fi] at h;obtain⟨⟨⟨a1,a2⟩,a3⟩,a4⟩:=h;exact Cs ih g o f args ap p k h1 a1 a2 a3 a4
    .simp only[h]; exact bQ
  | _=>exact bQ
def CK (ih:IH W G T n m)(g:Gd W G T n E sc N X)(e:Expr):PE X e (bi W G (Ip.run G n) (cE T sc N (m+1) e) E):=by
 cases e with
 | Name x p=>exact Ap g x p
 | Constant c k p=>exact zI c k p
 | BinOp a o b p=>exact Bt ih g a b o p
 | UnaryOp o a p=>exact o5 ih g a o p
 | BoolOp o es p=>exact y4 ih g o es p
 | Compare a os bs p=>exact (wt ih g a os bs p).1
 | List es p=>exact CV ih g es p
 | Tuple es k p=>exact zu ih g es k p
 | Subscript a i p=>exact DY ih g a i p
 | Attribute o f p=>exact AA ih g o f p
 | ListComp e gs scope p=>exact zV ih g e gs scope p
 | Call f args kws p=>exact zl ih g f args kws p
 | _=>exact bQ
theorem eU:∀m,IH W G T n m
 | 0=>by
  refine⟨λg x=>?_,λg x=>?_,λg a os bs p=>?_,λg tg x _=>?_,λg f args p pos hg=>?_⟩
  .exact bQ
  .exact ft
  .exact ft
  .exact ji
  .exact bQ
 | m+1=>by
  have ih:=eU m;exact⟨λg x=>CK ih g x,λg x=>ym ih g x,λg a os bs p=>(wt ih g a os bs p).2,λg tg x ht=>As ih g tg x ht,λg f args p pos hg=>yI ih g f args p pos hg⟩
end
section
variable {G:Pg}{cl:Nat->aw->Ip.Run}
mutual
theorem eZ {a b:Sl}:∀e:Ex,(∀i∈e.names,a[i]? = b[i]?)->Ip.eval G cl a e=Ip.eval G cl b e
 | .var i,h=>by rw[ip,ip,h i (by simp)]
 | .cst d,_=>by rw[kY,kY]
 | .op o es,h=>by rw[cW,cW,zAG es (by simpa using h)]
 | .and x y,h=>by
  simp only[Ex.names,FD] at h;rw[mF,mF,eZ x λi hi=>h i (.inl hi),eZ y λi hi=>h i (.inr hi)]
 | .or x y,h=>by
  simp only[Ex.names,FD] at h;rw[lW,lW,eZ x λi hi=>h i (.inl hi),eZ y λi hi=>h i (.inr hi)]
 | .ite c x y,h=>by
  simp only[Ex.names,FD] at h;rw[Ip.uV,Ip.uV,eZ c λi hi=>h i (.inl hi),eZ x λi hi=>h i (.inr (.inl hi)),eZ y λi hi=>h i (.inr (.inr hi))]
 | .chain o p x y z,h=>by
  simp only[Ex.names,FD] at h;rw[Ip.p9,Ip.p9,eZ x λi hi=>h i (.inl hi),eZ y λi hi=>h i (.inr (.inl hi)),eZ z λi hi=>h i (.inr (.inr hi))]
 | .sl2 x y z,h=>by
  simp only[Ex.names,FD] at h;rw[Ip.rM,Ip.rM,eZ x λi hi=>h i (.inl hi),eZ y λi hi=>h i (.inr (.inl hi)),eZ z λi hi=>h i (.inr (.inr hi))]
 | .comp caps tg wk it t e,h=>by
  simp only[Ex.names,FD] at h;have hc:caps.map (cQ a)=caps.map (cQ b):=HN λo ho=>by
   cases o with
   | none=>rfl
   | some i=>
    show (a[i]?).join=(b[i]?).join;rw[h i (.inl (Gr.mpr ⟨some i,ho,rfl⟩))]
  rw[lh,lh,zAG it λi hi=>h i (.inr hi),hc]
 | .call f es,h=>by rw[mX,mX,zAG es (by simpa using h)]
 | .make f es,h=>by rw[kG,kG,zAG es (by simpa using h)]
 | .meth m o es,h=>by
  simp only[Ex.names,FD] at h;rw[kC,kC,eZ o λi hi=>h i (.inl hi),zAG es λi hi=>h i (.inr hi)]
 | .bad,_=>by rw[eS,eS]
theorem zAG {a b:Sl}:∀es:aF,(∀i∈Ex.namess es,a[i]? = b[i]?)->evals G cl a es=evals G cl b es
 | [],_=>by rw[di,di]
 | e::es,h=>by
  simp only[Ex.namess,FD] at h;rw[bL,bL,eZ e λi hi=>h i (.inl hi),zAG es λi hi=>h i (.inr hi)]
end
end
noncomputable def mask (ns:ak)(a:Sl):Sl:=a.mapIdx λi o=>if i∈ns then o else none
def nG {ns:ak}{a:Sl}{i:Nat}(h:i∈ns):a[i]? = (mask ns a)[i]?:=by
 unfold mask;rw[GI];cases a[i]? with
 | none=>rfl
 | some o=>simp[h]
def oF {ns:ak}{a:Sl}{i:Nat}{d:D}(h:(mask ns a)[i]? = some (some d)):i∈ns/\a[i]? = some (some d):=by
 unfold mask at h;rw[GI] at h;cases q:a[i]? with
 | none=>rw[q] at h; cases h
 | some o=>
  rw[q] at h;by_cases hi:i∈ns
  .simp[hi] at h; exact⟨hi,by rw[h]⟩
  .simp[hi] at h
def mf {A:Fr}{i:Nat}{d:D}(h:A.sl[i]? = some (some d)):∃k,A[i]? = some (some (k,d)):=by
 unfold Fr.sl at h;rw[Fv] at h;obtain⟨o,h1,h2⟩:=dG h;obtain⟨x,h3,h4⟩:=dG h2;obtain⟨k,d'⟩:=x;cases h4;exact⟨k,by rw[h1,h3]⟩
def dU (W:Wd)(S S':Hp):Prop:=∀a vs,SqT W.K S a vs->SqT W.K S' a vs
mutual
theorem Den.hide {W:Wd}{S S':Hp}(h:dU W S S'):∀{v d},d.flat=true->Den W S v d->Den W S' v d
 | _,_,_,.non=>.non
 | _,_,_,.bl=>.bl
 | _,_,_,.int=>.int
 | _,_,_,.str=>.str
 | _,_,hf,.tup e q=>.tup (h _ _ e) (q.hide h (by rw[D.flat] at hf; exact hf))
 | _,_,hf,.lst _ _=>by simp at hf
 | _,_,hf,.ins _ _ _=>by simp at hf
 | _,_,hf,.exc _ _ _=>by simp at hf
theorem Dens.hide {W:Wd}{S S':Hp}(h:dU W S S'):∀{v d},D.flats d=true->Dens W S v d->Dens W S' v d
 | _,_,_,.nil=>.nil
 | _,_,hf,.cons e q=>by
  rw[D.flats,tw] at hf;exact .cons (e.hide h hf.1) (q.hide h hf.2)
end
theorem DenF.hide {W:Wd}{S S':Hp}(h:dU W S S'):∀{vs ds},(ds.all λp=>p.2.flat)=true->DenF W S vs ds->DenF W S' vs ds
 | _,_,_,.nil=>.nil
 | _,_,hf,.cons e d q=>by
  rw[List.all_cons,tw] at hf;exact .cons e (d.hide h hf.1) (q.hide h hf.2)
theorem Own.hide {W:Wd}{S S' H:Hp}(h:dU W S S'):∀{k v d fp},D.fb k d=true->Own W S H k v d fp->Own W S' H k v d fp
 | 0,_,_,_,hf,⟨e,o⟩=>⟨e,o.hide h (by rw[D.fb] at hf; exact hf)⟩
 | k+1,_,.lst ds,_,hf,⟨a,vs,fq,e1,e2,e3,e4⟩=>⟨a,vs,fq,e1,e2,e3.re (b:=D.fb k) (λ_ _ _ hb o=>Own.hide h hb o) hf,e4⟩
 | k+1,_,.tup ds,_,hf,⟨a,vs,e1,e2,e3⟩=>⟨a,vs,e1,h _ _ e2,e3.re (b:=D.fb k) (λ_ _ _ hb o=>Own.hide h hb o) hf⟩
 | k+1,_,.ins c ds,_,hf,⟨a,C,dx,fs,fq,e1,e2,e5,e3,e4⟩=>⟨a,C,dx,fs,fq,e1,e2,e5,e3.re (b:=D.fb k) (λ_ _ _ hb o=>Own.hide h hb o) hf,e4⟩
 | k+1,_,.exc c ds,_,hf,_=>by cases hf
 | _+1,_,.non,_,_,⟨e,o⟩=>⟨e,o.hide h rfl⟩
 | _+1,_,.bl _,_,_,⟨e,o⟩=>⟨e,o.hide h rfl⟩
 | _+1,_,.int _,_,_,⟨e,o⟩=>⟨e,o.hide h rfl⟩
 | _+1,_,.str _,_,_,⟨e,o⟩=>⟨e,o.hide h rfl⟩
theorem Own.noTup {W:Wd}{S H:Hp}:∀{k v d fp},Own W S H k v d fp->∀a∈fp,∀vs,¬Rd H a (.tup vs)
 | 0,_,_,_,h,a,z=>by rw[h.1] at z; simp at z
 | k+1,_,.lst ds,_,⟨a,vs,fq,e1,e2,e3,e4⟩,b,z=>by
  rw[e4] at z;rcases cu z with q | q
  .intro ws r;rw[q] at r;rcases r with r | ⟨o,r⟩ <;> rw[e2] at r <;> cases r
  .exact e3.mem (λ_ _ _ y=>Own.noTup y) b q
 | k+1,_,.tup ds,_,⟨a,vs,e1,e2,e3⟩,b,z=>e3.mem (λ_ _ _ y=>Own.noTup y) b z
 | k+1,_,.ins c ds,_,⟨a,C,dx,fs,fq,e1,e2,e5,e3,e4⟩,b,z=>by
  rw[e4] at z;rcases cu z with q | q
  .intro ws r;rw[q] at r;rcases r with r | ⟨o,r⟩ <;> rw[e2] at r <;> cases r
  .exact e3.mem (λ_ _ _ y=>Own.noTup y) b q
 | k+1,_,.exc c ds,_,⟨a,C,dx,fs,fq,e1,e2,e5,e3,e4⟩,b,z=>by
  rw[e4] at z;rcases cu z with q | q
  .intro ws r;rw[q] at r;rcases r with r | ⟨o,r⟩ <;> rw[e2] at r <;> cases r
  .exact e3.mem (λ_ _ _ y=>Own.noTup y) b q
 | _+1,_,.non,_,h,a,z=>by rw[h.1] at z; simp at z
 | _+1,_,.bl _,_,h,a,z=>by rw[h.1] at z; simp at z
 | _+1,_,.int _,_,h,a,z=>by rw[h.1] at z; simp at z
 | _+1,_,.str _,_,h,a,z=>by rw[h.1] at z; simp at z
def aQ (N:Addr->Prop)(F:Nat->am):Addr->Prop:=λb=>N b\/∃j,b∈F j
structure FrF (W:Wd)(E0:Hp)(N:Addr->Prop)(pin:List (Nat×V))(A:Fr)(σ:St)(H:Hp)(F:Nat->am):Prop where
 sub:Sub E0 H
 nok:NOk N H
 len:σ.length=A.length
 pn:∀p∈pin,σ[p.1]? = some (some p.2)
 nd:∀i,(F i).Nodup
 dj:∀i j b,b∈F i->b∈F j->i=j
 fr:∀i b,b∈F i->E0 b=none/\¬N b
 rel:∀(i:Nat) (x:KD),A[i]? = some (some x)->∃v,σ[i]? = some (some v)/\Own W (hid (aQ N F) H) H x.1 v x.2 (F i)
 em:∀(i:Nat),(∀x,A[i]?≠some (some x))->F i=[]
theorem FrF.dom {W:Wd}{E0:Hp}{N:Addr->Prop}{pin:List (Nat×V)}{A:Fr}{σ:St}{H:Hp}{F:Nat->am}(f:FrF W E0 N pin A σ H F){i:Nat}{b:Addr}(h:b∈F i):H b≠none:=by
 by_cases q:∃x,A[i]? = some (some x)
 .obtain⟨x,e⟩:=q;obtain⟨v,_,o⟩:=f.rel i x e;exact o.dom b h
 .rw[f.em i λx z=>q ⟨x,z⟩] at h; simp at h
theorem FrF.noTup {W:Wd}{E0:Hp}{N:Addr->Prop}{pin:List (Nat×V)}{A:Fr}{σ:St}{H:Hp}{F:Nat->am}(f:FrF W E0 N pin A σ H F){i:Nat}{b:Addr}(h:b∈F i)(vs:av):¬Rd H b (.tup vs):=by
 by_cases q:∃x,A[i]? = some (some x)
 .obtain⟨x,e⟩:=q;obtain⟨v,_,o⟩:=f.rel i x e;exact o.noTup b h vs
 .rw[f.em i λx z=>q ⟨x,z⟩] at h; simp at h
def FrF.grow {W:Wd}{E0:Hp}{N:Addr->Prop}{pin:List (Nat×V)}{A:Fr}{σ:St}{H H':Hp}{F:Nat->am}(f:FrF W E0 N pin A σ H F)(hs:Sub H H'){fp:am}(hf:∀b∈fp,H b=none/\H' b≠none):FrF W E0 (λb=>N b\/b∈fp) pin A σ H' F where
 sub:=f.sub.trans hs
 nok:=λb z=>z.elim (f.nok.mono hs b) λy=>(hf b y).2
 len:=f.len
 pn:=f.pn
 nd:=f.nd
 dj:=f.dj
 fr:=λi b h=>⟨(f.fr i b h).1,λz=>z.elim (f.fr i b h).2 λy=>f.dom h (hf b y).1⟩
 rel:=λi x e=>by
  obtain⟨v,h1,h2⟩:=f.rel i x e;refine⟨v,h1,h2.mono (gg hs λb z=>?_) λb _ o e=>hs b o e⟩;rcases z with (z | z) | z
  .exact .inl (.inl z)
  .exact .inr (hf b z).1
  .exact .inl (.inr z)
 em:=f.em
def AH {A:Fr}{i j:Nat}:(frz1 A j)[i]? = if i=j then (A[i]?).map (Option.map λx=>(0,x.2)) else A[i]?:=by
 unfold frz1;cases q:A[j]? with
 | none=>
  by_cases z:i=j
  .subst z; simp[q]
  .simp[z]
 | some o=>
  cases o with
  | none=>
   by_cases z:i=j
   .subst z; simp[q]
   .simp[z]
  | some x=>
   obtain⟨k,d⟩:=x;have hl:j<A.length:=(eO q).1;by_cases z:i=j
   .subst z;simp[q,Fj hl]
   .simp only[if_neg z];exact Ff λy=>z y.symm
theorem nM {i:Nat}:∀{ns:ak} {A:Fr},(frz ns A)[i]? = if i∈ns then (A[i]?).map (Option.map λx=>(0,x.2)) else A[i]?
 | [],A=>by simp[frz]
 | n::ns,A=>by
  show (frz ns (frz1 A n))[i]? = _;rw[nM,AH];by_cases h1:i=n
  .subst h1;by_cases h2:i∈ns
   .simp[h2,Function.comp_def]
   .simp[h2]
  .by_cases h2:i∈ns
   .simp[h1,h2]
   .simp[h1,h2]
theorem uW:∀{ns:ak} {A:Fr},(frz ns A).length=A.length
 | [],A=>rfl
 | n::ns,A=>by
  show (frz ns (frz1 A n)).length=_;rw[uW];unfold frz1;split
  .exact Fu
  .rfl
section
variable {W:Wd}{E0:Hp}{N:Addr->Prop}{pin:List (Nat×V)}{A:Fr}{σ:St}{H:Hp}{F:Nat->am}
noncomputable def bC (ns:ak)(F:Nat->am):Nat->am:=λj=>if j∈ns then [] else F j
def fk {ns:ak}{j:Nat}{b:Addr}(h:b∈bC ns F j):j∉ns/\b∈F j:=by
 unfold bC at h;by_cases z:j∈ns
 .rw[if_pos z] at h; simp at h
 .rw[if_neg z] at h; exact⟨z,h⟩
def kM {ns:ak}{b:Addr}(h:aQ N (bC ns F) b):aQ N F b:=h.imp id λ⟨j,q⟩=>⟨j,(fk q).2⟩
def FrF.see (f:FrF W E0 N pin A σ H F){ns:ak}{i:Nat}(hi:i∈ns){x:KD}(h:A[i]? = some (some x)):∃v,σ[i]? = some (some v)/\Den W (hid (aQ N (bC ns F)) H) v x.2:=by
 obtain⟨v,h1,o⟩:=f.rel i x h;refine⟨v,h1,o.den (λb u e=>?_) λb hb u e=>aW.mpr ⟨λz=>?_,e⟩⟩
 .obtain⟨g1,g2⟩:=aW.mp e;exact aW.mpr ⟨λz=>g1 (kM z),g2⟩
 .rcases z with z | ⟨j,z⟩
  .exact (f.fr i b hb).2 z
  .obtain⟨z1,z2⟩:=fk z;exact z1 (f.dj i j b hb z2 ▸ hi)
theorem FrF.frz (f:FrF W E0 N pin A σ H F)(ns:ak):FrF W E0 N pin (frz ns A) σ H (bC ns F) where
 sub:=f.sub
 nok:=f.nok
 len:=by rw[uW]; exact f.len
 pn:=f.pn
 nd:=λi=>by
  unfold bC;split
  .exact .nil
  .exact f.nd i
 dj:=λi j b h1 h2=>f.dj i j b (fk h1).2 (fk h2).2
 fr:=λi b h=>f.fr i b (fk h).2
 rel:=λi x e=>by
  rw[nM] at e;by_cases hi:i∈ns
  .rw[if_pos hi] at e;obtain⟨o,e1,e2⟩:=dG e;obtain⟨y,e3,e4⟩:=dG e2;rw[e3] at e1;subst e4;obtain⟨v,h1,h2⟩:=f.see hi e1;exact⟨v,h1,by unfold bC; rw[if_pos hi]; exact⟨rfl,h2⟩⟩
  .rw[if_neg hi] at e;obtain⟨v,h1,o⟩:=f.rel i x e;refine⟨v,h1,?_⟩;have:bC ns F i=F i:=by unfold bC; rw[if_neg hi]
   rw[this];exact o.mono (λb u e=>aW.mpr ⟨λz=>(aW.mp e).1 (kM z),(aW.mp e).2⟩) λ_ _ _ e=>e
 em:=λi h=>by
  unfold bC;by_cases hi:i∈ns
  .rw[if_pos hi]
  .rw[if_neg hi];exact f.em i λx z=>h x (by rw[nM,if_neg hi]; exact z)
def FrV (W:Wd)(E0:Hp)(N:Addr->Prop)(pin:List (Nat×V))(A:Fr)(σ:St)(H:Hp)(x:KD)(v:V):Prop:=
 ∃(fp:am) (F:Nat->am),FrF W E0 (λb=>N b\/b∈fp) pin A σ H F/\fp.Nodup/\(∀b∈fp,E0 b=none/\¬N b)/\Own W (hid (aQ (λb=>N b\/b∈fp) F) H) H x.1 v x.2 fp
def FrX (W:Wd)(E0:Hp)(N:Addr->Prop)(pin:List (Nat×V))(A:Fr)(σ:St)(H:Hp)(c:Nat)(fs:List aJ)(e:Addr):Prop:=
 ∃(F:Nat->am),FrF W E0 N pin A σ H F/\(E0 e=none/\¬aQ N F e)/\∃C vs,H e=some (.exc C false vs)/\W.xA c=some C/\DenF W (hid (aQ N F) H) vs fs
def tW (f:FrF W E0 N pin A σ H F){H':Hp}(hs:Sub H H'){M:Addr->Prop}(hM:∀b,aQ N F b->M b\/∃j,b∈F j){fp:am}:dU W (hid (λb=>M b\/b∈fp) H') (hid (aQ (λb=>N b\/b∈fp) F) H'):=by
 intro a vs h;rcases h with h | h
 .refine .inl ?_;have noF:∀j,a∉F j:=λj z=>by
   have h':Rd H' a (.tup vs):=Rd.sub bN h;cases q:H a with
   | none=>exact f.dom z q
   | some o=>
    have e:=hs a o q;refine f.noTup z vs ?_;rcases h' with h' | ⟨u,h'⟩
    .rw[e] at h'; cases h'; exact .inl q
    .rw[e] at h'; cases h'; exact .inr ⟨u,q⟩
  have vis:∀o,hid (λb=>M b\/b∈fp) H' a=some o->hid (aQ (λb=>N b\/b∈fp) F) H' a=some o:=λo e=>by
   obtain⟨g1,g2⟩:=aW.mp e;refine aW.mpr ⟨λz=>?_,g2⟩;rcases z with (z | z) | ⟨j,z⟩
   .rcases hM a (.inl z) with y | ⟨j,y⟩
    .exact g1 (.inl y)
    .exact noF j y
   .exact g1 (.inr z)
   .exact noF j z
  rcases h with h | ⟨u,h⟩
  .exact .inl (vis _ h)
  .exact .inr ⟨u,vis _ h⟩
 .exact .inr h
def lH (A:Fr):de A=frz (List.range A.length) A:=by
 apply GH;intro i;rw[nM];unfold de;rw[Fv];by_cases h:i<A.length
 .rw[if_pos (FE.mpr h)]
 .rw[if_neg λz=>h (FE.mp z),FS (by omega)];rfl
def FrF.excIn {ns:ak}{c:Nat}{fs:List aJ}{a:Addr}{H':Hp}(f:FrF W E0 N pin A σ H F)(r:ExcR W H (aQ N (bC ns F)) H' c fs a):FrX W E0 N pin (excA A fs) σ H' c fs a:=by
 obtain⟨hs,ha,C,vs,hc,hx,hd⟩:=r;have nhid:¬aQ N F a:=λz=>z.elim (λy=>f.nok a y ha) λ⟨j,y⟩=>f.dom y ha;have g:=f.grow hs (fp:=[]) λb z=>by simp at z
 have eN:∀b,(N b\/b∈([]:am))↔N b:=λb=>by simp
 have g0:FrF W E0 N pin A σ H' F:=by
  have:(λb=>N b\/b∈([]:am))=N:=funext λb=>propext (eN b);rw[this] at g; exact g
 unfold excA;by_cases hf:(fs.all λp=>p.2.flat)=true
 .rw[if_pos hf];refine⟨F,g0,⟨f.sub.none ha,nhid⟩,C,vs,hc,hx,?_⟩;have ts:=tW (M:=aQ N (bC ns F)) (fp:=[]) f hs (λb z=>z.elim (λy=>.inl (.inl y)) .inr);have e1:(λb=>aQ N (bC ns F) b\/b∈([]:am))=aQ N (bC ns F):=funext λb=>propext (by simp);have e2:(λb=>N b\/b∈([]:am))=N:=funext λb=>propext (eN b);rw[e1,e2] at ts;exact hd.hide ts hf
 .rw[if_neg hf,lH];refine⟨bC (List.range A.length) F,g0.frz _,⟨f.sub.none ha,λz=>nhid (kM z)⟩,C,vs,hc,hx,hd.mono λb u e=>?_⟩;obtain⟨g1,g2⟩:=aW.mp e;refine aW.mpr ⟨λz=>g1 ?_,g2⟩;rcases z with z | ⟨j,z⟩
  .exact .inl z
  .obtain⟨z1,z2⟩:=fk z;exfalso;have:∃x,A[j]? = some (some x):=by
    by_cases y:∃x,A[j]? = some (some x)
    .exact y
    .rw[f.em j λx w=>y ⟨x,w⟩] at z2; simp at z2
   obtain⟨x,hx⟩:=this;exact z1 (FE.mpr (eO hx).1)
theorem jn {G:Pg}{cl:Nat->aw->Ip.Run}{E:St->XK}{Q:VK}{e:Ex}(f:FrF W E0 N pin A σ H F)(h:match Ip.eval G cl A.sl e with
  | .ok x=>∀v H',FrV W E0 N pin (Ip.settle e.names A x) σ H' x v->Q v H'
  | .exc c fs=>∀a H',FrX W E0 N pin (excA A fs) σ H' c fs a->E σ (.ref a) none H'
  | .bad=>False):bi W G cl e E σ H Q:=by
 have f1:=f.frz e.names;have hN:NOk (aQ N (bC e.names F)) H:=λb z=>z.elim (f.nok b) λ⟨j,q⟩=>f1.dom q;refine⟨aQ N (bC e.names F),mask e.names A.sl,hN,λi d hi=>?_,?_⟩
 .obtain⟨h1,h2⟩:=oF hi;obtain⟨k,h3⟩:=mf h2;exact f.see h1 h3
 rw[<-eZ (a:=A.sl) e λi hi=>nG hi];cases q:Ip.eval G cl A.sl e with
 | bad=>rw[q] at h; exact h
 | exc c fs=>
  rw[q] at h;exact λa H' r=>h a H' (f.excIn r)
 | ok x=>
  rw[q] at h;rintro v H' ⟨hs,fp,nd,hf,o⟩;refine h v H' ⟨fp,?_⟩;have hfp:∀b∈fp,H b=none/\H' b≠none:=λb hb=>⟨hf b hb,o.dom b hb⟩
  have fr:∀b∈fp,E0 b=none/\¬N b:=λb hb=>⟨f.sub.none (hf b hb),λz=>f.nok b z (hf b hb)⟩
  unfold Ip.settle;by_cases hb:D.fb x.1 x.2=true
  .rw[if_pos hb];exact⟨F,f.grow hs hfp,nd,fr,o.hide (tW f hs λb z=>z.elim (λy=>.inl (.inl y)) .inr) hb⟩
  .rw[if_neg hb];refine⟨bC e.names F,f1.grow hs hfp,nd,fr,o.mono (λb u e=>?_) λ_ _ _ e=>e⟩;obtain⟨g1,g2⟩:=aW.mp e;refine aW.mpr ⟨λz=>g1 ?_,g2⟩;rcases z with (z | z) | z
   .exact .inl (.inl z)
   .exact .inr z
   .exact .inl (.inr z)
end
end L2
end
section
namespace L2
open PySem PySem.Spec PyProof.Rows
open Ip (D KD Ex Op Pg Fn Sl Fr Wk Tg Tb O SL cK ck cE cF cI cS cT bE eS evals bL di excA hG fm fw kX frz bt bF cq bc nR bj bJ dZ dL bH noStar bo aR outs pc? pos? pos?_get ps? cC setFs cU kr ko iI c7 dF dY)
noncomputable def PostS (W:Wd)(E0:Hp)(N:Addr->Prop)(pin:List (Nat×V))(E:St->XK)(Dn:Ends):O->Prop
 | .nx A=>∀σ H F,FrF W E0 N pin A σ H F->Dn.nx σ H
 | .ret k d A=>∀v σ H,FrV W E0 N pin A σ H (k,d) v->Dn.rt v H
 | .brk A=>∀σ H F,FrF W E0 N pin A σ H F->Dn.bk σ H
 | .cnt A=>∀σ H F,FrF W E0 N pin A σ H F->Dn.ct σ H
 | .exc c fs A=>∀e σ H,FrX W E0 N pin A σ H c fs e->E σ (.ref e) none H
 | .bad=>False
def bO (W:Wd)(G:Pg)(n:Nat)(io:ak)(E:St->XK)(s:Ip.S):TS:=λDn σ H=>∃(E0:Hp) (N:Addr->Prop) (pin:List (Nat×V)) (A:Fr) (F:Nat->am),(∀p∈pin,p.1∈io)/\FrF W E0 N pin A σ H F/\PostS W E0 N pin E Dn (Ip.exec G (Ip.run G n) io A s)
def dQ (W:Wd)(G:Pg)(n:Nat)(io:ak)(E:St->XK)(ss:List Ip.S):TS:=λDn σ H=>∃(E0:Hp) (N:Addr->Prop) (pin:List (Nat×V)) (A:Fr) (F:Nat->am),(∀p∈pin,p.1∈io)/\FrF W E0 N pin A σ H F/\PostS W E0 N pin E Dn (Ip.execs G (Ip.run G n) io A ss)
section
variable {X:Cx}{W:Wd}{G:Pg}{n:Nat}{io:ak}{E:St->XK}{E0:Hp}{N:Addr->Prop}{pin:List (Nat×V)}{A:Fr}{σ:St}{H:Hp}{F:Nat->am}
def cx {st:Stmt}:PS X st (bO W G n io E .bad):=λpins s σ H Dn I ⟨_,_,_,_,_,_,_,h⟩=>by
 rw[Ip.wQ] at h; exact h.elim
def wO:PSs X [] (dQ W G n io E []):=C4.mono λDn σ H ⟨_,_,_,_,_,_,f,h⟩=>by
 rw[Ip.pQ] at h;exact h _ _ _ f
def DM {st:Stmt}{sts:aG}{s:Ip.S}{ss:List Ip.S}(h1:PS X st (bO W G n io E s))(h2:PSs X sts (dQ W G n io E ss)):PSs X (st::sts) (dQ W G n io E (s::ss)):=
 (DE h1 h2).mono λDn σ H ⟨E0,N,pin,A,F,hp,f,h⟩=>by
  refine⟨E0,N,pin,A,F,hp,f,?_⟩;rw[Ip.jC] at h;cases q:Ip.exec G (Ip.run G n) io A s with
  | nx A'=>
   rw[q] at h;exact λσ' H' F' f'=>⟨E0,N,pin,A',F',hp,f',h⟩
  | ret k d A'=>rw[q] at h; exact h
  | brk A'=>rw[q] at h; exact h
  | cnt A'=>rw[q] at h; exact h
  | exc c fs A'=>rw[q] at h; exact h
  | bad=>rw[q] at h; exact h
theorem FrV.set {x:KD}{v:V}{i:Nat}(f:FrV W E0 N pin A σ H x v)(hi:∀p∈pin,p.1≠i)(hl:i<A.length):∃F,FrF W E0 N pin (A.set i (some x)) (σ.set i (some v)) H F:=by
 obtain⟨fp,F,f,nd,fr,o⟩:=f;have hlt:i < σ.length:=by rw[f.len]; exact hl
 refine⟨λj=>if j=i then fp else F j,⟨f.sub,λb z=>f.nok b (.inl z),by rw[Fu,Fu]; exact f.len,λp hp=>by rw[Ff λz=>hi p hp z.symm]; exact f.pn p hp,λj=>?_,λj k b h1 h2=>?_,λj b h=>?_,λj y h=>?_,λj h=>?_⟩⟩
 .by_cases z:j=i
  .rw[if_pos z]; exact nd
  .rw[if_neg z]; exact f.nd j
 .by_cases z:j=i
  .rw[if_pos z] at h1;by_cases y:k=i
   .rw[z,y]
   .rw[if_neg y] at h2;exact absurd (.inr h1) (f.fr k b h2).2
  .rw[if_neg z] at h1;by_cases y:k=i
   .rw[if_pos y] at h2;exact absurd (.inr h2) (f.fr j b h1).2
   .rw[if_neg y] at h2;exact f.dj j k b h1 h2
 .by_cases z:j=i
  .rw[if_pos z] at h; exact fr b h
  .rw[if_neg z] at h;exact⟨(f.fr j b h).1,λy=>(f.fr j b h).2 (.inl y)⟩
 .have sub:Sub (hid (aQ (λb=>N b\/b∈fp) F) H) (hid (aQ N λj=>if j=i then fp else F j) H):=λb u e=>by
   obtain⟨g1,g2⟩:=aW.mp e;refine aW.mpr ⟨λz=>g1 ?_,g2⟩;rcases z with z | ⟨k,z⟩
   .exact .inl (.inl z)
   .by_cases y:k=i
    .simp only[if_pos y] at z; exact .inl (.inr z)
    .simp only[if_neg y] at z; exact .inr ⟨k,z⟩
  by_cases z:j=i
  .subst z;rw[Fj hl] at h;cases h;refine⟨v,Fj hlt,?_⟩;simp only[if_true];exact o.mono sub λ_ _ _ e=>e
  .rw[Ff λy=>z y.symm] at h;obtain⟨w,h1,h2⟩:=f.rel j y h;refine⟨w,by rw[Ff λy=>z y.symm]; exact h1,?_⟩;simp only[if_neg z];exact h2.mono sub λ_ _ _ e=>e
 .by_cases z:j=i
  .subst z;exact absurd (Fj hl) (h x)
  .simp only[if_neg z];exact f.em j λy w=>h y (by rw[Ff λy=>z y.symm]; exact w)
def FrF.weaken {E1:Hp}(f:FrF W E1 N pin A σ H F)(h:Sub E0 E1):FrF W E0 N pin A σ H F:=
 ⟨h.trans f.sub,f.nok,f.len,f.pn,f.nd,f.dj,λi b hb=>⟨h.none (f.fr i b hb).1,(f.fr i b hb).2⟩,f.rel,f.em⟩
def PostS.strong {E1:Hp}{Dn:Ends}{o:O}(h:Sub E0 E1)(p:PostS W E0 N pin E Dn o):PostS W E1 N pin E Dn o:=by
 cases o with
 | nx A=>exact λσ H F f=>p σ H F (f.weaken h)
 | ret k d A=>exact λv σ H ⟨fp,F,f,nd,fr,o⟩=>p v σ H ⟨fp,F,f.weaken h,nd,λb hb=>⟨h.none (fr b hb).1,(fr b hb).2⟩,o⟩
 | brk A=>exact λσ H F f=>p σ H F (f.weaken h)
 | cnt A=>exact λσ H F f=>p σ H F (f.weaken h)
 | exc c fs A=>exact λe σ H ⟨F,f,he,q⟩=>p e σ H ⟨F,f.weaken h,⟨h.none he.1,he.2⟩,q⟩
 | bad=>exact p
def mi {Q:VK}{e:Ex}{Dn:Ends}{k:KD->O}(f:FrF W E0 N pin A σ H F)(h:PostS W E0 N pin E Dn ((Ip.eval G (Ip.run G n) A.sl e).toO A k))
  (ok:∀x,Ip.eval G (Ip.run G n) A.sl e=.ok x->PostS W E0 N pin E Dn (k x)->∀v H',FrV W E0 N pin (Ip.settle e.names A x) σ H' x v->Q v H'):bi W G (Ip.run G n) e E σ H Q:=by
 refine jn f ?_;cases q:Ip.eval G (Ip.run G n) A.sl e with
 | bad=>rw[q] at h; exact h
 | exc c fs=>rw[q] at h; exact λa H' x=>h a σ H' x
 | ok x=>rw[q] at h; exact ok x q h
def p7 {e:Ex}{i:Nat}{Dn:Ends}(h:bO W G n io E (.set i e) Dn σ H):bi W G (Ip.run G n) e E σ H λv H1=>Dn.nx (σ.set i (some v)) H1:=by
 obtain⟨E0,N,pin,A,F,hp,f,h⟩:=h;rw[Ip.ku] at h;refine mi f h λx ex hk v H' fv=>?_;unfold cC at hk;by_cases c:io.contains i=false/\i<(Ip.settle e.names A x).length
 .rw[if_pos c] at hk;obtain⟨F',f'⟩:=fv.set (λp hp' z=>by have:=hp p hp'; rw[z] at this; have c1:=c.1; simp[this] at c1) c.2;exact hk _ _ _ f'
 .rw[if_neg c] at hk; exact hk.elim
def FrV.drop {x:KD}{v:V}(h:FrV W E0 N pin A σ H x v):∃F,FrF W E0 N pin A σ H F/\Den W (hid (aQ N F) H) v x.2:=by
 obtain⟨fp,F',f',nd,fr,o⟩:=h;refine⟨F',⟨f'.sub,λb z=>f'.nok b (.inl z),f'.len,f'.pn,f'.nd,f'.dj,λi b hb=>⟨(f'.fr i b hb).1,λz=>(f'.fr i b hb).2 (.inl z)⟩,λi y hy=>?_,f'.em⟩,?_⟩
 .obtain⟨w,h1,h2⟩:=f'.rel i y hy;refine⟨w,h1,h2.mono (λb u e=>?_) λ_ _ _ e=>e⟩;obtain⟨g1,g2⟩:=aW.mp e;exact aW.mpr ⟨λz=>g1 (z.imp .inl id),g2⟩
 .refine o.den (λb u e=>?_) λb hb u e=>aW.mpr ⟨λz=>?_,e⟩
  .obtain⟨g1,g2⟩:=aW.mp e;exact aW.mpr ⟨λz=>g1 (z.imp .inl id),g2⟩
  .rcases z with z | ⟨j,z⟩
   .exact (fr b hb).2 z
   .exact (f'.fr j b z).2 (.inr hb)
def qP {e:Ex}{Dn:Ends}(h:bO W G n io E (.ex e) Dn σ H):bi W G (Ip.run G n) e E σ H λv H1=>Dn.nx σ H1:=by
 obtain⟨E0,N,pin,A,F,hp,f,h⟩:=h;rw[Ip.qG] at h;refine mi f h λx ex hk v H' fv=>?_;obtain⟨F',f',_⟩:=fv.drop;exact hk σ H' F' f'
def wl {e:Ex}{Dn:Ends}(hv:∀i,e≠.var i)(h:bO W G n io E (.ret e) Dn σ H):bi W G (Ip.run G n) e E σ H Dn.rt:=by
 obtain⟨E0,N,pin,A,F,hp,f,h⟩:=h;rw[Ip.oI] at h;have e1:Ip.cJ A e (Ip.eval G (Ip.run G n) A.sl e)=(Ip.eval G (Ip.run G n) A.sl e).toO A λx=>.ret x.1 x.2 (Ip.settle e.names A x):=by
  cases e <;> first | rfl | exact absurd rfl (hv _)
 rw[e1] at h;exact mi f h λx ex hk v H' fv=>hk v σ H' fv
def FrF.moved {i:Nat}{x:KD}(f:FrF W E0 N pin A σ H F)(q:A[i]? = some (some x)):∃v,σ[i]? = some (some v)/\FrV W E0 N pin (A.set i none) σ H x v:=by
 obtain⟨v,hv,ow⟩:=f.rel i x q;have hl:i<A.length:=(eO q).1;have eqH:∀b,aQ (λb=>N b\/b∈F i) (bC [i] F) b↔aQ N F b:=λb=>by
  constructor
  .intro z;rcases z with (z | z) | ⟨j,z⟩
   .exact .inl z
   .exact .inr ⟨i,z⟩
   .exact .inr ⟨j,(fk z).2⟩
  .intro z;rcases z with z | ⟨j,z⟩
   .exact .inl (.inl z)
   .by_cases y:j=i
    .rw[y] at z; exact .inl (.inr z)
    .exact .inr ⟨j,by unfold bC; rw[if_neg (by simpa using y)]; exact z⟩
 have eqF:aQ (λb=>N b\/b∈F i) (bC [i] F)=aQ N F:=funext λb=>propext (eqH b);refine⟨v,hv,⟨F i,bC [i] F,?_,f.nd i,λb hb=>f.fr i b hb,by rw[eqF]; exact ow⟩⟩;refine⟨f.sub,λb z=>z.elim (f.nok b) λy=>f.dom y,by rw[Fu]; exact f.len,f.pn,λj=>?_,λj k b h1 h2=>f.dj j k b (fk h1).2 (fk h2).2,λj b hb=>?_,λj y hy=>?_,λj hj=>?_⟩
 .unfold bC;split
  .exact .nil
  .exact f.nd j
 .obtain⟨z1,z2⟩:=fk hb;refine⟨(f.fr j b z2).1,λz=>z.elim (f.fr j b z2).2 λy=>z1 ?_⟩;rw[f.dj j i b z2 y]; simp
 .by_cases z:j=i
  .subst z;rw[Fj hl] at hy; cases hy
  .rw[Ff λy=>z y.symm] at hy;obtain⟨w,h1,h2⟩:=f.rel j y hy;refine⟨w,h1,?_⟩;have:bC [i] F j=F j:=by unfold bC; rw[if_neg (by simpa using z)]
   rw[this,eqF];exact h2
 .unfold bC;by_cases z:j=i
  .rw[if_pos (by simpa using z)]
  .rw[if_neg (by simpa using z)];exact f.em j λy w=>hj y (by rw[Ff λy=>z y.symm]; exact w)
def Af {i:Nat}{Dn:Ends}(h:bO W G n io E (.ret (.var i)) Dn σ H):∃v,σ[i]? = some (some v)/\Dn.rt v H:=by
 obtain⟨E0,N,pin,A,F,hp,f,h⟩:=h;rw[Ip.oI,Ip.r9] at h;cases q:A[i]? with
 | none=>rw[q] at h; exact h.elim
 | some o=>
  cases o with
  | none=>rw[q] at h; exact h.elim
  | some x=>
   rw[q] at h;obtain⟨v,hv,fv⟩:=f.moved q;exact⟨v,hv,h v σ H fv⟩
def Ce {s:Str}{i:Nat}{Dn:Ends}(h:bO W G n io E (.retP s i) Dn σ H):mE (mZ (bY (tC (.str s)) (bY (du i) dI))) Dn σ H:=by
 obtain⟨E0,N,pin,A,F,hp,f,h⟩:=h;rw[Ip.ur] at h;cases q:A[i]? with
 | none=>rw[q] at h; exact h.elim
 | some o=>
  cases o with
  | none=>rw[q] at h; exact h.elim
  | some x=>
   rw[q] at h;obtain⟨v,hv,fp,F',f',nd,fr,ow⟩:=f.moved q;refine⟨v,hv,b8 (show 2<=2 from bD _) (by decide),λp hp'=>?_⟩;have sub:Sub H (upd H p (.tup [.str s,v])):=Sub.upd hp';have g:=f'.grow sub (fp:=[]) λb z=>by simp at z
   have eN:(λb=>(N b\/b∈fp)\/b∈([]:am))=λb=>N b\/b∈fp:=funext λb=>propext (by simp);rw[eN] at g;have pn:¬aQ (λb=>N b\/b∈fp) F' p:=λz=>z.elim (λy=>f'.nok p y hp') λ⟨j,y⟩=>f'.dom y hp';refine h _ σ _ ⟨fp,F',g,nd,fr,p,[.str s,v],rfl,SqT.of (aW.mpr ⟨pn,bX⟩),?_⟩;have o2:Own W (hid (aQ (λb=>N b\/b∈fp) F') (upd H p (.tup [.str s,v]))) (upd H p (.tup [.str s,v])) x.1 v x.2 fp:=ow.mono (gg sub λ_ z=>.inl z) λb _ u e=>sub b u e;have:=OwnL.cons (f:=[]) (Own.flat (k:=x.1) (H:=upd H p (.tup [.str s,v])) (d:=.str s) rfl (.str (S:=hid (aQ (λb=>N b\/b∈fp) F') (upd H p (.tup [.str s,v]))))) (OwnL.cons o2 .nil);simpa using this
def sG {Q:Bool->Hp->Prop}{e:Ex}{Dn:Ends}{k:Bool->O}(f:FrF W E0 N pin A σ H F)(h:PostS W E0 N pin E Dn (((Ip.eval G (Ip.run G n) A.sl e).bl).toO A k))
  (ok:∀b,PostS W E0 N pin E Dn (k b)->∀H',FrF W E0 N pin A σ H' F->Q b H'):b7 W G (Ip.run G n) e E σ H Q:=by
 have f1:=f.frz e.names;have hN:NOk (aQ N (bC e.names F)) H:=λb z=>z.elim (f.nok b) λ⟨j,q⟩=>f1.dom q;have grow0:∀H',Sub H H'->FrF W E0 N pin A σ H' F:=λH' hs=>by
  have g:=f.grow hs (fp:=[]) λb z=>by simp at z
  have:(λb=>N b\/b∈([]:am))=N:=funext λb=>propext (by simp);rw[this] at g; exact g
 refine⟨aQ N (bC e.names F),mask e.names A.sl,hN,λi d hi=>?_,?_⟩
 .obtain⟨h1,h2⟩:=oF hi;obtain⟨k,h3⟩:=mf h2;exact f.see h1 h3
 rw[<-eZ (a:=A.sl) e λi hi=>nG hi];cases q:Ip.eval G (Ip.run G n) A.sl e with
 | bad=>rw[q] at h; exact h
 | exc c fs=>
  rw[q] at h;exact λa H' r=>h a σ H' (f.excIn r)
 | ok x=>
  obtain⟨kx,d⟩:=x;rw[q] at h;cases d <;> try (exact h.elim)
  rename_i b;exact λH' hs=>ok b h H' (grow0 H' hs)
end
section
variable {X:Cx}{W:Wd}{G:Pg}{n:Nat}{io:ak}{E:St->XK}{E0:Hp}{N:Addr->Prop}{pin:List (Nat×V)}{A:Fr}{σ:St}{H:Hp}{F:Nat->am}
def Aj {c:Ex}{t e:List Ip.S}{Dn:Ends}(h:bO W G n io E (.iff c t e) Dn σ H):jA (b7 W G (Ip.run G n) c E) (dQ W G n io E t) (dQ W G n io E e) Dn σ H:=by
 obtain⟨E0,N,pin,A,F,hp,f,h⟩:=h;rw[Ip.s0] at h;unfold jA;refine sG f h λb hk H' f'=>?_;cases b with
 | true=>rw[if_pos rfl] at hk ⊢; exact⟨E0,N,pin,A,F,hp,f',hk⟩
 | false=>rw[if_neg (by decide)] at hk ⊢; exact⟨E0,N,pin,A,F,hp,f',hk⟩
theorem zT {test:Fr->Ip.R Bool}{body:Fr->O}{m:Nat}{A:Fr}:c7 test body (m+1) A=(test A).toO A λb=>if b=true then (match body A with
  | .nx A=>c7 test body m A
  | .cnt A=>c7 test body m A
  | .brk A=>.nx A
  | o=>o) else .nx A:=by
 rw[c7];cases test A with
 | ok b=>cases b <;> rfl
 | exc c fs=>rfl
 | bad=>rfl
def B6 {c:Ex}{b:List Ip.S}{Dn:Ends}(h:bO W G n io E (.whl c b) Dn σ H):fM (b7 W G (Ip.run G n) c E) (dQ W G n io E b) Dn σ H:=by
 obtain⟨E0,N,pin,A,F,hp,f,h⟩:=h;rw[Ip.vI] at h;unfold fM;refine⟨λm σ H=>∃A F,FrF W E0 N pin A σ H F/\PostS W E0 N pin E Dn (c7 (iI G (Ip.run G n) c) (ko G (Ip.run G n) io b) m A),⟨10000,A,F,f,h⟩,?_⟩;rintro m σ1 H1 ⟨A1,F1,f1,h1⟩;cases m with
 | zero=>exact h1.elim
 | succ m=>
  rw[zT] at h1;refine sG f1 h1 λbb hk H' f'=>?_;cases bb with
  | false=>rw[if_neg (by decide)] at hk ⊢; exact hk _ _ _ f'
  | true=>
   rw[if_pos rfl] at hk ⊢;refine⟨λσ H=>∃A F,FrF W E0 N pin A σ H F/\PostS W E0 N pin E Dn (c7 (iI G (Ip.run G n) c) (ko G (Ip.run G n) io b) m A),λσ' H' ⟨A',F',f',p'⟩=>⟨m,Gp _,A',F',f',p'⟩,E0,N,pin,A1,F1,hp,f',?_⟩;have qe:ko G (Ip.run G n) io b A1=Ip.execs G (Ip.run G n) io A1 b:=rfl;rw[qe] at hk;cases q:Ip.execs G (Ip.run G n) io A1 b with
   | nx A'=>rw[q] at hk; exact λσ H F f=>⟨A',F,f,hk⟩
   | cnt A'=>rw[q] at hk; exact λσ H F f=>⟨A',F,f,hk⟩
   | brk A'=>rw[q] at hk; exact λσ H F f=>hk σ H F f
   | ret k d A'=>rw[q] at hk; exact hk
   | exc c fs A'=>rw[q] at hk; exact hk
   | bad=>rw[q] at hk; exact hk
def FrF.set0 {v:V}{d:D}{i:Nat}(f:FrF W E0 N pin A σ H F)(hd:Den W (hid (aQ N F) H) v d)(hi:∀p∈pin,p.1≠i)(hl:i<A.length):FrF W E0 N pin (A.set i (some (0,d))) (σ.set i (some v)) H (bC [i] F):=by
 have hlt:i < σ.length:=by rw[f.len]; exact hl
 refine⟨f.sub,f.nok,by rw[Fu,Fu]; exact f.len,λp hp=>by rw[Ff λz=>hi p hp z.symm]; exact f.pn p hp,λj=>?_,λj k b h1 h2=>f.dj j k b (fk h1).2 (fk h2).2,λj b hb=>f.fr j b (fk hb).2,λj y hy=>?_,λj hj=>?_⟩
 .unfold bC;split
  .exact .nil
  .exact f.nd j
 .have sub:Sub (hid (aQ N F) H) (hid (aQ N (bC [i] F)) H):=λb u e=>aW.mpr ⟨λz=>(aW.mp e).1 (kM z),(aW.mp e).2⟩;by_cases z:j=i
  .subst z;rw[Fj hl] at hy;cases hy;refine⟨v,Fj hlt,?_⟩;unfold bC;rw[if_pos (by simp)];exact⟨rfl,hd.mono sub⟩
  .rw[Ff λy=>z y.symm] at hy;obtain⟨w,h1,h2⟩:=f.rel j y hy;refine⟨w,by rw[Ff λy=>z y.symm]; exact h1,?_⟩;have:bC [i] F j=F j:=by unfold bC; rw[if_neg (by simpa using z)]
   rw[this];exact h2.mono sub λ_ _ _ e=>e
 .unfold bC;by_cases z:j=i
  .rw[if_pos (by simpa using z)]
  .rw[if_neg (by simpa using z)];exact f.em j λy w=>hj y (by rw[Ff λy=>z y.symm]; exact w)
def pP {ns:ak}:Sub (hid (aQ N F) H) (hid (aQ N (bC ns F)) H):=λb u e=>aW.mpr ⟨λz=>(aW.mp e).1 (kM z),(aW.mp e).2⟩
def nZ {i:Nat}(hp:∀p∈pin,p.1∈io)(h:io.contains i=false):∀p∈pin,p.1≠i:=λp hp' z=>by
 have:=hp p hp';rw[z] at this;simp[this] at h
theorem vE {Dn:Ends}{Q:St->Hp->Prop}{k:Fr->O}(hp:∀p∈pin,p.1∈io)(hQ:∀A F σ,FrF W E0 N pin A σ H F->PostS W E0 N pin E Dn (k A)->Q σ H) :
  ∀{is:ak} {vs:av} {ds:ax} {A:Fr} {σ:St} {F:Nat->am},Dens W (hid (aQ N F) H) vs ds->FrF W E0 N pin A σ H F->PostS W E0 N pin E Dn ((setFs io is (ds.map λd=>(0,d)) A).seq k)->kg is vs σ H Q
 | [],_,_,A,σ,F,.nil,f,h=>⟨rfl,hQ A F σ f h⟩
 | [],_,_,_,_,_,.cons _ _,_,h=>h.elim
 | _::_,_,_,_,_,_,.nil,_,h=>h.elim
 | i::is,_,_,A,σ,F,.cons hd q,f,h=>by
  refine⟨_,_,rfl,?_⟩;show kg is _ (σ.set i (some _)) H Q;simp only[Fh,setFs] at h;unfold cC at h;by_cases c:io.contains i=false/\i<A.length
  .rw[if_pos c] at h;exact vE hp hQ (q.mono pP) (f.set0 hd (nZ hp c.1) c.2) h
  .rw[if_neg c] at h; exact h.elim
def vp {tg:Tg}{v:V}{d:D}{Dn:Ends}{Q:St->Hp->Prop}{k:Fr->O}(hK:W.K=X.K)(hp:∀p∈pin,p.1∈io)(hd:Den W (hid (aQ N F) H) v d)(f:FrF W E0 N pin A σ H F)(h:PostS W E0 N pin E Dn ((ck io tg d A).seq k))
  (hQ:∀A F σ,FrF W E0 N pin A σ H F->PostS W E0 N pin E Dn (k A)->Q σ H):gT X.K tg v σ H Q:=by
 cases tg with
 | one i=>
  simp only[ck] at h;unfold cC at h;by_cases c:io.contains i=false/\i<A.length
  .rw[if_pos c] at h;exact hQ _ _ _ (f.set0 hd (nZ hp c.1) c.2) h
  .rw[if_neg c] at h; exact h.elim
 | many is=>
  cases hd <;> simp only[ck] at h <;> try (exact h.elim)
  rename_i a vs ds h1 h2;refine⟨a,vs,rfl,hK ▸ SqT.sub bN h1,?_,vE hp hQ h2 f h⟩;rw[h2.length];exact len_of h
where
 len_of {E0:Hp} {Dn:Ends} {k:Fr->O}:∀{is:ak} {ds:ax} {A:Fr},PostS W E0 N pin E Dn ((setFs io is (ds.map λd=>(0,d)) A).seq k)->ds.length=is.length
  | [],[],_,_=>rfl
  | [],_::_,_,h=>h.elim
  | _::_,[],_,h=>h.elim
  | i::is,d::ds,A,h=>by
   simp only[Fh,setFs] at h;unfold cC at h;by_cases c:io.contains i=false/\i<A.length
   .rw[if_pos c] at h;rw[List.length_cons,List.length_cons,len_of h]
   .rw[if_neg c] at h; exact h.elim
def uA {is:ak}{e:Ex}{Dn:Ends}(hK:W.K=X.K)(h:bO W G n io E (.setT is e) Dn σ H):bi W G (Ip.run G n) e E σ H λv H1=>gT X.K (.many is) v σ H1 Dn.nx:=by
 obtain⟨E0,N,pin,A,F,hp,f,h⟩:=h;rw[Ip.uO] at h;refine mi f h λx ex hk v H' fv=>?_;obtain⟨F',f',dv⟩:=fv.drop;have sq:∀o:O,(o.seq λA=>.nx A)=o:=λo=>by cases o <;> rfl
 have eb:Ip.fX io is e A x=ck io (.many is) x.2 (Ip.settle e.names A x):=by
  obtain⟨k,d⟩:=x;cases d <;> rfl
 rw[eb,<-sq (ck io (.many is) x.2 (Ip.settle e.names A x))] at hk;exact vp hK hp dv f' hk λA F σ f h=>h σ H' F f
def Bl {wk:Wk}{it:aF}{R:It->Hp->Prop}{Dn:Ends}{k:aw->O}(f:FrF W E0 N pin A σ H F)(h:PostS W E0 N pin E Dn ((evals G (Ip.run G n) A.sl it).toO A k))(nb:∀vs,PostS W E0 N pin E Dn (k vs)->∃ds,dF wk vs=some ds)
  (ok:∀vs ds,dF wk vs=some ds->PostS W E0 N pin E Dn (k vs)->∀J H',Sub H H'->ItD W (aQ N (bC (Ip.Wk.fz wk it) F)) H' J ds->R J H'):gq W G (Ip.run G n) wk it E σ H R:=by
 have f1:=f.frz (Ex.namess it);have hN:NOk (aQ N (bC (Ex.namess it) F)) H:=λb z=>z.elim (f.nok b) λ⟨j,q⟩=>f1.dom q;refine⟨aQ N (bC (Ex.namess it) F),mask (Ex.namess it) A.sl,hN,λi d hi=>?_,?_⟩
 .obtain⟨h1,h2⟩:=oF hi;obtain⟨k,h3⟩:=mf h2;exact f.see h1 h3
 rw[<-zAG (a:=A.sl) it λi hi=>nG hi];cases q:evals G (Ip.run G n) A.sl it with
 | bad=>rw[q] at h; exact h
 | exc c fs=>rw[q] at h; exact λa H' r=>h a σ H' (f.excIn r)
 | ok vs=>
  rw[q] at h;obtain⟨ds,e⟩:=nb vs h;simp only[e];refine λJ H' hs hJ hr=>ok vs ds e h J H' hs ?_;unfold Ip.Wk.fz;by_cases hw:wk.rng=true
  .rw[if_pos hw]; exact hr hw _
  .rw[if_neg hw]; exact hJ
def EF {tg:Tg}{wk:Wk}{it:aF}{b:List Ip.S}{Dn:Ends}(hK:W.K=X.K)(h:bO W G n io E (.fo tg wk it b) Dn σ H):jG (gq W G (Ip.run G n) wk it E) (gT X.K tg) (dQ W G n io E b) Dn σ H:=by
 obtain⟨E0,N,pin,A,F,hp,f,h⟩:=h;rw[Ip.pz] at h;unfold jG;have pre:∀vs,PostS W E0 N pin E Dn (kX G (bJ (fw G (Ip.run G n) io tg b)) wk it A vs)->∃ds,dF wk vs=some ds/\ds.length<=SL/\PostS W E0 N pin E Dn (bJ (fw G (Ip.run G n) io tg b) ds (frz (Ip.Wk.fz wk it) A)):=λvs hv=>by
  unfold kX at hv;cases q:dF wk vs with
  | none=>rw[q] at hv; exact hv.elim
  | some ds=>
   rw[q] at hv;simp only at hv;by_cases hl:ds.length<=SL
   .rw[if_pos hl] at hv; exact⟨ds,rfl,hl,hv⟩
   .rw[if_neg hl] at hv; exact hv.elim
 refine Bl f h (λvs hv=>by obtain⟨ds,e,_⟩:=pre vs hv; exact⟨ds,e⟩) λvs ds e hv J H1 hs hJ=>?_;obtain⟨ds',e',hl,hq⟩:=pre vs hv;rw[e] at e';cases e';have f0:=f.frz (Ip.Wk.fz wk it);have f1:FrF W E0 N pin (frz (Ip.Wk.fz wk it) A) σ H1 (bC (Ip.Wk.fz wk it) F):=by
  have g:=f0.grow hs (fp:=[]) λb z=>by simp at z
  have:(λb=>N b\/b∈([]:am))=N:=funext λb=>propext (by simp);rw[this] at g; exact g
 have hE1:Sub E0 (hid (λb=>∃j,b∈bC (Ip.Wk.fz wk it) F j) H1):=λb o eb=>aW.mpr ⟨(λ⟨j,z⟩=>by rw[(f1.fr j b z).1] at eb; cases eb),f1.sub b o eb⟩;have f2:FrF W (hid (λb=>∃j,b∈bC (Ip.Wk.fz wk it) F j) H1) N pin (frz (Ip.Wk.fz wk it) A) σ H1 (bC (Ip.Wk.fz wk it) F):=
  ⟨bN,f1.nok,f1.len,f1.pn,f1.nd,f1.dj,λi b hb=>⟨by
   cases q:hid (λb=>∃j,b∈bC (Ip.Wk.fz wk it) F j) H1 b with
   | none=>rfl
   | some o=>exact absurd ⟨i,hb⟩ (aW.mp q).1,(f1.fr i b hb).2⟩,f1.rel,f1.em⟩
 have hvis:∀b o,hid (aQ N (bC (Ip.Wk.fz wk it) F)) H1 b=some o->¬N b/\hid (λb=>∃j,b∈bC (Ip.Wk.fz wk it) F j) H1 b=some o:=λb o e=>by
  obtain⟨g1,g2⟩:=aW.mp e;exact⟨λz=>g1 (.inl z),aW.mpr ⟨λz=>g1 (.inr z),g2⟩⟩
 generalize hid (λb=>∃j,b∈bC (Ip.Wk.fz wk it) F j) H1=E1 at hE1 f2 hvis;refine⟨λi m σ H=>i<=ds.length/\m=ds.length - i/\∃A F,FrF W E1 N pin A σ H F/\PostS W E0 N pin E Dn (bJ (fw G (Ip.run G n) io tg b) (ds.drop i) A),⟨ds.length,Fy _,by omega,_,_,f2,by simpa using hq⟩,?_⟩;rintro i m σ1 Hc ⟨hi,rfl,A1,F1,f3,p3⟩;have hsub:Sub (hid (aQ N (bC (Ip.Wk.fz wk it) F)) H1) (hid (aQ N F1) Hc):=λb o e=>by
  obtain⟨g1,g2⟩:=hvis b o e;refine aW.mpr ⟨λz=>?_,f3.sub b o g2⟩;rcases z with z | ⟨j,z⟩
  .exact g1 z
  .rw[(f3.fr j b z).1] at g2; cases g2
 have hN3:NOk (aQ N F1) Hc:=λb z=>z.elim (f3.nok b) λ⟨j,q⟩=>f3.dom q;obtain⟨J1,J2⟩:=hJ (aQ N F1) Hc hsub hN3 i;by_cases hlt:i<ds.length
 .have hdrop:ds.drop i=ds[i]::ds.drop (i+1):=FZ hlt;rw[hdrop,bJ] at p3;obtain⟨Jg,Jy⟩:=J1 ds[i] (by simp[hlt]);refine .inr ⟨Jg,λσ H=>∃A F,FrF W E1 N pin A σ H F/\PostS W E0 N pin E Dn (bJ (fw G (Ip.run G n) io tg b) (ds.drop (i+1)) A),λσ' H' ⟨A',F',f',p'⟩=>⟨ds.length - (i+1),by omega,hlt,rfl,A',F',f',p'⟩,λx H' hy=>?_⟩;obtain⟨s3,dx⟩:=Jy x H' hy;have f4:FrF W E1 N pin A1 σ1 H' F1:=by
   have g:=f3.grow s3 (fp:=[]) λb z=>by simp at z
   have:(λb=>N b\/b∈([]:am))=N:=funext λb=>propext (by simp);rw[this] at g; exact g
  have turn:PostS W E1 N pin E { Dn with nx:=λσ H=>∃A F,FrF W E1 N pin A σ H F/\PostS W E0 N pin E Dn (bJ (fw G (Ip.run G n) io tg b) (ds.drop (i+1)) A),ct:=λσ H=>∃A F,FrF W E1 N pin A σ H F/\PostS W E0 N pin E Dn (bJ (fw G (Ip.run G n) io tg b) (ds.drop (i+1)) A),bk:=Dn.nx }
    (fw G (Ip.run G n) io tg b ds[i] A1):=by
   cases q:fw G (Ip.run G n) io tg b ds[i] A1 with
   | nx A'=>rw[q] at p3; exact λσ H F f=>⟨A',F,f,p3⟩
   | cnt A'=>rw[q] at p3; exact λσ H F f=>⟨A',F,f,p3⟩
   | brk A'=>rw[q] at p3; exact λσ H F f=>p3 σ H F (f.weaken hE1)
   | ret k d A'=>
    rw[q] at p3;exact PostS.strong (Dn:=Dn) (o:=.ret k d A') hE1 p3
   | exc c fs A'=>
    rw[q] at p3;exact PostS.strong (Dn:=Dn) (o:=.exc c fs A') hE1 p3
   | bad=>rw[q] at p3; exact p3
  unfold fw at turn;exact vp hK hp dx f4 turn λA2 F2 σ2 g p=>⟨E1,N,pin,A2,F2,hp,g,p⟩
 .have e:i=ds.length:=by omega
  subst e;rw[GV (Nat.le_refl _),bJ] at p3;exact .inl ⟨J2 (bD _),p3 _ _ _ (f3.weaken hE1)⟩
end
section
variable {X:Cx}{W:Wd}{G:Pg}{n:Nat}{io:ak}{E:St->XK}{E0:Hp}{N:Addr->Prop}{pin:List (Nat×V)}{A:Fr}{σ:St}{H:Hp}{F:Nat->am}
def FrF.upd {fp fx:am}{x:Nat}{l:Addr}{v0:V}{y:KD}{H2:Hp}(f:FrF W E0 (λb=>N b\/b∈fp) pin A σ H F)(fr:∀b∈fp,E0 b=none/\¬N b)(hl:l∈F x)(hx:x<A.length)(hσ:σ[x]? = some (some v0))(hfx:fx.Nodup)(hin:∀b∈fx,b∈F x\/b∈fp)
  (h12:∀b,b≠l->∀u,H b=some u->H2 b=some u)(h2l:H2 l≠none)(hy:Own W (hid (aQ N λj=>if j=x then fx else F j) H2) H2 y.1 v0 y.2 fx):FrF W E0 N pin (A.set x (some y)) σ H2 λj=>if j=x then fx else F j:=by
 have l0:E0 l=none:=(f.fr x l hl).1;have mem:∀j b,b∈(if j=x then fx else F j)->(j=x/\b∈fx)\/(j≠x/\b∈F j):=λj b h=>by
  by_cases z:j=x
  .rw[if_pos z] at h; exact .inl ⟨z,h⟩
  .rw[if_neg z] at h; exact .inr ⟨z,h⟩
 refine⟨λb u e=>h12 b (λz=>by rw[z,l0] at e; cases e) u (f.sub b u e),λb z=>?_,by rw[Fu]; exact f.len,f.pn,λj=>?_,λi j b h1 h2=>?_,λj b h=>?_,λj z hz=>?_,λj hj=>?_⟩
 .by_cases q:b=l
  .rw[q]; exact h2l
  .have:=f.nok b (.inl z);cases e:H b with
   | none=>exact absurd e this
   | some u=>rw[h12 b q u e]; simp
 .by_cases z:j=x
  .simp only[if_pos z]; exact hfx
  .simp only[if_neg z]; exact f.nd j
 .rcases mem i b h1 with ⟨z1,q1⟩ | ⟨z1,q1⟩ <;> rcases mem j b h2 with ⟨z2,q2⟩ | ⟨z2,q2⟩
  .rw[z1,z2]
  .rcases hin b q1 with w | w
   .exact absurd (f.dj j x b q2 w) z2
   .exact absurd (.inr w) (f.fr j b q2).2
  .rcases hin b q2 with w | w
   .exact absurd (f.dj i x b q1 w) z1
   .exact absurd (.inr w) (f.fr i b q1).2
  .exact f.dj i j b q1 q2
 .rcases mem j b h with ⟨z,q⟩ | ⟨z,q⟩
  .rcases hin b q with w | w
   .exact⟨(f.fr x b w).1,λy=>(f.fr x b w).2 (.inl y)⟩
   .exact fr b w
  .exact⟨(f.fr j b q).1,λy=>(f.fr j b q).2 (.inl y)⟩
 .by_cases q:j=x
  .subst q;rw[Fj hx] at hz;cases hz;exact⟨_,hσ,by simp only[if_true]; exact hy⟩
  .rw[Ff λy=>q y.symm] at hz;obtain⟨w,h1,h2⟩:=f.rel j z hz;refine⟨w,h1,?_⟩;simp only[if_neg q];refine h2.mono (λb u e=>?_) λb hb u e=>h12 b (λy=>q (f.dj j x b hb (y ▸ hl))) u e;obtain⟨g1,g2⟩:=aW.mp e;have bl:b≠l:=λy=>g1 (.inr ⟨x,y ▸ hl⟩);refine aW.mpr ⟨λy=>?_,h12 b bl u g2⟩;rcases y with y | ⟨i,y⟩
   .exact g1 (.inl (.inl y))
   .rcases mem i b y with ⟨z1,q1⟩ | ⟨z1,q1⟩
    .rcases hin b q1 with w | w
     .exact g1 (.inr ⟨x,w⟩)
     .exact g1 (.inl (.inr w))
    .exact g1 (.inr ⟨i,q1⟩)
 .by_cases q:j=x
  .subst q;exact absurd (Fj hx) (hj y)
  .simp only[if_neg q];exact f.em j λz w=>hj z (by rw[Ff λy=>q y.symm]; exact w)
theorem OwnL.snoc {P:V->D->am->Prop}{v:V}{d:D}{g:am}(h:P v d g):∀{vs ds fp},OwnL P vs ds fp->OwnL P (vs++[v]) (ds++[d]) (fp++g)
 | _,_,_,.nil=>by simpa using OwnL.cons h .nil
 | _,_,_,.cons h0 q=>by
  rw[List.cons_append,List.cons_append,GE];exact .cons h0 (OwnL.snoc h q)
def zY {x:Nat}{k:Nat}{xs:ax}{v:KD}{w:V}(fv:FrV W E0 N pin A σ H v w)(hx:A[x]? = some (some (k+1,.lst xs))) :
  ∃l ws,σ[x]? = some (some (.ref l))/\H l=some (.lst ws)/\ws.length=xs.length/\∃F',FrF W E0 N pin (A.set x (some (cK k xs v+1,.lst (xs++[v.2])))) σ (upd H l (.lst (ws++[w]))) F':=by
 obtain⟨fp,F,f,nd,fr,o⟩:=fv;obtain⟨z,hσ,l,ws,fq,rfl,e2,e3,e4⟩:=f.rel x _ hx;have hl:l∈F x:=by rw[e4]; exact bW
 have hxl:x<A.length:=(eO hx).1;have ndx:=f.nd x;rw[e4] at ndx;obtain⟨lq,ndq⟩:=Ft.mp ndx;have lfp:l∉fp:=λz=>(f.fr x l hl).2 (.inr z);have qF:∀b∈fq,b∈F x:=λb hb=>by rw[e4]; exact bU _ hb
 have h12:∀b,b≠l->∀u,H b=some u->(L2.upd H l (.lst (ws++[w]))) b=some u:=λb nb u e=>by rw[bK nb]; exact e
 refine⟨l,ws,hσ,e2,e3.length,?_⟩;have deep:∀j,bo j v=true->(xs.all λd=>bo j (k,d))=true->∃F',FrF W E0 N pin (A.set x (some (j+1,.lst (xs++[v.2])))) σ (L2.upd H l (.lst (ws++[w]))) F':=λj h1 h2=>by
  refine⟨_,f.upd (fx:=l::(fq++fp)) (y:=(j+1,.lst (xs++[v.2]))) fr hl hxl hσ ?_ (λb hb=>?_) h12 (by rw[bX]; simp) ⟨l,_,fq++fp,rfl,bX,?_,rfl⟩⟩
  .refine Ft.mpr ⟨λz=>(cX z).elim lq lfp,Fo.mpr ⟨ndq,nd,λb hb c hc z=>?_⟩⟩;subst z;exact (f.fr x b (qF b hb)).2 (.inr hc)
  .rcases cu hb with z | z
   .rw[z]; exact .inl hl
   .exact (cX z).imp (qF b) id
  .have sub:Sub (hid (aQ (λb=>N b\/b∈fp) F) H) (hid (aQ N λi=>if i=x then l::(fq++fp) else F i) (L2.upd H l (.lst (ws++[w])))):=λb u e=>by
    obtain⟨g1,g2⟩:=aW.mp e;have bl:b≠l:=λy=>g1 (.inr ⟨x,y ▸ hl⟩);refine aW.mpr ⟨λy=>?_,h12 b bl u g2⟩;rcases y with y | ⟨i,y⟩
    .exact g1 (.inl (.inl y))
    .by_cases z:i=x
     .simp only[if_pos z] at y;rcases cu y with q | q
      .exact bl q
      .rcases cX q with q | q
       .exact g1 (.inr ⟨x,qF b q⟩)
       .exact g1 (.inl (.inr q))
     .simp only[if_neg z] at y;exact g1 (.inr ⟨i,y⟩)
   refine OwnL.snoc ((o.at h1).mono sub λb hb u e=>h12 b (λz=>lfp (z ▸ hb)) u e) ?_;have e5:=e3.re (Q:=Own W (hid (aQ (λb=>N b\/b∈fp) F) H) H j) (b:=λd=>bo j (k,d)) (λv d g hb o=>Own.at hb o) h2;exact e5.imp λv d g hg o=>o.mono sub λb hb u e=>h12 b (λz=>lq (z ▸ hg b hb)) u e
 unfold cK;by_cases c1:bo k v=true
 .rw[if_pos c1];refine deep k c1 (List.all_eq_true.mpr λd _=>?_);unfold bo;simp
 .rw[if_neg c1];by_cases c2:(xs.all λd=>bo v.1 (k,d))=true
  .rw[if_pos c2];refine deep v.1 ?_ c2;unfold bo;simp
  .rw[if_neg c2];refine⟨_,f.upd (fx:=[l]) (y:=(1,.lst (xs++[v.2]))) fr hl hxl hσ (by simp) (λb hb=>by rw[Fc.mp hb]; exact .inl hl) h12 (by rw[bX]; simp) ⟨l,_,[],rfl,bX,OwnL.zero ?_,rfl⟩⟩;have sub:Sub (hid (aQ (λb=>N b\/b∈fp) F) H) (hid (aQ N λi=>if i=x then [l] else F i) (L2.upd H l (.lst (ws++[w])))):=λb u e=>by
    obtain⟨g1,g2⟩:=aW.mp e;have bl:b≠l:=λy=>g1 (.inr ⟨x,y ▸ hl⟩);refine aW.mpr ⟨λy=>?_,h12 b bl u g2⟩;rcases y with y | ⟨i,y⟩
    .exact g1 (.inl (.inl y))
    .by_cases z:i=x
     .simp only[if_pos z] at y; exact bl (Fc.mp y)
     .simp only[if_neg z] at y;exact g1 (.inr ⟨i,y⟩)
   have see:∀b,(b∈fq\/b∈fp)->∀u,H b=some u->hid (aQ N λi=>if i=x then [l] else F i) (L2.upd H l (.lst (ws++[w]))) b=some u:=λb hb u e=>by
    have bl:b≠l:=λz=>hb.elim (λy=>lq (z ▸ y)) λy=>lfp (z ▸ y);refine aW.mpr ⟨λy=>?_,h12 b bl u e⟩;rcases y with y | ⟨i,y⟩
    .rcases hb with q | q
     .exact (f.fr x b (qF b q)).2 (.inl y)
     .exact (fr b q).2 y
    .by_cases z:i=x
     .simp only[if_pos z] at y; exact bl (Fc.mp y)
     .simp only[if_neg z] at y;rcases hb with q | q
      .exact z (f.dj i x b y (qF b q))
      .exact (f.fr i b y).2 (.inr q)
   exact (e3.dens λv d g hg o=>o.den sub λb hb u e=>see b (.inl (hg b hb)) u e).append (.cons (o.den sub λb hb u e=>see b (.inr hb) u e) .nil)
def Bm {x:Nat}{e:Ex}{Dn:Ends}(hK:W.K=X.K)(h:bO W G n io E (.mut x [] .append [e]) Dn σ H):cG (gv X.K "list" fR (du x) (bY (bi W G (Ip.run G n) e E) dI)) Dn σ H:=by
 obtain⟨E0,N,pin,A,F,hp,f,h⟩:=h;rw[hG] at h;by_cases c:cq A[x]? = true
 rotate_left
 .rw[if_neg c] at h; exact h.elim
 rw[if_pos c] at h;have hs:∃k xs,A[x]? = some (some (k,.lst xs)):=by
  cases q:A[x]? with
  | none=>rw[q] at c; cases c
  | some o=>
   rw[q] at c;cases o with
   | none=>cases c
   | some y=>
    obtain⟨k,d⟩:=y;cases d <;> first | exact⟨k,_,rfl⟩ | cases c
 obtain⟨k,xs,hx⟩:=hs;obtain⟨v,hv,ow⟩:=f.rel x _ hx;have dv:Den W H v (.lst xs):=ow.den bN λ_ _ _ e=>e;unfold cG gv;refine⟨v,hv,?_,?_⟩
 .cases dv with | @lst l ws _ h1 h2=>?_
  exact .inl ⟨rfl,ws,.inl h1⟩
 simp only[di,bL,Ip.R.toO,Ip.R.bind] at h;unfold bY;refine jn f ?_;cases q:Ip.eval G (Ip.run G n) A.sl e with
 | bad=>rw[q] at h; exact h
 | exc c fs=>rw[q] at h; exact λa H' r=>h a σ H' r
 | ok y=>
  rw[q] at h;simp only[dL] at h;have e1:(if ([y].all λv=>v.2.fb v.1)=true then A else frz (Ex.namess [e]) A)=Ip.settle e.names A y:=by
   unfold Ip.settle;simp
  rw[e1] at h;intro w H1 fv;cases q2:(Ip.settle e.names A y)[x]? with
  | none=>rw[q2] at h; exact h.elim
  | some o=>
   rw[q2] at h;cases o with
   | none=>exact h.elim
   | some z=>
    obtain⟨k',d⟩:=z;cases k' with
    | zero=>cases d <;> exact h.elim
    | succ k'=>
     cases d <;> try (exact h.elim)
     rename_i ys;simp only[dZ,Ip.uj] at h;by_cases hl:ys.length<SL
     .rw[if_pos hl] at h;obtain⟨l,ws,g1,g2,g3,F',g4⟩:=zY fv q2;rw[hv] at g1;cases g1;exact⟨l,ws,w,rfl,rfl,g2,by rw[g3]; exact dX hl (by decide),h _ _ _ g4⟩
     .rw[if_neg hl] at h; exact h.elim
end
theorem OwnF.put {att:ar}{P:V->D->am->Prop}(nd:att.Nodup){f:Nat}{n:Str}{v:V}{d:D}{g:am}(hn:att[f]? = some n)(h:P v d g):∀{vs ds fp},OwnF att P vs ds fp->(fp++g).Nodup ->
  ∃fz:am,OwnF att P (putF n v vs) (Ip.putF f d ds) fz/\fz.Nodup/\∀b∈fz,b∈fp\/b∈g
 | _,_,_,.nil,hd=>⟨g,by
   have:=OwnF.cons hn h (OwnF.nil (att:=att) (P:=P));rw[F7] at this;exact this,by simpa using hd,λb hb=>.inr hb⟩
 | _,_,_,.cons (n:=m) (i:=i) (f:=f0) (g:=g0) hi h0 q,hd=>by
  unfold putF Ip.putF;have hd1:=Fo.mp hd;have hd2:=Fo.mp hd1.1;by_cases e:i=f
  .subst e;have:m=n:=by rw[hn] at hi; exact (cy hi).symm
   subst this;rw[if_pos rfl,if_pos rfl];refine⟨g++g0,.cons hi h q,Fo.mpr ⟨hd1.2.1,hd2.2.1,λa ha b hb z=>?_⟩,λb hb=>?_⟩
   .exact hd1.2.2 b (cr _ hb) a ha z.symm
   .rcases cX hb with z | z
    .exact .inr z
    .exact .inl (cr _ z)
  .have nm:m≠n:=λz=>e (oW nd hi (by rw[z]; exact hn));rw[if_neg e,if_neg nm];obtain⟨fz,k1,k2,k3⟩:=q.put nd hn h (Fo.mpr ⟨hd2.2.1,hd1.2.1,λa ha b hb z=>hd1.2.2 a (cr _ ha) b hb z⟩);refine⟨f0++fz,.cons hi h0 k1,Fo.mpr ⟨hd2.1,k2,λa ha b hb z=>?_⟩,λb hb=>?_⟩
   .rcases k3 b hb with w | w
    .exact hd2.2.2 a ha b w z
    .exact hd1.2.2 a (d8 _ ha) b w z
   .rcases cX hb with z | z
    .exact .inl (d8 _ z)
    .exact (k3 b z).imp (cr _) id
theorem OwnF.length {att:ar}{P:V->D->am->Prop}:∀{vs ds fp},OwnF att P vs ds fp->vs.length=ds.length
 | _,_,_,.nil=>rfl
 | _,_,_,.cons _ _ q=>by rw[List.length_cons,List.length_cons,q.length]
theorem OwnF.zero {W:Wd}{S H:Hp}:∀{vs ds},DenF W S vs ds->OwnF W.att (Own W S H 0) vs ds []
 | _,_,.nil=>.nil
 | _,_,.cons hf h q=>OwnF.cons (f:=[]) (g:=[]) hf ⟨rfl,h⟩ (OwnF.zero q)
section
variable {X:Cx}{W:Wd}{G:Pg}{n:Nat}{io:ak}{E:St->XK}{E0:Hp}{N:Addr->Prop}{pin:List (Nat×V)}{A:Fr}{σ:St}{H:Hp}{F:Nat->am}
def vM {x k f:Nat}{nm:Str}{l:Addr}{fs:List aJ}{ws:List (Str×V)}{fq fp:am}{v:KD}{w:V}{H2:Hp}(nda:W.att.Nodup)(hnm:W.att[f]? = some nm)(fr0:FrF W E0 (λb=>N b\/b∈fp) pin A σ H F)(nd:fp.Nodup)(fr:∀b∈fp,E0 b=none/\¬N b)
  (o:Own W (hid (aQ (λb=>N b\/b∈fp) F) H) H v.1 w v.2 fp)(hxl:x<A.length)(hσ:σ[x]? = some (some (.ref l)))(e4:F x=l::fq)(e3:OwnF W.att (Own W (hid (aQ (λb=>N b\/b∈fp) F) H) H k) ws fs fq)
  (h12:∀b,b≠l->∀u,H b=some u->H2 b=some u)(h2l:H2 l≠none){dd:D}
  (own:∀j fz S,OwnF W.att (Own W S H2 j) (putF nm w ws) (Ip.putF f v.2 fs) fz->Own W S H2 (j+1) (.ref l) dd (l::fz)) :
  ∃F',FrF W E0 N pin (A.set x (some (cK k (fs.map (·.2)) v+1,dd))) σ H2 F':=by
 have hl:l∈F x:=by rw[e4]; exact bW
 have ndx:=fr0.nd x;rw[e4] at ndx;obtain⟨lq,ndq⟩:=Ft.mp ndx;have lfp:l∉fp:=λz=>(fr0.fr x l hl).2 (.inr z);have qF:∀b∈fq,b∈F x:=λb hb=>by rw[e4]; exact bU _ hb
 have ndc:(fq++fp).Nodup:=Fo.mpr ⟨ndq,nd,λb hb c hc z=>by subst z; exact (fr0.fr x b (qF b hb)).2 (.inr hc)⟩;have sub:∀fz:am,(∀b∈fz,b∈fq\/b∈fp)->Sub (hid (aQ (λb=>N b\/b∈fp) F) H) (hid (aQ N λi=>if i=x then l::fz else F i) H2):=λfz hz b u e=>by
  obtain⟨g1,g2⟩:=aW.mp e;have bl:b≠l:=λy=>g1 (.inr ⟨x,y ▸ hl⟩);refine aW.mpr ⟨λy=>?_,h12 b bl u g2⟩;rcases y with y | ⟨i,y⟩
  .exact g1 (.inl (.inl y))
  .by_cases z:i=x
   .simp only[if_pos z] at y;rcases cu y with q | q
    .exact bl q
    .rcases hz b q with q | q
     .exact g1 (.inr ⟨x,qF b q⟩)
     .exact g1 (.inl (.inr q))
   .simp only[if_neg z] at y;exact g1 (.inr ⟨i,y⟩)
 have deep:∀j,bo j v=true->((fs.map (·.2)).all λd=>bo j (k,d))=true->∃F',FrF W E0 N pin (A.set x (some (j+1,dd))) σ H2 F':=λj h1 h2=>by
  have e5:=e3.re (Q:=Own W (hid (aQ (λb=>N b\/b∈fp) F) H) H j) (b:=λd=>bo j (k,d)) (λv d g hb o=>Own.at hb o) (by rw[List.all_map] at h2; exact h2);obtain⟨fz,k1,k2,k3⟩:=e5.put nda hnm (o.at h1) ndc;have lz:l∉fz:=λz=>(k3 l z).elim lq lfp;refine⟨_,fr0.upd (fx:=l::fz) (y:=(j+1,dd)) fr hl hxl hσ (Ft.mpr ⟨lz,k2⟩) (λb hb=>?_) h12 h2l (own j fz _ (k1.imp λv d g hg o=>o.mono (sub fz k3) λb hb u e=>h12 b (λz=>lz (z ▸ hg b hb)) u e))⟩;rcases cu hb with z | z
  .rw[z]; exact .inl hl
  .exact (k3 b z).imp (qF b) id
 unfold cK;by_cases c1:bo k v=true
 .rw[if_pos c1];refine deep k c1 (List.all_eq_true.mpr λd _=>?_);unfold bo;simp
 .rw[if_neg c1];by_cases c2:((fs.map (·.2)).all λd=>bo v.1 (k,d))=true
  .rw[if_pos c2];refine deep v.1 ?_ c2;unfold bo;simp
  .rw[if_neg c2];have sub0:=sub [] (λb z=>by simp at z);have see:∀b,(b∈fq\/b∈fp)->∀u,H b=some u->hid (aQ N λi=>if i=x then [l] else F i) H2 b=some u:=λb hb u e=>by
    have bl:b≠l:=λz=>hb.elim (λy=>lq (z ▸ y)) λy=>lfp (z ▸ y);refine aW.mpr ⟨λy=>?_,h12 b bl u e⟩;rcases y with y | ⟨i,y⟩
    .rcases hb with q | q
     .exact (fr0.fr x b (qF b q)).2 (.inl y)
     .exact (fr b q).2 y
    .by_cases z:i=x
     .simp only[if_pos z] at y; exact bl (Fc.mp y)
     .simp only[if_neg z] at y;rcases hb with q | q
      .exact z (fr0.dj i x b y (qF b q))
      .exact (fr0.fr i b y).2 (.inr q)
   have dn:DenF W (hid (aQ N λi=>if i=x then [l] else F i) H2) (putF nm w ws) (Ip.putF f v.2 fs):=
    (e3.dens λv d g hg o=>o.den sub0 λb hb u e=>see b (.inl (hg b hb)) u e).put nda hnm (o.den sub0 λb hb u e=>see b (.inr hb) u e)
   exact⟨_,fr0.upd (fx:=[l]) (y:=(1,dd)) fr hl hxl hσ (by simp) (λb hb=>by rw[Fc.mp hb]; exact .inl hl) h12 h2l (own 0 [] _ (OwnF.zero dn))⟩
def Dx {x k:Nat}{nm:Str}{e:Ex}{Dn:Ends}{fl:ak}(hK:W.K=X.K)(cf:CF W fl)(hk:k∈fl)(hnm:W.att[k]? = some nm)(h:bO W G n io E (.sfld x k e) Dn σ H) :
  iE X.K (du x) (bi W G (Ip.run G n) e E) nm Dn σ H\/gM X.K (du x) (bi W G (Ip.run G n) e E) nm Dn σ H:=by
 obtain⟨E0,N,pin,A,F,hp,f,h⟩:=h;rw[Ip.BH] at h;cases q:Ip.eval G (Ip.run G n) A.sl e with
 | bad=>rw[q] at h; exact h.elim
 | exc c fs=>
  refine .inl ?_;unfold iE;refine jn f ?_;rw[q] at h ⊢;exact λa H' r=>h a σ H' r
 | ok v=>
  rw[q] at h;simp only[Ip.R.toO] at h;cases q2:(Ip.settle e.names A v)[x]? with
  | none=>rw[q2] at h; exact h.elim
  | some oo=>
   rw[q2] at h;cases oo with
   | none=>exact h.elim
   | some z=>
    obtain⟨k',d⟩:=z;have hxl:x<(Ip.settle e.names A v).length:=(eO q2).1;cases k' with
    | zero=>cases d <;> exact h.elim
    | succ k'=>
     cases d <;> try (exact h.elim)
     .rename_i c fs;simp only[Ip.gi] at h;by_cases hl:fs.length<50
      rotate_left
      .rw[if_neg hl] at h; exact h.elim
      rw[if_pos hl] at h;refine .inl ?_;unfold iE;refine jn f ?_;rw[q];rintro w H1 ⟨fp,F1,f1,nd,fr,o⟩;obtain⟨z,hσ,a,C,dx,ws,fq,rfl,e2,hC,e3,e4⟩:=f1.rel x _ q2;obtain⟨ic,na⟩:=cf.ins c C hC;refine⟨_,hσ,a,C,dx,ws,rfl,e2,hK ▸ ic.cls,hK ▸ na k nm hk hnm,by rw[e3.length]; omega,?_⟩;obtain⟨F',g⟩:=vM (H2:=L2.upd H1 a (.ins C dx (putF nm w ws))) (dd:=.ins c (Ip.putF k v.2 fs)) cf.nd hnm f1 nd fr o hxl hσ e4 e3 (λb nb u e=>by rw[bK nb]; exact e) (by rw[bX]; simp)
       (λj fz S hz=>⟨a,C,dx,_,fz,rfl,bX,hC,hz,rfl⟩)
      exact h _ _ _ g
     .rename_i c fs;simp only[Ip.gi] at h;by_cases hl:fs.length<50
      rotate_left
      .rw[if_neg hl] at h; exact h.elim
      rw[if_pos hl] at h;refine .inr ?_;unfold gM;refine jn f ?_;rw[q];rintro w H1 ⟨fp,F1,f1,nd,fr,o⟩;obtain⟨z,hσ,a,C,nw,ws,fq,rfl,e2,hC,e3,e4⟩:=f1.rel x _ q2;obtain⟨ic,na⟩:=cf.exc c C hC.1;obtain⟨fI,tl,T⟩:=ic.xc;refine⟨_,hσ,a,C,fI,tl,nw,ws,rfl,e2,hK ▸ T,hK ▸ na k nm hk hnm,by rw[e3.length]; omega,λH3 h3 h4=>?_⟩;obtain⟨F',g⟩:=vM (H2:=H3) (dd:=.exc c (Ip.putF k v.2 fs)) cf.nd hnm f1 nd fr o hxl hσ e4 e3 (λb nb u e=>h4 b u nb e) (by rw[h3]; simp)
       (λj fz S hz=>⟨a,C,nw,_,fz,rfl,h3,hC,hz,rfl⟩)
      exact h _ _ _ g
end
section
variable {X:Cx}{W:Wd}{G:Pg}{n:Nat}{io:ak}{E:St->XK}{E0:Hp}{N:Addr->Prop}{pin:List (Nat×V)}{A:Fr}{σ:St}{H:Hp}{F:Nat->am}
def qz {x k:Nat}{xs:ax}{v:KD}{w:V}(fv:FrV W E0 N pin A σ H v w)(hx:A[x]? = some (some (k+1,.lst xs))) :
  ∃l ws,σ[x]? = some (some (.ref l))/\H l=some (.lst ws)/\ws.length=xs.length/\Dens W H ws xs/\Den W H w v.2 /\
   ∀ws' ds',(∀S,Dens W S ws xs->Den W S w v.2->Dens W S ws' ds')->∃F',FrF W E0 N pin (A.set x (some (1,.lst ds'))) σ (upd H l (.lst ws')) F':=by
 obtain⟨fp,F,f,nd,fr,o⟩:=fv;obtain⟨z,hσ,l,ws,fq,rfl,e2,e3,e4⟩:=f.rel x _ hx;have hl:l∈F x:=by rw[e4]; exact bW
 have hxl:x<A.length:=(eO hx).1;have ndx:=f.nd x;rw[e4] at ndx;obtain⟨lq,ndq⟩:=Ft.mp ndx;have lfp:l∉fp:=λz=>(f.fr x l hl).2 (.inr z);have qF:∀b∈fq,b∈F x:=λb hb=>by rw[e4]; exact bU _ hb
 refine⟨l,ws,hσ,e2,e3.length,e3.dens λv d g hg o=>o.den bN λb hb u e=>e,o.den bN λb hb u e=>e,λws' ds' hd=>?_⟩;have h12:∀b,b≠l->∀u,H b=some u->(L2.upd H l (.lst ws')) b=some u:=λb nb u e=>by rw[bK nb]; exact e
 refine⟨_,f.upd (fx:=[l]) (y:=(1,.lst ds')) fr hl hxl hσ (by simp) (λb hb=>by rw[Fc.mp hb]; exact .inl hl) h12 (by rw[bX]; simp) ⟨l,_,[],rfl,bX,OwnL.zero ?_,rfl⟩⟩;have sub:Sub (hid (aQ (λb=>N b\/b∈fp) F) H) (hid (aQ N λi=>if i=x then [l] else F i) (L2.upd H l (.lst ws'))):=λb u e=>by
  obtain⟨g1,g2⟩:=aW.mp e;have bl:b≠l:=λy=>g1 (.inr ⟨x,y ▸ hl⟩);refine aW.mpr ⟨λy=>?_,h12 b bl u g2⟩;rcases y with y | ⟨i,y⟩
  .exact g1 (.inl (.inl y))
  .by_cases z:i=x
   .simp only[if_pos z] at y; exact bl (Fc.mp y)
   .simp only[if_neg z] at y;exact g1 (.inr ⟨i,y⟩)
 have see:∀b,(b∈fq\/b∈fp)->∀u,H b=some u->hid (aQ N λi=>if i=x then [l] else F i) (L2.upd H l (.lst ws')) b=some u:=λb hb u e=>by
  have bl:b≠l:=λz=>hb.elim (λy=>lq (z ▸ y)) λy=>lfp (z ▸ y);refine aW.mpr ⟨λy=>?_,h12 b bl u e⟩;rcases y with y | ⟨i,y⟩
  .rcases hb with q | q
   .exact (f.fr x b (qF b q)).2 (.inl y)
   .exact (fr b q).2 y
  .by_cases z:i=x
   .simp only[if_pos z] at y; exact bl (Fc.mp y)
   .simp only[if_neg z] at y;rcases hb with q | q
    .exact z (f.dj i x b y (qF b q))
    .exact (f.fr i b y).2 (.inr q)
 exact hd _ (e3.dens λv d g hg o=>o.den sub λb hb u e=>see b (.inl (hg b hb)) u e) (o.den sub λb hb u e=>see b (.inr hb) u e)
theorem Den.scal {S S':Hp}{v:V}{d:D}(hs:d.scal=true)(h:Den W S v d):Den W S' v d:=by
 cases h <;> first | exact .non | exact .bl | exact .int | exact .str | (simp[D.scal] at hs)
theorem Dens.scal {S S':Hp}:∀{vs:av} {ds:ax},ds.all D.scal=true->Dens W S vs ds->Dens W S' vs ds
 | _,_,_,.nil=>.nil
 | _,_,hs,.cons h q=>by
  rw[List.all_cons,tw] at hs;exact .cons (h.scal hs.1) (q.scal hs.2)
def o4 {x:Nat}(c:cq A[x]? = true):∃k xs,A[x]? = some (some (k,.lst xs)):=by
 cases q:A[x]? with
 | none=>rw[q] at c; cases c
 | some o=>
  rw[q] at c;cases o with
  | none=>cases c
  | some y=>
   obtain⟨k,d⟩:=y;cases d <;> first | exact⟨k,_,rfl⟩ | cases c
def E4 {x:Nat}{e:Ex}{Dn:Ends}(hK:W.K=X.K)(h:bO W G n io E (.mut x [] .extend [e]) Dn σ H):cG (gv X.K "list" (jq X.K) (du x) (bY (bi W G (Ip.run G n) e E) dI)) Dn σ H:=by
 obtain⟨E0,N,pin,A,F,hp,f,h⟩:=h;rw[hG] at h;by_cases c:cq A[x]? = true
 rotate_left
 .rw[if_neg c] at h; exact h.elim
 rw[if_pos c] at h;obtain⟨k,xs,hx⟩:=o4 c;obtain⟨v,hv,ow⟩:=f.rel x _ hx;have dv:Den W H v (.lst xs):=ow.den bN λ_ _ _ e=>e;unfold cG gv;refine⟨v,hv,?_,?_⟩
 .cases dv with | @lst l ws _ h1 h2=>?_
  exact .inl ⟨rfl,ws,.inl h1⟩
 simp only[di,bL,Ip.R.toO,Ip.R.bind] at h;unfold bY;refine jn f ?_;cases q:Ip.eval G (Ip.run G n) A.sl e with
 | bad=>rw[q] at h; exact h
 | exc c fs=>rw[q] at h; exact λa H' r=>h a σ H' r
 | ok y=>
  rw[q] at h;simp only[dL] at h;have e1:(if ([y].all λv=>v.2.fb v.1)=true then A else frz (Ex.namess [e]) A)=Ip.settle e.names A y:=by
   unfold Ip.settle;simp
  rw[e1] at h;intro w H1 fv;cases q2:(Ip.settle e.names A y)[x]? with
  | none=>rw[q2] at h; exact h.elim
  | some o=>
   rw[q2] at h;cases o with
   | none=>exact h.elim
   | some z=>
    obtain⟨k',d⟩:=z;cases k' with
    | zero=>cases d <;> exact h.elim
    | succ k'=>
     cases d <;> try (exact h.elim)
     rename_i ys;simp only[dZ,Ip.tS] at h;obtain⟨j,dy⟩:=y;cases dy <;> try (exact h.elim)
     rename_i zs;simp only at h;by_cases hl:zs.all D.scal=true/\ys.length+zs.length<=SL
     .rw[if_pos hl] at h;obtain⟨l,ws,g1,g2,g3,g4,g5,g6⟩:=qz fv q2;rw[hv] at g1;cases g1;cases g5 with | @tup b vs _ t1 t2=>?_
      obtain⟨F',g7⟩:=g6 (ws++vs) (ys++zs) λS hS _=>hS.append (t2.scal hl.1);refine⟨l,b,ws,vs,rfl,rfl,g2,hK ▸ t1,by rw[g3,t2.length]; exact iz hl.2,h _ _ _ g7⟩
     .rw[if_neg hl] at h; exact h.elim
theorem Dens.erase {S:Hp}:∀{vs:av} {ds:ax} (j:Nat),Dens W S vs ds->Dens W S (vs.eraseIdx j) (ds.eraseIdx j)
 | _,_,_,.nil=>.nil
 | _,_,0,.cons _ q=>q
 | _,_,j+1,.cons h0 q=>.cons h0 (q.erase j)
theorem Dens.at {S:Hp}{d:D}:∀{vs:av} {ds:ax} (j:Nat),Dens W S vs ds->ds[j]? = some d->∃v,vs[j]? = some v/\Den W S v d
 | _,_,_,.nil,e=>by simp at e
 | v::_,_,0,.cons h q,e=>by
  cases e;exact⟨v,rfl,h⟩
 | _,_,j+1,.cons h0 q,e=>by
  obtain⟨v,e1,e2⟩:=q.at j (by simpa using e);exact⟨v,by simpa using e1,e2⟩
def FrF.toV {d:D}{w:V}(f:FrF W E0 N pin A σ H F)(hs:d.scal=true)(h:Den W H w d):FrV W E0 N pin A σ H (0,d) w:=by
 have e:(λb=>N b\/b∈([]:am))=N:=by
  funext b
  simp
 exact⟨[],F,by rw[e]; exact f,.nil,λb z=>by simp at z,⟨rfl,h.scal hs⟩⟩
end
section
variable {X:Cx}{W:Wd}{G:Pg}{n:Nat}{io:ak}{E:St->XK}{E0:Hp}{N:Addr->Prop}{pin:List (Nat×V)}{A:Fr}{σ:St}{H:Hp}{F:Nat->am}
theorem Dens.isI {S:Hp}:∀{vs:av} {ds:ax},Dens W S vs ds->ds.all D.isI=true->vs.all fF=true/\ds.all D.scal=true
 | _,_,.nil,_=>⟨rfl,rfl⟩
 | _,_,.cons (d:=d) h q,hs=>by
  rw[List.all_cons,tw] at hs;obtain⟨i1,i2⟩:=q.isI hs.2;cases d with
  | int i=>
   rw[h.int_inv,List.all_cons,List.all_cons,i1,i2];exact⟨rfl,rfl⟩
  | _=>cases hs.1
def BL {x:Nat}{e:Ex}{Dn:Ends}(h:bO W G n io E (.mut x [] .remove [e]) Dn σ H):cG (gv X.K "list" gc (du x) (bY (bi W G (Ip.run G n) e E) dI)) Dn σ H:=by
 obtain⟨E0,N,pin,A,F,hp,f,h⟩:=h;rw[hG] at h;by_cases c:cq A[x]? = true
 rotate_left
 .rw[if_neg c] at h; exact h.elim
 rw[if_pos c] at h;obtain⟨k,xs,hx⟩:=o4 c;obtain⟨v,hv,ow⟩:=f.rel x _ hx;have dv:Den W H v (.lst xs):=ow.den bN λ_ _ _ e=>e;unfold cG gv;refine⟨v,hv,?_,?_⟩
 .cases dv with | @lst l ws _ h1 h2=>?_
  exact .inl ⟨rfl,ws,.inl h1⟩
 simp only[di,bL,Ip.R.toO,Ip.R.bind] at h;unfold bY;refine jn f ?_;cases q:Ip.eval G (Ip.run G n) A.sl e with
 | bad=>rw[q] at h; exact h
 | exc c fs=>rw[q] at h; exact λa H' r=>h a σ H' r
 | ok y=>
  rw[q] at h;simp only[dL] at h;have e1:(if ([y].all λv=>v.2.fb v.1)=true then A else frz (Ex.namess [e]) A)=Ip.settle e.names A y:=by
   unfold Ip.settle;simp
  rw[e1] at h;intro w H1 fv;cases q2:(Ip.settle e.names A y)[x]? with
  | none=>rw[q2] at h; exact h.elim
  | some o=>
   rw[q2] at h;cases o with
   | none=>exact h.elim
   | some z=>
    obtain⟨k',d⟩:=z;cases k' with
    | zero=>cases d <;> exact h.elim
    | succ k'=>
     cases d <;> try (exact h.elim)
     rename_i ys;simp only[dZ,Ip.uy] at h;obtain⟨j,dy⟩:=y;cases dy <;> try (exact h.elim)
     rename_i i;simp only at h;by_cases hl:ys.all D.isI=true
     .rw[if_pos hl] at h;cases hf:D.find (.int i) ys with
      | none=>rw[hf] at h; exact h.elim
      | some j=>
       rw[hf] at h;obtain⟨l,ws,g1,g2,g3,g4,g5,g6⟩:=qz fv q2;rw[hv] at g1;cases g1;obtain⟨i1,i2⟩:=g4.isI hl;have fi:=Dens.find g5 rfl g4 i2;have e5:=g5.int_inv;subst e5;obtain⟨F',g7⟩:=g6 (ws.eraseIdx j) (ys.eraseIdx j) λS hS _=>hS.erase j;exact⟨l,ws,i,j,rfl,rfl,g2,i1,fi.trans hf,h _ _ _ g7⟩
     .rw[if_neg hl] at h; exact h.elim
def uP {d:D}(k:Nat)(h:d.scal=true):D.fb k d=true:=by
 cases d <;> simp at h <;> cases k <;> rfl
def w8 {x j:Nat}{e:Ex}{Dn:Ends}(h:bO W G n io E (.mut x [] .insert [e,.var j]) Dn σ H):cG (gv X.K "list" fS (du x) (bY (bi W G (Ip.run G n) e E) (bY (du j) dI))) Dn σ H:=by
 obtain⟨E0,N,pin,A,F,hp,f,h⟩:=h;rw[hG] at h;by_cases c:cq A[x]? = true
 rotate_left
 .rw[if_neg c] at h; exact h.elim
 rw[if_pos c] at h;obtain⟨k,xs,hx⟩:=o4 c;obtain⟨v,hv,ow⟩:=f.rel x _ hx;have dv:Den W H v (.lst xs):=ow.den bN λ_ _ _ e=>e;unfold cG gv;refine⟨v,hv,?_,?_⟩
 .cases dv with | @lst l ws _ h1 h2=>?_
  exact .inl ⟨rfl,ws,.inl h1⟩
 simp only[di,bL,Ip.R.toO,Ip.R.bind] at h;unfold bY;refine jn f ?_;cases q:Ip.eval G (Ip.run G n) A.sl e with
 | bad=>rw[q] at h; exact h
 | exc c fs=>rw[q] at h; exact λa H' r=>h a σ H' r
 | ok y=>
  rw[q] at h;cases qj:Ip.eval G (Ip.run G n) A.sl (.var j) with
  | bad=>rw[qj] at h; exact h.elim
  | exc c fs=>
   rw[Ip.ip] at qj;split at qj <;> cases qj
  | ok u=>
   rw[qj] at h;simp only[dL] at h;rw[Ip.ip] at qj;obtain⟨d,hd,eu⟩:∃d,A.sl[j]? = some (some d)/\u=(0,d):=by
    split at qj
    .rename_i d hd; cases qj; exact⟨d,hd,rfl⟩
    .cases qj
   subst eu;obtain⟨kj,hj⟩:=mf hd;generalize hB:(if ([y,((0:Nat),d)].all λv=>v.2.fb v.1)=true then A else frz (Ex.namess [e,.var j]) A)=B at h;cases q2:B[x]? with
   | none=>rw[q2] at h; exact h.elim
   | some o=>
    rw[q2] at h;cases o with
    | none=>exact h.elim
    | some z=>
     obtain⟨k',d'⟩:=z;cases k' with
     | zero=>cases d' <;> exact h.elim
     | succ k'=>
      cases d' <;> try (exact h.elim)
      rename_i ys;simp only[dZ,Ip.sd] at h;obtain⟨jy,dy⟩:=y;cases dy <;> try (exact h.elim)
      rename_i i;simp only at h;by_cases hl:0<=i/\i.toNat<=ys.length/\ys.length<SL/\d.scal=true
      .rw[if_pos hl] at h;have b1:D.fb jy (.int i)=true:=uP jy rfl;have b2:D.fb 0 d=true:=uP 0 hl.2.2.2;have eB:B=A:=by
        rw[<-hB,if_pos (by simp only[List.all_cons,List.all_nil,b1,b2,Bool.and_self])]
       rw[eB] at h q2;intro w H1 fv;have es:Ip.settle e.names A (jy,.int i)=A:=by
        unfold Ip.settle;simp[b1]
       rw[es] at fv;obtain⟨F1,f1,d1⟩:=fv.drop;have ew:=d1.int_inv;subst ew;obtain⟨vj,hσj,oj⟩:=f1.rel j _ hj;have dj:Den W H1 vj d:=oj.den bN λ_ _ _ e=>e;obtain⟨l,ws,g1,g2,g3,g4,g5,g6⟩:=qz (f1.toV hl.2.2.2 dj) q2;rw[hv] at g1;cases g1;obtain⟨F',g7⟩:=g6 (ws.take i.toNat++vj::ws.drop i.toNat) (ys.take i.toNat++d::ys.drop i.toNat) λS hS hw=>(hS.take _).append (.cons hw (hS.drop _));exact⟨vj,hσj,l,ws,i,vj,rfl,rfl,g2,hl.1,by rw[g3]; exact hl.2.1,by rw[g3]; exact dX hl.2.2.1 (iz (bD _)),h _ _ _ g7⟩
      .rw[if_neg hl] at h; exact h.elim
end
section
variable {X:Cx}{W:Wd}{G:Pg}{n:Nat}{io:ak}{E:St->XK}{E0:Hp}{N:Addr->Prop}{pin:List (Nat×V)}{A:Fr}{σ:St}{H:Hp}{F:Nat->am}
def FrX.freeze {c:Nat}{fs:List aJ}{e:Addr}(h:FrX W E0 N pin A σ H c fs e):FrX W E0 N pin (excA A fs) σ H c fs e:=by
 obtain⟨F,f,he,C,vs,h1,h2,h3⟩:=h;unfold excA;split
 .exact⟨F,f,he,C,vs,h1,h2,h3⟩
 .rw[lH];exact⟨_,f.frz _,⟨he.1,λz=>he.2 (kM z)⟩,C,vs,h1,h2,h3.mono pP⟩
def Ef {c:Nat}{es:aF}{Dn:Ends}{fl:ak}(hK:W.K=X.K)(cf:CF W fl)(h:bO W G n io E (.rais c es) Dn σ H):fJ X.K (bi W G (Ip.run G n) (.make c es) E) E Dn σ H:=by
 obtain⟨E0,N,pin,A,F,hp,f,h⟩:=h;rw[Ip.ti] at h;unfold fJ;refine mi f h λx ex hk v H' hZz=>?_;obtain⟨fp,F1,f1,nd,fr,o⟩:=hZz;obtain⟨kx,d⟩:=x;cases kx with
 | zero=>cases d <;> exact hk.elim
 | succ kx=>
  have hd:∃c' fs,d=.exc c' fs:=by
   cases d <;> first | exact⟨_,_,rfl⟩ | exact hk.elim
  obtain⟨c',fs,rfl⟩:=hd;simp only[Ip.gk] at hk;obtain⟨a,C,nw,vs,fq,rfl,e2,⟨hC,hnw⟩,e3,e4⟩:=o;subst hnw;obtain⟨ic,_⟩:=cf.exc c' C hC;obtain⟨fI,tl,T⟩:=ic.xc;have ha:a∈fp:=by rw[e4]; exact bW
  have nd':=nd;rw[e4] at nd';obtain⟨aq,ndq⟩:=Ft.mp nd';have up:∀b,b≠a->(L2.upd H' a (.exc C false vs)) b=H' b:=λb nb=>bK nb;have sub:Sub (hid (aQ (λb=>N b\/b∈fp) F1) H') (hid (aQ N F1) (L2.upd H' a (.exc C false vs))):=λb u e=>by
   obtain⟨g1,g2⟩:=aW.mp e;have ba:b≠a:=λz=>g1 (.inl (.inr (z ▸ ha)));refine aW.mpr ⟨λz=>g1 (z.imp .inl id),by rw[up b ba]; exact g2⟩
  refine⟨a,C,tl,vs,rfl,e2,hK ▸ T.toXO,hk a σ _ (FrX.freeze ⟨F1,?_,⟨(fr a ha).1,λz=>z.elim (fr a ha).2 λ⟨j,y⟩=>(f1.fr j a y).2 (.inr ha)⟩,C,vs,bX,hC,?_⟩)⟩
  .refine⟨λb u e=>?_,λb z=>?_,f1.len,f1.pn,f1.nd,f1.dj,λi b hb=>⟨(f1.fr i b hb).1,λz=>(f1.fr i b hb).2 (.inl z)⟩,λi y hy=>?_,f1.em⟩
   .rw[up b λz=>by rw[z,(fr a ha).1] at e; cases e]; exact f1.sub b u e
   .by_cases q:b=a
    .rw[q,bX]; simp
    .rw[up b q]; exact f1.nok b (.inl z)
   .obtain⟨w,h1,h2⟩:=f1.rel i y hy;exact⟨w,h1,h2.mono sub λb hb u e=>by rw[up b λz=>(f1.fr i b hb).2 (.inr (z ▸ ha))]; exact e⟩
  .refine e3.dens λv d g hg o=>o.den sub λb hb u e=>?_;have bq:=hg b hb;have ba:b≠a:=λz=>aq (z ▸ bq);have bf:b∈fp:=by rw[e4]; exact bU _ bq
   refine aW.mpr ⟨λz=>?_,by rw[up b ba]; exact e⟩;rcases z with z | ⟨j,z⟩
   .exact (fr b bf).2 z
   .exact (f1.fr j b z).2 (.inr bf)
def pr {Q:av->Hp->Prop}{es:aF}{Dn:Ends}{k:aw->O}(f:FrF W E0 N pin A σ H F)(h:PostS W E0 N pin E Dn ((evals G (Ip.run G n) A.sl es).toO A k))
  (ok:∀xs,evals G (Ip.run G n) A.sl es=.ok xs->PostS W E0 N pin E Dn (k xs)->∀vs H',FrF W E0 N pin A σ H' F->Dens W H' vs (xs.map (·.2))->Q vs H'):bT W G (Ip.run G n) es E σ H Q:=by
 have f1:=f.frz (Ex.namess es);have hN:NOk (aQ N (bC (Ex.namess es) F)) H:=λb z=>z.elim (f.nok b) λ⟨j,q⟩=>f1.dom q;refine⟨aQ N (bC (Ex.namess es) F),mask (Ex.namess es) A.sl,hN,λi d hi=>?_,?_⟩
 .obtain⟨h1,h2⟩:=oF hi;obtain⟨k,h3⟩:=mf h2;exact f.see h1 h3
 rw[<-zAG (a:=A.sl) es λi hi=>nG hi];cases q:evals G (Ip.run G n) A.sl es with
 | bad=>rw[q] at h; exact h
 | exc c fs=>rw[q] at h; exact λa H' r=>h a σ H' (f.excIn r)
 | ok xs=>
  rw[q] at h;intro vs H' r;have g:=f.grow r.1 (fp:=[]) λb z=>by simp at z
  have:(λb=>N b\/b∈([]:am))=N:=funext λb=>propext (by simp);rw[this] at g;exact ok xs q h vs H' g ((r.dens hN).mono bN)
def A9 {es:aF}{Dn:Ends}{fl:ak}(hK:W.K=X.K)(cf:CF W fl)(hl:es.length<=100)(h:bO W G n io E (.xinit es) Dn σ H):cG (fO X.K (bT W G (Ip.run G n) es E)) Dn σ H:=by
 obtain⟨E0,N,pin,A,F,hp,f,h⟩:=h;rw[Ip.EC] at h;unfold cG fO;refine pr f h λxs ex hk vs H' f' dv=>?_;have hlen:=iZ ex;match xs,vs,dv,hk with
 | [],_,_,hk=>exact hk.elim
 | (k,d)::xs,v::vs,.cons h1 h2,hk=>
  cases h1 <;> try (exact hk.elim)
  rename_i a C nw c ws ds e1 e2 e3;obtain⟨ic,_⟩:=cf.exc c C e2;obtain⟨fI,tl,T⟩:=ic.xc;refine⟨a,C,fI,tl,nw,ws,vs,rfl,?_,e1,hK ▸ T,hk _ _ _ f'⟩;rw[h2.length,Fg];rw[List.length_cons] at hlen;omega
def FrX.caught {c i x:Nat}{fs:List aJ}{e:Addr}(h:FrX W E0 N pin A σ H c fs e)(hx:∀p∈pin,p.1≠x)(hi:∀p∈pin,p.1≠i)(hix:i≠x)(hl:x<A.length) :
  ∃F,FrF W E0 N pin ((A.set x (some (0,.exc c fs))).set i none) (((σ.set i (some (.ref e))).set x (some (.ref e))).set i none) H F:=by
 obtain⟨F,f,he,C,vs,h1,h2,h3⟩:=h;have hd:Den W (hid (aQ N F) H) (.ref e) (.exc c fs):=.exc (aW.mpr ⟨he.2,h1⟩) h2 h3;have g:=f.set0 hd hx hl;have sub:Sub (hid (aQ N (bC [x] F)) H) (hid (aQ N (bC [i] (bC [x] F))) H):=pP;have e1:((σ.set i (some (.ref e))).set x (some (.ref e))).set i none=(σ.set x (some (.ref e))).set i none:=by
  apply GH;intro j;by_cases z:i=j
  .subst z;simp only[List.getElem?_set_self',Ff (λy=>hix y.symm)];simp
  .rw[Ff z,Ff z];by_cases y:x=j
   .subst y;simp[List.getElem?_set]
   .rw[Ff y,Ff y,Ff z]
 rw[e1];refine⟨bC [i] (bC [x] F),g.sub,g.nok,by simpa using g.len,λp hp=>by rw[Ff λz=>hi p hp z.symm]; exact g.pn p hp,λj=>?_,λj k b q1 q2=>g.dj j k b (fk q1).2 (fk q2).2,λj b hb=>g.fr j b (fk hb).2,λj y hy=>?_,λj hj=>?_⟩
 .unfold bC;split
  .exact .nil
  .exact g.nd j
 .by_cases z:j=i
  .subst z;by_cases w:j<(A.set x (some (0,.exc c fs))).length
   .rw[Fj w] at hy; cases hy
   .rw[FS (by rw[Fu]; omega)] at hy; cases hy
  .rw[Ff λy=>z y.symm] at hy;obtain⟨w,k1,k2⟩:=g.rel j y hy;refine⟨w,by rw[Ff λy=>z y.symm]; exact k1,?_⟩;have:bC [i] (bC [x] F) j=bC [x] F j:=by
    show (if j∈[i] then [] else bC [x] F j)=_;rw[if_neg (by simpa using z)]
   rw[this];exact k2.mono sub λ_ _ _ e=>e
 .by_cases z:j=i
  .show (if j∈[i] then [] else bC [x] F j)=_;rw[if_pos (by simpa using z)]
  .show (if j∈[i] then [] else bC [x] F j)=_;rw[if_neg (by simpa using z)];exact g.em j λy w=>hj y (by rw[Ff λy=>z y.symm]; exact w)
def zj {b:List Ip.S}{c i x:Nat}{Wa:Addr}{Dn:Ends}(hcl:∀c' C fs,W.xA c'=some C->bc G (.exc c' fs) (.cls c)=true->∃tl,XO X.K C tl/\Wa∈C::tl)(h:bO W G n io E (.tryE b c i x) Dn σ H) :
  jS X.K Wa i (λEc=>dQ W G n io Ec b) (gI (du i) (dH x)) Dn σ H:=by
 obtain⟨E0,N,pin,A,F,hp,f,h⟩:=h;rw[Ip.uH] at h;unfold jS;refine⟨E0,N,pin,A,F,hp,f,?_⟩;cases q:Ip.execs G (Ip.run G n) io A b with
 | nx A'=>rw[q] at h; exact h
 | ret k d A'=>rw[q] at h; exact h
 | brk A'=>rw[q] at h; exact h
 | cnt A'=>rw[q] at h; exact h
 | bad=>rw[q] at h; exact h
 | exc c' fs A'=>
  rw[q] at h;simp only[Ip.iD] at h;by_cases ht:bc G (.exc c' fs) (.cls c)=true
  rotate_left
  .rw[if_neg ht] at h; exact h.elim
  rw[if_pos ht] at h;unfold cC at h;by_cases c1:io.contains x=false/\x<A'.length
  rotate_left
  .rw[if_neg c1] at h; exact h.elim
  rw[if_pos c1] at h;simp only[O.seq] at h;by_cases c2:io.contains i=false/\i≠x/\i<(A'.set x (some (0,.exc c' fs))).length
  rotate_left
  .rw[if_neg c2] at h; exact h.elim
  rw[if_pos c2] at h;intro e σ1 H1 fx;obtain⟨F1,f1,he,C,vs,g1,g2,g3⟩:=id fx;obtain⟨tl,xo,hin⟩:=hcl c' C fs g2 ht;have il:i < σ1.length:=by rw[f1.len]; have:=c2.2.2; rw[Fu] at this; exact this
  refine⟨e,C,tl,vs,rfl,g1,xo,hin,.ref e,Fj il,?_⟩;obtain⟨F2,f2⟩:=fx.caught (nZ hp c1.1) (nZ hp c2.1) c2.2.1 c1.2;exact h _ _ _ f2
end
structure GT (W:Wd)(G:Pg)(T:Tb)(mg:Str->aA):Prop where
 db:(T.wb == ("__debug__" : Str))=false
 wb:∃Wa tlW,mg T.wb=some (.ref Wa)/\XInit W.K Wa/\XO W.K Wa tlW/\∀c c' C fs,T.cls.lookup T.wb=some c->W.xA c'=some C->bc G (.exc c' fs) (.cls c)=true->∃tl,XO W.K C tl/\Wa∈C::tl
structure Gs (W:Wd)(G:Pg)(T:Tb)(n:Nat)(E:St->XK)(sc:Scope)(N:ar)(X:Cx):Prop where
 gd:Gd W G T n E sc N X
 gt:GT W G T X.mg
 rais:mN X E
 own:PassesOwn (model X.prog X.w) X.A X.env X.xe
 stk:∃L outer,X.stack=X.env::outer/\X.env.frame=some L
 scq:X.env.scope=sc
section
variable {W:Wd}{G:Pg}{T:Tb}{n:Nat}{io:ak}{m:Nat}{E:St->XK}{sc:Scope}{N:ar}{X:Cx}
def jP {st:Stmt}{i:Nat}:PS X st (bO W G n io E (.set i .bad)):=λpins s σ H Dn I ⟨_,_,_,_,_,_,_,h⟩=>by
 rw[Ip.ku,eS] at h; exact h.elim
def z8 {st:Stmt}:PS X st (bO W G n io E (.ex .bad)):=λpins s σ H Dn I ⟨_,_,_,_,_,_,_,h⟩=>by
 rw[Ip.qG,eS] at h; exact h.elim
def uf (e:Expr):(∃a b c d,e=.ListComp a b c d)\/(∀T sc N m,cE T sc N m e=.bad)\/∀t l env,swapsWith e t l env=pure false:=by
 cases e <;> first
  | exact .inl ⟨_,_,_,_,rfl⟩
  | exact .inr (.inr λ_ _ _=>rfl)
  | (refine .inr (.inl λT sc N m=>?_); cases m <;> rfl)
def Av (g:Gs W G T n E sc N X)(x:Str)(p:Pos)(e:Expr)(pos:Pos)(i:Nat)(hl:bF sc x=true)(hi:pos? x N=some i):PS X (.Assign [.Name x p] e pos) (bO W G n io E (.set i (cE T sc N m e))):=by
 obtain⟨l1,l2⟩:=g.gd.loc x hl;have hN:X.N.Nodup:=by rw[g.gd.nm]; exact g.gd.nd
 have hx:X.N[i]? = some x:=by rw[g.gd.nm]; exact pos?_get hi
 rcases uf e with ⟨el,gs,scope,cp,rfl⟩ | hb | hs
 .have hsw:∃b,swapsWith (.ListComp el gs scope cp) (some (.Name x p)) pos.line X.env=pure b:=⟨_,rfl⟩
  obtain⟨b,hsw⟩:=hsw;cases b with
  | false=>exact (r8 hN hx l1 ((eU m).e g.gd _) hsw l2).mono λDn σ H h=>p7 h
  | true=>
   cases m with
   | zero=>exact jP
   | succ m=>
    have ih:=eU (W:=W) (G:=G) (T:=T) (n:=n) m;match gs with
    | []=>exact jP
    | ⟨_,_,_,_⟩::_::_=>exact jP
    | [⟨tg,iter,ifs,as⟩]=>
     simp only[Ip.uC];by_cases h:(Ip.c9 sc N (Ip.aU scope) (Ip.bn N scope) scope&&as == 0&&decide (ifs.length<=1))=true
     rotate_left
     .rw[if_neg h]; exact jP
     rw[if_pos h];simp only[tw,Fi,Fw] at h;obtain⟨⟨hb,has⟩,hln⟩:=h;subst has;cases ht:cU scope (Ip.aU scope) tg with
     | none=>exact jP
     | some t=>
      by_cases h2:(dY (cI T sc N m iter).1 t&&(Ip.cZ t).all (λi=>(Ip.bn N scope)[i]? == some none))=true
      rotate_left
      .simp only[h2]; exact jP
      simp only[h2,if_true];rw[tw] at h2;rcases qN iter with ⟨a,b,c,rfl⟩ | hs
      .rintro pins s σ H Dn I ⟨_,_,_,_,_,_,_,q⟩;rw[Ip.ku,Ip.lh,qE,bL,eS] at q;exact q.elim
      .have cp:=vf (e:=el) ih g.gd hb hln ht h2.1 h2.2;exact (Ek g.gd.calm cp.hS hN hx l1 cp.hi cp.hg cp.ht cp.he hsw l2 (hs X.env)).mono λDn σ H h=>sL g.gd.K cp.hx (p7 h)
 .rw[hb]; exact jP
 .exact (r8 hN hx l1 ((eU m).e g.gd e) (hs _ _ _) l2).mono λDn σ H h=>p7 h
def vJ (g:Gs W G T n E sc N X)(e:Expr)(pos:Pos)(hl:∀a b c d,e≠.ListComp a b c d):PS X (.Expr e pos) (bO W G n io E (.ex (cE T sc N m e))):=by
 rcases uf e with ⟨a,b,c,d,rfl⟩ | hb | hs
 .exact absurd rfl (hl a b c d)
 .rw[hb]; exact z8
 .exact (k6 ((eU m).e g.gd e) (hs _ _ _)).mono λDn σ H h=>qP h
def vU {o:Expr}{f:Str}{p:Pos}(e:Expr)(l:Nat)(env:Env):swapsWith e (some (.Attribute o f p)) l env=pure false:=by
 cases e <;> rfl
def yR (g:Gs W G T n E sc N X)(es:au)(k:Nat)(tp:Pos)(e:Expr)(pos:Pos)(is:ak)(hc:Ip.fP e=true)(ht:cU sc N (.Tuple es k tp)=some (.many is)):PS X (.Assign [.Tuple es k tp] e pos) (bO W G n io E (.setT is (cE T sc N m e))):=by
 cases e with
 | Call f args kws cp=>exact (tG ((eU m).e g.gd _) (ot g.gd ht)).mono λDn σ H h=>uA g.gd.K h
 | Name x p=>exact (tG ((eU m).e g.gd _) (ot g.gd ht)).mono λDn σ H h=>uA g.gd.K h
 | _=>cases hc
def xV (g:Gs W G T n E sc N X)(x:Str)(xp:Pos)(f:Str)(ap:Pos)(e:Expr)(pos:Pos)(k j:Nat)(hv:bj sc x=true)(hok:aR x=true)(hk:pos? x N=some k)(hj:pos? f T.att=some j)(hf:T.fl.contains j=true) :
  PS X (.Assign [.Attribute (.Name x xp) f ap] e pos) (bO W G n io E (.sfld k j (cE T sc N m e))):=by
 unfold aR at hok;simp only[tw,Hx] at hok;have hx:X.N[k]? = some x:=by rw[g.gd.nm]; exact pos?_get hk
 have po:=nV (pos:=xp) hx (g.gd.vis x hv) hok.1 hok.2;have he:=(eU m).e g.gd e;have r1:=DG (f:=f) (pos:=pos) (pos':=ap) po he (vU e _ _);have r2:=yY (m:=f) (pos:=pos) (pos':=ap) po he (vU e _ _);intro pins s σ H Dn I h;have hnm:W.att[j]? = some f:=by rw[g.gd.gf.att]; exact pos?_get hj
 rcases Dx g.gd.K g.gd.gf.cf (by simpa using hf) hnm h with q | q
 .exact r1 pins s σ H Dn I q
 .exact r2 pins s σ H Dn I q
end
section
variable {W:Wd}{G:Pg}{T:Tb}{n:Nat}{io:ak}{m:Nat}{E:St->XK}{sc:Scope}{N:ar}{X:Cx}
def okN {x:Str}(h:aR x=true):(x == ("__debug__" : Str))=false/\(x == ("__classdict__" : Str))=false:=by
 unfold aR at h;simp only[tw,Hx] at h;exact h
def jN (g:Gs W G T n E sc N X){x:Str}{p:Pos}{i:Nat}(hv:bj sc x=true)(hok:aR x=true)(hi:pos? x N=some i):PE X (.Name x p) (du i):=
 nV (by rw[g.gd.nm]; exact pos?_get hi) (g.gd.vis x hv) (okN hok).1 (okN hok).2
def Bz (g:Gs W G T n E sc N X)(e:Expr)(pos:Pos)(h:¬nR (cE T sc N m e)=true):PS X (.Return (some e) pos) (bO W G n io E (.ret (cE T sc N m e))):=
 (rB ((eU m).e g.gd e)).mono λDn σ H=>wl λi z=>h (by rw[z]; rfl)
def BK (g:Gs W G T n E sc N X)(x:Str)(p pos:Pos)(i:Nat)(hv:bj sc x=true)(hok:aR x=true)(hi:pos? x N=some i):PS X (.Return (some (.Name x p)) pos) (bO W G n io E (.ret (.var i))):=
 (rB (jN g hv hok hi)).mono λDn σ H h=>Af h
def xJ (g:Gs W G T n E sc N X)(x s:Str)(k1 k3:Nat)(p1 p2 p3 pos:Pos)(i:Nat)(hv:bj sc x=true)(hok:aR x=true)(hi:pos? x N=some i):PS X (.Return (some (.Tuple [.Constant (.str s) k1 p1,.Name x p2] k3 p3)) pos) (bO W G n io E (.retP s i)):=
 (rB (pR (gr tm (gr (jN g hv hok hi) hY rfl) rfl))).mono λDn σ H h=>Ce h
def yx (pos:Pos):PS X (.Return none pos) (bO W G n io E (.ret (.cst .non))):=
 B5.mono λDn σ H h=>by
  obtain⟨N0,a,hN,hS,h⟩:=wl (λi=>by simp) h;rw[Ip.kY] at h;exact h _ _ (Res.of_flat (Sub.refl _) rfl .non)
def nu {e:Expr}{es:au}{cp:Pos}{env:Env}(ns:noStar (e::es)=true)(hl:es.length<29):((backTo cp (starEach (e::es) env)).all (λx=>!x.1)&&(backToKw cp (keywordEach [] env)).all (λx=>x.1.isSome)
   && decide ((e::es).length+([]:List Keyword).length+(if ([]:List Keyword).isEmpty then 0 else 1)<30))=true:=by
 rw[nY ns];show (true&&true&&decide (es.length+1+0+0<30))=true;rw[FB (by omega)]; rfl
def xF (g:Gs W G T n E sc N X)(x:Str)(xp mp cp pos:Pos)(e:Expr)(i:Nat)(hv:bj sc x=true)(hok:aR x=true)(hi:pos? x N=some i)(ns:noStar [e]=true)(hp:(mp.endLine == cp.line)=true) :
  PS X (.Expr (.Call (.Attribute (.Name x xp) "append" mp) [e] [] cp) pos) (bO W G n io E (.mut i [] .append [cE T sc N m e])):=by
 have s1:=(eM ns).1;exact (k6 (kL Gn PySem.F.slot_list_append PySem.F.type_list_append wz (jN g hv hok hi) (gr ((eU m).e g.gd e) hY (dE s1)) rfl (nu ns (by decide)) hp (dE s1) rfl) rfl).mono λDn σ H h=>Bm g.gd.K h
def xt (g:Gs W G T n E sc N X)(x:Str)(xp mp cp pos:Pos)(e:Expr)(i:Nat)(hv:bj sc x=true)(hok:aR x=true)(hi:pos? x N=some i)(ns:noStar [e]=true)(hp:(mp.endLine == cp.line)=true) :
  PS X (.Expr (.Call (.Attribute (.Name x xp) "extend" mp) [e] [] cp) pos) (bO W G n io E (.mut i [] .extend [cE T sc N m e])):=by
 have s1:=(eM ns).1;exact (k6 (kL Gn PySem.F.slot_list_extend PySem.F.type_list_extend xK (jN g hv hok hi) (gr ((eU m).e g.gd e) hY (dE s1)) rfl (nu ns (by decide)) hp (dE s1) rfl) rfl).mono λDn σ H h=>E4 g.gd.K h
def EK (g:Gs W G T n E sc N X)(x:Str)(xp mp cp pos:Pos)(e:Expr)(i:Nat)(hv:bj sc x=true)(hok:aR x=true)(hi:pos? x N=some i)(ns:noStar [e]=true)(hp:(mp.endLine == cp.line)=true) :
  PS X (.Expr (.Call (.Attribute (.Name x xp) "remove" mp) [e] [] cp) pos) (bO W G n io E (.mut i [] .remove [cE T sc N m e])):=by
 have s1:=(eM ns).1;exact (k6 (kL Gn PySem.F.slot_list_remove PySem.F.type_list_remove Eo (jN g hv hok hi) (gr ((eU m).e g.gd e) hY (dE s1)) rfl (nu ns (by decide)) hp (dE s1) rfl) rfl).mono λDn σ H h=>BL h
def xY (g:Gs W G T n E sc N X)(x y:Str)(xp mp cp pos yp:Pos)(e:Expr)(i j:Nat)(hv:bj sc x=true)(hok:aR x=true)(hi:pos? x N=some i)(hv2:bj sc y=true)(hok2:aR y=true)(hj:pos? y N=some j)(ns:noStar [e,.Name y yp]=true)(hp:(mp.endLine == cp.line)=true) :
  PS X (.Expr (.Call (.Attribute (.Name x xp) "insert" mp) [e,.Name y yp] [] cp) pos) (bO W G n io E (.mut i [] .insert [cE T sc N m e,.var j])):=by
 obtain⟨s1,s2⟩:=eM ns;have s3:=(eM s2).1;exact (k6 (kL Gn PySem.F.slot_list_insert PySem.F.type_list_insert Dh (jN g hv hok hi) (gr ((eU m).e g.gd e) (gr (jN g hv2 hok2 hj) hY (dE s3)) (dE s1)) rfl (nu ns (by simp)) hp (dE s1) rfl) rfl).mono λDn σ H h=>w8 h
def Ca (g:Gs W G T n E sc N X)(xp mp cp pos:Pos)(e:Expr)(es:au)(hg:bt sc T.wb=true)(ns:noStar (e::es)=true)(hl:es.length<29)(hp:mp.endLine=cp.line) :
  PS X (.Expr (.Call (.Attribute (.Name T.wb xp) "__init__" mp) (e::es) [] cp) pos) (bO W G n io E (.xinit ((e::es).map (cE T sc N m)))):=by
 obtain⟨Wa,tlW,hm,XI,XW,_⟩:=g.gt.wb;obtain⟨s1,s2⟩:=eM ns;exact (k6 (xy (g.gd.K ▸ XI) (g.gd.gl _ hg) hm ((eU m).args g.gd (e::es)) g.gt.db (dE s1) (k7 s2) (sZ rfl ns (by rw[List.length_cons]; omega) hp)) rfl).mono λDn σ H h=>
  A9 g.gd.K g.gd.gf.cf (by rw[Fg,List.length_cons]; omega) h
def AQ (g:Gs W G T n E sc N X)(x:Str)(args:au)(p cp pos:Pos)(c:Nat)(hg:bt sc x=true)(ns:noStar args=true)(hc:T.cls.lookup x=some c):PS X (.Raise (some (.Call (.Name x p) args [] cp)) none pos) (bO W G n io E (.rais c (args.map (cE T sc N m)))):=
 (A6 g.gd.calm g.rais (u7 (eU m) g.gd x args p cp c hg hc ns)).mono λDn σ H h=>Ef g.gd.K g.gd.gf.cf h
def ik (W:Wd)(G:Pg)(T:Tb)(n m:Nat):Prop:=∀{io:ak} {E:St->XK} {sc:Scope} {N:ar} {X:Cx},Gs W G T n E sc N X->∀st,PS X st (bO W G n io E (cS T sc N m st))
theorem jH (ih:ik W G T n m)(g:Gs W G T n E sc N X):∀sts:aG,PSs X sts (dQ W G n io E (sts.map (cS T sc N m)))
 | []=>wO
 | st::sts=>DM (ih g st) (jH ih g sts)
def pj (ih:ik W G T n m)(g:Gs W G T n E sc N X)(c:Expr)(a b:aG)(pos:Pos):PS X (.If c a b pos) (bO W G n io E (.iff (cT T sc N m c) (a.map (cS T sc N m)) (b.map (cS T sc N m)))):=
 (Ed ((eU m).t g.gd c) (jH ih g a) (jH ih g b)).mono λDn σ H h=>Aj h
def zB (ih:ik W G T n m)(g:Gs W G T n E sc N X)(c:Expr)(b:aG)(pos:Pos):PS X (.While c b [] pos) (bO W G n io E (.whl (cT T sc N m c) (b.map (cS T sc N m)))):=
 (zm g.own ((eU m).t g.gd c) (jH ih g b)).mono λDn σ H h=>B6 h
def AO {st:Stmt}{tg:Tg}{wk:Wk}{b:List Ip.S}:PS X st (bO W G n io E (.fo tg wk [.bad] b)):=λpins s σ H Dn I ⟨_,_,_,_,_,_,_,h⟩=>by
 rw[Ip.pz,bL,eS] at h; exact h.elim
def EO (ih:ik W G T n m)(g:Gs W G T n E sc N X)(tg it:Expr)(b:aG)(pos:Pos)(t:Tg)(ht:cU sc N tg=some t)(hw:dY (cI T sc N m it).1 t=true) :
  PS X (.For tg it b [] pos) (bO W G n io E (.fo t (cI T sc N m it).1 (cI T sc N m it).2 (b.map (cS T sc N m)))):=by
 rcases qN it with ⟨a,b',c,rfl⟩ | hs
 .rw[qE]; exact AO
 .exact (BA g.own g.gd.calm ((eU m).i g.gd tg it (uJ ht hw)) (ot g.gd ht) (jH ih g b) (hs X.env)).mono λDn σ H h=>EF g.gd.K h
def E3 (ih:ik W G T n m)(g:Gs W G T n E sc N X)(b:aG)(cp xp yp hp ap pos:Pos)(e x:Str)(k i j:Nat)(hg:bt sc T.wb=true)(hk:T.cls.lookup T.wb=some k)(hi:pos? e N=some i)(hj:pos? x N=some j)(hl:bF sc x=true)(he:sc.names.lookup e=some .local)(hok:aR e=true) :
  PS X (.Try b [.ExceptHandler (some (.Name T.wb cp)) (some e) [.Assign [.Name x xp] (.Name e yp) ap] hp] [] [] pos) (bO W G n io E (.tryE (b.map (cS T sc N m)) k i j)):=by
 obtain⟨Wa,tlW,hm,XI,XW,hcl⟩:=g.gt.wb;have hN:X.N.Nodup:=by rw[g.gd.nm]; exact g.gd.nd
 have hiX:X.N[i]? = some e:=by rw[g.gd.nm]; exact pos?_get hi
 have hjX:X.N[j]? = some x:=by rw[g.gd.nm]; exact pos?_get hj
 have heX:X.env.scope.names.lookup e=some .local:=by rw[g.scq]; exact he
 obtain⟨l1,l2⟩:=g.gd.loc x hl;refine (BG (tb:=λEc=>dQ W G n io Ec (b.map (cS T sc N m))) (ts:=gI (du i) (dH j)) hN hiX heX g.stk (g.gd.K ▸ XW) (g.gd.gl _ hg) hm (λxe pn Ec ps rt po=>?_) (λa=>?_) g.gt.db).mono λDn σ H h=>zj (λc' C fs h1 h2=>g.gd.K ▸ hcl k c' C fs hk h1 h2) h
 .refine jH (X:=X.tryCx xe pn) ih ?_ b;have gd':Gd W G T n Ec sc N (X.tryCx xe pn):=⟨g.gd.gf,g.gd.K,g.gd.vis,g.gd.loc,g.gd.gl,g.gd.fr,g.gd.nm,g.gd.nd,g.gd.calm,ps,g.gd.room⟩
  exact⟨gd',g.gt,rt,po,g.stk,g.scq⟩
 .exact wH (r8 (X:=X.markCx a) hN hjX l1 (nV (X:=X.markCx a) hiX (.inl heX) (okN hok).1 (okN hok).2) rfl l2)
def ps?_or {x:Str}{N:ar}{f:Nat->Ip.S}:ps? x N f=.bad\/∃i,pos? x N=some i/\ps? x N f=f i:=by
 unfold ps?;cases pos? x N with
 | none=>exact .inl rfl
 | some i=>exact .inr ⟨i,rfl,rfl⟩
def pc?_or {x:Str}{f:Nat->Ip.S}:pc? T x f=.bad\/∃i,T.cls.lookup x=some i/\pc? T x f=f i:=by
 unfold pc?;cases T.cls.lookup x with
 | none=>exact .inl rfl
 | some i=>exact .inr ⟨i,rfl,rfl⟩
def pq {st:Stmt}{x:Str}{N:ar}{f:Nat->Ip.S}(h:∀i,pos? x N=some i->PS X st (bO W G n io E (f i))):PS X st (bO W G n io E (ps? x N f)):=by
 rcases ps?_or (x:=x) (N:=N) (f:=f) with q | ⟨i,hi,q⟩
 .rw[q]; exact cx
 .rw[q]; exact h i hi
def vg {st:Stmt}{x:Str}{f:Nat->Ip.S}(h:∀i,T.cls.lookup x=some i->PS X st (bO W G n io E (f i))):PS X st (bO W G n io E (pc? T x f)):=by
 rcases pc?_or (T:=T) (x:=x) (f:=f) with q | ⟨i,hi,q⟩
 .rw[q]; exact cx
 .rw[q]; exact h i hi
def Bp (g:Gs W G T n E sc N X)(ts:au)(e:Expr)(pos:Pos):PS X (.Assign ts e pos) (bO W G n io E (cS T sc N (m+1) (.Assign ts e pos))):=by
 rw[Ip.E8];cases ts with
 | nil=>exact cx
 | cons t r=>
  unfold Ip.ke;dsimp only;by_cases hr:r.isEmpty=true
  rotate_left
  .rw[if_neg hr]; exact cx
  rw[if_pos hr];obtain rfl:=Gq.mp hr;cases q1:bH t with
  | some x=>
   obtain⟨p1,rfl⟩:=Ip.gH q1;dsimp only;by_cases hl:bF sc x=true
   .rw[if_pos hl]; exact pq λi hi=>Av g _ _ e pos i hl hi
   .rw[if_neg hl]; exact cx
  | none=>
   dsimp only;cases q3:Ip.ka t with
   | none=>
    dsimp only;cases q4:Ip.hU t with
    | none=>exact cx
    | some es=>
     obtain⟨k,tp,rfl⟩:=Ip.vN q4;dsimp only;by_cases hc:Ip.fP e=true
     rotate_left
     .rw[if_neg hc]; exact cx
     rw[if_pos hc];split
     .rename_i ht;exact yR g _ _ _ e pos _ hc ht
     .exact cx
   | some xf=>
    obtain⟨x,f⟩:=xf;obtain⟨p1,p2,rfl⟩:=Ip.E2 q3;dsimp only;by_cases hl:(bj sc x&&aR x)=true
    rotate_left
    .rw[if_neg hl]; exact cx
    rw[if_pos hl];rw[tw] at hl;refine pq λk hk=>?_;refine pq λj hj=>?_;by_cases hf:T.fl.contains j=true
    .simp only[hf,if_true];exact xV g _ _ _ _ e pos k j hl.1 hl.2 hk hj hf
    .simp only[hf]; exact cx
def Bj (g:Gs W G T n E sc N X)(e:Expr)(pos:Pos):PS X (.Expr e pos) (bO W G n io E (cS T sc N (m+1) (.Expr e pos))):=by
 rw[Ip.xu];unfold Ip.jI;cases qm:Ip.kD e with
 | some t=>
  obtain⟨x,mm,mp,args,cp⟩:=t;obtain⟨xp,rfl⟩:=Ip.zP qm;dsimp only;split
  .rename_i hc;simp only[tw,Fi] at hc;obtain⟨⟨h1,h2⟩,rfl⟩:=hc;unfold Ip.my;split
   .split
    .rename_i a hd;rw[tw] at hd;refine pq λk hk=>?_;exact xF g _ _ _ _ _ _ _ h1 h2 hk hd.1 hd.2
    .exact cx
   .exact cx
  .split
   .rename_i hc;simp only[tw,Fi] at hc;obtain⟨⟨h1,h2⟩,rfl⟩:=hc;unfold Ip.l9;split
    .split
     .rename_i hd;rw[tw] at hd;refine pq λk hk=>?_;exact xt g _ _ _ _ _ _ _ h1 h2 hk hd.1 hd.2
     .exact cx
    .exact cx
   .split
    .rename_i hc;simp only[tw,Fi] at hc;obtain⟨⟨h1,h2⟩,rfl⟩:=hc;unfold Ip.mI;split
     .rename_i a b;cases hb:bH b with
      | none=>exact cx
      | some y=>
       dsimp only;obtain⟨yp,rfl⟩:=Ip.gH hb;split
       .rename_i hd;simp only[tw] at hd;refine pq λk hk=>?_;refine pq λj hj=>?_;exact xY g _ _ _ _ _ _ _ _ k j h1 h2 hk hd.1.2 hd.2 hj hd.1.1.1 hd.1.1.2
       .exact cx
     .exact cx
    .split
     .rename_i hc;simp only[tw,Fi] at hc;obtain⟨⟨h1,h2⟩,rfl⟩:=hc;unfold Ip.lQ;split
      .split
       .rename_i hd;rw[tw] at hd;refine pq λk hk=>?_;exact EK g _ _ _ _ _ _ _ h1 h2 hk hd.1 hd.2
       .exact cx
      .exact cx
     .split
      .rename_i hc;unfold Ip.wv at hc;simp only[tw,Fi] at hc;obtain⟨⟨h1,rfl⟩,rfl⟩:=hc;unfold Ip.lP;split
       .exact cx
       .split
        .rename_i hd;simp only[tw,Fi,Fw] at hd;exact Ca g _ _ _ _ _ _ h1 hd.1.1 hd.1.2 hd.2
        .exact cx
      .exact vJ g _ pos λ_ _ _ _ z=>by cases z
 | none=>
  dsimp only;by_cases hL:Ip.lO e=true
  .rw[if_pos hL]; exact cx
  .rw[if_neg hL]; exact vJ g e pos λ_ _ _ _ z=>hL (by rw[z]; rfl)
def yr (g:Gs W G T n E sc N X)(o:aH)(pos:Pos):PS X (.Return o pos) (bO W G n io E (cS T sc N (m+1) (.Return o pos))):=by
 rw[Ip.wF];cases o with
 | none=>exact yx pos
 | some e=>
  unfold Ip.jO;dsimp only;cases q1:bH e with
  | some x=>
   obtain⟨p,rfl⟩:=Ip.gH q1;dsimp only;by_cases hc:(bj sc x&&aR x)=true
   .rw[if_pos hc];rw[tw] at hc;refine pq λk hk=>?_;exact BK g _ _ pos k hc.1 hc.2 hk
   .rw[if_neg hc]; exact cx
  | none=>
   dsimp only;cases qs:Ip.nN sc e with
   | none=>
    dsimp only;by_cases hb:nR (cE T sc N m e)=true
    .rw[if_pos hb]; exact cx
    .rw[if_neg hb]; exact Bz g e pos hb
   | some t=>
    obtain⟨s,x⟩:=t;dsimp only;obtain⟨k1,p1,p2,k3,p3,rfl,v1,v2⟩:=Ip.En qs;refine pq λk hk=>?_;exact xJ g x s k1 k3 p1 p2 p3 pos k v1 v2 hk
def xk (ih:ik W G T n m)(g:Gs W G T n E sc N X)(tg it:Expr)(b els:aG)(pos:Pos):PS X (.For tg it b els pos) (bO W G n io E (cS T sc N (m+1) (.For tg it b els pos))):=by
 simp only[Ip.wE,Ip.ky];split
 .exact cx
 .split
  .rename_i ht;split
   .rename_i hw;exact EO ih g tg it b pos _ ht hw
   .exact cx
  .exact cx
def y8 (g:Gs W G T n E sc N X)(e c:aH)(pos:Pos):PS X (.Raise e c pos) (bO W G n io E (cS T sc N (m+1) (.Raise e c pos))):=by
 rw[Ip.De];cases c with
 | some _=>exact cx
 | none=>
  cases e with
  | none=>exact cx
  | some e=>
   unfold Ip.ki;dsimp only;cases q:Ip.jX e with
   | none=>exact cx
   | some t=>
    obtain⟨x,args⟩:=t;obtain⟨p1,p2,rfl⟩:=Ip.DC q;dsimp only;by_cases hc:(bt sc x&&noStar args)=true
    .rw[if_pos hc];rw[tw] at hc;refine vg λk hk=>?_;exact AQ g _ _ _ _ pos k hc.1 hc.2 hk
    .rw[if_neg hc]; exact cx
def Dj (ih:ik W G T n m)(g:Gs W G T n E sc N X)(b:aG)(hs:List ExceptHandler)(els fin:aG)(pos:Pos):PS X (.Try b hs els fin pos) (bO W G n io E (cS T sc N (m+1) (.Try b hs els fin pos))):=by
 rw[Ip.xv];unfold Ip.jV;cases q:Ip.ii hs with
 | none=>exact cx
 | some t=>
  obtain⟨c,e,x,y⟩:=t;obtain⟨p1,p2,p3,p4,p5,rfl⟩:=Ip.yw q;simp only;split
  .rename_i hc;obtain⟨z1,z2,hc⟩:=hc;obtain rfl:=Gq.mp z1;obtain rfl:=Gq.mp z2;simp only[tw,Fi] at hc;obtain⟨⟨⟨⟨⟨h1,rfl⟩,rfl⟩,h4⟩,h5⟩,h6⟩:=hc;refine vg λk hk=>?_;refine pq λi hi=>?_;refine pq λj hj=>?_;exact E3 ih g b _ _ _ _ _ pos _ _ k i j h1 hk hi hj h5 h6 h4
  .exact cx
theorem vK (W:Wd)(G:Pg)(T:Tb)(n:Nat):∀m,ik W G T n m
 | 0=>λg st=>by exact cx
 | m+1=>λg st=>by
  have ih:ik W G T n m:=vK W G T n m;cases st with
  | Assign ts e pos=>exact Bp g ts e pos
  | Expr e pos=>exact Bj g e pos
  | Return o pos=>exact yr g o pos
  | If c a b pos=>exact pj ih g c a b pos
  | For tg it b els pos=>exact xk ih g tg it b els pos
  | While c b els pos=>
   rw[Ip.zA];by_cases he:els.isEmpty=true
   .rw[if_pos he];obtain rfl:=Gq.mp he;exact zB ih g c b pos
   .rw[if_neg he]; exact cx
  | Raise e c pos=>exact y8 g e c pos
  | Try b hs els fin pos=>exact Dj ih g b hs els fin pos
  | _=>exact cx
end
section
variable {W:Wd}{G:Pg}{T:Tb}{n:Nat}{P:Program}{w:World}{mg:Str->aA}{base:Heap}
theorem pF {S:Hp}:∀{vs:av} {ds:ax} {i:Nat} {d:D},Dens W S vs ds->ds[i]? = some d->∃v,vs[i]? = some v/\Den W S v d
 | _,_,_,_,.nil,h=>by simp at h
 | _,_,0,_,.cons h _,e=>by
  simp only[List.getElem?_cons_zero,F0] at e;subst e;exact⟨_,rfl,h⟩
 | _,_,i+1,_,.cons _ q,e=>by
  simp only[List.getElem?_cons_succ] at e ⊢;exact pF q e
def ue {F:Fn}{xs:aw}{i:Nat}{x:KD}(h:(bE F xs)[i]? = some (some x)):∃y,xs[i]? = some y/\x=if F.io.contains i then y else (0,y.2):=by
 unfold bE at h;by_cases hi:i<xs.length
 .rw[Hf (by rw[H0]; exact hi),GI,FH hi] at h;simp only[Option.map_some,F0] at h;refine⟨xs[i],FH hi,?_⟩;by_cases c:F.io.contains i=true
  .rw[if_pos c] at h ⊢; exact (cy h).symm
  .rw[if_neg c] at h ⊢; exact (cy h).symm
 .rw[List.getElem?_append_right (by rw[H0]; omega)] at h;have:=FN h;rw[List.mem_replicate] at this;cases this.2
def vv {F:Fn}{xs:aw}(h:xs.length=F.np)(h2:F.np<=F.ns):(bE F xs).length=F.ns:=by
 unfold bE;rw[Fx,H0,HD];omega
def nO {N:ar}{vs:av}{i:Nat}{v:V}(h:vs[i]? = some v):(start N vs)[i]? = some (some v):=by
 unfold start;have hi:i<vs.length:=(eO h).1;rw[Hf (by rw[Fg]; exact hi),Fv,h]; rfl
def B3 {N:ar}{vs:av}(h:vs.length<=N.length):(start N vs).length=N.length:=by
 unfold start;rw[Fx,Fg,HD]; omega
def wM {M:Addr->Prop}:aQ M (λ_=>[])=M:=funext λb=>propext ⟨λz=>z.elim id λ⟨_,y⟩=>by simp at y,.inl⟩
def x9 {S H:Hp}:Own W S H 99 .non .non []:=⟨rfl,.non⟩
def ye {S H:Hp}{k:Nat}{v:V}{fp:am}(h:Own W S H k v .non fp):v=.non:=by
 cases k with
 | zero=>obtain⟨_,h⟩:=h; cases h; rfl
 | succ k=>obtain⟨_,h⟩:=h; cases h; rfl
def FrX.out {E0:Hp}{N:Addr->Prop}{pin:List (Nat×V)}{A:Fr}{σ:St}{H:Hp}{c:Nat}{fs:List aJ}{e:Addr}(h:FrX W E0 N pin A σ H c fs e):ExcR W E0 N H c fs e:=by
 obtain⟨F,f,he,C,vs,h1,h2,h3⟩:=h;exact⟨f.sub,he.1,C,vs,h1,h2,h3.mono λb u z=>aW.mpr ⟨λy=>(aW.mp z).1 (.inl y),(aW.mp z).2⟩⟩
theorem wZ {H:Hp}{N:Addr->Prop}{o:O}{Q:VK}{E:XK}(h:match Ip.fin [] o with
  | .ret k d []=>∀v H',Res W H N H' (k,d) v->Q v H'
  | .exc c fs []=>∀e H',ExcR W H N H' c fs e->E (.ref e) none H'
  | _=>False):PostS W H N [] (λ_=>E) { nx:=λ_ H'=>Q .non H',rt:=Q } o:=by
 cases o with
 | nx A=>exact λσ H' F f=>h .non H' ⟨f.sub,[],.nil,λ_ z=>by simp at z,x9⟩
 | ret k d A=>
  rintro v σ H' ⟨fp,F,f,nd,fr,o⟩;refine h v H' ⟨f.sub,fp,nd,λb hb=>(fr b hb).1,o.mono (λb u z=>?_) λ_ _ _ e=>e⟩;exact aW.mpr ⟨λy=>(aW.mp z).1 (.inl y),(aW.mp z).2⟩
 | brk A=>exact h.elim
 | cnt A=>exact h.elim
 | exc c fs A=>exact λe σ H' x=>h e H' x.out
 | bad=>exact h.elim
theorem DB {H:Hp}{N:Addr->Prop}{f0:am}{v0:V}{o:O}{Q:VK}{E:XK}(h:match Ip.fin [0] o with
  | .ret k d [y]=>∀v H' (fp:am),Sub (hid (λb=>b∈f0) H) H'->fp.Nodup->(∀b∈fp,hid (λb=>b∈f0) H b=none)->Own W (hid (λb=>N b\/b∈fp) H') H' y.1 v0 y.2 fp->(d=.non->v=.non)->Q v H'
  | .exc c fs _=>∀e H',ExcR W (hid (λb=>b∈f0) H) N H' c fs e->E (.ref e) none H'
  | _=>False):PostS W (hid (λb=>b∈f0) H) N [(0,v0)] (λ_=>E) { nx:=λ_ H'=>Q .non H',rt:=Q } o:=by
 have key:∀{N':Addr->Prop} {A:Fr} {σ:St} {H':Hp} {F:Nat->am} {y:KD},FrF W (hid (λb=>b∈f0) H) N' [(0,v0)] A σ H' F->(∀b,N b->N' b)->A[0]? = some (some y)->Sub (hid (λb=>b∈f0) H) H'/\(F 0).Nodup/\(∀b∈F 0,hid (λb=>b∈f0) H b=none)/\Own W (hid (λb=>N b\/b∈F 0) H') H' y.1 v0 y.2 (F 0):=by
  intro N' A σ H' F y f hN hA;obtain⟨v,h1,h2⟩:=f.rel 0 y hA;have h3:=f.pn (0,v0) (by simp);rw[h1] at h3;cases h3;refine⟨f.sub,f.nd 0,λb hb=>(f.fr 0 b hb).1,h2.mono (λb u z=>?_) λ_ _ _ e=>e⟩;refine aW.mpr ⟨λy=>(aW.mp z).1 ?_,(aW.mp z).2⟩;exact y.elim (λq=>.inl (hN b q)) λq=>.inr ⟨0,q⟩
 cases o with
 | nx A=>
  intro σ H' F f;simp only[Ip.fin,outs] at h;cases q:A[0]? with
  | none=>rw[q] at h; exact h.elim
  | some o=>
   cases o with
   | none=>rw[q] at h; exact h.elim
   | some y=>
    rw[q] at h;obtain⟨a1,a2,a3,a4⟩:=key f (λ_ z=>z) q;exact h .non H' _ a1 a2 a3 a4 λ_=>rfl
 | ret k d A=>
  rintro v σ H' ⟨fp,F,f,nd,fr,o⟩;simp only[Ip.fin,outs] at h;cases q:A[0]? with
  | none=>rw[q] at h; exact h.elim
  | some o=>
   cases o with
   | none=>rw[q] at h; exact h.elim
   | some y=>
    rw[q] at h;obtain⟨a1,a2,a3,a4⟩:=key f (λ_ z=>.inl z) q;refine h v H' _ a1 a2 a3 a4 λz=>?_;subst z;exact ye o
 | brk A=>exact h.elim
 | cnt A=>exact h.elim
 | exc c fs A=>
  intro e σ H' x;simp only[Ip.fin,outs] at h;cases q:A[0]? with
  | none=>rw[q] at h; exact h.elim
  | some o=>
   cases o with
   | none=>rw[q] at h; exact h.elim
   | some y=>rw[q] at h; exact h e H' x.out
 | bad=>exact h.elim
def Cc {k:Nat}{F:Fn}{N:ar}{vs:av}{H:Hp}{Q:VK}{E:XK}(hF:G.fn k=some F)(hns:F.ns=N.length)(hnp:F.np<=F.ns)(h:gA W G (n+1) k F vs H Q E) :
  dQ W G n F.io (λ_=>E) F.body { nx:=λ_ H'=>Q .non H',rt:=Q } (start N vs) H:=by
 have hlen:=qZ hF h;have hsl:(start N vs).length=N.length:=B3 (by omega);rcases h with ⟨hio,M,xs,hM,dv,h⟩ | ⟨hio,M,x0,xs,v0,ws,f0,rfl,hM,nd,dj,ow,dv,h⟩
 .have hx:xs.length=F.np:=by rw[dv.length,Fg] at hlen; exact hlen
  rw[Ip.run,hF] at h;simp only[if_pos hx,hio] at h;refine⟨H,M,[],bE F xs,λ_=>[],λp hp=>by simp at hp,⟨λ_ _ e=>e,hM,by rw[hsl,vv hx hnp,hns],λp hp=>by simp at hp,λ_=>.nil,λi j b hb=>by simp at hb,λi b hb=>by simp at hb,λi x e=>?_,λ_ _=>rfl⟩,?_⟩
  .obtain⟨y,e1,e2⟩:=ue e;rw[hio] at e2;simp only[List.contains_nil,Fm,if_false] at e2;obtain⟨v,e3,e4⟩:=pF (i:=i) (d:=y.2) dv (by rw[Fv,e1]; rfl);refine⟨v,nO e3,?_⟩;rw[wM,e2];exact⟨rfl,e4⟩
  .rw[hio];exact wZ h
 .have hx:(x0::xs).length=F.np:=by rw[List.length_cons,dv.length,Fg] at hlen; rw[List.length_cons]; exact hlen
  rw[Ip.run,hF] at h;simp only[if_pos hx,hio] at h;have hh:aQ M (λi=>if i=0 then f0 else [])=λb=>M b\/b∈f0:=funext λb=>propext ⟨λz=>z.imp id λ⟨j,y⟩=>by
   by_cases q:j=0
   .simpa[q] using y
   .simp[q] at y,λz=>z.imp id λy=>⟨0,by simpa using y⟩⟩
  refine⟨hid (λb=>b∈f0) H,M,[(0,v0)],bE F (x0::xs),λi=>if i=0 then f0 else [],λp hp=>by simp at hp; rw[hp,hio]; simp,⟨λb u e=>(aW.mp e).2,hM,by rw[hsl,vv hx hnp,hns],λp hp=>?_,λi=>?_,λi j b h1 h2=>?_,λi b hb=>?_,λi x e=>?_,λi hi=>?_⟩,?_⟩
  .simp only[Fc] at hp;rw[hp];exact nO rfl
  .split
   .exact nd
   .exact .nil
  .split at h1
   .split at h2
    .omega
    .simp at h2
   .simp at h1
  .split at hb
   .exact⟨by unfold hid; exact if_pos hb,dj b hb⟩
   .simp at hb
  .obtain⟨y,e1,e2⟩:=ue e;rw[hio] at e2;rw[hh];cases i with
   | zero=>
    simp only[List.getElem?_cons_zero,F0] at e1;subst e1;rw[if_pos (by simp)] at e2;subst e2;exact⟨v0,nO rfl,by simpa using ow⟩
   | succ i=>
    simp only[List.getElem?_cons_succ] at e1;rw[if_neg (by simp)] at e2;obtain⟨v,e3,e4⟩:=pF (i:=i) (d:=y.2) dv (by rw[Fv,e1]; rfl);refine⟨v,nO (by simpa using e3),?_⟩;rw[e2];exact⟨by simp,e4⟩
  .split
   .rename_i z;subst z;exact absurd (show (bE F (x0::xs))[0]? = some (some x0) by simp[bE,hio]) (hi x0)
   .rfl
  .rw[hio];exact DB h
structure FunD (K:bm)(x qual:Str)(st:Stmt)(f:Addr)(fd:FuncData):Prop where
 ex:∃(oc:Value) (od:aE) (dV kV doc pm:Value) (an:aE) (cdv ct:Value) (osl:Array aA),
  fd=PySem.W.fnOf x qual (aO st) (aV st) (ce st) dV kV doc pm an cdv ct/\K.lookup f=some ⟨oc,od,.func fd,osl⟩/\PySem.W.codeIn K cdv qual=true
def FunD.okX {N:ar}{x qual:Str}{st:Stmt}{f:Addr}{fd:FuncData}{ps:ar}{k:Nat}{sp:Sp}{K:bm}(F:FunD K x qual st f fd)(S:FnScope N ps (ce st))(len:∀vs H Q E,sp vs H Q E->vs.length=ps.length)
  (hbody:∀(cdv:Value) (A:Around) (outer:List Env) (s:Shared) (H:Hp) (vs:av) (Q:VK) (E:XK),Room k (A.deeper (envOfC qual (ce st) s.heap.objs.size f cdv))->sp vs H Q E ->
   ∃t,PSs (fj (dO P w) P w K mg base N qual (ce st) f cdv A outer s H E) (aV st) t/\t { nx:=λ_ H'=>Q .non H',rt:=Q } (start N vs) H):FnOk P w K mg base (dO P w) (k+1) f fd ps sp:=by
 obtain⟨oc,od,dV,kV,doc,pm,an,cdv,ct,osl,rfl,lk,hcd⟩:=F.ex;exact AJ lk hcd S len λA outer s H vs Q E hr hsp=>hbody cdv A outer s H vs Q E hr hsp
structure DefAt (W:Wd)(T:Tb)(F:Fn)(a:Addr):Prop where
 ex:∃(x qual:Str) (st:Stmt) (fd:FuncData) (ps:ar) (io:ak),FunD W.K x qual st a fd/\FnScope (fm (aO st) (ce st)) ps (ce st)/\cF T io st=some F/\F.np=ps.length /\
  ∀m,m<=F.np->F.np - m<=F.dfl.length->∃(ds:ao) (dvs:av),Binds W.K fd ps ds/\Vals dvs ds/\∀S,Dens W S dvs (cH F m)
def Em {io:ak}{st:Stmt}{F:Fn}(h:cF T io st=some F):F.io=io/\F.ns=(fm (aO st) (ce st)).length/\F.np=(aO st).args.length/\F.body=(aV st).map (cS T (ce st) (fm (aO st) (ce st)) 60):=by
 unfold cF at h;split at h
 .obtain⟨ds,_,h2⟩:=dG h;subst h2;exact⟨rfl,rfl,rfl,rfl⟩
 .cases h
def Ae {a:Arguments}{sc:Scope}:a.args.length<=(fm a sc).length:=by
 unfold fm;rw[Fx,Fg]; omega
def wA {k:Nat}{F:Fn}{a:Addr}{x qual:Str}{st:Stmt}{fd:FuncData}{ps:ar}{io:ak}(hF:G.fn k=some F)(g:∀m,n=m+1->GF W G T m P w mg base)(gt:GT W G T mg)(fu:FunD W.K x qual st a fd)(S:FnScope (fm (aO st) (ce st)) ps (ce st))(hc:cF T io st=some F)(hnp:F.np=ps.length) :
  FnOk P w W.K mg base (dO P w) (rm n) a fd ps (gA W G n k F):=by
 obtain⟨c1,c2,c3,c4⟩:=Em hc;cases n with
 | zero=>
  refine fu.okX (k:=0) S (λvs H Q E h=>by rw[qZ hF h,hnp]) λcdv A outer s H vs Q E hr h=>?_;rcases h with ⟨_,_,_,_,_,q⟩ | ⟨_,_,_,_,_,_,_,_,_,_,_,_,_,q⟩
  .exact q.elim
  .exact q.elim
 | succ n=>
  refine fu.okX (k:=3 * n+3) S (λvs H Q E h=>by rw[qZ hF h,hnp]) λcdv A outer s H vs Q E hr h=>?_;refine⟨_,jH (io:=F.io) (E:=λ_=>E) (vK W G T n 60) (sc:=ce st) (N:=fm (aO st) (ce st)) ?_ (aV st),?_⟩
  .refine⟨⟨g n rfl,rfl,λy hy=>?_,λy hy=>?_,λy hy=>?_,λy hy=>hy,rfl,S.nd,rfl,passF,hr.mono (by unfold rm; omega)⟩,gt,jU,PassesOwn.leaving,⟨_,_,rfl,rfl⟩,rfl⟩
   .unfold bj at hy;simp only[FX,Fi] at hy;exact hy.elim (λz=>z.elim .inl λz=>.inr (.inl z)) λz=>.inr (.inr z)
   .unfold bF at hy;simp only[FX,Fi] at hy;exact⟨hy,.inl rfl⟩
   .unfold bt at hy;simp only[Fi] at hy;exact hy
  .rw[<-c4];exact Cc hF c2 (by rw[c3,c2]; exact Ae) h
def qQ {k:Nat}{F:Fn}{a:Addr}(hF:G.fn k=some F)(g:∀m,n=m+1->GF W G T m P w mg base)(gt:GT W G T mg)(d:DefAt W T F a):FI W G n P w mg base k F a:=by
 obtain⟨x,qual,st,fd,ps,io,fu,S,hc,hnp,dfl⟩:=d.ex;exact⟨fd,ps,wA hF g gt fu S hc hnp,dfl⟩
end
structure GF0 (W:Wd)(G:Pg)(T:Tb)(mg:Str->aA):Prop where
 cf:CF W T.fl
 att:W.att=T.att
 blt:∀x v,(x,v)∈eY->mg x=none/\bootBuiltins x=some v
 cst:∀x d,T.cst.lookup x=some d->(x == ("__debug__" : Str))=false/\∃u v,mg x=some u/\RelV v u/\d.flat=true/\∀S,Den W S v d
 fns:∀x k,T.fns.lookup x=some k->(x == ("__debug__" : Str))=false/\∃F a,G.fn k=some F/\mg x=some (.ref a)/\PySem.W.keepIn W.K (.ref a)=true/\DefAt W T F a
 cls:∀x c,T.cls.lookup x=some c->(x == ("__debug__" : Str))=false/\∃C,mg x=some (.ref C)/\∀Cl' f F,G.cl c=some Cl'->Cl'.init=some f->G.fn f=some F ->
  ∃a,DefAt W T F a/\if Cl'.isx=true then W.xA c=some C/\PySem.W.keepIn W.K (.ref C)=true/\∃tl,XC W.K C (.ref a) tl else W.iA c=some C/\Mk W.K C a
 meth:∀c Cl' m f F,G.cl c=some Cl'->Cl'.meths.lookup m=some f->G.fn f=some F->∀nm,W.att[m]? = some nm->∃C a,W.iA c=some C/\Meth W.K C nm a/\DefAt W T F a
 isB:∀x t,kr.lookup x=some t->mg x=none/\x ≠ "__name__" /\ (x == ("__debug__" : Str))=false/\∃nm,bootBuiltins x=some (.type nm)/\ci W G t (.type nm)
 isC:∀x c,T.cls.lookup x=some c->∃C,mg x=some (.ref C)/\ci W G (.cls c) (.ref C)
def xz {W:Wd}{G:Pg}{T:Tb}{P:Program}{w:World}{mg:Str->aA}{base:Heap}(g0:GF0 W G T mg)(gt:GT W G T mg):∀n,GF W G T n P w mg base:=by
 have step:∀n,(∀m,n=m+1->GF W G T m P w mg base)->GF W G T n P w mg base:=λn ih=>
  ⟨g0.cf,g0.att,g0.blt,g0.cst,λx k h=>by
   obtain⟨h1,F,a,h2,h3,h4,h5⟩:=g0.fns x k h;exact⟨h1,F,a,h2,h3,h4,qQ h2 ih gt h5⟩,λx c h=>by
   obtain⟨h1,C,h2,h3⟩:=g0.cls x c h;refine⟨h1,C,h2,λCl' f F q1 q2 q3=>?_⟩;obtain⟨a,h4,h5⟩:=h3 Cl' f F q1 q2 q3;exact⟨a,qQ q3 ih gt h4,h5⟩,λc Cl' m f F q1 q2 q3 nm q4=>by
   obtain⟨C,a,h1,h2,h3⟩:=g0.meth c Cl' m f F q1 q2 q3 nm q4;exact⟨C,a,h1,h2,qQ q3 ih gt h3⟩,g0.isB,g0.isC⟩
 intro n;induction n with
 | zero=>exact step 0 λm h=>by cases h
 | succ n ih=>exact step (n+1) λm h=>by cases h; exact ih
section
variable {W:Wd}{T:Tb}{F:Fn}{f:Addr}{x qual:Str}{st:Stmt}{oc dV kV doc pm cdv ct:Value}{od an:aE}{osl:Array aA}{ps:ar}{io:ak}
def BS (l:W.K.lookup f=some ⟨oc,od,.func (PySem.W.fnOf x qual (aO st) (aV st) (ce st) dV kV doc pm an cdv ct),osl⟩)(c:PySem.W.codeIn W.K cdv qual=true)
  (S:FnScope (fm (aO st) (ce st)) ps (ce st))(hc:cF T io st=some F)(hnp:F.np=ps.length)(hd:F.dfl=[])
  (hb:∀us:ao,us.length=ps.length->bindArgs (PySem.W.fnOf x qual (aO st) (aV st) (ce st) dV kV doc pm an cdv ct) ⟨us,[]⟩=pure (ps.zip us)):DefAt W T F f:=by
 refine⟨x,qual,st,_,ps,io,⟨oc,od,dV,kV,doc,pm,an,cdv,ct,osl,rfl,l,c⟩,S,hc,hnp,λm h1 h2=>⟨[],[],Binds.all hb,.nil,λS=>?_⟩⟩;unfold cH;rw[hd];simp;exact .nil
def Br {d:D}{v:V}{u:Value}(l:W.K.lookup f=some ⟨oc,od,.func (PySem.W.fnOf x qual (aO st) (aV st) (ce st) dV kV doc pm an cdv ct),osl⟩)(c:PySem.W.codeIn W.K cdv qual=true)
  (S:FnScope (fm (aO st) (ce st)) ps (ce st))(hc:cF T io st=some F)(hnp:F.np=ps.length)(hd:F.dfl=[d])(r:RelV v u)(dv:∀S,Den W S v d)
  (hb0:Binds W.K (PySem.W.fnOf x qual (aO st) (aV st) (ce st) dV kV doc pm an cdv ct) ps [])(hb1:Binds W.K (PySem.W.fnOf x qual (aO st) (aV st) (ce st) dV kV doc pm an cdv ct) ps [u]):DefAt W T F f:=by
 refine⟨x,qual,st,_,ps,io,⟨oc,od,dV,kV,doc,pm,an,cdv,ct,osl,rfl,l,c⟩,S,hc,hnp,λm h1 h2=>?_⟩;unfold cH;rw[hd] at h2 ⊢;by_cases e:F.np - m=0
 .refine⟨[],[],hb0,.nil,λS=>?_⟩;rw[e];exact .nil
 .have:F.np - m=1:=by simp at h2; omega
  refine⟨[u],[v],hb1,.cons r .nil,λS=>?_⟩;rw[this];exact .cons (dv S) .nil
theorem mem_of_lookup {o:Obj}{a:Addr}:∀{l:af},l.lookup a=some o->(a,o)∈l
 | [],h=>nomatch h
 | (y,j)::r,h=>by
  rw[List.lookup_cons] at h;cases e:a == y with
  | true=>
   rw[e] at h;rw[Fi] at e;cases h;rw[e];exact bW
  | false=>rw[e] at h; exact bU _ (mem_of_lookup h)
def fY (K:bm):Sp:=λvs H Q _=>∃(a:Addr) (ns:al),vs=[.ref a]/\SqL K H a (ns.map V.int)/\ns.length<=63/\∀H',Q (.bl true) H'
def Cw {G:Pg}{n k:Nat}(hio:F.io=[])(hno:(W.K.all λp=>!(p.2.cls == Value.type "list"))=true)(hr:∀ns:List Int,ns.length<=63->∃kk,Ip.run G n k [(0,.lst (ns.map D.int))]=.ret kk (.bl true) []) :
  ∀vs H Q E,fY W.K vs H Q E->gA W G n k F vs H Q E:=by
 rintro vs H Q E ⟨a,ns,e,hS,hl,hq⟩;subst e;obtain⟨kk,hr⟩:=hr ns hl;refine .inl ⟨hio,λ_=>False,[(0,.lst (ns.map D.int))],λ_ z=>z.elim,?_,?_⟩
 .have e:hid (λ_=>False) H=H:=funext λb=>by unfold hid; exact if_neg id
  rw[e];have hR:Rd H a (.lst (ns.map V.int)):=by
   rcases hS with h | ⟨o,its,m,h1,h2,_⟩
   .exact h
   .have:=eQ hno (a,o) (mem_of_lookup h1);rw[h2] at this;simp at this
  refine .cons (.lst hR ?_) .nil;clear hr hS hR hl;induction ns with
  | nil=>exact .nil
  | cons i ns ih=>exact .cons .int ih
 .rw[hr];rintro v H' ⟨_,fp,_,_,o⟩;have:v=.bl true:=by
   cases kk with
   | zero=>obtain⟨_,o⟩:=o; cases o; rfl
   | succ kk=>obtain⟨_,o⟩:=o; cases o; rfl
  subst this;exact hq H'
end
section
variable {W:Wd}{G:Pg}{T:Tb}{mg:Str->aA}
def PF (W:Wd)(T:Tb)(G:Pg)(mg:Str->aA)(p:Str×Nat):Prop:=(p.1 == ("__debug__" : Str))=false/\∃F a,G.fn p.2=some F/\mg p.1=some (.ref a)/\PySem.W.keepIn W.K (.ref a)=true/\DefAt W T F a
def yC (W:Wd)(T:Tb)(G:Pg)(mg:Str->aA)(p:Str×Nat):Prop:=(p.1 == ("__debug__" : Str))=false/\∃C,mg p.1=some (.ref C)/\ci W G (.cls p.2) (.ref C)/\∀Cl' f F,G.cl p.2=some Cl'->Cl'.init=some f->G.fn f=some F ->
  ∃a,DefAt W T F a/\if Cl'.isx=true then W.xA p.2=some C/\PySem.W.keepIn W.K (.ref C)=true/\∃tl,XC W.K C (.ref a) tl else W.iA p.2=some C/\Mk W.K C a
def PV (W:Wd)(mg:Str->aA)(p:Str×D):Prop:=(p.1 == ("__debug__" : Str))=false/\∃u v,mg p.1=some u/\RelV v u/\p.2.flat=true/\∀S,Den W S v p.2
def PM (W:Wd)(T:Tb)(G:Pg)(C:Addr)(p:Nat×Nat):Prop:=∃F nm a,G.fn p.2=some F/\W.att[p.1]? = some nm/\Meth W.K C nm a/\DefAt W T F a
theorem fE {α β:Type}[BEq α][LawfulBEq α]{a:α}{b:β}:∀{l:List (α×β)},l.lookup a=some b->(a,b)∈l
 | [],h=>nomatch h
 | (y,j)::r,h=>by
  rw[List.lookup_cons] at h;cases e:a == y with
  | true=>
   rw[e] at h;rw[Fi] at e;cases h;rw[e];exact bW
  | false=>rw[e] at h; exact bU _ (fE h)
def wL (cf:CF W T.fl)(att:W.att=T.att)(blt:∀p∈eY,mg p.1=none/\bootBuiltins p.1=some p.2)(cst:∀p∈T.cst,PV W mg p)(fns:∀p∈T.fns,PF W T G mg p)(cls:∀p∈T.cls,yC W T G mg p)
  (meth:∀c Cl',G.cl c=some Cl'->Cl'.meths≠[]->∃C,W.iA c=some C/\∀p∈Cl'.meths,PM W T G C p)
  (isB:∀p∈kr,mg p.1=none/\p.1 ≠ "__name__" /\ (p.1 == ("__debug__" : Str))=false/\∃nm,bootBuiltins p.1=some (.type nm)/\ci W G p.2 (.type nm)):GF0 W G T mg where
 cf:=cf
 att:=att
 blt:=λx v h=>blt (x,v) h
 cst:=λx d h=>cst (x,d) (fE h)
 fns:=λx k h=>fns (x,k) (fE h)
 cls:=λx c h=>by
  obtain⟨h1,C,h2,_,h3⟩:=cls (x,c) (fE h);exact⟨h1,C,h2,h3⟩
 meth:=λc Cl' m f F h1 h2 h3 nm h4=>by
  have hm:=fE h2;obtain⟨C,e1,e2⟩:=meth c Cl' h1 (λz=>by rw[z] at hm; simp at hm);obtain⟨F',nm',a,e3,e4,e5,e6⟩:=e2 (m,f) hm;rw[h3] at e3; cases e3;rw[h4] at e4; cases e4;exact⟨C,a,e1,e5,e6⟩
 isB:=λx t h=>isB (x,t) (fE h)
 isC:=λx c h=>by
  obtain⟨_,C,h2,h3,_⟩:=cls (x,c) (fE h);exact⟨C,h2,h3⟩
def BM {t:Ip.Ty}{cv:Value}(h0:PySem.W.kitOne W.K (.type "NoneType") cv=some (bc G .non t))(h1:PySem.W.kitOne W.K (.type "bool") cv=some (bc G (.bl true) t))(h2:PySem.W.kitOne W.K (.type "int") cv=some (bc G (.int 0) t))
  (h3:PySem.W.kitOne W.K (.type "str") cv=some (bc G (.str "") t))(h4:PySem.W.kitOne W.K (.type "list") cv=some (bc G (.lst []) t))(h5:PySem.W.kitOne W.K (.type "tuple") cv=some (bc G (.tup []) t))
  (h6:∀c C,W.iA c=some C->PySem.W.kitOne W.K (.ref C) cv=some (bc G (.ins c []) t))(h7:∀c C,W.xA c=some C->PySem.W.kitOne W.K (.ref C) cv=some (bc G (.exc c []) t)):ci W G t cv:=by
 intro d tv h;cases d with
 | non=>cases h; exact h0
 | bl b=>cases h; rw[h1]; cases t <;> rfl
 | int i=>cases h; rw[h2]; cases t <;> rfl
 | str s=>cases h; rw[h3]; cases t <;> rfl
 | lst xs=>cases h; rw[h4]; cases t <;> rfl
 | tup xs=>cases h; rw[h5]; cases t <;> rfl
 | ins c fs=>
  obtain⟨C,e1,e2⟩:=dG h;subst e2;rw[h6 c C e1]; cases t <;> rfl
 | exc c fs=>
  obtain⟨C,e1,e2⟩:=dG h;subst e2;rw[h7 c C e1]; cases t <;> rfl
end
noncomputable def cP (K:bm)(iL xL:List (Nat×Addr))(att:ar):Wd:=⟨K,λc=>iL.lookup c,λc=>xL.lookup c,att⟩
def kl {α:Type}{l:List α}(h:l.length=1):∃a,l=[a]:=Gc.mp h
def ie {α:Type}{l:List α}{n:Nat}(h:l.length=n+1):∃a r,l=a::r/\r.length=n:=by
 cases l with
 | nil=>cases h
 | cons a r=>exact⟨a,r,rfl,Nat.succ.inj h⟩
def jF {α:Type}{l:List α}(h:l.length=2):∃a b,l=[a,b]:=by
 obtain⟨a,r,rfl,h2⟩:=ie h;obtain⟨b,rfl⟩:=kl h2;exact⟨a,b,rfl⟩
def mn {α:Type}{l:List α}(h:l.length=3):∃a b c,l=[a,b,c]:=by
 obtain⟨a,r,rfl,h2⟩:=ie h;obtain⟨b,c,rfl⟩:=jF h2;exact⟨a,b,c,rfl⟩
def mY {α:Type}{l:List α}(h:l.length=4):∃a b c d,l=[a,b,c,d]:=by
 obtain⟨a,r,rfl,h2⟩:=ie h;obtain⟨b,c,d,rfl⟩:=mn h2;exact⟨a,b,c,d,rfl⟩
def oV {α:Type}{l:List α}(h:l.length=5):∃a b c d e,l=[a,b,c,d,e]:=by
 obtain⟨a,r,rfl,h2⟩:=ie h;obtain⟨b,c,d,e,rfl⟩:=mY h2;exact⟨a,b,c,d,e,rfl⟩
section
variable {K:bm}{iL xL:List (Nat×Addr)}{att:ar}{fl:ak}{G:Pg}{T:Tb}{mg:Str->aA}
noncomputable def oy (fl:ak)(att:ar):ar:=fl.filterMap λf=>att[f]?
abbrev NoA (K:bm)(C:Addr)(ns:ar):Prop:=(ns.map λn=>PySem.W.findIn K (.ref C) n)=ns.map λ_=>some none
def NoA.at {C:Addr}{ns:ar}(h:NoA K C ns){n:Str}(hn:n∈ns):NoAttr K C n:=FG.mp h n hn
def Do (nd:att.Nodup)(hi:∀p∈iL,InsC K p.2/\NoA K p.2 (oy fl att))(hx:∀p∈xL,ExcC K p.2/\NoA K p.2 (oy fl att)):CF (cP K iL xL att) fl:=
 ⟨nd,λc C h=>⟨(hi (c,C) (fE h)).1,λf n hf hn=>(hi (c,C) (fE h)).2.at (Gr.mpr ⟨f,hf,hn⟩)⟩,
  λc C h=>⟨(hx (c,C) (fE h)).1,λf n hf hn=>(hx (c,C) (fE h)).2.at (Gr.mpr ⟨f,hf,hn⟩)⟩⟩
abbrev lM (K:bm)(G:Pg)(t:Ip.Ty)(cv:Value):Prop:=[PySem.W.kitOne K (.type "NoneType") cv,PySem.W.kitOne K (.type "bool") cv,PySem.W.kitOne K (.type "int") cv,PySem.W.kitOne K (.type "str") cv,PySem.W.kitOne K (.type "list") cv,PySem.W.kitOne K (.type "tuple") cv]=[some (bc G .non t),some (bc G (.bl true) t),some (bc G (.int 0) t),some (bc G (.str "") t),some (bc G (.lst []) t),some (bc G (.tup []) t)]
abbrev rF (K:bm)(iL:List (Nat×Addr))(G:Pg)(t:Ip.Ty)(cv:Value):Prop:=(iL.map λp=>PySem.W.kitOne K (.ref p.2) cv)=iL.map λp=>some (bc G (.ins p.1 []) t)
abbrev pM (K:bm)(xL:List (Nat×Addr))(G:Pg)(t:Ip.Ty)(cv:Value):Prop:=(xL.map λp=>PySem.W.kitOne K (.ref p.2) cv)=xL.map λp=>some (bc G (.exc p.1 []) t)
def ED {t:Ip.Ty}{cv:Value}(hb:lM K G t cv)(hi:rF K iL G t cv)(hx:pM K xL G t cv):ci (cP K iL xL att) G t cv:=by
 unfold lM at hb;injection hb with h0 hb;injection hb with h1 hb;injection hb with h2 hb;injection hb with h3 hb;injection hb with h4 hb;injection hb with h5 hb;exact BM h0 h1 h2 h3 h4 h5 (λc C h=>FG.mp hi (c,C) (fE h)) λc C h=>FG.mp hx (c,C) (fE h)
def Be {Wa:Addr}(db:(T.wb == ("__debug__" : Str))=false)(hm:mg T.wb=some (.ref Wa))(xi:XInit K Wa)(xo:XO K Wa [])(h:∀p∈xL,∃tl,XO K p.2 tl/\Wa∈p.2::tl):GT (cP K iL xL att) G T mg:=
 ⟨db,Wa,[],hm,xi,xo,λc c' C fs _ h2 _=>h (c',C) (fE h2)⟩
def FnAt (K:bm)(x qual:Str)(st:Stmt)(f:Addr):Prop:=∃(oc:Value) (od:aE) (kV doc pm:Value) (an:aE) (cdv ct:Value) (osl:Array aA),
 K.lookup f=some ⟨oc,od,.func (PySem.W.fnOf x qual (aO st) (aV st) (ce st) .none kV doc pm an cdv ct),osl⟩/\PySem.W.codeIn K cdv qual=true
def FnAt.mk {x qual:Str}{st:Stmt}{f:Addr}{oc kV doc pm cdv ct:Value}{od an:aE}{osl:Array aA}(l:K.lookup f=some ⟨oc,od,.func (PySem.W.fnOf x qual (aO st) (aV st) (ce st) .none kV doc pm an cdv ct),osl⟩)(c:PySem.W.codeIn K cdv qual=true):FnAt K x qual st f:=
 ⟨oc,od,kV,doc,pm,an,cdv,ct,osl,l,c⟩
def FnAtD (K:bm)(x qual:Str)(st:Stmt)(v:V)(f:Addr):Prop:=∃(oc:Value) (od:aE) (t:Addr) (kV doc pm:Value) (an:aE) (cdv ct:Value) (osl:Array aA) (u oct:Value) (odt:aE) (n:Nat) (slt:Array aA),
 K.lookup f=some ⟨oc,od,.func (PySem.W.fnOf x qual (aO st) (aV st) (ce st) (.ref t) kV doc pm an cdv ct),osl⟩/\PySem.W.codeIn K cdv qual=true/\K.lookup t=some ⟨oct,odt,.seq #[u] n,slt⟩/\RelV v u
def FnAtD.mk {x qual:Str}{st:Stmt}{v:V}{f t:Addr}{oc kV doc pm cdv ct u oct:Value}{od an odt:aE}{osl slt:Array aA}{n:Nat}(l:K.lookup f=some ⟨oc,od,.func (PySem.W.fnOf x qual (aO st) (aV st) (ce st) (.ref t) kV doc pm an cdv ct),osl⟩)(c:PySem.W.codeIn K cdv qual=true)
  (lt:K.lookup t=some ⟨oct,odt,.seq #[u] n,slt⟩)(r:RelV v u):FnAtD K x qual st v f:=⟨oc,od,t,kV,doc,pm,an,cdv,ct,osl,u,oct,odt,n,slt,l,c,lt,r⟩
def yP {K:bm}{iL xL:List (Nat×Addr)}{P:Program}{w:World}{n:Nat}{F:Fn}{f:Addr}{st:Stmt}{x:Str}(g0:GF0 (cP K iL xL att) G T mg)(gt:GT (cP K iL xL att) G T mg)(hno:(K.all λp=>!(p.2.cls == Value.type "list"))=true)(hF:G.fn 69=some F)(hio:F.io=[])(d:FnAt K "law" "law" st f)
  (S:FnScope (fm (aO st) (ce st)) [x] (ce st))(hc:cF T [] st=some F)(hnp:F.np=1)(hb:∀(kV doc pm:Value) (an:aE) (cdv ct:Value) (u:Value),bindArgs (PySem.W.fnOf "law" "law" (aO st) (aV st) (ce st) .none kV doc pm an cdv ct) ⟨[u],[]⟩=pure [(x,u)])
  (hr:∀ns:al,ns.length<=63->∃kk,Ip.run G n 69 [(0,.lst (ns.map D.int))]=.ret kk (.bl true) []) :
  ∃fd:FuncData,(∀(s:Shared) (u:Value),BindsTo s fd ⟨[u],[]⟩ [(x,u)])/\∀base:Heap,K.In base->base.Ns mainGlobals mg->FnOk P w K mg base (dO P w) (rm n) f fd [x] (fY K):=by
 obtain⟨oc,od,kV,doc,pm,an,cdv,ct,osl,l,c⟩:=d;refine⟨_,λs u=>.of_eq (hb kV doc pm an cdv ct u),λbase _ _=>?_⟩;have fu:FunD (cP K iL xL att).K "law" "law" st f (PySem.W.fnOf "law" "law" (aO st) (aV st) (ce st) .none kV doc pm an cdv ct):=⟨oc,od,.none,kV,doc,pm,an,cdv,ct,osl,rfl,l,c⟩
 exact (wA (n:=n) hF (λm _=>xz g0 gt m) gt fu S hc hnp).imp (Cw (W:=cP K iL xL att) hio hno hr)
def XO.mk' {C:Addr}{tl:am}{nm q:Str}{N:Addr}{bs:ao}{sn:ar}{sub:ao}{ab:Bool}{col:Option Bool}{dd:aE}{k0 k1 k2 k3 k5:aA}
  (h:K.lookup C=some (excClassObj nm q C N bs (tl.map Value.ref++bS) true sn sub ab col dd k0 k1 k2 k3 k5 "ValueError.__new__")):XO K C tl:=⟨nm,q,N,bs,sn,sub,ab,col,dd,k0,k1,k2,k3,k5,h⟩
end
end L2
end
section
namespace Hd
open PySem PySem.W PySem.Calls PyProof.Rows
noncomputable def gE (thr ok:Thread->Bool)(stp:SharedT->Thread->Option (SharedT×Thread))(n:Nat):SharedT->Thread->Option SharedT:=
 @Nat.rec (λ_=>SharedT->Thread->Option SharedT) (λ_ _=>none) (λ_ ih s t=>match thr t with
  | true=>some s
  | false=>match ok t with
   | false=>none
   | true=>match stp s t with
    | some (s',t')=>ih s' t'
    | none=>none) n
theorem xx (thr ok:Thread->Bool)(stp:SharedT->Thread->Option (SharedT×Thread))(n:Nat)(s:SharedT)(t:Thread):gE thr ok stp (n+1) s t=(match thr t with
  | true=>some s
  | false=>match ok t with
   | false=>none
   | true=>match stp s t with
    | some (s',t')=>gE thr ok stp n s' t'
    | none=>none):=rfl
theorem tx {tb:String->Option Builtin}{p:Program}{w:World}{n₀:Nat}{ann:aA}:∀(n:Nat) (s s':SharedT) (t:Thread),gE through (stepOk n₀ ann) (stepT (denote tb) p w) n s t=some s'->topRun tb p w n₀ ann n s.abs t=some s'.abs
 | 0,_,_,_,h=>by cases h
 | n+1,s,s',t,h=>by
  rw[xx] at h;unfold topRun;cases ht:through t with
  | true=>rw[ht] at h; cases h; rfl
  | false=>
   rw[ht] at h;cases hk:stepOk n₀ ann t with
   | false=>rw[hk] at h; cases h
   | true=>
    rw[hk] at h;cases hs:stepT (denote tb) p w s t with
    | none=>rw[hs] at h; cases h
    | some r=>obtain⟨s₂,t₂⟩:=r; rw[hs] at h; dsimp only; rw[stepT_spec hs]; exact tx n s₂ s' t₂ h
noncomputable def lookG {β α:Type}(mods:ar)(so lk:Heap->Heap->Bool)(nb:Heap->Bool)(seen:Shared->β)(Yf:Shared->α)(h₀:Heap)(st:SharedT):Bool×β×α:=
 (so h₀ st.abs.heap&&nb st.abs.heap&&gensDone st.abs&&lk h₀ st.abs.heap,seen st.abs,Yf st.abs)
def Dl {p q:Program}{loose:ar}{Xt:Shared->Bool}{α:Type}{Yf:Shared->α}{Ya:World->α}{N m₀:Nat}{ann:aA}{T0:Params->BT}{life:Params->Life}
  (e:opening p=plainProg p.main.scope.names)(hN:Nat.ble 600 N=true)(f:∀s,fenceModules? p s=some s)
  (size:∀w:World,((boot_heap w.params).isNs mainGlobals,(boot_heap w.params).objs.size,(boot_heap w.params).nsMap mainGlobals "__annotations__")=(true,m₀,ann))
  (habs:∀P,absHeap (T0 P) m₀ (life P)=boot_heap P)
  (run:∀(w:World) (os:OsState),(gE through (stepOk m₀ ann) (stepT (denote treeTable) p w) N ⟨T0 w.params,m₀,life w.params,Array.mk [],boot_drawn,boot_toks,os⟩ (topStub p)).map
   (lookG (importedModules p.main.body) (staticsOk (importedModules p.main.body)) laidKept (namesBound p) (openSeen q loose (importedModules p.main.body) Xt true) Yf (boot_heap w.params))=some (true,openGood q loose,Ya w)) :
  LeftO p q loose Xt Yf Ya N:=λw=>by
 obtain⟨⟨h,gs,d,k,os⟩,e1,e'⟩:=dG (boot_open e hN f w);obtain⟨rfl,rfl,rfl,rfl⟩:h=boot_heap w.params/\gs=Array.mk []/\d=boot_drawn/\k=boot_toks:=by simpa using e'
 obtain⟨z1,z2,z3⟩:_/\_/\_:=by simpa only[FM] using size w
 obtain⟨st,hr,hl⟩:=dG (run w os);have r:=tx _ _ _ _ hr;have ha:SharedT.abs ⟨T0 w.params,m₀,life w.params,Array.mk [],boot_drawn,boot_toks,os⟩=⟨boot_heap w.params,Array.mk [],boot_drawn,boot_toks,os⟩:=by
  show Shared.mk _ _ _ _ _=_;rw[habs]
 rw[ha] at r;obtain⟨l1,l2,l3⟩:_/\_/\_:=by simpa only[lookG,FM] using hl
 have t:topFrom treeTable p w N ⟨boot_heap w.params,Array.mk [],boot_drawn,boot_toks,os⟩=some st.abs:=by
  unfold topFrom;dsimp only;rw[z1,z2,z3];show ((topRun treeTable p w m₀ ann N _ (topStub p)).bind _)=_;rw[r];show (match staticsOk (importedModules p.main.body) (boot_heap w.params) st.abs.heap&&namesBound p st.abs.heap&&gensDone st.abs&&laidKept (boot_heap w.params) st.abs.heap with | true=>_ | false=>_)=_;rw[l1]
 unfold openEnds;rw[e1];show (topFrom treeTable p w N _).map _=_;rw[t];exact congrArg some (Prod.ext l2 l3)
end Hd
end
section
namespace Hd
open PySem PySem.Spec PySem.W PyProof.Rows L2
noncomputable abbrev wu:=(Str×Str×Arguments×FuncBody)×Scope×Addr×List (Str×Addr)×Value×Addr×Bool
noncomputable def jE (K:Frag)(f:Addr):Option wu:=match K.lookup f with
 | some ⟨_,_,.func fd,_⟩=>some ((fd.name,fd.qualname,fd.params,fd.body),fd.scope,fd.globals,fd.closure,fd.defaults,fd.builtins,codeIn K fd.code fd.qualname)
 | _=>none
noncomputable abbrev mW:=Value×List Value×Bool×Bool×aA
noncomputable def oO (K:Frag)(C:Addr):Option mW:=match K.lookup C with
 | some ⟨c,_,.cls cd,⟨[_,_,_,_,k4,_]⟩⟩=>some (c,cd.mro,cd.hasDict,cd.hasDel,k4)
 | _=>none
noncomputable def iB (K:Frag)(t:Addr):Option ao:=match K.lookup t with
 | some ⟨_,_,.seq xs _,_⟩=>some xs.toList
 | _=>none
def AM {K:Frag}{f:Addr}{oc:Value}{od:aE}{fd:FuncData}{osl:Array aA}(l:K.lookup f=some ⟨oc,od,.func fd,osl⟩):jE K f=some ((fd.name,fd.qualname,fd.params,fd.body),fd.scope,fd.globals,fd.closure,fd.defaults,fd.builtins,codeIn K fd.code fd.qualname):=by
 unfold jE; rw[l]
def tT {K:Frag}{f:Addr}{x qual:Str}{st:Stmt}(h:jE K f=some ((x,qual,aO st,.stmts (aV st)),ce st,mainGlobals,[],.none,builtinsNs,true)):FnAt K x qual st f:=by
 unfold jE at h;split at h
 .rename_i fd _ hk;obtain⟨a1,a2,a3,a4,a5,a6,a7,a8,a9,a10,a11,a12,a13,a14,a15⟩:=fd;simp only[F0,FM] at h;obtain⟨⟨rfl,rfl,rfl,rfl⟩,rfl,rfl,rfl,rfl,rfl,hc⟩:=h;exact .mk hk hc
 .cases h
def CN {K:Frag}{f t:Addr}{x qual:Str}{st:Stmt}{v:V}{u:Value}(h:jE K f=some ((x,qual,aO st,.stmts (aV st)),ce st,mainGlobals,[],.ref t,builtinsNs,true))(ht:iB K t=some [u])(r:RelV v u):FnAtD K x qual st v f:=by
 unfold jE at h;split at h
 .rename_i fd _ hk;obtain⟨a1,a2,a3,a4,a5,a6,a7,a8,a9,a10,a11,a12,a13,a14,a15⟩:=fd;simp only[F0,FM] at h;obtain⟨⟨rfl,rfl,rfl,rfl⟩,rfl,rfl,rfl,rfl,rfl,hc⟩:=h;unfold iB at ht;split at ht
  .rename_i xs n _ hs;obtain⟨l⟩:=xs;obtain rfl:l=[u]:=cy ht;exact .mk hk hc hs r
  .cases ht
 .cases h
def sA {K:Frag}{C:Addr}{tl:am}(h:oO K C=some (.type "type",.ref C::(tl.map Value.ref++bS),true,false,some (.builtin "ValueError.__new__"))):XO K C tl:=by
 unfold oO at h;split at h
 .rename_i c cd k0 k1 k2 k3 k4 k5 hk;obtain⟨a1,a2,a3,a4,a5,a6,a7,a8,a9,a10,a11⟩:=cd;simp only[F0,FM] at h;obtain⟨rfl,rfl,rfl,rfl,rfl⟩:=h;exact .mk' hk
 .cases h
noncomputable def oz (as:am)(h:Heap):Frag:=as.filterMap λa=>(h.get? a).map λo=>(a,o)
theorem wc (h:Heap):∀as:am,(oz as h).In h
 | []=>λa o e=>by cases e
 | a::as=>λb o e=>by
  have ih:=wc h as;unfold oz at e ih;rw[List.filterMap_cons] at e;cases q:h.get? a with
  | none=>rw[q] at e; exact ih b o e
  | some x=>
   rw[q] at e;by_cases hb:b=a
   .subst hb;have:some x=some o:=by simpa[List.lookup_cons] using e
    cases this;exact q
   .have:(List.filterMap (λa=>(h.get? a).map λo=>(a,o)) as).lookup b=some o:=by
     have hb':(b == a)=false:=Ge.mpr hb;simpa[List.lookup_cons,hb'] using e
    exact ih b o this
noncomputable def jb {α:Type}(as:am)(q:Frag->α)(v:α):Hook where
 α:=α
 obs:=λs=>q (oz as s.heap)
 val:=λ_=>v
 says:=λ_ h=>∃K:Frag,K.In h/\q K=v
 of:=λ_ s e=>⟨_,wc s.heap as,e⟩
 keeps:=λ_ _ _ ⟨K,a,b⟩ k=>⟨K,a.keeps k,b⟩
def yO {l:OpenLaw}{n k:Nat}{q:Program}{loose:ar}{XP:(Str->aA)->Heap->Prop}{d:DefRec}{α:Type}{as:am}{qs:Frag->α}{v:α}{CX:World->gC}{sp:World->Frag->Sp}{x:Str}
  (hn:l.most=some n)(hn2:n<=sizeLine)(hdf:d.params.defaults=[])(hr:Room k callerA)
  (F:∀(w:World) (K:Frag) (mg:Str->aA) (fa:Addr) (h:Heap),qs K=v->K.In h->h.Ns mainGlobals mg->mg d.name=some (.ref fa) ->
   ∃fd:FuncData,(∀(s:Shared) (u:Value),BindsTo s fd ⟨[u],[]⟩ [(x,u)]) /\
    ∀base:Heap,K.In base->base.Ns mainGlobals mg->FnOk l.prog w K mg base (CX w) k fa fd [x] (sp w K))
  (hsp:∀(w:World) (K:Frag) (H:Hp) (a:Addr) (ns:al),ns.length<=n->jB H->SqL K H a (ns.map V.int)->sp w K [.ref a] H (λv _=>v=.bl true) λ_ _ _=>False)
  (hCX:∀(w:World) (H:Hp) (s:Shared) (e:Value) (s':Shared),CX w [] H s (λ_ _ _=>False) e s'->False) :
  WalkO q loose XP (Hook.says (jb as qs v)) l.row.toRowW d [] (λf vs=>PySem.call f vs):=by
 refine Att.attach_call hn hdf λw s₀ s₁ mg mb fa o pm cd doc a vs ns G Y ho hd hcd hmg hobj hints hlen hg=>?_;obtain⟨K,KX,hq⟩:=Y;obtain⟨fd,hb,hF⟩:=F w K mg fa _ hq KX G.T.g hmg;exact CS KX G.T.g G.T.b G.T.builtins G.T.nolimit hg hobj hints (b8 hlen hn2) hr hF hb (λH hO hS=>hsp w K H a ns hlen hO hS) λH e s'=>hCX w H s₁ e s'
def Cn {α:Type}{p:α->Prop}{a:α}{l:List α}(h:p a)(t:∀b∈l,p b):∀b∈a::l,p b:=List.forall_mem_cons.mpr ⟨h,t⟩
def Nl {α:Type}{p:α->Prop}:∀b∈([]:List α),p b:=λ_ h=>nomatch h
structure Fd where
 x:Str
 q:Str
 k:Nat
 f:Addr
 st:Stmt
 d:Option (Addr×Value)
noncomputable abbrev OV:=Option aA
noncomputable abbrev DV:=Option wu×Option (Option ao)
noncomputable def l8 (d:Option (Addr×Value)):Value:=match d with
 | none=>.none
 | some p=>.ref p.1
noncomputable def qD (K:Frag)(d:Fd):DV:=(jE K d.f,d.d.map λp=>iB K p.1)
noncomputable def aD (d:Fd):DV:=(some ((d.x,d.q,aO d.st,.stmts (aV d.st)),ce d.st,mainGlobals,[],l8 d.d,builtinsNs,true),d.d.map λp=>some [p.2])
section
variable {W:Wd}{T:Ip.Tb}{G:Ip.Pg}{F:Ip.Fn}{ps:ar}{io:ak}{d:Fd}{mg:Str->aA}{K:Frag}
noncomputable def vP (N ps:ar)(sc:Scope):Bool:=sc.kind == .function&&(sc.isCoroutine == false&&(sc.isGenerator == false&&(decide N.Nodup&&(N.take ps.length == ps&&(ps.all (λx=>sc.names.lookup x == some .local||sc.names.lookup x == some .cell)&&sc.names.all λy=>y.2 != .free)))))
def o7 {N ps:ar}{sc:Scope}(h:vP N ps sc=true):FnScope N ps sc:=by
 simp only[vP,tw,Fi,Fw,List.all_eq_true,FX,bne_iff_ne] at h;obtain⟨h1,h2,h3,h4,h5,h6,h7⟩:=h;exact⟨h1,h2,h3,h4,h5,h6,h7⟩
def dk (h:qD W.K d=aD d)(hd:d.d=none:=by rfl)(S:FnScope (Ip.fm (aO d.st) (ce d.st)) ps (ce d.st):=by exact o7 (by kernel_rfl))(hc:Ip.cF T io d.st=some F:=by kernel_rfl)(hnp:F.np=ps.length:=by rfl)(hf:F.dfl=[]:=by rfl)
  (hb:∀(kV doc pm:Value) (an:aE) (cdv ct:Value) (us:ao),us.length=ps.length->bindArgs (fnOf d.x d.q (aO d.st) (aV d.st) (ce d.st) .none kV doc pm an cdv ct) ⟨us,[]⟩=pure (ps.zip us):=by
   intro _ _ _ _ _ _ us hl;first | (obtain⟨_,rfl⟩:=kl hl; rfl) | (obtain⟨_,_,rfl⟩:=jF hl; rfl) | (obtain⟨_,_,_,rfl⟩:=mn hl; rfl) | (obtain⟨_,_,_,_,rfl⟩:=mY hl; rfl) | (obtain⟨_,_,_,_,_,rfl⟩:=oV hl; rfl)):DefAt W T F d.f:=by
 have h1:=(G7 h).1;rw[hd] at h1;obtain⟨oc,od,kV,doc,pm,an,cdv,ct,osl,l,c⟩:=tT h1;exact BS l c S hc hnp hf λus hl=>hb kV doc pm an cdv ct us hl
def CM {t:Addr}{u:Value}{v:V}{dd:Ip.D}(h:qD W.K d=aD d)(hd:d.d=some (t,u))(S:FnScope (Ip.fm (aO d.st) (ce d.st)) ps (ce d.st))(hc:Ip.cF T io d.st=some F)(hnp:F.np=ps.length)(hf:F.dfl=[dd])(r:RelV v u)(dv:∀S,Den W S v dd)
  (hb0:∀(kV doc pm:Value) (an:aE) (cdv ct:Value) {oct:Value} {odt:aE} {n:Nat} {slt:Array aA},W.K.lookup t=some ⟨oct,odt,.seq #[u] n,slt⟩->Binds W.K (fnOf d.x d.q (aO d.st) (aV d.st) (ce d.st) (.ref t) kV doc pm an cdv ct) ps [])
  (hb1:∀(kV doc pm:Value) (an:aE) (cdv ct:Value) {oct:Value} {odt:aE} {n:Nat} {slt:Array aA},W.K.lookup t=some ⟨oct,odt,.seq #[u] n,slt⟩->Binds W.K (fnOf d.x d.q (aO d.st) (aV d.st) (ce d.st) (.ref t) kV doc pm an cdv ct) ps [u]):DefAt W T F d.f:=by
 obtain⟨h1,h2⟩:=G7 h;rw[hd] at h1 h2;obtain⟨oc,od,t',kV,doc,pm,an,cdv,ct,osl,u',oct,odt,n,slt,l,c,lt,r'⟩:=CN (v:=v) h1 (cy h2) r;obtain rfl:t'=t:=by
  have z:=AM l;rw[h1] at z;simp only[F0,FM,l8,Value.ref.injEq] at z;exact z.2.2.2.2.1.symm
 have hu:=h2;simp only[Option.map_some,iB,lt,F0,FP,and_true] at hu;subst hu;exact Br (d:=dd) (v:=v) l c S hc hnp hf r dv (hb0 kV doc pm an cdv ct lt) (hb1 kV doc pm an cdv ct lt)
def oi (W:Wd)(T:Ip.Tb)(G:Ip.Pg)(d:Fd):Prop:=∃F,G.fn d.k=some F/\(qD W.K d=aD d->DefAt W T F d.f)
structure Ic where
 x:Str
 c:Nat
 C:Addr
 d:Fd
structure Xc where
 x:Str
 c:Nat
 C:Addr
 tl:am
 d:Fd
noncomputable def qI (K:Frag)(ns:ar)(e:Ic):OV×List Bool×List OV×List (Option Bool)×List OV×DV:=
  (nsIn K mainGlobals e.x,[plainGet K e.C Str.empty,hasDictIn K e.C,plainOver K e.C,makesIn K e.C,isFn K (.ref e.d.f),keepIn K (.ref e.C)],
   [findIn K (.ref e.C) "__setattr__",findIn K (.ref e.C) "__class__",specialIn K (.builtin "object.__class__") "__get__",findIn K (.ref e.C) "__init__"],
   [takesIn K (.builtin "object.__class__"),mroIn K e.C (.type "object")],ns.map λn=>findIn K (.ref e.C) n,qD K e.d)
noncomputable def aI (ns:ar)(e:Ic):OV×List Bool×List OV×List (Option Bool)×List OV×DV:=
  (some (some (.ref e.C)),[true,true,true,true,true,true],
   [some (some (.builtin "object.__setattr__")),some (some (.builtin "object.__class__")),some (some (.builtin "getset_descriptor.__get__")),some (some (.ref e.d.f))],
   [some true,some true],ns.map λ_=>some none,aD e.d)
def ins_of {ns:ar}{e:Ic}(h:qI K ns e=aI ns e):nsIn K mainGlobals e.x=some (some (.ref e.C))/\InsC K e.C/\NoA K e.C ns/\Mk K e.C e.d.f/\qD K e.d=aD e.d:=by
 simp only[qI,aI,FM,FP,and_true] at h;obtain⟨h1,⟨b1,b2,b3,b4,b5,b6⟩,⟨c1,c2,c3,c4⟩,⟨d1,d2⟩,h5,h6⟩:=h;exact⟨h1,⟨⟨b1,b2,b3,c1⟩,c2,c3,d1,d2⟩,h5,⟨b4,c4,b5,b6⟩,h6⟩
noncomputable def qX (K:Frag)(ns:ar)(e:Xc):OV×Option mW×List Bool×List OV×List (Option Bool)×List OV×DV:=
  (nsIn K mainGlobals e.x,oO K e.C,[isFn K (.ref e.d.f),keepIn K (.ref e.C)],
   [findIn K (.ref e.C) "__init__",findIn K (.ref e.C) "__setattr__",findIn K (.ref e.C) "__getattribute__",findIn K (.ref e.C) "__getattr__",findIn K (.ref e.C) "__class__",specialIn K (.builtin "object.__class__") "__get__"],
   [takesIn K (.builtin "object.__class__"),mroIn K e.C (.type "object")],ns.map λn=>findIn K (.ref e.C) n,qD K e.d)
noncomputable def aX (ns:ar)(e:Xc):OV×Option mW×List Bool×List OV×List (Option Bool)×List OV×DV:=
  (some (some (.ref e.C)),some (.type "type",.ref e.C::(e.tl.map Value.ref++bS),true,false,some (.builtin "ValueError.__new__")),[true,true],
   [some (some (.ref e.d.f)),some (some (.builtin "object.__setattr__")),some (some (.builtin "BaseException.__getattribute__")),some none,some (some (.builtin "object.__class__")),some (some (.builtin "getset_descriptor.__get__"))],
   [some true,some true],ns.map λ_=>some none,aD e.d)
def Bf {ns:ar}{e:Xc}(h:qX K ns e=aX ns e):nsIn K mainGlobals e.x=some (some (.ref e.C))/\XC K e.C (.ref e.d.f) e.tl/\XI K e.C/\NoA K e.C ns/\keepIn K (.ref e.C)=true/\qD K e.d=aD e.d:=by
 simp only[qX,aX,FM,FP,and_true] at h;obtain⟨h1,h2,⟨b1,b2⟩,⟨c1,c2,c3,c4,c5,c6⟩,⟨d1,d2⟩,h5,h6⟩:=h;exact⟨h1,⟨sA h2,c1,.inl b1,c2,c3,c4⟩,⟨c5,c6,d1,d2⟩,h5,b2,h6⟩
noncomputable def qT (K:Frag)(iL xL:List (Nat×Addr))(cv:Value):List (Option Bool)×List (Option Bool)×List (Option Bool):=
 ([kitOne K (.type "NoneType") cv,kitOne K (.type "bool") cv,kitOne K (.type "int") cv,kitOne K (.type "str") cv,kitOne K (.type "list") cv,kitOne K (.type "tuple") cv],iL.map λp=>kitOne K (.ref p.2) cv,xL.map λp=>kitOne K (.ref p.2) cv)
noncomputable def aT (G:Ip.Pg)(iL xL:List (Nat×Addr))(t:Ip.Ty):List (Option Bool)×List (Option Bool)×List (Option Bool):=
 ([some (Ip.bc G .non t),some (Ip.bc G (.bl true) t),some (Ip.bc G (.int 0) t),some (Ip.bc G (.str "") t),some (Ip.bc G (.lst []) t),some (Ip.bc G (.tup []) t)],iL.map λp=>some (Ip.bc G (.ins p.1 []) t),xL.map λp=>some (Ip.bc G (.exc p.1 []) t))
def Eh {iL xL:List (Nat×Addr)}{att:ar}{t:Ip.Ty}{cv:Value}(h:qT K iL xL cv=aT G iL xL t):ci (cP K iL xL att) G t cv:=
 ED (G7 h).1 (G7 (G7 h).2).1 (G7 (G7 h).2).2
end
structure Tl where
 fL:List Fd
 iC:List Ic
 xC:List Xc
 nC:List (Str×Nat×Addr)
 mL:List (Addr×Fd)
 wa:Addr
 cL:List (Str×Int×Nat)
 tL:List (Str×Addr×List (Str×Nat))
noncomputable def Tl.iL (B:Tl):List (Nat×Addr):=B.iC.map λe=>(e.c,e.C)
noncomputable def Tl.xL (B:Tl):List (Nat×Addr):=B.xC.map λe=>(e.c,e.C)
noncomputable def tyV:List (Ip.Ty×Value):=[(.int,.type "int"),(.bool,.type "bool"),(.str,.type "str"),(.list,.type "list"),(.tuple,.type "tuple"),(.dict,.type "dict"),(.verr,.type "ValueError")]
noncomputable def Tl.ty (B:Tl):List (Ip.Ty×Value):=tyV++(B.nC.map (λe=>(.cls e.2.1,.ref e.2.2))++(B.iC.map (λe=>(.cls e.c,.ref e.C))++B.xC.map λe=>(.cls e.c,.ref e.C)))
noncomputable def zL:ar:=eY.map (·.1)++Ip.kr.map (·.1)
noncomputable abbrev OB:=List (OV×Bool×DV)×List (OV×List Bool×List OV×List (Option Bool)×List OV×DV)×List (OV×Option mW×List Bool×List OV×List (Option Bool)×List OV×DV)×List OV×List (OV×Bool×Bool×DV) ×
 (OV×Bool×Option CFound×Option mW)×List (List (Option Bool)×List (Option Bool)×List (Option Bool))×List OV×List OV×Bool×List (OV×Option (Value×Bool×Option ao))
noncomputable def h9 (K:Frag)(a:Addr):Option (Value×Bool×Option ao):=(K.lookup a).map λo=>(o.cls,o.dict.isNone,match o.data with
 | .seq its _=>some its.toList
 | _=>none)
noncomputable def Tl.q (B:Tl)(ns:ar)(K:Frag):OB:=
  (B.fL.map λd=>(nsIn K mainGlobals d.x,keepIn K (.ref d.f),qD K d),B.iC.map (qI K ns),B.xC.map (qX K ns),B.nC.map λe=>nsIn K mainGlobals e.1,
   B.mL.map λe=>(findIn K (.ref e.1) e.2.x,isFn K (.ref e.2.f),keepIn K (.ref e.2.f),qD K e.2),
   (specialIn K (.ref B.wa) "__getattribute__",readsIn K B.wa (.type "type"),findCls K (.ref B.wa) (.type "type") "__init__",oO K B.wa),B.ty.map λe=>qT K B.iL B.xL e.2,
   zL.map λx=>nsIn K mainGlobals x,B.cL.map λc=>nsIn K mainGlobals c.1,K.all (λp=>!(p.2.cls == Value.type "list")),B.tL.map λc=>(nsIn K mainGlobals c.1,h9 K c.2.1))
noncomputable def Tl.a (B:Tl)(ns:ar)(G:Ip.Pg):OB:=
  (B.fL.map λd=>(some (some (.ref d.f)),true,aD d),B.iC.map (aI ns),B.xC.map (aX ns),B.nC.map λe=>some (some (.ref e.2.2)),
   B.mL.map λe=>(some (some (.ref e.2.f)),true,true,aD e.2),
   (some (some (.builtin "type.__getattribute__")),true,some (.val (.builtin "ValueError.__init__")),some (.type "type",.ref B.wa::(([]:List Addr).map Value.ref++bS),true,false,some (.builtin "ValueError.__new__"))),B.ty.map λe=>aT G B.iL B.xL e.1,
   zL.map λ_=>some none,B.cL.map λc=>some (some (.int c.2.1 c.2.2)),true,B.tL.map λc=>(some (some (.ref c.2.1)),some (.type "tuple",true,some (c.2.2.map λs=>.str s.1 s.2))))
def EM:∀p∈eY,bootBuiltins p.1=some p.2:=Cn rfl <| Cn rfl <| Cn rfl <| Cn rfl <| Cn rfl <| Cn rfl <| Cn rfl <| Cn rfl <| Cn rfl <| Cn rfl <| Cn rfl Nl
def AC:∀p∈Ip.kr,p.1 ≠ "__name__" /\ (p.1 == ("__debug__" : Str))=false/\∃nm,bootBuiltins p.1=some (.type nm)/\(p.2,Value.type nm)∈tyV:=
 Cn ⟨by decide +kernel,by decide +kernel,_,rfl,by simp[tyV]⟩ <| Cn ⟨by decide +kernel,by decide +kernel,_,rfl,by simp[tyV]⟩ <| Cn ⟨by decide +kernel,by decide +kernel,_,rfl,by simp[tyV]⟩ <| Cn ⟨by decide +kernel,by decide +kernel,_,rfl,by simp[tyV]⟩ <|
 Cn ⟨by decide +kernel,by decide +kernel,_,rfl,by simp[tyV]⟩ <| Cn ⟨by decide +kernel,by decide +kernel,_,rfl,by simp[tyV]⟩ <| Cn ⟨by decide +kernel,by decide +kernel,_,rfl,by simp[tyV]⟩ Nl
section
variable {T:Ip.Tb}{G:Ip.Pg}{mg:Str->aA}{K:Frag}{h:Heap}{B:Tl}{ns:ar}
def oE {l:ar}(s:(l.all λx=>!(x == ("__debug__" : Str)))=true){x:Str}(hx:x∈l):(x == ("__debug__" : Str))=false:=by
 have:=eQ s x hx;simpa using this
def CL {p:Str×Nat}(s:(B.nC.any (λe=>e.1 == p.1&&e.2.1 == p.2)||B.iC.any (λe=>e.x == p.1&&e.c == p.2)||B.xC.any (λe=>e.x == p.1&&e.c == p.2))=true) :
  (∃e∈B.nC,e.1=p.1/\e.2.1=p.2)\/(∃e∈B.iC,e.x=p.1/\e.c=p.2)\/∃e∈B.xC,e.x=p.1/\e.c=p.2:=by
 simp only[FX,List.any_eq_true,tw,Fi] at s;rcases s with (s | s) | s
 .exact .inl s
 .exact .inr (.inl s)
 .exact .inr (.inr s)
structure Ans (B:Tl)(ns:ar)(G:Ip.Pg)(K:Frag):Prop where
 f:∀d∈B.fL,nsIn K mainGlobals d.x=some (some (.ref d.f))/\keepIn K (.ref d.f)=true/\qD K d=aD d
 i:∀e∈B.iC,nsIn K mainGlobals e.x=some (some (.ref e.C))/\InsC K e.C/\NoA K e.C ns/\Mk K e.C e.d.f/\qD K e.d=aD e.d
 x:∀e∈B.xC,nsIn K mainGlobals e.x=some (some (.ref e.C))/\XC K e.C (.ref e.d.f) e.tl/\XI K e.C/\NoA K e.C ns/\keepIn K (.ref e.C)=true/\qD K e.d=aD e.d
 n:∀e∈B.nC,nsIn K mainGlobals e.1=some (some (.ref e.2.2))
 m:∀e∈B.mL,Meth K e.1 e.2.x e.2.f/\qD K e.2=aD e.2
 wi:XInit K B.wa
 wo:XO K B.wa []
 t:∀e∈B.ty,∀att,ci (cP K B.iL B.xL att) G e.1 e.2
 z:∀x∈zL,nsIn K mainGlobals x=some none
 c:∀c∈B.cL,nsIn K mainGlobals c.1=some (some (.int c.2.1 c.2.2))
 l:(K.all λp=>!(p.2.cls == Value.type "list"))=true
 u:∀c∈B.tL,nsIn K mainGlobals c.1=some (some (.ref c.2.1))/\h9 K c.2.1=some (.type "tuple",true,some (c.2.2.map λs=>.str s.1 s.2))
def E5 (e:B.q ns K=B.a ns G):Ans B ns G K:=by
 simp only[Tl.q,Tl.a,FM] at e;obtain⟨e1,e2,e3,e4,e5,⟨w1,w2,w3,w4⟩,e7,e8,e9,e10,e11⟩:=e;refine⟨λd hd=>?_,λd hd=>ins_of (FG.mp e2 d hd),λd hd=>Bf (FG.mp e3 d hd),λd hd=>FG.mp e4 d hd,λd hd=>?_,⟨w1,w2,w3⟩,sA w4,λd hd att=>Eh (FG.mp e7 d hd),λx hx=>FG.mp e8 x hx,λc hc=>FG.mp e9 c hc,e10,λc hc=>FM .. ▸ FG.mp e11 c hc⟩
 .have:=FG.mp e1 d hd;simpa only[FM] using this
 .have:=FG.mp e5 d hd;simp only[FM] at this;exact⟨⟨this.1,this.2.1,this.2.2.1⟩,this.2.2.2⟩
def A4 (l:List (Str×Nat)):(Ip.D.tup (l.map λs=>.str s.1)).flat=true:=by
 induction l with
 | nil=>rfl
 | cons x l ih=>simpa[Ip.D.flat,Ip.D.flats] using ih
theorem vA {W:Wd}{S:Hp}:∀l:List (Str×Nat),Dens W S (l.map λs=>V.str s.1) (l.map λs=>Ip.D.str s.1)
 | []=>.nil
 | _::l=>.cons .str (vA l)
theorem vw:∀l:List (Str×Nat),Vals (l.map λs=>V.str s.1) (l.map λs=>Value.str s.1 s.2)
 | []=>.nil
 | _::l=>.cons ⟨_,rfl⟩ (vw l)
def EJ {S:Hp}{a:Addr}{l:List (Str×Nat)}(h:h9 K a=some (.type "tuple",true,some (l.map λs=>.str s.1 s.2)))(hz:l.length<=6):SqT K S a (l.map λs=>V.str s.1):=by
 unfold h9 at h;cases e:K.lookup a with
 | none=>rw[e] at h; cases h
 | some o=>
  rw[e] at h;simp only[Option.map_some,F0,FM] at h;obtain⟨h1,h2,h3⟩:=h;have hd:o.dict=none:=by
   cases hh:o.dict with
   | none=>rfl
   | some x=>rw[hh] at h2; cases h2
  cases hdt:o.data with
  | seq its n=>
   rw[hdt] at h3;have e3:its.toList=l.map λs=>Value.str s.1 s.2:=cy h3;refine .inr ⟨o,its,n,e,h1,hd,hdt,?_,by rw[e3]; exact vw l⟩;have:its.size=l.length:=by rw[<-Array.length_toList,e3,Fg]
   rw[this];exact b8 hz (by decide)
  | _=>rw[hdt] at h3; cases h3
theorem yl {cw:Nat}(clL:List (Nat×Ip.Cl))(X:K.In h)(Gl:h.Ns mainGlobals mg)(A:Ans B (oy T.fl T.att) G K)(hcl:∀c,G.cl c=clL.lookup c)
  (s1:T.fns=B.fL.map λd=>(d.x,d.k))
  (s2:(T.cls.all λp=>B.nC.any (λe=>e.1 == p.1&&e.2.1 == p.2)||B.iC.any (λe=>e.x == p.1&&e.c == p.2)||B.xC.any (λe=>e.x == p.1&&e.c == p.2))=true)
  (s3:((T.wb::(T.fns.map (·.1)++(T.cls.map (·.1)++T.cst.map (·.1)))).all λx=>!(x == ("__debug__" : Str)))=true)
  (s4:T.cst=B.cL.map (λc=>(c.1,Ip.D.int c.2.1))++B.tL.map λc=>(c.1,Ip.D.tup (c.2.2.map λs=>.str s.1)))(nd:T.att.Nodup)(s5:(B.tL.all λc=>decide (c.2.2.length<=6))=true)
  (okF:∀d∈B.fL,oi (cP K B.iL B.xL T.att) T G d)
  (okI:∀e∈B.iC,oi (cP K B.iL B.xL T.att) T G e.d/\B.iL.lookup e.c=some e.C/\∃Cl,G.cl e.c=some Cl/\Cl.init=some e.d.k/\Cl.isx=false)
  (okX:∀e∈B.xC,oi (cP K B.iL B.xL T.att) T G e.d/\B.xL.lookup e.c=some e.C/\∃Cl,G.cl e.c=some Cl/\Cl.init=some e.d.k/\Cl.isx=true)
  (okN:∀e∈B.nC,∃Cl,G.cl e.2.1=some Cl/\Cl.init=none)
  (okM:∀e∈B.mL,oi (cP K B.iL B.xL T.att) T G e.2)
  (sM:(clL.all λp=>p.2.meths.isEmpty||(match B.iL.lookup p.1 with
   | some C=>p.2.meths.all λm=>B.mL.any λe=>e.1 == C&&(T.att[m.1]? == some e.2.x&&e.2.k == m.2)
   | none=>false))=true)
  (sW:(T.wb,cw,B.wa)∈B.nC)(sX:(B.xC.all λe=>(e.C::e.tl).contains B.wa)=true) :
  GF0 (cP K B.iL B.xL T.att) G T mg/\GT (cP K B.iL B.xL T.att) G T mg:=by
 have d1:∀p∈T.fns,(p.1 == ("__debug__" : Str))=false:=λp hp=>oE s3 (bU _ (d8 _ (FC hp)));have d2:∀p∈T.cls,(p.1 == ("__debug__" : Str))=false:=λp hp=>oE s3 (bU _ (cr _ (d8 _ (FC hp))));have d3:∀p∈T.cst,(p.1 == ("__debug__" : Str))=false:=λp hp=>oE s3 (bU _ (cr _ (cr _ (FC hp))));have d4:(T.wb == ("__debug__" : Str))=false:=oE s3 bW;refine⟨wL ?cf rfl ?blt ?cst ?fns ?cls ?meth ?isB,Be d4 (mg_of X Gl (A.n _ sW)) A.wi A.wo λp hp=>?_⟩
 case cf=>
  refine Do nd (λp hp=>?_) λp hp=>?_
  .obtain⟨e,he,rfl⟩:=fh hp;exact⟨(A.i e he).2.1,(A.i e he).2.2.1⟩
  .obtain⟨e,he,rfl⟩:=fh hp;obtain⟨_,a1,a2,a3,_⟩:=A.x e he;exact⟨⟨⟨_,_,a1⟩,a2⟩,a3⟩
 case blt=>exact λp hp=>⟨mg_none_of X Gl (A.z _ (d8 _ (FC hp))),EM p hp⟩
 case cst=>
  intro p hp;have h0:=d3 p hp;rw[s4] at hp;rcases cX hp with hp | hp
  .obtain⟨c,hc,rfl⟩:=fh hp;exact⟨h0,_,.int c.2.1,mg_of X Gl (A.c c hc),⟨_,rfl⟩,rfl,λ_=>.int⟩
  .obtain⟨c,hc,rfl⟩:=fh hp;obtain⟨a1,a2⟩:=A.u c hc;have hz:c.2.2.length<=6:=HB (eQ s5 c hc);exact⟨h0,_,.ref c.2.1,mg_of X Gl a1,rfl,A4 _,λS=>.tup (EJ a2 hz) (vA _)⟩
 case fns=>
  intro p hp;have h0:=d1 p hp;rw[s1] at hp;obtain⟨d,hd,rfl⟩:=fh hp;obtain⟨F,f1,f2⟩:=okF d hd;obtain⟨a1,a2,a3⟩:=A.f d hd;exact⟨h0,F,d.f,f1,mg_of X Gl a1,a2,f2 a3⟩
 case cls=>
  intro p hp;refine⟨d2 p hp,?_⟩;rcases CL (eQ s2 p hp) with ⟨e,he,q1,q2⟩ | ⟨e,he,q1,q2⟩ | ⟨e,he,q1,q2⟩
  .obtain⟨Cl,c1,c2⟩:=okN e he;refine⟨e.2.2,by rw[<-q1]; exact mg_of X Gl (A.n e he),by rw[<-q2]; exact A.t (.cls e.2.1,.ref e.2.2) (cr _ (d8 _ (FC (f:=λe:Str×Nat×Addr=>(Ip.Ty.cls e.2.1,Value.ref e.2.2)) he))) _,λCl' f F h1 h2 _=>?_⟩;rw[<-q2,c1] at h1;cases h1;rw[c2] at h2;cases h2
  .obtain⟨⟨F',f1,f2⟩,li,Cl,c1,c2,c3⟩:=okI e he;obtain⟨a1,_,_,a4,a5⟩:=A.i e he;refine⟨e.C,by rw[<-q1]; exact mg_of X Gl a1,by rw[<-q2]; exact A.t (.cls e.c,.ref e.C) (cr _ (cr _ (d8 _ (FC (f:=λe:Ic=>(Ip.Ty.cls e.c,Value.ref e.C)) he)))) _,λCl' f F h1 h2 h3=>?_⟩;rw[<-q2,c1] at h1;cases h1;rw[c2] at h2;cases h2;rw[f1] at h3;cases h3;refine⟨e.d.f,f2 a5,?_⟩;rw[c3,<-q2];exact⟨li,a4⟩
  .obtain⟨⟨F',f1,f2⟩,li,Cl,c1,c2,c3⟩:=okX e he;obtain⟨a1,a2,_,_,a4,a5⟩:=A.x e he;refine⟨e.C,by rw[<-q1]; exact mg_of X Gl a1,by rw[<-q2]; exact A.t (.cls e.c,.ref e.C) (cr _ (cr _ (cr _ (FC (f:=λe:Xc=>(Ip.Ty.cls e.c,Value.ref e.C)) he)))) _,λCl' f F h1 h2 h3=>?_⟩;rw[<-q2,c1] at h1;cases h1;rw[c2] at h2;cases h2;rw[f1] at h3;cases h3;refine⟨e.d.f,f2 a5,?_⟩;rw[c3,<-q2];exact⟨li,a4,_,a2⟩
 case meth=>
  intro c Cl' h1 hm;rw[hcl] at h1;have q:=eQ sM (c,Cl') (fE h1);have hm':Cl'.meths.isEmpty=false:=by cases hh:Cl'.meths with | nil=>exact absurd hh hm | cons _ _=>rfl
  rw[hm',Ii] at q;cases hi:B.iL.lookup c with
  | none=>rw[hi] at q; cases q
  | some C=>
   rw[hi] at q;refine⟨C,hi,λp hp=>?_⟩;obtain⟨e,he,q1⟩:=List.any_eq_true.mp (eQ q p hp);simp only[tw,Fi] at q1;obtain⟨rfl,q2,q3⟩:=q1;obtain⟨F,f1,f2⟩:=okM e he;obtain⟨a1,a2⟩:=A.m e he;exact⟨F,e.2.x,e.2.f,by rw[<-q3]; exact f1,q2,a1,f2 a2⟩
 case isB=>
  intro p hp;obtain⟨b1,b2,nm,b3,b4⟩:=AC p hp;exact⟨mg_none_of X Gl (A.z _ (cr _ (FC hp))),b1,b2,nm,b3,A.t (p.2,.type nm) (d8 _ b4) _⟩
 .obtain⟨e,he,rfl⟩:=fh hp;exact⟨e.tl,(A.x e he).2.1.toXO,by have:=eQ sX e he; exact Gw.mp this⟩
end
end Hd
end
section
namespace Ip
open PySem (Str)
noncomputable def pK:ar:=["__init__", "row", "garment", "over", "place", "first", "second", "moment", "name", "place_count", "covered_places", "spots", "many", "covers", "meet", "wardrobe", "prices", "start", "dressers", "beats", "scenes"]
noncomputable def T_k16:Tb:=⟨[("is_whole",0),("is_below",1),("copied",2),("is_rising",15),("are_places",16),("check_garment",17),("worn_in",24),("may_lie",34),("check_things",35),("check_lacking",36),("still_under",37),("ring_among",38),("order_of",39),("_law_cell",98),("_law_mix",71),("_law_whole",73),("_law_covers",99),("_law_order",91),("_law_stacks",103),("_law_spoiled",106),("_law_fault",107),("_law_refused",76),("_law_asked",114),("law",69)],[("WardrobeError",0),("TooMuch",1),("NoGarment",2),("Worn",3),("NotWorn",4),("Covered",5),("NoLook",6),("NoDeed",7),("Wardrobe",17)], "WardrobeError",pK,[1,2,3,4,5,6,7,8,9,10,15,16,17,18,19,20],[("DEEPEST",(.int (100))),("MOST_PLACES",(.int (6))),("MOST_GARMENTS",(.int (6)))]⟩
noncomputable def kW:Fn:=⟨1,[],1,[],[
  .ret (.and (.op (.isi [.int]) [(.var 0)]) (.op .not [(.op (.isi [.bool]) [(.var 0)])]))]⟩
noncomputable def je:Fn:=⟨2,[],2,[],[
  .ret (.and (.call 0 [(.var 0)]) (.chain .le .lt (.cst (.int (0))) (.var 0) (.var 1)))]⟩
noncomputable def gZ:Fn:=⟨2,[],2,[(.int (0))],[
  .iff (.op .eq [(.var 1),(.cst (.int (100)))]) [.ret (.var 0)] [],
  .iff (.op (.isi [.list]) [(.var 0)]) [.ret (.comp [none,none,(some 1)] (.one 1) .seq [(.var 0)] [] (.call 2 [(.var 1),(.op .add [(.var 2),(.cst (.int (1)))])]))] [],
  .iff (.op (.isi [.tuple]) [(.var 0)]) [.ret (.op .tuple [(.comp [none,none,(some 1)] (.one 1) .seq [(.var 0)] [] (.call 2 [(.var 1),(.op .add [(.var 2),(.cst (.int (1)))])]))])] [],
  .iff (.op (.isi [.dict]) [(.var 0)]) [.ret .bad] [],
  .ret (.var 0)]⟩
noncomputable def om:Fn:=⟨1,[],1,[],[
  .ret (.op .all [(.comp [none,none,none] (.many [1,2]) .zip [(.var 0),(.op .slL [(.var 0),(.cst (.int (1)))])] [] (.op .lt [(.var 1),(.var 2)]))])]⟩
noncomputable def kO:Fn:=⟨2,[],2,[],[
  .iff (.or (.op .not [(.op (.isi [.list]) [(.var 0)])]) (.op .eq [(.op .len [(.var 0)]),(.cst (.int (0)))])) [.ret (.cst (.bl false))] [],
  .ret (.and (.op .all [(.comp [none,none,(some 1)] (.one 1) .seq [(.var 0)] [] (.call 1 [(.var 1),(.var 2)]))]) (.call 15 [(.var 0)]))]⟩
noncomputable def nv:Fn:=⟨2,[],2,[],[
  .iff (.op .not [(.call 1 [(.var 1),(.meth 12 (.var 0) [])])]) [.rais 2 [(.var 1)]] []]⟩
noncomputable def jK:Fn:=⟨1,[],3,[],[
  .set 1 (.op .lst []),
  .fo (.one 2) .seq [(.var 0)] [.mut 1 [] .extend [(.var 2)]],
  .ret (.op .srtSet [(.var 1)])]⟩
noncomputable def iG:Fn:=⟨3,[],3,[],[
  .ret (.and (.call 1 [(.var 2),(.meth 12 (.var 0) [])]) (.op .isin [(.var 1),(.meth 13 (.var 0) [(.var 2)])]))]⟩
noncomputable def jR:Fn:=⟨2,[],6,[],[
  .fo (.many [2,3]) .enum [(.var 1)] [.fo (.many [4,5]) .enum [(.var 3)] [.iff (.or (.op .not [(.call 34 [(.var 0),(.var 2),(.var 5)])]) (.op .isin [(.var 5),(.op .slH [(.var 3),(.var 4)])])) [.rais 6 [(.var 2),(.var 5)]] []]]]⟩
noncomputable def k8:Fn:=⟨2,[],4,[],[
  .fo (.one 2) .seq [(.call 24 [(.var 1)])] [.fo (.one 3) .seq [(.meth 13 (.var 0) [(.var 2)])] [.iff (.op .nin [(.var 2),(.op .ix [(.var 1),(.var 3)])]) [.rais 6 [(.var 3),(.var 2)]] []]]]⟩
noncomputable def jx:Fn:=⟨4,[],7,[],[
  .set 4 (.op .lst []),
  .fo (.one 5) .seq [(.meth 13 (.var 0) [(.var 2)])] [.set 6 (.op .index [(.op .ix [(.var 1),(.var 5)]),(.var 2)]),.iff (.and (.op .gt [(.var 6),(.cst (.int (0)))]) (.op .isin [(.op .ix [(.op .ix [(.var 1),(.var 5)]),(.op .sub [(.var 6),(.cst (.int (1)))])]),(.var 3)])) [.mut 4 [] .append [(.op .tup [(.op .ix [(.op .ix [(.var 1),(.var 5)]),(.op .sub [(.var 6),(.cst (.int (1)))])]),(.var 5)])]] []],
  .ret (.var 4)]⟩
noncomputable def mC:Fn:=⟨3,[],5,[],[
  .set 3 (.op .lst []),
  .set 4 (.op .ix [(.call 37 [(.var 0),(.var 1),(.op .ix [(.var 2),(.cst (.int (0)))]),(.var 2)]),(.cst (.int (0)))]),
  .whl (.op .nin [(.var 4),(.var 3)]) [.mut 3 [] .append [(.var 4)],.set 4 (.op .ix [(.call 37 [(.var 0),(.var 1),(.op .ix [(.var 4),(.cst (.int (0)))]),(.var 2)]),(.cst (.int (0)))])],
  .ret (.op .rev [(.op .slL [(.var 3),(.op .index [(.var 3),(.var 4)])])])]⟩
noncomputable def g8:Fn:=⟨2,[],5,[],[
  .ex (.call 35 [(.var 0),(.var 1)]),
  .ex (.call 36 [(.var 0),(.var 1)]),
  .set 2 (.op .lst []),
  .set 3 (.call 24 [(.var 1)]),
  .whl (.op .gt [(.op .len [(.var 3)]),(.cst (.int (0)))]) [.set 4 (.comp [none,none,(some 3),(some 1),(some 0)] (.one 1) .seq [(.var 3)] [(.op .eq [(.op .len [(.call 37 [(.var 4),(.var 3),(.var 1),(.var 2)])]),(.cst (.int (0)))])] (.var 1)),.iff (.op .eq [(.op .len [(.var 4)]),(.cst (.int (0)))]) [.ret (.op .tup [(.cst (.str "ring")),(.call 38 [(.var 0),(.var 1),(.var 3)])])] [],.mut 2 [] .append [(.op .ix [(.var 4),(.cst (.int (0)))])],.mut 3 [] .remove [(.op .ix [(.var 4),(.cst (.int (0)))])]],
  .retP "order" 2]⟩
noncomputable def gQ:Fn:=⟨2,[],2,[],[
  .iff (.op .lt [(.var 1),(.op .len [(.var 0)])]) [.ret (.op .ix [(.var 0),(.var 1)])] [],
  .ret (.cst (.int (0)))]⟩
noncomputable def fK:Fn:=⟨3,[],6,[],[
  .iff (.op .gt [(.var 0),(.op .pow [(.cst (.int (10))),(.cst (.int (9)))])]) [.set 3 (.op .fdiv [(.var 0),(.cst (.int (1000)))]),.fo (.one 4) .rng1 [(.op .mod [(.var 1),(.cst (.int (9)))])] [.set 3 (.op .fdiv [(.var 3),(.cst (.int (1000)))])],.ret (.op .mod [(.op .mod [(.var 3),(.cst (.int (1000)))]),(.var 2)])] [],
  .set 5 (.op .add [(.op .add [(.op .mod [(.var 0),(.cst (.int (1000003)))]),(.op .mul [(.cst (.int (31))),(.var 1)])]),(.cst (.int (1)))]),
  .ret (.op .mod [(.op .fdiv [(.op .mod [(.op .add [(.op .add [(.op .mul [(.var 5),(.var 5)]),(.op .mul [(.cst (.int (65537))),(.var 5)])]),(.op .mul [(.cst (.int (977))),(.var 1)])]),(.cst (.int (999983)))]),(.cst (.int (3)))]),(.var 2)])]⟩
noncomputable def iP:Fn:=⟨1,[],1,[],[
  .ret (.and (.op (.isi [.int]) [(.var 0)]) (.op .not [(.op (.isi [.bool]) [(.var 0)])]))]⟩
noncomputable def oJ:Fn:=⟨2,[],7,[],[
  .set 2 (.op .lst []),
  .fo (.one 3) .rng1 [(.op .mod [(.call 98 [(.var 0),(.cst (.int (1)))]),(.cst (.int (7)))])] [.set 4 (.call 98 [(.var 0),(.op .add [(.cst (.int (2))),(.var 3)])]),.set 5 (.op .add [(.cst (.int (1))),(.call 71 [(.var 4),(.cst (.int (1))),(.op .ix [(.op .lst [(.cst (.int (1))),(.cst (.int (3))),(.cst (.int (7))),(.cst (.int (15))),(.cst (.int (31))),(.cst (.int (63)))]),(.op .sub [(.var 1),(.cst (.int (1)))])])])]),.set 6 (.comp [none,none,(some 5)] (.one 1) .rng1 [(.var 1)] [(.op .eq [(.op .mod [(.op .fdiv [(.var 2),(.op .ix [(.op .lst [(.cst (.int (1))),(.cst (.int (2))),(.cst (.int (4))),(.cst (.int (8))),(.cst (.int (16))),(.cst (.int (32)))]),(.var 1)])]),(.cst (.int (2)))]),(.cst (.int (1)))])] (.var 1)),.iff (.op .eq [(.call 71 [(.var 4),(.cst (.int (2))),(.cst (.int (2)))]),(.cst (.int (1)))]) [.set 6 (.op .slH [(.op .slL [(.var 6),(.call 71 [(.var 4),(.cst (.int (3))),(.op .len [(.var 6)])])]),(.cst (.int (1)))])] [],.mut 2 [] .append [(.var 6)]],
  .ret (.var 2)]⟩
noncomputable def nL:Fn:=⟨3,[],6,[],[
  .set 3 (.op .lst []),
  .fo (.one 4) .rng1 [(.op .len [(.var 2)])] [.set 5 (.call 98 [(.var 0),(.op .add [(.var 1),(.var 4)])]),.iff (.op .gt [(.call 71 [(.var 5),(.cst (.int (4))),(.cst (.int (5)))]),(.cst (.int (0)))]) [.mut 3 [] .insert [(.call 71 [(.var 5),(.cst (.int (5))),(.op .add [(.op .len [(.var 3)]),(.cst (.int (1)))])]),(.var 4)]] []],
  .ret (.var 3)]⟩
noncomputable def nB:Fn:=⟨3,[],3,[],[
  .ret (.op .tuple [(.comp [none,none,(some 1),(some 2)] (.one 1) .rng1 [(.var 0)] [] (.op .tuple [(.comp [none,none,(some 2),(some 1)] (.one 1) .seq [(.var 3)] [(.op .isin [(.var 3),(.op .ix [(.var 2),(.var 1)])])] (.var 1))]))])]⟩
noncomputable def mO:Fn:=⟨3,[],8,[],[
  .set 3 (.call 71 [(.var 1),(.cst (.int (16))),(.op .len [(.var 0)])]),
  .set 4 (.op .ix [(.var 0),(.var 3)]),
  .set 5 (.call 71 [(.var 1),(.cst (.int (17))),(.op .add [(.op .len [(.var 4)]),(.cst (.int (1)))])]),
  .set 6 (.op .ix [(.op .lst [(.var 2),(.op .neg [(.cst (.int (1)))]),(.cst (.bl true)),(.cst .non),(.cst (.str "0")),(.op .tup [(.cst (.int (0)))]),(.op .lst [(.cst (.int (0)))])]),(.call 71 [(.var 1),(.cst (.int (18))),(.cst (.int (7)))])]),
  .set 7 (.call 71 [(.var 1),(.cst (.int (19))),(.cst (.int (4)))]),
  .iff (.op .gt [(.var 7),(.cst (.int (1)))]) [.set 6 (.call 71 [(.var 1),(.cst (.int (20))),(.var 2)])] [],
  .set 4 (.op .add [(.op .add [(.op .slH [(.var 4),(.var 5)]),(.op .tup [(.var 6)])]),(.op .slL [(.var 4),(.var 5)])]),
  .iff (.op .eq [(.var 7),(.cst (.int (0)))]) [.set 4 (.op .add [(.op .slH [(.op .ix [(.var 0),(.var 3)]),(.var 5)]),(.op .slL [(.op .ix [(.var 0),(.var 3)]),(.op .add [(.var 5),(.cst (.int (1)))])])])] [],
  .ret (.op .add [(.op .add [(.op .slH [(.var 0),(.var 3)]),(.op .tup [(.var 4)])]),(.op .slL [(.var 0),(.op .add [(.var 3),(.cst (.int (1)))])])])]⟩
noncomputable def oH:Fn:=⟨2,[],7,[],[
  .fo (.one 2) .rng1 [(.op .len [(.var 0)])] [.fo (.one 3) .rng1 [(.op .len [(.op .ix [(.var 0),(.var 2)])])] [.set 4 (.op .ix [(.op .ix [(.var 0),(.var 2)]),(.var 3)]),.iff (.or (.op .not [(.call 73 [(.var 4)])]) (.op .not [(.chain .le .lt (.cst (.int (0))) (.var 4) (.op .len [(.var 1)]))])) [.ret (.op .tup [(.var 2),(.var 4)])] [],.iff (.or (.op .nin [(.var 2),(.op .ix [(.var 1),(.var 4)])]) (.op .isin [(.var 4),(.op .slH [(.op .ix [(.var 0),(.var 2)]),(.var 3)])])) [.ret (.op .tup [(.var 2),(.var 4)])] []]],
  .fo (.one 5) .rng1 [(.op .len [(.var 1)])] [.set 6 (.comp [none,none,(some 5),(some 0)] (.one 1) .seq [(.op .ix [(.var 1),(.var 5)])] [(.op .nin [(.var 2),(.op .ix [(.var 3),(.var 1)])])] (.var 1)),.iff (.chain .lt .lt (.cst (.int (0))) (.op .len [(.var 6)]) (.op .len [(.op .ix [(.var 1),(.var 5)])])) [.ret (.op .tup [(.op .ix [(.var 6),(.cst (.int (0)))]),(.var 5)])] []],
  .ret (.cst .non)]⟩
noncomputable def on:Fn:=⟨2,[],2,[],[
  .iff (.or (.op .not [(.op (.isi [.cls 6]) [(.var 0)])]) (.or (.op .not [(.op (.isi [.cls 0]) [(.var 0)])]) (.op .not [(.op (.isi [.verr]) [(.var 0)])]))) [.ret (.cst (.bl false))] [],
  .iff (.or (.op (.isi [.cls 5,.cls 7,.cls 2,.cls 4,.cls 1,.cls 3]) [(.var 0)]) (.op .not [(.call 73 [(.op (.fld 4) [(.var 0)])])])) [.ret (.cst (.bl false))] [],
  .ret (.and (.op .eq [(.op .tup [(.op (.fld 4) [(.var 0)]),(.op (.fld 2) [(.var 0)])]),(.var 1)]) (.op .eq [(.op (.isi [.bool]) [(.op (.fld 2) [(.var 0)])]),(.op (.isi [.bool]) [(.op .ix [(.var 1),(.cst (.int (1)))])])]))]⟩
noncomputable def jl:Fn:=⟨2,[],5,[],[
  .set 2 (.cst .non),
  .set 3 (.cst .non),
  .tryE [.set 3 (.call 39 [(.var 0),(.var 1)])] 0 4 2,
  .ret (.op .tup [(.var 3),(.var 2)])]⟩
noncomputable def oA:Fn:=⟨1,[],10,[],[
  .set 1 (.op .add [(.cst (.int (1))),(.op .mod [(.call 98 [(.var 0),(.cst (.int (0)))]),(.cst (.int (6)))])]),
  .set 2 (.op .slH [(.op .add [(.call 99 [(.var 0),(.var 1)]),(.op .lst [(.op .lst [(.cst (.int (0)))])])]),(.cst (.int (6)))]),
  .set 3 (.make 17 [(.var 1),(.comp [none,none] (.one 1) .seq [(.var 2)] [] (.op .list [(.var 1)]))]),
  .set 4 (.call 103 [(.var 1),(.var 2),(.call 91 [(.var 0),(.cst (.int (8))),(.var 2)])]),
  .set 5 (.var 4),
  .fo (.one 6) .rng1 [(.op .add [(.cst (.int (1))),(.op .mod [(.call 98 [(.var 0),(.cst (.int (14)))]),(.cst (.int (3)))])])] [.set 5 (.call 106 [(.var 5),(.call 98 [(.var 0),(.op .add [(.cst (.int (15))),(.var 6)])]),(.op .len [(.var 2)])])],
  .set 7 (.call 107 [(.var 5),(.var 2)]),
  .setT [8,9] (.call 114 [(.var 3),(.var 5)]),
  .iff (.op .isN [(.var 7)]) [.ret (.and (.op .isN [(.var 9)]) (.and (.op (.isi [.tuple]) [(.var 8)]) (.op .isin [(.op .ix [(.var 8),(.cst (.int (0)))]),(.op .lst [(.cst (.str "order")),(.cst (.str "ring"))])])))] [],
  .iff (.op .not [(.call 76 [(.var 9),(.var 7)])]) [.ret (.cst (.bl false))] [],
  .setT [8,9] (.call 114 [(.var 3),(.var 4)]),
  .ret (.and (.op .isN [(.var 9)]) (.and (.op (.isi [.tuple]) [(.var 8)]) (.op .eq [(.op .ix [(.var 8),(.cst (.int (0)))]),(.cst (.str "order"))])))]⟩
noncomputable def ub:Fn:=⟨2,[0],3,[],[
  .set 2 (.call 2 [(.var 1)]),
  .xinit [(.var 0),(.var 2)],
  .sfld 0 2 (.var 2)]⟩
noncomputable def gY:Fn:=⟨3,[0],4,[],[
  .set 3 (.call 2 [(.var 2)]),
  .xinit [(.var 0),(.var 1),(.var 3)],
  .sfld 0 4 (.var 1),
  .sfld 0 2 (.var 3)]⟩
noncomputable def kI:Fn:=⟨3,[0],5,[],[
  .iff (.or (.op .not [(.call 0 [(.var 1)])]) (.op .not [(.chain .le .le (.cst (.int (1))) (.var 1) (.cst (.int (6))))])) [.rais 1 []] [],
  .iff (.op .gt [(.op .len [(.var 2)]),(.cst (.int (6)))]) [.rais 1 []] [],
  .fo (.many [3,4]) .enum [(.var 2)] [.iff (.op .not [(.call 16 [(.var 4),(.var 1)])]) [.rais 2 [(.var 3)]] []],
  .sfld 0 9 (.var 1),
  .sfld 0 10 (.comp [none,none] (.one 1) .seq [(.var 2)] [] (.op .tuple [(.var 1)]))]⟩
noncomputable def i6:Fn:=⟨1,[],1,[],[
  .ret (.op .len [(.op (.fld 10) [(.var 0)])])]⟩
noncomputable def ig:Fn:=⟨2,[],2,[],[
  .ex (.call 17 [(.var 0),(.var 1)]),
  .ret (.op .list [(.op .ix [(.op (.fld 10) [(.var 0)]),(.var 1)])])]⟩
noncomputable def fnL_k16:List (Nat×Fn):=[(0,kW),(1,je),(2,gZ),(15,om),(16,kO),(17,nv),(24,jK),(34,iG),(35,jR),(36,k8),(37,jx),(38,mC),(39,g8),(98,gQ),(71,fK),(73,iP),(99,oJ),(91,nL),(103,nB),(106,mO),(107,oH),(76,on),(114,jl),(69,oA),(4,ub),(8,gY),(18,kI),(20,i6),(21,ig)]
noncomputable def clL_k16:List (Nat×Cl):=[(0,⟨none,[],[],true⟩),(1,⟨none,[],[0],true⟩),(2,⟨(some 4),[],[0],true⟩),(3,⟨none,[],[0],true⟩),(4,⟨none,[],[0],true⟩),(5,⟨none,[],[0],true⟩),(6,⟨(some 8),[],[0],true⟩),(7,⟨none,[],[0],true⟩),(17,⟨(some 18),[(12,20),(13,21)],[],false⟩)]
noncomputable def G_k16:Pg where
 fn:=λi=>fnL_k16.lookup i
 cl:=λi=>clL_k16.lookup i
theorem t5 {f:D->R az}{g:D->KD}:∀{xs:ax},(∀x∈xs,f x=.ok (some (g x)))->be f xs=.ok (xs.map g)
 | [],_=>rfl
 | x::xs,h=>by
  rw[be,h x Gh,R.bind,t5 λy hy=>h y (Gk _ hy)];rfl
def m8 {α:Type}{e:α->D}{f:D->R az}{g:α->KD}{xs:List α}(h:∀x∈xs,f (e x)=.ok (some (g x))):be f (xs.map e)=.ok (xs.map g):=by
 induction xs with
 | nil=>rfl
 | cons x xs ih=>rw[Fh,be,h x Gh,R.bind,ih λy hy=>h y (Gk _ hy)]; rfl
def n0 {α:Type}{e:α->D}{f:D->R az}{p:α->Bool}{g:α->KD}{xs:List α}(h:∀x∈xs,f (e x)=.ok (if p x then some (g x) else none)):be f (xs.map e)=.ok ((xs.filter p).map g):=by
 induction xs with
 | nil=>rfl
 | cons x xs ih=>
  rw[Fh,be,h x Gh,R.bind,ih λy hy=>h y (Gk _ hy)];by_cases q:p x=true
  .simp[q]
  .simp[q]
@[simp] theorem DT {α:Type}(p:α->Bool):∀xs:List α,allB (xs.map λx=>.bl (p x))=some (xs.all p)
 | []=>rfl
 | x::xs=>by rw[Fh,allB,DT p xs]; rfl
@[simp] theorem zX {α:Type}(p:α->Bool):∀xs:List α,anyB (xs.map λx=>.bl (p x))=some (xs.any p)
 | []=>rfl
 | x::xs=>by rw[Fh,anyB,zX p xs]; rfl
@[simp] theorem AW:∀xs:al,fc (xs.map .int)=some xs
 | []=>rfl
 | x::xs=>by rw[Fh,fc,AW xs]; rfl
@[simp] theorem EI:∀xs:al,D.flats (xs.map .int)=true
 | []=>by simp
 | x::xs=>by simp[EI xs]
@[simp] theorem yU:∀xs ys:al,D.eqs (xs.map .int) (ys.map .int)=decide (xs=ys)
 | [],[]=>by simp[D.eqs]
 | [],_::_=>by simp[D.eqs]
 | _::_,[]=>by simp[D.eqs]
 | x::xs,y::ys=>by simp[D.eqs,D.eq,yU xs ys]
def qS {xs:aw}(h:∀x∈xs,x.2.flat=true):aY xs=98:=by
 have:xs.find? (λx=>!x.2.flat)=none:=by
  rw[List.find?_eq_none];intro x hx;simp[h x hx]
 rw[aY,this]
@[simp] theorem flat_int (i:Int):(D.int i).flat=true:=rfl
@[simp] theorem joinK_int (k:Nat)(i:Int)(xs:aw):aY ((k,.int i)::xs)=aY xs:=og rfl
@[simp] theorem joinK_bl (k:Nat)(i:Bool)(xs:aw):aY ((k,.bl i)::xs)=aY xs:=og rfl
@[simp] theorem joinK_non (k:Nat)(xs:aw):aY ((k,.non)::xs)=aY xs:=og rfl
@[simp] theorem joinK_str (k:Nat)(i:Str)(xs:aw):aY ((k,.str i)::xs)=aY xs:=og rfl
@[simp] theorem uZ (k:Nat)(i:Int):D.fb k (.int i)=true:=by cases k <;> rfl
@[simp] theorem fb_bl (k:Nat)(i:Bool):D.fb k (.bl i)=true:=by cases k <;> rfl
@[simp] theorem fb_non (k:Nat):D.fb k .non=true:=by cases k <;> rfl
@[simp] theorem fb_str (k:Nat)(i:Str):D.fb k (.str i)=true:=by cases k <;> rfl
def kN {α:Type}(xs:List α)(k:Nat):cutD xs none (some (k:Int))=xs.take k:=by
 simp only[cutD,gp];simp
def oM {α:Type}(xs:List α)(k:Nat):cutD xs (some (k:Int)) none=xs.drop k:=by
 simp only[cutD,gp];by_cases h:k<=xs.length
 .skip
  simp only[if_pos (Hm k),Int.toNat_natCast,Nat.min_eq_left h];exact GU (by simp)
 .have h':xs.length<=k:=by omega
  simp[Nat.min_eq_right h',GV h']
@[simp] theorem wk_seq (k:Nat)(x:D):dF .seq [(k,x)]=x.seq:=rfl
@[simp] theorem wk_enum (k:Nat)(xs:ax):dF .enum [(k,.lst xs)]=some (xs.mapIdx λn d=>.tup [.int n,d]):=rfl
@[simp] theorem wk_zip (k k':Nat)(xs ys:ax):dF .zip [(k,.lst xs),(k',.lst ys)]=some ((xs.zip ys).map λp=>.tup [p.1,p.2]):=rfl
def wk_rng1 {k p:Nat}(h:p<=SL):dF .rng1 [(k,.int p)]=some ((List.range p).map λ(n:Nat)=>.int n):=by
 have h2:p<=1000000:=h;have:d6 (p:Int)=true:=gU.mpr (by omega);show (if d6 (p:Int)=true then _ else none)=_;rw[if_pos this];rfl
def sF {n i:Nat}(h:i<n):ef n (i:Int)=some i:=by
 simp[ef,h]
theorem vk {body:D->Fr->O}{I:Fr->Prop}:∀{xs:ax} {A:Fr},I A->(∀x∈xs,∀A,I A->∃A',body x A=.nx A'/\I A')->∃A',bJ body xs A=.nx A'/\I A'
 | [],A,h,_=>⟨A,rfl,h⟩
 | x::xs,A,h,k=>by
  obtain⟨A1,e1,h1⟩:=k x bW A h;obtain⟨A2,e2,h2⟩:=vk (xs:=xs) h1 λy hy=>k y (bU _ hy);exact⟨A2,by rw[bJ,e1]; exact e2,h2⟩
noncomputable def RelK:az->az->Prop
 | none,none=>True
 | some x,some y=>x.2=y.2/\y.1<=x.1
 | _,_=>False
inductive RelF:Fr->Fr->Prop
 | nil:RelF [] []
 | cons {x y:az} {A a:Fr} (h:RelK x y) (t:RelF A a):RelF (x::A) (y::a)
theorem RelK.refl:∀x:az,RelK x x
 | none=>trivial
 | some _=>⟨rfl,bD _⟩
theorem RelF.refl:∀A:Fr,RelF A A
 | []=>.nil
 | x::A=>.cons (.refl x) (.refl A)
theorem RelF.sl {A a:Fr}(h:RelF A a):A.sl=a.sl:=by
 induction h with
 | nil=>rfl
 | @cons x y A a h t ih=>
  have:x.map (·.2)=y.map (·.2):=by
   cases x <;> cases y <;> first | rfl | exact h.elim | (simp only[Option.map]; exact congrArg some h.1)
  simp only[Fr.sl,Fh] at ih ⊢;rw[this,ih]
def RelF.len {A a:Fr}(h:RelF A a):A.length=a.length:=by
 induction h with
 | nil=>rfl
 | cons _ _ ih=>simp[ih]
theorem RelF.set {A a:Fr}(h:RelF A a){x y:az}(k:RelK x y):∀i,RelF (A.set i x) (a.set i y):=by
 induction h with
 | nil=>intro i; exact .nil
 | cons q t ih=>
  intro i;cases i with
  | zero=>exact .cons k t
  | succ i=>exact .cons q (ih i)
def RelF.get {A a:Fr}(h:RelF A a):∀i:Nat,(A[i]? = none/\a[i]? = none)\/∃x y,A[i]? = some x/\a[i]? = some y/\RelK x y:=by
 induction h with
 | nil=>intro i; exact .inl ⟨rfl,rfl⟩
 | @cons x y _ _ q t ih=>
  intro i;cases i with
  | zero=>exact .inr ⟨x,y,rfl,rfl,q⟩
  | succ i=>simpa using ih i
theorem RelF.frz1 {A a:Fr}(h:RelF A a)(i:Nat):RelF (frz1 A i) (frz1 a i):=by
 simp only[Ip.frz1];rcases h.get i with ⟨e1,e2⟩ | ⟨x,y,e1,e2,q⟩
 .rw[e1,e2]; exact h
 .rw[e1,e2];cases x <;> cases y
  .exact h
  .exact q.elim
  .exact q.elim
  .next x y=>exact h.set (x:=some (0,x.2)) (y:=some (0,y.2)) ⟨q.1,bD _⟩ i
theorem RelF.frz {ns:ak}:∀{A a:Fr},RelF A a->RelF (frz ns A) (frz ns a):=by
 induction ns with
 | nil=>exact λh=>h
 | cons n ns ih=>exact λh=>ih (h.frz1 n)
theorem RelF.trans {A a b:Fr}(h:RelF A a)(k:RelF a b):RelF A b:=by
 induction h generalizing b with
 | nil=>exact k
 | @cons x y _ _ q t ih=>
  cases k with
  | @cons _ z _ _ q' t'=>
   refine .cons ?_ (ih t');cases x <;> cases y <;> cases z <;> first | trivial | exact q.elim | exact q'.elim | exact⟨q.1.trans q'.1,b8 q'.2 q.2⟩
def RelF.low1 (a:Fr)(i:Nat):RelF a (Ip.frz1 a i):=by
 simp only[Ip.frz1];cases e:a[i]? with
 | none=>exact .refl a
 | some x=>
  cases x with
  | none=>exact .refl a
  | some x=>
   have:a=a.set i (some x):=by
    refine (GH λj=>?_);rw[List.getElem?_set];by_cases hj:i=j
    .subst hj;have:=(eO e).1;rw[e]; simp[this]
    .simp[hj]
   conv=>lhs; rw[this]
   exact (RelF.refl a).set (x:=some x) (y:=some (0,x.2)) ⟨rfl,Fy _⟩ i
def RelF.low (ns:ak):∀a:Fr,RelF a (Ip.frz ns a):=by
 induction ns with
 | nil=>exact .refl
 | cons n ns ih=>exact λa=>(RelF.low1 a n).trans (ih _)
def RelF.lowA (a:Fr):RelF a (de a):=by
 induction a with
 | nil=>exact .nil
 | cons x a ih=>
  refine .cons ?_ ih;cases x with
  | none=>trivial
  | some x=>exact⟨rfl,Fy _⟩
theorem RelF.zero:∀{A a:Fr},A.sl=a.sl->RelF A (de a)
 | [],[],_=>.nil
 | [],y::a,h=>by simp[Fr.sl] at h
 | x::A,[],h=>by simp[Fr.sl] at h
 | x::A,y::a,h=>by
  simp only[Fr.sl,Fh,FP] at h;refine .cons ?_ (RelF.zero h.2);cases x <;> cases y <;> simp at h
  .trivial
  .exact⟨h.1,Fy _⟩
theorem RelF.settle {A a:Fr}(h:RelF A a)(ns:ak)(x:KD):RelF (settle ns A x) (Ip.frz ns a):=by
 simp only[Ip.settle];split
 .exact h.trans (.low ns a)
 .exact h.frz
def RelF.settleK {A a:Fr}(h:RelF A a)(ns:ak){x:KD}(hx:x.2.fb x.1=true):RelF (Ip.settle ns A x) a:=by
 simp only[Ip.settle,hx,if_true]; exact h
theorem RelF.excA {A a:Fr}(h:RelF A a)(fs:List aJ):RelF (Ip.excA A fs) (de a):=by
 simp only[Ip.excA];split
 .exact h.trans (.lowA a)
 .have:RelF (de A) (de a):=by
   induction h with
   | nil=>exact .nil
   | @cons x y _ _ q t ih=>
    refine .cons ?_ ih;cases x <;> cases y <;> first | trivial | exact q.elim | exact⟨q.1,bD _⟩
  exact this
def dq (k:Nat)(d:D):Prop:=∀s xs,d=.tup [.str s,.lst xs]->2<=k
def vF {d:D}{j k:Nat}(h:dq j d)(l:j<=k):dq k d:=λs xs e=>b8 (h s xs e) l
section
variable (G:Pg)(cl:Nat->aw->Run)(io:ak)
def Ou (a:Fr)(ss:ay)(N:Fr->Prop)(V:D->Prop)(X:Nat->List aJ->Fr->Prop):Prop:=∀A,RelF A a->match execs G cl io A ss with
 | .nx A'=>∃a',RelF A' a'/\N a'
 | .ret k d _=>V d/\dq k d
 | .exc c fs A'=>∃a',RelF A' a'/\X c fs a'
 | _=>False
variable {G cl io}{a:Fr}{ss:ay}{N:Fr->Prop}{V:D->Prop}{X:Nat->List aJ->Fr->Prop}
def Ou.nil (h:N a):Ou G cl io a [] N V X:=λA r=>by
 simp only[pQ,jC]; exact⟨a,r,h⟩
def Ou.low {a':Fr}(l:RelF a a')(h:Ou G cl io a' ss N V X):Ou G cl io a ss N V X:=λA r=>h A (r.trans l)
def Ou.mono {N':Fr->Prop}{V':D->Prop}{X':Nat->List aJ->Fr->Prop}(h:Ou G cl io a ss N V X)(n:∀a,N a->N' a)(r:∀d,V d->V' d)(x:∀c fs a,X c fs a->X' c fs a):Ou G cl io a ss N' V' X':=λA q=>by
 have:=h A q;revert this
 cases execs G cl io A ss with
 | nx A=>exact λ⟨a,h1,h2⟩=>⟨a,h1,n a h2⟩
 | ret k d A=>exact λh=>⟨r d h.1,h.2⟩
 | exc c fs A=>exact λ⟨a,h1,h2⟩=>⟨a,h1,x c fs a h2⟩
 | _=>exact id
theorem Ou.step {s:S}(h:∀A,RelF A a->match exec G cl io A s with
  | .nx A'=>∃a',RelF A' a'/\Ou G cl io a' ss N V X
  | .ret k d _=>V d/\dq k d
  | .exc c fs A'=>∃a',RelF A' a'/\X c fs a'
  | _=>False):Ou G cl io a (s::ss) N V X:=λA r=>by
 have:=h A r;simp only[pQ,jC];revert this
 cases exec G cl io A s with
 | nx A'=>exact λ⟨a',h1,h2⟩=>h2 A' h1
 | ret k d A=>exact id
 | exc c fs A=>exact id
 | _=>exact id
def okI {io:ak}{i n:Nat}(h:(!io.contains i&&Nat.blt i n)=true):io.contains i=false/\i<n:=by
 rw[tw] at h;exact⟨by simpa using h.1,G0 h.2⟩
def su {io is:ak}{m n:Nat}(h:(m == is.length&&is.all λi=>!io.contains i&&Nat.blt i n)=true):m=is.length/\∀i∈is,io.contains i=false/\i<n:=by
 rw[tw,List.all_eq_true] at h;exact⟨by simpa using h.1,λi hi=>okI (h.2 i hi)⟩
theorem Ou.set {i:Nat}{e:Ex}{x:KD}(h:eval G cl a.sl e=.ok x)(k:Ou G cl io ((frz e.names a).set i (some (0,x.2))) ss N V X)(hi:(!io.contains i&&Nat.blt i a.length)=true:=by rfl):Ou G cl io a (.set i e::ss) N V X:=
 .step λA r=>by
  obtain⟨hio,hi⟩:=okI hi;have l:(settle e.names A x).length=a.length:=by
   rw[<-r.len];have:=(r.settle e.names x).len;rw[this,<-(RelF.low e.names a).len,r.len]
  simp only[ku,r.sl,h,R.toO,cC,hio,l,hi,and_self,if_true];exact⟨_,(r.settle e.names x).set (x:=some x) (y:=some (0,x.2)) ⟨rfl,Fy _⟩ i,k⟩
def Ou.setE {i:Nat}{e:Ex}{d:D}(h:∃j,eval G cl a.sl e=.ok (j,d))(k:Ou G cl io ((frz e.names a).set i (some (0,d))) ss N V X)(hi:(!io.contains i&&Nat.blt i a.length)=true:=by rfl):Ou G cl io a (.set i e::ss) N V X:=by
 obtain⟨j,h⟩:=h;exact Ou.set h k hi
def Ou.setK {i:Nat}{e:Ex}{x:KD}(h:eval G cl a.sl e=.ok x)(hx:x.2.fb x.1=true)(k:Ou G cl io (a.set i (some x)) ss N V X)(hi:(!io.contains i&&Nat.blt i a.length)=true:=by rfl):Ou G cl io a (.set i e::ss) N V X:=
 .step λA r=>by
  obtain⟨hio,hi⟩:=okI hi;have l:(settle e.names A x).length=a.length:=(r.settleK e.names hx).len;simp only[ku,r.sl,h,R.toO,cC,hio,l,hi,and_self,if_true];exact⟨_,(r.settleK e.names hx).set (.refl _) i,k⟩
def Ou.setX {i:Nat}{e:Ex}{c:Nat}{fs:List aJ}(h:eval G cl a.sl e=.exc c fs)(k:X c fs (de a)):Ou G cl io a (.set i e::ss) N V X:=
 .step λA r=>by
  simp only[ku,r.sl,h,R.toO];exact⟨_,r.excA fs,k⟩
theorem Ou.ex {e:Ex}{x:KD}(h:eval G cl a.sl e=.ok x)(k:Ou G cl io (frz e.names a) ss N V X):Ou G cl io a (.ex e::ss) N V X:=
 .step λA r=>by
  simp only[qG,r.sl,h,R.toO];exact⟨_,r.settle e.names x,k⟩
theorem Ou.ret {e:Ex}{x:KD}(h:eval G cl a.sl e=.ok x)(k:V x.2)(hd:dq x.1 x.2:=by intro s xs e; cases e):Ou G cl io a (.ret e::ss) N V X:=
 .step λA r=>by
  rw[oI,r.sl,h];cases e with
  | var i=>
   rw[ip,<-r.sl] at h;rcases r.get i with ⟨e1,e2⟩ | ⟨x',y',e1,e2,q⟩
   .simp[Fr.sl,e1] at h
   .cases x' with
    | none=>simp[Fr.sl,e1] at h
    | some x'=>
     simp[Fr.sl,e1] at h;subst h;rw[r9,e1];exact⟨k,vF hd (Fy _)⟩
  | _=>exact⟨k,hd⟩
def Ou.retE {e:Ex}{d:D}(h:∃j,eval G cl a.sl e=.ok (j,d))(k:V d)(hd:dq 0 d:=by intro s xs e; cases e):Ou G cl io a (.ret e::ss) N V X:=by
 obtain⟨j,h⟩:=h;exact Ou.ret h k (vF hd (Fy _))
theorem Ou.iff {c:Ex}{t e:ay}{b:Bool}{j:Nat}(h:eval G cl a.sl c=.ok (j,.bl b))(k:if b then Ou G cl io a t (λa'=>Ou G cl io a' ss N V X) V X else Ou G cl io a e (λa'=>Ou G cl io a' ss N V X) V X):Ou G cl io a (.iff c t e::ss) N V X:=
 .step λA r=>by
  simp only[s0,r.sl,h,R.bl,R.bind,R.toO];cases b with
  | true=>exact k A r
  | false=>exact k A r
def Ou.iffT {c:Ex}{t e:ay}{j:Nat}(h:eval G cl a.sl c=.ok (j,.bl true))(k:Ou G cl io a t (λa'=>Ou G cl io a' ss N V X) V X):Ou G cl io a (.iff c t e::ss) N V X:=.iff h k
def Ou.iffF {c:Ex}{t e:ay}{j:Nat}(h:eval G cl a.sl c=.ok (j,.bl false))(k:Ou G cl io a e (λa'=>Ou G cl io a' ss N V X) V X):Ou G cl io a (.iff c t e::ss) N V X:=.iff h k
def Ou.iffN {c:Ex}{t:ay}{j:Nat}(h:eval G cl a.sl c=.ok (j,.bl false))(k:Ou G cl io a ss N V X):Ou G cl io a (.iff c t []::ss) N V X:=Ou.iffF h (Ou.nil k)
theorem Ou.rais {c c':Nat}{es:aF}{j:Nat}{fs:List aJ}(h:eval G cl a.sl (.make c es)=.ok (j+1,.exc c' fs))(k:X c' fs (de a)):Ou G cl io a (.rais c es::ss) N V X:=
 .step λA r=>by
  simp only[ti,r.sl,h,R.toO,gk];refine⟨_,RelF.zero ?_,k⟩;rw[((r.settle (Ex.make c es).names (j+1,.exc c' fs)).excA fs).sl,<-(RelF.lowA _).sl,<-(RelF.low _ a).sl]
theorem RelF.setFs {io:ak}:∀{is:ak} {ds:ax} {k:Nat} {A a:Fr},RelF A a->ds.length=is.length->(∀i∈is,io.contains i=false/\i<a.length)->∃A',setFs io is (ds.map λd=>(k,d)) A=.nx A'/\RelF A' (cg (λd=>(0,d)) is ds a)
 | [],[],_,A,a,r,_,_=>⟨A,rfl,r⟩
 | i::is,d::ds,k,A,a,r,hl,h=>by
  have hi:=h i bW;have hl':i<A.length:=by rw[r.len]; exact hi.2
  obtain⟨A',e,r'⟩:=RelF.setFs (is:=is) (ds:=ds) (k:=k) (r.set (x:=some (k,d)) (y:=some (0,d)) ⟨rfl,Fy _⟩ i) (by simpa using hl) λj hj=>⟨(h j (bU _ hj)).1,by simpa using (h j (bU _ hj)).2⟩
  refine⟨A',?_,r'⟩;simp only[Fh,Ip.setFs,cC,hi.1,hl',and_self,if_true,O.seq];exact e
theorem Ou.setT {is:ak}{e:Ex}{j:Nat}{ds:ax}(h:eval G cl a.sl e=.ok (j,.tup ds))(k:Ou G cl io (cg (λd=>(0,d)) is ds (frz e.names a)) ss N V X)(hi:(ds.length == is.length&&is.all λi=>!io.contains i&&Nat.blt i a.length)=true:=by rfl):Ou G cl io a (.setT is e::ss) N V X:=
 .step λA r=>by
  obtain⟨hl,hi⟩:=su hi;obtain⟨A',q1,q2⟩:=RelF.setFs (io:=io) (is:=is) (ds:=ds) (k:=0) (r.settle e.names (j,.tup ds)) hl λi hm=>⟨(hi i hm).1,by rw[<-(RelF.low e.names a).len]; exact (hi i hm).2⟩
  simp only[uO,r.sl,h,R.toO,fX,q1];exact⟨_,q2,k⟩
theorem Ou.fo {tg:Tg}{wk:Wk}{it:aF}{b:ay}{vs:aw}{xs:ax}(I:ax->Fr->Prop)(h:evals G cl a.sl it=.ok vs)(hw:dF wk vs=some xs)(hx:xs.length<=SL)(h0:I xs (frz (wk.fz it) a))
  (step:∀x r a',I (x::r) a'->∃a'',(∀A,RelF A a'->∃A',ck io tg x A=.nx A'/\RelF A' a'')/\Ou G cl io a'' b (I r) V X)(k:∀a',I [] a'->Ou G cl io a' ss N V X):Ou G cl io a (.fo tg wk it b::ss) N V X:=
 .step λA r=>by
  simp only[pz,r.sl,h,R.toO,kX,hw,hx,if_true];have lp:∀(xs:ax) (a':Fr),I xs a'->∀A,RelF A a'->match bJ (fw G cl io tg b) xs A with
    | .nx A'=>∃a',RelF A' a'/\Ou G cl io a' ss N V X
    | .ret k d _=>V d/\dq k d
    | .exc c fs A'=>∃a',RelF A' a'/\X c fs a'
    | _=>False:=by
   intro xs;induction xs with
   | nil=>exact λa' hi A r=>⟨a',r,k a' hi⟩
   | cons x xs ih=>
    intro a' hi A r;obtain⟨a'',hb,hO⟩:=step x xs a' hi;obtain⟨A',e,r'⟩:=hb A r;have:=hO A' r';rw[bJ,fw,e];simp only[O.seq];revert this
    cases execs G cl io A' b with
    | nx A2=>exact λ⟨a2,h1,h2⟩=>ih a2 h2 A2 h1
    | ret k d A2=>exact id
    | exc c fs A2=>exact id
    | _=>exact False.elim
  exact lp xs _ h0 _ r.frz
def gw {i:Nat}{x:D}{a':Fr}(hi:(!io.contains i&&Nat.blt i a'.length)=true):∀A,RelF A a'->∃A',ck io (.one i) x A=.nx A'/\RelF A' (a'.set i (some (0,x))):=λA r=>by
 obtain⟨hio,hi⟩:=okI hi;have:i<A.length:=by rw[r.len]; exact hi
 simp only[ck,cC,hio,this,and_self,if_true];exact⟨_,rfl,r.set (.refl _) i⟩
def nX {is:ak}{ds:ax}{a':Fr}(hi:(ds.length == is.length&&is.all λi=>!io.contains i&&Nat.blt i a'.length)=true):∀A,RelF A a'->∃A',ck io (.many is) (.tup ds) A=.nx A'/\RelF A' (cg (λd=>(0,d)) is ds a'):=λA r=>by
 obtain⟨hl,hi⟩:=su hi;simp only[ck];exact RelF.setFs r hl hi
theorem Ou.tryE {b:ay}{c i x:Nat}(h:Ou G cl io a b (λa'=>Ou G cl io a' ss N V X) V λc' fs a'=>bc G (.exc c' fs) (.cls c)=true/\io.contains x=false/\x<a'.length/\io.contains i=false/\i≠x/\i<a'.length/\Ou G cl io ((a'.set x (some (0,.exc c' fs))).set i none) ss N V X):Ou G cl io a (.tryE b c i x::ss) N V X:=
 .step λA r=>by
  have:=h A r;simp only[uH];revert this
  cases execs G cl io A b with
  | nx A'=>exact id
  | ret k d A'=>exact id
  | exc c' fs A'=>
   rintro⟨a',r',h1,h2,h3,h4,h5,h6,h7⟩;have l:x<A'.length:=by rw[r'.len]; exact h3
   have l2:i<(A'.set x (some (0,.exc c' fs))).length:=by rw[Fu,r'.len]; exact h6
   simp only[iD,h1,if_true,cC,h2,l,and_self,O.seq,h4,l2,ne_eq,h5,not_false_eq_true];exact⟨_,(r'.set (.refl _) x).set (x:=none) (y:=none) trivial i,h7⟩
  | _=>exact False.elim
end
def Ou.runQ {G:Pg}{n f:Nat}{F:Fn}{vs:aw}{V:D->Prop}(hf:G.fn f=some F)(hn:vs.length=F.np)(hio:F.io=[])(h:Ou G (run G n) [] (bE F vs) F.body (λ_=>V .non) V λ_ _ _=>False):∃k d,Ip.run G (n+1) f vs=.ret k d []/\V d/\dq k d:=by
 rw[Ip.run,hf];simp only[hn,if_true,hio];have:=h _ (.refl _);revert this
 cases execs G (Ip.run G n) [] (bE F vs) F.body with
 | nx A=>exact λ⟨_,_,h⟩=>⟨99,.non,rfl,h,λs xs e=>nomatch e⟩
 | ret k d A=>exact λh=>⟨k,d,rfl,h⟩
 | exc c fs A=>exact λ⟨_,_,h⟩=>h.elim
 | _=>exact False.elim
theorem Ou.run {G:Pg}{n f:Nat}{F:Fn}{vs:aw}{V:D->Prop}(hf:G.fn f=some F)(hn:vs.length=F.np)(hio:F.io=[])(h:Ou G (Ip.run G n) [] (bE F vs) F.body (λ_=>V .non) V λ_ _ _=>False):∃k d,Ip.run G (n+1) f vs=.ret k d []/\V d:=
 let ⟨k,d,e,h,_⟩:=Ou.runQ hf hn hio h
 ⟨k,d,e,h⟩
structure Pa (G:Pg):Prop where
 f0:G.fn 0=some kW
 f1:G.fn 1=some je
 f2:G.fn 2=some gZ
 f4:G.fn 4=some ub
 f15:G.fn 15=some om
 f16:G.fn 16=some kO
 f17:G.fn 17=some nv
 f18:G.fn 18=some kI
 f20:G.fn 20=some i6
 f21:G.fn 21=some ig
 c2:G.cl 2=some ⟨(some 4),[],[0],true⟩
 c17:G.cl 17=some ⟨(some 18),[(12,20),(13,21)],[],false⟩
variable {G:Pg}(P:Pa G)
include P
noncomputable def isI:D->Bool
 | .int _=>true
 | _=>false
def qM (n:Nat)(k:Nat)(d:D):run G (n+1) 0 [(k,d)]=.ret 99 (.bl (isI d)) []:=by
 rw[run,P.f0];cases d <;> simp[kW,isI]
noncomputable def isB (b:Int):D->Bool
 | .int i=>decide (0<=i)&&decide (i<b)
 | _=>false
def nH (n:Nat)(k k':Nat)(d:D)(b:Int):run G (n+2) 1 [(k,d),(k',.int b)]=.ret 99 (.bl (isB b d)) []:=by
 rw[run,P.f1];cases d with
 | int i=>by_cases h:0<=i <;> simp[je,P.f0,qM P,kW,isI,isB,h]
 | _=>simp[je,P.f0,qM P,kW,isI,isB]
omit P in
noncomputable def dm (xs:al):Bool:=(xs.zip (xs.drop 1)).all λp=>decide (p.1<p.2)
def za (n k:Nat)(xs:al)(hl:xs.length<=SL):run G (n+1) 15 [(k,.lst (xs.map .int))]=.ret 99 (.bl (dm xs)) []:=by
 rw[run,P.f15];have e:(xs.map D.int).zip (xs.map D.int).tail=(xs.zip xs.tail).map λp=>(.int p.1,.int p.2):=by
  rw[<-List.map_tail,List.zip_map]; rfl
 have c:cutD (xs.map D.int) (some 1) none=(xs.map D.int).drop 1:=oM _ 1;have hl2:xs.length<=SL+1:=by omega
 simp[om,c,e,He,hl2];rw[m8 (g:=λp:Int×Int=>(99,.bl (decide (p.1<p.2))))]
 .simp[He,Function.comp_def,dm]
 .intro x hx;simp[compF]
noncomputable def cvs (xs:al):D:=.lst (xs.map .int)
def yQ (n k k':Nat)(xs:al)(b:Int)(hl:xs.length<=SL) :
  run G (n+3) 16 [(k,.lst (xs.map .int)),(k',.int b)]=.ret 99 (.bl (decide (xs≠[])&&(xs.all λi=>decide (0<=i)&&decide (i<b))&&dm xs)) []:=by
 rw[run,P.f16];have c:be (compF G (run G (n+2)) [none,none,some (.int b)] (.one 1) [] (.call 1 [.var 1,.var 2])) (xs.map .int)=.ok (xs.map λi=>(99,.bl (decide (0<=i)&&decide (i<b)))):=
  m8 λi _=>by simp[compF,P.f1,je,nH P n,isB]
 have q:=za P (n+1) 0 xs hl;by_cases hx:xs=[]
 .subst hx;simp[kO,D.eq]
 .by_cases h:(xs.all λi=>decide (0<=i)&&decide (i<b))=true
  .simp[kO,D.eq,hx,hl,c,Function.comp_def,h,P.f15,om,q]
  .have h':(xs.all λi=>decide (0<=i)&&decide (i<b))=false:=by simpa using h
   simp[kO,D.eq,hx,hl,c,Function.comp_def,h']
noncomputable def wd (p:Int)(cs:ac):D:=.ins 17 [(9,.int p),(10,.lst (cs.map λc=>.tup (c.map .int)))]
noncomputable def aP (cs:ac):D:=.lst (cs.map λc=>.lst (c.map .int))
noncomputable def iF (p:Int)(c:al):Bool:=decide (c≠[])&&(c.all λi=>decide (0<=i)&&decide (i<p))&&dm c
def CQ (n k k':Nat)(p:Int)(cs:ac)(hp:1<=p/\p<=6)(hn:cs.length<=6)(hc:∀c∈cs,iF p c=true)(hl:∀c∈cs,c.length<=SL) :
  run G (n+4) 18 [(1,.ins 17 []),(k,.int p),(k',aP cs)]=.ret 99 .non [(100,wd p cs)]:=by
 rw[run,P.f18];have hw:=qM P (n+2) 0 (.int p);have hS:cs.length<=SL:=b8 hn (by decide);have h6:¬((6:Int)<cs.length):=by omega
 have lp:∃A',bJ (fw G (run G (n+3)) [0] (.many [3,4]) [.iff (.op .not [(.call 16 [(.var 4),(.var 1)])]) [.rais 2 [(.var 3)]] []]) ((cs.map λc=>D.lst (c.map .int)).mapIdx λn d=>.tup [.int n,d])
   [some (1,.ins 17 []),some (0,.int p),some (0,aP cs),none,none]=.nx A'/\∃a b,A'=[some (1,.ins 17 []),some (0,.int p),some (0,aP cs),a,b]:=by
  refine vk (I:=λA'=>∃a b,A'=[some (1,.ins 17 []),some (0,.int p),some (0,aP cs),a,b]) ⟨_,_,rfl⟩ ?_;rintro x hx A ⟨a,b,hA⟩;obtain⟨i,d,hi,hd⟩:∃(i:Nat) (c:al),c∈cs/\x=.tup [.int i,.lst (c.map .int)]:=by
   rw[List.mem_mapIdx] at hx;obtain⟨i,hi,e⟩:=hx;rw[List.getElem_map] at e;exact⟨i,_,Gj (by simpa using hi),e.symm⟩
  subst hA hd;have g:=hc d hi;rw[iF] at g;have q:=yQ P n 0 0 d p (hl d hi);rw[g] at q;refine⟨_,?_,some (0,.int i),some (0,.lst (d.map .int)),rfl⟩;simp[fw,P.f16,kO,q]
 obtain⟨A',e,a,b,rfl⟩:=lp;simp only[aP] at e;have c:be (compF G (run G (n+3)) [none,none] (.one 1) [] (.op .tuple [.var 1])) (cs.map λc=>D.lst (c.map .int))=.ok (cs.map λc=>(0,.tup (c.map .int))):=
  m8 λc _=>by simp[compF]
 have j:aY (cs.map λc=>((0:Nat),D.tup (c.map .int)))=98:=qS λx hx=>by
  obtain⟨c,_,rfl⟩:=fh hx;simp
 simp[kI,P.f0,kW,hw,isI,hp.1,hp.2,aP,hS,h6,e,c,j,wd,cK,bo,Function.comp_def]
end Ip
end
section
namespace Ip
open PySem (Str)
def Bd {d:D}(h:d.scal=true):d.flat=true:=by cases d <;> simp at h ⊢
def um {d:D}(k:Nat)(h:d.scal=true):d.fb k=true:=by cases d <;> simp at h ⊢ <;> cases k <;> rfl
def D9 {ds:ax}(k:Nat)(h:ds.all D.scal=true):D.fb k (.tup ds)=true:=by
 have h':=eQ h;cases k with
 | zero=>simp only[D.fb,D.flat,wp,List.all_eq_true]; exact λd hd=>Bd (h' d hd)
 | succ k=>simp only[D.fb,List.all_eq_true]; exact λd hd=>um k (h' d hd)
def RelF.own {A a:Fr}(r:RelF A a){x k:Nat}{d:D}(h:a[x]? = some (some (k+1,d))):∃j,A[x]? = some (some (j+1,d)):=by
 rcases r.get x with ⟨_,e2⟩ | ⟨y,z,e1,e2,q⟩
 .rw[e2] at h; cases h
 .rw[e2] at h;cases h;cases y with
  | none=>exact q.elim
  | some y=>
   obtain⟨j,d'⟩:=y;obtain⟨q1,q2⟩:=q;have q1':d'=d:=q1;have q2':k+1<=j:=q2;subst q1';exact⟨j - 1,by rw[e1]; congr 3; omega⟩
section
variable {G:Pg}{cl:Nat->aw->Run}{io:ak}{a:Fr}{ss:ay}{N:Fr->Prop}{V:D->Prop}{X:Nat->List aJ->Fr->Prop}
theorem Ou.extend {x k j:Nat}{e:Ex}{xs ys:ax}(hx:a[x]? = some (some (k+1,.lst xs)))(he:eval G cl a.sl e=.ok (j,.tup ys))(hs:ys.all D.scal=true)(hl:xs.length+ys.length<=SL)(h:Ou G cl io (a.set x (some (1,.lst (xs++ys)))) ss N V X) :
  Ou G cl io a (.mut x [] .extend [e]::ss) N V X:=
 .step λA r=>by
  obtain⟨k',hA⟩:=r.own hx;have e1:cq A[x]? = true:=by rw[hA]; rfl
  have e2:([(j,D.tup ys)]:aw).all (λv=>v.2.fb v.1)=true:=by simp only[List.all_cons,List.all_nil,Il]; exact D9 j hs
  simp only[hG,e1,if_true,di,bL,r.sl,he,R.bind,R.toO,dL,e2,hA,dZ,tS,hs,hl,and_self];exact⟨_,r.set (.refl _) x,h⟩
end
noncomputable def bG (r:ak):D:=.tup (aK r)
noncomputable def wrD (rows:List ak):D:=.tup (rows.map bG)
def D5 (r:ak):(aK r).all D.scal=true:=by simp[aK]
theorem sw:∀{ns:ak},(∀n∈ns,n<6)->cO (aK ns)=some ns
 | [],_=>rfl
 | n::ns,h=>by
  have h1:=h n bW;have ih:=sw (ns:=ns) λm hm=>h m (bU _ hm);have h2:(0:Int)<=Int.ofNat n/\Int.ofNat n<6:=⟨Hm n,by simpa using (show (n:Int)<6 by omega)⟩
  show cO (.int (Int.ofNat n)::aK ns)=_;simp only[cO,h2,and_self,if_true,ih,Option.map];rfl
theorem lw (g:Nat):∀ns:ak,D.memb (.int g) (aK ns)=decide (g∈ns)
 | []=>rfl
 | n::ns=>by
  have ih:=lw g ns;have e:D.memb (.int g) (aK (n::ns))=((D.int (Int.ofNat n)).eq (.int g)||D.memb (.int g) (aK ns)):=rfl;rw[e,ih];simp only[D.eq];by_cases h:g=n
  .subst h; simp
  .have:¬(n:Int)=(g:Int):=by omega
   simp[this,h]
def rO {g:Nat}{ns:ak}(h:g<6):g∈bB ns↔g∈ns:=by
 simp[bB,h]
structure Pv (G:Pg):Prop where
 a:Pa G
 f24:G.fn 24=some jK
section
variable {G:Pg}(P:Pa G)
include P
omit P in
theorem i4 (p:Int)(cs:ac):gP 10 (wd p cs)=some (0,.lst (cs.map λc=>.tup (c.map .int))):=rfl
def pO (p:Int)(cs:ac):cn G 12 0 (wd p cs)=some (20,i6):=by
 simp[cn,wd,P.c17,P.f20,i6,List.lookup]
def ny (p:Int)(cs:ac):cn G 13 1 (wd p cs)=some (21,ig):=by
 simp[cn,wd,P.c17,P.f21,ig,List.lookup]
def pG (n k:Nat)(p:Int)(cs:ac):run G (n+1) 20 [(k,wd p cs)]=.ret 99 (.int cs.length) []:=by
 rw[run,P.f20];simp[i6,i4]
def yN (n k k':Nat)(p:Int)(cs:ac)(d:D)(h:isB cs.length d=true):run G (n+4) 17 [(k,wd p cs),(k',d)]=.ret 99 .non []:=by
 rw[run,P.f17];have q:=nH P (n+1) 0 99 d cs.length;have q2:=pG P (n+2) 0 p cs;rw[h] at q;simp[nv,P.f1,je,pO P,i6,q2,q]
def nW (n k k':Nat)(p:Int)(cs:ac)(j:Nat)(c:al)(h:cs[j]? = some c):run G (n+5) 21 [(k,wd p cs),(k',.int j)]=.ret 1 (.lst (c.map .int)) []:=by
 rw[run,P.f21];have hj:j<cs.length:=(eO h).1;have hb:isB cs.length (.int j)=true:=by simp[isB,hj]
 have q:=yN P n 0 0 p cs (.int j) hb;have e:cs[j]=c:=(eO h).2;simp[ig,P.f17,nv,q,i4,ef,hj,e]
end
section
variable {G:Pg}(P:Pv G)
include P
end
def fg (r:ak):(aK r).length=r.length:=by simp[aK]
section
variable {G:Pg}{cl:Nat->aw->Run}{io:ak}{a:Fr}{ss:ay}{N:Fr->Prop}{V:D->Prop}{X:Nat->List aJ->Fr->Prop}
theorem Ou.append {x k:Nat}{e:Ex}{xs:ax}{v:KD}(hx:(frz e.names a)[x]? = some (some (k+1,.lst xs)))(he:eval G cl a.sl e=.ok v)(hl:xs.length<SL)(h:Ou G cl io ((frz e.names a).set x (some (1,.lst (xs++[v.2])))) ss N V X) :
  Ou G cl io a (.mut x [] .append [e]::ss) N V X:=
 .step λA r=>by
  obtain⟨k0,h0⟩:=(r.trans (.low e.names a)).own hx;have e1:cq A[x]? = true:=by rw[h0]; rfl
  have nm:Ex.namess [e]=e.names:=by simp
  have r1:RelF (if ([v]:aw).all (λv=>v.2.fb v.1)=true then A else frz (Ex.namess [e]) A) (frz e.names a):=by
   rw[nm];split
   .exact r.trans (.low e.names a)
   .exact r.frz
  obtain⟨k1,h1⟩:=r1.own hx;simp only[hG,e1,if_true,di,bL,r.sl,he,R.bind,R.toO,dL];generalize (if ([v]:aw).all (λv=>v.2.fb v.1)=true then A else frz (Ex.namess [e]) A)=A1 at r1 h1;rw[h1];simp only[dZ,uj,hl,if_true];exact⟨_,r1.set (x:=some (cK k1 xs v+1,.lst (xs++[v.2]))) (y:=some (1,.lst (xs++[v.2]))) ⟨rfl,by omega⟩ x,h⟩
end
structure Pd (G:Pg):Prop where
 f98:G.fn 98=some gQ
 f71:G.fn 71=some fK
 f99:G.fn 99=some oJ
theorem vb:∀{xs:al},xs.Pairwise (· < ·)->dm xs=true
 | [],_=>rfl
 | [x],_=>rfl
 | x::y::r,h=>by
  have ih:=vb (List.Pairwise.tail h);have hxy:x<y:=by cases h with | cons h _=>exact h y bW
  unfold dm at ih ⊢;simp at ih ⊢;exact⟨hxy,ih⟩
structure OkC (p:Nat)(c:al):Prop where
 gd:iF p c=true
 ne:c≠[]
 rg:∀i∈c,0<=i/\i<p
 nd:c.Nodup
 ln:c.length<=6
def pD {p:Nat}{ns:ak}(hp:p<=6)(h1:ns.Pairwise (· < ·))(h2:∀n∈ns,n<p)(h3:ns≠[]):OkC p (ns.map λ(n:Nat)=>(n:Int)):=by
 have pw:(ns.map λ(n:Nat)=>(n:Int)).Pairwise (· < ·):=List.Pairwise.map _ (λa b h=>by simpa using h) h1;have rg:∀i∈ns.map λ(n:Nat)=>(n:Int),0<=i/\i<p:=λi hi=>by
  obtain⟨n,hn,rfl⟩:=fh hi;have:=h2 n hn;omega
 have ne:ns.map (λ(n:Nat)=>(n:Int))≠[]:=by simpa using h3
 have ln:∀(ns:ak) (lo:Nat),ns.Pairwise (· < ·)->(∀n∈ns,lo<=n/\n<p)->lo+ns.length<=p\/ns=[]:=by
  intro ns;induction ns with
  | nil=>intro _ _ _; exact .inr rfl
  | cons x r ih=>
   intro lo hp' hr;obtain⟨q1,q2⟩:=Ia.mp hp';have hx:=hr x bW;rcases ih (x+1) q2 (λn hn=>⟨q1 n hn,(hr n (bU _ hn)).2⟩) with h | h
   .simp only[List.length_cons]; omega
   .subst h; simp; omega
 refine⟨?_,ne,rg,pw.imp λh=>by omega,?_⟩
 .simp only[iF,tw,Fw,List.all_eq_true];exact⟨⟨ne,rg⟩,vb pw⟩
 .rcases ln ns 0 h1 (λn hn=>⟨Fy _,h2 n hn⟩) with h | h
  .simp; omega
  .exact absurd h h3
variable {G:Pg}(P:Pd G)
include P
def kJ (n k k':Nat)(ns:al)(j:Nat):∃d,run G (n+1) 98 [(k,.lst (ns.map .int)),(k',.int j)]=.ret d (.int (ns.getD j 0)) []:=by
 rw[run,P.f98];by_cases h:j<ns.length
 .have h':(j:Int)<ns.length:=by omega
  exact⟨0,by simp[gQ,h',ef,h]⟩
 .have h':¬(j:Int)<ns.length:=by omega
  have e:ns[j]? = none:=FS (by omega);exact⟨99,by simp[gQ,h',e]⟩
def gX (n k k' k'':Nat)(c s m:Int)(hm:0<m)(hs:0<=s/\s<=1000):∃v j,run G (n+1) 71 [(k,.int c),(k',.int s),(k'',.int m)]=.ret j (.int v) []/\0<=v/\v<m:=by
 have b10:d6 10=true:=gU.mpr (by decide);have b31:d6 31=true:=gU.mpr (by decide);have b977:d6 977=true:=gU.mpr (by decide);have b65:d6 65537=true:=gU.mpr (by decide);have fin:∀x:Int,0<=x % m/\x % m<m:=λx=>⟨Int.emod_nonneg _ (by omega),Ib _ hm⟩
 have key:Ou G (run G n) [] [some (0,.int c),some (0,.int s),some (0,.int m),none,none,none] fK.body (λ_=>False) (λd=>∃v,d=.int v/\0<=v/\v<m) λ_ _ _=>False:=by
  by_cases h:c > 1000000000
  .refine Ou.iffT (j:=99) (by simp[b10]; omega) ?_;refine Ou.set (x:=(99,.int (c / 1000))) rfl ?_;have hk:0<=s % 9/\s % 9<9:=⟨Int.emod_nonneg _ (by decide),Ib _ (by decide)⟩
   obtain⟨q,eq⟩:∃q:Nat,s % 9=(q:Int):=⟨(s % 9).toNat,by omega⟩
   have hq:q<=SL:=by
    have:9<=SL:=by decide
    omega
   refine Ou.fo (λr a=>∃(x4:az) (y:Int),a=[some (0,.int c),some (0,.int s),some (0,.int m),some (0,.int y),x4,none]) (vs:=[(99,.int (q:Int))]) (xs:=(List.range q).map λ(n:Nat)=>D.int n) (by simp[eq]) (wk_rng1 hq) (by simpa using hq) ⟨none,c / 1000,by simp⟩ ?_ ?_
   .rintro x r a ⟨x4,y,ha⟩;subst ha;refine⟨_,gw rfl,?_⟩;refine Ou.set (x:=(99,.int (y / 1000))) rfl ?_;exact Ou.nil ⟨some (0,x),y / 1000,by simp⟩
   .rintro a ⟨x4,y,ha⟩;subst ha;exact Ou.ret (x:=(99,.int (y % 1000 % m))) (by simp[hm]) ⟨_,rfl,fin _⟩
  .refine Ou.iffN (j:=99) (by simp[b10]; omega) ?_;refine Ou.set (x:=(99,.int (c % 1000003+31 * s+1))) (by simp[b31]) ?_;have hx:d6 (c % 1000003+31 * s+1)=true:=gU.mpr (by omega);generalize c % 1000003+31 * s+1=x at hx;exact Ou.ret (x:=(99,.int ((x * x+65537 * x+977 * s) % 999983 / 3 % m))) (by simp[hx,b65,b977,hm]) ⟨_,rfl,fin _⟩
 obtain⟨j,d,e,v,rfl,h1,h2⟩:=Ou.run (n:=n) (vs:=[(k,.int c),(k',.int s),(k'',.int m)]) (V:=λd=>∃v,d=.int v/\0<=v/\v<m) P.f71 rfl rfl (key.mono (λ_ h=>h.elim) (λ_ h=>h) λ_ _ _ h=>h);exact⟨v,j,e,h1,h2⟩
end Ip
end
section
namespace Ip
open PySem (Str)
noncomputable def dh (p:Nat):Int:=([1,3,7,15,31,63]:al).getD (p - 1) 1
noncomputable def eV (v:Int)(p:Nat):ak:=(List.range p).filter λn=>decide (v / (([1,2,4,8,16,32]:al).getD n 1) % 2=1)
def zF:∀p:Fin 7,∀v:Fin 64,1<=p.1->1<=v.1->(v.1:Int)<=dh p.1->eV (v.1:Int) p.1≠[]:=by decide +kernel
def Bg:∀p:Fin 7,dh p.1<=63:=by decide +kernel
def C3 {v:Int}{p:Nat}(hp:1<=p/\p<=6)(hv:1<=v/\v<=dh p):eV v p≠[]:=by
 have hf:=Bg ⟨p,by omega⟩;obtain⟨u,rfl⟩:∃u:Nat,v=(u:Int):=⟨v.toNat,by omega⟩
 exact zF ⟨p,by omega⟩ ⟨u,by dsimp only at hf; omega⟩ hp.1 (by dsimp only; omega) hv.2
def Bv {i:Nat}(h:i<6):∃y:Int,([1,2,4,8,16,32]:al).getD i 1=y/\0<y/\y<1000000000000000000000000000000000000000000000000/\ixOp (.lst [.int 1,.int 2,.int 4,.int 8,.int 16,.int 32]) (.int (i:Nat))=some (0,.int y):=by
 have hq:i=0\/i=1\/i=2\/i=3\/i=4\/i=5:=by omega
 rcases hq with rfl | rfl | rfl | rfl | rfl | rfl <;> exact⟨_,rfl,by decide,by decide,rfl⟩
def A0 {v:Int}{p:Nat}(hp:1<=p/\p<=6)(hv:1<=v/\v<=dh p):OkC p ((eV v p).map λ(n:Nat)=>(n:Int)):=by
 refine pD hp.2 (List.pairwise_lt_range.filter _) (λn hn=>?_) (C3 hp hv);exact FE.mp (Fs.mp hn).1
def Au {p:Nat}(hp:1<=p/\p<=6):ixOp (.lst [.int 1,.int 3,.int 7,.int 15,.int 31,.int 63]) (.int ((p:Int) - 1))=some (0,.int (dh p)):=by
 have hq:p=1\/p=2\/p=3\/p=4\/p=5\/p=6:=by omega
 rcases hq with rfl | rfl | rfl | rfl | rfl | rfl <;> simp[ixOp,ef,dh]
def DA (p:Nat):0<dh p:=by
 unfold dh;by_cases h:p - 1<6
 .have hq:p - 1=0\/p - 1=1\/p - 1=2\/p - 1=3\/p - 1=4\/p - 1=5:=by omega
  rcases hq with e | e | e | e | e | e <;> rw[e] <;> decide
 .have:([1,3,7,15,31,63]:al)[p - 1]? = none:=FS (by simpa using by omega);simp[this]
def Eg {α:Type}{xs:List α}{v:Nat}(h:v<xs.length):cutD (cutD xs (some (v:Int)) none) none (some 1)=[xs[v]]:=by
 have e:=kN (xs.drop v) 1;rw[oM];simp only[Int.natCast_one] at e;rw[e,FZ h,List.take_succ_cons,List.take_zero]
def yM {p:Nat}{c:al}(hp:p<=6)(h:OkC p c){i:Int}(hi:i∈c):OkC p [i]:=by
 have h1:=h.rg i hi;have:=pD (p:=p) (ns:=[i.toNat]) hp (by simp) (λn hn=>by simp at hn; omega) (by simp);simp only[Fh,List.map_nil] at this
 rwa [Gf h1.1] at this
variable {G:Pg}(P:Pd G)
include P
set_option maxHeartbeats 600000 in
def Dw (n k k':Nat)(ns:al)(p:Nat)(hp:1<=p/\p<=6):∃j cs,run G (n+2) 99 [(k,.lst (ns.map .int)),(k',.int p)]=.ret j (aP cs) []/\cs.length<=6/\∀c∈cs,OkC p c:=by
 obtain⟨d1,q1⟩:=kJ P n 0 99 ns 1;have hq0:0<=ns.getD 1 0 % 7/\ns.getD 1 0 % 7<7:=⟨Int.emod_nonneg _ (by decide),Ib _ (by decide)⟩
 obtain⟨q,eq⟩:∃q:Nat,ns.getD 1 0 % 7=(q:Int):=⟨(ns.getD 1 0 % 7).toNat,by omega⟩
 have hq:q<=6:=by omega
 have hS:q<=SL:=b8 hq (by decide);have hpS:p<=SL:=b8 hp.2 (by decide);have i2:d6 2=true:=gU.mpr (by decide);have key:Ou G (run G (n+1)) [] [some (0,.lst (ns.map .int)),some (0,.int p),none,none,none,none,none] oJ.body (λ_=>False) (λd=>∃cs,d=aP cs/\cs.length<=6/\∀c∈cs,OkC p c) λ_ _ _=>False:=by
  refine Ou.setK (x:=(99,.lst [])) (by simp) (by simp) ?_;refine Ou.low (a':=[some (0,.lst (ns.map .int)),some (0,.int p),some (1,.lst []),none,none,none,none]) (.cons (.refl _) (.cons (.refl _) (.cons ⟨rfl,by decide⟩ (.refl _)))) ?_;refine Ou.fo (λr a=>∃(x3 x4 x5 x6:az) (cs:ac) (suf:ak),a=[some (0,.lst (ns.map .int)),some (0,.int p),some (1,aP cs),x3,x4,x5,x6]/\r=suf.map (λ(n:Nat)=>D.int n)/\cs.length+suf.length<=6/\∀c∈cs,OkC p c) (vs:=[(99,.int (q:Int))]) (xs:=(List.range q).map λ(n:Nat)=>D.int n) ?_ (wk_rng1 hS) (by simpa using hS) ?_ ?_ ?_
  .simp at q1 eq;simp[P.f98,gQ,q1,eq]
  .exact⟨none,none,none,none,[],List.range q,by simp[aP],rfl,by simpa using hq,by simp⟩
  .rintro x r a ⟨x3,x4,x5,x6,cs,suf,ha,hr,hl,hok⟩;cases suf with
   | nil=>simp at hr
   | cons s suf=>
    simp only[Fh,FP] at hr;obtain⟨rfl,rfl⟩:=hr;subst ha;simp only[List.length_cons] at hl;refine⟨_,gw rfl,?_⟩;obtain⟨d2,q2⟩:=kJ P n 0 99 ns (2+s);have e2:((2+s:Nat):Int)=2+(s:Int):=by omega
    rw[e2] at q2;generalize ns.getD (2+s) 0=c at q2;refine Ou.set (x:=(d2,.int c)) (by simp[P.f98,gQ,q2]) ?_;obtain⟨v,j3,q3,hv0,hv1⟩:=gX P n 0 99 0 c 1 (dh p) (DA p) (by decide);have im:=Au hp;refine Ou.set (x:=(99,.int (1+v))) (by simp[-ixOp,im,P.f71,fK,q3]) ?_;have ok:=A0 (v:=1+v) hp (by omega);have eF:eV (1+v) p=(List.range p).filter λn=>decide ((1+v) / (([1,2,4,8,16,32]:al).getD n 1) % 2=1):=rfl;generalize eV (1+v) p=F at ok eF;have cc:be (compF G (run G (n+1)) [none,none,some (.int (1+v))] (.one 1) [(.op .eq [(.op .mod [(.op .fdiv [(.var 2),(.op .ix [(.op .lst [(.cst (.int (1))),(.cst (.int (2))),(.cst (.int (4))),(.cst (.int (8))),(.cst (.int (16))),(.cst (.int (32)))]),(.var 1)])]),(.cst (.int (2)))]),(.cst (.int (1)))])] (.var 1)) ((List.range p).map λ(n:Nat)=>D.int n)=.ok (F.map λ(n:Nat)=>((0:Nat),D.int n)):=by
     rw[eF];refine n0 λi hi=>?_;obtain⟨y,ey,hy,h3,ix⟩:=Bv (i:=i) (by have:=FE.mp hi; omega);rw[ey];have hy':¬y=0:=by omega
     simp[-ixOp,compF,ix,D.eq,hy,hy',h3]; split <;> rfl
    have hj:aY (F.map λ(n:Nat)=>((0:Nat),D.int n))=98:=qS λx hx=>by
     obtain⟨c,_,rfl⟩:=fh hx;simp
    clear eF;refine Ou.set (x:=(99,.lst (F.map λ(n:Nat)=>D.int n))) (by simp[wk_rng1 hpS,hpS,cc,hj,Function.comp_def]) ?_;obtain⟨c1,ec,oc⟩:∃c1:al,F.map (λ(n:Nat)=>D.int n)=c1.map .int/\OkC p c1:=⟨F.map λ(n:Nat)=>(n:Int),by simp,ok⟩
    rw[ec];clear ec cc hj ok;have fin:∀(c2:al) (a:Fr),a=[some (0,.lst (ns.map .int)),some (0,.int p),some (1,aP cs),some (0,.int s),some (0,.int c),some (0,.int (1+v)),some (0,.lst (c2.map .int))]->OkC p c2->Ou G (run G (n+1)) [] a [.mut 2 [] .append [(.var 6)]] (λa=>∃(x3 x4 x5 x6:az) (cs:ac) (suf':ak),a=[some (0,.lst (ns.map .int)),some (0,.int p),some (1,aP cs),x3,x4,x5,x6]/\suf.map (λ(n:Nat)=>D.int n)=suf'.map (λ(n:Nat)=>D.int n)/\cs.length+suf'.length<=6/\∀c∈cs,OkC p c) (λd=>∃cs,d=aP cs/\cs.length<=6/\∀c∈cs,OkC p c) λ_ _ _=>False:=by
     intro c2 a ea o2;subst ea;have hl6:cs.length<SL:=by
      have:7<=SL:=by decide
      omega
     refine Ou.append (k:=0) (xs:=cs.map λc=>.lst (c.map .int)) (v:=(0,.lst (c2.map .int))) (by simp[aP,frz,frz1]) (by simp) (by simpa using hl6) ?_;refine Ou.nil ⟨some (0,.int s),some (0,.int c),some (0,.int (1+v)),some (0,.lst (c2.map .int)),cs++[c2],suf,by simp[aP,frz,frz1],rfl,by simp; omega,?_⟩;intro c hc;rcases cX hc with h | h
     .exact hok c h
     .rw[Fc.mp h]; exact o2
    obtain⟨v4,j4,q4,h40,h41⟩:=gX P n 0 99 99 c 2 2 (by decide) (by decide);by_cases h:v4=1
    .subst h;have hlen:(0:Int)<c1.length:=by
      have:=oc.ne;have:=List.length_pos_iff.mpr this;omega
     obtain⟨v5,j5,q5,h50,h51⟩:=gX P n 0 99 99 c 3 c1.length hlen (by decide);obtain⟨u,rfl⟩:∃u:Nat,v5=(u:Int):=⟨v5.toNat,by omega⟩
     have hu:u<c1.length:=by omega
     have ct:=Eg (xs:=c1.map D.int) (v:=u) (by simpa using hu);refine Ou.iffT (j:=99) (by simp[P.f71,fK,q4,D.eq]) ?_;refine Ou.set (x:=(1,.lst ([c1[u]].map .int))) (by simp[P.f71,fK,q5,ct]) ?_;refine Ou.nil ?_;exact fin _ _ (by simp) (yM hp.2 oc (Gj hu))
    .refine Ou.iffN (j:=99) (by simp[P.f71,fK,q4,D.eq,h]) ?_;exact fin _ _ (by simp) oc
  .rintro a ⟨x3,x4,x5,x6,cs,suf,ha,hr,hl,hok⟩;subst ha;exact Ou.ret (x:=(0,aP cs)) (by simp) ⟨cs,rfl,by omega,hok⟩
 obtain⟨j,d,e,cs,rfl,h1,h2⟩:=Ou.run (n:=n+1) (vs:=[(k,.lst (ns.map .int)),(k',.int p)]) (V:=λd=>∃cs,d=aP cs/\cs.length<=6/\∀c∈cs,OkC p c) P.f99 rfl rfl (key.mono (λ_ h=>h.elim) (λ_ h=>h) λ_ _ _ h=>h);exact⟨j,cs,e,h1,h2⟩
end Ip
end
section
namespace Ip
open PySem (Str)
noncomputable def covA (cs:ac)(g:Nat):al:=cs.getD g []
noncomputable def cR (cs:ac)(j:Nat)(gs:ak):ak:=gs.filter λg=>decide ((j:Int)∈covA cs g)
structure Sm (cs:ac)(R os:ak):Prop where
 pm:R.Perm os
 fl:∀j,cR cs j R=cR cs j os
theorem Sm.symm {cs:ac}{R os:ak}(h:Sm cs R os):Sm cs os R:=⟨h.pm.symm,λj=>(h.fl j).symm⟩
theorem Sm.trans {cs:ac}{A B C:ak}(h:Sm cs A B)(k:Sm cs B C):Sm cs A C:=⟨h.pm.trans k.pm,λj=>(h.fl j).trans (k.fl j)⟩
def xO (cs:ac)(j:Nat)(A B:ak):cR cs j (A++B)=cR cs j A++cR cs j B:=by simp[cR]
def Ar (cs:ac)(j g:Nat)(B:ak):cR cs j (g::B)=if (j:Int)∈covA cs g then g::cR cs j B else cR cs j B:=by
 simp only[cR,List.filter_cons,Fw]
def rE {g x:Nat}{os:ak}(h:x≠g):(g::os).idxOf x=os.idxOf x+1:=by
 have:(g == x)=false:=Ge.mpr (GC h);rw[List.idxOf_cons,this]; rfl
def RelF.of_eq {a b:Fr}(h:a=b):RelF a b:=h ▸ .refl a
section
variable {G:Pg}{cl:Nat->aw->Run}{io:ak}{a:Fr}{ss:ay}{N:Fr->Prop}{V:D->Prop}{X:Nat->List aJ->Fr->Prop}
def Ou.setD {i j:Nat}{e:Ex}{x:KD}(h:eval G cl a.sl e=.ok x)(hj:j<=x.1)(k:Ou G cl io ((frz e.names a).set i (some (j,x.2))) ss N V X)(hi:(!io.contains i&&Nat.blt i a.length)=true:=by rfl):Ou G cl io a (.set i e::ss) N V X:=
 .step λA r=>by
  obtain⟨hio,hi⟩:=okI hi;have l:(settle e.names A x).length=a.length:=by
   rw[<-r.len];have:=(r.settle e.names x).len;rw[this,<-(RelF.low e.names a).len,r.len]
  simp only[ku,r.sl,h,R.toO,cC,hio,l,hi,and_self,if_true];exact⟨_,(r.settle e.names x).set (x:=some x) (y:=some (j,x.2)) ⟨rfl,hj⟩ i,k⟩
theorem Ou.insert {x k j jj:Nat}{e:Ex}{xs:ax}{d:D}{n:Int}(hx:a[x]? = some (some (k+1,.lst xs)))(he:eval G cl a.sl e=.ok (jj,.int n))(hd:a.sl[j]? = some (some d))(hs:d.scal=true)(hn:0<=n/\n.toNat<=xs.length)(hl:xs.length<SL)
  (h:Ou G cl io (a.set x (some (1,.lst (xs.take n.toNat++d::xs.drop n.toNat)))) ss N V X):Ou G cl io a (.mut x [] .insert [e,.var j]::ss) N V X:=
 .step λA r=>by
  obtain⟨k',hA⟩:=r.own hx;have e1:cq A[x]? = true:=by rw[hA]; rfl
  have e2:([(jj,D.int n),(0,d)]:aw).all (λv=>v.2.fb v.1)=true:=by simp only[List.all_cons,List.all_nil,Il,tw]; exact⟨uZ jj n,um 0 hs⟩
  have c:0<=n/\n.toNat<=xs.length/\xs.length<SL/\d.scal=true:=⟨hn.1,hn.2,hl,hs⟩
  simp only[hG,e1,if_true,di,bL,ip,r.sl,he,hd,R.bind,R.toO,dL,e2,hA,dZ,sd,if_pos c];exact⟨_,r.set (.refl _) x,h⟩
theorem Ou.remove {x k p jj:Nat}{e:Ex}{xs:ax}{n:Int}(hx:a[x]? = some (some (k+1,.lst xs)))(he:eval G cl a.sl e=.ok (jj,.int n))(hs:xs.all D.isI=true)(hf:D.find (.int n) xs=some p)
  (h:Ou G cl io (a.set x (some (1,.lst (xs.eraseIdx p)))) ss N V X):Ou G cl io a (.mut x [] .remove [e]::ss) N V X:=
 .step λA r=>by
  obtain⟨k',hA⟩:=r.own hx;have e1:cq A[x]? = true:=by rw[hA]; rfl
  have e2:([(jj,D.int n)]:aw).all (λv=>v.2.fb v.1)=true:=by simp only[List.all_cons,List.all_nil,Il]; exact uZ jj n
  simp only[hG,e1,if_true,di,bL,r.sl,he,R.bind,R.toO,dL,e2,hA,dZ,uy,if_pos hs,hf];exact⟨_,r.set (.refl _) x,h⟩
theorem oY:∀(ss ts:ay) (A:Fr),execs G cl io A (ss++ts)=(execs G cl io A ss).seq λA=>execs G cl io A ts
 | [],ts,A=>by simp[O.seq]
 | s::ss,ts,A=>by
  rw[List.cons_append,jC,jC];cases exec G cl io A s with
  | nx A1=>exact oY ss ts A1
  | _=>rfl
end
end Ip
end
section
namespace Ip
def gR (cs:ac)(t:Nat->ak)(g:Nat):Prop:=∀j:Nat,(j:Int)∈covA cs g->(t j).head? = some g
noncomputable def stp (cs:ac)(g:Nat)(t:Nat->ak):Nat->ak:=λj=>if (j:Int)∈covA cs g then (t j).tail else t j
inductive Tp (cs:ac):(Nat->ak)->ak->ak->Prop
 | nil {t:Nat->ak}:Tp cs t [] []
 | cons {t:Nat->ak} {L es:ak} {g:Nat} (hg:g∈L) (hr:gR cs t g) (hl:∀o,o<g->o∈L->¬gR cs t o) (h:Tp cs (stp cs g t) (L.filter λx=>decide (x≠g)) es):Tp cs t L (g::es)
structure Sr (cs:ac)(t:Nat->ak)(L:ak):Prop where
 pw:L.Pairwise (· < ·)
 lt:∀g∈L,g<cs.length
 nd:∀j,(t j).Nodup
 mm:∀(j x:Nat),x∈t j↔x∈L/\(j:Int)∈covA cs x
def sY {cs:ac}{t:Nat->ak}{g j:Nat}(h:gR cs t g)(hj:(j:Int)∈covA cs g):t j=g::(t j).tail:=by
 have:=h j hj;cases e:t j with
 | nil=>rw[e] at this; cases this
 | cons y l=>rw[e] at this; cases this; rfl
def Sr.step {cs:ac}{t:Nat->ak}{L:ak}{g:Nat}(s:Sr cs t L)(hr:gR cs t g):Sr cs (stp cs g t) (L.filter λx=>decide (x≠g)):=by
 refine⟨s.pw.filter _,λx hx=>s.lt x (Fs.mp hx).1,λj=>?_,λj x=>?_⟩
 .unfold stp;split
  .exact (s.nd j).sublist (List.tail_sublist _)
  .exact s.nd j
 .unfold stp;rw[Fs,decide_eq_true_iff];by_cases hj:(j:Int)∈covA cs g
  .rw[if_pos hj];have e:=sY hr hj;have nd:=s.nd j;have mm:=s.mm j x;rw[e] at nd mm;have hg:=(Ft.mp nd).1;rw[Fl] at mm;constructor
   .intro h;have:=mm.mp (.inr h);exact⟨⟨this.1,λz=>hg (z ▸ h)⟩,this.2⟩
   .rintro⟨⟨h1,h2⟩,h3⟩;exact (mm.mpr ⟨h1,h3⟩).resolve_left h2
  .rw[if_neg hj,s.mm j x];exact⟨λh=>⟨⟨h.1,λz=>hj (z ▸ h.2)⟩,h.2⟩,λh=>⟨h.1.1,h.2⟩⟩
def wY {L:ak}(h:L.Pairwise (· < ·)):L.Nodup:=h.imp λh=>by omega
noncomputable def me (l:ak)(g:Nat):aC:=if 0<l.idxOf g then l[l.idxOf g - 1]? else none
noncomputable def d9 (r:Nat->ak)(L:ak)(g:Nat)(i:Int):Option (Nat×Nat):=(me (r i.toNat) g).bind λy=>if y∈L then some (y,i.toNat) else none
noncomputable def gu (cs:ac)(r:Nat->ak)(L:ak)(g:Nat):aj:=(covA cs g).filterMap (d9 r L g)
def si {g:Nat}{A B:ak}(h:g∉A):me (A++g::B) g=A.getLast?:=by
 have e:(A++g::B).idxOf g=A.length:=by
  rw[List.idxOf_append,if_neg h,List.idxOf_cons_self,Nat.zero_add]
 unfold me;rw[e];rcases List.eq_nil_or_concat A with rfl | ⟨A,y,rfl⟩
 .rfl
 .rw[if_pos (by simp)];simp
structure Lf (cs:ac)(r t:Nat->ak)(res L:ak):Prop where
 s:Sr cs t L
 rw:∀j,r j=cR cs j res++t j
 dj:∀x∈res,x∉L
 rn:∀j,(r j).Nodup
def AZ {cs:ac}{r t:Nat->ak}{res L:ak}(l:Lf cs r t res L)(h0:∀g,∀i∈covA cs g,0<=i){g:Nat}(hg:g∈L){u:Nat×Nat}(hu:u∈gu cs r L g):u.1∈L/\(u.2:Int)∈covA cs g/\∃A B,r u.2=A++u.1::g::B:=by
 unfold gu at hu;obtain⟨i,hi,e⟩:=Gr.mp hu;unfold d9 at e;obtain⟨y,e1,e2⟩:=dW e;have hi0:=h0 g i hi;by_cases hy:y∈L
 .rw[if_pos hy] at e2;cases e2;refine⟨hy,by rw[Gf hi0]; exact hi,?_⟩;have hgr:g∈r i.toNat:=by
   rw[l.rw];exact cr _ ((l.s.mm _ g).mpr ⟨hg,by rw[Gf hi0]; exact hi⟩)
  obtain⟨A,B,eA⟩:=Hn hgr;have nd:=l.rn i.toNat;rw[eA] at nd e1;rw[si λz=>(Fo.mp nd).2.2 g z g (by simp) rfl] at e1;obtain⟨A',rfl⟩:=List.getLast?_eq_some_iff.mp e1;exact⟨A',B,by rw[eA]; simp⟩
 .rw[if_neg hy] at e2; cases e2
def ng {cs:ac}{r t:Nat->ak}{res L:ak}(l:Lf cs r t res L)(h0:∀g,∀i∈covA cs g,0<=i){g:Nat}(hg:g∈L):gu cs r L g=[]↔gR cs t g:=by
 have key:∀j:Nat,(j:Int)∈covA cs g->(d9 r L g (j:Int)=none↔(t j).head? = some g):=by
  intro j hj;unfold d9;rw[Int.toNat_natCast];have hgt:g∈t j:=(l.s.mm j g).mpr ⟨hg,hj⟩;obtain⟨A,B,eA⟩:=Hn hgt;have nd:=l.s.nd j;rw[eA] at nd;have hgA:g∉A:=λz=>(Fo.mp nd).2.2 g z g (by simp) rfl;have hgr:g∉cR cs j res++A:=λz=>by
   rcases cX z with z | z
   .exact l.dj g (Fs.mp z).1 hg
   .exact hgA z
  have er:r j=(cR cs j res++A)++g::B:=by rw[l.rw,eA,GE]
  rw[er,si hgr,eA];rcases List.eq_nil_or_concat A with rfl | ⟨A,y,rfl⟩
  .simp only[F7,List.nil_append,List.head?_cons,iff_true];cases e:(cR cs j res).getLast? with
   | none=>rfl
   | some y=>
    have hy:=l.dj y (Fs.mp (List.mem_of_getLast? e)).1;simp[hy]
  .rw[List.concat_eq_append] at *;have hyt:y∈L:=((l.s.mm j y).mp (by rw[eA]; simp)).1;rw[<-GE,List.getLast?_concat];simp only[Option.bind_some,if_pos hyt];refine⟨λh=>by simp at h,λh=>?_⟩;have:g∈A++[y]:=by
    cases A with
    | nil=>simp at h; simp[h]
    | cons a A=>simp at h; simp[h]
   exact absurd this hgA
 unfold gu gR;rw[List.filterMap_eq_nil_iff];constructor
 .intro h j hj;exact (key j hj).mp (h (j:Int) hj)
 .intro h i hi;have hi0:=h0 g i hi;have hj:((i.toNat:Nat):Int)∈covA cs g:=by rw[Gf hi0]; exact hi
  have:=(key i.toNat hj).mpr (h i.toNat hj)
  rwa [Gf hi0] at this
structure Rgo (p:Nat)(r:Nat->ak)(f:Nat->Nat×Nat)(R:aj):Prop where
 ne:R≠[]
 ln:R.length<=36
 rot:R.map (λs=>f s.1)=R.getLast ne::R.dropLast
 nd:(R.map (·.1)).Nodup
 up:∀s∈R,(f s.1).2<p/\∃A B,r (f s.1).2=A++(f s.1).1::s.1::B
def Cd {p:Nat}{r:Nat->ak}{f:Nat->Nat×Nat}{l0:Nat}{T A B:aj}{s:Nat×Nat}(hn:T.Nodup)(hl:T.length<=36)(hc:(l0::T.map (·.1)).map f=T++[s])(hT:T=A++s::B)(hu:∀s∈T,(f s.1).2<p/\∃A B,r (f s.1).2=A++(f s.1).1::s.1::B):Rgo p r f (s::B).reverse:=by
 subst hT;have hC:(s::B).map (λs=>f s.1)=B++[s]:=by
  have:=congrArg (List.drop (A.length+1)) hc;simpa[Function.comp_def] using this
 have hne:(s::B).reverse≠[]:=by simp
 have hB:(s::B).Nodup:=(Fo.mp hn).2.1;refine⟨hne,by simp at hl ⊢; omega,?_,?_,λx hx=>hu x (by simp at hx ⊢; rcases hx with h | h <;> simp[h])⟩
 .rw[List.map_reverse,hC];simp
 .have h2:((s::B).map (λs=>f s.1)).Nodup:=by
   rw[hC];exact (List.perm_append_comm.nodup_iff (l₁:=B++[s]) (l₂:=[s]++B)).mpr hB
  have h3:(((s::B).map (·.1)).map f).Nodup:=by rw[He]; exact h2
  have h4:((s::B).map (·.1)).Nodup:=(Ih.mp h3).imp λh e=>h (congrArg f e);rw[List.map_reverse];exact (List.reverse_perm _).nodup_iff.mpr h4
end Ip
end
section
namespace Ip
open PySem (Str)
section
variable {G:Pg}{cl:Nat->aw->Run}{io:ak}{a:Fr}{ss:ay}{N:Fr->Prop}{V:D->Prop}{X:Nat->List aJ->Fr->Prop}
theorem Ou.whl {c:Ex}{b:ay}(I:Nat->Fr->Prop)(m:Nat)(hm:m<10000)(h0:I m a)(step:∀n a',I n a'->(∃j,eval G cl a'.sl c=.ok (j,.bl false)/\Ou G cl io a' ss N V X)\/((∃j,eval G cl a'.sl c=.ok (j,.bl true))/\∃n',n=n'+1/\Ou G cl io a' b (I n') V X)):Ou G cl io a (.whl c b::ss) N V X:=
 .step λA r=>by
  rw[vI];have lp:∀(k n:Nat) (a':Fr),n<k->I n a'->∀A,RelF A a'->match c7 (iI G cl c) (ko G cl io b) k A with
    | .nx A'=>∃a',RelF A' a'/\Ou G cl io a' ss N V X
    | .ret k d _=>V d/\dq k d
    | .exc c fs A'=>∃a',RelF A' a'/\X c fs a'
    | _=>False:=by
   intro k;induction k with
   | zero=>intro n a' h; omega
   | succ k ih=>
    intro n a' hn hI A r;rcases step n a' hI with ⟨j,e,o⟩ | ⟨⟨j,e⟩,n',rfl,o⟩
    .have t:iI G cl c A=.ok false:=by unfold iI; rw[r.sl,e]; rfl
     rw[c7,t];exact⟨a',r,o⟩
    .have t:iI G cl c A=.ok true:=by unfold iI; rw[r.sl,e]; rfl
     rw[c7,t];have:=o A r;simp only[ko];revert this
     cases execs G cl io A b with
     | nx A2=>exact λ⟨a2,h1,h2⟩=>ih n' a2 (by omega) h2 A2 h1
     | ret k d A2=>exact id
     | exc c fs A2=>exact id
     | _=>exact False.elim
  exact lp 10000 m a hm h0 A r
end
def Ou.runE {G:Pg}{n f:Nat}{F:Fn}{vs:aw}{init:ay}{e:Ex}{P:KD->Prop}(hf:G.fn f=some F)(hn:vs.length=F.np)(hio:F.io=[])(hb:F.body=init++[.ret e])(hv:∀i,e≠.var i)
  (h:Ou G (Ip.run G n) [] (bE F vs) init (λa=>∃x,eval G (Ip.run G n) a.sl e=.ok x/\P x) (λ_=>False) λ_ _ _=>False):∃x:KD,Ip.run G (n+1) f vs=.ret x.1 x.2 []/\P x:=by
 rw[Ip.run,hf];simp only[hn,if_true,hio];rw[hb,oY];have:=h _ (.refl _);revert this
 cases execs G (Ip.run G n) [] (bE F vs) init with
 | nx A=>
  rintro⟨a,r,x,h1,h2⟩;refine⟨x,?_,h2⟩;have e2:eval G (Ip.run G n) A.sl e=.ok x:=by rw[r.sl]; exact h1
  simp only[O.seq,jC,oI,e2];cases e with
  | var i=>exact absurd rfl (hv i)
  | _=>simp[fin]
 | ret k d A=>exact λh=>h.1.elim
 | exc c fs A=>exact λ⟨_,_,h⟩=>h.elim
 | _=>exact False.elim
def Ou.runP {G:Pg}{n f i:Nat}{s:Str}{F:Fn}{vs:aw}{init:ay}{V:D->Prop}(hf:G.fn f=some F)(hn:vs.length=F.np)(hio:F.io=[])(hb:F.body=init++[.retP s i])
  (h:Ou G (Ip.run G n) [] (bE F vs) init (λa=>∃k d,a[i]? = some (some (k+1,d))/\V (.tup [.str s,d])) V λ_ _ _=>False):∃k d,Ip.run G (n+1) f vs=.ret k d []/\V d/\dq k d:=by
 rw[Ip.run,hf];simp only[hn,if_true,hio];rw[hb,oY];have:=h _ (.refl _);revert this
 cases execs G (Ip.run G n) [] (bE F vs) init with
 | nx A=>
  rintro⟨a,r,k,d,h1,h2⟩;obtain⟨k',hA⟩:=r.own h1;refine⟨k'+1+1,.tup [.str s,d],?_,h2,λ_ _ _=>by omega⟩;simp[O.seq,hA,jC,ur,fin]
 | ret k d A=>exact λh=>⟨k,d,by simp[O.seq,fin],h⟩
 | exc c fs A=>exact λ⟨_,_,h⟩=>h.elim
 | _=>exact False.elim
structure Pm (G:Pg):Prop where
 v:Pv G
 d:Pd G
 f34:G.fn 34=some iG
 f35:G.fn 35=some jR
 f36:G.fn 36=some k8
 f37:G.fn 37=some jx
 f38:G.fn 38=some mC
 f39:G.fn 39=some g8
 f73:G.fn 73=some iP
 f91:G.fn 91=some nL
 f103:G.fn 103=some nB
 f8:G.fn 8=some gY
 f76:G.fn 76=some on
 f106:G.fn 106=some mO
 f107:G.fn 107=some oH
 f114:G.fn 114=some jl
 c6:G.cl 6=some ⟨(some 8),[],[0],true⟩
 f69:G.fn 69=some oA
noncomputable def aL (p:Nat)(t:Nat->ak):List ak:=(List.range p).map t
def rL (p:Nat)(t:Nat->ak):(aL p t).length=p:=by simp[aL]
def gG {gs:ak}{m:Nat}(h1:gs.Nodup)(h2:∀g∈gs,g<m):gs.length<=m:=by
 induction m generalizing gs with
 | zero=>
  cases gs with
  | nil=>exact bD _
  | cons x r=>exact absurd (h2 x bW) (by omega)
 | succ m ih=>
  have:=ih (h1.erase m) λx hx=>by
   have:=(h1.mem_erase_iff).mp hx;have:=h2 x this.2;omega
  rw[List.length_erase] at this;split at this <;> omega
theorem pY {g:Nat}:∀{os:ak},g∈os->D.find (.int g) (aK os)=some (os.idxOf g)
 | [],h=>by cases h
 | x::os,h=>by
  have e0:D.find (.int g) (aK (x::os))=if (D.int (Int.ofNat x)).eq (.int g) then some 0 else (D.find (.int g) (aK os)).map (·+1):=by
   unfold D.find aK;rw[Fh,Gv]
  rw[e0];by_cases hx:x=g
  .subst hx;simp[D.eq]
  .have h1:¬(x:Int)=(g:Int):=by omega
   have h2:=pY (os:=os) ((cu h).resolve_left λe=>hx e.symm);have h3:(x == g)=false:=Ge.mpr hx;rw[h2,List.idxOf_cons,h3];simp[D.eq,h1]
def wX (gs:ak):(aK gs).all D.isI=true:=by simp[aK,D.isI]
def lj (gs:ak):(aK gs).all (D.pur 60)=true:=by simp[aK]
def uD (A B:ak):aK (A++B)=aK A++aK B:=by simp[aK]
def C1 {g:Nat}{A B:ak}(h:g∉A):(A++g::B).idxOf g=A.length:=by
 rw[List.idxOf_append,if_neg h,List.idxOf_cons_self,Nat.zero_add]
def zS (A B:ak)(g:Nat):(aK (A++g::B)).eraseIdx A.length=aK (A++B):=by
 have e:aK (A++g::B)=aK A++(.int (g:Nat)::aK B):=by simp[aK]
 rw[e,<-fg A,List.eraseIdx_append_of_length_le (Nat.le_refl _),Nat.sub_self,List.eraseIdx_cons_zero,uD]
def t6 {A B:ak}{a:Nat}:ixOp (.lst (aK (A++a::B))) (.int (A.length:Nat))=some (0,.int (a:Nat)):=by
 have h1:A.length<(aK (A++a::B)).length:=by rw[fg]; simp
 have h2:((A.length:Nat):Int)<((aK (A++a::B)).length:Nat):=by omega
 have e:(aK (A++a::B))[A.length]? = some (.int (a:Nat)):=by simp[aK]
 simp only[ixOp,D.seq,ef,Hm,if_true,h2,Int.toNat_natCast,Option.bind_some,e]
def Ai (A B:ak):(aK (A++B)).take A.length=aK A:=by
 rw[uD,List.take_append_of_le_length (by rw[fg]; omega),GU (by rw[fg]; omega)]
theorem nF (i:Int):∀c:al,D.memb (.int i) (c.map .int)=decide (i∈c)
 | []=>rfl
 | j::c=>by
  have ih:=nF i c;have e:D.memb (.int i) ((j::c).map .int)=((D.int j).eq (.int i)||D.memb (.int i) (c.map .int)):=rfl;rw[e,ih];simp only[D.eq];by_cases h:i=j
  .subst h; simp
  .have:¬j=i:=λe=>h e.symm;simp[this,h]
def pX {cs:ac}{g:Nat}(h:g<cs.length):ixOp (aP cs) (.int (g:Nat))=some (0,.lst ((covA cs g).map .int)):=by
 have h':(g:Int)<cs.length:=by omega
 have e:covA cs g=cs[g]:=by simp[covA,h]
 rw[e];simp[aP,ixOp,ef,h',h]
def vc {p j:Nat}{t:Nat->ak}(h:j<p):ixOp (wrD (aL p t)) (.int (j:Nat))=some (0,bG (t j)):=by
 have h':(j:Int)<p:=by omega
 simp[wrD,ixOp,ef,aL,h',h]
def yu {g:Nat}(gs:ak)(u:Nat):(g::gs).Perm (gs.take u++g::gs.drop u):=by
 refine List.Perm.trans ?_ List.perm_middle.symm;rw[List.take_append_drop]
variable {G:Pg}(P:Pm G)
include P
def AF (n k k1 k2:Nat)(ns:al)(cs:ac)(hm:cs.length<=6):∃j gs,run G (n+2) 91 [(k,.lst (ns.map .int)),(k1,.int 8),(k2,aP cs)]=.ret j (.lst (aK gs)) []/\gs.Nodup/\∀g∈gs,g<cs.length:=by
 have h100:100<=SL:=by decide
 have hS:cs.length<=SL:=by omega
 have hlen:onS (λxs=>some (99,D.int xs.length)) (aP cs)=some (99,.int cs.length):=by simp[aP]
 have key:Ou G (run G (n+1)) [] [some (0,.lst (ns.map .int)),some (0,.int 8),some (0,aP cs),none,none,none] nL.body (λ_=>False) (λd=>∃gs,d=.lst (aK gs)/\gs.Nodup/\∀g∈gs,g<cs.length) λ_ _ _=>False:=by
  refine Ou.setK (x:=(99,.lst [])) (by simp) (by simp) ?_;refine Ou.low (a':=[some (0,.lst (ns.map .int)),some (0,.int 8),some (0,aP cs),some (99,.lst []),none,none]) (.of_eq (by simp)) ?_;refine Ou.low (a':=[some (0,.lst (ns.map .int)),some (0,.int 8),some (0,aP cs),some (1,.lst (aK [])),none,none]) (.cons (.refl _) (.cons (.refl _) (.cons (.refl _) (.cons ⟨rfl,by decide⟩ (.refl _))))) ?_;refine Ou.fo (λr a=>∃(x4 x5:az) (gs:ak) (i l:Nat),a=[some (0,.lst (ns.map .int)),some (0,.int 8),some (0,aP cs),some (1,.lst (aK gs)),x4,x5]/\r=(List.range' i l).map (λ(n:Nat)=>D.int n)/\i+l=cs.length/\gs.Nodup/\(∀g∈gs,g<i)) (vs:=[(99,.int cs.length)]) (by generalize aP cs=Z at hlen; simp[-onS,hlen]) (wk_rng1 hS) (by simpa using hS) ⟨none,none,[],0,cs.length,by simp,by rw[List.range_eq_range'],by omega,by simp,by simp⟩ ?_ ?_
  .rintro x r a ⟨x4,x5,gs,i,l,ha,hr,hil,hn,hg⟩;cases l with
   | zero=>simp at hr
   | succ l=>
    rw[List.range'_succ,Fh,FP] at hr;obtain⟨rfl,rfl⟩:=hr;subst ha;obtain⟨d2,q2⟩:=kJ P.d n 0 99 ns (8+i);have e2:((8+i:Nat):Int)=8+(i:Int):=by omega
    rw[e2] at q2;generalize ns.getD (8+i) 0=c at q2;refine⟨_,gw rfl,?_⟩;refine Ou.set (x:=(d2,.int c)) (by simp[P.d.f98,gQ,q2]) ?_;obtain⟨v4,j4,q4,_,_⟩:=gX P.d n 0 99 99 c 4 5 (by decide) (by decide);have hgl:gs.length<=6:=by
     have:=gG hn hg;omega
    by_cases h:0<v4
    .refine Ou.iffT (j:=99) (by simp[P.d.f71,fK,q4,h]) ?_;obtain⟨v5,j5,q5,h50,h51⟩:=gX P.d n 0 99 99 c 5 ((gs.length:Int)+1) (by omega) (by decide);obtain⟨u,rfl⟩:∃u:Nat,v5=(u:Int):=⟨v5.toNat,by omega⟩
     have hu:u<=gs.length:=by omega
     have hin:i∉gs:=λz=>by have:=hg i z; omega
     refine Ou.insert (k:=0) (jj:=j5) (d:=.int (i:Nat)) (n:=(u:Nat)) (xs:=aK gs) (by simp) (by simp[fg,P.d.f71,fK,q5]) (by simp) rfl ⟨by omega,by rw[fg]; simpa using hu⟩ (by rw[fg]; omega) (Ou.nil ?_);refine Ou.nil ⟨some (0,.int (i:Nat)),some (0,.int c),gs.take u++i::gs.drop u,i+1,l,?_,rfl,by omega,?_,?_⟩
     .simp[aK,HI,HJ]
     .exact (yu gs u).nodup_iff.mp (Ft.mpr ⟨hin,hn⟩)
     .intro g hgm;simp only[FD,Fl] at hgm;rcases hgm with h | rfl | h
      .have:=hg g (GJ h); omega
      .omega
      .have:=hg g (G8 h); omega
    .refine Ou.iffN (j:=99) (by simp[P.d.f71,fK,q4,h]) ?_;exact Ou.nil ⟨some (0,.int (i:Nat)),some (0,.int c),gs,i+1,l,by simp,rfl,by omega,hn,λg h=>by have:=hg g h; omega⟩
  .rintro a ⟨x4,x5,gs,i,l,ha,hr,hil,hn,hg⟩;subst ha;exact Ou.ret (x:=(0,.lst (aK gs))) (by simp) ⟨gs,rfl,hn,λg h=>by have:=hg g h; omega⟩
 obtain⟨j,d,e,gs,rfl,h1,h2⟩:=Ou.run (n:=n+1) (vs:=[(k,.lst (ns.map .int)),(k1,.int 8),(k2,aP cs)]) (V:=λd=>∃gs,d=.lst (aK gs)/\gs.Nodup/\∀g∈gs,g<cs.length) P.f91 rfl rfl (key.mono (λ_ h=>h.elim) (λ_ h=>h) λ_ _ _ h=>h);exact⟨j,gs,e,h1,h2⟩
end Ip
end
section
namespace Ip
open PySem (Str)
noncomputable def prE (s:Nat×Nat):D:=.tup [.int (s.1:Nat),.int (s.2:Nat)]
variable {G:Pg}(P:Pm G)
include P
def AK (n k k1 k2:Nat)(p:Nat)(cs:ac)(gs:ak)(hp:p<=6)(hl:gs.length<=6)(hg:∀g∈gs,g<cs.length):∃j,run G (n+1) 103 [(k,.int p),(k1,aP cs),(k2,.lst (aK gs))]=.ret j (wrD (aL p λj=>cR cs j gs)) []:=by
 have h6:6<=SL:=by decide
 have hps:p<=SL:=by omega
 have gl:(aK gs).length<=SL:=by rw[fg]; omega
 have inn:∀j:Nat,be (compF G (run G n) [none,none,some (aP cs),some (.int (j:Nat))] (.one 1) [(.op .isin [(.var 3),(.op .ix [(.var 2),(.var 1)])])] (.var 1)) (aK gs)=.ok ((cR cs j gs).map λa=>(0,.int (a:Nat))):=by
  intro j;refine n0 (e:=λa:Nat=>D.int (Int.ofNat a)) λa ha=>?_;have ix:=pX (hg a ha);have sc:((covA cs a).map D.int).all (D.pur 60)=true:=by simp
  have mb:=nF j (covA cs a);generalize aP cs=Z at ix;generalize (covA cs a).map D.int=CC at ix sc mb;simp[-ixOp,-List.all_eq_true,compF,ix,sc,mb];split <;> rfl
 have cc:be (compF G (run G n) [none,none,some (aP cs),some (.lst (aK gs))] (.one 1) [] (.op .tuple [(.comp [none,none,(some 2),(some 1)] (.one 1) .seq [(.var 3)] [(.op .isin [(.var 3),(.op .ix [(.var 2),(.var 1)])])] (.var 1))])) ((List.range p).map λ(n:Nat)=>.int n)=.ok ((List.range p).map λj=>(0,bG (cR cs j gs))):=
  m8 λj _=>by
   have ij:=inn j;generalize aP cs=Z at ij;generalize aK gs=Lg at ij gl;simp[compF,ij,gl,bG,aK,Function.comp_def]
 refine⟨0,?_⟩;rw[run,P.f103];have e:wrD (aL p λj=>cR cs j gs)=.tup ((List.range p).map λj=>bG (cR cs j gs)):=by simp[wrD,aL]
 rw[e];generalize aP cs=Z at cc;generalize aK gs=Lg at cc;simp[nB,wk_rng1 hps,hps,cc,Function.comp_def]
def vZ (n k k1 k2 k3:Nat)(p:Nat)(cs:ac)(r:Nat->ak)(L:ak)(g:Nat)(hp:p<=6)(ok:∀c∈cs,OkC p c)(hg:g<cs.length)(hr:∀j:Nat,(j:Int)∈covA cs g->g∈r j) :
  ∃j,run G (n+6) 37 [(k,wd p cs),(k1,wrD (aL p r)),(k2,.int (g:Nat)),(k3,.lst (aK L))]=.ret j (.lst ((gu cs r L g).map prE)) []:=by
 have hc:cs[g]? = some (covA cs g):=by simp[covA,hg]
 have okc:=ok _ (FN hc);have q3:=nW P.v.a n 0 0 p cs g _ hc;have h100:100<=SL:=by decide
 have hS:(covA cs g).length<=SL:=by have:=okc.ln; omega
 unfold gu;generalize covA cs g=c at hc okc q3 hS hr;have key:Ou G (run G (n+5)) [] [some (0,wd p cs),some (0,wrD (aL p r)),some (0,.int (g:Nat)),some (0,.lst (aK L)),none,none,none] jx.body (λ_=>False) (λd=>d=.lst ((c.filterMap (d9 r L g)).map prE)) λ_ _ _=>False:=by
  refine Ou.setK (x:=(99,.lst [])) (by simp) (by simp) ?_;refine Ou.low (a':=[some (0,wd p cs),some (0,wrD (aL p r)),some (0,.int (g:Nat)),some (0,.lst (aK L)),some (99,.lst []),none,none]) (.of_eq (by simp)) ?_;refine Ou.low (a':=[some (0,wd p cs),some (0,wrD (aL p r)),some (0,.int (g:Nat)),some (0,.lst (aK L)),some (1,.lst []),none,none]) (.cons (.refl _) (.cons (.refl _) (.cons (.refl _) (.cons (.refl _) (.cons ⟨rfl,by decide⟩ (.refl _)))))) ?_;refine Ou.fo (λq a=>∃(x5 x6:az) (pre suf:al),a=[some (0,wd p cs),some (0,wrD (aL p r)),some (0,.int (g:Nat)),some (0,.lst (aK L)),some (1,.lst ((pre.filterMap (d9 r L g)).map prE)),x5,x6]/\q=suf.map .int/\pre++suf=c) (vs:=[(1,.lst (c.map .int))]) (xs:=c.map .int) (by simp[ny P.v.a,ig,q3]) (by simp) (by simpa using hS) ⟨none,none,[],c,by simp,rfl,rfl⟩ ?_ ?_
  .rintro x q a ⟨x5,x6,pre,suf,ha,hrr,he⟩;cases suf with
   | nil=>simp at hrr
   | cons s suf=>
    simp only[Fh,FP] at hrr;obtain⟨rfl,rfl⟩:=hrr;subst ha;have hsc:s∈c:=by rw[<-he]; simp
    have rg:=okc.rg s hsc;obtain⟨j,rfl⟩:∃j:Nat,s=(j:Int):=⟨s.toNat,by omega⟩
    have hjp:j<p:=by omega
    have ixr:=vc (t:=r) hjp;have hgr:=hr j hsc;have hul:(pre.filterMap (d9 r L g)).length<100:=by
     have h1:=List.length_filterMap_le (d9 r L g) pre;have:=okc.ln;have:=congrArg List.length he;simp at this;omega
    have nxt:(pre++[(j:Int)]).filterMap (d9 r L g)=(pre.filterMap (d9 r L g))++(d9 r L g (j:Int)).toList:=by
     rw[List.filterMap_append,List.filterMap_cons];cases d9 r L g (j:Int) <;> rfl
    generalize hP:(pre.filterMap (d9 r L g))=PP at nxt hul;have ixe:cD (bG (r j)) (.int (g:Nat))=some (99,.int ((r j).idxOf g:Nat)):=by
     have sc:=lj (r j);rw[bG,rJ,pY hgr];simp only[D.pures,sc];rfl
    refine⟨_,gw rfl,?_⟩;generalize hW:wrD (aL p r)=WW at ixr;refine Ou.set (x:=(99,.int ((r j).idxOf g:Nat))) ?_ ?_
    .generalize bG (r j)=RR at ixr ixe;simp[-ixOp,-rJ,ixr,ixe]
    refine Ou.low (a':=[some (0,wd p cs),some (0,WW),some (0,.int (g:Nat)),some (0,.lst (aK L)),some (1,.lst (PP.map prE)),some (0,.int (j:Nat)),some (0,.int ((r j).idxOf g:Nat))]) (.of_eq (by simp)) ?_;have scL:=lj L;have done:∀(us:aj) (y5 y6:az),us=(pre++[(j:Int)]).filterMap (d9 r L g)->∃(x5 x6:az) (pre' suf':al),[some (0,wd p cs),some (0,WW),some (0,.int (g:Nat)),some (0,.lst (aK L)),some (1,.lst (us.map prE)),y5,y6]=[some (0,wd p cs),some (0,WW),some (0,.int (g:Nat)),some (0,.lst (aK L)),some (1,.lst ((pre'.filterMap (d9 r L g)).map prE)),x5,x6]/\suf.map D.int=suf'.map .int/\pre'++suf'=c:=by
     intro us y5 y6 h1;exact⟨y5,y6,pre++[(j:Int)],suf,by rw[h1],rfl,by simpa using he⟩
    rw[nxt] at done;by_cases h0:0<(r j).idxOf g
    .obtain⟨y,hy⟩:∃y,(r j)[(r j).idxOf g - 1]? = some y:=by
      have:=List.idxOf_lt_length_of_mem hgr;exact⟨_,FH (by omega)⟩
     have epv:d9 r L g (j:Int)=if y∈L then some (y,j) else none:=by unfold d9 me; rw[Int.toNat_natCast,if_pos h0,hy]; rfl
     rw[epv] at done;have ixy:ixOp (bG (r j)) (.int (((r j).idxOf g:Int) - 1))=some (0,.int (y:Nat)):=by
      obtain⟨hlt,_⟩:=eO hy;have e1:(aK (r j))[(r j).idxOf g - 1]? = some (.int (y:Nat)):=by simp[aK,hy]
      have e2:((((r j).idxOf g - 1:Nat)):Int)=((r j).idxOf g:Int) - 1:=by omega
      have h2:((((r j).idxOf g - 1:Nat)):Int)<((aK (r j)).length:Nat):=by rw[fg]; omega
      rw[<-e2];simp only[bG,ixOp,D.seq,ef,Hm,if_true,h2,Int.toNat_natCast,Option.bind_some,e1]
     have hpos:(0:Int)<((r j).idxOf g:Nat):=by omega
     have mbL:=lw y L;generalize bG (r j)=RR at ixr ixy;generalize (r j).idxOf g=dd at ixy hpos h0;by_cases hyL:y∈L
     .refine Ou.iffT (j:=99) ?_ ?_
      .simp[-ixOp,-List.all_eq_true,ixr,ixy,hpos,scL,mbL,hyL,h0]
      refine Ou.append (k:=0) (xs:=PP.map prE) (v:=(aY [(0,.int (y:Nat)),(0,.int (j:Nat))]+1,prE (y,j))) (by simp[frz,frz1]) (by simp[-ixOp,ixr,ixy,prE]) (by simp; omega) (Ou.nil (Ou.nil ?_));have:=done (PP++[(y,j)]) (some (0,.int (j:Nat))) (some (0,.int (dd:Nat))) (by simp[hyL]);simpa[frz,frz1] using this
     .refine Ou.iffN (j:=99) ?_ (Ou.nil ?_)
      .simp[-ixOp,-List.all_eq_true,ixr,ixy,hpos,scL,mbL,hyL,h0]
      exact done PP _ _ (by simp[hyL])
    .have epv:d9 r L g (j:Int)=none:=by unfold d9 me; rw[Int.toNat_natCast,if_neg h0]; rfl
     rw[epv] at done;have hpos:¬(0:Int)<((r j).idxOf g:Nat):=by omega
     refine Ou.iffN (j:=99) (by simp[h0]) (Ou.nil ?_);exact done PP _ _ (by simp)
  .rintro a ⟨x5,x6,pre,suf,ha,hrr,he⟩;have:suf=[]:=by simpa using hrr.symm
   subst this ha;rw[F7] at he;subst he;exact Ou.ret (x:=(0,_)) (by simp) rfl
 obtain⟨j,d,e,rfl⟩:=Ou.run (n:=n+5) (vs:=[(k,wd p cs),(k1,wrD (aL p r)),(k2,.int (g:Nat)),(k3,.lst (aK L))]) (V:=λd=>d=.lst ((c.filterMap (d9 r L g)).map prE)) P.f37 rfl rfl (key.mono (λ_ h=>h.elim) (λ_ h=>h) λ_ _ _ h=>h);exact⟨j,e⟩
end Ip
end
section
namespace Ip
open PySem (Str)
def CB {xs:ax}{x:D}(h:x∈xs.mapIdx λn d=>D.tup [.int n,d]):∃(A B:ax) (d:D),xs=A++d::B/\x=.tup [.int (A.length:Nat),d]:=by
 rw[List.mem_mapIdx] at h;obtain⟨i,hi,e⟩:=h;refine⟨xs.take i,xs.drop (i+1),xs[i],?_,?_⟩
 .rw[<-FZ,List.take_append_drop]
 .rw[<-e];have:(xs.take i).length=i:=by simp; omega
  rw[this]
def DF {A B:ax}{d:D}:∀{gs:ak},aK gs=A++d::B->∃(A' B':ak) (g:Nat),gs=A'++g::B'/\A=aK A'/\d=.int (g:Nat)/\A'.length=A.length:=by
 induction A with
 | nil=>
  intro gs h;cases gs with
  | nil=>simp[aK] at h
  | cons g gs=>
   simp only[aK,Fh,List.nil_append,FP] at h;exact⟨[],gs,g,rfl,rfl,h.1.symm,rfl⟩
 | cons a A ih=>
  intro gs h;cases gs with
  | nil=>simp[aK] at h
  | cons g gs=>
   simp only[aK,Fh,List.cons_append,FP] at h;obtain⟨A',B',g',e1,e2,e3,e4⟩:=ih h.2;exact⟨g::A',B',g',by rw[e1]; rfl,by rw[<-h.1,e2]; rfl,e3,by simp[e4]⟩
theorem rj (k:Nat)(xs:ax):dF .enum [(k,.tup xs)]=some (xs.mapIdx λn d=>.tup [.int n,d]):=rfl
def Sr.len {cs:ac}{r:Nat->ak}{L:ak}(s:Sr cs r L)(hm:cs.length<=6)(j:Nat):(r j).length<=6:=b8 (gG (s.nd j) λg hg=>s.lt g ((s.mm j g).mp hg).1) hm
def rf {r:Nat->ak}(h:∀j,(r j).length<=6):∀p:Nat,p<=6->(aL p r).flatten.length<=36:=λp hp=>by
 have:∀l:ak,(l.map r).flatten.length<=l.length * 6:=by
  intro l;induction l with
  | nil=>simp
  | cons x l ih=>
   have h1:=h x;rw[Fh,List.flatten_cons,Fx,List.length_cons,Nat.add_mul,Nat.one_mul];omega
 have h2:=this (List.range p);rw[List.length_range] at h2;unfold aL;omega
def jM {p:Nat}{r:Nat->ak}{g:Nat}:g∈(aL p r).flatten↔∃j,j<p/\g∈r j:=by
 simp only[aL,List.mem_flatten,List.mem_map,FE];exact⟨λ⟨l,⟨j,h1,h2⟩,h3⟩=>⟨j,h1,h2 ▸ h3⟩,λ⟨j,h1,h2⟩=>⟨_,⟨j,h1,rfl⟩,h2⟩⟩
def qW (Q:ak):(bB Q).Pairwise (· < ·):=List.pairwise_lt_range.filter _
def CD {cs:ac}{p:Nat}{t:Nat->ak}{O:ak}(hm:cs.length<=6)(ok:∀c∈cs,OkC p c)(hO:O.Nodup)(hg:∀g∈O,g<cs.length)(h1:∀j,j<p->(t j).Perm (cR cs j O))(h2:∀j,p<=j->t j=[]):Sr cs t (bB (aL p t).flatten):=by
 have mt:∀j x,x∈t j->j<p/\x∈O/\(j:Int)∈covA cs x:=λj x hx=>by
  by_cases hj:j<p
  .have:=Fs.mp ((h1 j hj).mem_iff.mp hx);exact⟨hj,this.1,HB this.2⟩
  .rw[h2 j (by omega)] at hx; cases hx
 have mL:∀x,x∈bB (aL p t).flatten->∃j,j<p/\x∈t j:=λx hx=>jM.mp (by simpa using (Fs.mp hx).2);refine⟨qW _,λg h=>?_,λj=>?_,λj x=>⟨λhx=>?_,λ⟨hx,hc⟩=>?_⟩⟩
 .obtain⟨j,_,hj⟩:=mL g h;exact hg g (mt j g hj).2.1
 .by_cases hj:j<p
  .exact (h1 j hj).nodup_iff.mpr (hO.filter _)
  .rw[h2 j (by omega)]; exact .nil
 .obtain⟨hj,hxO,hc⟩:=mt j x hx;have:=hg x hxO;exact⟨(rO (by omega)).mpr (jM.mpr ⟨j,hj,hx⟩),hc⟩
 .obtain⟨i,hi,hxi⟩:=mL x hx;have hxO:=(mt i x hxi).2.1;have hxl:=hg x hxO;have okc:=ok _ (FN (i:=x) (show cs[x]? = some (covA cs x) by simp[covA,hxl]));have rg:=okc.rg _ hc;exact (h1 j (by omega)).mem_iff.mpr (Fs.mpr ⟨hxO,FB hc⟩)
variable {G:Pg}(P:Pm G)
include P
def sh (n k k1 k2:Nat)(p j g:Nat)(cs:ac)(hg:g<cs.length):∃i,run G (n+6) 34 [(k,wd p cs),(k1,.int (j:Nat)),(k2,.int (g:Nat))]=.ret i (.bl (decide ((j:Int)∈covA cs g))) []:=by
 have hc:cs[g]? = some (covA cs g):=by simp[covA,hg]
 have q3:=nW P.v.a n 0 0 p cs g _ hc;have q2:=pG P.v.a (n+4) 0 p cs;have qb:=nH P.v.a (n+3) 0 99 (.int (g:Nat)) cs.length;have hb:isB cs.length (.int (g:Nat))=true:=by simp[isB,hg]
 rw[hb] at qb;have mb:=nF j (covA cs g);have sc:((covA cs g).map D.int).all (D.pur 60)=true:=by simp
 refine⟨99,?_⟩;rw[run,P.f34];generalize (covA cs g).map D.int=CC at q3 mb sc;simp[-List.all_eq_true,iG,P.v.a.f1,je,pO P.v.a,ny P.v.a,i6,ig,q2,qb,q3,mb,sc]
def Bq (n k k1:Nat)(p:Nat)(cs:ac)(r:Nat->ak)(L:ak)(hp:p<=6)(hm:cs.length<=6)(s:Sr cs r L):∃j,run G (n+7) 35 [(k,wd p cs),(k1,wrD (aL p r))]=.ret j .non []:=by
 have h6:6<=SL:=by decide
 have ew:wrD (aL p r)=.tup ((aL p r).map bG):=rfl;have key:Ou G (run G (n+6)) [] [some (0,wd p cs),some (0,wrD (aL p r)),none,none,none,none] jR.body (λ_=>D.non=.non) (λd=>d=.non) λ_ _ _=>False:=by
  refine Ou.fo (λq a=>∃(x2 x3 x4 x5:az),a=[some (0,wd p cs),some (0,wrD (aL p r)),x2,x3,x4,x5]/\∀x∈q,∃j:Nat,j<p/\x=.tup [.int (j:Nat),bG (r j)]) (vs:=[(0,wrD (aL p r))]) (by simp) (by rw[ew]; exact rj _ _) (by simp[aL]; omega) ⟨none,none,none,none,by simp,?_⟩ ?_ ?_
  .intro x hx;rw[List.mem_mapIdx] at hx;obtain⟨i,hi,e⟩:=hx;have hip:i<p:=by simpa[aL] using hi
   exact⟨i,hip,by rw[<-e]; simp[aL]⟩
  .rintro x q a ⟨x2,x3,x4,x5,ha,hr⟩;obtain⟨j,hj,rfl⟩:=hr x bW;subst ha;refine⟨_,nX rfl,?_⟩;refine Ou.low (a':=[some (0,wd p cs),some (0,wrD (aL p r)),some (0,.int (j:Nat)),some (0,bG (r j)),x4,x5]) (.of_eq (by simp[cg])) ?_;have hfl:=s.len hm j;have hfn:=s.nd j;refine Ou.fo (λq a=>∃(x4 x5:az),a=[some (0,wd p cs),some (0,wrD (aL p r)),some (0,.int (j:Nat)),some (0,bG (r j)),x4,x5]/\∀x∈q,∃A y B,r j=A++y::B/\x=.tup [.int (A.length:Nat),.int (y:Nat)]) (vs:=[(0,bG (r j))]) (by simp) (rj _ _) (by simp[aK]; omega) ⟨x4,x5,by simp,?_⟩ ?_ ?_
   .intro x hx;obtain⟨A,B,d,e1,rfl⟩:=CB hx;obtain⟨A',B',g,e2,e3,rfl,e5⟩:=DF e1;exact⟨A',g,B',e2,by rw[e5]⟩
   .rintro x q' a ⟨x4,x5,ha,hr'⟩;obtain⟨A,y,B,eA,rfl⟩:=hr' x bW;subst ha;have hyf:y∈r j:=by rw[eA]; simp
    obtain⟨hyL,hyc⟩:=(s.mm j y).mp hyf;obtain⟨i,qm⟩:=sh P n 0 0 0 p j y cs (s.lt y hyL);rw[FB hyc] at qm;have hyA:y∉A:=λz=>by
     rw[eA] at hfn;exact (Fo.mp hfn).2.2 y z y (by simp) rfl
    have ct:aZ none (some (A.length:Int)) (bG (r j))=some (0,.tup (aK A)):=by
     rw[eA,bG];simp only[aZ];rw[kN,Ai]
    have mb:D.memb (.int (y:Nat)) (aK A)=false:=by rw[lw]; simp[hyA]
    have sc:=lj A;refine⟨_,nX rfl,?_⟩;refine Ou.low (a':=[some (0,wd p cs),some (0,wrD (aL p r)),some (0,.int (j:Nat)),some (0,bG (r j)),some (0,.int (A.length:Nat)),some (0,.int (y:Nat))]) (.of_eq (by simp[cg])) ?_;refine Ou.iffN (j:=99) ?_ ?_
    .generalize bG (r j)=RR at ct;simp[-aZ,-List.all_eq_true,P.f34,iG,qm,ct,mb,sc]
    exact Ou.nil ⟨some (0,.int (A.length:Nat)),some (0,.int (y:Nat)),rfl,λx h=>hr' x (bU _ h)⟩
   .rintro a ⟨x4,x5,ha,_⟩;subst ha;exact Ou.nil ⟨some (0,.int (j:Nat)),some (0,bG (r j)),x4,x5,rfl,λx h=>hr x (bU _ h)⟩
  .intro a _;exact Ou.nil rfl
 obtain⟨j,d,e,rfl⟩:=Ou.run (n:=n+6) (vs:=[(k,wd p cs),(k1,wrD (aL p r))]) (V:=λd=>d=.non) P.f35 rfl rfl key;exact⟨j,e⟩
def rT (n k:Nat)(rows:List ak)(h1:rows.length<=6)(h2:rows.flatten.length<=1000)(h3:∀g∈rows.flatten,g<6):∃j,run G (n+1) 24 [(k,wrD rows)]=.ret j (.lst (aK (bB rows.flatten))) []/\1<=j:=by
 have hs:rows.length<=SL:=b8 h1 (by decide);obtain⟨x,e,rfl⟩:=Ou.runE (G:=G) (n:=n) (f:=24) (F:=jK) (vs:=[(k,wrD rows)]) (init:=jK.body.dropLast) (e:=.op .srtSet [(.var 1)]) (P:=λx=>x=(1,.lst (aK (bB rows.flatten)))) P.v.f24 rfl rfl rfl (λ_ h=>nomatch h) (by
  show Ou G (run G n) [] [some (0,wrD rows),none,none] _ _ _ _;refine Ou.setK (x:=(99,.lst [])) (by simp) (by simp) ?_;refine Ou.low (a':=[some (0,wrD rows),some (1,.lst []),none]) (.cons (.refl _) (.cons ⟨rfl,by decide⟩ (.cons trivial .nil))) ?_;refine Ou.fo (λr a=>∃(x:az) (fl:ak) (suf:List ak),a=[some (0,wrD rows),some (1,.lst (aK fl)),x]/\r=suf.map bG/\fl++suf.flatten=rows.flatten) (vs:=[(0,wrD rows)]) (xs:=rows.map bG) (by simp) (by simp[wrD]) (by simpa using hs) ?_ ?_ ?_
  .exact⟨none,[],rows,by simp[aK],rfl,rfl⟩
  .rintro x r a ⟨y,fl,suf,ha,hr,he⟩;cases suf with
   | nil=>simp at hr
   | cons s suf=>
    simp only[Fh,FP] at hr;obtain⟨rfl,rfl⟩:=hr;subst ha;refine⟨_,gw rfl,?_⟩;refine Ou.extend (k:=0) (j:=0) (xs:=aK fl) (ys:=aK s) (by simp) (by simp[bG]) (D5 s) ?_ ?_
    .have e2:rows.flatten.length=fl.length+(s.length+suf.flatten.length):=by rw[<-he]; simp
     have:1000<=SL:=by decide
     simp only[aK,Fg];omega
    .exact Ou.nil ⟨some (0,bG s),fl++s,suf,by simp[aK],rfl,by simpa using he⟩
  .rintro a ⟨y,fl,suf,ha,hr,he⟩;have:suf=[]:=by simpa using hr.symm
   subst this ha;simp only[List.flatten_nil,F7] at he;rw[<-he] at h3 ⊢;exact Ou.nil ⟨(1,.lst (aK (bB fl))),by simp[sw h3],rfl⟩)
 exact⟨1,e,bD _⟩
def Az (n k k1:Nat)(p:Nat)(cs:ac)(r:Nat->ak)(hp:p<=6)(hm:cs.length<=6)(ok:∀c∈cs,OkC p c)(s:Sr cs r (bB (aL p r).flatten)):∃j,run G (n+6) 36 [(k,wd p cs),(k1,wrD (aL p r))]=.ret j .non []:=by
 have h100:100<=SL:=by decide
 have hfl:=rf (s.len hm) p hp;obtain⟨jw,qw,_⟩:=rT P (n+4) 0 (aL p r) (by rw[rL]; exact hp) (by omega) (λx hx=>by
  obtain⟨j,hj,h⟩:=jM.mp hx;have:=s.lt x ((s.mm j x).mp h).1;omega)
 have sl:(bB (aL p r).flatten).length<=6:=by
  have:=Gx (λk=>(aL p r).flatten.contains k) (List.range 6);simpa[bB] using this
 generalize bB (aL p r).flatten=Lw at qw s sl;have key:Ou G (run G (n+5)) [] [some (0,wd p cs),some (0,wrD (aL p r)),none,none] k8.body (λ_=>D.non=.non) (λd=>d=.non) λ_ _ _=>False:=by
  refine Ou.fo (λq a=>∃(x2 x3:az) (suf:ak),a=[some (0,wd p cs),some (0,wrD (aL p r)),x2,x3]/\q=aK suf/\∀g∈suf,g∈Lw) (vs:=[(jw,.lst (aK Lw))]) (xs:=aK Lw) (by simp[P.v.f24,jK,qw]) (by simp) (by rw[fg]; omega) ⟨none,none,Lw,by simp,rfl,λg h=>h⟩ ?_ ?_
  .rintro x q a ⟨x2,x3,suf,ha,hr,hs⟩;cases suf with
   | nil=>simp[aK] at hr
   | cons g suf=>
    simp only[aK,Fh,FP] at hr;obtain⟨rfl,rfl⟩:=hr;subst ha;have hgL:=hs g bW;have hgl:=s.lt g hgL;have hc:cs[g]? = some (covA cs g):=by simp[covA,hgl]
    have okc:=ok _ (FN hc);have q3:=nW P.v.a n 0 0 p cs g _ hc;refine⟨_,gw rfl,?_⟩;refine Ou.low (a':=[some (0,wd p cs),some (0,wrD (aL p r)),some (0,.int (g:Nat)),x3]) (.of_eq (by simp)) ?_;refine Ou.fo (λq a=>∃(x3:az) (sf:al),a=[some (0,wd p cs),some (0,wrD (aL p r)),some (0,.int (g:Nat)),x3]/\q=sf.map .int/\∀i∈sf,i∈covA cs g) (vs:=[(1,.lst ((covA cs g).map .int))]) (xs:=(covA cs g).map .int) (by simp[ny P.v.a,ig,q3]) (by simp) (by have:=okc.ln; simp; omega) ⟨x3,covA cs g,by simp,rfl,λi h=>h⟩ ?_ ?_
    .rintro x q' a ⟨x3,sf,ha,hr',hsf⟩;cases sf with
     | nil=>simp at hr'
     | cons i sf=>
      simp only[Fh,FP] at hr';obtain⟨rfl,rfl⟩:=hr';subst ha;have hsc:=hsf i bW;have rg:=okc.rg i hsc;obtain⟨j,rfl⟩:∃j:Nat,i=(j:Int):=⟨i.toNat,by omega⟩
      have ixr:=vc (t:=r) (show j<p by omega);have hgf:g∈r j:=(s.mm j g).mpr ⟨hgL,hsc⟩;have mb:=lw g (r j);have sc:=lj (r j);refine⟨_,gw rfl,?_⟩;refine Ou.iffN (j:=99) ?_ ?_
      .generalize wrD (aL p r)=WW at ixr;simp only[bG] at ixr;simp[-ixOp,-List.all_eq_true,ixr,mb,sc,hgf]
      exact Ou.nil ⟨some (0,.int (j:Nat)),sf,by simp,rfl,λi h=>hsf i (bU _ h)⟩
    .rintro a ⟨x3,sf,ha,_,_⟩;subst ha;exact Ou.nil ⟨some (0,.int (g:Nat)),x3,suf,rfl,rfl,λx h=>hs x (bU _ h)⟩
  .intro a _;exact Ou.nil rfl
 obtain⟨j,d,e,rfl⟩:=Ou.run (n:=n+5) (vs:=[(k,wd p cs),(k1,wrD (aL p r))]) (V:=λd=>d=.non) P.f36 rfl rfl key;exact⟨j,e⟩
end Ip
end
section
namespace Ip
open PySem (Str)
def p0 (a b:Nat×Nat):(prE a).eq (prE b)=decide (a=b):=by
 obtain⟨a1,a2⟩:=a;obtain⟨b1,b2⟩:=b;simp only[prE,D.eq,D.eqs,Il];rw[Bool.eq_iff_iff];simp only[tw,Fw,FM];omega
def BO (T:aj):(T.map prE).all (D.pur 60)=true:=by simp[prE]
def A8 (s:Nat×Nat):(prE s).pur 60=true:=by simp[prE]
theorem sm (s:Nat×Nat):∀T:aj,D.memb (prE s) (T.map prE)=decide (s∈T)
 | []=>rfl
 | x::T=>by
  have ih:=sm s T;have e:D.memb (prE s) ((x::T).map prE)=((prE x).eq (prE s)||D.memb (prE s) (T.map prE)):=rfl;rw[e,ih,p0];by_cases h:x=s
  .subst h; simp
  .have:¬s=x:=λe=>h e.symm;simp[this,h]
theorem vx {s:Nat×Nat}:∀{A B:aj},s∉A->D.find (prE s) ((A++s::B).map prE)=some A.length
 | [],B,_=>by
  unfold D.find;rw[List.nil_append,Fh,Gv,p0];simp
 | x::A,B,h=>by
  have hx:¬x=s:=λe=>h (by rw[e]; exact bW);have ih:=vx (s:=s) (A:=A) (B:=B) λz=>h (bU _ z);unfold D.find at ih ⊢;rw[List.cons_append,Fh,Gv,p0,ih];simp[hx]
def AN {T:aj}(hn:T.Nodup)(h:∀u∈T,u.1<6/\u.2<6):T.length<=36:=by
 have:=gG (gs:=T.map λu=>u.1 * 6+u.2) (m:=36) (Ih.mpr (hn.imp_of_mem λ{a b} ha hb hne e=>hne (by
  have h1:=h a ha;have h2:=h b hb;exact Prod.ext (by omega) (by omega)))) λg hg=>by
  obtain⟨u,hu,rfl⟩:=fh hg;have:=h u hu;show u.1 * 6+u.2<36;omega
 simpa using this
variable {G:Pg}(P:Pm G)
include P
def CI (n k k1 k2:Nat)(p:Nat)(cs:ac)(r t:Nat->ak)(res L:ak)(hp:p<=6)(hm:cs.length<=6)(ok:∀c∈cs,OkC p c)(h0:∀g,∀i∈covA cs g,0<=i)(l:Lf cs r t res L)(hne:L≠[])(hnr:∀g∈L,¬gR cs t g) :
  ∃j f R,run G (n+7) 38 [(k,wd p cs),(k1,wrD (aL p r)),(k2,.lst (aK L))]=.ret j (.lst (R.map prE)) []/\1<=j/\Rgo p r f R:=by
 have h100:100<=SL:=by decide
 obtain⟨f,hf⟩:∃f:Nat->Nat×Nat,∀g∈L,∃us,gu cs r L g=f g::us:=by
  refine⟨λg=>(gu cs r L g).headD (0,0),λg hg=>?_⟩;cases e:gu cs r L g with
  | nil=>exact absurd ((ng l h0 hg).mp e) (hnr g hg)
  | cons u us=>exact⟨us,by simp only[e]; rfl⟩
 have hcv:∀g∈L,OkC p (covA cs g):=λg hg=>ok _ (FN (i:=g) (by simp[covA,l.s.lt g hg]));have hfm:∀g∈L,(f g).1∈L/\(f g).2<p/\∃A B,r (f g).2=A++(f g).1::g::B:=λg hg=>by
  obtain⟨us,e⟩:=hf g hg;obtain⟨m1,m2,m3⟩:=AZ l h0 hg (u:=f g) (by rw[e]; exact bW);have:=(hcv g hg).rg _ m2;exact⟨m1,by omega,m3⟩
 have qs:∀g∈L,∃j,∃us,run G (n+6) 37 [(0,wd p cs),(0,wrD (aL p r)),(0,.int (g:Nat)),(0,.lst (aK L))]=.ret j (.lst (prE (f g)::us)) []:=λg hg=>by
  obtain⟨us,e⟩:=hf g hg;obtain⟨j,q⟩:=vZ P n 0 0 0 0 p cs r L g hp ok (l.s.lt g hg) λj hj=>by
   rw[l.rw];exact cr _ ((l.s.mm j g).mpr ⟨hg,hj⟩)
  exact⟨j,us.map prE,by rw[q,e]; rfl⟩
 obtain⟨l0,Lt,eL⟩:∃l0 Lt,L=l0::Lt:=by
  cases L with
  | nil=>exact absurd rfl hne
  | cons a b=>exact⟨a,b,rfl⟩
 have hl0:l0∈L:=by rw[eL]; exact bW
 have ix0:ixOp (.lst (aK L)) (.int 0)=some (0,.int (l0:Nat)):=by rw[eL]; exact t6 (A:=[]) (B:=Lt) (a:=l0)
 have len:∀T:aj,T.Nodup->(∀u∈T,u.1∈L/\u.2<p)->T.length<=36:=λT h1 h2=>AN h1 λu hu=>by
  have:=h2 u hu;have:=l.s.lt u.1 this.1;omega
 generalize hW:wrD (aL p r)=WW at qs;generalize hLL:D.lst (aK L)=LL at qs ix0;generalize hWD:wd p cs=WD at qs;obtain⟨x,e,R,rfl,hR⟩:=Ou.runE (G:=G) (n:=n+6) (f:=38) (F:=mC) (vs:=[(k,WD),(k1,WW),(k2,LL)]) (init:=mC.body.dropLast) (e:=.op .rev [(.op .slL [(.var 3),(.op .index [(.var 3),(.var 4)])])]) (P:=λx=>∃R,x=(1,.lst (R.map prE))/\Rgo p r f R) P.f38 rfl rfl rfl (λ_ h=>nomatch h) (by
  show Ou G (run G (n+6)) [] [some (0,WD),some (0,WW),some (0,LL),none,none] _ _ _ _;refine Ou.setK (x:=(99,.lst [])) (by simp) (by simp) ?_;refine Ou.low (a':=[some (0,WD),some (0,WW),some (0,LL),some (99,.lst []),none]) (.of_eq (by simp)) ?_;refine Ou.low (a':=[some (0,WD),some (0,WW),some (0,LL),some (1,.lst []),none]) (.cons (.refl _) (.cons (.refl _) (.cons (.refl _) (.cons ⟨rfl,by decide⟩ (.refl _))))) ?_;obtain⟨j1,us1,q1⟩:=qs l0 hl0;refine Ou.set (x:=(0,prE (f l0))) (by simp[-ixOp,ix0,P.f37,jx,q1]; simp[ef]) ?_;refine Ou.whl (λm a=>∃(T:aj) (s:Nat×Nat),a=[some (0,WD),some (0,WW),some (0,LL),some (1,.lst (T.map prE)),some (0,prE s)]/\T.Nodup/\(l0::T.map (·.1)).map f=T++[s]/\(∀u∈T++[s],u.1∈L/\u.2<p)/\m+T.length=37) 37 (by decide) ⟨[],f l0,by simp[frz,frz1],.nil,rfl,λu hu=>by rw[Fc.mp hu]; exact⟨(hfm l0 hl0).1,(hfm l0 hl0).2.1⟩,rfl⟩ ?_;rintro m a ⟨T,s,ha,hn,hc,hu,hmT⟩;subst ha;have mb:=sm s T;have p1:=BO T;have p2:=A8 s;by_cases hs:s∈T
  .obtain⟨A,B,eT⟩:=Hn hs;have hsA:s∉A:=λz=>by
    rw[eT] at hn;exact (Fo.mp hn).2.2 s z s (by simp) rfl
   have hT36:=len T hn λu h=>hu u (d8 _ h);have ro:=Cd (r:=r) (p:=p) hn hT36 hc eT λu h=>by
    have:=hfm u.1 (hu u (d8 _ h)).1;exact⟨this.2.1,this.2.2⟩
   have fd:=vx (B:=B) hsA;rw[<-eT] at fd;have ixe:cD (.lst (T.map prE)) (prE s)=some (99,.int (A.length:Nat)):=by
    rw[oS,fd];simp only[D.pures,p1,p2];rfl
   have ct:cutD (T.map prE) (some (A.length:Int)) none=(s::B).map prE:=by
    rw[oM,eT,<-HJ];simp
   refine .inl ⟨99,?_,Ou.nil ⟨_,?_,(s::B).reverse,rfl,ro⟩⟩
   .generalize prE s=PS at mb p2;generalize T.map prE=TT at mb p1;simp[-List.all_eq_true,mb,p1,p2,hs]
   .have er:(s::B).reverse.map prE=((s::B).map prE).reverse:=List.map_reverse;rw[er];generalize prE s=PS at ixe;generalize T.map prE=TT at ixe ct;generalize (s::B).map prE=SB at ct;simp[-oS,ixe,ct]
  .have hT':(T++[s]).Nodup:=(List.perm_append_comm.nodup_iff (l₁:=T++[s]) (l₂:=[s]++T)).mpr (Ft.mpr ⟨hs,hn⟩);have hT36:=len (T++[s]) hT' hu;have hsL:=(hu s (by simp)).1;obtain⟨j2,us2,q2⟩:=qs s.1 hsL;have ixs:ixOp (prE s) (.int 0)=some (0,.int (s.1:Nat)):=by simp[prE,ef]
   refine .inr ⟨⟨99,?_⟩,36 - T.length,by simp at hT36; omega,?_⟩
   .generalize prE s=PS at mb p2;generalize T.map prE=TT at mb p1;simp[-List.all_eq_true,mb,p1,p2,hs]
   refine Ou.append (k:=0) (xs:=T.map prE) (v:=(0,prE s)) (by simp[frz,frz1]) (by simp) (by simp at hT36 ⊢; omega) ?_;refine Ou.low (a':=[some (0,WD),some (0,WW),some (0,LL),some (1,.lst ((T++[s]).map prE)),some (0,prE s)]) (.of_eq (by simp[frz,frz1])) ?_;generalize hPS:prE s=PS at ixs;refine Ou.set (x:=(0,prE (f s.1))) (by simp[-ixOp,ixs,P.f37,jx,q2]; simp[ef]) ?_;refine Ou.nil ⟨T++[s],f s.1,by simp[frz,frz1],hT',?_,λu h=>?_,by simp at hT36 ⊢; omega⟩
   .have:=congrArg (λl:aj=>l++[f s.1]) hc;simpa using this
   .rcases cX h with h | h
    .exact hu u h
    .rw[Fc.mp h]; exact⟨(hfm s.1 hsL).1,(hfm s.1 hsL).2.1⟩)
 exact⟨1,f,R,e,bD _,hR⟩
end Ip
end
section
namespace Ip
open PySem (Str)
def Ew {P:Nat->Bool}{g:Nat}{L t:ak}(h:L.Pairwise (· < ·))(e:L.filter P=g::t):g∈L/\P g=true/\∀o,o<g->o∈L->¬P o=true:=by
 have hg:g∈L.filter P:=by rw[e]; exact bW
 refine⟨(Fs.mp hg).1,(Fs.mp hg).2,λo ho hm hP=>?_⟩;have ho':o∈L.filter P:=Fs.mpr ⟨hm,hP⟩;have pw:=h.filter P;rw[e] at ho' pw;rcases cu ho' with z | z
 .omega
 .have:=(Ia.mp pw).1 o z;omega
def By {g:Nat}{L:ak}(hp:L.Pairwise (· < ·))(hg:g∈L):∃A B,L=A++g::B/\g∉A/\(L.filter λx=>decide (x≠g))=A++B:=by
 obtain⟨A,B,rfl⟩:=Hn hg;have nd:(A++g::B).Nodup:=wY hp;have hA:g∉A:=λz=>(Fo.mp nd).2.2 g z g (by simp) rfl;have hB:g∉B:=(Ft.mp (Fo.mp nd).2.1).1;refine⟨A,B,rfl,hA,?_⟩;have f1:A.filter (λx=>decide (x≠g))=A:=HP.mpr λx hx=>FB λe=>hA (e ▸ hx);have f2:B.filter (λx=>decide (x≠g))=B:=HP.mpr λx hx=>FB λe=>hB (e ▸ hx);rw[List.filter_append,List.filter_cons,f1,f2];simp
theorem Lf.step {cs:ac}{r t:Nat->ak}{res L:ak}{g:Nat}(l:Lf cs r t res L)(hr:gR cs t g):Lf cs r (stp cs g t) (res++[g]) (L.filter λx=>decide (x≠g)):=by
 refine⟨l.s.step hr,λj=>?_,λx hx hL=>?_,l.rn⟩
 .have hfc:=Ar cs j g [];rw[l.rw j,xO,hfc];unfold stp;by_cases hj:(j:Int)∈covA cs g
  .rw[if_pos hj,if_pos hj,GE];exact congrArg _ (sY hr hj)
  .rw[if_neg hj,if_neg hj];show _=cR cs j res++[]++t j;rw[F7]
 .obtain⟨h1,h2⟩:=Fs.mp hL;rcases cX hx with z | z
  .exact l.dj x z h1
  .exact HB h2 (Fc.mp z)
def Aw (s:Str)(j:Nat)(xs:ax):aY [(99,.str s),(j,.lst xs)]=j:=by simp[aY,bo]
def Good (p:Nat)(cs:ac)(r:Nat->ak)(L:ak)(d:D):Prop:=(∃es,d=.tup [.str "order",.lst (aK es)]/\Tp cs r L es)\/∃f R,d=.tup [.str "ring",.lst (R.map prE)]/\Rgo p r f R
variable {G:Pg}(P:Pm G)
include P
set_option maxHeartbeats 1000000 in
def vd (n k k1:Nat)(p:Nat)(cs:ac)(r:Nat->ak)(hp:p<=6)(hm:cs.length<=6)(ok:∀c∈cs,OkC p c)(h0:∀g,∀i∈covA cs g,0<=i)(s:Sr cs r (bB (aL p r).flatten)):∃j d,run G (n+9) 39 [(k,wd p cs),(k1,wrD (aL p r))]=.ret j d []/\Good p cs r (bB (aL p r).flatten) d/\dq j d:=by
 have h100:100<=SL:=by decide
 obtain⟨j1,q1⟩:=Bq P (n+1) 0 0 p cs r _ hp hm s;obtain⟨j2,q2⟩:=Az P (n+2) 0 0 p cs r hp hm ok s;have hfl:=rf (s.len hm) p hp;obtain⟨j3,q3,h3⟩:=rT P (n+7) 0 (aL p r) (by rw[rL]; exact hp) (by omega) (λx hx=>by
  obtain⟨j,hj,h⟩:=jM.mp hx;have:=s.lt x ((s.mm j x).mp h).1;omega)
 have sl:(bB (aL p r).flatten).length<=6:=by
  have:=Gx (λk=>(aL p r).flatten.contains k) (List.range 6);simpa[bB] using this
 generalize bB (aL p r).flatten=L0 at q3 s sl;have eord:PySem.Str.ofString "ring" = ("ring" : Str):=rfl;refine Ou.runP (G:=G) (n:=n+8) (f:=39) (i:=2) (s := "order") (F:=g8) (vs:=[(k,wd p cs),(k1,wrD (aL p r))]) (init:=g8.body.dropLast) (V:=Good p cs r L0) P.f39 rfl rfl rfl ?_;show Ou G (run G (n+8)) [] [some (0,wd p cs),some (0,wrD (aL p r)),none,none,none] _ _ _ _;refine Ou.ex (x:=(j1,.non)) (by simp[P.f35,jR,q1]) ?_;refine Ou.ex (x:=(j2,.non)) (by simp[P.f36,k8,q2]) ?_;refine Ou.setK (x:=(99,.lst [])) (by simp) (by simp) ?_;refine Ou.setD (j:=1) (x:=(j3,.lst (aK L0))) (by simp[P.v.f24,jK,q3]) h3 ?_;refine Ou.low (a':=[some (0,wd p cs),some (0,wrD (aL p r)),some (99,.lst []),some (1,.lst (aK L0)),none]) (.of_eq (by simp)) ?_;refine Ou.low (a':=[some (0,wd p cs),some (0,wrD (aL p r)),some (1,.lst (aK [])),some (1,.lst (aK L0)),none]) (.cons (.refl _) (.cons (.refl _) (.cons ⟨rfl,by decide⟩ (.refl _)))) ?_;refine Ou.whl (λm a=>∃(x4:Option KD) (res L:List Nat) (t:Nat->List Nat),a=[some (0,wd p cs),some (0,wrD (aL p r)),some (1,.lst (aK res)),some (1,.lst (aK L)),x4]/\Lf cs r t res L/\(∀es,Tp cs t L es->Tp cs r L0 (res++es))/\res.length+L.length<=6/\m=L.length) L0.length (by omega) ⟨none,[],L0,r,rfl,⟨s,λj=>rfl,by simp,s.nd⟩,λes h=>h,by simpa using sl,rfl⟩ ?_;rintro m a ⟨x4,res,L,t,ha,lf,hT,hlen,hm'⟩;subst ha;cases hL:L with
 | nil=>
  subst hL;refine .inl ⟨99,by simp[aK],Ou.nil ⟨0,.lst (aK res),by simp,.inl ⟨res,rfl,?_⟩⟩⟩;have:=hT [] .nil
  rwa [F7] at this
 | cons y Lt=>
 have hLne:L≠[]:=by rw[hL]; simp
 rw[<-hL];have hlenS:0<(aK L).length:=by rw[fg,hL]; simp
 refine .inr ⟨⟨99,by simp; exact hlenS⟩,L.length - 1,by rw[fg] at hlenS; omega,?_⟩;have cc:be (compF G (run G (n+8)) [none,none,some (.lst (aK L)),some (wrD (aL p r)),some (wd p cs)] (.one 1) [(.op .eq [(.op .len [(.call 37 [(.var 4),(.var 3),(.var 1),(.var 2)])]),(.cst (.int (0)))])] (.var 1)) (aK L)=.ok ((L.filter λa=>(gu cs r L a).isEmpty).map λa=>(0,.int (a:Nat))):=by
  refine n0 (e:=λa:Nat=>D.int (Int.ofNat a)) λa ha=>?_;obtain⟨js,qs⟩:=vZ P (n+2) 0 0 0 0 p cs r L a hp ok (lf.s.lt a ha) λj hj=>by
   rw[lf.rw];exact cr _ ((lf.s.mm j a).mpr ⟨ha,hj⟩)
  generalize wrD (aL p r)=WW at qs;generalize D.lst (aK L)=LL at qs;generalize wd p cs=WD at qs;cases hq:gu cs r L a with
  | nil=>
   rw[hq] at qs;simp[compF,P.f37,jx,qs,D.eq]
  | cons u us=>
   rw[hq] at qs;have:¬((us.length:Int)+1=0):=by omega
   simp[compF,P.f37,jx,qs,D.eq,this]
 have lS:(aK L).length<=SL:=by rw[fg]; omega
 have jk:∀l:ak,aY (l.map λa=>((0:Nat),D.int (a:Nat)))=98:=λl=>qS λx hx=>by
  obtain⟨c,_,rfl⟩:=fh hx;simp
 have jkF:=jk (L.filter λa=>(gu cs r L a).isEmpty);cases hF:L.filter λa=>(gu cs r L a).isEmpty with
 | nil=>
  rw[hF] at cc;obtain⟨jr,f,R,qr,hjr,hR⟩:=CI P (n+1) 0 0 0 p cs r t res L hp hm ok h0 lf hLne λg hg hr=>by
   have:=GW.mp hF g hg;rw[(ng lf h0 hg).mpr hr] at this;exact this rfl
  refine Ou.setK (x:=(99,.lst [])) ?_ (by simp) ?_
  .generalize aK L=LS at cc lS;have e98:aY []=98:=rfl;simp[cc,lS,e98]
  refine Ou.low (a':=[some (0,wd p cs),some (0,wrD (aL p r)),some (1,.lst (aK res)),some (1,.lst (aK L)),some (99,.lst [])]) (.of_eq (by simp)) ?_;refine Ou.iffT (j:=99) (by simp[D.eq]) ?_;refine Ou.ret (x:=(aY [(99,.str "ring"),(jr,.lst (R.map prE))]+1,.tup [.str "ring",.lst (R.map prE)])) ?_ (.inr ⟨f,R,rfl,hR⟩) λ_ _ _=>by rw[Aw]; show 2<=jr+1; omega
  .generalize wrD (aL p r)=WW at qr;generalize D.lst (aK L)=LL at qr;generalize wd p cs=WD at qr;simp[P.f38,mC,qr]
 | cons g rest=>
  rw[hF] at cc jkF;obtain⟨hgL,hgP,hgl⟩:=Ew lf.s.pw hF;have hrd:gR cs t g:=(ng lf h0 hgL).mp (by simpa using hgP);have hleast:∀o,o<g->o∈L->¬gR cs t o:=λo ho hoL hr=>hgl o ho hoL (by rw[(ng lf h0 hoL).mpr hr]; rfl);obtain⟨A,B,eL,hgA,eE⟩:=By lf.s.pw hgL;have fd:D.find (.int g) (aK L)=some A.length:=by rw[eL,pY (by simp),C1 hgA]
  have er:(aK L).eraseIdx A.length=aK (L.filter λx=>decide (x≠g)):=by rw[eE,eL,zS]
  have isI:=wX L;have lf':=lf.step hrd;have ll:(L.filter λx=>decide (x≠g)).length+1=L.length:=by rw[eE,eL]; simp; omega
  have hT':∀es,Tp cs (stp cs g t) (L.filter λx=>decide (x≠g)) es->Tp cs r L0 ((res++[g])++es):=λes h=>by
   have:=hT (g::es) (.cons hgL hrd hleast h);simpa using this
  clear lf hT hF hgP hgl hrd hleast;generalize (L.filter λx=>decide (x≠g))=L' at er lf' ll hT' eE;generalize hLS:aK L=LS at cc fd er isI lS;refine Ou.setK (x:=(99,.lst (aK (g::rest)))) ?_ ?_ ?_
  .simp[cc,lS,aK,Function.comp_def];simpa using jkF
  .simp[aK]
  refine Ou.low (a':=[some (0,wd p cs),some (0,wrD (aL p r)),some (1,.lst (aK res)),some (1,.lst LS),some (0,.lst (aK (g::rest)))]) (.cons (.refl _) (.cons (.refl _) (.cons (.refl _) (.cons (.refl _) (.cons ⟨rfl,Fy _⟩ .nil))))) ?_;have i0:ixOp (.lst (aK (g::rest))) (.int 0)=some (0,.int (g:Nat)):=t6 (A:=[]) (B:=rest) (a:=g);have hn0:(aK (g::rest)).length=rest.length+1:=by rw[fg]; rfl
  refine Ou.iffN (j:=99) (by simp[hn0,D.eq]; omega) ?_;generalize D.lst (aK (g::rest))=RD at i0;refine Ou.append (k:=0) (xs:=aK res) (v:=(0,.int (g:Nat))) (by simp[frz,frz1]) (by simp[-ixOp,i0]) (by rw[fg]; omega) ?_;refine Ou.low (a':=[some (0,wd p cs),some (0,wrD (aL p r)),some (1,.lst (aK (res++[g]))),some (1,.lst LS),some (0,RD)]) (.of_eq (by simp[frz,frz1,aK])) ?_;refine Ou.remove (k:=0) (p:=A.length) (jj:=0) (n:=(g:Nat)) (xs:=LS) (by simp) (by simp[-ixOp,i0]) isI fd ?_;exact Ou.nil ⟨some (0,RD),res++[g],L',stp cs g t,by simp[er],lf',hT',by simp; omega,by omega⟩
end Ip
end
section
namespace Ip
open PySem (Str)
inductive Th:D->Prop
 | int (i:Int):Th (.int i)
 | tr:Th (.bl true)
 | no:Th .non
 | zs:Th (.str "0")
 | tp:Th (.tup [.int 0])
 | ls:Th (.lst [.int 0])
theorem Th.eq {d:D}(h:Th d):d.eq d=true:=by cases h <;> first | simp[D.eq,D.eqs] | decide +kernel
noncomputable def dC:D->Nat
 | .int i=>i.toNat
 | _=>0
def kZ {m:Int}{x:D}(h:isB m x=true):∃g:Nat,x=.int g/\(g:Int)<m:=by
 cases x with
 | int i=>
  simp only[isB,tw,Fw] at h;exact⟨i.toNat,by congr 1; omega,by omega⟩
 | _=>simp[isB] at h
theorem pS {m:Nat}(g:Nat):∀{L:ax},(∀x∈L,isB m x=true)->D.memb (.int g) L=decide (g∈L.map dC)
 | [],_=>rfl
 | x::L,h=>by
  obtain⟨y,rfl,_⟩:=kZ (h x bW);have ih:=pS g (L:=L) λz hz=>h z (bU _ hz);have e:D.memb (.int g) (.int (y:Int)::L)=((D.int (y:Int)).eq (.int g)||D.memb (.int g) L):=rfl;rw[e,ih];have t:dC (.int (y:Int))=y:=by simp[dC]
  simp only[D.eq,Fh,t,Fl];by_cases h:g=y
  .subst h; simp
  .have:¬(y:Int)=(g:Int):=by omega
   simp[this,h]
def dl {T t:Nat}{x:D}{r:ax}(hr:x::r=((List.range T).map λ(n:Nat)=>D.int n).drop t):t<T/\x=.int t/\r=((List.range T).map λ(n:Nat)=>D.int n).drop (t+1):=by
 have htl:t<T:=by
  have:(x::r).length=(((List.range T).map λ(n:Nat)=>D.int n).drop t).length:=by rw[hr]
  simp at this;omega
 have htm:t<((List.range T).map λ(n:Nat)=>D.int n).length:=by simpa using htl
 rw[FZ htm] at hr;refine⟨htl,?_,(GY hr).2⟩;have:=(GY hr).1;rw[this]; simp
def qC {T t:Nat}(hr:[]=((List.range T).map λ(n:Nat)=>D.int n).drop t):T<=t:=by
 have:(((List.range T).map λ(n:Nat)=>D.int n).drop t).length=0:=by rw[<-hr]; rfl
 simp at this;omega
noncomputable def da:Nat->ax->ax
 | _,[]=>[]
 | k,d::ds=>.tup [.int (k:Nat),d]::da (k+1) ds
theorem sy:∀(ds:ax) (k:Nat),ds.mapIdx (λn d=>D.tup [.int ((k+n:Nat):Int),d])=da k ds
 | [],_=>rfl
 | d::ds,k=>by
  rw[List.mapIdx_cons];have:=sy ds (k+1);show _::_=_::_;rw[<-this];congr 1
  refine List.mapIdx_eq_mapIdx_iff.mpr λi h=>?_;rw[show k+(i+1)=k+1+i by omega]
theorem pL:∀(ds:ax) (k:Nat),(da k ds).length=ds.length
 | [],_=>rfl
 | _::ds,k=>by simp[da,pL ds]
def t4 (k:Nat)(ds:ax):dF .enum [(k,.tup ds)]=some (da 0 ds):=by
 rw[rj,<-sy];simp
noncomputable def br (cs:ac)(j:Nat):ak->ax->Option D
 | _,[]=>none
 | pre,x::xs=>if isB cs.length x=true/\(j:Int)∈covA cs (dC x)/\dC x∉pre then br cs j (pre++[dC x]) xs else some x
noncomputable def aS (cs:ac):Nat->List ax->Option aJ
 | _,[]=>none
 | j,r::rs=>match br cs j [] r with
  | some x=>some (j,x)
  | none=>aS cs (j+1) rs
noncomputable def wD (rows:List ax):D:=.tup (rows.map .tup)
def Ou.runM {G:Pg}{n f:Nat}{F:Fn}{vs:aw}{M:Prop}{X:Nat->List aJ->Prop}(hf:G.fn f=some F)(hn:vs.length=F.np)(hio:F.io=[])(h:Ou G (Ip.run G n) [] (bE F vs) F.body (λ_=>M) (λ_=>False) λc fs _=>X c fs) :
  (Ip.run G (n+1) f vs=.ret 99 .non []/\M)\/∃c fs,Ip.run G (n+1) f vs=.exc c fs []/\X c fs:=by
 rw[Ip.run,hf];simp only[hn,if_true,hio];have:=h _ (.refl _);revert this
 cases execs G (Ip.run G n) [] (bE F vs) F.body with
 | nx A=>exact λ⟨_,_,h⟩=>.inl ⟨rfl,h⟩
 | ret k d A=>exact λh=>h.1.elim
 | exc c fs A=>exact λ⟨_,_,h⟩=>.inr ⟨c,fs,rfl,h⟩
 | _=>exact False.elim
section
variable {G:Pg}(P:Pm G)
include P
def AD (n k k':Nat)(i j:Int)(hj:j≠100):run G (n+1) 2 [(k,.int i),(k',.int j)]=.ret 0 (.int i) []:=by
 rw[run,P.v.a.f2];simp[gZ,D.eq,hj]
def xT (n k k':Nat)(d:D)(h:Th d):∃j,run G (n+2) 2 [(k,d),(k',.int 0)]=.ret j d []:=by
 have q:=AD P n 0 99 0 1 (by decide);have hs:1<=SL:=by decide
 have cc:be (compF G (run G (n+1)) [none,none,some (.int 0)] (.one 1) [] (.call 2 [(.var 1),(.op .add [(.var 2),(.cst (.int (1)))])])) [.int 0]=.ok [(0,.int 0)]:=
  t5 (g:=λd=>(0,d)) (xs:=[.int 0]) λx hx=>by
   cases Fc.mp hx;simp[compF,P.v.a.f2,gZ,q]
 rw[run,P.v.a.f2];cases h <;> exact⟨_,by simp[gZ,D.eq,hs,cc]; rfl⟩
def vQ (n k k':Nat)(pl:Int)(d:D)(h:Th d):run G (n+3) 8 [(1,.exc 6 []),(k,.int pl),(k',d)]=.ret 99 .non [(1,.exc 6 [(4,.int pl),(2,d)])]:=by
 rw[run,P.f8];obtain⟨j,q⟩:=xT P n 0 99 d h;by_cases hf:d.flat=true
 .by_cases hb:d.fb j=true
  .simp[gY,P.v.a.f2,gZ,q,cK,bo,hf,hb]
  .simp[gY,P.v.a.f2,gZ,q,cK,bo,hf,hb]
 .by_cases hb:d.fb j=true
  .simp[gY,P.v.a.f2,gZ,q,cK,bo,hf,hb]
  .simp[gY,P.v.a.f2,gZ,q,cK,bo,hf,hb]
def vi:bZ G 6 2=some (8,gY,.exc 6 []):=by
 simp[bZ,P.c6,P.f8,gY]
def Fa (n k k1 k2:Nat)(p j:Nat)(cs:ac)(d:D)(h:isB cs.length d=false):run G (n+6) 34 [(k,wd p cs),(k1,.int (j:Nat)),(k2,d)]=.ret 99 (.bl false) []:=by
 rw[run,P.f34];have q:=nH P.v.a (n+3) 0 99 d cs.length;have q2:=pG P.v.a (n+4) 0 p cs;rw[h] at q;simp[iG,P.v.a.f1,je,pO P.v.a,i6,q2,q]
end
section
variable {G:Pg}(P:Pm G)
include P
def EQ (n k k1:Nat)(p:Nat)(cs:ac)(rows:List ax)(hl:rows.length<=6)(hr:∀r∈rows,r.length<=12/\∀x∈r,Th x) :
  (aS cs 0 rows=none/\run G (n+7) 35 [(k,wd p cs),(k1,wD rows)]=.ret 99 .non [])\/∃j x,aS cs 0 rows=some (j,x)/\run G (n+7) 35 [(k,wd p cs),(k1,wD rows)]=.exc 6 [(4,.int (j:Nat)),(2,x)] []:=by
 have h12:12<=SL:=by decide
 have key:Ou G (run G (n+6)) [] [some (0,wd p cs),some (0,wD rows),none,none,none,none] jR.body (λ_=>aS cs 0 rows=none) (λ_=>False) λc fs _=>∃j x,aS cs 0 rows=some (j,x)/\c=6/\fs=[(4,.int (j:Nat)),(2,x)]:=by
  refine Ou.fo (λq a=>∃x2 x3 x4 x5 j rs,a=[some (0,wd p cs),some (0,wD rows),x2,x3,x4,x5]/\q=da j (rs.map .tup)/\aS cs j rs=aS cs 0 rows/\∀r∈rs,r.length<=12/\∀x∈r,Th x) (vs:=[(0,wD rows)]) (xs:=da 0 (rows.map .tup)) (by simp) (t4 0 _) (by rw[pL,Fg]; omega) ⟨none,none,none,none,0,rows,by simp,rfl,rfl,hr⟩ ?_ ?_
  .rintro x q a ⟨x2,x3,x4,x5,j,rs,rfl,hq,hf,hrs⟩;cases rs with
   | nil=>cases hq
   | cons r rs=>
    obtain⟨rfl,rfl⟩:=GY hq;obtain⟨rl,rt⟩:=hrs r bW;rw[aS] at hf;refine⟨_,nX (ds:=[.int (j:Nat),.tup r]) rfl,?_⟩;refine Ou.low (a':=[some (0,wd p cs),some (0,wD rows),some (0,.int (j:Nat)),some (0,.tup r),x4,x5]) (.of_eq (by simp[cg])) ?_;refine Ou.fo (λq a=>∃x4 x5 pre suf,a=[some (0,wd p cs),some (0,wD rows),some (0,.int (j:Nat)),some (0,.tup r),x4,x5]/\q=da pre.length suf/\r=pre++suf/\(∀x∈pre,isB cs.length x=true)/\br cs j (pre.map dC) suf=br cs j [] r) (vs:=[(0,.tup r)]) (xs:=da 0 r) (by simp) (t4 0 _) (by rw[pL]; omega) ⟨x4,x5,[],r,by simp,rfl,rfl,by simp,rfl⟩ ?_ ?_
    .rintro x q a ⟨x4,x5,pre,suf,rfl,hq,he,hb,hf2⟩;cases suf with
     | nil=>cases hq
     | cons x suf=>
      obtain⟨rfl,rfl⟩:=GY hq;have thx:=rt x (by rw[he]; simp);rw[br] at hf2;refine⟨_,nX (ds:=[.int (pre.length:Nat),x]) rfl,?_⟩;refine Ou.low (a':=[some (0,wd p cs),some (0,wD rows),some (0,.int (j:Nat)),some (0,.tup r),some (0,.int (pre.length:Nat)),some (0,x)]) (.of_eq (by simp[cg])) ?_;have cut:aZ none (some (pre.length:Int)) (.tup r)=some (0,.tup pre):=by
       simp only[aZ,kN];rw[he,List.take_left]
      have sc:D.pures pre=true:=List.all_eq_true.mpr λy hy=>by
       obtain⟨w,rfl,_⟩:=kZ (hb y hy);rfl
      have q3:=vQ P (n+3) 0 0 (j:Nat) x thx;have bad:∀{N:Fr->Prop},(br cs j [] r=some x)->eval G (run G (n+6)) [some (wd p cs),some (wD rows),some (.int (j:Nat)),some (.tup r),some (.int (pre.length:Nat)),some x] (.or (.op .not [(.call 34 [(.var 0),(.var 2),(.var 5)])]) (.op .isin [(.var 5),(.op .slH [(.var 3),(.var 4)])]))=.ok (99,.bl true)->Ou G (run G (n+6)) [] [some (0,wd p cs),some (0,wD rows),some (0,.int (j:Nat)),some (0,.tup r),some (0,.int (pre.length:Nat)),some (0,x)] [.iff (.or (.op .not [(.call 34 [(.var 0),(.var 2),(.var 5)])]) (.op .isin [(.var 5),(.op .slH [(.var 3),(.var 4)])])) [.rais 6 [(.var 2),(.var 5)]] []] N (λ_=>False) λc fs _=>∃j x,aS cs 0 rows=some (j,x)/\c=6/\fs=[(4,.int (j:Nat)),(2,x)]:=by
       intro N h1 h2;rw[h1] at hf;refine Ou.iffT h2 (Ou.rais (c':=6) (j:=0) (fs:=[(4,.int (j:Nat)),(2,x)]) (by simp[vi P,gY,q3]) ⟨j,x,hf.symm,rfl,rfl⟩)
      by_cases hb1:isB cs.length x=true
      .obtain⟨g,rfl,hgl⟩:=kZ hb1;have hg:g<cs.length:=by omega
       have t:dC (.int (g:Int))=g:=by simp[dC]
       obtain⟨i,qm⟩:=sh P n 0 0 0 p j g cs hg;have mb:=pS g hb;rw[t] at hf2;by_cases hc:(j:Int)∈covA cs g
       .rw[FB hc] at qm;by_cases hw:g∈pre.map dC
        .rw[FB hw] at mb;refine bad (by rw[<-hf2,if_neg λz=>z.2.2 hw]) ?_;generalize D.tup r=RR at cut ⊢;simp[-aZ,-List.all_eq_true,P.f34,iG,qm,cut,mb,sc]
        .rw[FO hw] at mb;rw[if_pos ⟨hb1,hc,hw⟩] at hf2;refine Ou.iffN (j:=99) ?_ (Ou.nil ⟨_,_,pre++[.int (g:Int)],suf,rfl,by rw[Fx]; rfl,by simp[he],λy hy=>?_,by simpa[t] using hf2⟩)
         .generalize D.tup r=RR at cut ⊢;simp[-aZ,-List.all_eq_true,P.f34,iG,qm,cut,mb,sc]
         .rcases cX hy with h | h
          .exact hb y h
          .rw[Fc.mp h]; exact hb1
       .rw[FO hc] at qm;exact bad (by rw[<-hf2,if_neg λz=>hc z.2.1]) (by simp[P.f34,iG,qm])
      .have q:=Fa P n 0 0 0 p j cs x (by simpa using hb1);exact bad (by rw[<-hf2,if_neg λz=>hb1 z.1]) (by simp[P.f34,iG,q])
    .rintro a ⟨x4,x5,pre,suf,rfl,hq,he,hb,hf2⟩;cases suf with
     | cons _ _=>cases hq
     | nil=>
      rw[<-hf2] at hf;exact Ou.nil ⟨_,_,_,_,j+1,rs,rfl,rfl,hf,λr h=>hrs r (bU _ h)⟩
  .rintro a ⟨x2,x3,x4,x5,j,rs,rfl,hq,hf,_⟩;cases rs with
   | cons _ _=>cases hq
   | nil=>exact Ou.nil hf.symm
 rcases Ou.runM (n:=n+6) (vs:=[(k,wd p cs),(k1,wD rows)]) P.f35 rfl rfl key with ⟨e,h⟩ | ⟨c,fs,e,j,x,h,rfl,rfl⟩
 .exact .inl ⟨h,e⟩
 .exact .inr ⟨j,x,h,e⟩
end
theorem uS {cs:ac}{j:Nat}:∀{xs:ax} {pre:ak},br cs j pre xs=none->pre.Nodup->(∀x∈xs,isB cs.length x=true/\(j:Int)∈covA cs (dC x))/\(pre++xs.map dC).Nodup
 | [],_,_,n=>⟨by simp,by simpa using n⟩
 | x::xs,pre,h,n=>by
  rw[br] at h;by_cases c:isB cs.length x=true/\(j:Int)∈covA cs (dC x)/\dC x∉pre
  .rw[if_pos c] at h;obtain⟨e,q⟩:=uS h (Fo.mpr ⟨n,by simp,λa ha b hb z=>c.2.2 (by rw[<-Fc.mp hb,<-z]; exact ha)⟩);refine⟨λy hy=>?_,by simpa using q⟩;rcases cu hy with rfl | hy
   .exact⟨c.1,c.2.1⟩
   .exact e y hy
  .rw[if_neg c] at h; cases h
theorem sS {cs:ac}:∀{rs:List ax} {j:Nat},aS cs j rs=none->∀i,i<rs.length->br cs (j+i) [] (rs.getD i [])=none
 | [],_,_,i,hi=>by simp at hi
 | r::rs,j,h,i,hi=>by
  rw[aS] at h;cases q:br cs j [] r with
  | some x=>rw[q] at h; cases h
  | none=>
   rw[q] at h;cases i with
   | zero=>exact q
   | succ i=>
    have:=sS h i (by simpa using hi);rw[show j+(i+1)=j+1+i by omega];simpa using this
theorem uK {m:Nat}:∀{xs:ax},(∀x∈xs,isB m x=true)->xs=aK (xs.map dC)/\∀g∈xs.map dC,g<m
 | [],_=>⟨rfl,by simp⟩
 | x::xs,h=>by
  obtain⟨e,q⟩:=uK λy hy=>h y (bU _ hy);obtain⟨g,rfl,hg⟩:=kZ (h x bW);have t:dC (.int (g:Int))=g:=by simp[dC]
  refine⟨?_,?_⟩
  .rw[Fh,t];show _=D.int (Int.ofNat g)::aK (xs.map dC);rw[<-e]; rfl
  .rw[Fh,t];intro y hy;rcases cu hy with rfl | hy
   .omega
   .exact q y hy
noncomputable def rN (rows:List ax)(j:Nat):ak:=(rows.getD j []).map dC
structure Rn (cs:ac)(rows:List ax)(j:Nat):Prop where
 e:rows.getD j []=aK (rN rows j)
 nd:(rN rows j).Nodup
 lt:∀g∈rN rows j,g<cs.length/\(j:Int)∈covA cs g
def iR {cs:ac}{rows:List ax}(h:aS cs 0 rows=none){j:Nat}(hj:j<rows.length):Rn cs rows j:=by
 have q:=sS h j hj;rw[Nat.zero_add] at q;obtain⟨h1,h2⟩:=uS q .nil;obtain⟨e,l⟩:=uK λx hx=>(h1 x hx).1;refine⟨e,h2,λg hg=>⟨l g hg,?_⟩⟩;obtain⟨x,hx,rfl⟩:=fh hg;exact (h1 x hx).2
noncomputable def bu (cs:ac)(r:Nat->ak)(g:Nat):al:=(covA cs g).filter λpl=>decide (g∉r pl.toNat)
noncomputable def cz (cs:ac)(r:Nat->ak)(g:Nat):Option Int:=if (bu cs r g).length<(covA cs g).length then (bu cs r g).head? else none
noncomputable def Lk (cs:ac)(r:Nat->ak):Option (Int×Nat)->Prop
 | none=>∀g,g<cs.length->cz cs r g=none
 | some (pl,g)=>g<cs.length/\cz cs r g=some pl/\∀g',g'<g->cz cs r g'=none
def Lk.uniq {cs:ac}{r:Nat->ak}{a b:Option (Int×Nat)}(h:Lk cs r a)(k:Lk cs r b):a=b:=by
 match a,b,h,k with
 | none,none,_,_=>rfl
 | none,some (pl,g),h,k=>have:=h g k.1; rw[k.2.1] at this; cases this
 | some (pl,g),none,h,k=>have:=k g h.1; rw[h.2.1] at this; cases this
 | some (pl,g),some (pl',g'),h,k=>
  rcases Nat.lt_trichotomy g g' with l | l | l
  .have:=k.2.2 g l; rw[h.2.1] at this; cases this
  .subst l;have:=h.2.1.symm.trans k.2.1;cases this;rfl
  .have:=h.2.2 g' l; rw[k.2.1] at this; cases this
def FV (cs:ac)(rows:List ax)(d:D):Prop:=(∃j x,aS cs 0 rows=some (j,x)/\d=.tup [.int (j:Nat),x])\/(aS cs 0 rows=none/\∃o,Lk cs (rN rows) o/\d=match o with | none=>.non | some (pl,g)=>.tup [.int pl,.int (g:Nat)])
def nk {rows:List ax}{j:Nat}(h:j<rows.length):ixOp (wD rows) (.int (j:Nat))=some (0,.tup (rows.getD j [])):=by
 have h':j<(rows.map D.tup).length:=by simpa using h
 simp[wD,ixOp,sF h,h]
def AL {xs:ax}{i:Nat}(h:i<xs.length):ixOp (.tup xs) (.int i)=some (0,xs[i]):=by
 simp[ixOp,sF h,h]
section
variable {G:Pg}(P:Pm G)
include P
def mT (n k:Nat)(d:D):run G (n+1) 73 [(k,d)]=.ret 99 (.bl (isI d)) []:=by
 rw[run,P.f73];cases d <;> simp[iP,isI]
end
def Cy (c:al):D.pures (c.map .int)=true:=by simp[D.pures]
section
variable {G:Pg}(P:Pm G)
include P
def yS (n k k1:Nat)(p:Nat)(cs:ac)(hm:cs.length<=6)(ok:∀c∈cs,OkC p c)(rows:List ax)(hl:rows.length=p)(hp:p<=6)(hr:∀r∈rows,r.length<=12) :
  ∃j d,run G (n+2) 107 [(k,wD rows),(k1,aP cs)]=.ret j d []/\FV cs rows d:=by
 have h12:12<=SL:=by decide
 have lK:onS (λxs=>some (99,D.int xs.length)) (aP cs)=some (99,.int cs.length):=by simp[aP]
 have lR:onS (λxs=>some (99,D.int xs.length)) (wD rows)=some (99,.int rows.length):=by simp[wD]
 have hR:rows.length<=SL:=by omega
 have hM:cs.length<=SL:=by omega
 have key:Ou G (run G (n+1)) [] [some (0,wD rows),some (0,aP cs),none,none,none,none,none] oH.body (λ_=>False) (FV cs rows) λ_ _ _=>False:=by
  show Ou G (run G (n+1)) [] _ (.fo (.one 2) .rng1 _ [.fo (.one 3) .rng1 _ _]::.fo (.one 5) .rng1 _ _::.ret _::[]) _ _ _;refine Ou.fo (λq a=>∃x2 x3 x4 j,a=[some (0,wD rows),some (0,aP cs),x2,x3,x4,none,none]/\q=((List.range rows.length).map λ(n:Nat)=>D.int n).drop j/\aS cs j (rows.drop j)=aS cs 0 rows) (vs:=[(99,.int rows.length)]) (xs:=(List.range rows.length).map λ(n:Nat)=>D.int n) (by simp[-onS,lR]) (wk_rng1 hR) (by simpa using hR) ⟨none,none,none,0,by simp,rfl,rfl⟩ ?_ ?_
  .rintro x q a ⟨x2,x3,x4,j,rfl,hq,hf⟩;obtain⟨hjl,rfl,hq'⟩:=dl hq;refine⟨_,gw rfl,?_⟩;have hrow:=nk hjl;rw[FZ hjl,aS] at hf;have e0:rows.getD j []=rows[j]:=by simp[hjl]
   rw[e0] at hrow;have rl:=hr _ (Gj hjl);generalize rows[j]=row at hrow hf rl e0;have lr:onS (λxs=>some (99,D.int xs.length)) (.tup row)=some (99,.int row.length):=by simp
   have hS:row.length<=SL:=by omega
   generalize hW:wD rows=WW at hrow;refine Ou.low (a':=[some (0,WW),some (0,aP cs),some (0,.int (j:Nat)),x3,x4,none,none]) (.of_eq (by simp)) ?_;refine Ou.fo (λq a=>∃x3 x4 i,a=[some (0,WW),some (0,aP cs),some (0,.int (j:Nat)),x3,x4,none,none]/\q=((List.range row.length).map λ(n:Nat)=>D.int n).drop i/\(∀x∈row.take i,isB cs.length x=true)/\br cs j ((row.take i).map dC) (row.drop i)=br cs j [] row) (vs:=[(99,.int row.length)]) (xs:=(List.range row.length).map λ(n:Nat)=>D.int n) (by simp[-onS,-ixOp,hrow,lr]) (wk_rng1 hS) (by simpa using hS) ⟨x3,x4,0,by simp,rfl,by simp,rfl⟩ ?_ ?_
   .rintro x q2 a ⟨x3,x4,i,rfl,hq2,hb,hf2⟩;obtain⟨hil,rfl,hq3⟩:=dl hq2;refine⟨_,gw rfl,?_⟩;have hx:=AL hil;have tk:row.take (i+1)=row.take i++[row[i]]:=by rw[List.take_succ]; simp[hil]
    have cut:aZ none (some (i:Int)) (.tup row)=some (0,.tup (row.take i)):=by simp only[aZ,kN]
    rw[FZ hil,br] at hf2;generalize row[i]=x at hx tk hf2;have w:=mT P n 0 x;have sc:D.pures (row.take i)=true:=List.all_eq_true.mpr λy hy=>by
     obtain⟨w,rfl,_⟩:=kZ (hb y hy);rfl
    have fin:∀{N:Fr->Prop},br cs j [] row=some x->∀ss,Ou G (run G (n+1)) [] [some (0,WW),some (0,aP cs),some (0,.int (j:Nat)),some (0,.int (i:Nat)),some (0,x),none,none] (.ret (.op .tup [(.var 2),(.var 4)])::ss) N (FV cs rows) λ_ _ _=>False:=λh ss=>by
     rw[h] at hf;exact Ou.retE (d:=.tup [.int (j:Nat),x]) ⟨_,by simp; rfl⟩ (.inl ⟨j,x,hf.symm,rfl⟩) (λs xs e=>by cases e)
    refine Ou.set (x:=(0,x)) (by simp[-ixOp,hrow,hx]) ?_;refine Ou.low (a':=[some (0,WW),some (0,aP cs),some (0,.int (j:Nat)),some (0,.int (i:Nat)),some (0,x),none,none]) (.of_eq (by simp)) ?_;by_cases hb1:isB cs.length x=true
    .obtain⟨g,rfl,hgl⟩:=kZ hb1;have hg:g<cs.length:=by omega
     have t:dC (.int (g:Int))=g:=by simp[dC]
     have w':run G (n+1) 73 [(0,.int (g:Int))]=.ret 99 (.bl true) []:=w;have mb:=pS g hb;have mc:=nF (j:Int) (covA cs g);have ic:=pX hg;have pc:=Cy (covA cs g);rw[t] at hf2;refine Ou.iffN (j:=99) ?_ ?_
     .generalize aP cs=K at lK ⊢;simp[-onS,lK,P.f73,iP,w',hgl]
     by_cases hc:(j:Int)∈covA cs g
     .rw[FB hc] at mc;by_cases hw:g∈(row.take i).map dC
      .rw[FB hw] at mb;refine Ou.iffT (j:=99) ?_ (fin (by rw[<-hf2,if_neg λz=>z.2.2 hw]) []);generalize aP cs=K at ic ⊢;generalize row.take i=TK at cut mb sc;simp[-ixOp,-aZ,-List.all_eq_true,ic,mc,pc,hrow,cut,sc,mb]
      .rw[FO hw] at mb;rw[if_pos ⟨hb1,hc,hw⟩] at hf2;refine Ou.iffN (j:=99) ?_ (Ou.nil ⟨_,_,i+1,rfl,hq3,λy hy=>?_,?_⟩)
       .generalize aP cs=K at ic ⊢;generalize row.take i=TK at cut mb sc;simp[-ixOp,-aZ,-List.all_eq_true,ic,mc,pc,hrow,cut,sc,mb]
       .rw[tk] at hy;rcases cX hy with h | h
        .exact hb y h
        .rw[Fc.mp h]; exact hb1
       .rw[tk,HK]; simpa[t] using hf2
     .rw[FO hc] at mc;refine Ou.iffT (j:=99) ?_ (fin (by rw[<-hf2,if_neg λz=>hc z.2.1]) []);generalize aP cs=K at ic ⊢;simp[-ixOp,-List.all_eq_true,ic,mc,pc]
    .refine Ou.iffT (j:=99) ?_ (fin (by rw[<-hf2,if_neg λz=>hb1 z.1]) []);generalize aP cs=K at lK ⊢;cases x with
     | int u=>
      have w':run G (n+1) 73 [(0,.int u)]=.ret 99 (.bl true) []:=w;by_cases h1:0<=u
      .have h2:¬u<cs.length:=λh2=>hb1 (by simp[isB,h1,h2]);simp[-onS,lK,P.f73,iP,w',h1,h2]
      .simp[-onS,lK,P.f73,iP,w',h1]
     | _=>
      simp only[isI] at w;simp[P.f73,iP,w]
   .rintro a ⟨x3,x4,i,rfl,hq2,hb,hf2⟩;rw[GV (qC hq2),br] at hf2;rw[<-hf2] at hf;subst hW;exact Ou.nil ⟨_,_,_,j+1,rfl,hq',hf⟩
  .rintro a ⟨x2,x3,x4,j,rfl,hq,hf⟩;rw[GV (qC hq),aS] at hf;have hF:=hf.symm;refine Ou.fo (λq a=>∃x5 x6 g,a=[some (0,wD rows),some (0,aP cs),x2,x3,x4,x5,x6]/\q=((List.range cs.length).map λ(n:Nat)=>D.int n).drop g/\∀g',g'<g->cz cs (rN rows) g'=none) (vs:=[(99,.int cs.length)]) (xs:=(List.range cs.length).map λ(n:Nat)=>D.int n) (by simp[-onS,lK]) (wk_rng1 hM) (by simpa using hM) ⟨none,none,0,by simp,rfl,λg' h=>by omega⟩ ?_ ?_
   .rintro x q a ⟨x5,x6,g,rfl,hq,hn⟩;obtain⟨hg,rfl,hq'⟩:=dl hq;refine⟨_,gw rfl,?_⟩;refine Ou.low (a':=[some (0,wD rows),some (0,aP cs),x2,x3,x4,some (0,.int (g:Nat)),x6]) (.of_eq (by simp)) ?_;have o:=ok _ (Gj hg);have ec:covA cs g=cs[g]:=by simp[covA,hg]
    rw[<-ec] at o;have ic:=pX hg;have cc:be (compF G (run G (n+1)) [none,none,some (.int (g:Nat)),some (wD rows)] (.one 1) [(.op .nin [(.var 2),(.op .ix [(.var 3),(.var 1)])])] (.var 1)) ((covA cs g).map .int)=.ok ((bu cs (rN rows) g).map λpl=>(0,.int pl)):=
     n0 (p:=λpl:Int=>decide (g∉rN rows pl.toNat)) λpl hpl=>by
      have hb:=o.rg pl hpl;obtain⟨u,rfl⟩:∃u:Nat,pl=(u:Int):=⟨pl.toNat,by omega⟩
      have hu:u<rows.length:=by omega
      have hx:=nk hu;rw[(iR hF hu).e] at hx;have mb:=lw g (rN rows u);have pu:D.pures (aK (rN rows u))=true:=lj _;generalize wD rows=WW at hx ⊢;rw[Int.toNat_natCast];by_cases z:g∈rN rows u
      .rw[FB z] at mb;simp[-ixOp,-List.all_eq_true,compF,hx,mb,pu,z]
      .rw[FO z] at mb;simp[-ixOp,-List.all_eq_true,compF,hx,mb,pu,z]
    have hcl:((covA cs g).map D.int).length<=SL:=by
     rw[Fg];exact b8 o.ln (by decide)
    refine Ou.setE (d:=.lst ((bu cs (rN rows) g).map .int)) ?_ ?_
    .generalize aP cs=K at ic ⊢;generalize (covA cs g).map D.int=C at ic cc hcl;generalize wD rows=WW at cc ⊢;exact⟨_,by simp[-ixOp,ic,hcl,cc,Function.comp_def]; rfl⟩
    refine Ou.low (a':=[some (0,wD rows),some (0,aP cs),x2,x3,x4,some (0,.int (g:Nat)),some (0,.lst ((bu cs (rN rows) g).map .int))]) (.of_eq (by simp)) ?_;have l6:onS (λxs=>some (99,D.int xs.length)) (.lst ((bu cs (rN rows) g).map .int))=some (99,.int ((bu cs (rN rows) g).length:Nat)):=by simp
    have l7:onS (λxs=>some (99,D.int xs.length)) (.lst ((covA cs g).map .int))=some (99,.int ((covA cs g).length:Nat)):=by simp
    by_cases hc:0<(bu cs (rN rows) g).length/\(bu cs (rN rows) g).length<(covA cs g).length
    .obtain⟨pl,t,eL⟩:∃pl t,bu cs (rN rows) g=pl::t:=by
      cases h:bu cs (rN rows) g with
      | nil=>rw[h] at hc; simp at hc
      | cons pl t=>exact⟨pl,t,rfl⟩
     have c1:(0:Int)<((bu cs (rN rows) g).length:Nat):=by omega
     have c2:(((bu cs (rN rows) g).length:Nat):Int)<((covA cs g).length:Nat):=by omega
     refine Ou.iffT (j:=99) ?_ (Ou.retE (d:=.tup [.int pl,.int (g:Nat)]) ?_ (.inr ⟨hF,some (pl,g),⟨hg,by unfold cz; rw[if_pos hc.2,eL]; rfl,hn⟩,rfl⟩) λs xs e=>by cases e)
     .generalize aP cs=K at ic ⊢;generalize D.lst ((covA cs g).map .int)=C at ic l7;generalize D.lst ((bu cs (rN rows) g).map .int)=LL at l6 ⊢;simp[-ixOp,-onS,-Int.natCast_pos,-Int.ofNat_lt,ic,l6,l7,c1,c2]
     .rw[eL];exact⟨_,by simp[ef]; rfl⟩
    .refine Ou.iffN (j:=99) ?_ (Ou.nil ⟨_,_,g+1,rfl,hq',λg' h=>?_⟩)
     .generalize aP cs=K at ic ⊢;generalize D.lst ((covA cs g).map .int)=C at ic l7;generalize D.lst ((bu cs (rN rows) g).map .int)=LL at l6 ⊢;by_cases c1:(0:Int)<((bu cs (rN rows) g).length:Nat)
      .have c2:¬(((bu cs (rN rows) g).length:Nat):Int)<((covA cs g).length:Nat):=by omega
       simp[-ixOp,-onS,-Int.natCast_pos,-Int.ofNat_lt,ic,l6,l7,c1,c2]
      .simp[-ixOp,-onS,-Int.natCast_pos,-Int.ofNat_lt,ic,l6,l7,c1]
     .rcases Nat.lt_succ_iff_lt_or_eq.mp h with h | rfl
      .exact hn g' h
      .unfold cz;split
       .rename_i h2;have:(bu cs (rN rows) g').length=0:=by omega
        rw[List.length_eq_zero_iff.mp this]; rfl
       .rfl
   .rintro a ⟨x5,x6,g,rfl,hq,hn⟩;exact Ou.ret (x:=(99,.non)) (by simp) (.inr ⟨hF,none,λg' h=>hn g' (dX h (qC hq)),rfl⟩)
 obtain⟨j,d,e,h⟩:=Ou.run (n:=n+1) (vs:=[(k,wD rows),(k1,aP cs)]) (V:=FV cs rows) P.f107 rfl rfl (key.mono (λ_ h=>h.elim) (λ_ h=>h) λ_ _ _ h=>h);exact⟨j,d,e,h⟩
end
def rA {cs:ac}{p:Nat}(ok:∀c∈cs,OkC p c)(g:Nat):∀i∈covA cs g,0<=i/\i<p:=λi hi=>by
 unfold covA at hi;rw[Gb] at hi;cases e:cs[g]? with
 | none=>rw[e] at hi; cases hi
 | some c=>rw[e] at hi; exact (ok c (FN e)).rg i hi
def ug {cs:ac}{rows:List ax}(h:aS cs 0 rows=none):wD rows=wrD (aL rows.length (rN rows)):=by
 unfold wD wrD aL;congr 1
 rw[He];refine List.ext_getElem (by simp) λi h1 h2=>?_;have hi:i<rows.length:=by simpa using h1
 have:=(iR h hi).e;simp[hi] at this;simp[bG,this]
section
variable {cs:ac}{p:Nat}{rows:List ax}(ok:∀c∈cs,OkC p c)(hl:rows.length=p)(hF:aS cs 0 rows=none)
include ok hl hF
theorem vO (g:Nat):g∈(aL p (rN rows)).flatten↔∃pl∈covA cs g,g∈rN rows pl.toNat:=by
 rw[jM];constructor
 .rintro⟨j,hj,h⟩;exact⟨(j:Int),((iR hF (hl ▸ hj)).lt g h).2,by rw[Int.toNat_natCast]; exact h⟩
 .rintro⟨pl,h1,h2⟩;have:=rA ok g pl h1;exact⟨pl.toNat,by omega,h2⟩
theorem vG {g:Nat}(h:g∉(aL p (rN rows)).flatten):cz cs (rN rows) g=none:=by
 have e:bu cs (rN rows) g=covA cs g:=HP.mpr λpl hpl=>FB λz=>h ((vO ok hl hF g).mpr ⟨pl,hpl,z⟩);unfold cz;rw[e,if_neg (F6 _)]
theorem sr {g:Nat}(h:g∈(aL p (rN rows)).flatten):cz cs (rN rows) g=(bu cs (rN rows) g).head?:=by
 obtain⟨pl,h1,h2⟩:=(vO ok hl hF g).mp h;unfold cz;rw[if_pos];exact List.length_filter_lt_length_iff_exists.mpr ⟨pl,h1,by simpa using h2⟩
theorem lC {g:Nat}(h:g∈(aL p (rN rows)).flatten):g<cs.length:=by
 obtain⟨j,hj,h⟩:=jM.mp h;exact ((iR hF (hl ▸ hj)).lt g h).1
theorem xj (hm:cs.length<=6)(hk:Lk cs (rN rows) none):Sr cs (rN rows) (bB (aL p (rN rows)).flatten):=by
 have ms:∀g,g∈bB (aL p (rN rows)).flatten↔g∈(aL p (rN rows)).flatten:=λg=>by
  by_cases h:g<6
  .exact rO h
  .constructor
   .intro z;have:=FE.mp (Fs.mp z).1;omega
   .intro z;have:=lC ok hl hF z;omega
 refine⟨qW _,λg h=>lC ok hl hF ((ms g).mp h),λj=>?_,λj x=>?_⟩
 .by_cases hj:j<rows.length
  .exact (iR hF hj).nd
  .have:rows.getD j []=[]:=by simp[Gb,Hb hj]
   unfold rN;rw[this];exact .nil
 .rw[ms];constructor
  .intro h;have hj:j<rows.length:=by
    by_cases hj:j<rows.length
    .exact hj
    .have:rows.getD j []=[]:=by simp[Gb,Hb hj]
     unfold rN at h;rw[this] at h;cases h
   exact⟨jM.mpr ⟨j,hl ▸ hj,h⟩,((iR hF hj).lt x h).2⟩
  .rintro⟨h1,h2⟩;have:=hk x (lC ok hl hF h1);rw[sr ok hl hF h1] at this;have e:=List.head?_eq_none_iff.mp this;have:=GW.mp e (j:Int) h2;simpa using this
end
section
variable {G:Pg}(P:Pm G)
include P
def E6 (n k k1:Nat)(p:Nat)(cs:ac)(hm:cs.length<=6)(ok:∀c∈cs,OkC p c)(rows:List ax)(hl:rows.length=p)(hp:p<=6)(hr:∀r∈rows,r.length<=12)(hF:aS cs 0 rows=none) :
  (Lk cs (rN rows) none/\run G (n+6) 36 [(k,wd p cs),(k1,wD rows)]=.ret 99 .non [])\/∃pl g,Lk cs (rN rows) (some (pl,g))/\run G (n+6) 36 [(k,wd p cs),(k1,wD rows)]=.exc 6 [(4,.int pl),(2,.int (g:Nat))] []:=by
 have h12:12<=SL:=by decide
 have q6:∀g∈(aL p (rN rows)).flatten,g<6:=λg h=>dX (lC ok hl hF h) hm;have ql:(aL p (rN rows)).flatten.length<=1000:=by
  have:=rf (r:=rN rows) (λj=>by
   by_cases hj:j<rows.length
   .have R:=iR hF hj;exact b8 (gG R.nd λg h=>(R.lt g h).1) hm
   .have:rows.getD j []=[]:=by simp[Gb,Hb hj]
    unfold rN;rw[this];simp) p hp
  omega
 obtain⟨jw,qw,_⟩:=rT P (n+4) 0 (aL p (rN rows)) (by rw[rL]; exact hp) ql q6;have we:=ug hF;rw[hl] at we;rw[<-we] at qw;have ms:∀g,g∈bB (aL p (rN rows)).flatten↔g∈(aL p (rN rows)).flatten:=λg=>by
  by_cases h:g<6
  .exact rO h
  .exact⟨λz=>absurd (FE.mp (Fs.mp z).1) h,λz=>absurd (q6 g z) h⟩
 have sp:=qW (aL p (rN rows)).flatten;have sl:(bB (aL p (rN rows)).flatten).length<=6:=by
  have:=Gx (λg=>decide (g∈(aL p (rN rows)).flatten)) (List.range 6);simpa[bB] using this
 have key:Ou G (run G (n+5)) [] [some (0,wd p cs),some (0,wD rows),none,none] k8.body (λ_=>Lk cs (rN rows) none) (λ_=>False) λc fs _=>∃pl g,Lk cs (rN rows) (some (pl,g))/\c=6/\fs=[(4,.int pl),(2,.int (g:Nat))]:=by
  refine Ou.fo (λq a=>∃x2 x3 pre suf,a=[some (0,wd p cs),some (0,wD rows),x2,x3]/\q=aK suf/\bB (aL p (rN rows)).flatten=pre++suf/\∀g∈pre,cz cs (rN rows) g=none) (vs:=[(jw,.lst (aK (bB (aL p (rN rows)).flatten)))]) (xs:=aK (bB (aL p (rN rows)).flatten)) (by simp[P.v.f24,jK,qw]) (by simp) (by rw[fg]; omega) ⟨none,none,[],_,by simp,rfl,rfl,by simp⟩ ?_ ?_
  .rintro x q a ⟨x2,x3,pre,suf,rfl,hq,he,hn⟩;cases suf with
   | nil=>cases hq
   | cons g suf=>
    obtain⟨rfl,rfl⟩:=GY hq;have hgQ:g∈(aL p (rN rows)).flatten:=(ms g).mp (by rw[he]; simp);have hg:=lC ok hl hF hgQ;have o:=ok _ (Gj hg);have ec:covA cs g=cs[g]:=by simp[covA,hg]
    rw[<-ec] at o;have qc:=nW P.v.a n 0 0 p cs g (covA cs g) (by simp[covA,hg]);have ly:=sr ok hl hF hgQ;refine⟨_,gw rfl,?_⟩;refine Ou.low (a':=[some (0,wd p cs),some (0,wD rows),some (0,.int (g:Nat)),x3]) (.of_eq (by simp)) ?_;refine Ou.fo (λq a=>∃x3 pre2 suf2,a=[some (0,wd p cs),some (0,wD rows),some (0,.int (g:Nat)),x3]/\q=suf2.map .int/\covA cs g=pre2++suf2/\∀pl∈pre2,g∈rN rows pl.toNat) (vs:=[(1,.lst ((covA cs g).map .int))]) (xs:=(covA cs g).map .int) ?_ (by simp) (by rw[Fg]; have:=o.ln; omega) ⟨x3,[],_,by simp,rfl,rfl,by simp⟩ ?_ ?_
    .generalize D.lst ((covA cs g).map .int)=C at qc ⊢;simp[ny P.v.a,ig,qc]
    .rintro x q2 a ⟨x3,pre2,suf2,rfl,hq2,he2,hn2⟩;cases suf2 with
     | nil=>cases hq2
     | cons pl suf2=>
      obtain⟨rfl,rfl⟩:=GY hq2;have hb:=o.rg pl (by rw[he2]; simp);obtain⟨u,rfl⟩:∃u:Nat,pl=(u:Int):=⟨pl.toNat,by omega⟩
      have hu:u<rows.length:=by omega
      have hx:=nk hu;rw[(iR hF hu).e] at hx;have mb:=lw g (rN rows u);have pu:D.pures (aK (rN rows u))=true:=lj _;refine⟨_,gw rfl,?_⟩;refine Ou.low (a':=[some (0,wd p cs),some (0,wD rows),some (0,.int (g:Nat)),some (0,.int (u:Nat))]) (.of_eq (by simp)) ?_;by_cases z:g∈rN rows u
      .rw[FB z] at mb;refine Ou.iffN (j:=99) ?_ (Ou.nil ⟨_,pre2++[(u:Int)],suf2,rfl,rfl,by simp[he2],λpl h=>?_⟩)
       .generalize wD rows=WW at hx ⊢;simp[-ixOp,-List.all_eq_true,hx,mb,pu]
       .rcases cX h with h | h
        .exact hn2 pl h
        .rw[Fc.mp h,Int.toNat_natCast]; exact z
      .rw[FO z] at mb;have q3:=vQ P (n+2) 0 0 (u:Nat) (.int (g:Nat)) (.int _);refine Ou.iffT (j:=99) ?_ (Ou.rais (c':=6) (j:=0) (fs:=[(4,.int (u:Nat)),(2,.int (g:Nat))]) (by simp[vi P,gY,q3]) ⟨(u:Int),g,⟨hg,?_,λg' hg'=>?_⟩,rfl,rfl⟩)
       .generalize wD rows=WW at hx ⊢;simp[-ixOp,-List.all_eq_true,hx,mb,pu]
       .rw[ly];unfold bu;rw[he2,List.filter_append,GW.mpr (λpl h=>by simpa using hn2 pl h),List.nil_append,List.filter_cons_of_pos (by rw[Int.toNat_natCast]; exact FB z)];rfl
       .by_cases w:g'∈(aL p (rN rows)).flatten
        .refine hn g' ?_;have h1:g'∈pre++g::suf:=by rw[<-he]; exact (ms g').mpr w
         rw[he] at sp;rcases cX h1 with h | h
         .exact h
         .rcases cu h with h | h
          .omega
          .have:=(Ia.mp (List.pairwise_append.mp sp).2.1).1 g' h;omega
        .exact vG ok hl hF w
    .rintro a ⟨x3,pre2,suf2,rfl,hq2,he2,hn2⟩;cases suf2 with
     | cons _ _=>cases hq2
     | nil=>
      rw[F7] at he2;refine Ou.nil ⟨_,_,pre++[g],suf,rfl,rfl,by simp[he],λg' h=>?_⟩;rcases cX h with h | h
      .exact hn g' h
      .rw[Fc.mp h,ly];unfold bu;rw[GW.mpr (λpl h=>by simpa using hn2 pl (he2 ▸ h))];rfl
  .rintro a ⟨x2,x3,pre,suf,rfl,hq,he,hn⟩;cases suf with
   | cons _ _=>cases hq
   | nil=>
    rw[F7] at he;refine Ou.nil λg hg=>?_;by_cases w:g∈(aL p (rN rows)).flatten
    .exact hn g (he ▸ (ms g).mpr w)
    .exact vG ok hl hF w
 rcases Ou.runM (n:=n+5) (vs:=[(k,wd p cs),(k1,wD rows)]) P.f36 rfl rfl key with ⟨e,h⟩ | ⟨c,fs,e,pl,g,h,rfl,rfl⟩
 .exact .inl ⟨h,e⟩
 .exact .inr ⟨pl,g,h,e⟩
end
theorem t9:∀{l:ak} {a b:Nat},[a,b].Sublist l->l.Nodup->l.idxOf a<l.idxOf b
 | x::l,a,b,h,hn=>by
  obtain⟨n1,n2⟩:=Ft.mp hn;cases h with
  | cons _ h=>
   have ha:a∈l:=h.subset (by simp);have hb:b∈l:=h.subset (by simp);have xa:a≠x:=λe=>n1 (e ▸ ha);have xb:b≠x:=λe=>n1 (e ▸ hb);rw[rE xa,rE xb];have:=t9 h n2;omega
  | cons_cons _ h=>
   have hb:b∈l:=h.subset (by simp);have xb:b≠x:=λe=>n1 (e ▸ hb);rw[rE xb];simp
theorem tN {cs:ac}{j:Nat}{x:D}:∀{xs:ax} {pre:ak},br cs j pre xs=some x->(∀y∈xs,Th y)->Th x
 | [],_,h,_=>nomatch h
 | y::xs,pre,h,ho=>by
  rw[br] at h;by_cases c:isB cs.length y=true/\(j:Int)∈covA cs (dC y)/\dC y∉pre
  .rw[if_pos c] at h;exact tN h λz hz=>ho z (bU _ hz)
  .rw[if_neg c] at h; cases h; exact ho _ bW
theorem vV {cs:ac}{j:Nat}{x:D}:∀{rs:List ax} {k:Nat},aS cs k rs=some (j,x)->(∀r∈rs,∀y∈r,Th y)->Th x
 | [],_,h,_=>nomatch h
 | r::rs,k,h,ho=>by
  rw[aS] at h;cases q:br cs k [] r with
  | some y=>rw[q] at h; cases h; exact tN q (ho r bW)
  | none=>rw[q] at h; exact vV h λr hr=>ho r (bU _ hr)
def DP {cs:ac}{p:Nat}{O:ak}{f:Nat->Nat×Nat}{R:aj}(hO:O.Nodup)(ro:Rgo p (λj=>cR cs j O) f R):False:=by
 have step:∀s∈R,∃s'∈R,O.idxOf s'.1<O.idxOf s.1:=λs hs=>by
  obtain⟨_,A,B,e⟩:=ro.up s hs;have hm:f s.1∈R:=by
   have:f s.1∈R.map λs=>f s.1:=List.mem_map.mpr ⟨s,hs,rfl⟩;rw[ro.rot] at this;rcases cu this with h | h
   .rw[h]; exact List.getLast_mem ro.ne
   .exact (List.dropLast_sublist R).subset h
  refine⟨f s.1,hm,t9 ?_ hO⟩;have h1:[(f s.1).1,s.1].Sublist (A++(f s.1).1::s.1::B):=List.sublist_append_of_sublist_right (by simp);rw[<-e] at h1;exact h1.trans List.filter_sublist
 have no:∀n,∀s∈R,O.idxOf s.1=n->False:=λn=>by
  induction n using Nat.strongRecOn with
  | ind n ih=>
   intro s hs e;obtain⟨s',h1,h2⟩:=step s hs;exact ih _ (e ▸ h2) s' h1 rfl
 obtain⟨s,hs⟩:=List.exists_mem_of_ne_nil _ ro.ne;exact no _ s hs rfl
def Bb:(D.str "order").pur 60=true/\(D.str "ring").pur 60=true:=by decide +kernel
def Dr:¬(("ring" : Str) = "order")/\¬(("order" : Str) = "ring"):=by decide +kernel
def Th.pur60 {d:D}(h:Th d):d.pur 59=true:=by cases h <;> first | rfl | decide +kernel
noncomputable def dM (pl:Int)(x:D):D:=.exc 6 [(4,.int pl),(2,x)]
section
variable {G:Pg}(P:Pm G)
include P
def yD (n k k':Nat)(pl:Int)(x:D)(th:Th x):run G (n+2) 76 [(k,dM pl x),(k',.tup [.int pl,x])]=.ret 99 (.bl true) []:=by
 have e:x.eq x=true:=th.eq;have p:x.pur 59=true:=th.pur60;have w:=mT P n 0 (.int pl);have l2:List.lookup 2 [(4,D.int pl),(2,x)]=some x:=rfl;rw[run,P.f76];simp[l2,on,dM,P.c6,gP,ef,D.eq,D.eqs,e,p,P.f73,iP,w,isI]
variable (p:Nat)(cs:ac)(hp:p<=6)(hm:cs.length<=6)(ok:∀c∈cs,OkC p c)
include hp hm ok
theorem EH (n k k1:Nat)(rows:List ax)(hl:rows.length=p)(hr:∀r∈rows,r.length<=12/\∀x∈r,Th x)(d:D)(hd:FV cs rows d):∃j t,run G (n+10) 114 [(k,wd p cs),(k1,wD rows)]=.ret j t [] /\
  ((d=.non/\∃dd,t=.tup [dd,.non]/\Good p cs (rN rows) (bB (aL p (rN rows)).flatten) dd)\/∃pl x,Th x/\d=.tup [.int pl,x]/\t=.tup [.non,dM pl x]):=by
 have exc:∀pl x,run G (n+9) 39 [(0,wd p cs),(0,wD rows)]=.exc 6 [(4,.int pl),(2,x)] []->∃j,run G (n+10) 114 [(k,wd p cs),(k1,wD rows)]=.ret j (.tup [.non,dM pl x]) []:=λpl x q=>by
  have key:Ou G (run G (n+9)) [] [some (0,wd p cs),some (0,wD rows),none,none,none] jl.body (λ_=>False) (λd=>d=.tup [.non,dM pl x]) λ_ _ _=>False:=by
   refine Ou.set (x:=(99,.non)) (by simp) ?_;refine Ou.set (x:=(99,.non)) (by simp) ?_;refine Ou.tryE (Ou.setX (c:=6) (fs:=[(4,.int pl),(2,x)]) (by simp[P.f39,g8,q]) ?_);refine⟨by simp[P.c6],rfl,by simp[de],rfl,by decide,by simp[de],?_⟩;exact Ou.retE (d:=.tup [.non,dM pl x]) ⟨_,by simp[de,dM]; rfl⟩ rfl (λs xs e=>by cases e)
  obtain⟨j,d,e,rfl⟩:=Ou.run (n:=n+9) (vs:=[(k,wd p cs),(k1,wD rows)]) (V:=λd=>d=.tup [.non,dM pl x]) P.f114 rfl rfl (key.mono (λ_ h=>h.elim) (λ_ h=>h) λ_ _ _ h=>h);exact⟨j,e⟩
 rcases EQ P (n+1) 0 0 p cs rows (by omega) hr with ⟨hF,q1⟩ | ⟨j,x,hF,q1⟩
 .rcases hd with ⟨j,x,h,_⟩ | ⟨_,o,hk,rfl⟩
  .rw[hF] at h; cases h
  .rcases E6 P (n+2) 0 0 p cs hm ok rows hl hp (λr h=>(hr r h).1) hF with ⟨hL,q2⟩ | ⟨pl,g,hL,q2⟩
   .cases hk.uniq hL;have s:=xj ok hl hF hm hL;obtain⟨j,dd,q,hg,hq⟩:=vd P n 0 0 p cs (rN rows) hp hm ok (λg i hi=>(rA ok g i hi).1) s;have we:=ug hF;rw[hl] at we;rw[<-we] at q;have key:Ou G (run G (n+9)) [] [some (0,wd p cs),some (0,wD rows),none,none,none] jl.body (λ_=>False) (λd=>d=.tup [dd,.non]) λ_ _ _=>False:=by
     refine Ou.set (x:=(99,.non)) (by simp) ?_;refine Ou.set (x:=(99,.non)) (by simp) ?_;refine Ou.tryE (Ou.set (x:=(j,dd)) (by simp[P.f39,g8,q]) (Ou.nil ?_));exact Ou.retE (d:=.tup [dd,.non]) ⟨_,by simp[frz,frz1]; rfl⟩ rfl (λs xs e=>by cases e)
    obtain⟨j',d,e,rfl⟩:=Ou.run (n:=n+9) (vs:=[(k,wd p cs),(k1,wD rows)]) (V:=λd=>d=.tup [dd,.non]) P.f114 rfl rfl (key.mono (λ_ h=>h.elim) (λ_ h=>h) λ_ _ _ h=>h);exact⟨j',_,e,.inl ⟨rfl,dd,rfl,hg⟩⟩
   .cases hk.uniq hL;obtain⟨j,e⟩:=exc pl (.int (g:Nat)) (by rw[run,P.f39]; simp[g8,P.f35,jR,q1,P.f36,k8,q2]);exact⟨j,_,e,.inr ⟨pl,_,.int _,rfl,rfl⟩⟩
 .rcases hd with ⟨j',x',h,rfl⟩ | ⟨h,_⟩
  .rw[hF] at h;cases h;obtain⟨i,e⟩:=exc (j:Nat) x (by rw[run,P.f39]; simp[g8,P.f35,jR,q1]);exact⟨i,_,e,.inr ⟨_,x,vV hF λr h=>(hr r h).2,rfl,rfl⟩⟩
  .rw[hF] at h; cases h
end
noncomputable def CH (m:Nat):ax:=[.int m,.int (-1),.bl true,.non,.str "0",.tup [.int 0],.lst [.int 0]]
theorem BD (m:Nat):∀{v:Nat},v<7->∃d,ixOp (.lst (CH m)) (.int (v:Nat))=some (0,d)/\Th d
 | 0,_=>⟨_,rfl,.int _⟩
 | 1,_=>⟨_,rfl,.int _⟩
 | 2,_=>⟨_,rfl,.tr⟩
 | 3,_=>⟨_,rfl,.no⟩
 | 4,_=>⟨_,rfl,.zs⟩
 | 5,_=>⟨_,rfl,.tp⟩
 | 6,_=>⟨_,rfl,.ls⟩
def kA {v:Int}(h:0<=v):∃u:Nat,v=(u:Int):=⟨v.toNat,(Gf h).symm⟩
def Et {u l:Nat}(h:(u:Int)<(l:Int)+1):u<=l:=by omega
def wx (xs:ax)(u:Nat):aZ none (some (u:Int)) (.tup xs)=some (0,.tup (xs.take u)):=by simp only[aZ,kN]
def rG (xs:ax)(u:Nat):aZ (some (u:Int)) none (.tup xs)=some (0,.tup (xs.drop u)):=by simp only[aZ,oM]
def mR {xs ys:ax}(h:xs.length+ys.length<=100):cm (.tup xs) (.tup ys)=some (0,.tup (xs++ys)):=by
 have:xs.length+ys.length<=SL:=b8 h (by decide);simp only[cm];rw[if_pos this]
section
variable {G:Pg}(P:Pm G)
include P
def Fb (n k k1 k2:Nat)(rows:List ax)(c:Int)(m:Nat)(hm:1<=m)(hl:1<=rows.length/\rows.length<=6)(L:Nat)(hL:L<=11)(hr:∀r∈rows,r.length<=L/\∀x∈r,Th x) :
  ∃j rows',run G (n+2) 106 [(k,wD rows),(k1,.int c),(k2,.int m)]=.ret j (wD rows') []/\rows'.length=rows.length/\∀r∈rows',r.length<=L+1/\∀x∈r,Th x:=by
 have lR:onS (λxs=>some (99,D.int xs.length)) (wD rows)=some (99,.int rows.length):=by simp[wD]
 obtain⟨v3,j3,q3,h30,h31⟩:=gX P.d n 0 99 99 c 16 (rows.length:Nat) (by omega) (by decide);obtain⟨u3,rfl⟩:=kA h30;have hu:u3<rows.length:=Int.ofNat_lt.mp h31;have ixr:=nk hu;have hrow:rows.getD u3 []∈rows:=by simp[hu]
 obtain⟨rl,rt⟩:=hr _ hrow;generalize rows.getD u3 []=row at ixr rl rt;have lr:onS (λxs=>some (99,D.int xs.length)) (.tup row)=some (99,.int row.length):=by simp
 obtain⟨v5,j5,q5,h50,h51⟩:=gX P.d n 0 99 99 c 17 ((row.length:Int)+1) (by omega) (by decide);obtain⟨u5,rfl⟩:=kA h50;have hu5:=Et h51;obtain⟨v6,j6,q6,h60,h61⟩:=gX P.d n 0 99 99 c 18 7 (by decide) (by decide);obtain⟨u6,rfl⟩:=kA h60;obtain⟨d,hd,thd⟩:=BD m (v:=u6) (Int.ofNat_lt.mp h61);obtain⟨v7,j7,q7,h70,h71⟩:=gX P.d n 0 99 99 c 19 4 (by decide) (by decide);obtain⟨v8,j8,q8,h80,h81⟩:=gX P.d n 0 99 0 c 20 (m:Nat) (by omega) (by decide);have fin:∀(row':ax) (x:D) (N:Fr->Prop),(row'.length<=L+1/\∀x∈row',Th x)->Ou G (run G (n+1)) [] [some (0,wD rows),some (0,.int c),some (0,.int m),some (0,.int (u3:Nat)),some (0,.tup row'),some (0,.int (u5:Nat)),some (0,x),some (0,.int v7)] [.ret (.op .add [(.op .add [(.op .slH [(.var 0),(.var 3)]),(.op .tup [(.var 4)])]),(.op .slL [(.var 0),(.op .add [(.var 3),(.cst (.int (1)))])])])] N (λd=>∃rows',d=wD rows'/\rows'.length=rows.length/\∀r∈rows',r.length<=L+1/\∀x∈r,Th x) λ_ _ _=>False:=λrow' x N hr'=>by
  have a1:cm (.tup ((rows.map D.tup).take u3)) (.tup [.tup row'])=some (0,.tup ((rows.map D.tup).take u3++[.tup row'])):=mR (by simp; omega);have a2:cm (.tup ((rows.map D.tup).take u3++[.tup row'])) (.tup ((rows.map D.tup).drop (u3+1)))=some (0,.tup ((rows.map D.tup).take u3++[.tup row']++(rows.map D.tup).drop (u3+1))):=mR (by simp; omega);have c1:=wx (rows.map D.tup) u3;have c2:=rG (rows.map D.tup) (u3+1);rw[Int.natCast_add,Int.cast_ofNat_Int] at c2;have eW:wD rows=.tup (rows.map .tup):=rfl;rw[<-eW] at c1 c2;refine Ou.ret (x:=(0,wD (rows.take u3++[row']++rows.drop (u3+1)))) ?_ ⟨_,rfl,by simp; omega,λr h=>?_⟩ (λs xs e=>?_)
  .have e:wD (rows.take u3++[row']++rows.drop (u3+1))=.tup ((rows.map D.tup).take u3++[.tup row']++(rows.map D.tup).drop (u3+1)):=by simp[wD,HI,HJ]
   rw[e];generalize (rows.map D.tup).take u3++[.tup row']++(rows.map D.tup).drop (u3+1)=R3 at a2;generalize (rows.map D.tup).take u3++[.tup row']=R2 at a1 a2;generalize (rows.map D.tup).take u3=R1 at a1 c1;generalize (rows.map D.tup).drop (u3+1)=R4 at a2 c2;generalize wD rows=WW at c1 c2 ⊢;have a0:cm (.int (u3:Int)) (.int 1)=some (99,.int ((u3:Int)+1)):=rfl;simp[-aZ,-cm,a0,c1,c2,a1,a2]
  .simp only[FD,Fc] at h;rcases h with (h | rfl) | h
   .have:=hr r (GJ h); exact⟨by omega,this.2⟩
   .exact hr'
   .have:=hr r (G8 h); exact⟨by omega,this.2⟩
  .have e:D.tup ((rows.take u3++[row']++rows.drop (u3+1)).map .tup)=.tup [.str s,.lst xs]:=e;have h:=D.tup.inj e;cases hl:rows.take u3++[row']++rows.drop (u3+1) with
   | nil=>rw[hl] at h; cases h
   | cons a t=>rw[hl] at h; simp at h
 have mid:∀x:D,Th x->Ou G (run G (n+1)) [] [some (0,wD rows),some (0,.int c),some (0,.int m),some (0,.int (u3:Nat)),some (0,.tup row),some (0,.int (u5:Nat)),some (0,x),some (0,.int v7)] (mO.body.drop 6) (λ_=>False) (λd=>∃rows',d=wD rows'/\rows'.length=rows.length/\∀r∈rows',r.length<=L+1/\∀x∈r,Th x) λ_ _ _=>False:=λx th=>by
  show Ou G (run G (n+1)) [] _ (.set 4 _::.iff _ [.set 4 _] []::.ret _::[]) _ _ _;have c1:=wx row u5;have c2:=rG row u5;have c3:=rG row (u5+1);rw[Int.natCast_add,Int.cast_ofNat_Int] at c3;have a0:cm (.int (u5:Int)) (.int 1)=some (99,.int ((u5:Int)+1)):=rfl;have a1:cm (.tup (row.take u5)) (.tup [x])=some (0,.tup (row.take u5++[x])):=mR (by simp; omega);have a2:cm (.tup (row.take u5++[x])) (.tup (row.drop u5))=some (0,.tup (row.take u5++[x]++row.drop u5)):=mR (by simp; omega);have a3:cm (.tup (row.take u5)) (.tup (row.drop (u5+1)))=some (0,.tup (row.take u5++row.drop (u5+1))):=mR (by simp; omega);refine Ou.set (x:=(0,.tup (row.take u5++[x]++row.drop u5))) ?_ ?_
  .generalize row.take u5++[x]++row.drop u5=R3 at a2;generalize row.take u5++[x]=R2 at a1 a2;generalize row.take u5=R1 at a1 c1;generalize row.drop u5=R4 at a2 c2;generalize D.tup row=RW at c1 c2 ⊢;simp[-aZ,-cm,c1,c2,a1,a2]
  refine Ou.low (a':=[some (0,wD rows),some (0,.int c),some (0,.int m),some (0,.int (u3:Nat)),some (0,.tup (row.take u5++[x]++row.drop u5)),some (0,.int (u5:Nat)),some (0,x),some (0,.int v7)]) (.of_eq (by simp)) ?_;by_cases h7:v7=0
  .refine Ou.iffT (j:=99) (by simp[D.eq,h7]) ?_;refine Ou.set (x:=(0,.tup (row.take u5++row.drop (u5+1)))) ?_ (Ou.nil ?_)
   .generalize row.take u5++row.drop (u5+1)=R3 at a3;generalize row.take u5=R1 at a3 c1;generalize row.drop (u5+1)=R4 at a3 c3;generalize D.tup row=RW at c1 c3 ixr;generalize wD rows=WW at ixr ⊢;simp[-aZ,-cm,-ixOp,ixr,a0,c1,c3,a3]
   refine Ou.low (a':=[some (0,wD rows),some (0,.int c),some (0,.int m),some (0,.int (u3:Nat)),some (0,.tup (row.take u5++row.drop (u5+1))),some (0,.int (u5:Nat)),some (0,x),some (0,.int v7)]) (.of_eq (by simp)) (fin _ x _ ⟨by simp; omega,λy h=>?_⟩);rcases cX h with h | h
   .exact rt y (GJ h)
   .exact rt y (G8 h)
  .refine Ou.iffN (j:=99) (by simp[D.eq,h7]) (fin _ x _ ⟨by simp; omega,λy h=>?_⟩);simp only[FD,Fc] at h;rcases h with (h | rfl) | h
   .exact rt y (GJ h)
   .exact th
   .exact rt y (G8 h)
 have hd':ixOp (.lst [.int m,.int (-1),.bl true,.non,.str "0",.tup [.int 0],.lst [.int 0]]) (.int (u6:Nat))=some (0,d):=hd;have key:Ou G (run G (n+1)) [] [some (0,wD rows),some (0,.int c),some (0,.int m),none,none,none,none,none] mO.body (λ_=>False) (λd=>∃rows',d=wD rows'/\rows'.length=rows.length/\∀r∈rows',r.length<=L+1/\∀x∈r,Th x) λ_ _ _=>False:=by
  refine Ou.set (x:=(j3,.int (u3:Nat))) ?_ ?_
  .generalize wD rows=WW at lR ⊢;simp[-onS,lR,P.d.f71,fK,q3]
  refine Ou.set (x:=(0,.tup row)) ?_ ?_
  .generalize wD rows=WW at ixr ⊢;simp[-ixOp,ixr]
  refine Ou.low (a':=[some (0,wD rows),some (0,.int c),some (0,.int m),some (0,.int (u3:Nat)),some (0,.tup row),none,none,none]) (.of_eq (by simp)) ?_;refine Ou.set (x:=(j5,.int (u5:Nat))) ?_ ?_
  .generalize D.tup row=RW at lr ⊢;simp[-onS,lr,P.d.f71,fK,q5]
  refine Ou.set (x:=(0,d)) ?_ ?_
  .simp[-ixOp,hd',P.d.f71,fK,q6]
  refine Ou.low (a':=[some (0,wD rows),some (0,.int c),some (0,.int m),some (0,.int (u3:Nat)),some (0,.tup row),some (0,.int (u5:Nat)),some (0,d),none]) (.of_eq (by simp)) ?_;refine Ou.set (x:=(j7,.int v7)) (by simp[P.d.f71,fK,q7]) ?_;refine Ou.low (a':=[some (0,wD rows),some (0,.int c),some (0,.int m),some (0,.int (u3:Nat)),some (0,.tup row),some (0,.int (u5:Nat)),some (0,d),some (0,.int v7)]) (.of_eq (by simp)) ?_;by_cases h7:1<v7
  .refine Ou.iffT (j:=99) (by simp[h7]) ?_;refine Ou.set (x:=(j8,.int v8)) (by simp[P.d.f71,fK,q8]) (Ou.nil ?_);exact Ou.low (a':=[some (0,wD rows),some (0,.int c),some (0,.int m),some (0,.int (u3:Nat)),some (0,.tup row),some (0,.int (u5:Nat)),some (0,.int v8),some (0,.int v7)]) (.of_eq (by simp)) (mid _ (.int _))
  .exact Ou.iffN (j:=99) (by simp[h7]) (mid d thd)
 obtain⟨j,d,e,rows',rfl,h⟩:=Ou.run (n:=n+1) (vs:=[(k,wD rows),(k1,.int c),(k2,.int m)]) (V:=λd=>∃rows',d=wD rows'/\rows'.length=rows.length/\∀r∈rows',r.length<=L+1/\∀x∈r,Th x) P.f106 rfl rfl (key.mono (λ_ h=>h.elim) (λ_ h=>h) λ_ _ _ h=>h);exact⟨j,rows',e,h⟩
end
def rH {p:Nat}(h:1<=p/\p<=6):OkC p [0]:=pD (ns:=[0]) h.2 (by simp) (by simp; omega) (by simp)
def dP (c:Int):∃p:Nat,1+c % 6=(p:Int)/\1<=p/\p<=6:=⟨(1+c % 6).toNat,by omega,by omega,by omega⟩
def dT (c:Int):∃p:Nat,1+c % 3=(p:Int)/\1<=p/\p<=3:=⟨(1+c % 3).toNat,by omega,by omega,by omega⟩
def mV {xs ys:ax}(h:xs.length+ys.length<=1000):cm (.lst xs) (.lst ys)=some (1,.lst (xs++ys)):=by
 have:xs.length+ys.length<=SL:=b8 h (by decide);simp only[cm];rw[if_pos this]
section
variable {G:Pg}(P:Pm G)
include P
def qO:bZ G 17 2=some (18,kI,.ins 17 []):=by
 simp[bZ,P.v.a.c17,P.v.a.f18,kI]
def Ey (n k k1:Nat)(w W dd:D)(j:Nat)(q:run G (n+9) 39 [(0,w),(0,W)]=.ret j dd []):∃j',run G (n+10) 114 [(k,w),(k1,W)]=.ret j' (.tup [dd,.non]) []:=by
 have key:Ou G (run G (n+9)) [] [some (0,w),some (0,W),none,none,none] jl.body (λ_=>False) (λd=>d=.tup [dd,.non]) λ_ _ _=>False:=by
  refine Ou.set (x:=(99,.non)) (by simp) ?_;refine Ou.set (x:=(99,.non)) (by simp) ?_;refine Ou.tryE (Ou.set (x:=(j,dd)) (by simp[P.f39,g8,q]) (Ou.nil ?_));exact Ou.retE (d:=.tup [dd,.non]) ⟨_,by simp[frz,frz1]; rfl⟩ rfl (λs xs e=>by cases e)
 obtain⟨j',d,e,rfl⟩:=Ou.run (n:=n+9) (vs:=[(k,w),(k1,W)]) (V:=λd=>d=.tup [dd,.non]) P.f114 rfl rfl (key.mono (λ_ h=>h.elim) (λ_ h=>h) λ_ _ _ h=>h);exact⟨j',e⟩
set_option maxHeartbeats 1000000 in
def wI (n k:Nat)(ns:al)(hl:ns.length<=63):∃kk,run G (n+11) 69 [(k,.lst (ns.map .int))]=.ret kk (.bl true) []:=by
 obtain⟨d1,q1⟩:=kJ P.d (n+9) 0 99 ns 0;obtain⟨d14,q14⟩:=kJ P.d (n+9) 0 99 ns 14;have cell:∀t:Nat,∃d v,run G (n+10) 98 [(0,.lst (ns.map .int)),(99,.int (15+(t:Int)))]=.ret d (.int v) []:=λt=>by
  obtain⟨d,q⟩:=kJ P.d (n+9) 0 99 ns (15+t);exact⟨d,_,by rw[<-q]; congr 3⟩
 obtain⟨p,ep,hp⟩:=dP (ns.getD 0 0);obtain⟨T,eT,hT⟩:=dT (ns.getD 14 0);obtain⟨jc,c0,qc,hm0,ok0⟩:=Dw P.d (n+8) 0 0 ns p hp;have q1':run G (n+10) 98 [(0,.lst (ns.map .int)),(99,.int 0)]=.ret d1 (.int (ns.getD 0 0)) []:=q1;have q14':run G (n+10) 98 [(0,.lst (ns.map .int)),(99,.int 14)]=.ret d14 (.int (ns.getD 14 0)) []:=q14;clear q1 q14;generalize ns.getD 0 0=u0 at q1' ep;generalize ns.getD 14 0=u14 at q14' eT;have a1:cm (aP c0) (.lst [.lst [.int 0]])=some (1,aP (c0++[[0]])):=by
  unfold aP;rw[mV (by simp; omega)];simp
 have a2:aZ none (some 6) (aP (c0++[[0]]))=some (1,aP ((c0++[[0]]).take 6)):=by
  have:=kN ((c0++[[0]]).map λc:al=>D.lst (c.map .int)) 6;simp only[aP,aZ];rw[show (some (6:Int))=some ((6:Nat):Int) from rfl,this,HI]
 have hm:((c0++[[0]]).take 6).length<=6:=by simp; omega
 have hm1:1<=((c0++[[0]]).take 6).length:=by simp; omega
 have ok:∀c∈(c0++[[0]]).take 6,OkC p c:=λc hc=>by
  rcases cX (GJ hc) with h | h
  .exact ok0 c h
  .rw[Fc.mp h]; exact rH hp
 generalize c0++[[0]]=c1 at a1 a2 hm ok hm1;generalize c1.take 6=cs at a2 hm ok hm1;have hCS:cs.length<=SL:=b8 hm (by decide);have hcv:aP cs=.lst (cs.map λc=>D.lst (c.map .int)):=rfl;have lK:onS (λxs=>some (99,D.int xs.length)) (aP cs)=some (99,.int cs.length):=by simp[aP]
 have c5:be (compF G (run G (n+10)) [none,none] (.one 1) [] (.op .list [.var 1])) (cs.map λc=>D.lst (c.map .int))=.ok (cs.map λc=>(1,.lst (c.map .int))):=
  m8 λc _=>by simp[compF]
 have qw:∀k,run G (n+10) 18 [(1,.ins 17 []),(0,.int p),(k,aP cs)]=.ret 99 .non [(100,wd p cs)]:=λk=>CQ P.v.a (n+6) 0 k p cs (by omega) hm (λc hc=>(ok c hc).gd) λc hc=>b8 (ok c hc).ln (by decide);obtain⟨ja,A,qa',n1,g1⟩:=AF P (n+8) 0 99 0 ns cs hm;have qa:run G (n+10) 91 [(0,.lst (ns.map .int)),(99,.int 8),(0,aP cs)]=.ret ja (.lst (aK A)) []:=qa';have lA:A.length<=6:=b8 (gG n1 g1) hm;obtain⟨js,qs⟩:=AK P (n+9) 0 0 ja p cs A hp.2 lA g1;have sg:=CD hm ok n1 g1 (t:=λj=>if j<p then cR cs j A else []) (λj hj=>by rw[if_pos hj]) (λj hj=>if_neg (by omega));have eR:aL p (λj=>if j<p then cR cs j A else [])=aL p λj=>cR cs j A:=HN λj hj=>if_pos (FE.mp hj);obtain⟨jo,dg,qo,hg,_⟩:=vd P n 0 0 p cs (λj=>if j<p then cR cs j A else []) hp.2 hm ok (λg i hi=>(rA ok g i hi).1) sg;rw[eR] at qo;obtain⟨es,eg⟩:∃es,dg=.tup [.str "order",.lst es]:=by
  rcases hg with ⟨es,e,_⟩ | ⟨f,R,_,ro⟩
  .exact⟨_,e⟩
  .refine (DP (cs:=cs) (p:=p) (O:=A) (f:=f) (R:=R) n1 ⟨ro.ne,ro.ln,ro.rot,ro.nd,λs hs=>?_⟩).elim;obtain⟨h1,A',B',h2⟩:=ro.up s hs;rw[if_pos h1] at h2;exact⟨h1,A',B',h2⟩
 have eW:wrD (aL p λj=>cR cs j A)=wD ((List.range p).map λj=>aK (cR cs j A)):=by
  simp[wrD,wD,aL,bG,Function.comp_def]
 rw[eW] at qs qo;have hr0:∀r∈(List.range p).map λj=>aK (cR cs j A),r.length<=6/\∀x∈r,Th x:=λr h=>by
  obtain⟨j,_,rfl⟩:=fh h;refine⟨?_,λx hx=>?_⟩
  .rw[fg];exact b8 (Gx _ _) lA
  .obtain⟨g,_,rfl⟩:=fh hx;exact .int _
 have hl0:((List.range p).map λj=>aK (cR cs j A)).length=p:=by simp
 generalize (List.range p).map (λj=>aK (cR cs j A))=rows0 at qs qo hr0 hl0;obtain⟨j0,qg⟩:=Ey P n 0 0 (wd p cs) (wD rows0) dg jo qo;have hTS:T<=SL:=b8 hT.2 (by decide);obtain⟨tp1,tp2⟩:=Bb;obtain⟨tn1,tn2⟩:=Dr;have key:Ou G (run G (n+10)) [] [some (0,.lst (ns.map .int)),none,none,none,none,none,none,none,none,none] oA.body (λ_=>False) (λd=>d=.bl true) λ_ _ _=>False:=by
  refine Ou.set (x:=(99,.int p)) (by simp[P.d.f98,gQ,q1',ep]) ?_;refine Ou.set (x:=(1,aP cs)) (by simp[-cm,-aZ,P.d.f99,oJ,qc,a1,a2]) ?_;refine Ou.low (a':=[some (0,.lst (ns.map .int)),some (0,.int p),some (0,aP cs),none,none,none,none,none,none,none]) (.of_eq (by simp)) ?_;refine Ou.setE (d:=wd p cs) (by simp[hcv,hCS,c5,qO P,kI,Function.comp_def]; rw[<-hcv]; simp[qw]) ?_;refine Ou.low (a':=[some (0,.lst (ns.map .int)),some (0,.int p),some (0,aP cs),some (0,wd p cs),none,none,none,none,none,none]) (.of_eq (by simp)) ?_;refine Ou.set (x:=(js,wD rows0)) (by simp[P.f91,nL,qa,P.f103,nB,qs]) ?_;refine Ou.set (x:=(0,wD rows0)) (by simp) ?_;refine Ou.low (a':=[some (0,.lst (ns.map .int)),some (0,.int p),some (0,aP cs),some (0,wd p cs),some (0,wD rows0),some (0,wD rows0),none,none,none,none]) (.of_eq (by simp)) ?_;refine Ou.fo (λq a=>∃x6 rows t,a=[some (0,.lst (ns.map .int)),some (0,.int p),some (0,aP cs),some (0,wd p cs),some (0,wD rows0),some (0,wD rows),x6,none,none,none]/\q=((List.range T).map λ(n:Nat)=>D.int n).drop t/\rows.length=p/\t<=T/\∀r∈rows,r.length<=6+t/\∀x∈r,Th x) (vs:=[(99,.int T)]) (xs:=(List.range T).map λ(n:Nat)=>D.int n) (by simp[P.d.f98,gQ,q14',eT]) (wk_rng1 hTS) (by simpa using hTS) ⟨none,rows0,0,by simp,rfl,hl0,Fy _,hr0⟩ ?_ ?_
  .rintro x q a ⟨x6,rows,t,rfl,hq,hlr,_,hr⟩;obtain⟨ht,rfl,hq'⟩:=dl hq;obtain⟨dc,v,qv⟩:=cell t;obtain⟨j5,rows',q5,hl',hr'⟩:=Fb P (n+8) 0 dc 99 rows v cs.length hm1 (by omega) (6+t) (by omega) hr;refine⟨_,gw rfl,?_⟩;refine Ou.set (x:=(j5,wD rows')) ?_ (Ou.nil ⟨some (0,.int (t:Nat)),rows',t+1,by simp,hq',by omega,ht,λr h=>⟨by have:=(hr' r h).1; omega,(hr' r h).2⟩⟩);generalize aP cs=K at lK ⊢;simp[-onS,lK,P.d.f98,gQ,qv,P.f106,mO,q5]
  .rintro a ⟨x6,rows,t,rfl,_,hlr,htT,hr⟩;have hr12:∀r∈rows,r.length<=12/\∀x∈r,Th x:=λr h=>⟨by have:=(hr r h).1; omega,(hr r h).2⟩
   obtain⟨jf,due,qf,hv⟩:=yS P (n+8) 0 0 p cs hm ok rows hlr hp.2 λr h=>(hr12 r h).1;obtain⟨jt,tt,qt,hc⟩:=EH P p cs hp.2 hm ok n 0 0 rows hlr hr12 due hv;refine Ou.set (x:=(jf,due)) (by simp[P.f107,oH,qf]) ?_;refine Ou.low (a':=[some (0,.lst (ns.map .int)),some (0,.int p),some (0,aP cs),some (0,wd p cs),some (0,wD rows0),some (0,wD rows),x6,some (0,due),none,none]) (.of_eq (by simp)) ?_;rcases hc with ⟨rfl,dd,rfl,gd⟩ | ⟨pl,x,th,rfl,rfl⟩
   .refine Ou.setT (j:=jt) (ds:=[dd,.non]) (by simp[P.f114,jl,qt]) ?_;refine Ou.low (a':=[some (0,.lst (ns.map .int)),some (0,.int p),some (0,aP cs),some (0,wd p cs),some (0,wD rows0),some (0,wD rows),x6,some (0,.non),some (0,dd),some (0,.non)]) (.of_eq (by simp[cg])) ?_;refine Ou.iffT (j:=99) (by simp) ?_;rcases gd with ⟨es,rfl,_⟩ | ⟨f,R,rfl,_⟩
    .exact Ou.ret (x:=(99,.bl true)) (by simp[ef,D.memb,D.eq,tp1,tp2,tn1,tn2]) rfl
    .exact Ou.ret (x:=(99,.bl true)) (by simp[ef,D.memb,D.eq,tp1,tp2,tn1,tn2]) rfl
   .have qr:=yD P (n+8) 0 0 pl x th;refine Ou.setT (j:=jt) (ds:=[.non,dM pl x]) (by simp[P.f114,jl,qt]) ?_;refine Ou.low (a':=[some (0,.lst (ns.map .int)),some (0,.int p),some (0,aP cs),some (0,wd p cs),some (0,wD rows0),some (0,wD rows),x6,some (0,.tup [.int pl,x]),some (0,.non),some (0,dM pl x)]) (.of_eq (by simp[cg])) ?_;refine Ou.iffN (j:=99) (by simp) ?_;refine Ou.iffN (j:=99) ?_ ?_
    .generalize D.tup [.int pl,x]=DD at qr ⊢;generalize dM pl x=EE at qr ⊢;simp[P.f76,on,qr]
    refine Ou.setT (j:=j0) (ds:=[dg,.non]) (by simp[P.f114,jl,qg]) ?_;refine Ou.low (a':=[some (0,.lst (ns.map .int)),some (0,.int p),some (0,aP cs),some (0,wd p cs),some (0,wD rows0),some (0,wD rows),x6,some (0,.tup [.int pl,x]),some (0,dg),some (0,.non)]) (.of_eq (by simp[cg])) ?_;subst eg;exact Ou.ret (x:=(99,.bl true)) (by simp[ef,D.eq,tp1]) rfl
 obtain⟨j,d,e,rfl⟩:=Ou.run (n:=n+10) (vs:=[(k,.lst (ns.map .int))]) (V:=λd=>d=.bl true) P.f69 rfl rfl (key.mono (λ_ h=>h.elim) (λ_ h=>h) λ_ _ _ h=>h);exact⟨j,e⟩
end
def B8:Pm G_k16:=by constructor <;> first | rfl | (constructor <;> first | rfl | (constructor <;> rfl))
def zq (ns:al)(hl:ns.length<=63):∃kk,run G_k16 11 69 [(0,.lst (ns.map .int))]=.ret kk (.bl true) []:=wI B8 0 0 ns hl
end Ip
end
section
namespace Ek16
open PySem PySem.Spec PyProof.Rows L2
noncomputable abbrev Pw:=PySem.Challenge.pw_quickchange_k16_rows_refused
noncomputable def sT (n:Nat):Stmt:=Pw.main.body.getD n (.Pass ⟨0,0,0,0⟩)
noncomputable def DH:Stmt:=sT 5
noncomputable def nP:Hd.Fd:=⟨"copied", "copied",2,41,DH,some (36,.int 0 213)⟩
def Bh {W:Wd}(h:Hd.qD W.K nP=Hd.aD nP):DefAt W Ip.T_k16 Ip.gZ nP.f:=Hd.CM (ps:=["value", "depth"]) (io:=[]) (t:=36) (u:=.int 0 213) (v:=(.int 0)) (dd:=(.int 0)) h rfl (Hd.o7 (by kernel_rfl)) (by kernel_rfl) rfl rfl ⟨_,rfl⟩ (λ_=>.int) (λ_ _ _ _ _ _ _ _ _ _ lt s us KX hl=>by
 obtain⟨_,_,rfl⟩:=jF (show us.length=2 by simpa using hl);first | exact .of_eq rfl | exact .of_defaults rfl (KX _ _ lt) rfl rfl rfl) (λ_ _ _ _ _ _ _ _ _ _ lt s us KX hl=>by
 obtain⟨_,rfl⟩:=kl (show us.length=1 by simpa using hl);exact .of_defaults rfl (KX _ _ lt) rfl rfl rfl)
noncomputable def lY:Stmt:=sT 42
noncomputable def wf:Hd.Fd:=⟨"law", "law",69,361,lY,none⟩
def BW:FnScope (Ip.fm (aO lY) (ce lY)) ["_law_script"] (ce lY):=(Hd.o7 (by kernel_rfl))
theorem B7:Ip.cF Ip.T_k16 [] lY=some Ip.oA:=by kernel_rfl
end Ek16
end
section
namespace Ek16
open PySem PySem.Spec PySem.W PySem.Calls PyProof.Rows L2 Hd
set_option maxHeartbeats 0
noncomputable def B:Tl:=⟨[⟨"is_whole", "is_whole",0,28,sT 3,none⟩,⟨"is_below", "is_below",1,35,sT 4,none⟩,nP,⟨"is_rising", "is_rising",15,186,sT 18,none⟩,⟨"are_places", "are_places",16,191,sT 19,none⟩,⟨"check_garment", "check_garment",17,198,sT 20,none⟩,⟨"worn_in", "worn_in",24,252,sT 23,none⟩,⟨"may_lie", "may_lie",34,259,sT 25,none⟩,⟨"check_things", "check_things",35,266,sT 26,none⟩,⟨"check_lacking", "check_lacking",36,273,sT 27,none⟩,⟨"still_under", "still_under",37,280,sT 28,none⟩,⟨"ring_among", "ring_among",38,287,sT 29,none⟩,⟨"order_of", "order_of",39,292,sT 30,none⟩,⟨"_law_cell", "_law_cell",98,299,sT 32,none⟩,⟨"_law_mix", "_law_mix",71,306,sT 33,none⟩,⟨"_law_whole", "_law_whole",73,313,sT 34,none⟩,⟨"_law_covers", "_law_covers",99,318,sT 35,none⟩,⟨"_law_order", "_law_order",91,325,sT 36,none⟩,⟨"_law_stacks", "_law_stacks",103,330,sT 37,none⟩,⟨"_law_spoiled", "_law_spoiled",106,337,sT 38,none⟩,⟨"_law_fault", "_law_fault",107,342,sT 39,none⟩,⟨"_law_refused", "_law_refused",76,349,sT 40,none⟩,⟨"_law_asked", "_law_asked",114,356,sT 41,none⟩,wf],[⟨"Wardrobe",17,241,⟨"__init__", "Wardrobe.__init__",18,210,df (sT 21) 0,none⟩⟩],[⟨"NoGarment",2,91,[51],⟨"__init__", "NoGarment.__init__",4,88,df (sT 9) 0,none⟩⟩,⟨"NoLook",6,167,[51],⟨"__init__", "NoLook.__init__",8,164,df (sT 13) 0,none⟩⟩],[("WardrobeError",0,51),("TooMuch",1,72),("Worn",3,110),("NotWorn",4,129),("Covered",5,148),("NoDeed",7,179)],[(241,⟨"many", "Wardrobe.many",20,224,df (sT 21) 2,none⟩),(241,⟨"covers", "Wardrobe.covers",21,231,df (sT 21) 3,none⟩)],51,[("DEEPEST",100,196),("MOST_PLACES",6,414),("MOST_GARMENTS",6,416)],[]⟩
noncomputable def kH:ar:=oy Ip.T_k16.fl Ip.T_k16.att
def facts {w:World}{K:Frag}{mg:Str->aA}{fa:Addr}{h:Heap}(hq:B.q kH K=B.a kH Ip.G_k16)(KX:K.In h)(Gl:h.Ns mainGlobals mg)(hmg:mg "law" = some (.ref fa)) :
  ∃fd:FuncData,(∀(s:Shared) (u:Value),BindsTo s fd ⟨[u],[]⟩ [("_law_script",u)])/\∀base:Heap,K.In base->base.Ns mainGlobals mg->FnOk Pw w K mg base (dO Pw w) (rm 11) fa fd ["_law_script"] (fY K):=by
 have A:=E5 hq;obtain⟨g0,gt⟩:=yl (T:=Ip.T_k16) (cw:=0) Ip.clL_k16 KX Gl A (λ_=>rfl) rfl (by decide +kernel) (by decide +kernel) rfl (by decide +kernel) (by decide +kernel)
  (Cn ⟨_,rfl,λh=>Hd.dk (ps:=["value"]) (io:=[]) h⟩ <| Cn ⟨_,rfl,λh=>Hd.dk (ps:=["value", "bound"]) (io:=[]) h⟩ <| Cn ⟨_,rfl,Bh⟩ <| Cn ⟨_,rfl,λh=>Hd.dk (ps:=["numbers"]) (io:=[]) h⟩ <| Cn ⟨_,rfl,λh=>Hd.dk (ps:=["told", "spots"]) (io:=[]) h⟩ <| Cn ⟨_,rfl,λh=>Hd.dk (ps:=["wardrobe", "garment"]) (io:=[]) h⟩ <| Cn ⟨_,rfl,λh=>Hd.dk (ps:=["wearing"]) (io:=[]) h⟩ <| Cn ⟨_,rfl,λh=>Hd.dk (ps:=["wardrobe", "place", "thing"]) (io:=[]) h⟩ <| Cn ⟨_,rfl,λh=>Hd.dk (ps:=["wardrobe", "rows"]) (io:=[]) h⟩ <| Cn ⟨_,rfl,λh=>Hd.dk (ps:=["wardrobe", "rows"]) (io:=[]) h⟩ <| Cn ⟨_,rfl,λh=>Hd.dk (ps:=["wardrobe", "rows", "garment", "left"]) (io:=[]) h⟩ <| Cn ⟨_,rfl,λh=>Hd.dk (ps:=["wardrobe", "rows", "left"]) (io:=[]) h⟩ <| Cn ⟨_,rfl,λh=>Hd.dk (ps:=["wardrobe", "rows"]) (io:=[]) h⟩ <| Cn ⟨_,rfl,λh=>Hd.dk (ps:=["_law_script", "_law_k"]) (io:=[]) h⟩ <| Cn ⟨_,rfl,λh=>Hd.dk (ps:=["_law_cell_here", "_law_salt", "_law_many"]) (io:=[]) h⟩ <| Cn ⟨_,rfl,λh=>Hd.dk (ps:=["_law_thing"]) (io:=[]) h⟩ <| Cn ⟨_,rfl,λh=>Hd.dk (ps:=["_law_script", "_law_places"]) (io:=[]) h⟩ <| Cn ⟨_,rfl,λh=>Hd.dk (ps:=["_law_script", "_law_at", "_law_covers_here"]) (io:=[]) h⟩ <| Cn ⟨_,rfl,λh=>Hd.dk (ps:=["_law_places", "_law_covers_here", "_law_order_here"]) (io:=[]) h⟩ <| Cn ⟨_,rfl,λh=>Hd.dk (ps:=["_law_rows", "_law_cell_here", "_law_many"]) (io:=[]) h⟩ <| Cn ⟨_,rfl,λh=>Hd.dk (ps:=["_law_rows", "_law_covers_here"]) (io:=[]) h⟩ <| Cn ⟨_,rfl,λh=>Hd.dk (ps:=["_law_kept", "_law_due"]) (io:=[]) h⟩ <| Cn ⟨_,rfl,λh=>Hd.dk (ps:=["_law_wardrobe", "_law_rows"]) (io:=[]) h⟩ <| Cn ⟨_,rfl,λh=>Hd.dk (ps:=["_law_script"]) (io:=[]) h⟩ <| Nl)
  (Cn ⟨⟨_,rfl,λh=>Hd.dk (ps:=["self", "places", "covers"]) (io:=[0]) h⟩,rfl,_,rfl,rfl,rfl⟩ <| Nl)
  (Cn ⟨⟨_,rfl,λh=>Hd.dk (ps:=["self", "garment"]) (io:=[0]) h⟩,rfl,_,rfl,rfl,rfl⟩ <| Cn ⟨⟨_,rfl,λh=>Hd.dk (ps:=["self", "place", "garment"]) (io:=[0]) h⟩,rfl,_,rfl,rfl,rfl⟩ <| Nl)
  (Cn ⟨_,rfl,rfl⟩ <| Cn ⟨_,rfl,rfl⟩ <| Cn ⟨_,rfl,rfl⟩ <| Cn ⟨_,rfl,rfl⟩ <| Cn ⟨_,rfl,rfl⟩ <| Cn ⟨_,rfl,rfl⟩ <| Nl)
  (Cn ⟨_,rfl,λh=>Hd.dk (ps:=["self"]) (io:=[]) h⟩ <| Cn ⟨_,rfl,λh=>Hd.dk (ps:=["self", "garment"]) (io:=[]) h⟩ <| Nl) (by decide +kernel) (by simp[B,Ip.T_k16]) (by decide +kernel)
 obtain⟨a1,_,a3⟩:=A.f wf (by simp[B]);have e:=hmg.symm.trans (mg_of KX Gl a1);cases e;exact yP (n:=11) g0 gt A.l rfl rfl (tT (G7 a3).1) BW B7 rfl (λ_ _ _ _ _ _ _=>rfl) Ip.zq
noncomputable def T0 (P:Params):BT:=(.node (boot_o_0 P) (.node (boot_o_1 P) (.node (boot_o_3 P) (.node (boot_o_7 P) .nil .nil) .nil) (.node (boot_o_5 P) (.node (boot_o_9 P) .nil .nil) .nil)) (.node (boot_o_2 P) (.node (boot_o_4 P) (.node (boot_o_8 P) .nil .nil) .nil) (.node (boot_o_6 P) (.node (boot_o_10 P) .nil .nil) .nil)))
noncomputable def uL:am:=[2,3,15,17,18,20,21,22,24,25,27,28,29,31,32,34,35,36,37,40,41,42,49,50,51,52,55,62,63,65,66,68,69,70,71,72,75,82,84,85,87,88,89,90,91,94,101,103,104,106,107,108,109,110,113,120,122,123,125,126,127,128,129,132,139,141,142,144,145,146,147,148,151,158,160,161,163,164,165,166,167,170,177,178,179,182,185,186,187,190,191,192,194,195,197,198,206,209,210,211,213,214,216,217,218,220,221,223,224,225,227,228,230,231,232,234,235,237,238,239,240,241,242,243,246,248,249,251,252,253,255,256,258,259,260,262,263,265,266,267,269,270,272,273,274,276,277,279,280,281,283,284,286,287,288,291,292,293,295,296,298,299,300,302,303,305,306,307,309,310,312,313,314,317,318,319,321,322,324,325,326,329,330,331,333,334,336,337,338,341,342,343,345,346,348,349,350,352,353,355,356,357,360,361]
noncomputable def looseL:List Str:=(["_wall", "DEEPEST", "is_whole", "is_below", "copied", "WardrobeError", "TooMuch", "NoGarment", "Worn", "NotWorn", "Covered", "NoLook", "NoDeed", "MOST_PLACES", "MOST_GARMENTS", "is_rising", "are_places", "check_garment", "Wardrobe", "worn_in", "may_lie", "check_things", "check_lacking", "still_under", "ring_among", "order_of", "_law_cell", "_law_mix", "_law_whole", "_law_covers", "_law_order", "_law_stacks", "_law_spoiled", "_law_fault", "_law_refused", "_law_asked"]:List String).map Str.ofString
noncomputable abbrev hk:Hook:=jb uL (B.q kH) (B.a kH Ip.G_k16)
noncomputable abbrev Xt (s:Shared):Bool:=xlAt (view Pw [42]) [] s&&recOk (PySem.Challenge.rw_quickchange_k16_rows_refused.row.toRowW).records s
noncomputable def rW:Thread:=⟨do let code <-moduleCode Pw.main
                                       let frame <-newBodyFrame code mainNs mainNs
                                       let _ <-run (.body (behindTheImports Pw) { scope:=Pw.main.scope,locals:=mainNs,globals:=mainNs,cells:=[],code,frame:=some frame })
                                       ret .none,
   .builtin "claim.caller" {},default,[]⟩
noncomputable def runAll (w:World)(os:OsState):=(gE through (stepOk 11 (some (.ref 6))) (stepT (denote treeTable) Pw w) 3126 ⟨T0 w.params,11,(boot_heap w.params).life,Array.mk [],boot_drawn,boot_toks,os⟩ rW).map
 (lookG (importedModules Pw.main.body) (staticsOk (importedModules Pw.main.body)) laidKept (namesBound Pw) (openSeen (view Pw [42]) looseL (importedModules Pw.main.body) Xt true) (λs=>B.q kH (oz uL s.heap)) (boot_heap w.params))
noncomputable def _root_.PySem.W.Fast.tw5221210450715709208:Program:=PySem.Challenge.pw_quickchange_k16_rows_refused
theorem _root_.PySem.W.Fast.te5221210450715709208:PySem.Challenge.pw_quickchange_k16_rows_refused=PySem.W.Fast.tw5221210450715709208:=rfl
noncomputable def dum {α:Type}(_:α):Bool:=true
def mk:dum runAll=true:=by k_qdec
theorem t0 (P:Params):absHeap (T0 P) 11 (boot_heap P).life=boot_heap P:=by kernel_rfl
def yt (w:World)(os:OsState):runAll w os=some (true,openGood (view Pw [42]) looseL,B.a kH Ip.G_k16):=by
 rw[PySem.W.Fast.te3572897934754794661];kernel_rfl
def left:LeftO Pw (view Pw [42]) looseL Xt (Hook.obs hk) (Hook.val hk) 3126:=
 Dl (T0:=T0) (m₀:=11) (ann:=some (.ref 6)) (life:=λP=>(boot_heap P).life) (by kernel_rfl) (by decide) (λs=>rfl) (λw=>by kernel_rfl) t0 yt
end Ek16
open PySem PySem.W PyProof.Rows L2 Hd in
set_option maxRecDepth 100000 in
set_option maxHeartbeats 0 in
theorem PySem.Challenge.cw_quickchange_k16_rows_refused_holds : PySem.Challenge.rw_quickchange_k16_rows_refused.Holds := by
 w_on; o_law
 refine holds_open (r:=PySem.Challenge.rw_quickchange_k16_rows_refused.row) (q:=view Ek16.Pw [42]) (loose:=Ek16.looseL) (Xt:=Ek16.Xt) (XP:=XL (view Ek16.Pw [42]) []) (Yf:=Hook.obs Ek16.hk) (Ya:=Hook.val Ek16.hk) (YP:=Hook.says Ek16.hk) (N:=3126) Ek16.left (Hook.of Ek16.hk) (Hook.keeps Ek16.hk) (λs e=>xl_of s (Bool.and_eq_true_iff.mp e).1) XL.keeps (by rfl) (by rfl) (by rfl) (λs e=>recFacts_of (Bool.and_eq_true_iff.mp e).2) (by rfl) (by first | assumption | decide +kernel) (by decide +kernel) ⟨rfl,rfl,rfl,rfl,rfl,by decide +kernel⟩ ?hw ?hc
 case hw=>w_witness2
 case hc=>
  refine yO (l:=PySem.Challenge.rw_quickchange_k16_rows_refused) (n:=63) (k:=L2.rm 11) (x := "_law_script") (CX:=λw=>L2.dO PySem.Challenge.pw_quickchange_k16_rows_refused w) (sp:=λ_ K=>L2.fY K) rfl (by decide) rfl ⟨rfl,by decide,by decide⟩ ?F ?S ?C
  case F=>exact λw K mg fa h hq KX G hmg=>Ek16.facts hq KX G hmg
  case S=>exact λw K H a ns hl _ hS=>⟨a,ns,rfl,hS,hl,λ_=>rfl⟩
  case C=>
   rintro w H s e s' ⟨_,_,_,_,_,_,_,_,_,_,_,_,_,_,z⟩;exact z
#print axioms PySem.Challenge.cw_quickchange_k16_rows_refused_holds
end
