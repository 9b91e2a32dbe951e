import PyProof.Rows.All
import Wide.All
import OpenK.AllK
import Wide.FinOn
import PyProof.EqAt
import PyProof.EqKinds
import PyProof.TupleCall
import Lean
import PyProof.Rows.SetFrom
import PyProof.Rows.SortWalk
import KE.KDictList
import KE.KSortedM
import PyProof.WalkInts
import KE.KSortTup
import KE.KRevIter
import KE.KUnpack
import PySem.Challenge.RW_quickchange_k41_wishes_seen
set_option Elab.async false
set_option linter.all false
set_option maxRecDepth 100000
set_option compiler.extract_closed false
set_option genSizeOf false
set_option bootstrap.genMatcherCode false
def tw:=@Bool.and_eq_true
def Fh:=@List.size_toArray
def Fi:=@List.mem_singleton
def Fj:=@List.length_map
def Fk:=@List.map_cons
def Fl:=@List.getElem?_set_ne
def Fm:=@beq_iff_eq
def Fo:=@List.getElem?_set_self
def Fp:=@List.getElem?_eq_getElem
def Fq:=@Bool.false_eq_true
def Fs:=@List.getElem?_map
def Ft:=@List.not_mem_nil
def Fu:=@List.mem_cons
def Fv:=@List.nodup_append
def Fw:=@PyProof.Rows.callWith_type1
def Fx:=@decide_eq_true_eq
def Fy:=@Bool.false_ne_true
def Fz:=@PySem.Heap.size_push
def FA:=@List.mem_of_getElem?
def FB:=@List.nodup_cons
def FC:=@List.length_append
def FD:=@List.length_set
def FE:=@PySem.wpAny_newObj_type
def FF:=@decide_eq_true
def FG:=@PyProof.Rows.slot_tuple_getitem
def FH:=@List.mem_map_of_mem
def FJ:=@PySem.wpAny_truthy_bool
def FK:=@PySem.wpAny_Call_Name_kw
def FL:=@PySem.W.kia_one
def FM:=@Bool.or_eq_true
def FN:=@List.findIdx?_eq_some_iff_getElem
def FO:=@List.getElem_mem
def FP:=@PySem.mem_of_lookup
def FQ:=@List.map_inj_left
def FR:=@List.mem_range
def FS:=@Nat.zero_le
def FT:=@List.mem_append
def FU:=@List.mem_filter
def FV:=@PySem.wpAny_call_entry
def FW:=@List.getElem?_mapIdx
def FX:=@PySem.F.plainAttrs_list
def FY:=@List.mem_flatten
def FZ:=@Array.getElem?_eq_some_iff
def F0:=@Nat.le_succ
def F4:=@List.eq_replicate_iff
def F5:=@PySem.AutoSeq1.wpAny_loadPart'
def F6:=@Prod.mk.injEq
def F7:=@Nat.lt_succ_of_lt
def F8:=@decide_eq_false
def F9:=@PySem.wpAny_mono
def Ga:=@List.append_nil
def Gb:=@beq_eq_false_iff_ne
def Gc:=@PySem.Heap.SameBut.update
def Ge:=@Nat.lt_irrefl
def Gf:=@Nat.lt_succ_self
def Gg:=@List.length_take
def Gh:=@List.mem_cons_self
def Gi:=@PySem.Heap.get?_update_self
def Gj:=@List.getElem?_eq_none
def Gk:=@List.eq_nil_or_concat
def Gm:=@List.concat_eq_append
def Gn:=@PySem.wpAny_passesOwn
def Go:=@List.mem_cons_of_mem
def Gp:=@Nat.ne_of_gt
def Gq:=@PySem.wpAny_field
def Gr:=@PySem.Around.under_plainId
def Gu:=@List.ext_getElem?
def Gv:=@PySem.wpAny_holding
def Gw:=@List.length_eq_zero_iff
def Gx:=@List.isEmpty_iff
def Gy:=@PySem.Calls.spliced_cons
def Gz:=@PySem.F.called_set
def GA:=@PySem.F.slot_tuple_mul
def GB:=@List.length_eq_one_iff
def GC:=@List.findIdx?_cons
def GD:=@List.map_append
def GE:=@PySem.wpAny_ite_split
def GG:=@PySem.codeAny_builtin
def GH:=@List.cons.injEq
def GI:=@Nat.le_of_ble_eq_true
def GJ:=@List.contains_iff_mem
def GK:=@Array.getElem?_toList
def GL:=@PySem.Calls.spliced_nil
def GM:=@Bool.not_eq_true'
def GN:=@Option.some.injEq
def GO:=@PySem.call_meets
def GP:=@Nat.ne_of_lt
def GQ:=@Nat.le_of_lt
def GR:=@Ne.symm
def GS:=@List.getElem?_append_left
def GT:=@Array.getElem?_eq_getElem
def GU:=@List.drop_eq_getElem_cons
def GV:=@PySem.F.args_tuple_add_2
def GW:=@PySem.F.slot_list_remove
def GX:=@List.mem_filterMap
def GY:=@PySem.F.entry_tuple_add
def GZ:=@PyProof.Rows.F.plain_set_update_loop
def G0:=@PySem.wpAny_pyIter_list
def G1:=@PySem.codeAny_mono
def G2:=@PySem.F.slot_tuple_add
def G3:=@PySem.Heap.get?_update_other
def G4:=@List.reverse_cons
def G5:=@List.append_assoc
def G6:=@PySem.wpAny_pyIter_enum
def G7:=@PySem.wpAny_setState_of
def G8:=@bne_self_eq_false
def G9:=@Array.getElem?_eq_none
def Ha:=@PySem.F.slot_tuple_iterator_next
def Hb:=@List.map_map
def He:=@of_decide_eq_true
def Hf:=@List.drop_of_length_le
def Hg:=@List.getElem?_set
def Hh:=@List.length_replicate
def Hi:=@PySem.Obj.isFreed_of_fields
def Hj:=@List.length_filter_le
def Hk:=@PySem.builtinLookup_eq_fast
def Hl:=@True.intro
def Hm:=@List.length_drop
def Hn:=@Bool.not_true
def Ho:=@Bool.and_eq_true_iff
def Hq:=@PySem.W.plainGet_of
def Hr:=@PySem.W.callWith_K0
def Hs:=@PySem.wpAny_setEntries_of
def Ht:=@Int.toNat_of_nonneg
def Hu:=@List.map_congr_left
def Hv:=@List.filter_eq_self
def Hw:=@PySem.wpAny_pyIter_tuple
def Hx:=@PySem.W.callWith_K
def Hy:=@PySem.wpAny_setField
def Hz:=@PySem.Obj.data_mapFields
def HA:=@List.length_mapIdx
def HB:=@Nat.le_refl
def HC:=@Array.toList_push
def HD:=@List.foldl_append
def HE:=@List.filter_congr
def HF:=@List.map_take
def HG:=@List.map_drop
def bX:=@Go
def bW:=@Gh
def ck:=@List.mem_append_right
def dZ:=@List.mem_append_left
def bV:=@PySem.Heap.get?_push_of_some
def c6:=@PySem.Heap.get?_push_size
def bM:=@PySem.Heap.lt_size
def bu:=@HB
def bv:=@Nat.le_trans
def dR:=@Nat.lt_of_lt_of_le
def dr:=@GP
def cK:=@Option.some.inj
def aK:=@PySem.wpAny_bind
def aW:=@PySem.wpAny_pure
theorem cZ{α:Type}{a b:α}{l:List α}:a∈b::l->a=b\/a∈l:=Fu.mp
theorem dg{α:Type}{a:α}{s t:List α}:a∈s++t->a∈s\/a∈t:=FT.mp
theorem bZ{α β:Type}{b:β}{x:Option α}{f:α->Option β}:x.bind f=some b->∃a,x=some a/\f a=some b:=Option.bind_eq_some_iff.mp
theorem cg{α β:Type}{b:β}{x:Option α}{f:α->β}:x.map f=some b->∃a,x=some a/\f a=b:=Option.map_eq_some_iff.mp
theorem de{α:Type}{i:Nat}{a:α}{l:List α}:l[i]?=some a->∃h:i<l.length,l[i]=a:=List.getElem?_eq_some_iff.mp
theorem dI{α:Type}{p:α->Bool}{l:List α}:l.all p=true->∀x∈l,p x=true:=List.all_eq_true.mp
theorem eT{α β:Type}{b:β}{l:List α}{f:α->β}:b∈l.map f->∃a,a∈l/\f a=b:=List.mem_map.mp
abbrev be:=PySem.W.Frag
section
abbrev _root_.aE:=List PySem.Stmt
abbrev _root_.aB:=Option PySem.Addr
abbrev _root_.aA:=Option Nat
abbrev _root_.az:=Array PySem.Value
abbrev _root_.ay:=Option PySem.Value
abbrev _root_.aq:=List PySem.Expr
abbrev _root_.ao:=List PySem.Str
abbrev _root_.al:=List PySem.Value
abbrev _root_.ak:=List PySem.Addr
abbrev _root_.aj:=List Int
abbrev _root_.ai:=List Nat
abbrev _root_.ah:=List (PySem.Str×PySem.Addr)
abbrev _root_.af:=List (PySem.Addr×PySem.Obj)
abbrev _root_.ac:=List ai
abbrev _root_.ab:=List aj
namespace L2
open PySem PySem.Spec PyProof.Rows
abbrev eB:=Sum Int Str
noncomputable def iN:eB->Value->Bool
 | .inl k,v=>Value.isInt k v
 | .inr x,v=>Value.isStrOf x v
noncomputable def qV (w:World):eB->Int
 | .inl k=>hashInt k
 | .inr x=>hashStr w x
theorem gK:∀{k:eB} {v:Value},iN k v=true->(∃i t,k=Sum.inl i/\v=Value.int i t)\/(∃x t,k=Sum.inr x/\v=Value.str x t)
 | .inl i,v,h=>by
  obtain⟨t,e⟩:=Value.isInt_shape (k:=i) (v:=v) h;exact .inl ⟨i,t,rfl,e⟩
 | .inr x,v,h=>by
  obtain⟨t,e⟩:=Value.isStrOf_shape (x:=x) (v:=v) h;exact .inr ⟨x,t,rfl,e⟩
def Cb (a b:Int):decide ((Sum.inl a:eB)=Sum.inl b)=(a == b):=by
 by_cases e:a=b
 .subst e; simp
 .have h:¬(Sum.inl a:eB)=Sum.inl b:=λq=>e (Sum.inl.inj q);rw[F8 h];exact (Gb.mpr e).symm
def yU (a b:Str):decide ((Sum.inr a:eB)=Sum.inr b)=decide (a=b):=by
 by_cases e:a=b
 .subst e; simp
 .have h:¬(Sum.inr a:eB)=Sum.inr b:=λq=>e (Sum.inr.inj q);rw[F8 h,F8 e]
def wq (a:Int)(b:Str):decide ((Sum.inl a:eB)=Sum.inr b)=false:=F8 (λq=>nomatch q)
def yt (a:Str)(b:Int):decide ((Sum.inr a:eB)=Sum.inl b)=false:=F8 (λq=>nomatch q)
noncomputable def fQ (prog:Program)(w:World):PySem.KeyKind prog w eB where
 is:=iN
 hash:=qV w
 inj:=λv a b ha hb=>by
  rcases gK ha with ⟨i,t,rfl,rfl⟩ | ⟨x,t,rfl,rfl⟩
  .rcases gK hb with ⟨j,u,rfl,e⟩ | ⟨y,u,rfl,e⟩
   .injection e with e1 _; rw[e1]
   .exact nomatch e
  .rcases gK hb with ⟨j,u,rfl,e⟩ | ⟨y,u,rfl,e⟩
   .exact nomatch e
   .injection e with e1 _; rw[e1]
 byValue:=λk v h=>by
  rcases gK h with ⟨i,t,rfl,rfl⟩ | ⟨x,t,rfl,rfl⟩ <;> rfl
 pyHash:=λhv h=>by
  rcases gK hv with ⟨i,t,rfl,rfl⟩ | ⟨x,t,rfl,rfl⟩
  .exact wpAny_pyHash_int h
  .exact wpAny_pyHash_str h
 eqBool:=λhu hv h=>by
  rcases gK hu with ⟨i,t,rfl,rfl⟩ | ⟨x,t,rfl,rfl⟩
  .rcases gK hv with ⟨j,u,rfl,rfl⟩ | ⟨y,u,rfl,rfl⟩
   .rw[Cb] at h; exact wpAny_eqBool_int h
   .rw[wq] at h; exact SeqAt.EqAt.int_str i t y u _ _ _ _ h
  .rcases gK hv with ⟨j,u,rfl,rfl⟩ | ⟨y,u,rfl,rfl⟩
   .rw[yt] at h; exact SeqAt.EqAt.str_int x t j u _ _ _ _ h
   .rw[yU] at h; exact wpAny_eqBool_str h
 «strs»:=λk x t v h=>by
  rcases gK h with ⟨i,u,rfl,e⟩ | ⟨y,u,rfl,e⟩
  .exact nomatch e
  .injection e with e1 _;subst e1;cases v <;> rfl
end L2
namespace L2
open PySem PySem.Spec PyProof.Rows
inductive V where
 | non | bl (b:Bool) | int (i:Int) | str (x:Str) | byt (b:Array UInt8) | flt (b:UInt64) | ref (a:Addr) | ty (n:String)
 deriving DecidableEq
abbrev _root_.ar:=List V
def RelV:V->Value->Prop
 | .non,u=>u=Value.none
 | .bl b,u=>u=Value.bool b
 | .int i,u=>∃t,u=Value.int i t
 | .str x,u=>∃t,u=Value.str x t
 | .byt b,u=>∃t,u=Value.bytes b t
 | .flt b,u=>∃t,u=Value.float b t
 | .ref a,u=>u=Value.ref a
 | .ty n,u=>u=Value.type n
abbrev Vals:ar->al->Prop:=Paired RelV
theorem Vals.length (r:Vals xs us):xs.length=us.length:=Paired.length r
theorem Vals.get:∀{xs:ar} {us:al} {i:Nat} {x:V},Vals xs us->xs[i]? = some x->∃u,us[i]? = some u/\RelV x u
 | _,_,_,_,.nil,e=>by simp at e
 | _,_,0,_,.cons r _,e=>by simp at e; subst e; exact⟨_,rfl,r⟩
 | _,_,i+1,x,.cons _ t,e=>by
  obtain⟨u,h1,h2⟩:=Vals.get (i:=i) (x:=x) t (by simpa using e);exact⟨u,by simpa using h1,h2⟩
theorem Vals.set (r:RelV x u):∀{xs:ar} {us:al} (i:Nat),Vals xs us->Vals (xs.set i x) (us.set i u)
 | _,_,_,.nil=>.nil
 | _,_,0,.cons _ t=>.cons r t
 | _,_,i+1,.cons q t=>.cons q (Vals.set r i t)
theorem Vals.append:∀{xs ys:ar} {us ws:al},Vals xs us->Vals ys ws->Vals (xs++ys) (us++ws)
 | _,_,_,_,.nil,s=>s
 | _,_,_,_,.cons r t,s=>.cons r (Vals.append t s)
theorem Vals.take:∀{xs:ar} {us:al} (n:Nat),Vals xs us->Vals (xs.take n) (us.take n)
 | _,_,0,_=>.nil
 | _,_,_+1,.nil=>.nil
 | _,_,n+1,.cons r t=>.cons r (Vals.take n t)
theorem Vals.drop:∀{xs:ar} {us:al} (n:Nat),Vals xs us->Vals (xs.drop n) (us.drop n)
 | _,_,0,r=>r
 | _,_,_+1,.nil=>.nil
 | _,_,n+1,.cons _ t=>Vals.drop n t
def RelO:Option V->ay->Prop
 | some v,some u=>RelV v u
 | none,none=>True
 | _,_=>False
def KV {κ:Type}:List (κ×V)->List (κ×Value)->Prop:=Paired λ(p:κ×V) (q:κ×Value)=>p.1=q.1/\RelV p.2 q.2
noncomputable def kV:eB->V
 | .inl i=>.int i
 | .inr x=>.str x
inductive HO where
 | lst (xs:ar)
 | tup (xs:ar)
 | dK (kvs:List (eB×V)) | dT (kvs:List (List eB×V))
 | set (S:Int->Bool) (n:Nat)
 | ins (C dx:Addr) (fs:List (Str×V))
 | own (x:Addr)
 | exc (C:Addr) (nw:Bool) (fs:List (Str×V))
 | xd (fs:List (Str×V))
 | met (f x:Addr)
 | rng (lo hi:Int)
 | frz (o:Obj) (u:HO)
 | tbl (ps:az)
 | ext (φ:Heap->Prop)
abbrev Hp:=Addr->Option HO
noncomputable def upd (H:Hp)(a:Addr)(o:HO):Hp:=λb=>if b=a then some o else H b
def cQ:upd H a o a=some o:=by unfold upd; rw[if_pos rfl]
def bT (h:b≠a):upd H a o b=H b:=by unfold upd; rw[if_neg h]
def l6 {H:Hp}{a b:Addr}{o:HO}(h:H a=some o)(h':H b=none):a≠b:=by
 intro e; subst e; rw[h] at h'; cases h'
section
variable (P:Program)(w:World)
def TupN (h:Heap)(a:Addr)(items:az):Prop:=∃o,h.get? a=some o/\o.cls=.type "tuple" /\ (∃n,o.data=.seq items n)/\o.dict=none
def TupN.tup (x:TupN h a items):IsTup h a items:=let ⟨o,e,c,d,_⟩:=x; ⟨o,e,c,d⟩
def TupN.new (h:Heap)(items:az):TupN (h.push { cls:=.type "tuple",data:=.seq items }) h.objs.size items:=⟨_,c6 _ rfl,rfl,⟨_,rfl⟩,rfl⟩
def ObjOk (H:Hp)(h:Heap)(a:Addr):HO->Prop
 | .lst xs=>xs.length<=sizeLine/\∃(its:al) (n:Nat),Vals xs its/\h.get? a=some { cls:=.type "list",data:=.seq its.toArray n }
 | .tup xs=>xs.length<=sizeLine/\∃its:al,Vals xs its/\TupN h a its.toArray
 | .dK kvs=>kvs.length<=sizeLine/\(a == sysModules)=false/\∃vs,KV kvs vs/\h.DictOf (fQ P w) a vs
 | .dT kvs=>kvs.length<=sizeLine/\(a == sysModules)=false/\∃xs:List (List eB×Addr×Value),
   Paired (λ(p:List eB×V) (q:List eB×Addr×Value)=>p.1=q.1/\H q.2.1=some (.tup (p.1.map kV))/\RelV p.2 q.2.2) kvs xs /\
   ∃o es ep,h.get? a=some o/\o.ExactDict/\o.data=.dict es ep/\es.toList=xs.map (entryOfKey (tupleKind (fQ P w)))/\(xs.map (·.1)).Nodup
 | .set S n=>h.SetOf (intKind P w) a S n
 | .ins C dx fs=>H dx=some (.own a)/\fs.length<=1000/\dx≠a/\h.get? a=some (PySem.W.instObj C dx) /\
   ∃mA,h.Ns1 dx mA/\(∀f,RelO (fs.lookup f) (mA f))/\PySem.Within mA (fs.map (·.1))
 | .own _=>∃o,h.get? a=some o
 | .exc C nw fs=>fs.length<=1000/\∃(o:Obj) (vs:az),h.get? a=some o/\o.cls=.ref C/\o.data=.fields vs/\vs.size=6/\(nw=true->vs[1]? = some Value.none) /\
   ((o.dict=none/\fs=[])\/∃dx,o.dict=some dx/\H dx=some (.own a)/\dx≠a/\∃mA,h.Ns1 dx mA/\(∀f,RelO (fs.lookup f) (mA f))/\PySem.Within mA (fs.map (·.1)))
 | .xd fs=>∃mA,h.Ns1 a mA/\∀f,RelO (fs.lookup f) (mA f)
 | .rng lo hi=>∃t u v,h.get? a=some { cls:=.type "range",data:=.fields #[.int lo t,.int hi u,.int 1 v] }
 | .frz o u=>h.get? a=some o/\ObjOk H h a u
 | .tbl ps=>h.get? a=some { cls:=.none,data:=.fields ps }
 | .met f x=>h.get? a=some (PySem.W.methodObj (.ref f) (.ref x))
 | .ext φ=>φ h/\(∃o,h.get? a=some o)/\∀h1 h2:Heap,φ h1->(∀o,h1.get? a=some o->h2.get? a=some o)->φ h2
def HOk (H:Hp)(h:Heap):Prop:=∀a o,H a=some o->ObjOk P w H h a o
end
section
variable {P:Program}{w:World}{H H':Hp}{h h':Heap}{a:Addr}{o:HO}
theorem ObjOk.lt (x:ObjOk P w H h a o):a<h.objs.size:=by
 cases o with
 | lst xs=>obtain⟨_,_,_,_,e⟩:=x; exact bM e
 | tup xs=>obtain⟨_,_,_,p⟩:=x; exact p.tup.lt
 | dK kvs=>obtain⟨_,_,_,_,o,_,_,e,_⟩:=x; exact bM e
 | dT kvs=>obtain⟨_,_,_,_,o,_,_,e,_⟩:=x; exact bM e
 | set S n=>obtain⟨o,_,_,_,e,_⟩:=x; exact bM e
 | ins C dx fs=>obtain⟨_,_,_,e,_⟩:=x; exact bM e
 | own y=>obtain⟨_,e⟩:=x; exact bM e
 | exc C nw fs=>obtain⟨_,_,_,e,_⟩:=x; exact bM e
 | xd fs=>obtain⟨_,⟨_,_,_,e,_⟩,_⟩:=x; exact bM e
 | rng lo hi=>obtain⟨_,_,_,e⟩:=x; exact bM e
 | frz ob u=>obtain⟨e,_⟩:=x; exact bM e
 | tbl ps=>exact bM (show h.get? a=some _ from x)
 | met f y=>exact bM (show h.get? a=some _ from x)
 | ext φ=>obtain⟨_,⟨_,e⟩,_⟩:=x; exact bM e
theorem Paired.mapP:∀{l₁:List α} {l₂:List β},Paired F l₁ l₂->(∀a b,F a b->G a b)->Paired G l₁ l₂
 | _,_,.nil,_=>.nil
 | _,_,.cons r t,f=>.cons (f _ _ r) (Paired.mapP t f)
def ObjOk.stay (x:ObjOk P w H h a o)(k:∀b u,(b=a\/H b=some (.own a))->h.get? b=some u->h'.get? b=some u)
  (ho:∀b,H b=some (.own a)->H' b=some (.own a))(ht:∀b xs,H b=some (.tup xs)->H' b=some (.tup xs)):ObjOk P w H' h' a o:=by
 induction o with
 | lst xs=>obtain⟨z,its,n,r,e⟩:=x; exact⟨z,its,n,r,k _ _ (.inl rfl) e⟩
 | tup xs=>obtain⟨z,its,r,ob,e,c⟩:=x; exact⟨z,its,r,ob,k _ _ (.inl rfl) e,c⟩
 | dK kvs=>obtain⟨z,y,vs,r,ob,es,ep,e,c⟩:=x; exact⟨z,y,vs,r,ob,es,ep,k _ _ (.inl rfl) e,c⟩
 | dT kvs=>
  obtain⟨z,y,xs,r,ob,es,ep,e,c⟩:=x;exact⟨z,y,xs,Paired.mapP r λp q z=>⟨z.1,ht _ _ z.2.1,z.2.2⟩,ob,es,ep,k _ _ (.inl rfl) e,c⟩
 | set S n=>obtain⟨ob,es,ep,t,e,c⟩:=x; exact⟨ob,es,ep,t,k _ _ (.inl rfl) e,c⟩
 | ins C dx fs=>
  obtain⟨d,z,ne,e,mA,⟨od,es,ep,e2,c⟩,r⟩:=x;exact⟨ho _ d,z,ne,k _ _ (.inl rfl) e,mA,⟨od,es,ep,k _ _ (.inr d) e2,c⟩,r⟩
 | own y=>obtain⟨ob,e⟩:=x; exact⟨ob,k _ _ (.inl rfl) e⟩
 | exc C nw fs=>
  obtain⟨z,o,vs,e,c1,c2,c3,c4,q⟩:=x;refine⟨z,o,vs,k _ _ (.inl rfl) e,c1,c2,c3,c4,?_⟩;rcases q with q | ⟨dx,d1,d2,d3,mA,⟨od,es,ep,e2,c⟩,r⟩
  .exact .inl q
  .exact .inr ⟨dx,d1,ho _ d2,d3,mA,⟨od,es,ep,k _ _ (.inr d2) e2,c⟩,r⟩
 | xd fs=>obtain⟨mA,⟨od,es,ep,e,c⟩,r⟩:=x; exact⟨mA,⟨od,es,ep,k _ _ (.inl rfl) e,c⟩,r⟩
 | rng lo hi=>obtain⟨t,u,v,e⟩:=x; exact⟨t,u,v,k _ _ (.inl rfl) e⟩
 | frz ob u ih=>obtain⟨e,q⟩:=x; exact⟨k _ _ (.inl rfl) e,ih q⟩
 | tbl ps=>
  have e:h.get? a=some { cls:=.none,data:=.fields ps }:=x;show h'.get? a=some { cls:=.none,data:=.fields ps };exact k a _ (.inl rfl) e
 | met f y=>
  have e:h.get? a=some (PySem.W.methodObj (.ref f) (.ref y)):=x;show h'.get? a=some (PySem.W.methodObj (.ref f) (.ref y));exact k a _ (.inl rfl) e
 | ext φ=>obtain⟨p,⟨o,e⟩,st⟩:=x; exact⟨st _ _ p λo q=>k _ _ (.inl rfl) q,⟨o,k _ _ (.inl rfl) e⟩,st⟩
theorem HOk.lt (x:HOk P w H h)(e:H a=some o):a<h.objs.size:=(x a o e).lt
def HOk.fresh (x:HOk P w H h)(e:h.objs.size<=a):H a=none:=by
 cases q:H a with
 | none=>rfl
 | some u=>exact absurd (dR (x.lt q) e) (Ge _)
def HOk.kept (x:HOk P w H h)(k:∀b u,h.get? b=some u->h'.get? b=some u):HOk P w H h':=λa o e=>
 (x a o e).stay (λb u _ q=>k b u q) (λ_ q=>q) λ_ _ q=>q
def HOk.laid (x:HOk P w H h)(k:∀b u,h.get? b=some u->h'.get? b=some u)(hp:h.objs.size<=a)(new:ObjOk P w (upd H a o) h' a o):HOk P w (upd H a o) h':=λb u e=>by
 have hn:=x.fresh hp;by_cases hb:b=a
 .subst hb; rw[cQ] at e; cases e; exact new
 .rw[bT hb] at e;exact (x b u e).stay (λc v _ q=>k c v q) (λc q=>by rw[bT (l6 q hn)]; exact q) λc xs q=>by rw[bT (l6 q hn)]; exact q
end
def Rd (H:Hp)(a:Addr)(u:HO):Prop:=H a=some u\/∃o,H a=some (.frz o u)
def Rd.ok (r:Rd H a u)(x:HOk P w H h):ObjOk P w H h a u:=by
 rcases r with r | ⟨o,r⟩
 .exact x a u r
 .obtain⟨_,q⟩:=x a _ r;exact q
def nk:Option HO->Prop
 | some (.lst _)=>True
 | some (.dK _)=>True
 | some (.dT _)=>True
 | some (.set _ _)=>True
 | some (.ins _ _ _)=>True
 | some (.exc _ _ _)=>True
 | some (.ext _)=>True
 | _=>False
section
variable {P:Program}{w:World}{H:Hp}{h h':Heap}{x e:Addr}{o':HO}
def HOk.write (ok:HOk P w H h)(mu:nk (H x))(he:e=x\/H e=some (.own x))(k:∀b u,b≠e->h.get? b=some u->h'.get? b=some u)(heo:∃u,h'.get? e=some u)
  (new:ObjOk P w (upd H x o') h' x o'):HOk P w (upd H x o') h':=λb u q=>by
 have nown:∀c y,H c=some (.own y)->c≠x:=λc y r z=>by subst z; rw[r] at mu; exact mu
 have ntup:∀c xs,H c=some (.tup xs)->c≠x:=λc xs r z=>by subst z; rw[r] at mu; exact mu
 by_cases hb:b=x
 .subst hb; rw[cQ] at q; cases q; exact new
 .rw[bT hb] at q;by_cases hbe:b=e
  .have q':H b=some (.own x):=by
    rcases he with z | z
    .exact absurd (hbe.trans z) hb
    .rw[hbe]; exact z
   rw[q] at q'; cases q';obtain⟨v,hv⟩:=heo;exact⟨v,by rw[hbe]; exact hv⟩
  .refine (ok b u q).stay (λc v hc r=>k c v ?_ r) (λc r=>by rw[bT (nown c b r)]; exact r) λc xs r=>by rw[bT (ntup c xs r)]; exact r
   rcases hc with rfl | hc
   .exact hbe
   .rintro rfl;rcases he with z | z
    .exact nown c b hc z
    .rw[hc] at z; cases z; exact hb rfl
end
structure Un (fs ex:ak)(H H':Hp)(h h':Heap):Prop where
 keep:∀b o,h.get? b=some o->H b=none->b∉fs->b∉ex->h'.get? b=some o
 slot:∀b o,h.get? b=some o->H b=none->b∈fs->b∉ex->∃sl,h'.get? b=some { o with slots:=sl }
 free:∀b o,h.get? b=some o->H b=none->b∉ex->H' b=none
 there:∀b o,h.get? b=some o->b∉ex->∃o',h'.get? b=some o'
 tups:∀b xs,H b=some (.tup xs)->H' b=some (.tup xs)
 frzs:∀b o u,H b=some (.frz o u)->H' b=some (.frz o u)
 tbls:∀b ps,H b=some (.tbl ps)->∃more,H' b=some (.tbl (ps++more))
section
variable {fs fs' ex ex':ak}{H H1 H2:Hp}{h h1 h2 h':Heap}{a x e:Addr}{o:HO}
def Un.any (u:Un fs ex H H1 h h1)(q:h.get? b=some ob)(n:H b=none)(hx:b∉ex):∃sl,h1.get? b=some { ob with slots:=sl }:=by
 by_cases hb:b∈fs
 .exact u.slot b ob q n hb hx
 .exact⟨ob.slots,u.keep b ob q n hb hx⟩
def Un.trans (a:Un fs ex H H1 h h1)(b:Un fs ex H1 H2 h1 h2):Un fs ex H H2 h h2 where
 keep:=λc ob q n hc hx=>b.keep c ob (a.keep c ob q n hc hx) (a.free c ob q n hx) hc hx
 slot:=λc ob q n hc hx=>by
  obtain⟨sl,e1⟩:=a.slot c ob q n hc hx;obtain⟨sl',e2⟩:=b.slot c _ e1 (a.free c ob q n hx) hc hx;exact⟨sl',e2⟩
 free:=λc ob q n hx=>by
  obtain⟨o',e1⟩:=a.there c ob q hx;exact b.free c o' e1 (a.free c ob q n hx) hx
 there:=λc ob q hx=>by
  obtain⟨o',e1⟩:=a.there c ob q hx;exact b.there c o' e1 hx
 tups:=λc xs q=>b.tups c xs (a.tups c xs q)
 frzs:=λc ob xs q=>b.frzs c ob xs (a.frzs c ob xs q)
 tbls:=λc ps q=>by
  obtain⟨m1,e1⟩:=a.tbls c ps q;obtain⟨m2,e2⟩:=b.tbls c _ e1;exact⟨m1++m2,by rw[e2,Array.append_assoc]⟩
def Un.kept (k:∀b u,h.get? b=some u->h'.get? b=some u):Un fs ex H H h h':=
 ⟨λb ob q _ _ _=>k b ob q,λb ob q _ _ _=>⟨ob.slots,k b ob q⟩,λ_ _ _ n _=>n,λb ob q _=>⟨ob,k b ob q⟩,λ_ _ q=>q,λ_ _ _ q=>q,λ_ ps q=>⟨#[],by rw[q]; simp⟩⟩
def Un.refl:Un fs ex H H h h:=Un.kept λ_ _ q=>q
def Un.laid (k:∀b u,h.get? b=some u->h'.get? b=some u)(hp:h.objs.size<=a)(hn:H a=none):Un fs ex H (upd H a o) h h' where
 keep:=λb u q _ _ _=>k b u q
 slot:=λb u q _ _ _=>⟨u.slots,k b u q⟩
 free:=λb u q n _=>by rw[bT (GP (Nat.lt_of_lt_of_le (Heap.lt_size q) hp))]; exact n
 there:=λb u q _=>⟨u,k b u q⟩
 tups:=λb xs q=>by rw[bT (l6 q hn)]; exact q
 frzs:=λb u xs q=>by rw[bT (l6 q hn)]; exact q
 tbls:=λb ps q=>⟨#[],by rw[bT (l6 q hn),q]; simp⟩
def Un.write (mu:nk (H x))(he:e=x\/H e=some (.own x))(k:∀b u,b≠e->h.get? b=some u->h'.get? b=some u)(heo:∃u,h'.get? e=some u):Un fs ex H (upd H x o) h h':=by
 have hx:∀b,H b=none->b≠x:=λb n z=>by subst z; rw[n] at mu; exact mu
 have hb:∀b,H b=none->b≠e:=λb n z=>by
  subst z;rcases he with r | r
  .exact hx b n r
  .rw[n] at r; cases r
 have hm:∀b u,H b=some u->¬nk (some u)->b≠x:=λb u q nm z=>by subst z; rw[q] at mu; exact nm mu
 refine⟨λb u q n _ _=>k b u (hb b n) q,λb u q n _ _=>⟨u.slots,k b u (hb b n) q⟩,λb u q n _=>by rw[bT (hx b n)]; exact n,λb u q _=>?_,
  λb xs q=>by rw[bT (hm b _ q λz=>z)]; exact q,λb u xs q=>by rw[bT (hm b _ q λz=>z)]; exact q,λb ps q=>⟨#[],by rw[bT (hm b _ q λz=>z),q]; simp⟩⟩
 by_cases hbe:b=e
 .subst hbe; exact heo
 .exact⟨u,k b u hbe q⟩
end
noncomputable def mP (h:Heap)(H:Hp):ak:=(List.range h.objs.size).filter λa=>(H a).isSome
noncomputable def d6 (h:Heap)(H:Hp):Heap:=PySem.W.hideAll h (mP h H)
def D0 (h:Heap)(H:Hp):(d6 h H).objs.size=h.objs.size:=PySem.W.hideAll_size _ _
def BK (e:h.get? b=some o)(n:H b=none):(d6 h H).get? b=some o:=
 PySem.W.hideAll_get _ e λhm=>by
  have q:(H b).isSome=true:=(FU.mp hm).2;rw[n] at q; simp at q
def yG (e:(d6 h H).get? b=some o):h.get? b=some o/\H b=none:=by
 have e':h.get? b=some o:=PySem.W.of_hideAll (mP h H) e;refine⟨e',?_⟩;cases q:H b with
 | none=>rfl
 | some x=>
  have hm:b∈mP h H:=FU.mpr ⟨FR.mpr (bM e'),by simp[q]⟩;have z:(d6 h H).get? b=none:=PySem.W.hideAll_none (mP h H) hm;rw[z] at e; cases e
noncomputable def gS (g h:Heap)(L:Addr):af:=(List.range h.objs.size).filterMap λa=>if a=L\/(g.get? a).isSome=true then none else (h.get? a).map λo=>(a,o)
noncomputable def rest (g h:Heap)(L d:Addr):af:=(gS g h L).filter λp=>decide (p.1≠d)
end L2
namespace L2
open PySem PySem.Spec PyProof.Rows
structure Mod (K:be)(mg:Str->ay)(base:Heap):Prop where
 kin:K.In base
 glob:base.Ns mainGlobals mg
 blt:∃mb,base.Ns builtinsNs mb/\∀x:Str,x ≠ "__name__" -> mb x=bootBuiltins x
 nolimit:base.NoLimit
structure Cx where
 prog:Program
 w:World
 K:be
 mg:Str->ay
 base:Heap
 A:Around
 N:ao
 s₀:Shared
 H₀:Hp
 env:Env
 outer:List Env
 stack:List Env
 ex:ak
 fn:Str->Bool
 calm:Bool
 pn:af
 xe:Value->Shared->Prop
noncomputable def fG (l:List Env):ak:=l.filterMap (·.frame)
noncomputable abbrev Cx.fs (X:Cx):ak:=fG X.outer
def pe (sc:Scope)(x:Str):Prop:=sc.names.lookup x=some .local\/sc.names.lookup x=some .cell\/sc.names.lookup x=some .free
def Loc (sc:Scope)(x:Str):Prop:=sc.names.lookup x=some .local\/sc.names.lookup x=some .cell
def Look (env:Env)(h:Heap)(m:Str->ay)(x:Str)(u:Value):Prop:=
 (env.kindOf x=some .local/\m x=some u)\/((env.kindOf x=some .cell\/env.kindOf x=some .free)/\∃c,env.cells.lookup x=some c/\h.IsCell c (some u))
structure Cx.Ok (X:Cx):Prop where
 mod:Mod X.K X.mg X.base
 kind:X.env.scope.kind=.function
 glob:X.env.globals=mainGlobals
 blt:X.env.builtins=builtinsNs
 above:X.s₀.heap.objs.size<=X.env.locals
 inj:∀x y c,X.env.cells.lookup x=some c->X.env.cells.lookup y=some c->x=y
 has:∀x,(X.env.kindOf x=some .cell\/X.env.kindOf x=some .free)->∃c,X.env.cells.lookup x=some c
 cab:∀x c,X.fn x=true->X.env.cells.lookup x=some c->X.s₀.heap.objs.size<=c
 hd:X.calm=true->X.A.handled=none
 frames:X.A.frames=some X.stack
 stk:X.stack=X.outer\/(X.stack=X.env::X.outer/\X.env.frame=some X.env.locals)
 exf:∀b∈X.ex,b≠X.env.locals/\∀x c,X.env.cells.lookup x=some c->c≠b
 bs:∀b o,X.base.get? b=some o->X.s₀.heap.get? b=some o/\X.H₀ b=none
 bsz:X.base.objs.size<=X.s₀.heap.objs.size
 noex:∀b o,X.base.get? b=some o->b∉X.ex
 exfs:∀b∈X.ex,b∉X.fs
 funs:X.s₀.heap.FunFrames X.base X.outer
 frf:∀b∈X.fs,X.H₀ b=none
structure Inv (X:Cx)(pins:af)(σ:List (Option V))(H:Hp)(s:Shared):Prop where
 ok:X.Ok
 os:s.os=X.s₀.os
 bare:AllBare s.gens
 base:Un X.fs X.ex X.H₀ H X.s₀.heap s.heap
 loc:∃m,s.heap.Ns X.env.locals m/\∀(i:Nat) (x:Str) (v:V),X.N[i]? = some x->σ[i]? = some (some v)->pe X.env.scope x->∃u,RelV v u/\Look X.env s.heap m x u
 cell:∀x c,X.env.cells.lookup x=some c->∃v,s.heap.IsCell c v
 free:H X.env.locals=none
 freeC:∀x c,X.env.cells.lookup x=some c->H c=none
 pin:∀p∈X.pn++pins,s.heap.get? p.1=some p.2/\H p.1=none/\p.1≠X.env.locals/\p.1∉X.fs/\∀v,p.2.data≠.cell v
 hok:HOk X.prog X.w H s.heap
 len:σ.length=X.N.length
section
variable {X:Cx}{pins:af}{σ:List (Option V)}{H H':Hp}{s:Shared}{h':Heap}
def Cx.Ok.nofr (ok:X.Ok)(e:X.base.get? b=some o):b∉X.fs:=λhb=>by
 have:=(ok.funs.mem hb).1;rw[e] at this; cases this
theorem Inv.bs (I:Inv X pins σ H s):∀b o,X.base.get? b=some o->s.heap.get? b=some o/\H b=none:=λb o e=>
 ⟨I.base.keep b o (I.ok.bs b o e).1 (I.ok.bs b o e).2 (I.ok.nofr e) (I.ok.noex b o e),I.base.free b o (I.ok.bs b o e).1 (I.ok.bs b o e).2 (I.ok.noex b o e)⟩
def Inv.bk (I:Inv X pins σ H s):∀b o,X.base.get? b=some o->s.heap.get? b=some o:=λb o e=>(I.bs b o e).1
theorem Inv.mod (I:Inv X pins σ H s):Mod X.K X.mg X.base:=I.ok.mod
def Inv.kIn (I:Inv X pins σ H s):X.K.In s.heap:=I.ok.mod.kin.keeps I.bk
theorem Inv.lt (I:Inv X pins σ H s):X.env.locals<s.heap.objs.size:=let ⟨_,hn,_⟩:=I.loc; hn.lt
def Inv.sz (I:Inv X pins σ H s):X.s₀.heap.objs.size<=s.heap.objs.size:=bv I.ok.above (GQ I.lt)
def Inv.nofs (I:Inv X pins σ H s)(h:s.heap.objs.size<=a):a∉X.fs:=λhb=>by
 obtain⟨_,o,ho,_⟩:=I.ok.funs.mem hb;exact absurd (dR (bM ho) (bv I.sz h)) (Ge _)
def Inv.cne (I:Inv X pins σ H s):∀x c,X.env.cells.lookup x=some c->c≠X.env.locals:=λx c e z=>by
 obtain⟨v,o,ho,hd⟩:=I.cell x c e;obtain⟨m,⟨o',es,ep,ho',hd',_⟩,_⟩:=I.loc;rw[z,ho'] at ho; cases ho; rw[hd'] at hd; cases hd
theorem Inv.funs (I:Inv X pins σ H s):s.heap.FunFrames X.base X.outer:=by
 have all:∀(l:List Env),(∀b∈fG l,b∈X.fs)->X.s₀.heap.FunFrames X.base l->s.heap.FunFrames X.base l:=by
  intro l;induction l with
  | nil=>intro _ _; trivial
  | cons env r ih=>
   intro hs hl;obtain⟨hk,⟨L,o,hf,hn,ho,hd⟩,hr⟩:=hl;have hL:L∈X.fs:=hs L (by unfold fG; rw[List.filterMap_cons,hf]; exact bW);obtain⟨sl,e⟩:=I.base.slot L o ho (I.ok.frf L hL) hL λz=>I.ok.exfs L z hL;exact⟨hk,⟨L,_,hf,hn,e,hd⟩,ih (λb hb=>hs b (by unfold fG; rw[List.filterMap_cons,hf]; exact bX _ hb)) hr⟩
 exact all X.outer (λ_ hb=>hb) I.ok.funs
theorem Inv.stack (I:Inv X pins σ H s):s.heap.FunFrames X.base X.stack:=by
 rcases I.ok.stk with e | ⟨e,hf⟩
 .rw[e]; exact I.funs
 .rw[e];obtain⟨m,hn,_⟩:=I.loc;refine .cons (by rw[I.ok.kind]; decide) hf hn ?_ I.funs;exact Heap.get?_none_of_le (bv I.ok.bsz I.ok.above)
def Inv.stkSub (I:Inv X pins σ H s):∀b∈fG X.stack,b∈X.env.locals::X.fs:=λb hb=>by
 rcases I.ok.stk with e | ⟨e,hf⟩
 .rw[e] at hb; exact bX _ hb
 .rw[e] at hb;unfold fG at hb;rw[List.filterMap_cons,hf] at hb;exact hb
def Inv.stkFree (I:Inv X pins σ H s):∀b∈fG X.stack,H b=none:=λb hb=>by
 rcases cZ (I.stkSub b hb) with e | hb
 .rw[e]; exact I.free
 .obtain⟨_,o,ho,_⟩:=I.ok.funs.mem hb;exact I.base.free b o ho (I.ok.frf b hb) λz=>I.ok.exfs b z hb
def Inv.step {g':Array GenState}{t':Nat}{d':Drawn}{ch:ak}(I:Inv X pins σ H s)
  (hch:∀b∈ch,(b∈X.ex\/X.s₀.heap.objs.size<=b)/\b≠X.env.locals/\(∀x c,X.env.cells.lookup x=some c->c≠b)/\∀p∈X.pn++pins,p.1≠b)
  (keep:∀b o,b≠X.env.locals->b∉X.fs->b∉ch->s.heap.get? b=some o->H b=none->h'.get? b=some o)
  (slot:∀b o,b≠X.env.locals->b∈X.fs->b∉ch->s.heap.get? b=some o->H b=none->∃sl,h'.get? b=some { o with slots:=sl })(free:∀b o,b∉ch->s.heap.get? b=some o->H b=none->H' b=none)
  (there:∀b o,b∉ch->s.heap.get? b=some o->∃o',h'.get? b=some o')
  (tups:∀b xs,H b=some (.tup xs)->H' b=some (.tup xs))(frzs:∀b o u,H b=some (.frz o u)->H' b=some (.frz o u))(tbls:∀b ps,H b=some (.tbl ps)->∃more,H' b=some (.tbl (ps++more)))
  (ns:∀m,s.heap.Ns X.env.locals m->h'.Ns X.env.locals m)(hok:HOk X.prog X.w H' h')(hg:AllBare g') :
  Inv X pins σ H' { s with heap:=h',gens:=g',drawn:=d',toks:=t' }:=by
 have neL:∀b o,X.s₀.heap.get? b=some o->b≠X.env.locals:=λb o e=>dr (dR (bM e) I.ok.above);have neC:∀b o,X.s₀.heap.get? b=some o->b∉X.ex->b∉ch:=λb o e hx hb=>by
  rcases (hch b hb).1 with z | z
  .exact hx z
  .exact absurd (dR (bM e) z) (Ge _)
 have cellK:∀x c,X.env.cells.lookup x=some c->∀v,s.heap.IsCell c v->h'.IsCell c v:=λx c e v ⟨o,ho,hd⟩=>by
  have nch:c∉ch:=λz=>(hch c z).2.2.1 x c e rfl;by_cases hc:c∈X.fs
  .obtain⟨sl,q⟩:=slot c o (I.cne x c e) hc nch ho (I.freeC x c e);exact⟨_,q,hd⟩
  .exact⟨o,keep c o (I.cne x c e) hc nch ho (I.freeC x c e),hd⟩
 refine⟨I.ok,I.os,hg,⟨λb o e n hb hx=>?_,λb o e n hb hx=>?_,λb o e n hx=>?_,λb o e hx=>?_,λb xs e=>tups b xs (I.base.tups b xs e),λb o xs e=>frzs b o xs (I.base.frzs b o xs e),λb ps e=>?_⟩,?_,λx c e=>?_,?_,λx c e=>?_,λp hp=>?_,hok,I.len⟩
 .exact keep b o (neL b o e) hb (neC b o e hx) (I.base.keep b o e n hb hx) (I.base.free b o e n hx)
 .obtain⟨sl,e1⟩:=I.base.slot b o e n hb hx;obtain⟨sl',e2⟩:=slot b _ (neL b o e) hb (neC b o e hx) e1 (I.base.free b o e n hx);exact⟨sl',e2⟩
 .obtain⟨o',e1⟩:=I.base.there b o e hx;exact free b o' (neC b o e hx) e1 (I.base.free b o e n hx)
 .obtain⟨o',e1⟩:=I.base.there b o e hx;exact there b o' (neC b o e hx) e1
 .obtain⟨m1,e1⟩:=I.base.tbls b ps e;obtain⟨m2,e2⟩:=tbls b _ e1;exact⟨m1++m2,by rw[e2,Array.append_assoc]⟩
 .obtain⟨m,hn,hl⟩:=I.loc;refine⟨m,ns m hn,λi x v e1 e2 e3=>?_⟩;obtain⟨u,r,l⟩:=hl i x v e1 e2 e3;refine⟨u,r,?_⟩;rcases l with l | ⟨k,c,e,z⟩
  .exact .inl l
  .exact .inr ⟨k,c,e,cellK x c e _ z⟩
 .obtain⟨v,z⟩:=I.cell x c e;exact⟨v,cellK x c e v z⟩
 .obtain⟨m,⟨o,_,_,ho,_⟩,_⟩:=I.loc;exact free _ o (λz=>(hch _ z).2.1 rfl) ho I.free
 .obtain⟨v,o,ho,hd⟩:=I.cell x c e;exact free c o (λz=>(hch c z).2.2.1 x c e rfl) ho (I.freeC x c e)
 .obtain⟨e,n,ne,nf,d⟩:=I.pin p hp;have nch:p.1∉ch:=λz=>(hch p.1 z).2.2.2 p hp rfl;exact⟨keep p.1 p.2 ne nf nch e n,free p.1 p.2 nch e n,ne,nf,d⟩
def Inv.un {t':Nat}(I:Inv X pins σ H s)(u:Un X.fs [] H H' s.heap h')(hok:HOk X.prog X.w H' h'):Inv X pins σ H' { s with heap:=h',toks:=t' }:=by
 obtain⟨m,⟨o,es,ep,ho,r⟩,_⟩:=id I.loc;obtain⟨sl,hL⟩:=u.any ho I.free (by simp);exact I.step (g':=s.gens) (d':=s.drawn) (ch:=[]) (λ_ z=>nomatch z) (λb o _ hb _ e n=>u.keep b o e n hb (by simp)) (λb o _ hb _ e n=>u.slot b o e n hb (by simp)) (λb o _ e n=>u.free b o e n (by simp)) (λb o _ e=>u.there b o e (by simp)) u.tups u.frzs u.tbls (λm' hm=>by
  obtain⟨o',es',ep',ho',r'⟩:=hm;rw[ho] at ho'; cases ho';exact⟨_,es',ep',hL,r'⟩) hok I.bare
def Inv.call {g':Array GenState}{t':Nat}{d':Drawn}{ch:ak}(I:Inv X pins σ H s)(u:Un (fG X.stack) ch H H' s.heap h')(hok:HOk X.prog X.w H' h')(hg:AllBare g')
  (hch:∀b∈ch,(b∈X.ex\/X.s₀.heap.objs.size<=b)/\b≠X.env.locals/\(∀x c,X.env.cells.lookup x=some c->c≠b)/\∀p∈X.pn++pins,p.1≠b) :
  Inv X pins σ H' { s with heap:=h',gens:=g',drawn:=d',toks:=t' }:=by
 obtain⟨m,⟨o,es,ep,ho,r⟩,_⟩:=id I.loc;obtain⟨sl,hL⟩:=u.any ho I.free λz=>(hch _ z).2.1 rfl;exact I.step (ch:=ch) hch (λb o hL hb hc e n=>u.keep b o e n (λz=>(cZ (I.stkSub b z)).elim hL hb) hc) (λb o _ _ hc e n=>u.any e n hc) (λb o hc e n=>u.free b o e n hc) (λb o hc e=>u.there b o e hc) u.tups u.frzs u.tbls (λm' hm=>by
  obtain⟨o',es',ep',ho',r'⟩:=hm;rw[ho] at ho'; cases ho';exact⟨_,es',ep',hL,r'⟩) hok hg
def Inv.turned {t':Nat}{it:Addr}(I:Inv X pins σ H s)(k:∀b o,b≠it->s.heap.get? b=some o->h'.get? b=some o)(hn:H it=none)(hL:it≠X.env.locals)
  (h1:it∈X.ex\/X.s₀.heap.objs.size<=it)(h2:∀x c,X.env.cells.lookup x=some c->c≠it)(h3:∀p∈X.pn++pins,p.1≠it):Inv X pins σ H { s with heap:=h',toks:=t' }:=by
 have nit:∀b u,H b=some u->b≠it:=λb u e z=>by rw[z,hn] at e; cases e
 refine I.step (g':=s.gens) (d':=s.drawn) (ch:=[it]) (λb hb=>?_) (λb o _ _ hc e _=>k b o (λz=>hc (by simp[z])) e) (λb o _ _ hc e _=>⟨o.slots,k b o (λz=>hc (by simp[z])) e⟩) (λ_ _ _ _ n=>n)
  (λb o hc e=>⟨o,k b o (λz=>hc (by simp[z])) e⟩) (λ_ _ e=>e) (λ_ _ _ e=>e) (λb ps e=>⟨#[],by rw[e]; simp⟩) (λm hm=>?_) (λb u e=>?_) I.bare
 .have e:b=it:=by simpa using hb
  subst e;exact⟨h1,hL,h2,h3⟩
 .obtain⟨o,es,ep,ho,r⟩:=hm;exact⟨o,es,ep,k _ o (GR hL) ho,r⟩
 .refine (I.hok b u e).stay (λc v hc q=>k c v ?_ q) (λ_ q=>q) λ_ _ q=>q;rcases hc with z | z
  .rw[z]; exact nit b u e
  .exact nit c _ z
def Inv.tok (I:Inv X pins σ H s)(t:Nat):Inv X pins σ H { s with toks:=t }:=I.un (h':=s.heap) (t':=t) Un.refl I.hok
theorem Inv.kept (I:Inv X pins σ H s)(k:∀b u,s.heap.get? b=some u->h'.get? b=some u):Inv X pins σ H { s with heap:=h',toks:=t' }:=I.un (Un.kept k) (I.hok.kept k)
theorem Inv.laid (I:Inv X pins σ H s)(k:∀b u,s.heap.get? b=some u->h'.get? b=some u)(hp:s.heap.objs.size<=a)(new:ObjOk X.prog X.w (upd H a o) h' a o) :
  Inv X pins σ (upd H a o) { s with heap:=h',toks:=t' }:=I.un (Un.laid k hp (I.hok.fresh hp)) (I.hok.laid k hp new)
theorem Inv.write (I:Inv X pins σ H s)(mu:nk (H x))(he:e=x\/H e=some (.own x))(k:∀b u,b≠e->s.heap.get? b=some u->h'.get? b=some u)(heo:∃u,h'.get? e=some u)
  (new:ObjOk X.prog X.w (upd H x o) h' x o):Inv X pins σ (upd H x o) { s with heap:=h',toks:=t' }:=I.un (Un.write mu he k heo) (I.hok.write mu he k heo new)
def Inv.pins_of (I:Inv X pins σ H s)(h:∀p∈pins',s.heap.get? p.1=some p.2/\H p.1=none/\p.1≠X.env.locals/\p.1∉X.fs/\∀v,p.2.data≠.cell v):Inv X pins' σ H s:=
 ⟨I.ok,I.os,I.bare,I.base,I.loc,I.cell,I.free,I.freeC,λp hp=>(dg hp).elim (λz=>I.pin p (dZ _ z)) (h p),I.hok,I.len⟩
def pP {N:ao}(hN:N.Nodup){i j:Nat}{x:Str}(a:N[i]? = some x)(b:N[j]? = some x):i=j:=by
 obtain⟨h1,e1⟩:=de a;obtain⟨h2,e2⟩:=de b;exact (List.getElem_inj hN).mp (e1.trans e2.symm)
def zo {M:Model}{A:Around}{E:Value->Shared->Prop}{i:Nat}{x:Str}{v:V}{u:Value}{Q:Unit->Shared->Prop}(I:Inv X pins σ H s)(hN:X.N.Nodup)(hi:X.N[i]? = some x)(hx:Loc X.env.scope x)(r:RelV v u)
  (h:∀s',Inv X pins (σ.set i (some v)) H s'->(∃a,Heap.SameBut a s.heap s'.heap/\(a=X.env.locals\/X.env.cells.lookup x=some a))->Q () s')(hf:X.fn x=true\/X.env.scope.names.lookup x=some .local:=by first | exact .inl rfl | exact .inr rfl | assumption):wpAny M A (storeName X.env x u) Q E s:=by
 obtain⟨m,hn,hl⟩:=id I.loc;have hcls:(X.env.scope.kind == .class||(X.env.scope.kind == .module&&X.env.locals != X.env.globals))=false:=by rw[I.ok.kind]; rfl
 have hiσ:i < σ.length:=by rw[I.len]; exact (de hi).1
 have cne:=I.cne;have tracked:∀{a:Addr} {h':Heap},(∃o,s.heap.get? a=some o/\H a=none)->Heap.SameBut a s.heap h'->HOk X.prog X.w H h':=λ{a h'} ha hs b ob e=>by
  obtain⟨_,_,hfree⟩:=ha;refine (I.hok b ob e).stay (λc w' hc q=>(hs.2 c ?_).trans q) (λ_ q=>q) λ_ _ q=>q;rintro rfl;rcases hc with rfl | hc
  .rw[hfree] at e; cases e
  .rw[hfree] at hc; cases hc
 rcases hx with hk | hk
 .refine wpAny_storeName_local hk hn (λh' hn' hs=>?_) hcls;obtain⟨oL,_,_,hoL,_⟩:=id hn;refine h _ ⟨I.ok,I.os,I.bare,⟨λb o e n hb hx=>?_,λb o e n hb hx=>?_,I.base.free,λb o e hx=>?_,I.base.tups,I.base.frzs,I.base.tbls⟩,⟨_,hn',λj y v' e1 e2 e3=>?_⟩,λy c e=>?_,I.free,I.freeC,λp hp=>?_,tracked ⟨oL,hoL,I.free⟩ hs,by simpa using I.len⟩ ⟨_,hs,.inl rfl⟩
  .exact (hs.2 b (dr (dR (bM e) I.ok.above))).trans (I.base.keep b o e n hb hx)
  .obtain⟨sl,e1⟩:=I.base.slot b o e n hb hx;exact⟨sl,(hs.2 b (dr (dR (bM e) I.ok.above))).trans e1⟩
  .obtain⟨o',e1⟩:=I.base.there b o e hx;exact⟨o',(hs.2 b (dr (dR (bM e) I.ok.above))).trans e1⟩
  .by_cases hj:j=i
   .subst hj;rw[hi] at e1; cases e1;rw[Fo hiσ] at e2;cases e2;exact⟨u,r,.inl ⟨hk,by simp⟩⟩
   .rw[Fl (GR hj)] at e2;obtain⟨u',r',q⟩:=hl j y v' e1 e2 e3;refine⟨u',r',?_⟩;rcases q with ⟨k,e⟩ | ⟨k,c,e,z⟩
    .refine .inl ⟨k,?_⟩;have:y≠x:=λe=>hj (pP hN e1 (e ▸ hi));simp[this,e]
    .exact .inr ⟨k,c,e,z.sameBut hs (cne y c e)⟩
  .obtain⟨w',z⟩:=I.cell y c e;exact⟨w',z.sameBut hs (cne y c e)⟩
  .obtain⟨e,n,ne,nf,d⟩:=I.pin p hp;exact⟨(hs.2 p.1 ne).trans e,n,ne,nf,d⟩
 .have hfn:X.fn x=true:=by
   rcases hf with z | z
   .exact z
   .rw[z] at hk; cases hk
  obtain⟨c,hc⟩:=I.ok.has x (.inl hk);obtain⟨w',z⟩:=I.cell x c hc;refine wpAny_storeName_cell I.ok.kind hk hc z (λh' hc' hs=>?_);obtain⟨oc,hoc,hocd⟩:=id z;refine h { s with heap:=h' } ⟨I.ok,I.os,I.bare,⟨λb o e n hb hx=>?_,λb o e n hb hx=>?_,I.base.free,λb o e hx=>?_,I.base.tups,I.base.frzs,I.base.tbls⟩,⟨m,hn.sameBut hs (GR (cne x c hc)),λj y v' e1 e2 e3=>?_⟩,λy c' e=>?_,I.free,I.freeC,λp hp=>?_,tracked ⟨oc,hoc,I.freeC x c hc⟩ hs,by simpa using I.len⟩ ⟨c,hs,.inr hc⟩
  .exact (hs.2 b (dr (dR (bM e) (I.ok.cab x c hfn hc)))).trans (I.base.keep b o e n hb hx)
  .obtain⟨sl,e1⟩:=I.base.slot b o e n hb hx;exact⟨sl,(hs.2 b (dr (dR (bM e) (I.ok.cab x c hfn hc)))).trans e1⟩
  .obtain⟨o',e1⟩:=I.base.there b o e hx;exact⟨o',(hs.2 b (dr (dR (bM e) (I.ok.cab x c hfn hc)))).trans e1⟩
  .by_cases hj:j=i
   .subst hj;rw[hi] at e1; cases e1;rw[Fo hiσ] at e2;cases e2;exact⟨u,r,.inr ⟨.inl hk,c,hc,hc'⟩⟩
   .rw[Fl (GR hj)] at e2;obtain⟨u',r',q⟩:=hl j y v' e1 e2 e3;refine⟨u',r',?_⟩;rcases q with q | ⟨k,c',e,z'⟩
    .exact .inl q
    .refine .inr ⟨k,c',e,z'.sameBut hs ?_⟩;rintro rfl;exact hj (pP hN e1 (I.ok.inj _ _ _ e hc ▸ hi))
  .by_cases hcc:c'=c
   .subst hcc; exact⟨_,hc'⟩
   .obtain⟨w2,z2⟩:=I.cell y c' e;exact⟨w2,z2.sameBut hs hcc⟩
  .obtain⟨e,n,ne,nf,d⟩:=I.pin p hp;refine⟨(hs.2 p.1 ?_).trans e,n,ne,nf,d⟩;intro q;rw[q,hoc] at e;have q':oc=p.2:=cK e;exact d w' (by rw[<-q']; exact hocd)
def rV (I:Inv X pins σ H s)(hN:X.N.Nodup)(hi:X.N[i]? = some x)(hx:Loc X.env.scope x)(r:RelV v u)
  (h:∀s',Inv X pins (σ.set i (some v)) H s'->Q () s')(hf:X.fn x=true\/X.env.scope.names.lookup x=some .local:=by first | exact .inl rfl | exact .inr rfl | assumption):wpAny M A (storeName X.env x u) Q E s:=
 zo I hN hi hx r (λs' I' _=>h s' I') hf
def Inv.call' (I:Inv X pins σ H s)(ho:s'.os=s.os)(u:Un (fG X.stack) ch H H' s.heap s'.heap)(hok:HOk X.prog X.w H' s'.heap)(hg:AllBare s'.gens)
  (hch:∀b∈ch,(b∈X.ex\/X.s₀.heap.objs.size<=b)/\b≠X.env.locals/\(∀x c,X.env.cells.lookup x=some c->c≠b)/\∀p∈X.pn++pins,p.1≠b):Inv X pins σ H' s':=by
 obtain⟨h',g',d',t',o'⟩:=s';have e:o'=s.os:=ho;subst e;exact I.call (g':=g') (t':=t') (d':=d') u hok hg hch
end
abbrev XK:=Value->aB->Hp->Prop
abbrev St:=List (Option V)
abbrev VK:=V->Hp->Prop
abbrev TE:=St->Hp->VK->Prop
abbrev TT:=St->Hp->(Bool->Hp->Prop)->Prop
abbrev TA:=St->Hp->(ar->Hp->Prop)->Prop
structure Ends where
 nx:St->Hp->Prop
 rt:VK
 bk:St->Hp->Prop:=λ_ _=>False
 ct:St->Hp->Prop:=λ_ _=>False
abbrev TS:=Ends->St->Hp->Prop
def EP (X:Cx)(pins:af)(σ:St)(Q:VK)(u:Value)(s':Shared):Prop:=∃v H',Inv X pins σ H' s'/\RelV v u/\Q v H'
def TP (X:Cx)(pins:af)(σ:St)(Q:Bool->Hp->Prop)(b:Bool)(s':Shared):Prop:=∃H',Inv X pins σ H' s'/\Q b H'
def AP (X:Cx)(pins:af)(σ:St)(Q:ar->Hp->Prop)(us:al)(s':Shared):Prop:=∃vs H',Inv X pins σ H' s'/\Vals vs us/\Q vs H'
def SP (X:Cx)(pins:af)(D:Ends)(f:Flow)(s':Shared):Prop:=
 match f with
 | .next=>∃σ' H',Inv X pins σ' H' s'/\D.nx σ' H'
 | .brk=>∃σ' H',Inv X pins σ' H' s'/\D.bk σ' H'
 | .cont=>∃σ' H',Inv X pins σ' H' s'/\D.ct σ' H'
 | .ret u=>∃v σ' H',Inv X pins σ' H' s'/\RelV v u/\D.rt v H'
def PE (X:Cx)(e:Expr)(t:TE):Prop:=
 ∀(pins:af) (s:Shared) (σ:St) (H:Hp) (Q:VK),Inv X pins σ H s->t σ H Q->wpAny (model X.prog X.w) X.A (eval e X.env) (EP X pins σ Q) X.xe s
def PT (X:Cx)(e:Expr)(t:TT):Prop:=
 ∀(pins:af) (s:Shared) (σ:St) (H:Hp) (Q:Bool->Hp->Prop),Inv X pins σ H s->t σ H Q->wpAny (model X.prog X.w) X.A (isTrue e X.env (eval e X.env)) (TP X pins σ Q) X.xe s
def PW (X:Cx)(e:Expr)(t:TT):Prop:=
 ∀(whole:Sem Value) (pins:af) (s:Shared) (σ:St) (H:Hp) (Q:Bool->Hp->Prop),Inv X pins σ H s->t σ H Q->wpAny (model X.prog X.w) X.A (isTrue e X.env whole) (TP X pins σ Q) X.xe s
def PW.pt (h:PW X e t):PT X e t:=h _
def PA (X:Cx)(es:aq)(t:TA):Prop:=
 ∀(pos:Pos) (pins:af) (s:Shared) (σ:St) (H:Hp) (Q:ar->Hp->Prop),Inv X pins σ H s->t σ H Q->wpAny (model X.prog X.w) X.A (spliced (backTo pos (starEach es X.env))) (AP X pins σ Q) X.xe s
def PS (X:Cx)(st:Stmt)(t:TS):Prop:=
 ∀(pins:af) (s:Shared) (σ:St) (H:Hp) (D:Ends),Inv X pins σ H s->t D σ H->wpAny (model X.prog X.w) X.A (exec st X.env) (SP X pins D) X.xe s
def PSs (X:Cx)(st:aE)(t:TS):Prop:=
 ∀(pins:af) (s:Shared) (σ:St) (H:Hp) (D:Ends),Inv X pins σ H s->t D σ H->wpAny (model X.prog X.w) X.A (execs st X.env) (SP X pins D) X.xe s
def aV (h:wpAny M A t Q E s)(hQ:∀a s,Q a s->Q' a s):wpAny M A t Q' E s:=F9 h hQ λ_ _ x=>x
end L2
namespace L2
open PySem PySem.Spec PyProof.Rows
section
variable {X:Cx}
def cA (i:Nat):TE:=λσ H Q=>∃v,σ[i]? = some (some v)/\Q v H
def tC (v:V):TE:=λ_ H Q=>Q v H
def oH (hN:X.N[i]? = some x)(hv:pe X.env.scope x)(hd:(x == ("__debug__" : Str))=false:=by decide)(hcd:(x == ("__classdict__" : Str))=false:=by decide):PE X (.Name x pos) (cA i):=by
 intro pins s σ H Q I h;obtain⟨v,e,h⟩:=h;obtain⟨m,hn,hl⟩:=I.loc;obtain⟨u,r,l⟩:=hl i x v hN e hv;have fin:EP X pins σ Q u s:=⟨v,H,I,r,h⟩
 rcases l with ⟨hk,hm⟩ | ⟨hk,c,hc,hcell⟩
 .exact wpAny_Name (wpAny_loadName_local I.ok.kind hk hn hm fin) hd
 .rcases hk with hk | hk
  .exact wpAny_Name (wpAny_loadName_cell I.ok.kind hk hc hcell fin) hd
  .exact wpAny_Name (wpAny_loadName_free I.ok.kind hk hc hcell fin hcd) hd
def vL {i j pos}:PE X (.Constant (.int i) j pos) (tC (.int i)):=λ_ _ _ H _ I h=>wpAny_Constant_int ⟨.int i,H,I.tok _,⟨_,rfl⟩,h⟩
def xX {b j pos}:PE X (.Constant (.bool b) j pos) (tC (.bl b)):=λ_ _ _ H _ I h=>Constant_bool ⟨.bl b,H,I,rfl,h⟩
def EJ {j pos}:PE X (.Constant .none j pos) (tC .non):=λ_ _ _ H _ I h=>Constant_none ⟨.non,H,I,rfl,h⟩
def tj {x j pos}:PE X (.Constant (.str x) j pos) (tC (.str x)):=λ_ _ _ H _ I h=>Calls.Constant_str ⟨.str x,H,I.tok _,⟨_,rfl⟩,h⟩
def Gl (X:Cx)(x:Str):Prop:=X.env.kindOf x=some .globalImplicit
def mi (I:Inv X pins σ H s)(hg:Gl X x)(hm:X.mg x=some u)(h:Q u s)
  (hd:(x == ("__debug__" : Str))=false:=by decide):wpAny (model X.prog X.w) X.A (eval (.Name x pos) X.env) Q E s:=
 Calls.Name_function_global I.ok.kind hg (Calls.loadGlobal_global (by rw[I.ok.glob]; exact I.mod.glob.keeps I.bk) hm h) hd
def gg (I:Inv X pins σ H s)(hg:Gl X x)(hm:X.mg x=none)(hv:bootBuiltins x=some u)(h:Q u s)
  (hn:x ≠ "__name__":=by decide)(hd:(x == ("__debug__" : Str))=false:=by decide):wpAny (model X.prog X.w) X.A (eval (.Name x pos) X.env) Q E s:=by
 obtain⟨mb,h1,h2⟩:=I.mod.blt;exact Calls.Name_function_global I.ok.kind hg (Calls.loadGlobal_builtin (by rw[I.ok.glob]; exact I.mod.glob.keeps I.bk) hm (by rw[I.ok.blt]; exact h1.keeps I.bk) ((h2 x hn).trans hv) h) hd
def sU (hg:Gl X x)(hm:X.mg x=some u)(r:RelV v u)(hd:(x == ("__debug__" : Str))=false:=by decide):PE X (.Name x pos) (tC v):=
 λ_ _ _ H _ I h=>mi I hg hm ⟨v,H,I,r,h⟩ hd
def EL (hg:Gl X x)(hm:X.mg x=none)(hv:bootBuiltins x=some u)(r:RelV v u)(hn:x ≠ "__name__":=by decide)(hd:(x == ("__debug__" : Str))=false:=by decide):PE X (.Name x pos) (tC v):=
 λ_ _ _ H _ I h=>gg I hg hm hv ⟨v,H,I,r,h⟩ hn hd
variable {a b:Expr}{ta tb:TE}{pos:Pos}
def PC (X:Cx)(op:CmpOp)(a b:Expr)(t:TE):Prop:=
 ∀(pins:af) (s:Shared) (σ:St) (H:Hp) (Q:VK),Inv X pins σ H s->t σ H Q ->
  wpAny (model X.prog X.w) X.A (eval a X.env) (λv s₁=>wpAny (model X.prog X.w) X.A (eval b X.env) (λu s₂=>wpAny (model X.prog X.w) X.A (compareOp op v u) (EP X pins σ Q) X.xe s₂) X.xe s₁) X.xe s
def tW (b:Expr)(h:op≠.In)(h2:op≠.NotIn):behindInMarks op b=false:=by
 have e1:(op == CmpOp.In)=false:=by cases op <;> first | rfl | exact absurd rfl h
 have e2:(op == CmpOp.NotIn)=false:=by cases op <;> first | rfl | exact absurd rfl h2
 cases b <;> simp[behindInMarks,e1,e2]
def rj (ta:TE):TE:=λσ H Q=>ta σ H λx H1=>Q (.bl (decide (x=.non))) H1
def kW (ta:TE):TE:=λσ H Q=>ta σ H λx H1=>Q (.bl (!decide (x=.non))) H1
def RelV.none_iff (r:RelV x v):(v == Value.none)=decide (x=.non):=by
 cases x with
 | non=>cases r; rfl
 | bl _=>cases r; rfl
 | int _=>obtain⟨t,rfl⟩:=r; rfl
 | str _=>obtain⟨t,rfl⟩:=r; rfl
 | byt _=>obtain⟨t,rfl⟩:=r; rfl
 | flt _=>obtain⟨t,rfl⟩:=r; rfl
 | ref _=>cases r; rfl
 | ty _=>cases r; rfl
def u6 {j pos'}(ha:PE X a ta):PC X .Is a (.Constant .none j pos') (rj ta):=by
 intro pins s σ H Q I h;refine aV (ha pins s σ H _ I h) λv s1 hZz=>?_;obtain⟨x,H1,I1,r1,q1⟩:=hZz;exact Constant_none (is_none_gen ⟨.bl _,H1,I1,by rw[r1.none_iff]; rfl,q1⟩)
def uZ {j pos'}(ha:PE X a ta):PC X .IsNot a (.Constant .none j pos') (kW ta):=by
 intro pins s σ H Q I h;refine aV (ha pins s σ H _ I h) λv s1 hZz=>?_;obtain⟨x,H1,I1,r1,q1⟩:=hZz;exact Constant_none (isnot_none_gen ⟨.bl _,H1,I1,by rw[r1.none_iff]; rfl,q1⟩)
def tB (t:TE):TT:=λσ H Q=>t σ H λx H1=>∃c,x=.bl c/\Q c H1
def sD (h:PC X op a b t)(h1:behindInMarks op b=false:=by first | exact tW _ (by decide) (by decide) | rfl):PE X (.Compare a [op] [b] pos) t:=λpins s σ H Q I hw=>wpAny_Compare1 (h pins s σ H Q I hw) h1
def vx (h:PC X op a b t)(h1:behindInMarks op b=false:=by first | exact tW _ (by decide) (by decide) | rfl):PT X (.Compare a [op] [b] pos) (tB t):=by
 intro pins s σ H Q I hw;refine wpAny_isTrue_Compare1 (aV (h pins s σ H _ I hw) λv s1 h1=>aV h1 λu s2 h2=>aV h2 λc s3 hZz=>?_) h1;obtain⟨x,H1,I1,r1,q1⟩:=hZz;obtain⟨d,rfl,q⟩:=q1;cases r1;exact FJ ⟨H1,I1,q⟩
def zl (h:PE X e t)(he:∀whole,isTrue e X.env whole=(do let v <-whole; standAt e.pos; holding [v] (truthy v)):=by intro _; rfl):PT X e (tB t):=by
 intro pins s σ H Q I hw;refine isTrue_plain (aV (h pins s σ H _ I hw) λv s1 hZz=>?_) (he _);obtain⟨x,H1,I1,r1,q1⟩:=hZz;obtain⟨d,rfl,q⟩:=q1;cases r1;exact FJ ⟨H1,I1,q⟩
variable {tA tB':TT}{rest:aq}
def jg (t u:TT):TT:=λσ H Q=>t σ H λc H1=>if c=true then u σ H1 Q else Q false H1
def oG (t u:TT):TT:=λσ H Q=>t σ H λc H1=>if c=true then Q true H1 else u σ H1 Q
def jN (t:TT):TT:=λσ H Q=>t σ H λc H1=>Q (!c) H1
def EG (ha:PT X a tA):PW X (.BoolOp .And [a] pos) tA:=by
 intro wh pins s σ H Q I h;refine isTrue_and (aV (ha pins s σ H Q I h) λc s1 e=>?_);cases c with
 | true=>exact isTrue_and_nil e
 | false=>exact e
def EA (ha:PT X a tA):PW X (.BoolOp .Or [a] pos) tA:=by
 intro wh pins s σ H Q I h;refine isTrue_or (aV (ha pins s σ H Q I h) λc s1 e=>?_);cases c with
 | false=>exact isTrue_or_nil e
 | true=>exact e
def DC (ha:PT X a tA)(hb:PW X (.BoolOp .And (b::rest) pos) tB'):PW X (.BoolOp .And (a::b::rest) pos) (jg tA tB'):=by
 intro wh pins s σ H Q I h;refine isTrue_and (aV (ha pins s σ H _ I h) λc s1 hZz=>?_);obtain⟨H1,I1,q1⟩:=hZz;cases c with
 | true=>exact hb wh pins s1 σ H1 Q I1 q1
 | false=>exact⟨H1,I1,q1⟩
def Eu (ha:PT X a tA)(hb:PW X (.BoolOp .Or (b::rest) pos) tB'):PW X (.BoolOp .Or (a::b::rest) pos) (oG tA tB'):=by
 intro wh pins s σ H Q I h;refine isTrue_or (aV (ha pins s σ H _ I h) λc s1 hZz=>?_);obtain⟨H1,I1,q1⟩:=hZz;cases c with
 | true=>exact⟨H1,I1,q1⟩
 | false=>exact hb wh pins s1 σ H1 Q I1 q1
def EQ (ha:PT X a tA):PT X (.UnaryOp .Not a pos) (jN tA):=by
 intro pins s σ H Q I h;exact isTrue_not (ha pins s σ H (λc H1=>Q (!c) H1) I h)
def gq (ta tb:TE):TE:=λσ H Q=>ta σ H λx H1=>∃c,x=.bl c/\if c=true then tb σ H1 Q else Q (.bl false) H1
def jq (ta tb:TE):TE:=λσ H Q=>ta σ H λx H1=>∃c,x=.bl c/\if c=true then Q (.bl true) H1 else tb σ H1 Q
def lM (ta:TE):TE:=λσ H Q=>ta σ H λx H1=>∃c,x=.bl c/\Q (.bl (!c)) H1
def EY {op}(h:PE X a t):PE X (.BoolOp op [a] pos) t:=λpins s σ H Q I hw=>BoolOp_one (h pins s σ H Q I hw)
def zx (ha:PE X a ta)(hb:PE X (.BoolOp .And (b::rest) pos) tb):PE X (.BoolOp .And (a::b::rest) pos) (gq ta tb):=by
 intro pins s σ H Q I h;refine BoolOp_and (aV (ha pins s σ H _ I h) λv s1 hZz=>?_);obtain⟨x,H1,I1,r1,q1⟩:=hZz;obtain⟨c,rfl,q1⟩:=q1;cases r1;refine FJ ?_;cases c with
 | true=>exact hb pins s1 σ H1 Q I1 q1
 | false=>exact⟨.bl false,H1,I1,rfl,q1⟩
def wV (ha:PE X a ta)(hb:PE X (.BoolOp .Or (b::rest) pos) tb):PE X (.BoolOp .Or (a::b::rest) pos) (jq ta tb):=by
 intro pins s σ H Q I h;refine BoolOp_or (aV (ha pins s σ H _ I h) λv s1 hZz=>?_);obtain⟨x,H1,I1,r1,q1⟩:=hZz;obtain⟨c,rfl,q1⟩:=q1;cases r1;refine FJ ?_;cases c with
 | false=>exact hb pins s1 σ H1 Q I1 q1
 | true=>exact⟨.bl true,H1,I1,rfl,q1⟩
def xy (ha:PE X a ta):PE X (.UnaryOp .Not a pos) (lM ta):=by
 intro pins s σ H Q I h;refine UnaryOp_ (aV (ha pins s σ H _ I h) λv s1 hZz=>?_);obtain⟨x,H1,I1,r1,q1⟩:=hZz;obtain⟨c,rfl,q1⟩:=q1;cases r1;exact not_of (FJ ⟨.bl (!c),H1,I1,rfl,q1⟩)
def qo (t:TT)(ta tb:TE):TE:=λσ H Q=>t σ H λc H1=>if c=true then ta σ H1 Q else tb σ H1 Q
def zj (hc:PT X c tA)(ha:PE X a ta)(hb:PE X b tb):PE X (.IfExp c a b pos) (qo tA ta tb):=by
 intro pins s σ H Q I h;refine wpAny_IfExp (aV (hc pins s σ H _ I h) λd s1 hZz=>?_);obtain⟨H1,I1,q1⟩:=hZz;cases d with
 | true=>exact ha pins s1 σ H1 Q I1 q1
 | false=>exact hb pins s1 σ H1 Q I1 q1
end
end L2
namespace L2
open PySem PySem.Spec PyProof.Rows
def SqL (K:be)(H:Hp)(a:Addr)(xs:ar):Prop:=
 Rd H a (.lst xs) \/
  ∃(o:Obj) (its:az) (n:Nat),K.lookup a=some o/\o.cls=.type "list" /\ o.dict=none/\o.data=.seq its n/\its.size<=sizeLine/\Vals xs its.toList
def SqT (K:be)(H:Hp)(a:Addr)(xs:ar):Prop:=
 Rd H a (.tup xs) \/
  ∃(o:Obj) (its:az) (n:Nat),K.lookup a=some o/\o.cls=.type "tuple" /\ o.dict=none/\o.data=.seq its n/\its.size<=sizeLine/\Vals xs its.toList
noncomputable def qz:Value->Option V
 | .none=>some .non
 | .bool b=>some (.bl b)
 | .int i _=>some (.int i)
 | .str x _=>some (.str x)
 | .bytes b _=>some (.byt b)
 | .float b _=>some (.flt b)
 | .ref a=>some (.ref a)
 | .type n=>some (.ty n)
 | _=>none
def RelV.abs (r:RelV x u):qz u=some x:=by
 cases x with
 | non=>cases r; rfl
 | bl _=>cases r; rfl
 | int _=>obtain⟨t,rfl⟩:=r; rfl
 | str _=>obtain⟨t,rfl⟩:=r; rfl
 | byt _=>obtain⟨t,rfl⟩:=r; rfl
 | flt _=>obtain⟨t,rfl⟩:=r; rfl
 | ref _=>cases r; rfl
 | ty _=>cases r; rfl
theorem RelV.inj (r:RelV x u)(q:RelV y u):x=y:=cK (r.abs.symm.trans q.abs)
theorem Vals.inj:∀{xs ys:ar} {us:al},Vals xs us->Vals ys us->xs=ys
 | _,_,_,.nil,.nil=>rfl
 | _,_,_,.cons r t,.cons r' t'=>by rw[r.inj r',Vals.inj t t']
section
variable {X:Cx}{pins:af}{σ:St}{H:Hp}{s:Shared}{a:Addr}{xs ys:ar}
def SqT.of {K:be}(h:H a=some (.tup xs)):SqT K H a xs:=.inl (.inl h)
def Inv.list (I:Inv X pins σ H s)(h:SqL X.K H a xs):∃its:al,Vals xs its/\PlainL s.heap a its.toArray/\xs.length<=sizeLine:=by
 rcases h with h | ⟨o,its,n,hk,hc,hd,hs,hz,r⟩
 .obtain⟨z,its,n,r,e⟩:=h.ok I.hok;exact⟨its,r,⟨_,n,e,rfl,rfl,rfl⟩,z⟩
 .refine⟨its.toList,r,⟨o,n,I.kIn a o hk,hc,hd,by simpa using hs⟩,?_⟩;have e:=r.length;simp only[Array.length_toList] at e;omega
def Inv.tupN (I:Inv X pins σ H s)(h:SqT X.K H a xs):∃its:al,Vals xs its/\TupN s.heap a its.toArray/\xs.length<=sizeLine:=by
 rcases h with h | ⟨o,its,n,hk,hc,hn,hs,hz,r⟩
 .obtain⟨z,its,r,p⟩:=h.ok I.hok;exact⟨its,r,p,z⟩
 .refine⟨its.toList,r,⟨o,I.kIn a o hk,hc,⟨n,by simpa using hs⟩,hn⟩,?_⟩;have e:=r.length;simp only[Array.length_toList] at e;omega
def Inv.tuple (I:Inv X pins σ H s)(h:SqT X.K H a xs):∃its:al,Vals xs its/\IsTup s.heap a its.toArray/\xs.length<=sizeLine:=
 let ⟨its,r,p,z⟩:=I.tupN h
 ⟨its,r,p.tup,z⟩
def Inv.list_inj (I:Inv X pins σ H s)(h:SqL X.K H a xs)(h':SqL X.K H a ys):xs=ys:=by
 obtain⟨its,r,⟨o,n,e,_,_,d⟩,_⟩:=I.list h;obtain⟨its',r',⟨o',n',e',_,_,d'⟩,_⟩:=I.list h';rw[e] at e'; cases e';rw[d] at d';injection d' with d1 _;have:its=its':=by simpa using congrArg Array.toList d1
 subst this;exact r.inj r'
def Inv.tuple_inj (I:Inv X pins σ H s)(h:SqT X.K H a xs)(h':SqT X.K H a ys):xs=ys:=by
 obtain⟨its,r,⟨o,e,_,n,d⟩,_⟩:=I.tuple h;obtain⟨its',r',⟨o',e',_,n',d'⟩,_⟩:=I.tuple h';rw[e] at e'; cases e';rw[d] at d';injection d' with d1 _;have:its=its':=by simpa using congrArg Array.toList d1
 subst this;exact r.inj r'
end
noncomputable abbrev Cx.wish (X:Cx)(E:Value->Shared->Prop):Cx:={ X with xe:=E }
noncomputable abbrev Cx.nox (X:Cx):Cx:=X.wish λ_ _=>False
theorem Cx.Ok.wish {X:Cx}(ok:X.Ok)(E:Value->Shared->Prop):(X.wish E).Ok:=
 ⟨ok.mod,ok.kind,ok.glob,ok.blt,ok.above,ok.inj,ok.has,ok.cab,ok.hd,ok.frames,ok.stk,ok.exf,ok.bs,ok.bsz,ok.noex,ok.exfs,ok.funs,ok.frf⟩
def Cx.Ok.unwish {X:Cx}{E:Value->Shared->Prop}(ok:(X.wish E).Ok):X.Ok:=
 ⟨ok.mod,ok.kind,ok.glob,ok.blt,ok.above,ok.inj,ok.has,ok.cab,ok.hd,ok.frames,ok.stk,ok.exf,ok.bs,ok.bsz,ok.noex,ok.exfs,ok.funs,ok.frf⟩
section
variable {X:Cx}{pins:af}{σ:St}{H:Hp}{s:Shared}{E:Value->Shared->Prop}
theorem Inv.wish (I:Inv X pins σ H s)(E:Value->Shared->Prop):Inv (X.wish E) pins σ H s:=⟨I.ok.wish E,I.os,I.bare,I.base,I.loc,I.cell,I.free,I.freeC,I.pin,I.hok,I.len⟩
theorem Inv.unwish (I:Inv (X.wish E) pins σ H s):Inv X pins σ H s:=⟨I.ok.unwish,I.os,I.bare,I.base,I.loc,I.cell,I.free,I.freeC,I.pin,I.hok,I.len⟩
theorem PE.nox (h:PE X.nox e t):PE X e t:=λpins s σ H Q I hw=>
 F9 (h pins s σ H Q (I.wish _) hw) (λ_ _ ⟨v,H',I',r,q⟩=>⟨v,H',I'.unwish,r,q⟩) λ_ _ z=>False.elim z
end
section
variable {X:Cx}{st:Stmt}{rest:aE}{t u:TS}{e:Expr}{te:TE}{pos:Pos}
def mn:TS:=λD σ H=>D.nx σ H
def pb (t u:TS):TS:=λD σ H=>t { D with nx:=u D } σ H
def Aq:PSs X [] mn:=λ_ _ σ H _ I h=>wpAny_execs_nil ⟨σ,H,I,h⟩
def E8 (h1:PS X st t)(h2:PSs X rest u):PSs X (st::rest) (pb t u):=by
 intro pins s σ H D I h;refine wpAny_execs_cons (aV (h1 pins s σ H { D with nx:=u D } I h) λf s1 q=>?_);cases f with
 | next=>
  obtain⟨σ',H',I',q⟩:=q;exact h2 pins s1 σ' H' D I' q
 | ret v=>exact q
 | brk=>exact q
 | cont=>exact q
def Inv.quiet (I:Inv X pins σ H s):interactive X.env=false:=by simp[interactive,I.ok.kind]
def cN (te:TE):TS:=λD σ H=>te σ H λ_ H1=>D.nx σ H1
def jR (he:PE X e te)(hs:swapsWith e none pos.line X.env=pure false:=by rfl):PS X (.Expr e pos) (cN te):=by
 intro pins s σ H D I h;exact wpAny_Expr_any (aV (he pins s σ H _ I h) λv s1 ⟨x,H1,I1,r1,q1⟩=>⟨σ,H1,I1,q1⟩) I.quiet hs
def l7 (te:TE):TS:=λD σ H=>te σ H D.rt
def rQ (he:PE X e te):PS X (.Return (some e) pos) (l7 te):=by
 intro pins s σ H D I h;exact wpAny_Return_some (aV (he pins s σ H _ I h) λv s1 ⟨x,H1,I1,r1,q1⟩=>⟨x,σ,H1,I1,r1,q1⟩)
def mB:TS:=λD _ H=>D.rt .non H
def BP:PS X (.Return none pos) mB:=λ_ _ σ H _ I h=>wpAny_Return_none ⟨.non,σ,H,I,rfl,h⟩
def jZ (c:TT)(t u:TS):TS:=λD σ H=>c σ H λb H1=>if b=true then t D σ H1 else u D σ H1
def wl (hc:PT X c tc)(ha:PSs X a t)(hb:PSs X b u):PS X (.If c a b pos) (jZ tc t u):=by
 intro pins s σ H D I h;refine wpAny_If (aV (hc pins s σ H _ I h) λd s1 hZz=>?_);obtain⟨H1,I1,q1⟩:=hZz;cases d with
 | true=>exact ha pins s1 σ H1 D I1 q1
 | false=>exact hb pins s1 σ H1 D I1 q1
end
abbrev TG:=V->St->Hp->(St->Hp->Prop)->Prop
abbrev jo:=ar->St->Hp->(St->Hp->Prop)->Prop
def PG (X:Cx)(target:Expr)(t:TG):Prop:=
 ∀(pins:af) (s:Shared) (σ:St) (H:Hp) (v:V) (u:Value) (Q:St->Hp->Prop),Inv X pins σ H s->RelV v u->t v σ H Q ->
  wpAny (model X.prog X.w) X.A (assign target X.env u) (λ_ s'=>∃σ' H',Inv X pins σ' H' s'/\Q σ' H') X.xe s
def kN (X:Cx)(ts:aq)(t:jo):Prop:=
 ∀(pins:af) (s:Shared) (σ:St) (H:Hp) (vs:ar) (us:al) (Q:St->Hp->Prop),Inv X pins σ H s->Vals vs us->t vs σ H Q ->
  wpAny (model X.prog X.w) X.A (assignInOrder ((assignEach ts X.env).map (·.2)) us) (λ_ s'=>∃σ' H',Inv X pins σ' H' s'/\Q σ' H') X.xe s
abbrev pY:=V->V->V->Hp->(Hp->Prop)->Prop
def qX (X:Cx)(t:pY):Prop:=
 ∀(pins:af) (s:Shared) (σ:St) (H:Hp) (o i v:V) (ov iv u:Value) (Q:Hp->Prop),Inv X pins σ H s->RelV o ov->RelV i iv->RelV v u->t o i v H Q ->
  wpAny (model X.prog X.w) X.A (setItem ov iv u) (λ_ s'=>∃H',Inv X pins σ H' s'/\Q H') X.xe s
section
variable {X:Cx}{pos:Pos}
def eM (i:Nat):TG:=λv σ H Q=>Q (σ.set i (some v)) H
def qJ (hN:X.N.Nodup)(hi:X.N[i]? = some x)(hx:Loc X.env.scope x)(hf:X.fn x=true\/X.env.scope.names.lookup x=some .local:=by first | exact .inl rfl | exact .inr rfl | assumption):PG X (.Name x pos) (eM i):=by
 intro pins s σ H v u Q I r h;exact wpAny_assign_Name (rV I hN hi hx r (λs' I'=>⟨_,H,I',h⟩) hf)
def mC:jo:=λvs σ H Q=>vs=[]/\Q σ H
def iO (t:TG)(u:jo):jo:=λvs σ H Q=>∃v r,vs=v::r/\t v σ H λσ' H'=>u r σ' H' Q
def xK:kN X [] mC:=by
 intro pins s σ H vs us Q I r h;obtain⟨e,h⟩:=h;subst e;cases r;exact assignInOrder_nil ⟨σ,H,I,h⟩
def DO (h1:PG X e t)(h2:kN X es u)
  (hs:(assignEach (e::es) X.env).map (·.2)=assign e X.env::(assignEach es X.env).map (·.2):=by rfl):kN X (e::es) (iO t u):=by
 intro pins s σ H vs us Q I r h;obtain⟨v,vr,e1,h⟩:=h;subst e1;cases r with
 | cons r rr=>
  rw[hs];refine assignInOrder_cons (aV (h1 pins s σ H _ _ _ I r h) λ_ s1 hZz=>?_);obtain⟨σ1,H1,I1,q1⟩:=hZz;exact h2 pins s1 σ1 H1 _ _ Q I1 rr q1
def lK (K:be)(n:Nat)(t:jo):TG:=λv σ H Q=>∃a xs,v=.ref a/\SqT K H a xs/\xs.length=n/\t xs σ H Q
def Co (hc:X.calm=true)(h:kN X es t)
  (hn:(assignEach es X.env).length=n:=by rfl)(hst:(assignEach es X.env).findIdx? (·.1)=none:=by rfl):PG X (.Tuple es k pos) (lK X.K n t):=by
 intro pins s σ H v u Q I r hw;obtain⟨a,xs,e1,hq,hl,hw⟩:=hw;subst e1;cases r;obtain⟨its,rv,ht,hz⟩:=I.tuple hq;refine assign_Tuple_tuple (I.ok.hd hc) ht (by simp[hn,<-hl,rv.length]) hst λh' hx=>?_;have I1:Inv X pins σ H { s with heap:=h' }:=I.kept (t':=s.toks) λb o e=>hx b o (dr (bM e)) e;exact h pins _ σ H xs _ Q I1 (by simpa using rv) hw
def jz (te:TE)(g:TG):TS:=λD σ H=>te σ H λx H1=>g x σ H1 D.nx
def v9 (he:PE X e te)(hg:PG X tg g)(hs:swapsWithSole [tg] e pos.line X.env=pure false:=by rfl)(hw:swappedStores [tg] e X.env=pure none:=by rfl)
  (h1:(assignEach [tg] X.env).map (·.2)=[assign tg X.env]:=by rfl):PS X (.Assign [tg] e pos) (jz te g):=by
 intro pins s σ H D I h;refine wpAny_Assign_stores (aV (he pins s σ H _ I h) λv s1 hZz=>?_) hs hw;obtain⟨x,H1,I1,r1,q1⟩:=hZz;rw[h1];exact aV (hg pins s1 σ H1 x v _ I1 r1 q1) λ_ s2 q=>q
def sA (hN:X.N.Nodup)(hi:X.N[i]? = some x)(hx:Loc X.env.scope x)(he:PE X e te)(hs:swapsWith e (some (.Name x pos')) pos.line X.env=pure false:=by rfl)(hf:X.fn x=true\/X.env.scope.names.lookup x=some .local:=by first | exact .inl rfl | exact .inr rfl | assumption) :
  PS X (.Assign [.Name x pos'] e pos) (jz te (eM i)):=by
 intro pins s σ H D I h;refine wpAny_Assign_Name (aV (he pins s σ H _ I h) λv s1 hZz=>?_) hs;obtain⟨y,H1,I1,r1,q1⟩:=hZz;exact rV I1 hN hi hx r1 (λs2 I2=>⟨_,H1,I2,q1⟩) hf
end
section
variable {X:Cx}{pos:Pos}
def eZ (c:TT)(tb:TS):TS:=λD σ H=>∃W:Nat->St->Hp->Prop,(∃m,W m σ H)/\∀m σ H,W m σ H ->
 c σ H λb H1=>if b=true then ∃N:St->Hp->Prop,(∀σ' H',N σ' H'->∃m',m'<m/\W m' σ' H')/\tb { D with nx:=N,ct:=N,bk:=D.nx } σ H1 else D.nx σ H1
def yD (hp:PassesOwn (model X.prog X.w) X.A X.env X.xe)(hc:PT X c tc)(hb:PSs X body tb):PS X (.While c body [] pos) (eZ tc tb):=by
 intro pins s σ H D I h;obtain⟨W,⟨m0,w0⟩,turn⟩:=h;refine wpAny_While (codeAny_whileLoop (λn s'=>∃σ' H',Inv X pins σ' H' s'/\W n σ' H') ?_ m0 ⟨σ,H,I,w0⟩);rintro n s1 ⟨σ1,H1,I1,w1⟩;refine Gn hp (aV (hc pins s1 σ1 H1 _ I1 (turn n σ1 H1 w1)) λb s2 hZz=>?_);obtain⟨H2,I2,q2⟩:=hZz;cases b with
 | true=>
  obtain⟨N,hN,q2⟩:=q2;rw[if_pos rfl];refine Gn hp (aV (hb pins s2 σ1 H2 _ I2 q2) λf s3 q3=>?_);cases f with
  | next=>
   obtain⟨σ3,H3,I3,n3⟩:=q3;obtain⟨m',hm,w3⟩:=hN σ3 H3 n3;exact⟨m',hm,σ3,H3,I3,w3⟩
  | cont=>
   obtain⟨σ3,H3,I3,n3⟩:=q3;obtain⟨m',hm,w3⟩:=hN σ3 H3 n3;exact⟨m',hm,σ3,H3,I3,w3⟩
  | brk=>exact q3
  | ret v=>exact q3
 | false=>
  rw[if_neg Fy];exact wpAny_execs_nil ⟨σ1,H2,I2,q2⟩
end
structure It where
 go:Nat->Hp->Prop
 yld:Nat->Hp->V->Hp->Prop
 stop:Nat->Hp->Prop
def cR (X:Cx)(pins:af)(H:Hp)(b:Addr):Prop:=
 H b=none/\b≠X.env.locals/\b∉X.fs/\(b∈X.ex\/X.s₀.heap.objs.size<=b)/\(∀x c,X.env.cells.lookup x=some c->c≠b)/\∀p∈X.pn++pins,p.1≠b
def Inv.fpOk (I:Inv X pins σ H s)(hb:s.heap.objs.size<=b)(hn:H' b=none):cR X pins H' b:=by
 refine⟨hn,Gp (dR I.lt hb),I.nofs hb,.inr (bv I.sz hb),λx c e z=>?_,λp hp z=>?_⟩
 .obtain⟨v,q⟩:=I.cell x c e;exact absurd (dR q.lt (by rw[z]; exact hb)) (Ge _)
 .exact absurd (dR (bM (I.pin p hp).1) (by rw[z]; exact hb)) (Ge _)
structure Turn (P:Program)(w:World)(K:be)(tg:Expr)(J:It)(fp:ak)(it:Addr)(tn:Nat->Heap->Prop):Prop where
 mem:it∈fp
 obj:∀i h,tn i h->∀b∈fp,∃o,h.get? b=some o/\∀v,o.data≠.cell v
 keep:∀i h h',tn i h->(∀b∈fp,∀o,h.get? b=some o->h'.get? b=some o)->tn i h'
 item:∀(X:Cx),X.prog=P->X.w=w->X.K=K->X.calm=true->∀(i:Nat) (pins:af) (s:Shared) (σ:St) (H:Hp) (E:Value->Shared->Prop),Inv X pins σ H s->(∀b∈fp,cR X pins H b)->tn i s.heap->J.go i H ->
  wpAny (model P w) X.A (pyNext (.ref it)) (λr s1=>∃u,r=some u /\
   wpAny (model P w) X.A (letOwnedTupleGo tg (.ref it) u) (λ_ s2=>∃x H',Inv X pins σ H' s2/\RelV x u/\J.yld i H x H'/\tn (i+1) s2.heap/\∀b∈fp,H' b=none) E s1) E s
 done:∀(X:Cx),X.prog=P->X.w=w->X.K=K->X.calm=true->∀(i:Nat) (pins:af) (s:Shared) (σ:St) (H:Hp) (E:Value->Shared->Prop),Inv X pins σ H s->(∀b∈fp,cR X pins H b)->tn i s.heap->J.stop i H ->
  wpAny (model P w) X.A (pyNext (.ref it)) (λr s1=>r=none/\Inv X pins σ H s1) E s
 self:∀(A:Around) (i:Nat) (s:Shared) (Q:Value->Shared->Prop) (E:Value->Shared->Prop),tn i s.heap->Q (.ref it) s->wpAny (model P w) A (pyIter (.ref it)) Q E s
abbrev TI:=St->Hp->(It->Hp->Prop)->Prop
def vn (X:Cx)(pins:af)(σ:St)(tg:Expr)(R:It->Hp->Prop)(itv:Value)(s2:Shared):Prop:=
 ∃(it:Addr) (fp:ak) (tn:Nat->Heap->Prop) (J:It) (H':Hp),itv=.ref it/\Inv X pins σ H' s2/\Turn X.prog X.w X.K tg J fp it tn/\tn 0 s2.heap/\(∀b∈fp,cR X pins H' b)/\R J H'
def PI (X:Cx)(tg iter:Expr)(wi:TI):Prop:=
 ∀(pins:af) (s:Shared) (σ:St) (H:Hp) (R:It->Hp->Prop),Inv X pins σ H s->wi σ H R ->
  wpAny (model X.prog X.w) X.A (eval iter X.env) (λv s1=>wpAny (model X.prog X.w) X.A (pyIter v) (vn X pins σ tg R) X.xe s1) X.xe s
def nI (ho:s.heap.get? it=some o)(hc:o.cls=.type n)(hd:o.data=.fields vs)
    (hn:["enumerate", "zip", "dict_itemiterator", "dict_reverseitemiterator", "odict_iterator", "itertools.zip_longest", "itertools.pairwise"].contains n=false)(hQ:Q () s):wpAny M A (letOwnedTupleGo tg (.ref it) u) Q E s:=by
  unfold letOwnedTupleGo;cases tg <;> first
    | exact aW hQ
    | (cases u <;> first
        | exact aW hQ
        | (refine aK (wpAny_load ho ?_)
           rw[hc,hd];show wpAny M A (if (["enumerate", "zip", "dict_itemiterator", "dict_reverseitemiterator", "odict_iterator", "itertools.zip_longest", "itertools.pairwise"].contains n&&vs[0]? == some (rawInt _))=true then _ else _) Q E s;rw[if_neg (by intro h; rw[hn,Bool.false_and] at h; cases h)];exact aW hQ))
noncomputable def qL (K:be)(a:Addr):It:=
 ⟨λi H=>∃xs x,SqL K H a xs/\xs[i]? = some x,λi H x H'=>H'=H/\∀xs,SqL K H a xs->xs[i]? = some x,λi H=>∃xs,SqL K H a xs/\xs.length<=i⟩
noncomputable def o4 (K:be)(a:Addr):It:=
 ⟨λi H=>∃xs x,SqT K H a xs/\xs[i]? = some x,λi H x H'=>H'=H/\∀xs,SqT K H a xs->xs[i]? = some x,λi H=>∃xs,SqT K H a xs/\xs.length<=i⟩
noncomputable def kD (lo:Int)(n:Nat):It:=⟨λi _=>i<n,λi H x H'=>H'=H/\x=.int (lo+i),λi _=>n<=i⟩
def yA {P:Program}{w:World}{K:be}{tg:Expr}(a it:Addr):Turn P w K tg (qL K a) [it] it (λi h=>h.IsListIter it a i) where
 mem:=by simp
 obj:=λi h st b hb=>by
  have e:b=it:=by simpa using hb
  subst e;obtain⟨o,e,c,d⟩:=st;exact⟨o,e,λv z=>by rw[d] at z; cases z⟩
 keep:=λi h h' st k=>st.at λo e=>k it (by simp) o e
 item:=by
  intro X hP hw hK hc i pins s σ H E I hf st hg;subst hP hw hK;obtain⟨xs,x,hq,hx⟩:=hg;obtain⟨its,rv,p,hz⟩:=I.list hq;obtain⟨u,hu,ru⟩:=rv.get hx;obtain⟨f0,f1,f2,f3,f4,f5⟩:=hf it (by simp);refine wpAny_pyNext_list_item st p.isList (x:=u) (by simpa using hu) λh' st' sb=>?_;have I1:Inv X pins σ H { s with heap:=h' }:=I.turned (t':=s.toks) (λb o hb e=>(sb.2 b hb).trans e) f0 f1 f3 f4 f5;obtain⟨o,e,c,d⟩:=id st';exact⟨u,rfl,nI (s:={ s with heap:=h' }) e c d (by decide) ⟨x,H,I1,ru,⟨rfl,λys hy=>by rw[I.list_inj hy hq]; exact hx⟩,st',λb hb=>(hf b hb).1⟩⟩
 done:=by
  intro X hP hw hK hc i pins s σ H E I hf st hg;subst hP hw hK;obtain⟨xs,hq,hx⟩:=hg;obtain⟨its,rv,p,hz⟩:=I.list hq;obtain⟨f0,f1,f2,f3,f4,f5⟩:=hf it (by simp);have hl:=rv.length;exact wpAny_pyNext_list_end (I.ok.hd hc) st p.isList (by simp; omega) λh' eb=>⟨rfl,I.turned (t':=s.toks) (λb o hb e=>eb b o hb e) f0 f1 f3 f4 f5⟩
 self:=λ_ _ _ _ _ st h=>wpAny_pyIter_listiter st h
def Eh {P:Program}{w:World}{K:be}{tg:Expr}(a it:Addr):Turn P w K tg (o4 K a) [it] it (λi h=>h.IsTupleIter it a i) where
 mem:=by simp
 obj:=λi h st b hb=>by
  have e:b=it:=by simpa using hb
  subst e;obtain⟨o,e,c,d⟩:=st;exact⟨o,e,λv z=>by rw[d] at z; cases z⟩
 keep:=λi h h' st k=>st.at λo e=>k it (by simp) o e
 item:=by
  intro X hP hw hK hc i pins s σ H E I hf st hg;subst hP hw hK;obtain⟨xs,x,hq,hx⟩:=hg;obtain⟨its,rv,p,hz⟩:=I.tuple hq;obtain⟨u,hu,ru⟩:=rv.get hx;obtain⟨f0,f1,f2,f3,f4,f5⟩:=hf it (by simp);refine wpAny_pyNext_tuple_item st (show s.heap.IsTuple a its.toArray from p) (x:=u) (by simpa using hu) λh' st' sb=>?_;have I1:Inv X pins σ H { s with heap:=h' }:=I.turned (t':=s.toks) (λb o hb e=>(sb.2 b hb).trans e) f0 f1 f3 f4 f5;obtain⟨o,e,c,d⟩:=id st';exact⟨u,rfl,nI (s:={ s with heap:=h' }) e c d (by decide) ⟨x,H,I1,ru,⟨rfl,λys hy=>by rw[I.tuple_inj hy hq]; exact hx⟩,st',λb hb=>(hf b hb).1⟩⟩
 done:=by
  intro X hP hw hK hc i pins s σ H E I hf st hg;subst hP hw hK;obtain⟨xs,hq,hx⟩:=hg;obtain⟨its,rv,p,hz⟩:=I.tuple hq;obtain⟨f0,f1,f2,f3,f4,f5⟩:=hf it (by simp);have hl:=rv.length;exact wpAny_pyNext_tuple_end (I.ok.hd hc) st (show s.heap.IsTuple a its.toArray from p) (by simp; omega) λh' eb=>⟨rfl,I.turned (t':=s.toks) (λb o hb e=>eb b o hb e) f0 f1 f3 f4 f5⟩
 self:=λ_ _ _ _ _ st h=>wpAny_pyIter_tupleiter st h
def zn {P:Program}{w:World}{K:be}{tg:Expr}(it:Addr)(lo:Int)(n:Nat):Turn P w K tg (kD lo n) [it] it (λi h=>IsRangeIter h it (lo+(i:Nat) * 1) ((n:Int) - (i:Nat)) 1) where
 mem:=by simp
 obj:=λi h st b hb=>by
  have e:b=it:=by simpa using hb
  subst e;exact⟨_,st,λv z=>by
   have z':Data.fields _=Data.cell v:=z;cases z'⟩
 keep:=λi h h' st k=>k it (by simp) _ st
 item:=by
  intro X hP hw hK hc i pins s σ H E I hf st hg;subst hP hw hK;obtain⟨f0,f1,f2,f3,f4,f5⟩:=hf it (by simp);have W:=Walks.range (prog:=X.prog) (w:=X.w) (I.ok.hd hc) it lo 1 n;refine W.item i s _ _ hg st λv h' tk hv st' kk=>?_;obtain⟨t,rfl⟩:=hv;have I1:Inv X pins σ H { s with heap:=h',toks:=tk }:=I.turned (λb o hb e=>kk b o (by simpa using hb) e) f0 f1 f3 f4 f5;refine⟨_,rfl,nI (s:={ s with heap:=h',toks:=tk }) (n := "range_iterator") st' rfl rfl (by decide) ⟨.int (lo+i),H,I1,⟨t,?_⟩,⟨rfl,rfl⟩,st',λb hb=>(hf b hb).1⟩⟩;rw[Int.mul_one]
 done:=by
  intro X hP hw hK hc i pins s σ H E I hf st hg;subst hP hw hK;obtain⟨f0,f1,f2,f3,f4,f5⟩:=hf it (by simp);exact wpAny_pyNext_range_end (I.ok.hd hc) st (by have:n<=i:=hg; omega) λh' eb=>⟨rfl,I.turned (t':=s.toks) (λb o hb e=>eb b o hb e) f0 f1 f3 f4 f5⟩
 self:=λ_ _ _ _ _ st h=>wpAny_pyIter_rangeiter st h
end L2
namespace L2
open PySem PySem.Spec PyProof.Rows
section
variable {X:Cx}{tg:Expr}
def kX (K:be)(tl:TE):TI:=λσ H R=>tl σ H λx H1=>∃a,x=.ref a/\(∃xs,SqL K H1 a xs)/\R (qL K a) H1
def rb (K:be)(tl:TE):TI:=λσ H R=>tl σ H λx H1=>∃a,x=.ref a/\(∃xs,SqT K H1 a xs)/\R (o4 K a) H1
def Em {l:Expr}{tl:TE}(hl:PE X l tl):PI X tg l (kX X.K tl):=by
 intro pins s σ H R I h;refine aV (hl pins s σ H _ I h) λv s1 hZz=>?_;obtain⟨x,H1,I1,r1,q1⟩:=hZz;obtain⟨a,e,⟨xs,hq⟩,q⟩:=q1;subst e;cases r1;obtain⟨its,rv,p,hz⟩:=I1.list hq;refine G0 p.isList ?_;refine⟨s1.heap.objs.size,[s1.heap.objs.size],_,_,H1,rfl,I1.kept (t':=s1.toks) λb o e=>bV _ e,yA a _,⟨_,c6 _ rfl,rfl,rfl⟩,λb hb=>?_,q⟩;have e:b=s1.heap.objs.size:=by simpa using hb
 subst e;exact I1.fpOk (bu _) (I1.hok.fresh (bu _))
def AI {l:Expr}{tl:TE}(hl:PE X l tl):PI X tg l (rb X.K tl):=by
 intro pins s σ H R I h;refine aV (hl pins s σ H _ I h) λv s1 hZz=>?_;obtain⟨x,H1,I1,r1,q1⟩:=hZz;obtain⟨a,e,⟨xs,hq⟩,q⟩:=q1;subst e;cases r1;obtain⟨its,rv,p,hz⟩:=I1.tuple hq;refine Hw (show s1.heap.IsTuple a its.toArray from p) ?_;refine⟨s1.heap.objs.size,[s1.heap.objs.size],_,_,H1,rfl,I1.kept (t':=s1.toks) λb o e=>bV _ e,Eh a _,⟨_,c6 _ rfl,rfl,rfl⟩,λb hb=>?_,q⟩;have e:b=s1.heap.objs.size:=by simpa using hb
 subst e;exact I1.fpOk (bu _) (I1.hok.fresh (bu _))
def sQ {pins:af}{σ:St}{H:Hp}{s:Shared}{R:It->Hp->Prop}{E:Value->Shared->Prop}{lo hi:Int}{t u v:Tok}{tk:Nat}(I:Inv X pins σ H s)(h1 : -(2 ^ 62)<=lo)(h2:lo<2 ^ 62)(h3 : -(2 ^ 62)<=hi)(h4:hi<2 ^ 62)
  (q:R (kD lo (hi - lo).toNat) H):wpAny (model X.prog X.w) X.A (pyIter (.ref s.heap.objs.size)) (vn X pins σ tg R) E { s with heap:=s.heap.push { cls:=.type "range",data:=.fields #[.int lo t,.int hi u,.int 1 v] },toks:=tk }:=by
 refine wpAny_pyIter_range (IsRange.new ..) (small_one h1 h2 h3 h4) ?_;have I1:Inv X pins σ H { s with heap:=s.heap.push { cls:=.type "range",data:=.fields #[.int lo t,.int hi u,.int 1 v] },toks:=tk }:=I.kept λb o e=>bV _ e;refine⟨(s.heap.push { cls:=.type "range",data:=.fields #[.int lo t,.int hi u,.int 1 v] }).objs.size,[(s.heap.push { cls:=.type "range",data:=.fields #[.int lo t,.int hi u,.int 1 v] }).objs.size],_,_,H,rfl,
  I1.kept (t':=tk) λb o e=>bV _ e,zn _ lo (hi - lo).toNat,?_,λb hb=>?_,q⟩
 .have e1:lo+((0:Nat):Int) * 1=lo:=by simp
  have e2:(((hi - lo).toNat:Nat):Int) - ((0:Nat):Int)=Builtin.Range.rangeSize lo hi 1:=by rw[rangeSize_one]; split <;> omega
  show IsRangeIter _ _ (lo+((0:Nat):Int) * 1) ((((hi - lo).toNat:Nat):Int) - ((0:Nat):Int)) 1;rw[e1,e2];exact c6 _ rfl
 .have e:b=(s.heap.push { cls:=.type "range",data:=.fields #[.int lo t,.int hi u,.int 1 v] }).objs.size:=by simpa using hb
  subst e;exact I1.fpOk (bu _) (I1.hok.fresh (bu _))
def l8 (ta:TA):TI:=λσ H R=>ta σ H λvs H1=>∃j:Int,vs=[.int j] /\ -(2 ^ 62)<=j/\j<2 ^ 62/\R (kD 0 j.toNat) H1
def lQ (ta:TA):TI:=λσ H R=>ta σ H λvs H1=>∃i j:Int,vs=[.int i,.int j]/\(-(2 ^ 62)<=i/\i<2 ^ 62 /\ -(2 ^ 62)<=j/\j<2 ^ 62)/\R (kD i (j - i).toNat) H1
def xA {a:Expr}{ta:TA}{p pos:Pos}(hg:Gl X "range")(hm:X.mg "range" = none)(ha:PA X [a] ta)(hs:starEach [a] X.env=[(false,eval a X.env)]:=by rfl):PI X tg (.Call (.Name "range" p) [a] [] pos) (l8 ta):=by
 intro pins s σ H R I h;refine Call_ (gg I hg hm boot_range (Fw (aV (ha pos pins s σ H _ I h) λus s1 hZz=>?_) hs rfl));obtain⟨vs,H1,I1,r1,q1⟩:=hZz;obtain⟨j,e,q1,q2,q⟩:=q1;subst e;cases r1 with
 | cons r rr=>
  cases rr;obtain⟨t,rfl⟩:=r;exact call_range_1 (sQ I1 (by omega) (by omega) q1 q2 (by simpa using q))
def xD (hg:Gl X "range")(hm:X.mg "range" = none)(ha:PA X [a,b] ta)(hs:starEach [a,b] X.env=[(false,eval a X.env),(false,eval b X.env)]:=by rfl)(hs2:starEach [b] X.env=[(false,eval b X.env)]:=by rfl) :
  PI X tg (.Call (.Name "range" p) [a,b] [] pos) (lQ ta):=by
 intro pins s σ H R I h;refine Call_ (gg I hg hm boot_range (Fw (aV (ha pos pins s σ H _ I h) λus s1 hZz=>?_) (by rw[hs,hs2]) (by rw[hs2]; rfl)));obtain⟨vs,H1,I1,r1,q1⟩:=hZz;obtain⟨i,j,e,⟨q1,q2,q3,q4⟩,q⟩:=q1;subst e;cases r1 with
 | cons r rr=>
  cases rr with
  | cons r' rr=>
   cases rr;obtain⟨t,rfl⟩:=r;obtain⟨t',rfl⟩:=r';exact call_range_2 (sQ I1 q1 q2 q3 q4 q)
def jH (wi:TI)(g:TG)(tb:TS):TS:=λD σ H=>wi σ H λJ H1=>∃W:Nat->Nat->St->Hp->Prop,(∃m,W 0 m σ H1)/\∀i m σ H,W i m σ H ->
 (J.stop i H/\D.nx σ H)\/(J.go i H/\∃N:St->Hp->Prop,(∀σ' H',N σ' H'->∃m',m'<m/\W (i+1) m' σ' H')/\∀x H',J.yld i H x H'->g x σ H' λσ2 H2=>tb { D with nx:=N,ct:=N,bk:=D.nx } σ2 H2)
noncomputable def cY (fp:ak)(h:Heap):af:=fp.filterMap λb=>(h.get? b).map λo=>(b,o)
def kz (hb:b∈fp)(e:h.get? b=some o):(b,o)∈cY fp h:=GX.mpr ⟨b,hb,by rw[e]; rfl⟩
def AQ (hp:p∈cY fp h):p.1∈fp/\h.get? p.1=some p.2:=by
 obtain⟨b,hb,e⟩:=GX.mp hp;cases q:h.get? b with
 | none=>rw[q] at e; cases e
 | some o=>
  rw[q] at e;have e':(b,o)=p:=cK e;subst e';exact⟨hb,q⟩
def Inv.pinned (I:Inv X pins σ H s)(hf:∀b∈fp,cR X pins H b)(ho:∀b∈fp,∃o,s.heap.get? b=some o/\∀v,o.data≠.cell v):Inv X (pins++cY fp s.heap) σ H s:=
 I.pins_of λp hp=>(dg hp).elim (λz=>I.pin p (ck _ z)) λz=>by
  obtain⟨hb,e⟩:=AQ z;obtain⟨f0,f1,f2,_⟩:=hf p.1 hb;obtain⟨o,e',d⟩:=ho p.1 hb;rw[e] at e'; cases e';exact⟨e,f0,f1,f2,d⟩
def Inv.unpinned (I:Inv X (pins++pl) σ H s):Inv X pins σ H s:=I.pins_of λp hp=>I.pin p (ck _ (dZ _ hp))
def Cu (hp:PassesOwn (model X.prog X.w) X.A X.env X.xe)(hc:X.calm=true)(hi:PI X tg iter wi)(hg:PG X tg g)(hb:PSs X body tb)
  (hs:∀x,foldedSetIterable iter X.env x=pure x:=by intro _; rfl):PS X (.For tg iter body [] pos) (jH wi g tb):=by
 intro pins s σ H D I h;refine wpAny_For (aV (hi pins s σ H _ I h) λv s1 h1=>aV h1 λitv s2 h2=>?_) hs;obtain⟨it,fp,tn,J,H2,e,I2,T,st2,f2,W,⟨m0,w0⟩,turn⟩:=h2;subst e;have stat:∀{H':Hp},(∀b∈fp,H' b=none)->∀b∈fp,cR X pins H' b:=λhn b hb=>⟨hn b hb,(f2 b hb).2⟩
 refine codeAny_forLoop_any (λn s'=>∃i σ' H',Inv X pins σ' H' s'/\tn i s'.heap/\(∀b∈fp,H' b=none)/\W i n σ' H') ?_ m0 ⟨0,σ,H2,I2,st2,λb hb=>(f2 b hb).1,w0⟩;rintro n s3 ⟨i,σ3,H3,I3,st3,fr3,w3⟩;rcases turn i n σ3 H3 w3 with ⟨stop,qn⟩ | ⟨go,N,hN,step⟩
 .refine Gn hp (aV (T.done X rfl rfl rfl hc i pins s3 σ3 H3 X.xe I3 (stat fr3) st3 stop) λr s4 hZz=>?_);obtain⟨hr,I4⟩:=hZz;subst hr;exact wpAny_execs_nil ⟨σ3,H3,I4,qn⟩
 .refine Gn hp (aV (T.item X rfl rfl rfl hc i pins s3 σ3 H3 X.xe I3 (stat fr3) st3 go) λr s4 hZz=>?_);obtain⟨u,hr,h4⟩:=hZz;subst hr;refine Gn hp (aV h4 λ_ s5 hZz=>?_);obtain⟨x,H5,I5,r5,y5,st5,fr5⟩:=hZz;have I5':=I5.pinned (stat fr5) (T.obj _ _ st5);refine Gn hp (aV (hg _ s5 σ3 H5 x u _ I5' r5 (step x H5 y5)) λ_ s6 hZz=>?_);obtain⟨σ6,H6,I6,q6⟩:=hZz;refine Gn hp (aV (hb _ s6 σ6 H6 _ I6 q6) λf s7 q7=>?_);have again:∀{σ7:St} {H7:Hp},Inv X (pins++cY fp s5.heap) σ7 H7 s7->N σ7 H7->∃m,m<n/\∃i σ' H',Inv X pins σ' H' s7/\tn i s7.heap/\(∀b∈fp,H' b=none)/\W i m σ' H':=λ{σ7 H7} I7 n7=>by
   obtain⟨m',hm,w7⟩:=hN σ7 H7 n7;refine⟨m',hm,i+1,σ7,H7,I7.unpinned,T.keep _ _ _ st5 λb hb o e=>(I7.pin (b,o) (ck _ (ck _ (kz hb e)))).1,λb hb=>?_,w7⟩;obtain⟨o,e,d⟩:=T.obj _ _ st5 b hb;exact (I7.pin (b,o) (ck _ (ck _ (kz hb e)))).2.1
  cases f with
  | next=>obtain⟨σ7,H7,I7,n7⟩:=q7; exact again I7 n7
  | cont=>obtain⟨σ7,H7,I7,n7⟩:=q7; exact again I7 n7
  | brk=>obtain⟨σ7,H7,I7,q7⟩:=q7; exact⟨σ7,H7,I7.unpinned,q7⟩
  | ret v=>obtain⟨x7,σ7,H7,I7,r7,q7⟩:=q7; exact⟨x7,σ7,H7,I7.unpinned,r7,q7⟩
end
end L2
namespace L2
open PySem PySem.Spec PyProof.Rows
abbrev R2:=V->V->Hp->VK->Prop
def OpR (X:Cx)(f:Value->Value->Sem Value)(r:R2):Prop:=
 ∀(pins:af) (s:Shared) (σ:St) (H:Hp) (x y:V) (v u:Value) (Q:VK),Inv X pins σ H s->RelV x v->RelV y u->r x y H Q ->
  wpAny (model X.prog X.w) X.A (f v u) (EP X pins σ Q) X.xe s
def qS (X:Cx)(f:Value->Sem Value)(r:V->Hp->VK->Prop):Prop:=
 ∀(pins:af) (s:Shared) (σ:St) (H:Hp) (x:V) (v:Value) (Q:VK),Inv X pins σ H s->RelV x v->r x H Q ->
  wpAny (model X.prog X.w) X.A (f v) (EP X pins σ Q) X.xe s
def CallR (X:Cx)(f:Value)(r:ar->Hp->VK->Prop):Prop:=
 ∀(pins:af) (s:Shared) (σ:St) (H:Hp) (xs:ar) (us:al) (Q:VK),Inv X pins σ H s->Vals xs us->r xs H Q ->
  wpAny (model X.prog X.w) X.A (call f us) (EP X pins σ Q) X.xe s
def iF (r:R2)(ta tb:TE):TE:=λσ H Q=>ta σ H λx H1=>tb σ H1 λy H2=>r x y H2 Q
def o9 (r:V->Hp->VK->Prop)(ta:TE):TE:=λσ H Q=>ta σ H λx H1=>r x H1 Q
def rI (C:Int->Int->Prop)(g:Int->Int->V):R2:=λx y H Q=>∃i j,x=.int i/\y=.int j/\C i j/\Q (g i j) H
def ie (g:Int->Int->V):R2:=λx y H Q=>∃i j,x=.int i/\y=.int j/\Q (g i j) H
def rU (g:Int->V):V->Hp->VK->Prop:=λx H Q=>∃i,x=.int i/\Q (g i) H
section
variable {X:Cx}{a b c:Expr}{ta tb tc:TE}{pos:Pos}
def i8 (ha:PE X a ta)(hb:PE X b tb){pins:af}{s:Shared}{σ:St}{H:Hp}{R:V->V->Hp->Prop}(I:Inv X pins σ H s)
  (h:ta σ H λx H1=>tb σ H1 λy H2=>R x y H2){Q:Value->Shared->Prop}{f:Value->Value->Sem Value}
  (hf:∀v u s2 x y H2,Inv X pins σ H2 s2->RelV x v->RelV y u->R x y H2->wpAny (model X.prog X.w) X.A (f v u) Q X.xe s2) :
  wpAny (model X.prog X.w) X.A (eval a X.env) (λv s₁=>wpAny (model X.prog X.w) X.A (eval b X.env) (λu s₂=>wpAny (model X.prog X.w) X.A (f v u) Q X.xe s₂) X.xe s₁) X.xe s:=by
 refine aV (ha pins s σ H _ I h) λv s1 hZz=>?_;obtain⟨x,H1,I1,r1,q1⟩:=hZz;refine aV (hb pins s1 σ H1 _ I1 q1) λu s2 hZz=>?_;obtain⟨y,H2,I2,r2,q2⟩:=hZz;exact hf v u s2 x y H2 I2 r1 r2 q2
def kM {op:Operator}{r:R2}(ho:OpR X (binaryOp op) r)(ha:PE X a ta)(hb:PE X b tb):PE X (.BinOp a op b pos) (iF r ta tb):=by
 intro pins s σ H Q I h;exact wpAny_BinOp (i8 ha hb I h λv u s2 x y H2 I2 rx ry q=>ho pins s2 σ H2 x y v u Q I2 rx ry q)
def vg (ho:qS X (unaryOp op) r)(ha:PE X a ta):PE X (.UnaryOp op a pos) (o9 r ta):=by
 intro pins s σ H Q I h;exact UnaryOp_ (aV (ha pins s σ H _ I h) λv s1 ⟨x,H1,I1,r1,q1⟩=>ho pins s1 σ H1 x v Q I1 r1 q1)
def mT {f:Value->Value->Sem Value}{C:Int->Int->Prop}{g:Int->Int->Int}
  (rule:∀(i j:Int) (t u:Tok) (s:Shared) (Q:Value->Shared->Prop) (E:Value->Shared->Prop),C i j->Q (.int (g i j) s.toks) { s with toks:=s.toks+1 }->wpAny (model X.prog X.w) X.A (f (.int i t) (.int j u)) Q E s) :
  OpR X f (rI C λi j=>.int (g i j)):=by
 intro pins s σ H x y v u Q I rx ry h;obtain⟨i,j,rfl,rfl,hc,q⟩:=h;obtain⟨t,rfl⟩:=rx;obtain⟨t',rfl⟩:=ry;exact rule i j t t' s _ _ hc ⟨.int (g i j),H,I.tok _,⟨_,rfl⟩,q⟩
def k7 {f:Value->Value->Sem Value}{g:Int->Int->Int}
  (rule:∀(i j:Int) (t u:Tok) (s:Shared) (Q:Value->Shared->Prop) (E:Value->Shared->Prop),Q (.int (g i j) s.toks) { s with toks:=s.toks+1 }->wpAny (model X.prog X.w) X.A (f (.int i t) (.int j u)) Q E s) :
  OpR X f (ie λi j=>.int (g i j)):=by
 intro pins s σ H x y v u Q I rx ry h;obtain⟨i,j,rfl,rfl,q⟩:=h;obtain⟨t,rfl⟩:=rx;obtain⟨t',rfl⟩:=ry;exact rule i j t t' s _ _ ⟨.int (g i j),H,I.tok _,⟨_,rfl⟩,q⟩
def gO {f:Value->Value->Sem Value}{g:Int->Int->Bool}
  (rule:∀(i j:Int) (t u:Tok) (s:Shared) (Q:Value->Shared->Prop) (E:Value->Shared->Prop),Q (.bool (g i j)) s->wpAny (model X.prog X.w) X.A (f (.int i t) (.int j u)) Q E s) :
  OpR X f (ie λi j=>.bl (g i j)):=by
 intro pins s σ H x y v u Q I rx ry h;obtain⟨i,j,rfl,rfl,q⟩:=h;obtain⟨t,rfl⟩:=rx;obtain⟨t',rfl⟩:=ry;exact rule i j t t' s _ _ ⟨.bl (g i j),H,I,rfl,q⟩
def qp (i j:Int):Prop:=0<=j/\j<=1000000/\i.natAbs<2 ^ 64
def CMul (i j:Int):Prop:=(-(2 ^ 64)<i/\i<2 ^ 64)\/(-(2 ^ 64)<j/\j<2 ^ 64)
def CMul.ok (h:CMul i j):IntMulOk i j:=by
 rcases h with ⟨h1,h2⟩ | ⟨h1,h2⟩
 .exact .of_left (intBits_le_64 h1 h2)
 .exact .of_right (intBits_le_64 h1 h2)
def C2:OpR X (binaryOp .Add) (ie λi j=>.int (i+j)):=k7 λ_ _ _ _ _ _ _ q=>add_int q
def AN:OpR X (binaryOp .Sub) (ie λi j=>.int (i - j)):=k7 λ_ _ _ _ _ _ _ q=>sub_int q
def Ez:OpR X (binaryOp .Mult) (rI CMul λi j=>.int (i * j)):=mT λ_ _ _ _ _ _ _ hc q=>mul_int q hc.ok
def xz:OpR X (binaryOp .Mod) (rI (λ_ j=>0<j) λi j=>.int (i % j)):=mT λi j _ _ _ _ _ hc q=>by
 have h1:(0:Int)<j:=hc;exact mod_int' (by omega) (by rw[Int.fmod_eq_emod_of_nonneg i (by omega)]; exact q)
def Av:OpR X (binaryOp .Pow) (rI qp λi j=>.int (i ^ j.toNat)):=mT λ_ _ _ _ _ _ _ hc q=>pow_int_small hc.1 hc.2.1 hc.2.2 q
def wW {f:Value->Sem Value}{g:Int->Int}
  (rule:∀(i:Int) (t:Tok) (s:Shared) (Q:Value->Shared->Prop) (E:Value->Shared->Prop),Q (.int (g i) s.toks) { s with toks:=s.toks+1 }->wpAny (model X.prog X.w) X.A (f (.int i t)) Q E s) :
  qS X f (rU λi=>.int (g i)):=by
 intro pins s σ H x v Q I rx h;obtain⟨i,rfl,q⟩:=h;obtain⟨t,rfl⟩:=rx;exact rule i t s _ _ ⟨.int (g i),H,I.tok _,⟨_,rfl⟩,q⟩
def uR:qS X (unaryOp .USub) (rU λi=>.int (-i)):=wW λ_ _ _ _ _ q=>neg_int q
end
noncomputable def scal:V->V->Bool
 | .non,.non=>true | .non,.int _=>true | .int _,.non=>true | .non,.bl _=>true | .bl _,.non=>true | .non,.str _=>true | .str _,.non=>true
 | .int _,.int _=>true | .bl _,.bl _=>true | .str _,.str _=>true | .byt _,.byt _=>true
 | .int _,.str _=>true | .str _,.int _=>true | .bl _,.str _=>true | .str _,.bl _=>true
 | _,_=>false
section
variable {X:Cx}{a b c:Expr}{ta tb tc:TE}{pos:Pos}
def DE:OpR X (compareOp .Lt) (ie λi j=>.bl (decide (i<j))):=gO λ_ _ _ _ _ _ _ q=>lt_int q
def ya:OpR X (compareOp .LtE) (ie λi j=>.bl (decide (i<=j))):=gO λ_ _ _ _ _ _ _ q=>le_int q
def Ad:OpR X (compareOp .Gt) (ie λi j=>.bl (decide (j<i))):=gO λ_ _ _ _ _ _ _ q=>gt_int q
def Dh:OpR X (compareOp .GtE) (ie λi j=>.bl (decide (j<=i))):=gO λ_ _ _ _ _ _ _ q=>ge_int q
def OpR.or (h:OpR X f r)(h':OpR X f r'):OpR X f (λx y H Q=>r x y H Q\/r' x y H Q):=by
 intro pins s σ H x y v u Q I rx ry q;rcases q with q | q
 .exact h pins s σ H x y v u Q I rx ry q
 .exact h' pins s σ H x y v u Q I rx ry q
def jJ (b:Expr)(h:op≠.In:=by decide)(h2:op≠.NotIn:=by decide):behindInMarks op b=false:=by
 have e1:(op == CmpOp.In)=false:=by cases op <;> first | rfl | exact absurd rfl h
 have e2:(op == CmpOp.NotIn)=false:=by cases op <;> first | rfl | exact absurd rfl h2
 cases b <;> simp[behindInMarks,e1,e2]
def Bs {op:CmpOp}{r:R2}(ho:OpR X (compareOp op) r)(ha:PE X a ta)(hb:PE X b tb)(hm:behindInMarks op b=false):PE X (.Compare a [op] [b] pos) (iF r ta tb):=by
 intro pins s σ H Q I h;exact wpAny_Compare1 (i8 ha hb I h λv u s2 x y H2 I2 rx ry q=>ho pins s2 σ H2 x y v u Q I2 rx ry q) hm
def iQ (t:TE):TT:=λσ H Q=>t σ H λx H'=>∃k,x=.bl k/\Q k H'
def BM (ho:OpR X (compareOp op) r)(ha:PE X a ta)(hb:PE X b tb)(hm:behindInMarks op b=false):PT X (.Compare a [op] [b] pos) (iQ (iF r ta tb)):=by
 intro pins s σ H Q I h;refine wpAny_isTrue_Compare1 (aV (ha pins s σ H _ I h) λv s1 ⟨x,H1,I1,r1,q1⟩=>aV (hb pins s1 σ H1 _ I1 q1) λu s2 ⟨y,H2,I2,r2,q2⟩=>
  aV (ho pins s2 σ H2 x y v u _ I2 r1 r2 q2) λc s3 ⟨z,H3,I3,r3,k,e,q3⟩=>?_) hm
 subst e;cases r3;exact FJ ⟨H3,I3,q3⟩
def d9 (r r':R2)(ta tb tc:TE):TE:=λσ H Q=>ta σ H λx H1=>tb σ H1 λy H2=>r x y H2 λz H3=>∃k,z=.bl k /\
 (if k=true then tc σ H3 λw' H4=>r' y w' H4 Q else Q (.bl false) H3)
def Eo (ho:OpR X (compareOp op) r)(ho':OpR X (compareOp op') r')(ha:PE X a ta)(hb:PE X b tb)(hc:PE X c tc)
  (hm:lastMarks [op,op'] [b,c]=false:=by with_unfolding_all rfl):PE X (.Compare a [op,op'] [b,c] pos) (d9 r r' ta tb tc):=by
 intro pins s σ H Q I h;refine Compare_chain (aV (ha pins s σ H _ I h) λv s1 ⟨x,H1,I1,r1,q1⟩=>chain_link (aV (hb pins s1 σ H1 _ I1 q1) λu s2 ⟨y,H2,I2,r2,q2⟩=>
  aV (ho pins s2 σ H2 x y v u _ I2 r1 r2 q2) λd s3 ⟨z,H3,I3,r3,k,e,q3⟩=>?_)) hm
 subst e;cases r3;refine FJ ?_;cases k with
 | false=>exact ite_ff ⟨.bl false,H3,I3,rfl,q3⟩
 | true=>exact ite_tt (chain_last (aV (hc pins s3 σ H3 _ I3 q3) λw' s4 ⟨z',H4,I4,r4,q4⟩=>ho' pins s4 σ H4 y z' u w' Q I4 r2 r4 q4))
def xt (ho:OpR X (compareOp op) r)(ho':OpR X (compareOp op') r')(ha:PE X a ta)(hb:PE X b tb)(hc:PE X c tc)
  (hm:lastMarks [op,op'] [b,c]=false:=by with_unfolding_all rfl):PT X (.Compare a [op,op'] [b,c] pos) (iQ (d9 r r' ta tb tc)):=by
 intro pins s σ H Q I h;refine isTrue_chain (aV (ha pins s σ H _ I h) λv s1 ⟨x,H1,I1,r1,q1⟩=>test_link (aV (hb pins s1 σ H1 _ I1 q1) λu s2 ⟨y,H2,I2,r2,q2⟩=>
  aV (ho pins s2 σ H2 x y v u _ I2 r1 r2 q2) λd s3 ⟨z,H3,I3,r3,k,e,q3⟩=>?_)) hm
 subst e;cases r3;refine FJ ?_;cases k with
 | false=>
  obtain⟨k',e',q'⟩:=q3;cases e';exact ite_ff ⟨H3,I3,q'⟩
 | true=>
  refine ite_tt (test_last (aV (hc pins s3 σ H3 _ I3 q3) λw' s4 ⟨z',H4,I4,r4,q4⟩=>aV (ho' pins s4 σ H4 y z' u w' _ I4 r2 r4 q4) λd' s5 hZz=>?_));obtain⟨z2,H5,I5,r5,k2,e2,q5⟩:=hZz;subst e2;cases r5;exact FJ ⟨H5,I5,q5⟩
def d4:(sizeLine:Nat)<2 ^ 63:=by rw[sizeLine_eq]; decide
def vals1 (r:Vals [x] us):∃u,us=[u]/\RelV x u:=by
 cases r with
 | cons r1 r2=>cases r2; exact⟨_,rfl,r1⟩
def vals2 (r:Vals [x,y] us):∃u w',us=[u,w']/\RelV x u/\RelV y w':=by
 cases r with
 | cons r1 r2=>
  cases r2 with
  | cons r3 r4=>cases r4; exact⟨_,_,rfl,r1,r3⟩
def xB (hc:X.calm=true):CallR X (.builtin "min") (λxs H Q=>∃i j,xs=[.int i,.int j]/\Q (.int (if j<i then j else i)) H):=by
 intro pins s σ H xs us Q I r h;obtain⟨i,j,rfl,q⟩:=h;obtain⟨u,w',rfl,⟨t,rfl⟩,⟨t',rfl⟩⟩:=vals2 r;refine min_two_ints (I.ok.hd hc) λh' tk k=>⟨_,H,I.kept k,?_,q⟩
 by_cases hj:j<i
 .rw[if_pos hj,if_pos hj]; exact⟨_,rfl⟩
 .rw[if_neg hj,if_neg hj]; exact⟨_,rfl⟩
def yr:CallR X (.type "int") (λxs H Q=>(∃i,xs=[.int i]/\Q (.int i) H)\/∃k,xs=[.bl k]/\Q (.int (if k then 1 else 0)) H):=by
 intro pins s σ H xs us Q I r h;rcases h with ⟨i,rfl,q⟩ | ⟨k,rfl,q⟩
 .obtain⟨u,rfl,t,rfl⟩:=vals1 r;exact call_int_int ⟨.int i,H,I,⟨_,rfl⟩,q⟩
 .obtain⟨u,rfl,r1⟩:=vals1 r;cases r1;exact call_int_bool ⟨.int (if k then 1 else 0),H,I.tok _,⟨_,rfl⟩,q⟩
end
end L2
namespace L2
open PySem PySem.Spec PyProof.Rows
structure ObjM (h:Heap)(x dx C:Addr)(mA:Str->ay):Prop where
 obj:h.get? x=some (PySem.W.instObj C dx)
 ns:h.Ns1 dx mA
 ne:dx≠x
def A3 {h:Heap}{dx:Addr}{mA:Str->ay}(n:h.Ns1 dx mA):∃od,h.get? dx=some od/\∀name,PySem.W.lookIn name od=some (mA name):=by
 obtain⟨o,es,ep,ho,hd,hk,_,hm⟩:=n;refine⟨o,ho,λname=>?_⟩;have e:=hm name;unfold nsFind findBy at e;rw[<-Array.find?_toList] at e;unfold PySem.W.lookIn;rw[hd];dsimp only;split
 .rename_i y q;rw[q] at e;exact congrArg some e
 .rename_i q;rw[q] at e;have a:es.toList.any (·.refKey)=false:=by
   rw[List.any_eq_false];intro y hy;obtain⟨z,t,hkey⟩:=hk y (Array.mem_toList_iff.mp hy);simp[DictEntry.refKey,hkey]
  have a':¬es.toList.any (·.refKey)=true:=by rw[a]; exact Fy
  rw[if_neg a'];exact congrArg some e
def ObjM.look (I:ObjM h x dx C mA):∃od,PySem.W.InstAt h x (PySem.W.instObj C dx) C (some od)/\∀name,PySem.W.lookIn name od=some (mA name):=
 let ⟨od,ho,hl⟩:=A3 I.ns
 ⟨od,⟨I.obj,rfl,rfl,ho⟩,hl⟩
section
variable {prog:Program}{w:World}{A:Around}{E:Value->Shared->Prop}{s:Shared}{K:be}{x dx C f:Addr}{mA:Str->ay}{name:Str}{v:Value}
def AG (X:K.In s.heap)(I:ObjM s.heap x dx C mA)(hg:PySem.W.plainGet K C name=true)(hh:PySem.W.hasDictIn K C=true)
  (ha:PySem.W.findIn K (.ref C) name=some none)(hv:mA name=some v)(hv':PySem.W.handedIn v=true)(h:Q v { s with toks:=s.toks+1 }) :
  wpAny (model prog w) A (getAttr (.ref x) name expr) Q E s:=by
 obtain⟨od,J,hl⟩:=I.look;exact PySem.W.get_value X J (Hq hg).1 (PySem.W.findObj_own hh ha rfl (by rw[hl,hv])) hv' h
def Ac (X:K.In s.heap)(I:ObjM s.heap x dx C mA)(hg:PySem.W.plainGet K C name=true)
  (hf:PySem.W.findIn K (.ref C) name=some (some (.ref f)))(ht:PySem.W.isFn K (.ref f)=true)(hv:mA name=none)(h:Q (.ref f,[.ref x]) s) :
  wpAny (model prog w) A (getMethod (.ref x) name pl) Q E s:=by
 obtain⟨od,J,hl⟩:=I.look;exact PySem.W.method_fn X J (Hq hg).1 (Hq hg).2 hf (Fm.mp ht) (by show (PySem.W.lookIn name od).map (·.isSome)=some false; rw[hl,hv]; rfl) h
def wo (X:K.In s.heap)(I:ObjM s.heap x dx C mA)
  (hs:PySem.W.findIn K (.ref C) "__setattr__" = some (some (.builtin "object.__setattr__")))(hp:PySem.W.plainOver K C=true)(ht:PySem.W.takerIn K C name=some none)(hh:PySem.W.hasDictIn K C=true)
  (hw:PySem.Within mA ns)(hsz:ns.length<=sizeLine)
  (h:∀h',ObjM h' x dx C (λy=>if y=name then some v else mA y)->Heap.SameBut dx s.heap h'->Q () { s with heap:=h',toks:=s.toks+2 }) :
  wpAny (model prog w) A (setAttr (.ref x) name v) Q E s:=by
 obtain⟨od,J,hl⟩:=I.look;refine PySem.W.set_plain X J hs (PySem.W.osa_open (s:={ s with toks:=s.toks+1 }) (r:=none) X J hp ht λb=>?_);obtain⟨cd,hc,hd'⟩:=PySem.W.any_some hh;have hx:s.heap.get? x=some ⟨.ref C,some dx,.plain,#[]⟩:=I.obj;refine aK (aW (aK (aK (wpAny_loadPart hx (aK (PySem.W.Looks.here (s:={ s with toks:=s.toks+1 }) (PySem.W.looks_clsIn X hc) ?_))))));rw[hd'];refine aW (a:=some dx) (aK (aW (aK ?_)));refine wpAny_nsSet1 (s:={ s with toks:=s.toks+1 }) I.ns λh' hn2 hs2=>?_;obtain⟨oD,esD,epD,hoD,hdD,hcD⟩:=hn2.count (PySem.Within.cons name v hw);refine aK (wpAny_lookBehind hoD (by rw[hdD]; exact pastItsLine_dict (bv hcD (by rw[List.length_cons]; omega))) ?_);exact aW (h _ ⟨(hs2.2 _ (GR I.ne)).trans I.obj,hn2,I.ne⟩ hs2)
def wH (X:K.In s.heap)(hm:PySem.W.makesIn K C=true)
  (hi:PySem.W.findIn K (.ref C) "__init__" = some (some (.ref f)))(hf:PySem.W.typeIn K (.ref f)=some (.type "function"))
  (h:codeAny (model prog w) (A.under (.builtin "type.__call__" ⟨.ref C::vs,kw⟩)) (.call (.ref f) ⟨.ref (s.heap.objs.size+1)::vs,kw⟩) (PySem.W.InitBack (s.heap.objs.size+1) R)
   { s with heap:=(s.heap.push PySem.W.emptyDict).push (PySem.W.instObj C s.heap.objs.size) }) :
  codeAny (model prog w) A (.call (.ref C) ⟨vs,kw⟩) R s:=by
 obtain⟨hh,g,d,t,os⟩:=s;exact PySem.W.make_core (PySem.W.makes_of X hm) (PySem.W.looks_findIn X hi) (λself=>PySem.W.bind_fn X self hf) (.inl rfl) h
end
noncomputable def putF (f:Str)(v:V):List (Str×V)->List (Str×V)
 | []=>[(f,v)]
 | (g,x)::r=>if g=f then (g,v)::r else (g,x)::putF f v r
theorem vN (f g:Str)(v:V):∀fs:List (Str×V),(putF f v fs).lookup g=if g=f then some v else fs.lookup g
 | []=>by
  show List.lookup g [(f,v)]=_;by_cases h:g=f
  .have hb:(g == f)=true:=Fm.mpr h;simp only[List.lookup,hb,if_pos h]
  .have hb:(g == f)=false:=Gb.mpr h;simp only[List.lookup,hb,if_neg h]
 | (k,x)::r=>by
  have ih:=vN f g v r;rw[show putF f v ((k,x)::r)=(if k=f then (k,v)::r else (k,x)::putF f v r) from rfl];by_cases hk:k=f
  .rw[if_pos hk];by_cases h:g=k
   .have hb:(g == k)=true:=Fm.mpr h;simp only[List.lookup,hb,if_pos (h.trans hk)]
   .have hb:(g == k)=false:=Gb.mpr h;simp only[List.lookup,hb,if_neg (λe:g=f=>h (e.trans hk.symm))]
  .rw[if_neg hk];by_cases h:g=k
   .have hb:(g == k)=true:=Fm.mpr h;simp only[List.lookup,hb,if_neg (λe:g=f=>hk (h.symm.trans e))]
   .have hb:(g == k)=false:=Gb.mpr h;simp only[List.lookup,hb];exact ih
theorem ot (f:Str)(v:V):∀fs:List (Str×V),f∈(putF f v fs).map (·.1)/\∀g,g∈fs.map (·.1)->g∈(putF f v fs).map (·.1)
 | []=>⟨by simp[putF],λg h=>by simp at h⟩
 | (k,x)::r=>by
  obtain⟨i1,i2⟩:=ot f v r;rw[show putF f v ((k,x)::r)=(if k=f then (k,v)::r else (k,x)::putF f v r) from rfl];by_cases hk:k=f
  .rw[if_pos hk];subst hk;exact⟨by simp,λg h=>by simpa using h⟩
  .rw[if_neg hk];refine⟨?_,λg h=>?_⟩
   .rw[Fk];exact bX _ i1
   .rw[Fk] at h ⊢;rcases cZ h with e | e
    .exact Fu.mpr (.inl e)
    .exact bX _ (i2 g e)
theorem tS (f:Str)(v:V):∀fs:List (Str×V),(putF f v fs).length<=fs.length+1
 | []=>by simp[putF]
 | (k,x)::r=>by
  have ih:=tS f v r;rw[show putF f v ((k,x)::r)=(if k=f then (k,v)::r else (k,x)::putF f v r) from rfl];by_cases hk:k=f
  .rw[if_pos hk,List.length_cons,List.length_cons]; omega
  .rw[if_neg hk,List.length_cons,List.length_cons]; omega
def RelO.some_of (r:RelO (some v) o):∃u,o=some u/\RelV v u:=by
 cases o with
 | none=>exact (show False from r).elim
 | some u=>exact⟨u,rfl,r⟩
def RelO.none_of (r:RelO none o):o=none:=by
 cases o with
 | none=>rfl
 | some u=>exact (show False from r).elim
def DQ (r:RelV v u):PySem.W.handedIn u=true:=by
 cases v with
 | non=>cases (show u=Value.none from r); rfl
 | bl b=>cases (show u=Value.bool b from r); rfl
 | int i=>obtain⟨t,e⟩:=(show ∃t,u=Value.int i t from r); cases e; rfl
 | str x=>obtain⟨t,e⟩:=(show ∃t,u=Value.str x t from r); cases e; rfl
 | byt b=>obtain⟨t,e⟩:=(show ∃t,u=Value.bytes b t from r); cases e; rfl
 | flt b=>obtain⟨t,e⟩:=(show ∃t,u=Value.float b t from r); cases e; rfl
 | ref a=>cases (show u=Value.ref a from r); rfl
 | ty n=>cases (show u=Value.type n from r); rfl
section
variable {P:Program}{w:World}{H H':Hp}{h h':Heap}{a C dx:Addr}{fs fs':List (Str×V)}
def nK (hok:HOk P w H h)(e:H a=some (.ins C dx fs)):∃mA,ObjM h a dx C mA/\(∀f,RelO (fs.lookup f) (mA f))/\PySem.Within mA (fs.map (·.1))/\fs.length<=1000/\H dx=some (.own a):=by
 obtain⟨d,z,ne,ob,mA,n,r,q⟩:=(show ObjOk P w H h a (.ins C dx fs) from hok a _ e)
 exact⟨mA,⟨ob,n,ne⟩,r,q,z,d⟩
end
structure Cls (K:be)(C:Addr):Prop where
 pg:PySem.W.plainGet K C Str.empty=true
 hd:PySem.W.hasDictIn K C=true
 po:PySem.W.plainOver K C=true
 sa:PySem.W.findIn K (.ref C) "__setattr__" = some (some (.builtin "object.__setattr__"))
def Cls.get {K:be}{C:Addr}(c:Cls K C)(f:Str):PySem.W.plainGet K C f=true:=c.pg
def NoAttr (K:be)(C:Addr)(f:Str):Prop:=PySem.W.findIn K (.ref C) f=some none
def NoAttr.taker {K:be}{C:Addr}{f:Str}(n:NoAttr K C f):PySem.W.takerIn K C f=some none:=by
 unfold PySem.W.takerIn;rw[show PySem.W.findIn K (.ref C) f=some none from n];rfl
structure Meth (K:be)(C:Addr)(m:Str)(f:Addr):Prop where
 at_:PySem.W.findIn K (.ref C) m=some (some (.ref f))
 fn:PySem.W.isFn K (.ref f)=true
 kp:PySem.W.keepIn K (.ref f)=true
section
variable {X:Cx}{pins:af}{σ:St}{H:Hp}{s:Shared}{a C dx:Addr}{fs:List (Str×V)}{f:Str}{v:V}{A:Around}{E:Value->Shared->Prop}
def Dm (I:Inv X pins σ H s)(e:H a=some (.ins C dx fs))(c:Cls X.K C)(n:NoAttr X.K C f)(l:fs.lookup f=some v)
  (h:∀u s',Inv X pins σ H s'->RelV v u->Q u s'):wpAny (model X.prog X.w) A (getAttr (.ref a) f b) Q E s:=by
 obtain⟨mA,O,r,_,_,_⟩:=nK I.hok e;obtain⟨u,hu,ru⟩:=RelO.some_of (v:=v) (o:=mA f) (by rw[<-l]; exact r f);exact AG I.kIn O (c.get f) c.hd n hu (DQ ru) (h u _ (I.tok _) ru)
def t4 (I:Inv X pins σ H s)(e:H a=some (.ins C dx fs))(c:Cls X.K C)(k:Meth X.K C m g)(l:fs.lookup m=none)
  (h:Q (.ref g,[.ref a]) s):wpAny (model X.prog X.w) A (getMethod (.ref a) m pl) Q E s:=by
 obtain⟨mA,O,r,_,_,_⟩:=nK I.hok e;have hn:mA m=none:=RelO.none_of (by rw[<-l]; exact r m);exact Ac I.kIn O (c.get m) k.at_ k.fn hn h
def xG (I:Inv X pins σ H s)(e:H a=some (.ins C dx fs))(c:Cls X.K C)(n:NoAttr X.K C f)(hl:fs.length<1000)(ry:RelV y u)
  (h:∀s',Inv X pins σ (upd H a (.ins C dx (putF f y fs))) s'->Q () s'):wpAny (model X.prog X.w) A (setAttr (.ref a) f u) Q E s:=by
 obtain⟨mA,O,r,wi,_,ho⟩:=nK I.hok e;have hz:(fs.map (·.1)).length<=sizeLine:=by rw[Fj,sizeLine_eq]; omega
 refine wo I.kIn O c.sa c.po n.taker c.hd wi hz λh' O' sb=>h _ ?_;have hd:∃o,h'.get? dx=some o:=let ⟨o,_,_,e',_⟩:=O'.ns; ⟨o,e'⟩
 refine I.write (x:=a) (e:=dx) (by rw[e]; exact Hl) (.inr ho) (λb q hb z=>(sb.2 b hb).trans z) hd ?_;refine⟨by rw[bT O.ne]; exact ho,?_,O.ne,O'.obj,_,O'.ns,λg=>?_,λg hg=>?_⟩
 .have:=tS f y fs; omega
 .show RelO ((putF f y fs).lookup g) (if g=f then some u else mA g);rw[vN];by_cases q:g=f
  .rw[if_pos q,if_pos q]; exact ry
  .rw[if_neg q,if_neg q]; exact r g
 .by_cases q:g=f
  .rw[q]; exact (ot f y fs).1
  .refine (ot f y fs).2 g (wi g λz=>hg ?_);show (if g=f then some u else mA g)=none;rw[if_neg q]; exact z
def Inv.made (I:Inv X pins σ H s):Inv X pins σ (upd (upd H s.heap.objs.size (.own (s.heap.objs.size+1))) (s.heap.objs.size+1) (.ins C s.heap.objs.size []))
  { s with heap:=(s.heap.push PySem.W.emptyDict).push (PySem.W.instObj C s.heap.objs.size) }:=by
 have e1:(s.heap.push PySem.W.emptyDict).get? s.heap.objs.size=some PySem.W.emptyDict:=c6 s.heap rfl;have e2:((s.heap.push PySem.W.emptyDict).push (PySem.W.instObj C s.heap.objs.size)).get? (s.heap.objs.size+1)=some (PySem.W.instObj C s.heap.objs.size):=by
  have:=c6 (s.heap.push PySem.W.emptyDict) (o:=PySem.W.instObj C s.heap.objs.size) rfl
  rwa [Fz] at this
 have e3:(s.heap.push PySem.W.emptyDict).Ns s.heap.objs.size (λ_=>none):=⟨PySem.W.emptyDict,#[],_,e1,rfl,(λe he=>absurd he (by simp)),λ_=>rfl⟩
 have I1:=I.laid (a:=s.heap.objs.size) (o:=.own (s.heap.objs.size+1)) (h':=s.heap.push PySem.W.emptyDict) (t':=s.toks) (λb u q=>bV _ q) (bu _) ⟨_,e1⟩;refine I1.laid (a:=s.heap.objs.size+1) (o:=.ins C s.heap.objs.size []) (t':=s.toks) (λb u q=>bV _ q) (Nat.le_of_eq (Fz _ _)) ?_;have ne:s.heap.objs.size≠s.heap.objs.size+1:=dr (Gf _);refine⟨by rw[bT ne,cQ],FS _,ne,e2,λ_=>none,(Heap.Ns1.of_empty e3).at λo q=>bV _ q,λ_=>Hl,λy hy=>absurd rfl hy⟩
def yv (hb:attributeBase e f env (eval e env)=eval e env)
  (h:wpAny (model prog w) A (eval e env) (λo s₁=>wpAny (model prog w) A (getAttr o f true) Q E s₁) E s):wpAny (model prog w) A (eval (.Attribute e f pos) env) Q E s:=
 Attribute_any_ h (by rw[arm_eval_Attribute,hb])
end
def pK (K:be)(ta:TE)(f:Str):TE:=λσ H Q=>ta σ H λx H1=>∃a C dx fs v,x=.ref a/\H1 a=some (.ins C dx fs)/\Cls K C/\NoAttr K C f/\fs.lookup f=some v/\Q v H1
def jV (K:be)(ta tv:TE)(f:Str):TS:=λD σ H=>tv σ H λy H1=>ta σ H1 λx H2=>∃a C dx fs,x=.ref a/\H2 a=some (.ins C dx fs)/\Cls K C/\NoAttr K C f/\fs.length<1000 /\
 D.nx σ (upd H2 a (.ins C dx (putF f y fs)))
section
variable {X:Cx}{o e value:Expr}{f:Str}{pos pos' tpos:Pos}{ta tv:TE}
def Ee (he:PE X e ta)(hb:attributeBase e f X.env (eval e X.env)=eval e X.env):PE X (.Attribute e f pos) (pK X.K ta f):=by
 intro pins s σ H Q I h;refine yv hb (aV (he pins s σ H _ I h) λu s1 hZz=>?_);obtain⟨x,H1,I1,rx,a,C,dx,fs,v,ex,ea,c,n,l,q⟩:=hZz;subst ex;obtain rfl:u=Value.ref a:=rx;exact Dm I1 ea c n l λu' s2 I2 ru=>⟨v,H1,I2,ru,q⟩
def D4 (ha:PE X o ta)(hv:PE X value tv)(hs:swapsWith value (some (.Attribute o f pos')) pos.line X.env=pure false):PS X (.Assign [.Attribute o f pos'] value pos) (jV X.K ta tv f):=by
 intro pins s σ H D I h;refine plainObj_wpAny_Assign_Attribute (aV (hv pins s σ H _ I h) λu s1 ⟨y,H1,I1,ry,q⟩=>aV (ha pins s1 σ H1 _ I1 q) λov s2 hZz=>?_) hs;obtain⟨x,H2,I2,rx,a,C,dx,fs,ex,ea,c,n,l,q2⟩:=hZz;subst ex;obtain rfl:ov=Value.ref a:=rx;exact xG I2 ea c n l ry λs3 I3=>⟨σ,_,I3,q2⟩
end
section
variable {X:Cx}{pins:af}{σ:St}{H:Hp}{s:Shared}{A:Around}{E:Value->Shared->Prop}{Q:Value->Shared->Prop}{c:Value}{b:Bool}
inductive TyOf (K:be) (H:Hp):V->Value->Prop where
 | non:TyOf K H .non (.type "NoneType")
 | bl (x:Bool):TyOf K H (.bl x) (.type "bool")
 | int (i:Int):TyOf K H (.int i) (.type "int")
 | str (x:Str):TyOf K H (.str x) (.type "str")
 | flt (x:UInt64):TyOf K H (.flt x) (.type "float")
 | lst {a:Addr} {xs:ar} (e:H a=some (.lst xs)):TyOf K H (.ref a) (.type "list")
 | frz {a:Addr} {o:Obj} {xs:ar} (e:H a=some (.frz o (.lst xs))):TyOf K H (.ref a) (.type "list")
 | tup {a:Addr} {xs:ar} (e:H a=some (.tup xs)):TyOf K H (.ref a) (.type "tuple")
 | dK {a:Addr} {kvs:List (eB×V)} (e:H a=some (.dK kvs)):TyOf K H (.ref a) (.type "dict")
 | dT {a:Addr} {kvs:List (List eB×V)} (e:H a=some (.dT kvs)):TyOf K H (.ref a) (.type "dict")
 | ins {a C dx:Addr} {fs:List (Str×V)} (e:H a=some (.ins C dx fs)) (cl:Cls K C) (ha:PySem.W.findIn K (.ref C) "__class__" = some (some (.builtin "object.__class__")))
   (hn:PySem.W.specialIn K (.builtin "object.__class__") "__get__" = some (some (.builtin "getset_descriptor.__get__"))) (htk:PySem.W.takesIn K (.builtin "object.__class__")=some true)
   (hm:PySem.W.mroIn K C (.type "object")=some true):TyOf K H (.ref a) (.ref C)
def i7 (I:Inv X pins σ H s)(rx:RelV x u)(ty:TyOf X.K H x t)(e:PySem.W.kitOne X.K t c=some b)(h:∀tk,Q (.bool b) { s with toks:=tk }) :
  wpAny (model X.prog X.w) A (call (.builtin "isinstance") [u,c]) Q E s:=by
 cases ty with
 | non=>cases (show u=Value.none from rx); exact FL PySem.W.kitx_none I.kIn Hl e (λz=>nomatch z) h
 | bl y=>cases (show u=Value.bool y from rx); exact FL PySem.W.kitx_bool I.kIn Hl e (λz=>nomatch z) h
 | int i=>obtain⟨t,q⟩:=(show ∃t,u=Value.int i t from rx); cases q; exact FL PySem.W.kitx_int I.kIn Hl e (λz=>nomatch z) h
 | str y=>obtain⟨t,q⟩:=(show ∃t,u=Value.str y t from rx); cases q; exact FL PySem.W.kitx_str I.kIn Hl e (λz=>nomatch z) h
 | flt y=>obtain⟨t,q⟩:=(show ∃t,u=Value.float y t from rx); cases q; exact FL PySem.W.kitx_float I.kIn Hl e (λz=>nomatch z) h
 | @lst a xs ea=>
  cases (show u=Value.ref a from rx);obtain⟨_,_,n,_,h1⟩:=(show ObjOk X.prog X.w H s.heap a (.lst xs) from I.hok a _ ea)
  exact FL PySem.W.kitx_list I.kIn ⟨_,h1,rfl⟩ e (λz=>nomatch z) h
 | @frz a ob xs ea=>
  cases (show u=Value.ref a from rx);obtain⟨_,_,_,n,_,h1⟩:=(show ObjOk X.prog X.w H s.heap a (.frz ob (.lst xs)) from I.hok a _ ea)
  exact FL PySem.W.kitx_list I.kIn ⟨_,h1,rfl⟩ e (λz=>nomatch z) h
 | @tup a xs ea=>
  cases (show u=Value.ref a from rx);obtain⟨_,_,_,p⟩:=(show ObjOk X.prog X.w H s.heap a (.tup xs) from I.hok a _ ea)
  obtain⟨o,h1,h2,_⟩:=p;exact FL PySem.W.kitx_tuple I.kIn ⟨o,h1,h2⟩ e (λz=>nomatch z) h
 | @dK a kvs ea=>
  cases (show u=Value.ref a from rx);obtain⟨_,_,vs,_,p⟩:=(show ObjOk X.prog X.w H s.heap a (.dK kvs) from I.hok a _ ea)
  obtain⟨o,es,ep,h1,h2,_⟩:=p;exact FL PySem.W.kitx_dict I.kIn ⟨o,h1,h2.1⟩ e (λz=>nomatch z) h
 | @dT a kvs ea=>
  cases (show u=Value.ref a from rx);obtain⟨_,_,xs,_,o,es,ep,h1,h2,_⟩:=(show ObjOk X.prog X.w H s.heap a (.dT kvs) from I.hok a _ ea)
  exact FL PySem.W.kitx_dict I.kIn ⟨o,h1,h2.1⟩ e (λz=>nomatch z) h
 | @ins a C dx fs ea cl ha hn htk hm=>
  cases (show u=Value.ref a from rx);obtain⟨mA,O,_⟩:=nK I.hok ea;obtain⟨od,J,_⟩:=O.look;exact FL (PySem.W.kitx_own (cl.get _) cl.hd ha hn htk hm) I.kIn J e (λz=>nomatch z) h
end
end L2
namespace L2
open PySem PySem.Spec PyProof.Rows
structure Room (k:Nat)(A:Around):Prop where
 hd:A.handled=none
 dp:A.depth+3 * k+5<recursionLimit
 un:A.units+16 * k+200<cLine
def Room.mono (r:Room k A)(h:j<=k):Room j A:=⟨r.hd,by have:=r.dp; omega,by have:=r.un; omega⟩
theorem Room.deeper (r:Room (k+1) A)(env:Env):Room k (A.deeper env):=
 ⟨r.hd,by have:=r.dp; show A.depth+1+3 * k+5<_; omega,by have:=r.un; show A.units+3+16 * k+200<_; omega⟩
def zW {A:Around}{C:Addr}{us:al}{kw:List (Str×Value)}:(A.under (.builtin "type.__call__" ⟨.ref C::us,kw⟩)).depth=A.depth+1:=by
 first | rfl | simp[Around.under,Code.weight,Code.isCreation,Code.isGuard,Code.isCaller,Code.frames,Code.isFrame,guardIds]
def Dq {A:Around}{C:Addr}{us:al}{kw:List (Str×Value)}:(A.under (.builtin "type.__call__" ⟨.ref C::us,kw⟩)).units=A.units+1:=by
 first | rfl | simp[Around.under,Code.cUnits,Code.frames,Code.isFrame]
def Room.make (r:Room (k+1) A)(C:Addr)(us:al)(kw:List (Str×Value)):Room k (A.under (.builtin "type.__call__" ⟨.ref C::us,kw⟩)):=
 ⟨r.hd,by have:=r.dp; rw[zW]; omega,by have:=r.un; rw[Dq]; omega⟩
theorem Room.depth (r:Room k A):A.depth<recursionLimit:=by have:=r.dp; omega
theorem Room.units (r:Room k A):A.units+64<cLine:=by have:=r.un; omega
def d8:TA:=λ_ H Q=>Q [] H
def bU (ta:TE)(tr:TA):TA:=λσ H Q=>ta σ H λx H1=>tr σ H1 λxs H2=>Q (x::xs) H2
section
variable {X:Cx}{e:Expr}{es:aq}{te:TE}{t:TA}{pos:Pos}
def iB:PA X [] d8:=λ_ _ _ _ H Q I h=>GL ⟨[],H,I,.nil,h⟩
def gx (ha:PE X e te)(hr:PA X es t)(hs:starEach (e::es) X.env=(false,eval e X.env)::starEach es X.env:=by rfl):PA X (e::es) (bU te t):=by
 intro pos pins s σ H Q I h;rw[hs];show wpAny _ _ (spliced ((false,eval e X.env)::backTo pos (starEach es X.env))) _ _ s;refine Gy (aV (ha pins s σ H _ I h) λu s1 hZz=>?_);obtain⟨x,H1,I1,r1,q1⟩:=hZz;exact aV (hr pos pins s1 σ H1 _ I1 q1) λus s2 ⟨xs,H2,I2,r2,q2⟩=>⟨x::xs,H2,I2,.cons r1 r2,q2⟩
def mj (t:TA):TE:=λσ H Q=>t σ H λxs H1=>xs.length<=sizeLine/\∀p,H1 p=none->Q (.ref p) (upd H1 p (.tup xs))
def pi (t:TA):TE:=λσ H Q=>t σ H λxs H1=>xs.length<=sizeLine/\∀p,H1 p=none->Q (.ref p) (upd H1 p (.lst xs))
def tF {x1}(h:PA X es t):PE X (.Tuple es x1 pos) (mj t):=by
 intro pins s σ H Q I hq;refine wpAny_Tuple_spliced (aV (h pos pins s σ H _ I hq) λus s1 ⟨xs,H1,I1,r,z,q⟩=>⟨by rw[<-r.length]; exact z,?_⟩);have hf:H1 s1.heap.objs.size=none:=I1.hok.fresh (bu _);refine⟨.ref s1.heap.objs.size,upd H1 s1.heap.objs.size (.tup xs),I1.laid (t':=s1.toks) (λb u e=>bV _ e) (bu _) ?_,rfl,q _ hf⟩;exact⟨z,us,r,⟨_,c6 _ rfl,rfl,⟨_,rfl⟩,rfl⟩⟩
def y2 (h:PA X es t):PE X (.List es pos) (pi t):=by
 intro pins s σ H Q I hq;refine wpAny_List_spliced (aV (h pos pins s σ H _ I hq) λus s1 ⟨xs,H1,I1,r,z,q⟩=>⟨by rw[<-r.length]; exact z,?_⟩);have hf:H1 s1.heap.objs.size=none:=I1.hok.fresh (bu _);refine⟨.ref s1.heap.objs.size,upd H1 s1.heap.objs.size (.lst xs),I1.laid (t':=s1.toks) (λb u e=>bV _ e) (bu _) ?_,rfl,q _ hf⟩;exact⟨z,us,0,r,c6 _ rfl⟩
end
abbrev Sp:=ar->Hp->VK->XK->Prop
abbrev gk:=List Env->Hp->Shared->XK->Value->Shared->Prop
structure Env0 (P:Program)(w:World)(K:be)(mg:Str->ay)(base:Heap)(A:Around)(outer:List Env)(s:Shared)(H:Hp):Prop where
 frames:A.frames=some outer
 mod:Mod K mg base
 bs:∀b o,base.get? b=some o->s.heap.get? b=some o/\H b=none
 bsz:base.objs.size<=s.heap.objs.size
 funs:s.heap.FunFrames base outer
 frf:∀b∈fG outer,H b=none
 hok:HOk P w H s.heap
 bare:AllBare s.gens
def CE (outer:List Env)(P:Program)(w:World)(H:Hp)(s:Shared)(Q:VK)(u:Value)(s':Shared):Prop:=
 ∃v H',s'.os=s.os/\AllBare s'.gens/\Un (fG outer) [] H H' s.heap s'.heap/\HOk P w H' s'.heap/\RelV v u/\Q v H'
def CR (CX:gk)(outer:List Env)(P:Program)(w:World)(H:Hp)(s:Shared)(Q:VK)(E:XK)(r:Result)(s':Shared):Prop:=
 match r with
 | .ok (.ret u)=>CE outer P w H s Q u s'
 | .ok _=>False
 | .error e=>CX outer H s E e s'
structure FnOk (P:Program)(w:World)(K:be)(mg:Str->ay)(base:Heap)(CX:gk)(k:Nat)(f:Addr)(fd:FuncData)(ps:ao)(sp:Sp):Prop where
 len:∀vs H Q E,sp vs H Q E->vs.length=ps.length
 run:∀(A:Around) (outer:List Env) (s:Shared) (H:Hp) (args:Args) (us:al) (vs:ar) (Q:VK) (E:XK),Room k A->Env0 P w K mg base A outer s H->BindsTo s fd args (ps.zip us)->Vals vs us->sp vs H Q E ->
  codeAny (model P w) A (.call (.ref f) args) (CR CX outer P w H s Q E) s
def FnOk.imp {P:Program}{w:World}{K:be}{mg:Str->ay}{base:Heap}{CX:gk}{k:Nat}{f:Addr}{fd:FuncData}{ps:ao}{sp sp':Sp}(F:FnOk P w K mg base CX k f fd ps sp)
  (h:∀vs H Q E,sp' vs H Q E->sp vs H Q E):FnOk P w K mg base CX k f fd ps sp':=
 ⟨λvs H Q E q=>F.len vs H Q E (h _ _ _ _ q),λA outer s H args us vs Q E hr he hb hv hs=>F.run A outer s H args us vs Q E hr he hb hv (h _ _ _ _ hs)⟩
def Env0.make {P:Program}{w:World}{K:be}{mg:Str->ay}{base:Heap}{A:Around}{outer:List Env}{s:Shared}{H:Hp}(e:Env0 P w K mg base A outer s H)(C:Addr)(us:al)(kw:List (Str×Value)) :
  Env0 P w K mg base (A.under (.builtin "type.__call__" ⟨.ref C::us,kw⟩)) outer s H:=⟨by first | exact e.frames | (simpa[Around.under,Code.envs,Code.isFrame,pushEnvs] using e.frames),e.mod,e.bs,e.bsz,e.funs,e.frf,e.hok,e.bare⟩
section
variable {X:Cx}{pins:af}{σ:St}{H:Hp}{s s':Shared}
def Inv.env0 (I:Inv X pins σ H s):Env0 X.prog X.w X.K X.mg X.base X.A X.stack s H:=
 ⟨I.ok.frames,I.ok.mod,I.bs,bv I.ok.bsz I.sz,I.stack,I.stkFree,I.hok,I.bare⟩
def Inv.after (I:Inv X pins σ H s)(h:CE X.stack X.prog X.w H s Q u s'):EP X pins σ Q u s':=by
 obtain⟨v,H',os,bare,un,hok,r,q⟩:=h;obtain⟨hh,g,d,t,os'⟩:=s';obtain rfl:os'=s.os:=os;exact⟨v,H',I.call (h':=hh) (g':=g) (d':=d) (t':=t) (ch:=[]) un hok bare (λb z=>absurd z (by simp)),r,q⟩
end
def dN (sp:Sp)(dvs:ar)(E:St->XK)(t:TA):TE:=λσ H Q=>t σ H λvs H1=>sp (vs++dvs) H1 Q (E σ)
def eD (C:Addr)(m:Str)(sp:Sp)(dvs:ar)(E:St->XK)(ta:TE)(t:TA):TE:=λσ H Q=>ta σ H λx H1=>∃a dx fs,x=.ref a/\H1 a=some (.ins C dx fs)/\fs.lookup m=none /\
 t σ H1 λvs H2=>sp (x::(vs++dvs)) H2 Q (E σ)
def fR (C:Addr)(sp:Sp)(dvs:ar)(E:St->XK)(t:TA):TE:=λσ H Q=>t σ H λvs H1=>∀x dx,H1 x=none->H1 dx=none->dx≠x ->
 sp (.ref x::(vs++dvs)) (upd (upd H1 dx (.own x)) x (.ins C dx [])) (λv H2=>v=.non/\Q (.ref x) H2) (E σ)
def Binds (K:be)(fd:FuncData)(ps:ao)(ds:al):Prop:=
 ∀(s:Shared) (us:al),K.In s.heap->(us++ds).length=ps.length->BindsTo s fd ⟨us,[]⟩ (ps.zip (us++ds))
def Binds.all {K:be}{fd:FuncData}{ps:ao}(h:∀us:al,us.length=ps.length->bindArgs fd ⟨us,[]⟩=pure (ps.zip us)):Binds K fd ps []:=λs us _ hl=>by
 rw[Ga] at hl ⊢;exact .of_eq (h us hl)
def bH (CX:gk)(X:Cx)(E:St->XK):Prop:=∀(pins:af) (σ:St) (H:Hp) (s:Shared) (e:Value) (s':Shared),Inv X pins σ H s->CX X.stack H s (E σ) e s'->X.xe e s'
section
variable {X:Cx}{CX:gk}{k:Nat}{f C:Addr}{fd:FuncData}{ps:ao}{sp:Sp}{dvs:ar}{ds:al}{E:St->XK}{x m:Str}{p pos apos:Pos}{e o:Expr}{es:aq}{ta:TE}{t:TA}
def m9 (F:FnOk X.prog X.w X.K X.mg X.base CX k f fd ps sp)(hr:Room k X.A)(hb:Binds X.K fd ps ds)(hd:Vals dvs ds)(hx:bH CX X E)
  (I:Inv X pins σ H s)(r:Vals vs us)(h:sp (vs++dvs) H Q (E σ)):wpAny (model X.prog X.w) X.A (call (.ref f) us) (EP X pins σ Q) X.xe s:=by
 have r2:Vals (vs++dvs) (us++ds):=r.append hd;have hl:(us++ds).length=ps.length:=by rw[<-r2.length]; exact F.len _ _ _ _ h
 refine wpAny_call (G1 (F.run X.A X.stack s H ⟨us,[]⟩ (us++ds) (vs++dvs) Q (E σ) hr I.env0 (hb s us I.kIn hl) r2 h) λr s' hq=>?_);cases r with
 | error e=>exact hx pins σ H s e s' I hq
 | ok fl=>
  cases fl with
  | ret u=>exact I.after hq
  | next=>exact False.elim hq
  | brk=>exact False.elim hq
  | cont=>exact False.elim hq
def sF (F:FnOk X.prog X.w X.K X.mg X.base CX k f fd ps sp)(hr:Room k X.A)(hg:Gl X x)(hm:X.mg x=some (.ref f))(hk:PySem.W.keepIn X.K (.ref f)=true)(hb:Binds X.K fd ps ds)(hd:Vals dvs ds)(hx:bH CX X E)
  (ha:PA X (e::es) t)(hdb:(x == ("__debug__" : Str))=false:=by decide)(he:starEach (e::es) X.env=(false,eval e X.env)::starEach es X.env:=by rfl)(hpl:(backTo pos (starEach es X.env)).any (·.1)=false:=by rfl) :
  PE X (.Call (.Name x p) (e::es) [] pos) (dN sp dvs E t):=by
 intro pins s σ H Q I h;refine FK (mi I hg hm ?_ hdb);refine Hx (h₀:=X.base) I.ok.mod.kin hk (aV (ha pos pins s σ H _ I h) λus s1 ⟨vs,H1,I1,r,q⟩=>⟨I1.kIn,?_⟩) he hpl;exact m9 F hr hb hd hx I1 r q
def x8 (F:FnOk X.prog X.w X.K X.mg X.base CX k f fd ps sp)(hr:Room k X.A)(hg:Gl X x)(hm:X.mg x=some (.ref f))(hk:PySem.W.keepIn X.K (.ref f)=true)(hb:Binds X.K fd ps ds)(hd:Vals dvs ds)(hx:bH CX X E)
  (hdb:(x == ("__debug__" : Str))=false:=by decide):PE X (.Call (.Name x p) [] [] pos) (dN sp dvs E d8):=by
 intro pins s σ H Q I h;refine FK (mi I hg hm ?_ hdb);exact Hr I.kIn hk (m9 (us:=[]) F hr hb hd hx I .nil h)
def B4 (he:PE X o ta)(c:Cls X.K C)(hm:Meth X.K C m f)(F:FnOk X.prog X.w X.K X.mg X.base CX k f fd ps sp)(hr:Room k X.A)(hb:Binds X.K fd ps ds)(hd:Vals dvs ds)(hx:bH CX X E)(ha:PA X (e::es) t)
  (hst:starEach (e::es) X.env=(false,eval e X.env)::starEach es X.env:=by rfl)(hpl:(backTo pos (starEach es X.env)).any (·.1)=false:=by rfl)
  (ht:eval (.Call (.Attribute o m apos) (e::es) [] pos) X.env=(do
   let ov <-eval o X.env
   standAt apos.atName
   let (f,first) <-holding [ov] (getMethod ov m pl)
   callWith pos f first (backTo pos (starEach (e::es) X.env)) (backToKw pos (keywordEach [] X.env))):=by rfl) :
  PE X (.Call (.Attribute o m apos) (e::es) [] pos) (eD C m sp dvs E ta t):=by
 intro pins s σ H Q I h;refine PySem.W.methodCall_KW (pl:=pl) (aV (he pins s σ H _ I h) λu s1 hZz=>?_) ht;obtain⟨x,H1,I1,rx,a,dx,fs,ex,ea,l,q⟩:=hZz;subst ex;obtain rfl:u=Value.ref a:=rx;refine t4 I1 ea c hm l ?_;refine Hx (first:=[.ref a]) (h₀:=X.base) I.ok.mod.kin hm.kp (aV (ha pos pins s1 σ H1 _ I1 q) λus s2 ⟨vs,H2,I2,r,q2⟩=>⟨I2.kIn,?_⟩) hst hpl;exact m9 (us:=.ref a::us) (vs:=.ref a::vs) F hr hb hd hx I2 (.cons rfl r) q2
def AD (he:PE X o ta)(c:Cls X.K C)(hm:Meth X.K C m f)(F:FnOk X.prog X.w X.K X.mg X.base CX k f fd ps sp)(hr:Room k X.A)(hb:Binds X.K fd ps ds)(hd:Vals dvs ds)(hx:bH CX X E)
  (ht:eval (.Call (.Attribute o m apos) [] [] pos) X.env=(do
   let ov <-eval o X.env
   standAt apos.atName
   let (f,first) <-holding [ov] (getMethod ov m pl)
   callWith pos f first (backTo pos (starEach [] X.env)) (backToKw pos (keywordEach [] X.env))):=by rfl) :
  PE X (.Call (.Attribute o m apos) [] [] pos) (eD C m sp dvs E ta d8):=by
 intro pins s σ H Q I h;refine PySem.W.methodCall_KW (pl:=pl) (aV (he pins s σ H _ I h) λu s1 hZz=>?_) ht;obtain⟨x,H1,I1,rx,a,dx,fs,ex,ea,l,q⟩:=hZz;subst ex;obtain rfl:u=Value.ref a:=rx;refine t4 I1 ea c hm l ?_;exact Hr (first:=[.ref a]) I1.kIn hm.kp (m9 (us:=[.ref a]) (vs:=[.ref a]) F hr hb hd hx I1 (.cons rfl .nil) q)
structure Mk (K:be)(C f:Addr):Prop where
 makes:PySem.W.makesIn K C=true
 init:PySem.W.findIn K (.ref C) "__init__" = some (some (.ref f))
 fn:PySem.W.isFn K (.ref f)=true
 kp:PySem.W.keepIn K (.ref C)=true
def u8 (M:Mk X.K C f)(F:FnOk X.prog X.w X.K X.mg X.base CX k f fd ps sp)(hr:Room (k+1) X.A)(hb:Binds X.K fd ps ds)(hd:Vals dvs ds)
  (hx:bH CX X E)(I:Inv X pins σ H s)(r:Vals vs us)
  (h:∀x dx,H x=none->H dx=none->dx≠x->sp (.ref x::(vs++dvs)) (upd (upd H dx (.own x)) x (.ins C dx [])) (λv H2=>v=.non/\Q (.ref x) H2) (E σ)) :
  wpAny (model X.prog X.w) X.A (call (.ref C) us) (EP X pins σ Q) X.xe s:=by
 have hq:=h (s.heap.objs.size+1) s.heap.objs.size (I.hok.fresh (F0 _)) (I.hok.fresh (bu _)) (dr (Gf _));have I2:=Inv.made (C:=C) I;have r2:Vals (V.ref (s.heap.objs.size+1)::(vs++dvs)) (Value.ref (s.heap.objs.size+1)::(us++ds)):=.cons rfl (r.append hd);have hl:(Value.ref (s.heap.objs.size+1)::us++ds).length=ps.length:=by
  have e:=r2.length;rw[F.len _ _ _ _ hq] at e;exact e.symm
 refine wpAny_call (wH (f:=f) I.kIn M.makes M.init (Fm.mp M.fn) (G1 (F.run _ X.stack _ _ ⟨Value.ref (s.heap.objs.size+1)::us,[]⟩ (Value.ref (s.heap.objs.size+1)::(us++ds)) _ _ (E σ) (hr.make C us [])
  (I2.env0.make C us []) (hb _ (Value.ref (s.heap.objs.size+1)::us) I2.kIn hl) r2 hq) λr s' hq'=>?_))
 cases r with
 | error e=>exact hx pins σ _ _ e s' I2 hq'
 | ok fl=>
  cases fl with
  | ret u=>
   obtain⟨v,H',I3,rv,ev,q3⟩:=I2.after hq';subst ev;exact⟨rv,⟨V.ref (s.heap.objs.size+1),H',I3,rfl,q3⟩⟩
  | next=>exact False.elim hq'
  | brk=>exact False.elim hq'
  | cont=>exact False.elim hq'
def xE (M:Mk X.K C f)(F:FnOk X.prog X.w X.K X.mg X.base CX k f fd ps sp)(hr:Room (k+1) X.A)(hg:Gl X x)(hm:X.mg x=some (.ref C))(hb:Binds X.K fd ps ds)(hd:Vals dvs ds)(hx:bH CX X E)
  (ha:PA X (e::es) t)(hdb:(x == ("__debug__" : Str))=false:=by decide)(he:starEach (e::es) X.env=(false,eval e X.env)::starEach es X.env:=by rfl)(hpl:(backTo pos (starEach es X.env)).any (·.1)=false:=by rfl) :
  PE X (.Call (.Name x p) (e::es) [] pos) (fR C sp dvs E t):=by
 intro pins s σ H Q I h;refine FK (mi I hg hm ?_ hdb);refine Hx (h₀:=X.base) I.ok.mod.kin M.kp (aV (ha pos pins s σ H _ I h) λus s1 ⟨vs,H1,I1,r,q⟩=>⟨I1.kIn,?_⟩) he hpl;exact u8 M F hr hb hd hx I1 r q
def wD (M:Mk X.K C f)(F:FnOk X.prog X.w X.K X.mg X.base CX k f fd ps sp)(hr:Room (k+1) X.A)(hg:Gl X x)(hm:X.mg x=some (.ref C))(hb:Binds X.K fd ps ds)(hd:Vals dvs ds)(hx:bH CX X E)
  (hdb:(x == ("__debug__" : Str))=false:=by decide):PE X (.Call (.Name x p) [] [] pos) (fR C sp dvs E d8):=by
 intro pins s σ H Q I h;refine FK (mi I hg hm ?_ hdb);exact Hr I.kIn M.kp (u8 (us:=[]) M F hr hb hd hx I .nil h)
end
section
variable {X:Cx}{CX:gk}{k:Nat}{f C:Addr}{fd:FuncData}{ps ks:ao}{sp:Sp}{E:St->XK}{x m:Str}{p pos apos kpos:Pos}{e o:Expr}{es:aq}{kws:List Keyword}{te ta:TE}{t tk:TA}{nm:Option Str}
variable {g:al->al->al}{gV:ar->ar->ar}
end
structure FnScope (N P:ao)(sc:Scope):Prop where
 kind:sc.kind=.function
 co:sc.isCoroutine=false
 gen:sc.isGenerator=false
 nd:N.Nodup
 pre:N.take P.length=P
 par:∀x∈P,sc.names.lookup x=some .local\/sc.names.lookup x=some .cell
 nofree:∀y∈sc.names,y.2≠.free
theorem tf {kindOf:Str->Option NameKind}{x:Str}:∀{binds:List (Str×Value)} {m:Str->ay},(∀v,(x,v)∉binds)->bindL kindOf binds m x=m x
 | [],_,_=>rfl
 | (n,v)::r,m,h=>by
  unfold bindL;rw[tf λw hw=>h w (Go _ hw)];split
  .have:x≠n:=by rintro rfl; exact h v bW
   simp[this]
  .rfl
theorem wc {kindOf:Str->Option NameKind}{x:Str}:∀{binds:List (Str×Value)} {m:Str->ay},(∀v,(x,v)∉binds)->bindC kindOf binds m x=m x
 | [],_,_=>rfl
 | (n,v)::r,m,h=>by
  unfold bindC;rw[wc λw hw=>h w (Go _ hw)];split
  .rfl
  .have:x≠n:=by rintro rfl; exact h v bW
   simp[this]
theorem vv {kindOf:Str->Option NameKind}{x:Str}{v:Value}:∀{P:ao} {vs:al} {i:Nat} {m:Str->ay},P.Nodup->P[i]? = some x->vs[i]? = some v->kindOf x=some .local ->
  bindL kindOf (P.zip vs) m x=some v
 | [],_,_,_,_,h,_,_=>by simp at h
 | _::_,[],_,_,_,_,h,_=>by simp at h
 | p::P,w::vs,0,m,nd,h1,h2,hk=>by
  simp at h1 h2; subst h1; subst h2;show bindL kindOf ((p,w)::P.zip vs) m p=_;unfold bindL;rw[tf λv hv=>(FB.mp nd).1 (List.of_mem_zip hv).1,if_pos hk];simp
 | p::P,w::vs,i+1,m,nd,h1,h2,hk=>by
  show bindL kindOf ((p,w)::P.zip vs) m x=_;unfold bindL;exact vv (i:=i) (FB.mp nd).2 (by simpa using h1) (by simpa using h2) hk
theorem ua {kindOf:Str->Option NameKind}{x:Str}{v:Value}:∀{P:ao} {vs:al} {i:Nat} {m:Str->ay},P.Nodup->P[i]? = some x->vs[i]? = some v->kindOf x≠some .local ->
  bindC kindOf (P.zip vs) m x=some v
 | [],_,_,_,_,h,_,_=>by simp at h
 | _::_,[],_,_,_,_,h,_=>by simp at h
 | p::P,w::vs,0,m,nd,h1,h2,hk=>by
  simp at h1 h2; subst h1; subst h2;show bindC kindOf ((p,w)::P.zip vs) m p=_;unfold bindC;rw[wc λv hv=>(FB.mp nd).1 (List.of_mem_zip hv).1,if_neg hk];simp
 | p::P,w::vs,i+1,m,nd,h1,h2,hk=>by
  show bindC kindOf ((p,w)::P.zip vs) m x=_;unfold bindC;exact ua (i:=i) (FB.mp nd).2 (by simpa using h1) (by simpa using h2) hk
noncomputable def start (N:ao)(vs:ar):St:=vs.map some++List.replicate (N.length - vs.length) none
noncomputable def fe (CX:gk)(P:Program)(w:World)(K:be)(mg:Str->ay)(base:Heap)(N:ao)(qual:Str)(scope:Scope)(f:Addr)(cd:Value)(A:Around)(outer:List Env)(s:Shared)(H:Hp)(E:XK):Cx where
 prog:=P
 w:=w
 K:=K
 mg:=mg
 base:=base
 A:=A.deeper (envOfC qual scope s.heap.objs.size f cd)
 N:=N
 s₀:=s
 H₀:=H
 env:=envOfC qual scope s.heap.objs.size f cd
 outer:=outer
 stack:=envOfC qual scope s.heap.objs.size f cd::outer
 ex:=[]
 calm:=true
 fn:=λ_=>true
 pn:=[]
 xe:=λe s'=>wpAny (model P w) (A.deeper (envOfC qual scope s.heap.objs.size f cd)) (leaving (envOfC qual scope s.heap.objs.size f cd) e) (λ_ s''=>CX outer H s E e s'') (λe' s''=>CX outer H s E e' s'') s'
def we {sc:Scope}{n:Nat}{x:Str}(h:sc.names.lookup x=some .cell):∃c,(cellsFrom n sc.names []).lookup x=some c:=by
 have q:=PySem.W.cellsFrom_some sc.names n [] (.inl h);exact Option.isSome_iff_exists.mp q
def DS {CX:gk}{P:Program}{w:World}{K:be}{mg:Str->ay}{base:Heap}{N ps:ao}{qual:Str}{scope:Scope}{f:Addr}{cd:Value}{A:Around}{outer:List Env}{s s1:Shared}{H:Hp}{E:XK}{us:al}{vs:ar}
  (S:FnScope N ps scope)(hd:A.handled=none)(e0:Env0 P w K mg base A outer s H)(hl:vs.length=ps.length)(r:Vals vs us)
  (x:InCallC s s.heap.objs.size (bindL (envOfC qual scope s.heap.objs.size f cd).kindOf (ps.zip us) λ_=>none) (cellsFrom (s.heap.objs.size+1) scope.names []) (bindC (envOfC qual scope s.heap.objs.size f cd).kindOf (ps.zip us) λ_=>none) s1) :
  Inv (fe CX P w K mg base N qual scope f cd A outer s H E) [] (start N vs) H s1:=by
 have hpl:ps.length<=N.length:=by have:=congrArg List.length S.pre; rw[Gg] at this; omega
 obtain⟨h1,tk,rfl,hk⟩:=x.done;have noA:∀b:Addr,b∉(fe CX P w K mg base N qual scope f cd A outer s H E).ex:=λb z=>absurd (show b∈([]:ak) from z) (by simp);refine⟨⟨e0.mod,S.kind,rfl,rfl,bu _,λy z c h1 h2=>?_,λy hy=>?_,λy c _ h=>?_,λ_=>hd,Around.frames_deeper e0.frames,.inr ⟨rfl,rfl⟩,λb z=>absurd z (noA b),e0.bs,e0.bsz,λb _ _=>noA b,λb z=>absurd z (noA b),e0.funs,e0.frf⟩,
  rfl,e0.bare,Un.kept hk,⟨_,x.toInCall.ns,λi y v h1 h2 h3=>?_⟩,λy c h=>⟨_,x.cell y c h⟩,e0.hok.fresh (bu _),λy c h=>?_,λp hp=>absurd (show p∈([]:af) from hp) (by simp),e0.hok.kept hk,?_⟩
 .exact name_of_addr x.apart (FP h1) (FP h2)
 .have hy:scope.names.lookup y=some .cell\/scope.names.lookup y=some .free:=hy;rcases hy with hy | hy
  .exact we hy
  .exact absurd rfl (S.nofree _ (FP hy))
 .exact GQ (x.above y c (FP h))
 .have hi:i<vs.length:=by
   unfold start at h2;by_cases hi:i<vs.length
   .exact hi
   .rw[List.getElem?_append_right (by simpa using hi)] at h2;rw[List.getElem?_replicate] at h2;split at h2 <;> cases h2
  have ha:vs[i]? = some v:=by
   unfold start at h2;rw[GS (by simpa using hi),Fs] at h2;cases e:vs[i]? with
   | none=>rw[e] at h2; cases h2
   | some a=>rw[e] at h2; cases h2; rfl
  obtain⟨u,hu,rv⟩:=r.get ha;have hp:ps[i]? = some y:=by
   rw[<-S.pre,List.getElem?_take_of_lt (by omega)]; exact h1
  have ndP:ps.Nodup:=by rw[<-S.pre]; exact S.nd.sublist (List.take_sublist _ _)
  refine⟨u,rv,?_⟩;rcases S.par y (FA hp) with k | k
  .exact .inl ⟨k,vv ndP hp hu k⟩
  .obtain⟨c,e⟩:=we (n:=s.heap.objs.size+1) k;refine .inr ⟨.inl k,c,e,?_⟩;have q:=x.cell y c e;rw[ua ndP hp hu (by show scope.names.lookup y≠_; rw[k]; decide)] at q;exact q
 .exact e0.hok.fresh (GQ (x.above y c (FP h)))
 .unfold start;show _=N.length;rw[FC,Fj,Hh];omega
def zI {CX:gk}{P:Program}{w:World}{K:be}{mg:Str->ay}{base:Heap}{k:Nat}{f:Addr}{name qual:Str}{params:Arguments}{body:aE}{scope:Scope}{dV kV doc pm cdv ct oc:Value}{an od:aB}
  {osl:Array ay}{N ps:ao}{sp:Sp}(lk:K.lookup f=some ⟨oc,od,.func (PySem.W.fnOf name qual params body scope dV kV doc pm an cdv ct),osl⟩)(hcd:PySem.W.codeIn K cdv qual=true)(S:FnScope N ps scope)
  (len:∀vs H Q E,sp vs H Q E->vs.length=ps.length)
  (hbody:∀(A:Around) (outer:List Env) (s:Shared) (H:Hp) (vs:ar) (Q:VK) (E:XK),Room k (A.deeper (envOfC qual scope s.heap.objs.size f cdv))->sp vs H Q E ->
   ∃t,PSs (fe CX P w K mg base N qual scope f cdv A outer s H E) body t/\t { nx:=λ_ H'=>Q .non H',rt:=Q } (start N vs) H) :
  FnOk P w K mg base CX (k+1) f (PySem.W.fnOf name qual params body scope dV kV doc pm an cdv ct) ps sp:=by
 refine⟨len,λA outer s H args us vs Q E hr e0 hb r hsp=>?_⟩;have hl:=len _ _ _ _ hsp;have KX:K.In s.heap:=e0.mod.kin.keeps λb o e=>(e0.bs b o e).1;have lim:s.heap.NoLimit:=e0.mod.nolimit.keeps λb o e=>(e0.bs b o e).1;have hkind:∀y∈ps.zip us,scope.names.lookup y.1=some .local\/(scope.names.lookup y.1=some .cell/\((cellsFrom (s.heap.objs.size+1) scope.names []).lookup y.1).isSome=true):=λ⟨n,v⟩ hy=>by
  rcases S.par n (List.of_mem_zip hy).1 with q | q
  .exact .inl q
  .exact .inr ⟨q,PySem.W.cellsFrom_some _ _ _ (.inl q)⟩
 refine codeAny_call_function hr.depth (KX _ _ lk) rfl S.co S.gen rfl (PySem.W.codeRec_of KX hcd) (hb _ _ _ _ ?_);refine wpAny_newFunctionEnv_cells S.kind hkind λenv he s1 x=>?_;subst he;refine⟨lim.keeps x.toInCall.keep,codeAny_func ?_⟩;obtain⟨t,ht,hq⟩:=hbody A outer s H vs Q E (hr.deeper _) hsp;have I:Inv (fe CX P w K mg base N qual scope f cdv A outer s H E) [] (start N vs) H s1:=DS S hr.hd e0 hl r x;refine F9 (ht [] s1 (start N vs) H _ I hq) (λfl s' hs=>?_) λe s' hs=>hs;have fin:∀{σ':St} {H':Hp} {v:V} {u:Value},Inv (fe CX P w K mg base N qual scope f cdv A outer s H E) [] σ' H' s'->RelV v u->Q v H'->CE outer P w H s Q u s':=
  λ{σ' H' v u} J rv q=>⟨v,H',J.os,J.bare,J.base,J.hok,rv,q⟩
 cases fl with
 | ret u=>
  obtain⟨v,σ',H',J,rv,q⟩:=hs;exact fin J rv q
 | next=>
  obtain⟨σ',H',J,q⟩:=hs;exact fin (v:=V.non) (u:=Value.none) J rfl q
 | brk=>
  obtain⟨_,_,_,q⟩:=hs;exact False.elim q
 | cont=>
  obtain⟨_,_,_,q⟩:=hs;exact False.elim q
end L2
namespace L2
open PySem PySem.Spec PyProof.Rows
section
variable {X:Cx}{x:Str}{p pos:Pos}{e:Expr}{es:aq}{t:TA}{id T:String}{r:ar->Hp->VK->Prop}
def kH (r:ar->Hp->VK->Prop)(t:TA):TE:=λσ H Q=>t σ H λvs H1=>r vs H1 Q
def jQ (hc:CallR X (.builtin id) r)(hg:Gl X x)(hm:X.mg x=none)(hv:bootBuiltins x=some (.builtin id))(ha:PA X (e::es) t)(hn:x ≠ "__name__":=by decide)(hdb:(x == ("__debug__" : Str))=false:=by decide)
  (he:starEach (e::es) X.env=(false,eval e X.env)::starEach es X.env:=by rfl)(hpl:(backTo pos (starEach es X.env)).any (·.1)=false:=by rfl):PE X (.Call (.Name x p) (e::es) [] pos) (kH r t):=by
 intro pins s σ H Q I h;refine FK (gg I hg hm hv ?_ hn hdb);exact PyProof.Rows.callWith_builtin1 (aV (ha pos pins s σ H _ I h) λus s1 ⟨vs,H1,I1,r1,q1⟩=>hc pins s1 σ H1 vs us Q I1 r1 q1) he hpl
def o8 (hc:CallR X (.type T) r)(hg:Gl X x)(hm:X.mg x=none)(hv:bootBuiltins x=some (.type T))(ha:PA X (e::es) t)(hn:x ≠ "__name__":=by decide)(hdb:(x == ("__debug__" : Str))=false:=by decide)
  (he:starEach (e::es) X.env=(false,eval e X.env)::starEach es X.env:=by rfl)(hpl:(backTo pos (starEach es X.env)).any (·.1)=false:=by rfl):PE X (.Call (.Name x p) (e::es) [] pos) (kH r t):=by
 intro pins s σ H Q I h;refine FK (gg I hg hm hv ?_ hn hdb);exact Fw (aV (ha pos pins s σ H _ I h) λus s1 ⟨vs,H1,I1,r1,q1⟩=>hc pins s1 σ H1 vs us Q I1 r1 q1) he hpl
end
end L2
namespace HT
open PySem PyProof.Rows
section
open PySem.SeqAt
open PySem.AutoSeq1 (wpAny_loadPart')
open PySem.MeetsSeq PySem.MeetsSeq2 PySem.MeetsSeq3
end
section
variable {prog:Program}{w:World}{A:Around}{E:Value->Shared->Prop}{s:Shared}
def cat_tup (ht:IsTup s.heap t vs.toArray)(hb:IsTup s.heap b ws.toArray)(hv:vs≠[])
  (h1:ws=[]->Q (.ref t) s)(h2:ws≠[]->Q (.ref s.heap.objs.size) { s with heap:=s.heap.push { cls:=.type "tuple",data:=.seq (vs++ws).toArray } })
  (hsz:vs.length+ws.length<=sizeLine):wpAny (model prog w) A (binaryOp .Add (.ref t) (.ref b)) Q E s:=by
 obtain⟨⟨cls,dd,data,sl⟩,ho,hc,n,hd⟩:=id ht;obtain⟨⟨cls2,dd2,data2,sl2⟩,ho2,hc2,n2,hd2⟩:=id hb;simp only at hc hd hc2 hd2;subst hc hd hc2 hd2;have e:vs.toArray++ws.toArray=(vs++ws).toArray:=by simp
 by_cases hw:ws=[]
 .exact concat_meets ⟨_,ho,rfl⟩ ⟨_,ho2,rfl⟩ noFill_tuple_add seq_tuple_add G2 GY (GV _ _)
   (tuple_addW1 t b vs.toArray ws.toArray n n2 dd dd2 sl sl2 (by simpa using hv) (by simp[hw])) ⟨ho,ho2,h1 hw⟩
 .refine concat_meets ⟨_,ho,rfl⟩ ⟨_,ho2,rfl⟩ noFill_tuple_add seq_tuple_add G2 GY (GV _ _)
   (tuple_addW2 t b vs.toArray ws.toArray n n2 dd dd2 sl sl2 (by simpa using hv) (by simpa using hw) (by rw[Fh,Fh]; exact hsz)) ⟨ho,ho2,?_⟩
  rw[e];exact h2 hw
noncomputable def sIx (n d:Nat):Option Int->Nat
 | none=>d
 | some v=>if v<0 then (v+(n:Int)).toNat else min v.toNat n
def Bj (n d:Nat)(hd:d<=n)(o:Option Int):sIx n d o<=n:=by
 cases o with
 | none=>exact hd
 | some v=>
  show (if v<0 then (v+(n:Int)).toNat else min v.toNat n)<=n;by_cases hv:v<0
  .rw[if_pos hv]; omega
  .rw[if_neg hv]; exact Nat.min_le_right _ _
def uA (v:Int)(n d:Nat):(if v<0 then max (v+(n:Int)) 0 else min v (n:Int))=((sIx n d (some v):Nat):Int):=by
 show (if v<0 then max (v+(n:Int)) 0 else min v (n:Int))=(((if v<0 then (v+(n:Int)).toNat else min v.toNat n):Nat):Int);by_cases hv:v<0
 .simp only[if_pos hv]; omega
 .simp only[if_neg hv]; omega
def De (lo hi:Option Int)(n:Nat):Builtin.Slice.sliceAdjust lo hi 1 (n:Int)=(((sIx n 0 lo:Nat):Int),((sIx n n hi:Nat):Int)):=by
 have h1:¬((1:Int)<0):=by omega
 unfold Builtin.Slice.sliceAdjust;simp only[h1,if_false];refine Prod.ext ?_ ?_
 .cases lo with
  | none=>rfl
  | some v=>exact uA v n 0
 .cases hi with
  | none=>rfl
  | some v=>exact uA v n n
def Bw (i j:Nat):Builtin.Slice.slicePlaces (i:Int) (j:Int) 1=j - i:=by
 unfold Builtin.Slice.slicePlaces;have h1:(1:Int) > 0:=by omega
 simp only[h1,if_true,Int.ediv_one];split <;> omega
def ve (p:IsPart v o)(h:Q o s):wpAny (model prog w) A (Builtin.Slice.slicePartIndex v) Q E s:=by
 cases p with
 | none=>exact slicePart_none h
 | int i t=>exact slicePart_int h
def sliceApplied_gen {sl:Addr}{vl vu:Value}{lo hi:Option Int}{n:Nat}{Q:Int×Int×Nat->Shared->Prop}(hs:s.heap.IsSliceOf sl vl vu .none)(pl:IsPart vl lo)(pu:IsPart vu hi)
  (h:Q (((sIx n 0 lo:Nat):Int),1,sIx n n hi - sIx n 0 lo) s):wpAny (model prog w) A (Builtin.Slice.sliceApplied (.ref sl) (pure (n:Int))) Q E s:=by
 obtain⟨os,hos,hcs,hds⟩:=id hs;unfold Builtin.Slice.sliceApplied Builtin.Slice.sliceFields;refine aK (aK (Gq hos hds (x:=vl) rfl (aK (Gq hos hds (x:=vu) rfl (aK (Gq hos hds (x:=.none) rfl (aW ?_)))))));refine aK (slicePart_none ?_);show wpAny _ _ (if ((1:Int) == 0)=true then _ else _) _ _ s;rw[if_neg (by decide)];refine aK (ve pl (aK (ve pu (aK (aW ?_)))));show wpAny _ _ (match Builtin.Slice.sliceAdjust lo hi 1 (n:Int) with | (lo,hi)=>pure (lo,(1:Int),Builtin.Slice.slicePlaces lo hi 1)) _ _ s;rw[De lo hi n];show wpAny _ _ (pure (((sIx n 0 lo:Nat):Int),(1:Int),Builtin.Slice.slicePlaces ((sIx n 0 lo:Nat):Int) ((sIx n n hi:Nat):Int) 1)) _ _ s;rw[Bw];exact aW h
def xv (xs:az)(i k:Nat):((List.range k).filterMap λ(m:Nat)=>xs[((i:Int)+(m:Int) * 1).toNat]?).toArray=((xs.toList.drop i).take k).toArray:=by
 have e:(λ(m:Nat)=>xs[((i:Int)+(m:Int) * 1).toNat]?)=λm=>xs[i+m]?:=by
  funext m
  have:((i:Int)+(m:Int) * 1).toNat=i+m:=by omega
  rw[this]
 rw[e];have:=pick_run xs i k;rw[List.filterMap_map] at this;have e2:((λx=>xs[x]?) ∘ λx=>i+x)=λm=>xs[i+m]?:=rfl;rw[e2] at this;rw[this]
def getItem_tuple_cut {t sl:Addr}{items:az}{vl vu:Value}{lo hi:Option Int}{Q:Value->Shared->Prop}(ht:IsTup s.heap t items)(hs:s.heap.IsSliceOf sl vl vu .none)(pl:IsPart vl lo)(pu:IsPart vu hi)
  (hw:¬(sIx items.size 0 lo=0/\sIx items.size items.size hi=items.size))
  (h:Q (.ref s.heap.objs.size) { s with heap:=s.heap.push { cls:=.type "tuple",data:=.seq ((items.toList.drop (sIx items.size 0 lo)).take (sIx items.size items.size hi - sIx items.size 0 lo)).toArray } })
  (hsz:items.size<=sizeLine):wpAny (model prog w) A (getItem (.ref t) (.ref sl)) Q E s:=by
 have htake:sizeOk (.seq ((items.toList.drop (sIx items.size 0 lo)).take (sIx items.size items.size hi - sIx items.size 0 lo)).toArray):=by
  show ((items.toList.drop (sIx items.size 0 lo)).take (sIx items.size items.size hi - sIx items.size 0 lo)).toArray.size<=sizeLine;rw[Fh,Gg,Hm,Array.length_toList];omega
 have hj:sIx items.size items.size hi<=items.size:=Bj _ _ (bu _) hi;obtain⟨os,hos,hcs,hds⟩:=id hs;have hTs:s.TypeIs (.ref sl) "slice":=⟨os,hos,hcs⟩
 unfold getItem;try with_reducible refine Gv ?_
 first | refine aK (aW ?_) | skip
 refine aK (wpAny_sequenceKey ht.typeIs (by decide) ?_);refine aK (wpAny_callSpecial?_slot (name:=Str.ofString "__getitem__") ht.typeIs FG
  (FV FG ht.typeIs entry_tuple_getitem ?_ (args_tuple_getitem _ _)))
 show wpAny _ _ (Builtin.Tuple.tupleItemsOf (.ref t) >>= _) _ _ s;refine aK (tupleItemsOf_ ht ?_);refine aK (wpAny_typeOf hTs ?_);rw[if_pos (by decide)];refine aK (sliceApplied_gen hs pl pu ?_);have hno:¬((((sIx items.size 0 lo:Nat):Int) == 0&&(1:Int) == 1&&(sIx items.size items.size hi - sIx items.size 0 lo) == items.size)=true):=by
  intro q;rw[tw,tw] at q;have q1:((sIx items.size 0 lo:Nat):Int)=0:=eq_of_beq q.1.1;have q2:sIx items.size items.size hi - sIx items.size 0 lo=items.size:=eq_of_beq q.2;exact hw ⟨by omega,by omega⟩
 show wpAny _ _ (if (((sIx items.size 0 lo:Nat):Int) == 0&&(1:Int) == 1&&(sIx items.size items.size hi - sIx items.size 0 lo) == items.size)=true then _ else _) _ _ s;rw[if_neg hno,xv];first
  | exact aK (m:=Builtin.Tuple.tupleExact _) (FE (aW ⟨_,rfl,aW h⟩) htake)
  | exact aK (m:=Builtin.Tuple.tupleExact _) (FE (aK (aW (aW ⟨_,rfl,aW h⟩))) htake)
  | exact aK (aK (m:=Builtin.Tuple.tupleExact _) (FE (aW (aW ⟨_,rfl,aW h⟩)) htake))
  | exact aK (aK (m:=Builtin.Tuple.tupleExact _) (FE (aW ⟨_,rfl,aW h⟩) htake))
end
end HT
namespace L2
open PySem PySem.Spec PyProof.Rows
abbrev TO:=St->Hp->(Option Int->Hp->Prop)->Prop
def PO (X:Cx)(e:Option Expr)(t:TO):Prop:=
 ∀(pins:af) (s:Shared) (σ:St) (H:Hp) (Q:Option Int->Hp->Prop),Inv X pins σ H s->t σ H Q ->
  wpAny (model X.prog X.w) X.A (evalPart e X.env) (λu s'=>∃o H',Inv X pins σ H' s'/\IsPart u o/\Q o H') X.xe s
def gI:TO:=λ_ H Q=>Q none H
def lu (t:TE):TO:=λσ H Q=>t σ H λx H1=>∃i,x=.int i/\Q (some i) H1
section
variable {X:Cx}{e:Expr}{te:TE}{lo hi:Option Expr}{tl th:TO}{pos p2:Pos}
def uT:PO X none gI:=by
 intro pins s σ H Q I h;rw[evalPart_none];exact aW ⟨none,H,I,.none,h⟩
def nQ (h:PE X e te):PO X (some e) (lu te):=by
 intro pins s σ H Q I hw;rw[evalPart_some];refine aV (h pins s σ H _ I hw) λu s1 hZz=>?_;obtain⟨x,H1,I1,r1,q1⟩:=hZz;obtain⟨i,rfl,q⟩:=q1;obtain⟨t,rfl⟩:=r1;exact⟨some i,H1,I1,.int i t,q⟩
def mo (X:Cx)(r:V->Option Int->Option Int->Hp->VK->Prop):Prop:=
 ∀(pins:af) (s:Shared) (σ:St) (H:Hp) (x:V) (v vl vu:Value) (lo hi:Option Int) (sl:Addr) (Q:VK),Inv X pins σ H s->RelV x v->s.heap.IsSliceOf sl vl vu .none->IsPart vl lo->IsPart vu hi->r x lo hi H Q ->
  ∃T id,typeLookup (.type T) "__getitem__" = pure (some (.builtin id))/\s.TypeIs v T/\wpAny (model X.prog X.w) X.A (getItem v (.ref sl)) (EP X pins σ Q) X.xe s
def D6 (r:V->Option Int->Option Int->Hp->VK->Prop)(te:TE)(tl th:TO):TE:=λσ H Q=>te σ H λx H1=>tl σ H1 λl H2=>th σ H2 λu H3=>r x l u H3 Q
def oX (hr:mo X r)(he:PE X e te)(hl:PO X lo tl)(hu:PO X hi th):PE X (.Subscript e (.Slice lo hi none p2) pos) (D6 r te tl th):=by
 intro pins s σ H Q I h;refine Subscript_ (aV (he pins s σ H _ I h) λv s1 hZz=>?_);obtain⟨x,H1,I1,r1,q1⟩:=hZz;refine wpAny_Slice (aV (hl pins s1 σ H1 _ I1 q1) λvl s2 ⟨l,H2,I2,pl,q2⟩=>aV (hu pins s2 σ H2 _ I2 q2) λvu s3 hZz=>?_);obtain⟨u,H3,I3,pu,q3⟩:=hZz;rw[evalPart_none];refine aW ?_;have I4:Inv X pins σ H3 { s3 with heap:=s3.heap.push { cls:=.type "slice",data:=.fields #[vl,vu,.none] } }:=I3.kept (t':=s3.toks) λb ob q=>bV _ q;obtain⟨T,id,hT,ht,hg⟩:=hr pins { s3 with heap:=s3.heap.push { cls:=.type "slice",data:=.fields #[vl,vu,.none] } } σ H3 x v vl vu l u s3.heap.objs.size Q I4 r1 (Heap.IsSliceOf.new ..) pl pu q3;show wpAny (model X.prog X.w) X.A (subscriptTail e (.Slice lo hi none p2) v (.ref s3.heap.objs.size)) (EP X pins σ Q) X.xe { s3 with heap:=s3.heap.push { cls:=.type "slice",data:=.fields #[vl,vu,.none] } };exact tail_any (ops:=[.ref s3.heap.objs.size,v]) ht hT hg (by with_unfolding_all rfl)
noncomputable def dB (xs:ar)(lo hi:Option Int):ar:=(xs.drop (HT.sIx xs.length 0 lo)).take (HT.sIx xs.length xs.length hi - HT.sIx xs.length 0 lo)
def uN (xs:ar)(lo hi:Option Int):(dB xs lo hi).length<=xs.length:=by
 unfold dB;rw[Gg,Hm];omega
def qg (K:be):V->Option Int->Option Int->Hp->VK->Prop:=λx lo hi H Q=>∃a xs,x=.ref a/\SqT K H a xs /\
 ¬(HT.sIx xs.length 0 lo=0/\HT.sIx xs.length xs.length hi=xs.length)/\∀p,H p=none->Q (.ref p) (upd H p (.tup (dB xs lo hi)))
def Df:mo X (qg X.K):=by
 intro pins s σ H x v vl vu lo hi sl Q I rx hs pl pu h;obtain⟨a,xs,rfl,hx,hw,q⟩:=h;cases rx;obtain⟨its,r,ht,hz⟩:=I.tuple hx;have hlen:its.toArray.size=xs.length:=by rw[Fh]; exact r.length.symm
 refine⟨"tuple",_,FG.lookup,ht.typeIs,?_⟩;refine HT.getItem_tuple_cut ht hs pl pu (by rw[hlen]; exact hw) ?_ (by rw[hlen]; exact hz);rw[hlen];refine⟨.ref s.heap.objs.size,_,I.laid (t':=s.toks) (o:=.tup (dB xs lo hi)) (λb ob q=>bV _ q) (bu _) ?_,rfl,q _ (I.hok.fresh (bu _))⟩;exact⟨bv (uN xs lo hi) hz,_,(r.drop (HT.sIx xs.length 0 lo)).take (HT.sIx xs.length xs.length hi - HT.sIx xs.length 0 lo),TupN.new _ _⟩
def lV (K:be):R2:=λx y H Q=>∃a b xs ys,x=.ref a/\y=.ref b/\SqT K H a xs/\SqT K H b ys/\xs≠[]/\xs.length+ys.length<=sizeLine /\
 (ys=[]->Q (.ref a) H)/\(ys≠[]->∀p,H p=none->Q (.ref p) (upd H p (.tup (xs++ys))))
def Vals.nil_iff (r:Vals xs us):us=[]↔xs=[]:=by
 cases r with
 | nil=>simp
 | cons _ _=>simp
def Ce:OpR X (binaryOp .Add) (lV X.K):=by
 intro pins s σ H x y v u Q I rx ry h;obtain⟨a,b,xs,ys,rfl,rfl,ha,hb,hx,hz,q1,q2⟩:=h;cases rx;cases ry;obtain⟨its,r1,p1,_⟩:=I.tuple ha;obtain⟨its2,r2,p2,_⟩:=I.tuple hb;refine HT.cat_tup p1 p2 (λz=>hx (r1.nil_iff.mp z)) (λz=>⟨.ref a,H,I,rfl,q1 (r2.nil_iff.mp z)⟩) (λz=>?_) (by rw[<-r1.length,<-r2.length]; exact hz);refine⟨.ref s.heap.objs.size,_,I.laid (t':=s.toks) (o:=.tup (xs++ys)) (λb ob q=>bV _ q) (bu _) ?_,rfl,q2 (λw=>z (r2.nil_iff.mpr w)) _ (I.hok.fresh (bu _))⟩;exact⟨by rw[FC]; exact hz,_,r1.append r2,TupN.new _ _⟩
end
end L2
namespace L2
open PySem PySem.Spec PyProof.Rows
noncomputable def i9 (n:Nat)(i:Int):aA:=if 0<=i then (if i<n then some i.toNat else none) else if -(n:Int)<=i then some (i+n).toNat else none
noncomputable def jl {α:Type}(xs:List α)(i:Int):Option α:=(i9 xs.length i).bind λj=>xs[j]?
def tP (h:i9 n i=some j):seqIndex? i n=some j/\j<n /\ -(n:Int)<=i/\i<n:=by
 unfold i9 at h;by_cases h0:0<=i
 .rw[if_pos h0] at h;by_cases h1:i<n
  .rw[if_pos h1] at h;have e:i.toNat=j:=cK h;exact⟨by rw[seqIndex_of h0 h1,e],by omega,by omega,h1⟩
  .rw[if_neg h1] at h; cases h
 .rw[if_neg h0] at h;by_cases h1 : -(n:Int)<=i
  .rw[if_pos h1] at h;have e:(i+n).toNat=j:=cK h;exact⟨by rw[seqIndex_neg (by omega) h1,e],by omega,h1,by omega⟩
  .rw[if_neg h1] at h; cases h
def vU (h:jl xs i=some v):∃j,seqIndex? i xs.length=some j/\xs[j]? = some v/\j<xs.length /\ -(xs.length:Int)<=i/\i<xs.length:=by
 unfold jl at h;cases e:i9 xs.length i with
 | none=>rw[e] at h; cases h
 | some j=>
  rw[e] at h;obtain⟨h1,h2,h3,h4⟩:=tP e;exact⟨j,h1,h,h2,h3,h4⟩
def fH (b:Expr):Prop:=∀o i,subscripted b false o i=operate [o,i] (getItem o i)
def mG (X:Cx)(r:R2):Prop:=
 ∀(value slice:Expr) (pins:af) (s:Shared) (σ:St) (H:Hp) (x y:V) (v u:Value) (Q:VK),Inv X pins σ H s->RelV x v->RelV y u->r x y H Q ->
  subscripted slice false v u=operate [v,u] (getItem v u)->wpAny (model X.prog X.w) X.A (subscriptTail value slice v u) (EP X pins σ Q) X.xe s
def uK (X:Cx)(id:String)(r:V->ar->Hp->VK->Prop):Prop:=
 ∀(pins:af) (s:Shared) (σ:St) (H:Hp) (x:V) (xs:ar) (v:Value) (us:al) (Q:VK),Inv X pins σ H s->RelV x v->Vals xs us->r x xs H Q ->
  wpAny (model X.prog X.w) X.A (call (.builtin id) (v::us)) (EP X pins σ Q) X.xe s
section
variable {X:Cx}{a b:Expr}{ta tb:TE}{pos:Pos}
def nS (hr:mG X r)(ha:PE X a ta)(hb:PE X b tb)(hs:fH b):PE X (.Subscript a b pos) (iF r ta tb):=by
 intro pins s σ H Q I h;exact Subscript_ (i8 ha hb I h λv u s2 x y H2 I2 rx ry q=>hr a b pins s2 σ H2 x y v u Q I2 rx ry q (hs _ _))
def jF (K:be):R2:=λx y H Q=>∃p xs i v,x=.ref p/\y=.int i/\SqL K H p xs/\jl xs i=some v/\Q v H
def pO (K:be):R2:=λx y H Q=>∃p xs i v,x=.ref p/\y=.int i/\SqT K H p xs/\jl xs i=some v/\Q v H
def m8:mG X (jF X.K):=by
 intro value slice pins s σ H x y v u Q I rx ry h hs;obtain⟨p,xs,i,z,rfl,rfl,hq,he,q⟩:=h;cases rx;obtain⟨t,rfl⟩:=ry;obtain⟨its,r,pl,hz⟩:=I.list hq;obtain⟨j,h1,h2,h3,h4,h5⟩:=vU he;obtain⟨w,ew,rw'⟩:=r.get h2;have hl:=r.length;have hn:=d4;have fin:EP X pins σ Q w s:=⟨z,H,I,rw',q⟩
 by_cases h0:0<=i
 .have hj:i.toNat=j:=by
   rw[seqIndex_of h0 h5] at h1;exact cK h1
  exact item_listR pl.isList h0 (by omega) (by rw[hj]; simpa using ew) fin hs
 .have hj:(i+(its.toArray.size:Int)).toNat=j:=by
   rw[seqIndex_neg (by omega) h4] at h1;rw[Fh,<-hl];exact cK h1
  exact subscriptTail_builtinR (x:=w) pl.isList.typeIs slot_list_getitem.lookup
   (wpAny_getItem_list_neg (Q:=λr s'=>r=w/\EP X pins σ Q r s') pl.isList (by omega) (by rw[Fh] <;> omega) (by omega) (by rw[hj]; simpa using ew) ⟨rfl,fin⟩) hs
def yJ:mG X (pO X.K):=by
 intro value slice pins s σ H x y v u Q I rx ry h hs;obtain⟨p,xs,i,z,rfl,rfl,hq,he,q⟩:=h;cases rx;obtain⟨t,rfl⟩:=ry;obtain⟨its,r,pl,hz⟩:=I.tuple hq;obtain⟨j,h1,h2,h3,h4,h5⟩:=vU he;obtain⟨w,ew,rw'⟩:=r.get h2;have hl:=r.length;have hn:=d4;have fin:EP X pins σ Q w s:=⟨z,H,I,rw',q⟩
 exact subscriptTail_builtinR (x:=w) pl.typeIs slot_tuple_getitem.lookup
  (getItem_tuple (j:=j) (Q:=λr s'=>r=w/\EP X pins σ Q r s') pl (by omega) (by omega) (by rw[Fh,<-hl]; exact h1) (by simpa using ew) ⟨rfl,fin⟩) hs
def AB (its:al)(n j:Nat)(u:Value):Obj.mapSeq (·.setIfInBounds j u) { cls:=.type "list",data:=.seq its.toArray n }={ cls:=.type "list",data:=.seq (its.set j u).toArray n }:=by
 simp[Obj.mapSeq]
theorem Inv.lst (I:Inv X pins σ H s)(h:H p=some (.lst xs)) :
  ∃(its:al) (n:Nat),Vals xs its/\s.heap.get? p=some { cls:=.type "list",data:=.seq its.toArray n }/\xs.length<=sizeLine:=by
 obtain⟨z,its,n,r,e⟩:=I.hok p _ h;exact⟨its,n,r,e,z⟩
def Inv.lstUpd {pins:af}{σ:St}{H:Hp}{s:Shared}{p:Addr}{xs ys:ar}{its its':al}{n n':Nat}{f:Obj->Obj}(I:Inv X pins σ H s)(h:H p=some (.lst xs))
  (ho:s.heap.get? p=some { cls:=.type "list",data:=.seq its.toArray n })(hf:f { cls:=.type "list",data:=.seq its.toArray n }={ cls:=.type "list",data:=.seq its'.toArray n' })(r:Vals ys its')(hz:ys.length<=sizeLine)(t:Nat) :
  Inv X pins σ (upd H p (.lst ys)) { s with heap:=s.heap.update p f,toks:=t }:=by
 have e:(s.heap.update p f).get? p=some { cls:=.type "list",data:=.seq its'.toArray n' }:=by
  rw[Gi f ho (by rw[hf] <;> rfl),hf]
 refine I.write (x:=p) (e:=p) (by rw[h]; trivial) (.inl rfl) (λb u hb q=>(G3 _ _ (GR hb)).trans q) ⟨_,e⟩ ?_;exact⟨hz,its',n',r,e⟩
def lx:V->V->V->Hp->(Hp->Prop)->Prop:=λo i v H Q=>∃p xs k j,o=.ref p/\i=.int k/\H p=some (.lst xs)/\i9 xs.length k=some j/\Q (upd H p (.lst (xs.set j v)))
def set_list:qX X lx:=by
 intro pins s σ H o i v ov iv u Q I ro ri rv h;obtain⟨p,xs,k,j,rfl,rfl,hp,hj,q⟩:=h;cases ro;obtain⟨t,rfl⟩:=ri;obtain⟨its,n,r,ho,hz⟩:=I.lst hp;obtain⟨h1,h2,h3,h4⟩:=tP hj;have hl:=r.length;have hn:=d4;have I':Inv X pins σ (upd H p (.lst (xs.set j v))) { s with heap:=s.heap.update p (Obj.mapSeq (·.setIfInBounds j u)) }:=
  I.lstUpd hp ho (AB its n j u) (r.set rv j) (by rw[FD]; exact hz) s.toks
 by_cases h0:0<=k
 .have hk:k.toNat=j:=by
   rw[seqIndex_of h0 h4] at h1;exact cK h1
  exact PySem.W.ki_setAt ho h0 (by omega) (by rw[Fh,<-hl]; exact h4) (by rw[hk]; exact⟨_,I',q⟩)
 .have hk:(k+(its.toArray.size:Int)).toNat=j:=by
   rw[seqIndex_neg (by omega) h3] at h1;rw[Fh,<-hl];exact cK h1
  exact PySem.W.ki_setBack ho (by omega) (by rw[Fh,<-hl]; exact h3) (by omega) (by rw[hk]; exact⟨_,I',q⟩)
def zz (lo hi:Option Int)(n:Nat):(sliceBounds lo hi none n).1=((HT.sIx n 0 lo:Nat):Int)/\(sliceBounds lo hi none n).2.1=((HT.sIx n n hi:Nat):Int)/\(sliceBounds lo hi none n).2.2=1:=by
 refine⟨?_,?_,rfl⟩
 .cases lo with
  | none=>simp[sliceBounds,HT.sIx]
  | some i=>
   simp only[sliceBounds,HT.sIx,Option.getD_none,show (1:Int) > 0 by decide,if_true];by_cases h:i<0
   .simp only[h,if_true] <;> omega
   .simp only[h,if_false] <;> omega
 .cases hi with
  | none=>simp[sliceBounds,HT.sIx]
  | some i=>
   simp only[sliceBounds,HT.sIx,Option.getD_none,show (1:Int) > 0 by decide,if_true];by_cases h:i<0
   .simp only[h,if_true] <;> omega
   .simp only[h,if_false] <;> omega
def Ev (its:al)(lo hi:Option Int):slicePick its.toArray lo hi none=((its.drop (HT.sIx its.length 0 lo)).take (HT.sIx its.length its.length hi - HT.sIx its.length 0 lo)).toArray:=by
 obtain⟨h1,h2,h3⟩:=zz lo hi its.toArray.size;unfold slicePick;rw[h1,h2,h3];simp only[sliceRange_one,pick_run,Fh] <;> rfl
def qy (K:be):V->Option Int->Option Int->Hp->VK->Prop:=λx lo hi H Q=>∃a xs,x=.ref a/\SqL K H a xs/\∀p,H p=none->Q (.ref p) (upd H p (.lst (dB xs lo hi)))
def Ak:mo X (qy X.K):=by
 intro pins s σ H x v vl vu lo hi sl Q I rx hs pl pu h;obtain⟨a,xs,rfl,hx,q⟩:=h;cases rx;obtain⟨its,r,ht,hz⟩:=I.list hx;have hlen:=r.length;refine⟨"list",_,slot_list_getitem.lookup,ht.isList.typeIs,?_⟩;refine wpAny_getItem_list_slice ht.isList hs pl pu .none (by simp) ?_ (by rw[Fh] <;> omega);rw[Ev,<-hlen];refine⟨.ref s.heap.objs.size,_,I.laid (t':=s.toks) (o:=.lst (dB xs lo hi)) (λb ob q=>bV _ q) (bu _) ?_,rfl,q _ (I.hok.fresh (bu _))⟩;exact⟨bv (uN xs lo hi) hz,_,0,(r.drop (HT.sIx xs.length 0 lo)).take (HT.sIx xs.length xs.length hi - HT.sIx xs.length 0 lo),c6 _ rfl⟩
noncomputable def flatV:V->Bool
 | .non=>true
 | .bl _=>true
 | .int _=>true
 | .str _=>true
 | _=>false
noncomputable def eqV:V->V->Bool
 | .non,.non=>true
 | .bl a,.bl b=>a == b
 | .bl a,.int b=>(if a then 1 else 0) == b
 | .int a,.bl b=>a == (if b then 1 else 0)
 | .int a,.int b=>a == b
 | .str a,.str b=>a == b
 | _,_=>false
def Du (ry:RelV y u)(rx:RelV x v)(fy:flatV y=true)(fx:flatV x=true):SeqAt.EqAt A s u v (eqV y x):=by
 cases y with
 | non=>
  cases ry;cases x with
  | non=>cases rx; exact SeqAt.EqAt.same _
  | bl b=>cases rx; exact SeqAt.EqAt.none_bool b
  | int b=>obtain⟨t,rfl⟩:=rx; exact SeqAt.EqAt.none_int b t
  | str b=>obtain⟨t,rfl⟩:=rx; exact SeqAt.EqAt.none_str b t
  | _=>exact absurd (show false=true from fx) Fy
 | bl a=>
  cases ry;cases x with
  | non=>cases rx; exact SeqAt.EqAt.bool_none a
  | bl b=>cases rx; exact SeqAt.EqAt.bool_bool a b
  | int b=>obtain⟨t,rfl⟩:=rx; exact SeqAt.EqAt.bool_int a b t
  | str b=>obtain⟨t,rfl⟩:=rx; exact SeqAt.EqAt.bool_str a b t
  | _=>exact absurd (show false=true from fx) Fy
 | int a=>
  obtain⟨t',rfl⟩:=ry;cases x with
  | non=>cases rx; exact SeqAt.EqAt.int_none a t'
  | bl b=>cases rx; exact SeqAt.EqAt.int_bool a t' b
  | int b=>obtain⟨t,rfl⟩:=rx; exact SeqAt.EqAt.int_int a t' b t
  | str b=>obtain⟨t,rfl⟩:=rx; exact SeqAt.EqAt.int_str a t' b t
  | _=>exact absurd (show false=true from fx) Fy
 | str a=>
  obtain⟨t',rfl⟩:=ry;cases x with
  | non=>cases rx; exact SeqAt.EqAt.str_none a t'
  | bl b=>cases rx; exact SeqAt.EqAt.str_bool a t' b
  | int b=>obtain⟨t,rfl⟩:=rx; exact SeqAt.EqAt.str_int a t' b t
  | str b=>obtain⟨t,rfl⟩:=rx; exact SeqAt.EqAt.str_str a t' b t
  | _=>exact absurd (show false=true from fx) Fy
 | _=>exact absurd (show false=true from fy) Fy
noncomputable def nP (x:V)(u:Value):Bool:=match u with
 | .none=>eqV .non x
 | .bool b=>eqV (.bl b) x
 | .int i _=>eqV (.int i) x
 | .str z _=>eqV (.str z) x
 | _=>false
def vR (r:RelV y u)(f:flatV y=true):nP x u=eqV y x:=by
 cases y with
 | non=>cases r; rfl
 | bl b=>cases r; rfl
 | int i=>obtain⟨t,rfl⟩:=r; rfl
 | str z=>obtain⟨t,rfl⟩:=r; rfl
 | _=>exact absurd (show false=true from f) Fy
theorem uL (rx:RelV x v)(fx:flatV x=true):∀{xs:ar} {us:al},Vals xs us->xs.all flatV=true->∀u∈us,SeqAt.EqAt A s u v (nP x u)
 | _,_,.nil,_=>λu hu=>by cases hu
 | y::xs,u::us,.cons r t,f=>λu' hu=>by
  rw[List.all_cons,tw] at f;rcases cZ hu with rfl | hu
  .rw[vR r f.1]; exact Du r rx f.1 fx
  .exact uL rx fx t f.2 u' hu
def AJ:CallR X (.builtin "len") (λxs H Q=>∃p ys,xs=[.ref p]/\(SqL X.K H p ys\/SqT X.K H p ys)/\Q (.int ys.length) H):=by
 intro pins s σ H xs us Q I r h;obtain⟨p,ys,rfl,hq,q⟩:=h;obtain⟨u,rfl,rx⟩:=vals1 r;cases rx;have hn:=d4;rcases hq with hq | hq
 .obtain⟨its,r',pl,hz⟩:=I.list hq;have hlen:=r'.length;exact Calls.call_len_list pl.isList (by simp only[Fh] <;> omega) ⟨.int ys.length,H,I.tok _,⟨s.toks+1,by rw[Fh,hlen]⟩,q⟩
 .obtain⟨its,r',pl,hz⟩:=I.tuple hq;have hlen:=r'.length;exact len_tuple pl (by simp only[Fh] <;> omega) ⟨.int ys.length,H,I.tok _,⟨s.toks+1,by rw[Fh,hlen]⟩,q⟩
def BV:CallR X (.type "list") (λxs H Q=>∃p ys,xs=[.ref p]/\(SqL X.K H p ys\/SqT X.K H p ys)/\∀l,H l=none->Q (.ref l) (upd H l (.lst ys))):=by
 intro pins s σ H xs us Q I r h;obtain⟨p,ys,rfl,hq,q⟩:=h;obtain⟨u,rfl,rx⟩:=vals1 r;cases rx;have fin:∀(its:al),Vals ys its->ys.length<=sizeLine->∀(h':Heap) (c':Nat),(∀b o',s.heap.get? b=some o'->h'.get? b=some o') ->
   h'.get? s.heap.objs.size=some { cls:=.type "list",dict:=none,data:=.seq its.toArray c',slots:=#[] }->EP X pins σ Q (.ref s.heap.objs.size) { s with heap:=h' }:=λits r' hz h' c' kp e=>
  ⟨.ref s.heap.objs.size,_,I.laid (t':=s.toks) kp (bu _) (show ObjOk X.prog X.w _ h' _ (.lst ys) from ⟨hz,its,c',r',e⟩),rfl,q _ (I.hok.fresh (bu _))⟩
 rcases hq with hq | hq
 .obtain⟨its,r',pl,hz⟩:=I.list hq;have hlen:=r'.length;obtain⟨o,ho,hc,n,hd⟩:=pl.isList;exact call_list_seq p (.inl rfl) ho hc hd (λh' c' kp e=>fin its r' hz h' c' kp e) (by simp only[Fh] <;> omega)
 .obtain⟨its,r',pl,hz⟩:=I.tuple hq;have hlen:=r'.length;obtain⟨o,ho,hc,n,hd⟩:=pl;exact call_list_seq p (.inr rfl) ho hc hd (λh' c' kp e=>fin its r' hz h' c' kp e) (by simp only[Fh] <;> omega)
def AM:CallR X (.type "tuple") (λxs H Q=>∃p ys,xs=[.ref p]/\((SqL X.K H p ys/\∀l,H l=none->Q (.ref l) (upd H l (.tup ys)))\/(SqT X.K H p ys/\Q (.ref p) H))):=by
 intro pins s σ H xs us Q I r h;obtain⟨p,ys,rfl,h⟩:=h;obtain⟨u,rfl,rx⟩:=vals1 r;cases rx;rcases h with ⟨hq,q⟩ | ⟨hq,q⟩
 .obtain⟨its,r',pl,hz⟩:=I.list hq;have hlen:=r'.length;refine call_tuple_list pl.isList (λh' kp=>?_) (by simp only[Fh] <;> omega);have I1:Inv X pins σ H { s with heap:=h' }:=I.kept (t':=s.toks) kp;have I2:Inv X pins σ (upd H h'.objs.size (.tup ys)) { s with heap:=h'.push { cls:=.type "tuple",data:=.seq its.toArray } }:=
   I1.laid (t':=s.toks) (λb o e=>bV _ e) (bu _) (show ObjOk X.prog X.w _ _ _ (.tup ys) from ⟨hz,its,r',TupN.new _ _⟩)
  exact⟨.ref h'.objs.size,_,I2,rfl,q _ (I1.hok.fresh (bu _))⟩
 .obtain⟨its,r',pl,hz⟩:=I.tuple hq;exact call_tuple_same pl ⟨.ref p,H,I,rfl,q⟩
def tyV (K:be)(T:String)(x:V)(H:Hp):Prop:=match x with
 | .str _=>T = "str"
 | .int _=>T = "int"
 | .ref p=>(T = "list" /\ ∃xs,SqL K H p xs)\/(T = "tuple" /\ ∃xs,SqT K H p xs) \/
   (T = "dict" /\ ((∃kvs,H p=some (.dK kvs))\/∃kvs,H p=some (.dT kvs)))\/(T = "set" /\ ∃S n,H p=some (.set S n))
 | _=>False
def xN (I:Inv X pins σ H s)(r:RelV x v)(ty:tyV X.K T x H) :
  s.TypeIs v T/\∀a,v=.ref a->∃ob,s.heap.get? a=some ob/\ob.dict=none:=by
 cases x with
 | str z=>
  obtain⟨t,rfl⟩:=r;cases (show T = "str" from ty);exact⟨typeIs_str s z t,λ_ e=>nomatch e⟩
 | int i=>
  obtain⟨t,rfl⟩:=r;cases (show T = "int" from ty);exact⟨typeIs_int s i t,λ_ e=>nomatch e⟩
 | ref p=>
  cases r;rcases ty with ⟨rfl,xs,hq⟩ | ⟨rfl,xs,hq⟩ | ⟨rfl,hk⟩ | ⟨rfl,S,n,hk⟩
  .obtain⟨its,_,pl,_⟩:=I.list hq;refine⟨pl.isList.typeIs,λa e=>?_⟩;cases e;obtain⟨o,n,e,c,hd,_⟩:=pl;exact⟨o,e,hd⟩
  .obtain⟨its,_,⟨o,e,c,_,d⟩,_⟩:=I.tupN hq;refine⟨⟨o,e,c⟩,λa e2=>?_⟩;cases e2;exact⟨o,e,d⟩
  .have z:∃o,s.heap.get? p=some o/\o.ExactDict:=by
    rcases hk with ⟨kvs,hk⟩ | ⟨kvs,hk⟩
    .obtain⟨_,_,_,_,o,_,_,e,ex,_⟩:=I.hok p _ hk;exact⟨o,e,ex⟩
    .obtain⟨_,_,_,_,o,_,_,e,ex,_⟩:=I.hok p _ hk;exact⟨o,e,ex⟩
   obtain⟨o,e,ex⟩:=z;refine⟨⟨o,e,ex.1⟩,λa e2=>?_⟩;cases e2;exact⟨o,e,ex.2.1⟩
  .obtain⟨o,_,_,_,e,ex,_⟩:=I.hok p _ hk;refine⟨⟨o,e,ex.1⟩,λa e2=>?_⟩;cases e2;exact⟨o,e,ex.2.1⟩
 | _=>exact False.elim ty
def gZ (K:be)(T:String)(r:V->ar->Hp->VK->Prop)(to:TE)(t:TA):TE:=λσ H Q=>to σ H λx H1=>tyV K T x H1/\t σ H1 λxs H2=>r x xs H2 Q
variable {o e:Expr}{es:aq}{to:TE}{t:TA}{name:Str}{apos cpos:Pos}{T id:String}{r:V->ar->Hp->VK->Prop}
def j9 (pa:PlainAttrs T)(slot:Slot T name id)(hty:typeOf (.builtin id)=pure (.type "method_descriptor"))(hm:uK X id r)(ho:PE X o to)(ha:PA X (e::es) t)
  (hbase:attributeBase o name X.env (eval o X.env)=eval o X.env:=by rfl)
  (hfew:((backTo cpos (starEach (e::es) X.env)).all (λx=>!x.1)&&(backToKw cpos (keywordEach [] X.env)).all (λx=>x.1.isSome)
   && decide ((e::es).length+([]:List Keyword).length+(if ([]:List Keyword).isEmpty then 0 else 1)<30))=true:=by rfl)
  (hline:(apos.endLine == cpos.line)=true:=by rfl)(hs:starEach (e::es) X.env=(false,eval e X.env)::starEach es X.env:=by rfl)(hplain:(backTo cpos (starEach es X.env)).any (·.1)=false:=by rfl) :
  PE X (.Call (.Attribute o name apos) (e::es) [] cpos) (gZ X.K T r to t):=by
 intro pins s σ H Q I h;refine wpAny_Call_method_late hbase hfew hline rfl (aV (ho pins s σ H _ I h) λv s1 hZz=>?_);obtain⟨x,H1,I1,r1,ty,q1⟩:=hZz;obtain⟨h1,h2⟩:=xN I1 r1 ty;refine⟨T,id,pa,slot,hty,h1,h2,?_⟩;have hA:=ha cpos pins s1 σ H1 _ I1 q1;rw[hs] at hA ⊢;refine Calls.callWith_builtin (by show (false||(backTo cpos (starEach es X.env)).any (·.1))=false; rw[hplain] <;> rfl) (Calls.evalArgs_plain ?_);exact aV hA λus s2 ⟨vs,H2,I2,r2,q2⟩=>hm pins s2 σ H2 x vs v us Q I2 r1 r2 q2
end
end L2
namespace L2
open PySem PySem.Spec PyProof.Rows
def oi (X:Cx)(id:String)(r:V->ar->Hp->VK->Prop):Prop:=
 ∀(pins:af) (s:Shared) (σ:St) (H:Hp) (x:V) (xs:ar) (v:Value) (us:al) (Q:VK),Inv X pins σ H s->RelV x v->Vals xs us->r x xs H Q ->
  wpAny (model X.prog X.w) X.A (call (.builtin id) (v::us)) (EP X pins σ Q) X.xe s
theorem Vals.one:∀{x:V} {us:al},Vals [x] us->∃u,us=[u]/\RelV x u
 | _,_,.cons r .nil=>⟨_,rfl,r⟩
theorem Vals.eraseIdx:∀{xs:ar} {us:al} (i:Nat),Vals xs us->Vals (xs.eraseIdx i) (us.eraseIdx i)
 | _,_,_,.nil=>.nil
 | _,_,0,.cons _ t=>t
 | _,_,i+1,.cons r t=>.cons r (Vals.eraseIdx i t)
theorem Vals.reverse (h:Vals xs us):Vals xs.reverse us.reverse:=by
 induction h with
 | nil=>exact .nil
 | cons r t ih=>rw[G4,G4]; exact Vals.append ih (.cons r .nil)
theorem Vals.rep (h:Vals xs us):∀k:Nat,Vals (List.replicate k xs).flatten (List.replicate k us).flatten
 | 0=>.nil
 | k+1=>by
  rw[List.replicate_succ,List.replicate_succ,List.flatten_cons,List.flatten_cons];exact Vals.append h (Vals.rep h k)
theorem tQ:∀(l:List α) (i:Nat),(l.eraseIdx i).length<=l.length
 | [],_=>bu _
 | _::_,0=>F0 _
 | _::r,i+1=>Nat.succ_le_succ (tQ r i)
theorem rE (its:al):∀(k:Nat) (acc:al),
  List.foldl (λx1 x2=>x1++x2) acc.toArray (List.replicate k its.toArray)=(acc++(List.replicate k its).flatten).toArray
 | 0,acc=>by simp
 | k+1,acc=>by
  have e:acc.toArray++its.toArray=(acc++its).toArray:=by simp
  have e2:(acc++its)++(List.replicate k its).flatten=acc++(List.replicate (k+1) its).flatten:=by
   rw[List.replicate_succ,List.flatten_cons,G5]
  rw[<-e2,<-rE its k (acc++its),<-e,List.replicate_succ,List.foldl_cons]
section
variable {X:Cx}{pins:af}{σ:St}{H:Hp}{s:Shared}{l b:Addr}{xs ys zs:ar}
def Inv.lset {its its':al}{n:Nat}{f:az->az}{t':Nat}(I:Inv X pins σ H s)(hH:H l=some (.lst xs))
  (e:s.heap.get? l=some { cls:=.type "list",data:=.seq its.toArray n })(hf:f its.toArray=its'.toArray)(hv:Vals ys its')(hz:ys.length<=sizeLine) :
  Inv X pins σ (upd H l (.lst ys)) { s with heap:=s.heap.update l (Obj.mapSeq f),toks:=t' }:=by
 have q:=PySem.IsL.update e f;rw[hf] at q;refine I.write (x:=l) (e:=l) (by rw[hH]; exact trivial) (.inl rfl) (λb' u hb hu=>(G3 s.heap (Obj.mapSeq f) (GR hb)).trans hu) ⟨_,q⟩ ?_;exact⟨hz,its',_,hv,q⟩
def Inv.lnew (I:Inv X pins σ H s)(hv:Vals ys its)(hz:ys.length<=sizeLine) :
  Inv X pins σ (upd H s.heap.objs.size (.lst ys)) { s with heap:=s.heap.push { cls:=.type "list",data:=.seq its.toArray },toks:=t' }:=
 I.laid (λ_ _ q=>bV _ q) (bu _) ⟨hz,its,0,hv,c6 _ rfl⟩
theorem Inv.fresh (I:Inv X pins σ H s):H s.heap.objs.size=none:=I.hok.fresh (bu _)
def Inv.lstM (I:Inv X pins σ H s)(hH:H l=some (.lst xs)):xs.length<=sizeLine/\∃(its:al) (n:Nat),Vals xs its/\xs.length=its.length/\s.heap.get? l=some { cls:=.type "list",data:=.seq its.toArray n }:=by
 obtain⟨z,its,n,r,e⟩:=I.hok l _ hH;exact⟨z,its,n,r,r.length,e⟩
def uz (h:n<=sizeLine):Builtin.List.listTooLong n=false:=by
 unfold Builtin.List.listTooLong;exact F8 (by omega)
end
section
variable {X:Cx}
def fU:V->ar->Hp->VK->Prop:=λx vs H Q=>∃l xs y,x=.ref l/\vs=[y]/\H l=some (.lst xs)/\xs.length<sizeLine/\Q .non (upd H l (.lst (xs++[y])))
def pr:oi X "list.append" fU:=by
 intro pins s σ H x vs v us Q I rx rv h;obtain⟨l,xs,y,rfl,rfl,hH,hz,q⟩:=h;cases rx;obtain⟨u,rfl,ru⟩:=rv.one;obtain⟨z,its,n,r,hl,e⟩:=I.lstM hH;refine GO F.slot_list_append ⟨_,e,rfl⟩ F.entry_list_append (F.args_list_append_2 _ _) (PySem.list_append l its.toArray n u (by rw[Fh]; omega)) ⟨e,?_⟩;refine⟨.non,_,I.lset (its':=its++[u]) hH e (by simp) (r.append (.cons ru .nil)) ?_,rfl,q⟩;rw[FC,List.length_singleton];omega
def pB:R2:=λx y H Q=>∃l k xs,x=.ref l/\y=.int k/\Rd H l (.lst xs) /\ -(2 ^ 63)<=k/\k<2 ^ 63/\xs.length * k.toNat<=sizeLine /\
 ∀p,H p=none->Q (.ref p) (upd H p (.lst (List.replicate k.toNat xs).flatten))
def qR (xs:List α)(k:Nat):(List.replicate k xs).flatten.length=k * xs.length:=by
 induction k with
 | zero=>simp
 | succ k ih=>rw[List.replicate_succ,List.flatten_cons,FC,ih,Nat.succ_mul,Nat.add_comm]
def yd:OpR X (binaryOp .Mult) pB:=by
 intro pins s σ H x y v u Q I rx ry h;obtain⟨l,k,xs,rfl,rfl,hH,h1,h2,hz,q⟩:=h;cases rx;obtain⟨t,rfl⟩:=ry;obtain⟨z,its,n,r,e⟩:=hH.ok I.hok;have hl:=r.length;have hlen:its.toArray.size * k.toNat<=sizeLine:=by rw[Fh,<-hl]; exact hz
 have hcap:¬its.toArray.size * k.toNat > (2 ^ 63 - 1) / 8:=by
  have:(sizeLine:Nat)<=(2 ^ 63 - 1) / 8:=by decide
  omega
 have hfit:¬(!Builtin.List.listFitsIndex k)=true:=by
  rw[fitsIndex_both h1 h2];exact Fy
 have hlong:¬Builtin.List.listTooLong (its.toArray.size * k.toNat)=true:=by
  rw[uz hlen];exact Fy
 have hnew:List.foldl (λx1 x2=>x1++x2) #[] (List.replicate (if its.toArray.isEmpty=true then 0 else k.toNat) its.toArray)=(List.replicate k.toNat its).flatten.toArray:=by
  have f0:∀m:Nat,List.foldl (λx1 x2=>x1++x2) #[] (List.replicate m its.toArray)=(List.replicate m its).flatten.toArray:=λm=>by
   have:=rE its m [];rw[List.nil_append] at this;exact this
  rw[f0];cases its with
  | nil=>simp
  | cons a r'=>rw[if_neg (by simp)]
 refine wpAny_binaryOp_repeat_ref (T := "list") (U := "int") (by decide) ⟨_,e,rfl⟩ (λs'=>typeIs_int s' k t) noFill_list_mul F.fills_int_mul F.slot_int_rmul repeat_list F.slot_int_index.lookup
  (GO F.slot_int_rmul (typeIs_int s k t) F.entry_int_rmul (F.args_int_rmul_2 _ _) (int___rmul___int_list k t l its.toArray n)
   ⟨e,rfl,⟨_,e,rfl⟩,GO F.slot_list_mul ⟨_,e,rfl⟩ F.entry_list_mul (F.args_list_mul_2 _ _) (AutoListH.list___mul___list_int_3 l its.toArray n k t hfit hcap hlong) ⟨e,?_⟩⟩)
 rw[hnew];exact⟨.ref _,_,I.lnew (t':=s.toks) (r.rep k.toNat) (by rw[qR,Nat.mul_comm]; exact hz),rfl,q _ I.fresh⟩
end
section
variable {prog:Program}{w:World}{A:Around}{E:Value->Shared->Prop}{s:Shared}
end
section
variable {X:Cx}
end
end L2
namespace Att
open PySem PySem.W PySem.Calls PyProof.Rows
def yQ:∀(ns:aj) (vs:al),WellAll P h vs (ns.map WData.int)->IntsAre vs ns:=by
 intro ns;induction ns with
 | nil=>
  intro vs w;rw[List.map_nil] at w;cases w;exact .nil
 | cons n ns ih=>
  intro vs w;rw[Fk] at w;cases w with
  | cons a b=>
   cases a;exact .cons _ _ (ih _ b)
def DU {l:OpenLaw}{n:Nat}(hn:l.most=some n){P:Params}{h:Heap}{args:List WData}{vals:al}
  (hpre:l.row.toRowW.claim.pre args=true)(hwl:WellAll P h vals args) :
  ∃a vs ns,vals=[Value.ref a]/\args=[WData.list (ns.map WData.int)]/\h.get? a=some { cls:=.type "list",data:=.seq vs.toArray }/\IntsAre vs ns/\ns.length<=n:=by
 have hsh:WShape.hasAll [] args [.list .int]=true:=(pre_splitW hpre).1;have hc:l.pre.holds [] { args:=args }=true:=(pre_splitW hpre).2;obtain⟨d,r,rfl,h1,h2⟩:=hasAllW_cons hsh;obtain rfl:=hasAllW_nil h2;obtain⟨xs,rfl,h3⟩:=hasW_list h1;obtain⟨ns,rfl⟩:=items_int h3;have hlen:ns.length<=n:=by
  unfold OpenLaw.pre at hc;have h4:(WTm.not (.lt (.lit (.int (n:Int))) (.len (.arg 0)))).holds [] { args:=[.list (ns.map .int)] }=true:=by
   have h4:=(holds_andW hc).1;rw[hn] at h4;exact h4
  have h5:=condW_of h4 (w_not (w_lt w_lit (w_len_list (w_arg rfl))));rw[Fj] at h5;refine Nat.le_of_not_lt λq=>?_;have q':(n:Int)<((ns.length:Nat):Int):=by omega
  first
   | (rw[FF q'] at h5; exact absurd h5 (by decide))
   | (simp at h5; omega)
 cases hwl with
 | cons w1 w2=>
  cases w2;cases w1 with
  | list ho hall=>exact⟨_,_,ns,rfl,rfl,ho,yQ ns _ hall,hlen⟩
def wX (l:OpenLaw)(args:List WData):l.row.toRowW.claim.post args (.bool true) args=true:=
 postW_of (r:=l.row.toRowW) (X:=(true == true))
  (show WShape.has [] (.bool true) .bool=true by first | rfl | decide | simp[WShape.has,WShape.arms,WShape.armsAll])
  (show (WTm.eq .res (.lit (.bool true))).value [] { args:=args,res:=some (.bool true),after:=args }=some (.bool (true == true)) from w_eq_bool (w_res rfl) w_lit) rfl
def attach_call {l:OpenLaw}{n:Nat}{q:Program}{loose:ao}{XP:(Str->ay)->Heap->Prop}{YP:World->Heap->Prop}{d:DefRec}
  (hn:l.most=some n)(hdf:d.params.defaults=[])
  (call:∀(w:World) (s₀ s₁:Shared) (mg mb:Str->ay) (fa:Addr) (o:Obj) (pm cd doc:Value) (a:Addr) (vs:al) (ns:aj),
   Ground q loose [] XP w s₀ mg mb s₁.heap->YP w s₁.heap ->
   s₁.heap.get? fa=some o->o.data=.func (docDef d.name d.params d.body d.scope pm cd doc)->s₁.heap.CodeRec cd d.name->mg d.name=some (.ref fa) ->
   s₁.heap.get? a=some { cls:=.type "list",data:=.seq vs.toArray }->IntsAre vs ns->ns.length<=n->s₁.gens = #[] ->
   codeAny (model l.prog w) callerA (.call (.ref fa) ⟨[.ref a],[]⟩) (λr s'=>r=.ok (.ret (.bool true))/\OldK s₁.heap s'.heap/\s'.os=s₁.os/\AllBare s'.gens) s₁) :
  WalkO q loose XP YP l.row.toRowW d [] (λf vs=>PySem.call f vs):=by
 intro w s₀ s₁ mg mb G Y fa o pm cd doc dV kV ho hd hcd hD hmg hg args vals as hpre hlay hrd hwl hlo;obtain rfl:dV=.none:=Dflts.none hD hdf;obtain rfl:kV=.none:=Dflts.noKw hD;obtain⟨a,vs,ns,rfl,rfl,hobj,hints,hlen⟩:=DU hn hpre hwl;refine enter_call (G1 (call w s₀ s₁ mg mb fa o pm cd doc a vs ns G Y ho (fd_plain hd) hcd hmg hobj hints hlen hg) λr s' hq=>?_);obtain⟨rfl,h2,h3,h4⟩:=hq;exact⟨.inl ⟨.bool true,.bool true,[],rfl,λ_=>rfl,.bool true,wX l _,λ_=>⟨List.Pairwise.nil,λ_ hm=>(nomatch hm)⟩⟩,h2,h3,h4⟩
section
variable {prog:Program}{w:World}{A:Around}{E:Value->Shared->Prop}{s:Shared}{K:Frag}
end
end Att
namespace L2
open PySem PySem.Spec PyProof.Rows
theorem ut:∀{vs:al} {ns:aj},IntsAre vs ns->Vals (ns.map V.int) vs
 | _,_,.nil=>.nil
 | _,_,.cons n t h=>.cons ⟨t,rfl⟩ (ut h)
def iZ (H:Hp):Prop:=∀b,H b=none\/∃o xs,H b=some (.frz o (.lst xs))
def Bg {P:Program}{w:World}{K:be}{mg mb:Str->ay}{CX:gk}{k:Nat}{fa a:Addr}{fd:FuncData}{x:Str}{sp:Sp}{s₁:Shared}{vs:al}{ns:aj}
  (KX:K.In s₁.heap)(hns:s₁.heap.Ns mainGlobals mg)(hb:s₁.heap.Ns builtinsNs mb)(hbb:∀x:Str,x ≠ "__name__" -> mb x=bootBuiltins x)(hlim:s₁.heap.NoLimit)(hg:s₁.gens = #[])
  (ha:s₁.heap.get? a=some { cls:=.type "list",data:=.seq vs.toArray })(hi:IntsAre vs ns)(hl:ns.length<=sizeLine)(hr:Room k callerA)
  (F:∀base:Heap,K.In base->base.Ns mainGlobals mg->FnOk P w K mg base CX k fa fd [x] sp)(hbind:∀(s:Shared) (u:Value),BindsTo s fd ⟨[u],[]⟩ [(x,u)])
  (hsp:∀H:Hp,iZ H->SqL K H a (ns.map V.int)->sp [.ref a] H (λv _=>v=.bl true) λ_ _ _=>False)
  (hCX:∀H e s',CX [] H s₁ (λ_ _ _=>False) e s'->False) :
  codeAny (model P w) callerA (.call (.ref fa) ⟨[.ref a],[]⟩) (λr s'=>r=.ok (.ret (.bool true))/\OldK s₁.heap s'.heap/\s'.os=s₁.os/\AllBare s'.gens) s₁:=by
 have rv:=ut hi;have lenV:=hi.length;have core:∀H:Hp,iZ H->SqL K H a (ns.map V.int)->HOk P w H s₁.heap->(∀b,H b≠none->b=a)->(H a≠none->K.lookup a=none) ->
   codeAny (model P w) callerA (.call (.ref fa) ⟨[.ref a],[]⟩) (λr s'=>r=.ok (.ret (.bool true))/\OldK s₁.heap s'.heap/\s'.os=s₁.os/\AllBare s'.gens) s₁:=by
  intro H hO hS hok hA hK;have base_of:∀{b:Addr} {o:Obj},s₁.heap.get? b=some o->H b=none->(d6 s₁.heap H).get? b=some o:=λe n=>BK e n;have noA:∀{b:Addr} {o:Obj} {es:Array DictEntry} {ep:Nat},s₁.heap.get? b=some o->o.data=.dict es ep->H b=none:=λ{b o es ep} e d=>by
   cases q:H b with
   | none=>rfl
   | some u=>
    have e':b=a:=hA b (by rw[q]; simp);subst e';rw[ha] at e; cases e;have d':Data.seq vs.toArray _=Data.dict es ep:=d;cases d'
  have nsK:∀{b:Addr} {m:Str->ay},s₁.heap.Ns b m->(d6 s₁.heap H).Ns b m:=λ{b m} ⟨o,es,ep,e,d,r⟩=>⟨o,es,ep,base_of e (noA e d),d,r⟩
  have hKb:K.In (d6 s₁.heap H):=λb o e=>base_of (KX b o e) (by
   cases q:H b with
   | none=>rfl
   | some u=>
    have e':b=a:=hA b (by rw[q]; simp);subst e';rw[hK (by rw[q]; simp)] at e; cases e)
  have hM:Mod K mg (d6 s₁.heap H):=⟨hKb,nsK hns,⟨mb,nsK hb,hbb⟩,let ⟨mc,h1,h2⟩:=hlim; ⟨mc,nsK h1,h2⟩⟩
  have e0:Env0 P w K mg (d6 s₁.heap H) callerA [] s₁ H:=⟨rfl,hM,λb o e=>yG e,Nat.le_of_eq (D0 _ _),trivial,λb hb=>absurd (show b∈([]:ak) from hb) (by simp),hok,.of_eq hg⟩
  refine G1 ((F _ hKb (nsK hns)).run callerA [] s₁ H ⟨[.ref a],[]⟩ [.ref a] [.ref a] _ _ hr e0 (hbind s₁ (.ref a)) (.cons rfl .nil) (hsp H hO hS)) λr s' h=>?_;cases r with
  | error e=>exact (hCX H e s' h).elim
  | ok fl=>
   cases fl with
   | next=>exact False.elim h
   | brk=>exact False.elim h
   | cont=>exact False.elim h
   | ret u=>
    obtain⟨v,H',os,bare,un,hok',r',q⟩:=h;have q':v=.bl true:=q;subst q';obtain rfl:u=Value.bool true:=r';refine⟨rfl,OldK.of_keep λb o e=>?_,os,bare⟩;cases q:H b with
    | none=>exact un.keep b o e q (by intro z; exact absurd (show b∈([]:ak) from z) (by simp)) (by simp)
    | some u=>
     rcases hO b with z | ⟨ob,xs,z⟩
     .rw[q] at z; cases z
     .have z2:=un.frzs b ob _ z;obtain⟨e1,_⟩:=hok b _ z;obtain⟨e2,_⟩:=hok' b _ z2;rw[e] at e1; cases e1;exact e2
 cases hk:K.lookup a with
 | some o=>
  have e:=KX a o hk;rw[ha] at e;cases e;refine core (λ_=>none) (λ_=>.inl rfl) (.inr ⟨_,vs.toArray,_,hk,rfl,rfl,rfl,by rw[Fh,lenV]; exact hl,by simpa using rv⟩) (λb u z=>by have z':(none:Option HO)=some u:=z; cases z') (λb z=>absurd rfl z) λz=>absurd rfl z
 | none=>
  refine core (λb=>if b=a then some (.frz { cls:=.type "list",data:=.seq vs.toArray } (.lst (ns.map V.int))) else none) (λb=>?_) (.inl (.inr ⟨{ cls:=.type "list",data:=.seq vs.toArray },if_pos rfl⟩)) (λb u z=>?_) (λb z=>?_) λ_=>hk
  .by_cases hb:b=a
   .exact .inr ⟨_,_,if_pos hb⟩
   .exact .inl (if_neg hb)
  .by_cases hb:b=a
   .have z':=(if_pos hb).symm.trans z;cases z';subst hb;exact⟨ha,by rw[Fj]; exact hl,vs,_,rv,ha⟩
   .have z':=(if_neg hb).symm.trans z;cases z'
  .by_cases hb:b=a
   .exact hb
   .exact absurd (if_neg hb) z
end L2
namespace L2
open PySem PySem.Spec PyProof.Rows
end L2
namespace L2
open PySem PySem.Spec PyProof.Rows
noncomputable def dq (s:Stmt)(j:Nat):Stmt:=match s with
 | .ClassDef _ _ _ body _ _ _ _ _ _ _=>body.getD j (.Pass ⟨0,0,0,0⟩)
 | _=>.Pass ⟨0,0,0,0⟩
noncomputable def aR (s:Stmt):Arguments:=match s with
 | .FunctionDef _ a _ _ _ _ _ _ _ _=>a
 | _=>{ posonlyargs:=[],args:=[],vararg:=none,kwonlyargs:=[],kw_defaults:=[],kwarg:=none,defaults:=[] }
noncomputable def bh (s:Stmt):aE:=match s with
 | .FunctionDef _ _ b _ _ _ _ _ _ _=>b
 | _=>[]
noncomputable def cH (s:Stmt):Scope:=match s with
 | .FunctionDef _ _ _ _ _ _ sc _ _ _=>sc
 | _=>{ kind:=.function,names:=[],isGenerator:=false,isCoroutine:=false }
abbrev E0:St->XK:=λ_ _ _ _=>False
section
variable {P:Program}{w:World}{K:be}{mg:Str->ay}{base:Heap}
end
section
variable {X:Cx}
end
def Same (H H':Hp):Prop:=∀b o,H b=some o->H' b=some o
def Same.trans (a:Same H H1)(b:Same H1 H2):Same H H2:=λc o h=>b c o (a c o h)
def Same.free (e:Same H H')(h:H' l=Option.none):H l=Option.none:=by
 cases q:H l with
 | none=>rfl
 | some o=>
  rw[e l o q] at h;cases h
def Same.seq {K:be}{H H':Hp}{a:Addr}{xs:ar}(e:Same H H')(h:SqL K H a xs):SqL K H' a xs:=by
 rcases h with (h | ⟨o,h⟩) | h
 .exact .inl (.inl (e _ _ h))
 .exact .inl (.inr ⟨o,e _ _ h⟩)
 .exact .inr h
end L2
end
section
namespace L2
open PySem PySem.W Builtin Builtin.ObjectAttr
structure Fly (h:Heap)(e T:Addr)(fl:Value):Prop where
 ex:∃oe vs oT ts,h.get? e=some oe/\oe.data=.fields vs/\vs[1]? = some (.ref T)/\h.get? T=some oT/\oT.data=.fields ts/\ts[3]? = some fl
 ne:T≠e
structure XStep (fr:ak)(e:Addr)(ch:ak)(h h':Heap):Prop where
 size:h.objs.size<=h'.objs.size
 keep:∀b o,h.get? b=some o->b≠e->b∉fr->b∉ch->h'.get? b=some o
 slot:∀b o,h.get? b=some o->b≠e->b∈fr->b∉ch->∃sl,h'.get? b=some { o with slots:=sl }
 exc:∀oe vs,h.get? e=some oe->oe.data=.fields vs->∃vs':az,h'.get? e=some { oe with data:=.fields vs' }/\vs'.size=vs.size/\vs'[0]? = vs[0]?
 there:∀b o,h.get? b=some o->b≠e->∃o',h'.get? b=some o'
def CS {o:Obj}{vs:az}(hd:o.data=.fields vs)(f:az->az):o.mapFields f={ o with data:=.fields (f vs) }:=by
 obtain⟨c,d,dt,sl⟩:=o; subst hd; rfl
theorem XStep.trans (a:XStep fr e ch h1 h2)(b:XStep fr e ch h2 h3):XStep fr e ch h1 h3 where
 size:=bv a.size b.size
 keep:=λc o z n1 n2 n3=>b.keep c o (a.keep c o z n1 n2 n3) n1 n2 n3
 slot:=λc o z n1 n2 n3=>by
  obtain⟨sl,z1⟩:=a.slot c o z n1 n2 n3;obtain⟨sl',z2⟩:=b.slot c _ z1 n1 n2 n3;exact⟨sl',z2⟩
 exc:=λoe vs z hd=>by
  obtain⟨v1,z1,e1,e2⟩:=a.exc oe vs z hd;obtain⟨v2,z2,e3,e4⟩:=b.exc _ v1 z1 rfl;exact⟨v2,z2,e3.trans e1,e4.trans e2⟩
 there:=λc o z n1=>by
  obtain⟨o1,z1⟩:=a.there c o z n1;exact b.there c o1 z1 n1
def XStep.mono (a:XStep fr e ch h1 h2)(hf:∀b∈fr,b∈fr')(hc:∀b∈ch,b∈ch'):XStep fr' e ch' h1 h2 where
 size:=a.size
 keep:=λc o z n1 n2 n3=>a.keep c o z n1 (λq=>n2 (hf c q)) λq=>n3 (hc c q)
 slot:=λc o z n1 n2 n3=>by
  by_cases q:c∈fr
  .exact a.slot c o z n1 q λq=>n3 (hc c q)
  .exact⟨o.slots,a.keep c o z n1 q λq=>n3 (hc c q)⟩
 exc:=a.exc
 there:=a.there
section
variable {M:Model}{A:Around}{E:Value->Shared->Prop}{s:Shared}{base:Heap}{env:Env}{outer:List Env}{L e T:Addr}{Q:Unit->Shared->Prop}
def rA {oe:Obj}{vs:az}{i:Nat}{x:Value}(he:s.heap.get? e=some oe)(hd:oe.data=.fields vs)(hi:i<vs.size)
  (hQ:∀h',h'.objs.size=s.heap.objs.size->h'.get? e=some { oe with data:=.fields (vs.setIfInBounds i x) }->(∀b,b≠e->h'.get? b=s.heap.get? b)->Q () { s with heap:=h' }):wpAny M A (setField (.ref e) i x) Q E s:=by
 refine Hy he hd hi (hQ _ (Heap.size_after_update ..) ?_ λb hb=>G3 _ _ (GR hb));rw[<-CS hd (λws=>ws.setIfInBounds i x)];exact Gi _ he (Hi (Hz hd _))
def An (hfr:A.frames=some (env::outer))(hl:s.heap.FunFrames base (env::outer))(hf:env.frame=some L)
  (he:s.heap.get? e=some oe)(hd:oe.data=.fields vs)(hz:1<vs.size)
  (hQ:∀h',Fly h' e s.heap.objs.size (rawInt L)->XStep ((env::outer).filterMap (·.frame)) e [] s.heap h'->Q () { s with heap:=h' }) :
  wpAny M A (do let a <-frameOf env; let pl <-entryPlaceOf L hadNext; let b <-EntryCells.newEntry head a .none (rawInt L) .none pl; setField (.ref e) 1 b) Q E s:=by
 have nfr:e∉(env::outer).filterMap (·.frame):=λhm=>by
  obtain⟨_,o,ho,hnf⟩:=hl.mem hm;rw[he] at ho;cases ho;exact hnf vs hd
 refine aK (wpAny_frameOf_fun hfr hl hf λh1 so=>aK (wpAny_entryPlaceOf λpl hpl=>?_));have z1:h1.get? e=some oe:=(so.2.1 e nfr).trans he;unfold EntryCells.newEntry newFields;refine aK (FE ?_ (hpl.sizeOk5 _ _ _ _ _));generalize hto:({ cls:=.type "traceback",dict:=none,data:=.fields ([head,.ref L,.none,rawInt L,.none]++(if pl.isEmpty then List.replicate 6 Value.none else pl)).toArray }:Obj)=to;have dto:to.data=.fields ([head,.ref L,.none,rawInt L,.none]++(if pl.isEmpty then List.replicate 6 Value.none else pl)).toArray:=by rw[<-hto]
 have nft:to.isFreed=false:=Hi dto;refine rA (bV _ z1) hd hz λh2 sz2 g2 k2=>?_;have lte:e<h1.objs.size:=bM z1;have gT:h2.get? h1.objs.size=some to:=(k2 _ (Gp lte)).trans (c6 _ nft);have sz1:h1.objs.size=s.heap.objs.size:=so.1;rw[<-sz1] at hQ;refine hQ h2 ⟨⟨_,_,to,_,g2,rfl,by simp[hz],gT,dto,by simp⟩,Gp lte⟩ ⟨?_,λb o z n1 n2 _=>?_,λb o z n1 _ _=>?_,λo ws z hw=>?_,λb o z n1=>?_⟩
 .rw[sz2];show s.heap.objs.size<=(h1.push to).objs.size;rw[Fz,sz1];omega
 .rw[k2 b n1];exact bV _ ((so.2.1 b n2).trans z)
 .obtain⟨sl,q⟩:=so.2.2 b o z;exact⟨sl,by rw[k2 b n1]; exact bV _ q⟩
 .rw[he] at z;cases z;rw[hd] at hw;cases hw;exact⟨_,g2,by simp,by rw[Array.getElem?_setIfInBounds_ne (by decide)]⟩
 .obtain⟨sl,q⟩:=so.2.2 b o z;exact⟨_,by rw[k2 b n1]; exact bV _ q⟩
def DR (hfr:A.frames=some (env::outer))(hl:s.heap.FunFrames base (env::outer))(hf:env.frame=some L)(F:Fly s.heap e T .none)
  (hQ:∀h',Fly h' e s.heap.objs.size (rawInt L)->XStep ((env::outer).filterMap (·.frame)) e [T] s.heap h'->Q () { s with heap:=h' }):wpAny M A (noteFrame (.ref e) env) Q E s:=by
 obtain⟨⟨oe,vs,oT,ts,he,hd,h1,hT,hdT,h3⟩,hne⟩:=F;unfold noteFrame;simp only[hf];refine aK (Gq he hd h1 ?_);rw[if_pos (show (Value.ref T != Value.none)=true from by simp)];refine aK (Gq hT hdT h3 ?_);rw[if_neg (show ¬((Value.none == rawInt L)=true) from by simp[rawInt])];refine aK (rA hT hdT (FZ.mp h3).1 λh1' sz1 g1 k1=>?_);have nT:∀b o,s.heap.get? b=some o->(∀vs,o.data≠.fields vs)->b≠T:=λb o hb hnf z=>by
  rw[z,hT] at hb;cases hb;exact hnf ts hdT
 have st:XStep ((env::outer).filterMap (·.frame)) e [T] s.heap h1':=⟨Nat.le_of_eq sz1.symm,λb o z _ _ n=>by rw[k1 b (by simpa using n)]; exact z,λb o z _ _ n=>⟨o.slots,by rw[k1 b (by simpa using n)]; exact z⟩,
  λo ws z hw=>⟨ws,by rw[k1 e (GR hne),z,<-hw],rfl,rfl⟩,λb o z _=>by
   by_cases q:b=T
   .rw[q]; exact⟨_,g1⟩
   .exact⟨o,by rw[k1 b q]; exact z⟩⟩
 refine An (base:=base) (s:={ s with heap:=h1' }) hfr (hl.of_keeps λb o hb hnf=>⟨o,by rw[k1 b (nT b o hb hnf)]; exact hb,rfl⟩) hf (by rw[k1 e (GR hne)]; exact he) hd (FZ.mp h1).1 λh2 F2 st2=>?_;rw[show ({ s with heap:=h1' }:Shared).heap.objs.size=s.heap.objs.size from sz1] at F2;exact hQ h2 F2 (st.trans (st2.mono (λ_ z=>z) λ_ z=>nomatch z))
def Cq (F:Fly s.heap e T fl)(hQ:∀h',Fly h' e T .none->XStep [] e [T] s.heap h'->Q () { s with heap:=h' }):wpAny M A (setFlight (.ref e) none) Q E s:=by
 obtain⟨⟨oe,vs,oT,ts,he,hd,h1,hT,hdT,h3⟩,hne⟩:=F;unfold setFlight;refine aK (Gq he hd h1 ?_);rw[if_pos (show (Value.ref T != Value.none)=true from by simp)];refine rA hT hdT (FZ.mp h3).1 λh' sz g k=>?_;refine hQ h' ⟨⟨oe,vs,_,_,by rw[k e (GR hne)]; exact he,hd,h1,g,rfl,by simp[(FZ.mp h3).1]⟩,hne⟩ ⟨Nat.le_of_eq sz.symm,λb o z _ _ n=>by rw[k b (by simpa using n)]; exact z,(λb o z _ n _=>nomatch n),
  λo ws z hw=>⟨ws,by rw[k e (GR hne),z,<-hw],rfl,rfl⟩,λb o z _=>?_⟩
 by_cases q:b=T
 .rw[q]; exact⟨_,g⟩
 .exact⟨o,by rw[k b q]; exact z⟩
def Ai (hfr:A.frames=some (env::outer))(hl:s.heap.FunFrames base (env::outer))(hf:env.frame=some L)(F:Fly s.heap e T .none)
  (hQ:∀h',Fly h' e s.heap.objs.size .none->XStep ((env::outer).filterMap (·.frame)) e [T,s.heap.objs.size] s.heap h'->Q () { s with heap:=h' }):wpAny M A (leaving env (.ref e)) Q E s:=by
 unfold leaving;refine aK (DR hfr hl hf F λh2 F2 s2=>Cq (s:={ s with heap:=h2 }) F2 λh3 F3 s3=>?_);exact hQ h3 F3 ((s2.mono (λ_ z=>z) λ_ z=>by simp at z; simp[z]).trans (s3.mono (λ_ z=>nomatch z) λ_ z=>by simp at z; simp[z]))
end
section
variable {prog:Program}{w:World}{A:Around}{E:Value->Shared->Prop}{s:Shared}{K:Frag}{C x:Addr}{fI:Value}{tl:ak}{mA:Str->ay}{name:Str}{v:Value}
end
section
variable {prog:Program}{w:World}{A:Around}{E:Value->Shared->Prop}{s:Shared}{K:Frag}{C x:Addr}{fI:Value}{tl:ak}{mA:Str->ay}{name:Str}{v:Value}
end
section
variable {prog:Program}{w:World}{A:Around}{E:Value->Shared->Prop}{s:Shared}{K:Frag}{C x:Addr}{fI:Value}{tl:ak}{mA:Str->ay}{name:Str}{v:Value}
end
section
variable {prog:Program}{w:World}{A:Around}{E:Value->Shared->Prop}{s:Shared}{K:Frag}{C:Addr}{fI:Value}{tl:ak}
end
section
variable {M:Model}{A:Around}{E:Value->Shared->Prop}{s:Shared}{env:Env}{K:Frag}{C:Addr}{tl:ak}
end
end L2
end
section
namespace L2
open PySem PySem.Spec PyProof.Rows
noncomputable def cx (env:Env)(names:List (Str×NameKind))(acc:ah):ah:=
 names.foldl (λcs x=>if x.2 == NameKind.free then (x.1,(env.cells.lookup x.1).getD 0)::cs else cs) acc
theorem sw {α β:Type}{f:α->β->Sem (ForInStep β)}(g:β->α->β):∀(l:List α) (c:β),(∀x∈l,∀c,f x c=pure (.yield (g c x)))->forIn l c f=pure (l.foldl g c)
 | [],_,_=>rfl
 | x::r,c,h=>by
  rw[List.forIn_cons,h x Gh c,pure_bind];exact sw g r (g c x) λy hy=>h y (bX _ hy)
theorem qP:∀(names:List (Str×NameKind)) (acc:ah),(∀y∈names,y.2=NameKind.free->∃c,env.cells.lookup y.1=some c)->(∀x c,acc.lookup x=some c->env.cells.lookup x=some c) ->
  (∀x c,(cx env names acc).lookup x=some c->env.cells.lookup x=some c)/\(∀y∈names,y.2=NameKind.free->∃c,(cx env names acc).lookup y.1=some c)/\∀x c,acc.lookup x=some c->∃c',(cx env names acc).lookup x=some c'
 | [],acc,_,ha=>⟨ha,(λ_ h=>nomatch h),λx c h=>⟨c,h⟩⟩
 | (n,k)::r,acc,hf,ha=>by
  by_cases hk:k=NameKind.free
  .subst hk;obtain⟨c,hc⟩:=hf (n,.free) bW rfl;have e:cx env ((n,NameKind.free)::r) acc=cx env r ((n,c)::acc):=by
    have hc':env.cells.lookup n=some c:=hc;show cx env r (if (NameKind.free == NameKind.free)=true then (n,(env.cells.lookup n).getD 0)::acc else acc)=_;rw[if_pos (by decide),hc'];rfl
   rw[e];obtain⟨h1,h2,h3⟩:=qP r ((n,c)::acc) (λy hy=>hf y (bX _ hy)) λx d h=>by
    rw[List.lookup_cons] at h;split at h
    .rename_i hx;have hx':x=n:=by simpa using hx
     cases h;rw[hx'];exact hc
    .exact ha x d h
   refine⟨h1,λy hy hyf=>?_,λx d h=>?_⟩
   .rcases cZ hy with rfl | hy
    .exact h3 n c (by rw[List.lookup_cons]; simp)
    .exact h2 y hy hyf
   .by_cases hx:x=n
    .subst hx;exact h3 x c (by rw[List.lookup_cons]; simp)
    .refine h3 x d ?_;rw[List.lookup_cons,show (x == n)=false from by simpa using hx];exact h
  .have e:cx env ((n,k)::r) acc=cx env r acc:=by
    show cx env r (if (k == NameKind.free)=true then (n,(env.cells.lookup n).getD 0)::acc else acc)=_;rw[if_neg (by simpa using hk)]
   rw[e];obtain⟨h1,h2,h3⟩:=qP r acc (λy hy=>hf y (bX _ hy)) ha;refine⟨h1,λy hy hyf=>?_,h3⟩;rcases cZ hy with rfl | hy
   .exact absurd hyf hk
   .exact h2 y hy hyf
def tU {scope:Scope}{env:Env}(hf:∀y∈scope.names,y.2=NameKind.free->∃c,env.cells.lookup y.1=some c) :
  ∃cl,closureFor scope env=pure cl/\(∀x c,cl.lookup x=some c->env.cells.lookup x=some c)/\∀y∈scope.names,y.2=NameKind.free->∃c,cl.lookup y.1=some c:=by
 obtain⟨h1,h2,_⟩:=qP (env:=env) scope.names [] hf (λ_ _ h=>nomatch h);refine⟨cx env scope.names [],?_,h1,h2⟩;simp only[closureFor];rw[sw (λcs x=>if x.2 == NameKind.free then (x.1,(env.cells.lookup x.1).getD 0)::cs else cs) scope.names [] λx hx c=>?_]
 .rfl
 .obtain⟨n,kind⟩:=x;by_cases hk:kind=NameKind.free
  .subst hk;obtain⟨a,ha⟩:=hf (n,.free) hx rfl;have ha':env.cells.lookup n=some a:=ha;simp only[show (NameKind.free == NameKind.free)=true from by decide,if_true,cellOf,ha'];rfl
  .have hb:(kind == NameKind.free)=false:=by simpa using hk
   simp only[hb,Fq,if_false]
noncomputable def bj (X:Cx)(N':ao)(scope:Scope)(cl:ah)(C:Addr)(s:Shared)(H:Hp)(fp:ak)(E:Value->Shared->Prop):Cx:=
 { X with N:=N',s₀:=s,H₀:=H,env:=compEnvC scope cl C X.env,outer:=X.stack,stack:=X.stack,ex:=fp,fn:=λx=>scope.names.lookup x == some .cell,pn:=[],xe:=E }
noncomputable def compOk (sc:Scope)(N N':ao)(caps:List aA)(scope:Scope):Bool:=
 scope.kind == .function&&scope.names.all (λy=>(y.2 != .cell||scope.names.lookup y.1 == some .cell)&&(y.2 != .local||scope.names.lookup y.1 == some .local)&&(y.2 != .free||(sc.names.lookup y.1 == some .cell||sc.names.lookup y.1 == some .free))) &&
 caps.length == N'.length&&decide N'.Nodup&&(caps.zip N').all λp=>match p.1 with
  | none=>true
  | some j=>N[j]? == some p.2&&scope.names.lookup p.2 == some .free
structure CompS (sc:Scope)(N N':ao)(caps:List aA)(scope:Scope):Prop where
 kind:scope.kind=.function
 cells:∀y∈scope.names,y.2=.cell->scope.names.lookup y.1=some .cell
 locs:∀y∈scope.names,y.2=.local->scope.names.lookup y.1=some .local
 free:∀y∈scope.names,y.2=.free->sc.names.lookup y.1=some .cell\/sc.names.lookup y.1=some .free
 len:caps.length=N'.length
 nd:N'.Nodup
 cap:∀(i j:Nat) (x:Str),caps[i]? = some (some j)->N'[i]? = some x->N[j]? = some x/\scope.names.lookup x=some .free
def CompS.of (h:compOk sc N N' caps scope=true):CompS sc N N' caps scope:=by
 unfold compOk at h;simp only[tw,List.all_eq_true,Fm,Fx] at h;obtain⟨⟨⟨⟨hk,hn⟩,hl⟩,hnd⟩,hc⟩:=h;refine⟨?_,λy hy e=>?_,λy hy e=>?_,λy hy e=>?_,hl,hnd,λi j x h1 h2=>?_⟩
 .cases hh:scope.kind <;> rw[hh] at hk <;> first | rfl | (exact absurd hk (by decide))
 .have:=(hn y hy).1.1;rw[e] at this;simpa using this
 .have:=(hn y hy).1.2;rw[e] at this;simpa using this
 .have:=(hn y hy).2;rw[e] at this;simpa using this
 .have hz:(caps.zip N')[i]? = some (some j,x):=by rw[List.getElem?_zip_eq_some]; exact⟨h1,h2⟩
  have:=hc _ (FA hz);simpa using this
noncomputable def hU (σ:St):aA->Option V
 | none=>none
 | some j=>(σ[j]?).join
section
variable {prog:Program}{w:World}{A:Around}{R:Result->Shared->Prop}{s:Shared}
theorem CM (I:Nat->Shared->Prop)
  (turn:∀n s,I n s->wpAny (model prog w) A (pyNext it) (λr s₁=>match r with
   | none=>R (.ok .next) s₁
   | some v=>wpAny (model prog w) A (letOwnedTupleGo target it v) (λ_ s₀=>wpAny (model prog w) A (assign target env v) (λ_ s₂=>
     wpAny (model prog w) A (forIn ifs true λc r=>if r=true then do let ok <-isTrue c env (eval c env); pure (ForInStep.yield ok) else pure (ForInStep.yield r)) (λok s₃=>
      if ok=true then wpAny (model prog w) A (eval elt env) (λx s₄=>
       wpAny (model prog w) A (call (.builtin "list.append") [acc,x]) (λ_ s₅=>∃m,m<n/\I m s₅) (notedBy (model prog w) A env λe s'=>R (.error e) s') s₄) (notedBy (model prog w) A env λe s'=>R (.error e) s') s₃
      else ∃m,m<n/\I m s₃) (notedBy (model prog w) A env λe s'=>R (.error e) s') s₂) (notedBy (model prog w) A env λe s'=>R (.error e) s') s₀) (notedBy (model prog w) A env λe s'=>R (.error e) s') s₁) (notedBy (model prog w) A env λe s'=>R (.error e) s') s)
  (n:Nat)(h:I n s) :
  codeAny (model prog w) A (.compLoop (.ListComp elt [⟨target,iter,ifs,0⟩] scope pos) 0 it acc env) R s:=by
 refine codeAny_loop rfl I (λn s hI=>?_) n h;show wpAny _ A ((compTurn (.ListComp elt [⟨target,iter,ifs,0⟩] scope pos) 0 it acc env).onRaise (λx=>do noteFrame x env; theTreesLotGoes x)) _ _ s;refine wpAny_noted ?_;rw[compTurn_list];refine aK (wpAny_standAt (aK (F9 (turn n s hI) (λr s₁ h₁=>?_) λ_ _ h'=>h')));cases r with
 | none=>exact aW h₁
 | some v=>
  refine aK (F9 h₁ (λ_ s₀ h₀=>?_) λ_ _ h'=>h');refine aK (F9 h₀ (λ_ s₂ h₂=>aK (F9 h₂ (λok s₃ h₃=>?_) λ_ _ h'=>h')) λ_ _ h'=>h');cases ok with
  | false=>exact aW ⟨rfl,h₃⟩
  | true=>
   exact aK (aK (F9 h₃ (λx s₄ h₄=>aK (F9 h₄ (λ_ s₅ h₅=>aW (aW ⟨rfl,h₅⟩)) λ_ _ h'=>h')) λ_ _ h'=>h'))
end
def PTs (X:Cx)(ifs:aq)(t:TT):Prop:=
 ∀(pins:af) (s:Shared) (σ:St) (H:Hp) (Q:Bool->Hp->Prop),Inv X pins σ H s->t σ H Q ->
  wpAny (model X.prog X.w) X.A (forIn ifs true λc r=>if r=true then do let ok <-isTrue c X.env (eval c X.env); pure (ForInStep.yield ok) else pure (ForInStep.yield r)) (TP X pins σ Q) X.xe s
def gr:TT:=λ_ H Q=>Q true H
def CA:PTs X [] gr:=λ_ _ _ H _ I h=>wpAny_tests_nil ⟨H,I,h⟩
def zu (h:PT X c t):PTs X [c] t:=λpins s σ H Q I hq=>wpAny_tests_one (h pins s σ H Q I hq)
theorem PTs.nox (h:PTs X.nox ifs t):PTs X ifs t:=λpins s σ H Q I hw=>
 F9 (h pins s σ H Q (I.wish _) hw) (λ_ _ ⟨H',I',q⟩=>⟨H',I'.unwish,q⟩) λ_ _ f=>f.elim
theorem PG.nox (h:PG X.nox tg t):PG X tg t:=λpins s σ H v u Q I r hw=>
 F9 (h pins s σ H v u Q (I.wish _) r hw) (λ_ _ ⟨σ',H',I',q⟩=>⟨σ',H',I'.unwish,q⟩) λ_ _ f=>f.elim
def iP (J:It)(l:Addr)(g:TG)(tt:TT)(te:TE)(Q:VK)(σ0:St)(H:Hp):Prop:=
 ∃W:Nat->Nat->ar->St->Hp->Prop,(∃m,W 0 m [] σ0 (upd H l (.lst [])))/\∀i m ys σ H,W i m ys σ H ->
  (J.stop i H/\Q (.ref l) H)\/(J.go i H/\∃N:ar->St->Hp->Prop,(∀ys σ' H',N ys σ' H'->∃m',m'<m/\W (i+1) m' ys σ' H') /\
   ∀x H',J.yld i H x H'->g x σ H' λσ2 H3=>tt σ2 H3 λc H4=>if c=true then te σ2 H4 λv H5=>∃ys',H5 l=some (.lst ys')/\ys'.length<sizeLine/\N (ys'++[v]) σ2 (upd H5 l (.lst (ys'++[v]))) else N ys σ2 H4)
def fJ (wi:TI)(caps:List aA)(g:TG)(tt:TT)(te:TE):TE:=λσ H Q=>wi σ H λJ H1=>∀l,H1 l=none->iP J l g tt te Q (caps.map (hU σ)) H1
section
variable {X:Cx}{elt iter tg:Expr}{ifs:aq}{scope:Scope}{pos:Pos}{wi:TI}{g:TG}{tt:TT}{te:TE}{N':ao}{caps:List aA}
def oP :
  ∀k,(relabel scope env).names.lookup x=some k->scope.names.lookup x=some k\/(k=.cell/\scope.names.lookup x=some .free):=by
 have go:∀(g:Str×NameKind->Str×NameKind),(∀p,g p=p\/(p.2=.free/\g p=(p.1,.cell)))->∀(names:List (Str×NameKind)) k,(names.map g).lookup x=some k->names.lookup x=some k\/(k=.cell/\names.lookup x=some .free):=by
  intro g hg names;induction names with
  | nil=>intro k h; exact nomatch h
  | cons p r ih=>
   intro k h;rw[Fk] at h;obtain⟨n,kn⟩:=p;rcases hg (n,kn) with e | ⟨e1,e2⟩
   .rw[e,List.lookup_cons] at h;rw[List.lookup_cons];cases hx:x == n with
    | true=>rw[hx] at h; exact .inl h
    | false=>rw[hx] at h; exact ih k h
   .rw[e2,List.lookup_cons] at h;rw[List.lookup_cons];cases hx:x == n with
    | true=>
     rw[hx] at h;have e1':kn=.free:=e1;rw[e1'];exact .inr ⟨(cK h).symm,rfl⟩
    | false=>rw[hx] at h; exact ih k h
 refine go _ (λp=>?_) scope.names;obtain⟨n,k⟩:=p;by_cases hb:(k == NameKind.free&&env.scope.kind == .function&&env.kindOf n == some .cell)=true
 .refine .inr ⟨?_,if_pos hb⟩;simp only[tw,Fm] at hb;exact hb.1.1
 .exact .inl (if_neg hb)
theorem nh:∀(names:List (Str×NameKind)) (n:Nat) (acc:ah),(∀y∈names,y.2=.cell->y.1≠x)->(cellsFrom n names acc).lookup x=acc.lookup x
 | [],_,_,_=>rfl
 | (m,k)::r,n,acc,h=>by
  have hr:=λy hy=>h y (bX _ hy);unfold cellsFrom;split
  .rename_i hk;rw[nh r _ _ hr,List.lookup_cons,show (x == m)=false from by simpa using λe=>h (m,k) Gh (by simpa using hk) (Eq.symm e)]
  .exact nh r n acc hr
theorem pp {x:Str}{lo:Nat}:∀(names:List (Str×NameKind)) (n:Nat) (acc:ah),lo<=n->(∃c,acc.lookup x=some c/\lo<=c)->∃c,(cellsFrom n names acc).lookup x=some c/\lo<=c
 | [],_,_,_,h=>h
 | (m,k)::r,n,acc,hn,h=>by
  unfold cellsFrom;split
  .refine pp r (n+1) _ (by omega) ?_;rw[List.lookup_cons];cases x == m with
   | true=>exact⟨n,rfl,hn⟩
   | false=>exact h
  .exact pp r n acc hn h
theorem mJ {x:Str}{lo:Nat}:∀(names:List (Str×NameKind)) (n:Nat) (acc:ah),lo<=n->(x,NameKind.cell)∈names->∃c,(cellsFrom n names acc).lookup x=some c/\lo<=c
 | (m,k)::r,n,acc,hn,h=>by
  unfold cellsFrom;rcases cZ h with e | h
  .cases e;rw[if_pos (by decide)];refine pp r (n+1) _ (by omega) ⟨n,?_,hn⟩;rw[List.lookup_cons]; simp
  .split
   .exact mJ r _ _ (by omega) h
   .exact mJ r _ _ hn h
structure CfOk (P:Str->Addr->Prop)(lo:Nat)(h:Heap)(cs:ah):Prop where
 src:∀x c,cs.lookup x=some c->P x c\/(lo<=c/\h.IsCell c none)
 inj:∀x y c,cs.lookup x=some c->cs.lookup y=some c->x=y
 lt:∀x c,cs.lookup x=some c->c<h.objs.size
theorem pA {P:Str->Addr->Prop}{lo:Nat}:∀(names:List (Str×NameKind)) (h:Heap) (acc:ah),lo<=h.objs.size->CfOk P lo h acc->CfOk P lo (pushCells h names) (cellsFrom h.objs.size names acc)
 | [],_,_,_,x=>x
 | (m,k)::r,h,acc,hlo,x=>by
  unfold pushCells cellsFrom;split
  .have:=pA (P:=P) (lo:=lo) r (h.push { cls:=.type "cell",data:=.cell none }) ((m,h.objs.size)::acc) (by rw[Fz]; omega) ⟨λy c e=>?_,λy z c e e'=>?_,λy c e=>?_⟩
   .rwa [Fz] at this
   .rw[List.lookup_cons] at e;cases hy:y == m with
    | true=>rw[hy] at e; cases e; exact .inr ⟨hlo,_,c6 _ rfl,rfl⟩
    | false=>rw[hy] at e; exact (x.src y c e).imp id λq=>⟨q.1,q.2.keeps λb o e=>bV _ e⟩
   .rw[List.lookup_cons] at e e';cases hy:y == m with
    | true=>
     rw[hy] at e; cases e;cases hz:z == m with
     | true=>rw[Fm] at hy hz; rw[hy,hz]
     | false=>rw[hz] at e'; exact absurd (x.lt z _ e') (Ge _)
    | false=>
     rw[hy] at e;cases hz:z == m with
     | true=>rw[hz] at e'; cases e'; exact absurd (x.lt y _ e) (Ge _)
     | false=>rw[hz] at e'; exact x.inj y z c e e'
   .rw[Fz];rw[List.lookup_cons] at e;cases hy:y == m with
    | true=>rw[hy] at e; cases e; exact Gf _
    | false=>rw[hy] at e; exact F7 (x.lt y c e)
  .exact pA r h acc hlo x
structure CsOk (X:Cx)(scope:Scope)(n:Nat)(h:Heap)(cs:ah):Prop where
 src:∀x c,cs.lookup x=some c->X.env.cells.lookup x=some c\/(n<=c/\h.IsCell c none)
 inj:∀x y c,cs.lookup x=some c->cs.lookup y=some c->x=y
 has:∀x,(scope.names.lookup x=some .cell\/scope.names.lookup x=some .free)->∃c,cs.lookup x=some c
 fr:∀x c,scope.names.lookup x=some .free->cs.lookup x=some c->X.env.cells.lookup x=some c
 own:∀x c,scope.names.lookup x=some .cell->cs.lookup x=some c->n<=c
def CsOk.mk' {X:Cx}{sc:Scope}{N N':ao}{caps:List aA}{scope:Scope}{pins:af}{σ:St}{H:Hp}{s:Shared}{cl:ah}{c0:Value}(S:CompS sc N N' caps scope)(I:Inv X pins σ H s)
  (h1:∀x c,cl.lookup x=some c->X.env.cells.lookup x=some c)(h2:∀y∈scope.names,y.2=NameKind.free->∃c,cl.lookup y.1=some c) :
  CsOk X scope s.heap.objs.size (pushCells (s.heap.push { cls:=c0,data:=.dict #[] }) scope.names) (cellsFrom (s.heap.objs.size+1) scope.names cl):=by
 have ok:=pA (P:=λx c=>X.env.cells.lookup x=some c) (lo:=s.heap.objs.size) scope.names (s.heap.push { cls:=c0,data:=.dict #[] }) cl (by rw[Fz]; omega)
  ⟨λx c e=>.inl (h1 x c e),λx y c e e'=>I.ok.inj x y c (h1 x c e) (h1 y c e'),λx c e=>by
   obtain⟨v,o,ho,_⟩:=I.cell x c (h1 x c e);rw[Fz];exact F7 (bM ho)⟩
 rw[Fz] at ok;have nf:∀x,scope.names.lookup x=some .free->∀y∈scope.names,y.2=.cell->y.1≠x:=λx e y hy hk z=>by
  have:=S.cells y hy hk;rw[z,e] at this; cases this
 refine⟨ok.src,ok.inj,λx h=>?_,λx c e h=>?_,λx c e h=>?_⟩
 .rcases h with e | e
  .obtain⟨c,q,_⟩:=mJ (lo:=0) scope.names (s.heap.objs.size+1) cl (FS _) (FP e);exact⟨c,q⟩
  .obtain⟨c,q⟩:=h2 _ (FP e) rfl;exact⟨c,(nh _ _ _ (nf x e)).trans q⟩
 .rw[nh _ _ _ (nf x e)] at h;exact h1 x c h
 .obtain⟨c',q,l⟩:=mJ (lo:=s.heap.objs.size) scope.names (s.heap.objs.size+1) cl (F0 _) (FP e);rw[h] at q; cases q;exact l
def AH
  (h:Q (newEnv scope s.heap.objs.size globals (cellsFrom (s.heap.objs.size+1) scope.names closure) qual none .none (some around) builtinsNs) { s with heap:=pushCells (s.heap.push { cls:=.type "dict",data:=.dict #[] }) scope.names }) :
  wpAny M A (newFunctionEnv scope globals closure [] qual none .none (some around)) Q E s:=by
 simp only[newFunctionEnv,Option.isSome_some,if_true];refine aK (wpAny_alloc ?_);refine aK (wpAny_layCells _ (λname kind cells=>by cases hkc:kind == NameKind.cell <;> simp[hkc]) _ _ _ _ ?_);rw[show ({ s with heap:=s.heap.push { cls:=.type "dict",data:=.dict #[] } }:Shared).heap.objs.size=s.heap.objs.size+1 from Fz ..];exact aK (aW (aW h))
def D1 (E:Value->Shared->Prop)(S:CompS X.env.scope X.N N' caps scope)(I:Inv X pins σ H s)(hC:s.heap.objs.size<=C)
 (O:CsOk X scope s.heap.objs.size h1 cl)(hf:∀b∈fp,cR X pins H b/\b<s.heap.objs.size) :
    (bj X N' scope cl C s H fp E).Ok where
  mod:=I.ok.mod
  kind:=S.kind
  glob:=I.ok.glob
  blt:=I.ok.blt
  above:=hC
  inj:=O.inj
  has:=λx hx=>by
    have hx':(relabel scope X.env).names.lookup x=some .cell\/(relabel scope X.env).names.lookup x=some .free:=hx;refine O.has x ?_;rcases hx' with q | q
    . exact (oP _ q).imp id λz=>z.2
    . rcases oP _ q with z | z
      . exact .inr z
      . exact absurd z.1 (by decide)
  cab:=λx c z e=>O.own x c (by
    have z':(scope.names.lookup x == some NameKind.cell)=true:=z;simpa using z') e
  hd:=I.ok.hd
  frames:=I.ok.frames
  stk:=.inl rfl
  exf:=λb hb=>⟨dr (dR (hf b hb).2 hC),λx c e=>(O.src x c e).elim (λq=>(hf b hb).1.2.2.2.2.1 x c q) λq z=>absurd (z ▸ (hf b hb).2) (Nat.not_lt.mpr q.1)⟩
  bs:=I.bs
  bsz:=bv I.ok.bsz I.sz
  noex:=λb o e hb=>by
    rcases (hf b hb).1.2.2.2.1 with z | z
    . exact I.ok.noex b o e z
    . exact absurd (dR (bM e) (bv I.ok.bsz z)) (Ge _)
  exfs:=λb hb z=>by
    rcases cZ (I.stkSub b z) with e | e
    . exact (hf b hb).1.2.1 e
    . exact (hf b hb).1.2.2.1 e
  funs:=I.stack
  frf:=I.stkFree
def DN (E:Value->Shared->Prop)(S:CompS X.env.scope X.N N' caps scope)(I:Inv X pins σ H s)
  (O:CsOk X scope s.heap.objs.size h1 cl)(hf:∀b∈fp,cR X pins H b/\b<s.heap.objs.size)
  (hns:h1.Ns s.heap.objs.size m)(hk:∀b o,s.heap.get? b=some o->h1.get? b=some o) :
  Inv (bj X N' scope cl s.heap.objs.size s H fp E) [] (caps.map (hU σ)) H { s with heap:=h1,toks:=tk } where
 ok:=D1 E S I (bu _) O hf
 os:=rfl
 bare:=I.bare
 base:=Un.kept hk
 loc:=by
  refine⟨m,hns,λi x v e1 e2 e3=>?_⟩;rw[Fs] at e2;cases ec:caps[i]? with
  | none=>rw[ec] at e2; cases e2
  | some oc=>
   rw[ec] at e2;cases oc with
   | none=>cases e2
   | some j=>
    have e2':(σ[j]?).join=some v:=cK e2;have e4:σ[j]? = some (some v):=by
     cases q:σ[j]? with
     | none=>rw[q] at e2'; cases e2'
     | some o=>rw[q] at e2'; cases o with
      | none=>cases e2'
      | some v'=>cases e2'; rfl
    obtain⟨hN,hfr⟩:=S.cap i j x ec e1;have hkd:X.env.kindOf x=some .cell\/X.env.kindOf x=some .free:=S.free _ (FP hfr) rfl;obtain⟨m0,_,hl⟩:=I.loc;obtain⟨u,r,l⟩:=hl j x v hN e4 (hkd.elim (λz=>.inr (.inl z)) λz=>.inr (.inr z));refine⟨u,r,?_⟩;rcases l with ⟨z,_⟩ | ⟨_,c,hc,hcell⟩
    .rcases hkd with q | q <;> rw[q] at z <;> cases z
    .obtain⟨c',hc'⟩:=O.has x (.inr hfr);have:c'=c:=by
      have:=O.fr x c' hfr hc';rw[hc] at this; exact (cK this).symm
     subst this;have e3':(relabel scope X.env).names.lookup x=some .local\/(relabel scope X.env).names.lookup x=some .cell\/(relabel scope X.env).names.lookup x=some .free:=e3;refine .inr ⟨?_,c',hc',?_⟩
     .rcases e3' with q | q | q
      .rcases oP _ q with z | z
       .rw[hfr] at z; cases z
       .exact absurd z.1 (by decide)
      .exact .inl q
      .exact .inr q
     .obtain⟨o,ho,hd⟩:=hcell;exact⟨o,hk _ o ho,hd⟩
 cell:=λx c e=>by
  rcases O.src x c e with q | q
  .obtain⟨v,o,ho,hd⟩:=I.cell x c q;exact⟨v,o,hk _ o ho,hd⟩
  .exact⟨none,q.2⟩
 free:=I.hok.fresh (bu _)
 freeC:=λx c e=>(O.src x c e).elim (I.freeC x c) λq=>I.hok.fresh q.1
 pin:=λp hp=>absurd (show p∈([]:af) from hp) (by simp)
 hok:=I.hok.kept hk
 len:=by rw[Fj]; exact S.len
def rX {pins:af}{σ:St}{H:Hp}{s:Shared}{cl:ah}{it:Addr}{fp:ak}{tn:Nat->Heap->Prop}{J:It}{Q:VK}{RR:Value->Addr->Result->Shared->Prop}
  (hc:X.calm=true)(S:CompS X.env.scope X.N N' caps scope)(I:Inv X pins σ H s)
  (c1:∀x c,cl.lookup x=some c->X.env.cells.lookup x=some c)(c2:∀y∈scope.names,y.2=NameKind.free->∃c,cl.lookup y.1=some c)
  (T:Turn X.prog X.w X.K tg J fp it tn)(t0:tn 0 s.heap)(hf:∀b∈fp,cR X pins H b)
  (hg:∀cl C s H fp,PG (bj X N' scope cl C s H fp λ_ _=>False) tg g)(ht:∀cl C s H fp,PTs (bj X N' scope cl C s H fp λ_ _=>False) ifs tt)(he:∀cl C s H fp,PE (bj X N' scope cl C s H fp λ_ _=>False) elt te)
  (hw:∀l,H l=none->iP J l g tt te Q (caps.map (hU σ)) H)
  (hR:∀l C s' H' m,Inv X pins σ H' s'->cR X pins H' C->s'.heap.Ns C m->Q (.ref l) H'->RR (.ref l) C (.ok .next) s') :
  wpAny (model X.prog X.w) X.A (newList []) (λacc s₃=>wpAny (model X.prog X.w) X.A (newFunctionEnv scope X.env.globals cl [] X.env.qual none .none (some X.env)) (λcenv s₄=>
   codeAny (model X.prog X.w) X.A (.compStart (.ListComp elt [⟨tg,iter,ifs,0⟩] scope pos) 0 (.ref it) acc { cenv with scope:=relabel scope X.env }) (RR acc cenv.locals) s₄) X.xe s₃) X.xe s:=by
 refine FE (AH ?_);dsimp only;have I3:Inv X pins σ (upd H s.heap.objs.size (.lst [])) { s with heap:=s.heap.push { cls:=.type "list",dict:=none,data:=.seq ([]:List Value).toArray } }:=
  I.laid (t':=s.toks) (λb u e=>bV _ e) (bu _) ⟨FS _,[],0,.nil,c6 _ rfl⟩
 have hl0:H s.heap.objs.size=none:=I.hok.fresh (bu _);have lt0:∀b∈fp,b<s.heap.objs.size:=λb hb=>by
  obtain⟨o,e,_⟩:=T.obj 0 _ t0 b hb;exact bM e
 obtain⟨W,⟨m0,w0⟩,turn⟩:=hw s.heap.objs.size hl0;generalize hH2:s.heap.push { cls:=.type "list",dict:=none,data:=.seq ([]:List Value).toArray }=H2 at I3 ⊢;have hC:H2.objs.size=s.heap.objs.size+1:=by rw[<-hH2,Fz]
 have O:=CsOk.mk' (c0:=.type "dict") S I3 c1 c2;have hns₁:(pushCells (H2.push { cls:=.type "dict",data:=.dict #[] }) scope.names).Ns H2.objs.size λ_=>none:=(Heap.Ns.new H2 (.type "dict")).keeps (pushCells_keeps _ _);have old:∀b o,H2.get? b=some o->(pushCells (H2.push { cls:=.type "dict",data:=.dict #[] }) scope.names).get? b=some o:=λb o e=>pushCells_keeps _ _ b o (bV _ e);dsimp only at O;generalize pushCells (H2.push { cls:=.type "dict",data:=.dict #[] }) scope.names=h₁ at O hns₁ old ⊢;generalize hcs:cellsFrom (H2.objs.size+1) scope.names cl=cs at O ⊢;have old0:∀b o,s.heap.get? b=some o->h₁.get? b=some o:=λb o e=>old b o (hH2 ▸ bV _ e);have hf3:∀b∈fp,cR X pins (upd H s.heap.objs.size (.lst [])) b/\b<H2.objs.size:=λb hb=>
  ⟨⟨by rw[bT (GP (lt0 b hb))]; exact (hf b hb).1,(hf b hb).2⟩,by rw[hC]; exact F7 (lt0 b hb)⟩
 have Er:Value->Shared->Prop:=notedBy (model X.prog X.w) X.A (compEnvC scope cs H2.objs.size X.env) λe s'=>RR (.ref s.heap.objs.size) H2.objs.size (.error e) s';have loop:∀s₃:Shared,s₃={ s with heap:=h₁,toks:=s.toks } ->
   codeAny (model X.prog X.w) X.A (.compLoop (.ListComp elt [⟨tg,iter,ifs,0⟩] scope pos) 0 (.ref it) (.ref s.heap.objs.size) (compEnvC scope cs H2.objs.size X.env))
    (RR (.ref s.heap.objs.size) H2.objs.size) s₃:=by
  rintro s₃ rfl;have I4:=DN (N':=N') (caps:=caps) (tk:=s.toks) (notedBy (model X.prog X.w) X.A (compEnvC scope cs H2.objs.size X.env) λe s'=>RR (.ref s.heap.objs.size) H2.objs.size (.error e) s') S I3 O hf3 hns₁ old;generalize hX':bj X N' scope cs H2.objs.size { s with heap:=H2 } (upd H s.heap.objs.size (.lst [])) fp (notedBy (model X.prog X.w) X.A (compEnvC scope cs H2.objs.size X.env) λe s'=>RR (.ref s.heap.objs.size) H2.objs.size (.error e) s')=X' at I4;have hg':PG X' tg g:=by rw[<-hX']; exact PG.nox (hg cs H2.objs.size { s with heap:=H2 } (upd H s.heap.objs.size (.lst [])) fp)
  have ht':PTs X' ifs tt:=by rw[<-hX']; exact PTs.nox (ht cs H2.objs.size { s with heap:=H2 } (upd H s.heap.objs.size (.lst [])) fp)
  have he':PE X' elt te:=by rw[<-hX']; exact PE.nox (he cs H2.objs.size { s with heap:=H2 } (upd H s.heap.objs.size (.lst [])) fp)
  have eP:X'.prog=X.prog:=by rw[<-hX']; rfl
  have eW:X'.w=X.w:=by rw[<-hX']; rfl
  have eK:X'.K=X.K:=by rw[<-hX']; rfl
  have eA:X'.A=X.A:=by rw[<-hX']; rfl
  have eC:X'.calm=true:=by rw[<-hX']; exact hc
  have eE:X'.env=compEnvC scope cs H2.objs.size X.env:=by rw[<-hX']; rfl
  have eX:X'.xe=notedBy (model X.prog X.w) X.A (compEnvC scope cs H2.objs.size X.env) λe s'=>RR (.ref s.heap.objs.size) H2.objs.size (.error e) s':=by rw[<-hX']; rfl
  have stat:∀{H':Hp},(∀b∈fp,H' b=none)->∀b∈fp,cR X' [] H' b:=λ{H'} hn b hb=>by
   obtain⟨f0,f1,f2,f3,f4,f5⟩:=hf b hb;refine⟨hn b hb,?_,?_,.inl ?_,λx c e=>?_,λp hp=>?_⟩
   .rw[eE]; exact dr (by show b<H2.objs.size; rw[hC]; exact F7 (lt0 b hb))
   .intro z;have z':b∈fG X.stack:=by rw[<-hX'] at z; exact z
    rcases cZ (I.stkSub b z') with e | e
    .exact f1 e
    .exact f2 e
   .rw[<-hX']; exact hb
   .rw[eE] at e; exact (O.src x c e).elim (f4 x c) λq z=>absurd (z ▸ lt0 b hb) (Nat.not_lt.mpr (bv (by rw[hC]; exact F0 _) q.1))
   .have:p∈([]:af):=by rw[<-hX'] at hp; exact hp
    exact absurd this (by simp)
  refine CM (λn s'=>∃i ys σ' H',Inv X' [] σ' H' s'/\tn i s'.heap/\(∀b∈fp,H' b=none)/\W i n ys σ' H') ?_ m0
   ⟨0,[],_,_,I4,T.keep 0 _ _ t0 λb _ o e=>old0 b o e,λb hb=>(hf3 b hb).1.1,w0⟩
  rintro n s5 ⟨i,ys,σ5,H5,I5,tn5,fr5,w5⟩;rw[<-eX];rcases turn i n ys σ5 H5 w5 with ⟨stop,q⟩ | ⟨go,N,hN,step⟩
  .have d:=T.done X' eP eW eK eC i [] s5 σ5 H5 X'.xe I5 (stat fr5) tn5 stop;rw[eA] at d;refine aV d λr s6 hZz=>?_;obtain⟨hr,I6⟩:=hZz;subst hr;have u:Un (fG X.stack) fp (upd H s.heap.objs.size (.lst [])) H5 H2 s6.heap:=by
    have:=I6.base;rw[<-hX'] at this; exact this
   have hok6:HOk X.prog X.w H5 s6.heap:=by have:=I6.hok; rw[eP,eW] at this; exact this
   have os6:s6.os=s.os:=by have:=I6.os; rw[<-hX'] at this; exact this
   have I7:Inv X pins σ H5 s6:=I3.call' (ch:=fp) os6 u hok6 I6.bare λb hb=>by
    obtain⟨f0,f1,f2,f3,f4,f5⟩:=hf b hb;exact⟨f3,f1,f4,f5⟩
   obtain⟨m6,n6,_⟩:=I6.loc;have fC:H5 H2.objs.size=none:=by have:=I6.free; rw[eE] at this; exact this
   rw[eE] at n6;exact hR _ _ s6 H5 m6 I7 (I3.fpOk (bu _) fC) n6 q
  .have d:=T.item X' eP eW eK eC i [] s5 σ5 H5 X'.xe I5 (stat fr5) tn5 go;rw[eA] at d;refine aV d λr s6 hZz=>?_;obtain⟨u,hr,h6⟩:=hZz;subst hr;refine aV h6 λ_ s7 hZz=>?_;obtain⟨x,H7,I7,r7,y7,tn7,fr7⟩:=hZz;have I7':=I7.pinned (stat fr7) (T.obj _ _ tn7);have ag:=hg' _ s7 σ5 H7 x u _ I7' r7 (step x H7 y7);rw[eP,eW,eA,eE] at ag;refine aV ag λ_ s8 hZz=>?_;obtain⟨σ8,H8,I8,q8⟩:=hZz;have at':=ht' _ s8 σ8 H8 _ I8 q8;rw[eP,eW,eA,eE] at at';have again:∀{s9:Shared} {σ9:St} {H9:Hp} {ys9:ar},Inv X' ([]++cY fp s7.heap) σ9 H9 s9->N ys9 σ9 H9->∃m,m<n/\∃i ys σ' H',Inv X' [] σ' H' s9/\tn i s9.heap/\(∀b∈fp,H' b=none)/\W i m ys σ' H':=λ{s9 σ9 H9 ys9} I9 n9=>by
    obtain⟨m',hm,w9⟩:=hN ys9 σ9 H9 n9;refine⟨m',hm,i+1,ys9,σ9,H9,I9.unpinned,T.keep _ _ _ tn7 λb hb o e=>(I9.pin (b,o) (ck _ (ck _ (kz hb e)))).1,λb hb=>?_,w9⟩;obtain⟨o,e,dd⟩:=T.obj _ _ tn7 b hb;exact (I9.pin (b,o) (ck _ (ck _ (kz hb e)))).2.1
   refine aV at' λok s9 hZz=>?_;obtain⟨H9,I9,q9⟩:=hZz;cases ok with
   | false=>
    rw[if_neg (by decide)] at q9 ⊢;exact again I9 q9
   | true=>
    rw[if_pos rfl] at q9 ⊢;have ae:=he' _ s9 σ8 H9 _ I9 q9;rw[eP,eW,eA,eE] at ae;refine aV ae λy s10 hZz=>?_;obtain⟨v,H10,I10,r10,q10⟩:=hZz;obtain⟨ys',hy,hz,hn⟩:=q10;have aa:=pr (X:=X') _ s10 σ8 H10 (.ref s.heap.objs.size) [v] (.ref s.heap.objs.size) [y] (λ_ H'=>N (ys'++[v]) σ8 H') I10 rfl (.cons r10 .nil) ⟨_,ys',v,rfl,rfl,hy,hz,hn⟩;rw[eP,eW,eA] at aa;exact aV aa λ_ s11 ⟨_,H11,I11,_,q11⟩=>again I11 q11
 exact codeAny_compStart_list (loop _ rfl) (T.self _ 0 _ _ _ (T.keep 0 _ _ t0 λb _ o e=>old0 b o e) (loop _ rfl))
def BF (hc:X.calm=true)(hS:compOk X.env.scope X.N N' caps scope=true)(hi:PI X tg iter wi)
  (hg:∀cl C s H fp,PG (bj X N' scope cl C s H fp λ_ _=>False) tg g)(ht:∀cl C s H fp,PTs (bj X N' scope cl C s H fp λ_ _=>False) ifs tt)(he:∀cl C s H fp,PE (bj X N' scope cl C s H fp λ_ _=>False) elt te)
  (hs:∀x,foldedSetIterable iter X.env x=pure x:=by intro _; rfl) :
  PE X (.ListComp elt [⟨tg,iter,ifs,0⟩] scope pos) (fJ wi caps g tt te):=by
 intro pins s σ H Q I h;have S:=CompS.of hS;obtain⟨cl,hcl,c1,c2⟩:=tU (scope:=scope) (env:=X.env) λy hy hyf=>I.ok.has y.1 (S.free y hy hyf);rw[eval_ListComp];refine wpAny_comprehension_free (use:=none) rfl hs hcl S.kind S.locs (aV (hi pins s σ H _ I h) λv s1 h1=>aV h1 λitv s2 h2=>?_);obtain⟨it,fp,tn,J,H2,rfl,I2,T,t0,f2,hw⟩:=h2;refine rX (RR:=λacc C=>compPost (model X.prog X.w) X.A X.xe none (EP X pins σ Q) acc C) hc S I2 c1 c2 T t0 f2 hg ht he hw ?_;intro l C s' H' m I' fC hn q;refine⟨m,hn,λh' hs'=>?_⟩;obtain⟨f0,f1,f3,f4,f5,f6⟩:=fC;have I'':Inv X pins σ H' { s' with heap:=h' }:=I'.turned (t':=s'.toks) (it:=C) (λb o hb e=>hs'.extBut b o hb e) f0 f1 f4 f5 f6;exact⟨.ref l,H',I'',rfl,q⟩
def CB (hc:X.calm=true)(hS:compOk X.env.scope X.N N' caps scope=true)(hN:X.N.Nodup)(hx:X.N[i]? = some x)(hl:Loc X.env.scope x)(hi:PI X tg iter wi)
  (hg:∀cl C s H fp,PG (bj X N' scope cl C s H fp λ_ _=>False) tg g)(ht:∀cl C s H fp,PTs (bj X N' scope cl C s H fp λ_ _=>False) ifs tt)(he:∀cl C s H fp,PE (bj X N' scope cl C s H fp λ_ _=>False) elt te)
  (hsw:swapsWith (.ListComp elt [⟨tg,iter,ifs,0⟩] scope pos) (some (.Name x pos')) spos.line X.env=pure true)(hf:X.fn x=true\/X.env.scope.names.lookup x=some .local:=by first | exact .inl rfl | exact .inr rfl | assumption)
  (hs:∀x,foldedSetIterable iter X.env x=pure x:=by intro _; rfl) :
  PS X (.Assign [.Name x pos'] (.ListComp elt [⟨tg,iter,ifs,0⟩] scope pos) spos) (jz (fJ wi caps g tt te) (eM i)):=by
 intro pins s σ H D I h;have S:=CompS.of hS;obtain⟨cl,hcl,c1,c2⟩:=tU (scope:=scope) (env:=X.env) λy hy hyf=>I.ok.has y.1 (S.free y hy hyf);rw[exec_Assign_Name_used _ _ _ _ hsw];refine aK (wpAny_standAt (aK ?_));show wpAny _ X.A (do let _ <-comprehension (.ListComp elt [⟨tg,iter,ifs,0⟩] scope pos) scope X.env _ (newList []) false (eval iter X.env) (some (assign (.Name x pos') X.env))) _ _ s;refine aK (F9 (wpAny_comprehension_free (use:=some (assign (.Name x pos') X.env)) (Q:=λ_ s'=>SP X pins D .next s') rfl hs hcl S.kind S.locs
  (aV (hi pins s σ H _ I h) λv s1 h1=>aV h1 λitv s2 h2=>?_)) (λ_ s' hq=>aW (aW hq)) λ_ _ e=>e)
 obtain⟨it,fp,tn,J,H2,rfl,I2,T,t0,f2,hw⟩:=h2;refine rX (RR:=λacc C=>compPost (model X.prog X.w) X.A X.xe (some (assign (.Name x pos') X.env)) (λ_ s'=>SP X pins D .next s') acc C) hc S I2 c1 c2 T t0 f2 hg ht he hw ?_;intro l C s' H' m I' fC hn q;show wpAny _ X.A (assign (.Name x pos') X.env (.ref l)) _ _ s';have oC:=hn;obtain⟨o,es,ep,ho,hd,_⟩:=oC;have I1:Inv X (pins++cY [C] s'.heap) σ H' s':=I'.pinned (fp:=[C]) (λb hb=>by rw[Fi.mp hb]; exact fC) λb hb=>by
  rw[Fi.mp hb];exact⟨o,ho,λv z=>by rw[hd] at z; cases z⟩
 refine aV (qJ (i:=i) hN hx hl hf _ s' σ H' (.ref l) (.ref l) D.nx I1 rfl q) λ_ s2 hZz=>?_;obtain⟨σ2,H2',I2',q2⟩:=hZz;have hC2:s2.heap.get? C=some o:=(I2'.pin (C,o) (ck _ (ck _ (kz (Fi.mpr rfl) ho)))).1;have nC2:H2' C=none:=(I2'.pin (C,o) (ck _ (ck _ (kz (Fi.mpr rfl) ho)))).2.1;have hn2:s2.heap.Ns C m:=by
  obtain⟨o',es',ep',ho',r'⟩:=hn;rw[ho] at ho'; cases ho';exact⟨o,es',ep',hC2,r'⟩
 refine⟨m,hn2,λh' hs'=>?_⟩;obtain⟨f0,f1,f3,f4,f5,f6⟩:=fC;have I'':Inv X pins σ2 H2' { s2 with heap:=h' }:=(I2'.unpinned).turned (t':=s2.toks) (it:=C) (λb o hb e=>hs'.extBut b o hb e) nC2 f1 f4 f5 f6;exact⟨σ2,H2',I'',q2⟩
end
def ft (P:Program)(w:World):gk:=λouter H s E e s'=>∃(a T C:Addr) (fs:List (Str×V)) (H':Hp),e=.ref a/\s'.os=s.os/\AllBare s'.gens/\Un (fG outer) [] H H' s.heap s'.heap/\HOk P w H' s'.heap /\
 H' a=some (.exc C false fs)/\Fly s'.heap a T .none/\H' T=none/\s.heap.objs.size<=T/\E (.ref a) none H'
section
variable {X:Cx}{pins:af}{σ:St}{H:Hp}{s:Shared}
def Inv.fsFree (I:Inv X pins σ H s):∀b∈X.fs,H b=none:=λb hb=>by
 obtain⟨_,o,ho,_⟩:=I.ok.funs.mem hb;exact I.base.free b o ho (I.ok.frf b hb) λz=>I.ok.exfs b z hb
def Inv.xstep {a C:Addr}{nw:Bool}{fs:List (Str×V)}{fr ch:ak}{h':Heap}(I:Inv X pins σ H s)(ha:H a=some (.exc C nw fs))(st:XStep fr a ch s.heap h')(hfr:∀b∈fr,b=X.env.locals\/b∈X.fs)
  (hch:∀b∈ch,H b=none/\X.s₀.heap.objs.size<=b/\b≠X.env.locals/\(∀x c,X.env.cells.lookup x=some c->c≠b)/\∀p∈X.pn++pins,p.1≠b) :
  Inv X pins σ (upd H a (.exc C false fs)) { s with heap:=h' }:=by
 have aN:∀b,H b=none->b≠a:=λb n z=>by rw[z,ha] at n; cases n
 have frN:∀b∈fr,H b=none:=λb hb=>by
  rcases hfr b hb with z | z
  .rw[z]; exact I.free
  .exact I.fsFree b z
 have tr:∀b o,H b=some o->b∉fr/\b∉ch:=λb o e=>⟨(λz=>by rw[frN b z] at e; cases e),(λz=>by rw[(hch b z).1] at e; cases e)⟩
 have up:∀b o,H b=some o->b≠a->(upd H a (.exc C false fs)) b=some o:=λb o e n=>by rw[bT n]; exact e
 refine I.step (g':=s.gens) (d':=s.drawn) (t':=s.toks) (ch:=ch) (λb hb=>⟨.inr (hch b hb).2.1,(hch b hb).2.2⟩) (λb o n1 n2 n3 e n=>?_) (λb o n1 n2 n3 e n=>?_) (λb o _ _ n=>by rw[bT (aN b n)]; exact n)
  (λb o n3 e=>?_) (λb xs e=>up b _ e λz=>by rw[z,ha] at e; cases e) (λb o u e=>up b _ e λz=>by rw[z,ha] at e; cases e) (λb ps e=>⟨#[],?_⟩) (λm hm=>?_) (λb o e=>?_) I.bare
 .exact st.keep b o e (aN b n) (λz=>(hfr b z).elim n1 n2) n3
 .by_cases z:b∈fr
  .exact st.slot b o e (aN b n) z n3
  .exact⟨o.slots,st.keep b o e (aN b n) z n3⟩
 .by_cases z:b=a
  .subst z;obtain⟨_,o',vs,e',_,hd,_⟩:=I.hok b _ ha;obtain⟨vs',e2,_⟩:=st.exc o' vs e' hd;exact⟨_,e2⟩
  .exact st.there b o e z
 .rw[up b _ e λz=>by rw[z,ha] at e; cases e]; simp
 .obtain⟨o,es,ep,ho,r⟩:=hm;have n:=aN _ I.free;have nc:X.env.locals∉ch:=λz=>(hch _ z).2.2.1 rfl;by_cases z:X.env.locals∈fr
  .obtain⟨sl,e⟩:=st.slot _ o ho n z nc;exact⟨_,es,ep,e,r⟩
  .exact⟨o,es,ep,st.keep _ o ho n z nc,r⟩
 .by_cases hb:b=a
  .subst hb;rw[cQ] at e;cases e;obtain⟨z,o',vs,e',c1,c2,c3,c4,q⟩:=I.hok b _ ha;obtain⟨vs',e2,sz,_⟩:=st.exc o' vs e' c2;refine⟨z,_,vs',e2,c1,rfl,sz.trans c3,(λw=>nomatch w),?_⟩;rcases q with q | ⟨dx,d1,d2,d3,mA,⟨od,es,ep,e3,c⟩,r⟩
   .exact .inl q
   .exact .inr ⟨dx,d1,up dx _ d2 d3,d3,mA,⟨od,es,ep,st.keep dx od e3 d3 (tr dx _ d2).1 (tr dx _ d2).2,c⟩,r⟩
  .rw[bT hb] at e;refine (I.hok b o e).stay (λc u hc q=>?_) (λc q=>up c _ q λz=>by rw[z,ha] at q; cases q) λc xs q=>up c _ q λz=>by rw[z,ha] at q; cases q
   rcases hc with z | z
   .subst z;exact st.keep c u q hb (tr c _ e).1 (tr c _ e).2
   .exact st.keep c u q (λy=>by rw[y,ha] at z; cases z) (tr c _ z).1 (tr c _ z).2
def Inv.newAt (I:Inv X pins σ H s)(hb:s.heap.objs.size<=b):H b=none/\X.s₀.heap.objs.size<=b/\b≠X.env.locals/\(∀x c,X.env.cells.lookup x=some c->c≠b)/\∀p∈X.pn++pins,p.1≠b:=by
 obtain⟨f0,f1,f2,f3,f4,f5⟩:=I.fpOk hb (I.hok.fresh hb);exact⟨f0,bv I.sz hb,f1,f4,f5⟩
def Inv.sinceAt (I:Inv X pins σ H s)(I':Inv X pins σ' H' s')(hb:s.heap.objs.size<=b)(hn:H' b=none):H' b=none/\X.s₀.heap.objs.size<=b/\b≠X.env.locals/\(∀x c,X.env.cells.lookup x=some c->c≠b)/\∀p∈X.pn++pins,p.1≠b:=by
 obtain⟨f0,f1,f2,f3,f4⟩:=I.newAt hb;exact⟨hn,f1,f2,f3,f4⟩
end
def passN:bH (ft P w) X (λ_ _ _ _=>False):=λ_ _ _ _ _ _ _ h=>by
 obtain⟨_,_,_,_,_,_,_,_,_,_,_,_,_,_,z⟩:=h;exact z.elim
section
variable {P:Program}{w:World}{K:be}{mg:Str->ay}{base:Heap}{N:ao}{qual:Str}{scope:Scope}{f:Addr}{cd:Value}{A:Around}{outer:List Env}{s:Shared}{H:Hp}{E:XK}
def passF:bH (ft P w) (fe (ft P w) P w K mg base N qual scope f cd A outer s H E) (λ_=>E):=by
 intro pins σ H1 s1 e s' I1 hcx;obtain⟨a,T,C,fs,H2,rfl,os,bare,un,hok,ha,fly,nT,lT,q⟩:=hcx;have I2:=I1.call' (ch:=[]) os un hok bare λb z=>absurd z (by simp);show wpAny _ _ (leaving _ (.ref a)) _ _ s';refine Ai (base:=base) I2.ok.frames I2.stack rfl fly λh' F' st=>?_;have I3:=I2.xstep ha st (λb hb=>cZ (I2.stkSub b hb)) λb hb=>by
  rcases cZ hb with z | z
  .rw[z]; exact I1.sinceAt I2 lT nT
  .rw[Fi.mp z]; exact I2.newAt (bu _)
 have e:upd H2 a (.exc C false fs)=H2:=by
  funext b
  by_cases z:b=a
  .subst z; rw[cQ,ha]
  .rw[bT z]
 rw[e] at I3;exact⟨a,_,C,fs,H2,rfl,I3.os,I3.bare,I3.base,I3.hok,ha,F',(I2.newAt (bu _)).1,bv I1.sz (bv (Nat.le_of_lt_succ (Nat.lt_succ_of_le (by
  have:=I2.sz;have h1:s1.heap.objs.size<=s'.heap.objs.size:=by
   obtain⟨m,hn,_⟩:=I1.loc;exact bv lT (GQ (by obtain⟨⟨_,_,_,_,_,_,_,z,_⟩,_⟩:=fly; exact bM z))
  exact h1))) (bu _)),q⟩
end
section
variable {X:Cx}{e:Expr}{te:TE}{pos:Pos}{E:St->XK}
end
section
variable {X:Cx}{k:Nat}{f C W:Addr}{tl:ak}{fd:FuncData}{ps:ao}{sp:Sp}{dvs:ar}{ds:al}{E:St->XK}{x m:Str}{p pos apos:Pos}{e o:Expr}{es:aq}{ta tv:TE}{t:TA}
end
section
variable {X:Cx}{pins:af}{σ:St}{H:Hp}{s:Shared}
end
section
variable {X:Cx}{W:Addr}{tlW:ak}{i:Nat}{n cls:Str}{np hpos pos:Pos}{body suite:aE}{b₀:Stmt}{tb:(St->XK)->TS}{ts:TS}
end
end L2
end
section
namespace L2
open PySem PySem.W Builtin Builtin.ObjectAttr
section
variable {prog:Program}{w:World}{A:Around}{E:Value->Shared->Prop}{s:Shared}{K:Frag}{C x:Addr}{fI:Value}{tl:ak}{mA:Str->ay}
end
section
variable {K:Frag}{C x:Addr}{fI:Value}{tl:ak}
end
end L2
namespace L2
open PySem PySem.Spec PyProof.Rows
section
variable {X:Cx}
noncomputable def valOf:V->ay
 | .ref a=>some (.ref a)
 | .ty n=>some (.type n)
 | _=>none
end
end L2
end
section
namespace L2
open PySem PySem.Spec PyProof.Rows
section
variable {X:Cx}{pins:af}{σ:St}{H:Hp}{s:Shared}{h':Heap}
def Inv.turnedL {t':Nat}{fp:ak}(I:Inv X pins σ H s)(hf:∀b∈fp,cR X pins H b)(k:∀b o,b∉fp->s.heap.get? b=some o->h'.get? b=some o):Inv X pins σ H { s with heap:=h',toks:=t' }:=by
 have nf:∀b u,H b=some u->b∉fp:=λb u e z=>by rw[(hf b z).1] at e; cases e
 refine I.step (g':=s.gens) (d':=s.drawn) (ch:=fp) (λb hb=>⟨(hf b hb).2.2.2.1,(hf b hb).2.1,(hf b hb).2.2.2.2⟩) (λb o _ _ hc e _=>k b o hc e) (λb o _ _ hc e _=>⟨o.slots,k b o hc e⟩) (λ_ _ _ _ n=>n)
  (λb o hc e=>⟨o,k b o hc e⟩) (λ_ _ e=>e) (λ_ _ _ e=>e) (λb ps e=>⟨#[],by rw[e]; simp⟩) (λm hm=>?_) (λb u e=>?_) I.bare
 .obtain⟨o,es,ep,ho,r⟩:=hm;exact⟨o,es,ep,k _ o (λz=>(hf _ z).2.1 rfl) ho,r⟩
 .refine (I.hok b u e).stay (λc v hc q=>k c v ?_ q) (λ_ q=>q) λ_ _ q=>q;rcases hc with z | z
  .rw[z]; exact nf b u e
  .exact nf c _ z
def Inv.turnedN {t':Nat}{fp:ak}{a:Addr}{o:HO}(I:Inv X pins σ H s)(hf:∀b∈fp,cR X pins H b)(k:∀b o,b∉fp->s.heap.get? b=some o->h'.get? b=some o)(hp:s.heap.objs.size<=a)(new:ObjOk X.prog X.w (upd H a o) h' a o) :
  Inv X pins σ (upd H a o) { s with heap:=h',toks:=t' }:=by
 have ha:H a=none:=I.hok.fresh hp;have na:∀b o,s.heap.get? b=some o->b≠a:=λb o e=>dr (dR (bM e) hp);have nt:∀b u,H b=some u->b≠a:=λb u e z=>by rw[z,ha] at e; cases e
 have nf:∀b u,H b=some u->b∉fp:=λb u e z=>by rw[(hf b z).1] at e; cases e
 refine I.step (g':=s.gens) (d':=s.drawn) (ch:=fp) (λb hb=>⟨(hf b hb).2.2.2.1,(hf b hb).2.1,(hf b hb).2.2.2.2⟩) (λb o _ _ hc e _=>k b o hc e) (λb o _ _ hc e _=>⟨o.slots,k b o hc e⟩) (λb o _ e n=>by rw[bT (na b o e)]; exact n)
  (λb o hc e=>⟨o,k b o hc e⟩) (λb _ e=>by rw[bT (nt b _ e)]; exact e) (λb _ _ e=>by rw[bT (nt b _ e)]; exact e) (λb ps e=>⟨#[],by rw[bT (nt b _ e),e]; simp⟩) (λm hm=>?_) (λb u e=>?_) I.bare
 .obtain⟨o,es,ep,ho,r⟩:=hm;exact⟨o,es,ep,k _ o (λz=>(hf _ z).2.1 rfl) ho,r⟩
 .by_cases z:b=a
  .subst z; rw[cQ] at e; cases e; exact new
  .rw[bT z] at e;refine (I.hok b u e).stay (λc v hc q=>k c v ?_ q) (λc q=>by rw[bT (nt c _ q)]; exact q) λc _ q=>by rw[bT (nt c _ q)]; exact q
   rcases hc with z | z
   .rw[z]; exact nf b u e
   .exact nf c _ z
end
noncomputable def rC (K:be)(a b:Addr):It:=
 ⟨λi H=>∃xs ys x y,SqL K H a xs/\SqL K H b ys/\xs[i]? = some x/\ys[i]? = some y,λi H v H'=>∃x y p,v=.ref p/\H p=none/\H'=upd H p (.tup [x,y])/\(∀xs,SqL K H a xs->xs[i]? = some x)/\∀ys,SqL K H b ys->ys[i]? = some y,
  λi H=>∃xs ys,SqL K H a xs/\SqL K H b ys/\(xs.length<=i\/ys.length<=i)⟩
def kh {h:Heap}{a b:Addr}{o u:Obj}(A B:String)(ha:h.get? a=some o)(hb:h.get? b=some u)(hA:o.cls=.type A)(hB:u.cls=.type B)(n:A≠B):a≠b:=λz=>by
 subst z; rw[ha] at hb; cases hb; rw[hA] at hB; cases hB; exact n rfl
def iG (z TI TO i1 i2 l1 l2:Addr)(i:Nat)(h:Heap):Prop:=IsZip h z TI TO .none/\IsPair h TI (.ref i1) (.ref i2)/\(∃a b,IsPair h TO a b)/\h.IsListIter i1 l1 i/\h.IsListIter i2 l2 i
def uj {h:Heap}{z TI TO i1 i2 l1 l2:Addr}{i:Nat}{xs ys:az}(t:iG z TI TO i1 i2 l1 l2 i h)(h1:h.IsList l1 xs)(h2:h.IsList l2 ys)(n1:TI≠TO)(n2:i1≠i2):ZipApart z TI TO i1 i2 l1 l2:=by
 obtain⟨tz,tI,⟨a,b,tO⟩,⟨o1,e1,c1,_⟩,⟨o2,e2,c2,_⟩⟩:=t;obtain⟨u1,f1,d1,_⟩:=h1;obtain⟨u2,f2,d2,_⟩:=h2;have d:∀{a b:Addr} {o u:Obj} (A B:String),h.get? a=some o->h.get? b=some u->o.cls=.type A->u.cls=.type B->(A == B)=false->a≠b:=λA B x y hA hB n=>kh A B x y hA hB (by simpa using n);exact⟨d "tuple" "zip" tI tz rfl rfl rfl,d "tuple" "zip" tO tz rfl rfl rfl,d "list_iterator" "zip" e1 tz c1 rfl rfl,d "list_iterator" "zip" e2 tz c2 rfl rfl,n1,d "tuple" "list_iterator" tI e1 rfl c1 rfl,d "tuple" "list_iterator" tI e2 rfl c2 rfl,
  d "tuple" "list_iterator" tO e1 rfl c1 rfl,d "tuple" "list_iterator" tO e2 rfl c2 rfl,n2,d "list" "zip" f1 tz d1 rfl rfl,d "list" "tuple" f1 tO d1 rfl rfl,d "list" "list_iterator" f1 e1 d1 c1 rfl,d "list" "list_iterator" f1 e2 d1 c2 rfl,
  d "list" "zip" f2 tz d2 rfl rfl,d "list" "tuple" f2 tO d2 rfl rfl,d "list" "list_iterator" f2 e1 d2 c1 rfl,d "list" "list_iterator" f2 e2 d2 c2 rfl⟩
def xH {P:Program}{w:World}{K:be}{es:aq}{k1:Nat}{ps:Pos}(l1 l2 z TI TO i1 i2:Addr)(n1:TI≠TO)(n2:i1≠i2):Turn P w K (.Tuple es k1 ps) (rC K l1 l2) [z,TI,TO,i1,i2] z (iG z TI TO i1 i2 l1 l2) where
 mem:=by simp
 obj:=λi h t b hb=>by
  obtain⟨tz,tI,⟨a,c,tO⟩,⟨o1,e1,_,d1⟩,⟨o2,e2,_,d2⟩⟩:=t;simp only[Fu,Ft,or_false] at hb;rcases hb with rfl | rfl | rfl | rfl | rfl
  .exact⟨_,tz,(λv q=>nomatch q)⟩
  .exact⟨_,tI,(λv q=>nomatch q)⟩
  .exact⟨_,tO,(λv q=>nomatch q)⟩
  .exact⟨o1,e1,λv q=>by rw[d1] at q; cases q⟩
  .exact⟨o2,e2,λv q=>by rw[d2] at q; cases q⟩
 keep:=λi h h' t k=>by
  obtain⟨tz,tI,⟨a,c,tO⟩,t1,t2⟩:=t;exact⟨k z (by simp) _ tz,k TI (by simp) _ tI,⟨a,c,k TO (by simp) _ tO⟩,t1.at λo e=>k i1 (by simp) o e,t2.at λo e=>k i2 (by simp) o e⟩
 item:=by
  intro X hP hw hK hc i pins s σ H E I hf st hg;subst hP hw hK;obtain⟨xs,ys,x,y,hx,hy,ex,ey⟩:=hg;obtain⟨its,rv,p,hz⟩:=I.list hx;obtain⟨its2,rv2,p2,hz2⟩:=I.list hy;obtain⟨u,hu,ru⟩:=rv.get ex;obtain⟨u2,hu2,ru2⟩:=rv2.get ey;have D:=uj st p.isList p2.isList n1 n2;obtain⟨tz,tI,⟨a,c,tO⟩,t1,t2⟩:=st;refine wpAny_pyNext_zip_item D tz tI tO t1 t2 p.isList p2.isList (x:=u) (y:=u2) (by simpa using hu) (by simpa using hu2) λh' z1 z2 z3 z4 z5 z6 z7=>⟨_,rfl,?_⟩
  refine wpAny_letOwnedTupleGo_zip (s:={ s with heap:=h' }) z1 λh2 z1' sb=>?_;have kk:∀b o,b∉[z,TI,TO,i1,i2]->s.heap.get? b=some o->h2.get? b=some o:=λb o nb e=>by
   simp only[Fu,Ft,or_false,not_or] at nb;obtain⟨m1,m2,m3,m4,m5⟩:=nb;exact (sb.2 b m1).trans (z7 b o m1 m3 m4 m5 e)
  have lz:z<s.heap.objs.size:=bM tz;have gT:h2.get? s.heap.objs.size=some { cls:=.type "tuple",data:=.seq #[u,u2] }:=(sb.2 _ (Gp lz)).trans z5;have up:∀b o,b≠z->h'.get? b=some o->h2.get? b=some o:=λb o nb e=>(sb.2 b nb).trans e;refine⟨.ref s.heap.objs.size,upd H s.heap.objs.size (.tup [x,y]),I.turnedN (t':=s.toks) hf kk (bu _) ⟨by show 2<=sizeLine; decide,[u,u2],.cons ru (.cons ru2 .nil),_,gT,rfl,⟨_,rfl⟩,rfl⟩,rfl,
   ⟨x,y,_,rfl,I.hok.fresh (bu _),rfl,λzs hq=>by rw[I.list_inj hq hx]; exact ex,λzs hq=>by rw[I.list_inj hq hy]; exact ey⟩,
   ⟨z1',up _ _ D.TIz (z7 TI _ D.TIz D.TITO D.TIi1 D.TIi2 tI),⟨u,u2,up _ _ D.TOz z2⟩,z3.at λo e=>up _ _ D.i1z e,z4.at λo e=>up _ _ D.i2z e⟩,λb hb=>?_⟩
  obtain⟨o,e,_⟩:∃o,s.heap.get? b=some o/\True:=by
   simp only[Fu,Ft,or_false] at hb;obtain⟨o1,e1,_,d1⟩:=t1;obtain⟨o2,e2,_,d2⟩:=t2;rcases hb with rfl | rfl | rfl | rfl | rfl
   .exact⟨_,tz,trivial⟩
   .exact⟨_,tI,trivial⟩
   .exact⟨_,tO,trivial⟩
   .exact⟨o1,e1,trivial⟩
   .exact⟨o2,e2,trivial⟩
  rw[bT (GP (Heap.lt_size e))];exact (hf b hb).1
 done:=by
  intro X hP hw hK hc i pins s σ H E I hf st hg;subst hP hw hK;obtain⟨xs,ys,hx,hy,hend⟩:=hg;obtain⟨its,rv,p,hz⟩:=I.list hx;obtain⟨its2,rv2,p2,hz2⟩:=I.list hy;have D:=uj st p.isList p2.isList n1 n2;obtain⟨tz,tI,⟨a,c,tO⟩,t1,t2⟩:=st;have l1:=rv.length;have l2:=rv2.length;refine wpAny_pyNext_zip_end (I.ok.hd hc) D tz tI tO t1 t2 p.isList p2.isList (hend.elim (λq=>.inl (by simp; omega)) λq=>.inr (by simp; omega)) λh' kp=>⟨rfl,I.turnedL (t':=s.toks) hf λb o nb e=>?_⟩
  simp only[Fu,Ft,or_false,not_or] at nb;obtain⟨m1,m2,m3,m4,m5⟩:=nb;exact kp b o m1 m3 m4 m5 e
 self:=λ_ _ _ _ _ st h=>wpAny_pyIter_zip st.1 h
noncomputable def qW (K:be)(a:Addr):It:=
 ⟨λi H=>∃xs x,SqL K H a xs/\xs[i]? = some x,λi H v H'=>∃x p,v=.ref p/\H p=none/\H'=upd H p (.tup [.int i,x])/\∀xs,SqL K H a xs->xs[i]? = some x,λi H=>∃xs,SqL K H a xs/\xs.length<=i⟩
def jC (e it l:Addr)(i:Nat)(h:Heap):Prop:=(∃old,IsEnum h e it i old)/\h.IsListIter it l i
def zG {P:Program}{w:World}{K:be}{es:aq}{k1:Nat}{ps:Pos}(l e it:Addr):Turn P w K (.Tuple es k1 ps) (qW K l) [e,it] e (jC e it l) where
 mem:=by simp
 obj:=λi h t b hb=>by
  obtain⟨⟨old,te⟩,⟨o1,e1,_,d1⟩⟩:=t;simp only[Fu,Ft,or_false] at hb;rcases hb with rfl | rfl
  .exact⟨_,te,(λv q=>nomatch q)⟩
  .exact⟨o1,e1,λv q=>by rw[d1] at q; cases q⟩
 keep:=λi h h' t k=>by
  obtain⟨⟨old,te⟩,t1⟩:=t;exact⟨⟨old,k e (by simp) _ te⟩,t1.at λo q=>k it (by simp) o q⟩
 item:=by
  intro X hP hw hK hc i pins s σ H E I hf st hg;subst hP hw hK;obtain⟨xs,x,hx,ex⟩:=hg;obtain⟨its,rv,p,hz⟩:=I.list hx;obtain⟨u,hu,ru⟩:=rv.get ex;obtain⟨⟨old,te⟩,t1⟩:=st;have ne:e≠it:=by
   obtain⟨o1,e1,c1,_⟩:=t1;exact kh "enumerate" "list_iterator" te e1 rfl c1 (by decide)
  refine wpAny_pyNext_enum_item te t1 p.isList (x:=u) (by simpa using hu) ne λh' z1 z2 z3 z4 z5=>⟨_,rfl,?_⟩
  refine wpAny_letOwnedTupleGo_enum (s:={ s with heap:=h',toks:=s.toks+1 }) z1 λh2 z1' sb=>?_;have kk:∀b o,b∉[e,it]->s.heap.get? b=some o->h2.get? b=some o:=λb o nb q=>by
   simp only[Fu,Ft,or_false,not_or] at nb;exact (sb.2 b nb.1).trans (z5 b o nb.1 nb.2 q)
  have le:e<s.heap.objs.size:=bM te;have gT:h2.get? s.heap.objs.size=some { cls:=.type "tuple",data:=.seq #[.int i s.toks,u] }:=(sb.2 _ (Gp le)).trans z3;refine⟨.ref s.heap.objs.size,upd H s.heap.objs.size (.tup [.int i,x]),I.turnedN (t':=s.toks+1) hf kk (bu _) ⟨by show 2<=sizeLine; decide,[.int i s.toks,u],.cons ⟨_,rfl⟩ (.cons ru .nil),_,gT,rfl,⟨_,rfl⟩,rfl⟩,rfl,
   ⟨x,_,rfl,I.hok.fresh (bu _),rfl,λzs hq=>by rw[I.list_inj hq hx]; exact ex⟩,⟨⟨u,by simpa using z1'⟩,z2.at λo q=>(sb.2 it (GR ne)).trans q⟩,λb hb=>?_⟩
  obtain⟨o,q,_⟩:∃o,s.heap.get? b=some o/\True:=by
   simp only[Fu,Ft,or_false] at hb;obtain⟨o1,e1,_,d1⟩:=t1;rcases hb with rfl | rfl
   .exact⟨_,te,trivial⟩
   .exact⟨o1,e1,trivial⟩
  rw[bT (GP (Heap.lt_size q))];exact (hf b hb).1
 done:=by
  intro X hP hw hK hc i pins s σ H E I hf st hg;subst hP hw hK;obtain⟨xs,hx,hend⟩:=hg;obtain⟨its,rv,p,hz⟩:=I.list hx;obtain⟨⟨old,te⟩,t1⟩:=st;have l1:=rv.length;refine wpAny_pyNext_enum_end (I.ok.hd hc) te t1 p.isList (by simp; omega) λh' kp=>⟨rfl,I.turnedL (t':=s.toks) hf λb o nb q=>?_⟩
  simp only[Fu,Ft,or_false,not_or] at nb;exact kp b o nb.2 q
 self:=λ_ _ _ _ _ st h=>by
  obtain⟨⟨old,te⟩,_⟩:=st;exact G6 te h
section
variable {X:Cx}{es:aq}{k1:Nat}{tp:Pos}
def qk (K:be)(ta:TA):TI:=λσ H R=>ta σ H λvs H1=>∃a b xs ys,vs=[.ref a,.ref b]/\SqL K H1 a xs/\SqL K H1 b ys/\R (rC K a b) H1
def wt {a b:Expr}{ta:TA}{p pos:Pos}(hg:Gl X "zip")(hm:X.mg "zip" = none)(hv:bootBuiltins "zip" = some (.type "zip"))(ha:PA X [a,b] ta)(hs:starEach [a,b] X.env=[(false,eval a X.env),(false,eval b X.env)]:=by rfl)(hs2:starEach [b] X.env=[(false,eval b X.env)]:=by rfl) :
  PI X (.Tuple es k1 tp) (.Call (.Name "zip" p) [a,b] [] pos) (qk X.K ta):=by
 intro pins s σ H R I h;refine Call_ (gg I hg hm hv (Fw (aV (ha pos pins s σ H _ I h) λus s1 hZz=>?_) (by rw[hs,hs2]) (by rw[hs2]; rfl)));obtain⟨vs,H1,I1,r1,q1⟩:=hZz;obtain⟨l1,l2,xs,ys,rfl,hx,hy,q⟩:=q1;obtain⟨u,v,rfl,ru,rv⟩:=vals2 r1;cases ru;cases rv;obtain⟨its,rx,px,hzx⟩:=I1.list hx;obtain⟨its2,ry,py,hzy⟩:=I1.list hy;refine call_zip_2 px.isList py.isList λh' z1 z2 z3 z4 z5 z6 z7=>?_;refine wpAny_pyIter_zip (s:={ s1 with heap:=h' }) z1 ⟨_,_,_,_,H1,rfl,I1.kept (t':=s1.toks) z7,xH l1 l2 (s1.heap.objs.size+4) (s1.heap.objs.size+2) (s1.heap.objs.size+3) s1.heap.objs.size (s1.heap.objs.size+1) (dr (Gf _)) (dr (Gf _)),⟨z1,z2,⟨_,_,z3⟩,z4,z5⟩,λb hb=>?_,q⟩;have lb:s1.heap.objs.size<=b:=by
  simp only[Fu,Ft,or_false] at hb;rcases hb with rfl | rfl | rfl | rfl | rfl <;> omega
 exact I1.fpOk lb (I1.hok.fresh lb)
end
end L2
end
section
namespace St
open PySem PyProof.Rows
noncomputable def subs:Nat->ac
 | 0=>[[]]
 | n+1=>subs n++(subs n).map (·++[n])
noncomputable def ins (l:ai)(k:Nat):ai:=l.filter (λx=>Nat.blt x k)++k::l.filter (λx=>Nat.blt k x)
noncomputable def b1 (l:ai)(k:Nat):Bool:=l.contains k||((!SetTable.has l.toArray k)&&(SetTable.below l.toArray k == (l.filter (λx=>Nat.blt x k)).length)&&(l.take (l.filter (λx=>Nat.blt x k)).length++k::l.drop (l.filter (λx=>Nat.blt x k)).length == ins l k)&&(subs 6).contains (ins l k))
def wB:((subs 6).all λl=>(List.range 6).all λk=>b1 l k)=true:=by decide +kernel
noncomputable def hs (l:ai):Array Int:=(l.map Int.ofNat).toArray
noncomputable def b2 (m:Nat)(l:ai):Bool:=((SetTable.layClean m (hs l)).map λowner=>(List.range (m+1)).filterMap λj=>(owner.getD j none).map (j,·)) == some (l.zip (List.range l.length))
noncomputable def gm (l:ai):Nat:=SetTable.sizeAbove (SetTable.grown l.length) - 1
noncomputable def sG (l:ai):Bool:=b2 (gm l) l&&(Nat.blt 4 l.length||b2 7 l)&&b2 15 l&&(gm l == 7&&Nat.ble l.length 4||gm l == 15||gm l == 31)
def Ec:((subs 6).all sG)=true:=by decide +kernel
noncomputable def b3 (l:ai):Bool:=(List.range (l.length+1)).all λi=>SetTable.below l.toArray (if i=0 then 0 else l.getD (i - 1) 0+1) == i
def u9:((subs 6).all b3)=true:=by decide +kernel
noncomputable def b4 (l:ai):Bool:=decide (l.length<=6)&&l.all (λx=>Nat.blt x 6)&&decide (l.Pairwise (· < ·))
def Bz:((subs 6).all b4)=true:=by decide +kernel
noncomputable def b5 (l:ai):Bool:=((List.range 6).filter l.contains == l)&&(List.range 6).all λk=>(subs 6).contains (l.filter (· != k))
def B2 (hm:m=7\/m=15\/m=31)(hk:k<6):SetTable.bits (Int.ofNat k) % (m+1)=k:=by
 have:∀m∈[7,15,31],∀k∈List.range 6,SetTable.bits (Int.ofNat k) % (m+1)=k:=by decide +kernel
 exact this m (by simpa using hm) k (FR.mpr hk)
def wG {t:SetTable}{k:Nat}(hm:t.mask=7\/t.mask=15\/t.mask=31)(hk:k<6)(h1:SetTable.has t.place k=false)(h2:SetTable.has t.dummies k=false):t.freeSlot (Int.ofNat k)=some (k,false):=by
 have hs:t.slot k=.empty:=by
  show (if SetTable.has t.place k=true then _ else if SetTable.has t.dummies k=true then _ else _)=_;rw[h1,h2];rfl
 obtain⟨n,hn⟩:∃n,10 * SetTable.turns t.mask=n+1:=⟨10 * t.mask+149,by unfold SetTable.turns; omega⟩
 have e:(t.probeStart (Int.ofNat k)).j=k:=B2 hm hk;unfold SetTable.freeSlot SetTable.probe;rw[hn];unfold SetTable.probe.go;rw[e,hs];rfl
structure TG (b:Bool)(l D:ai)(t:SetTable):Prop where
 mem:l∈subs 6
 place:t.place=l.toArray
 dum:∃ds,ds∈subs 6/\t.dummies=ds.toArray/\∀x∈ds,x∈D
 mask:t.mask=7/\t.fill<=4\/t.mask=15\/t.mask=31
 led:t.led=b
 plain:t.plain=true
def SG (b:Bool)(h:Heap)(a:Addr)(l D:ai):Prop:=∃es ep t,h.get? a=some { cls:=.type "set",dict:=none,data:=.set es ep t }/\es.toList.map (·.1)=l.map Int.ofNat/\(∀e∈es.toList,∃tk,e.2=.int e.1 tk)/\TG b l D t
def mem_b4 (h:l∈subs 6):l.length<=6/\(∀x∈l,x<6)/\l.Pairwise (· < ·):=by
 have:=dI Bz l h;simp only[b4,tw,Fx,List.all_eq_true] at this;exact⟨this.1.1,λx hx=>GI (this.1.2 x hx),this.2⟩
def vG (h:k<6):hashInt (Int.ofNat k)=Int.ofNat k:=by
 have:∀j∈List.range 6,hashInt (Int.ofNat j)=Int.ofNat j:=by decide +kernel
 exact this k (FR.mpr h)
theorem TG.size (h:TG b l D t):t.place.size=l.length:=by rw[h.place]; simp
theorem TG.fill (h:TG b l D t):t.fill<=l.length+6:=by
 obtain⟨ds,d1,d2,_⟩:=h.dum;have:=(mem_b4 d1).1;rw[SetTable.fill,h.size,d2,Fh];omega
theorem TG.fits (h:TG b l D t)(hn:n=l.length):t.fits n=true:=by
 have h6:=(mem_b4 h.mem).1;have hf:=h.fill;simp only[SetTable.fits,h.size,tw,Fm,Fx];refine⟨hn.symm,?_⟩;rcases h.mask with ⟨e,q⟩ | e | e <;> omega
def TG.mask3 (h:TG b l D t):t.mask=7\/t.mask=15\/t.mask=31:=h.mask.imp And.left id
def lP {prog:Program}{w:World}{es:Array (Int×Value)}{l:ai}(hm:l∈subs 6)(h1:es.toList.map (·.1)=l.map Int.ofNat)(h2:∀e∈es.toList,∃tk,e.2=.int e.1 tk):ElemsOf (intKind prog w) es.toList:=by
 intro e he;obtain⟨tk,et⟩:=h2 e he;have:e.1∈l.map Int.ofNat:=by rw[<-h1]; exact FH he
 obtain⟨k,hk,ek⟩:=eT this;refine⟨⟨e.1,by rw[et]; exact intKind_is _ _ _ _,?_⟩,by rw[et]; rfl⟩;show e.1=hashInt e.1;rw[<-ek,vG ((mem_b4 hm).2.1 k hk)]
def gD {es:Array (Int×Value)}{l:ai}(h1:es.toList.map (·.1)=l.map Int.ofNat):es.size=l.length:=by
 have:=congrArg List.length h1;simpa using this
def ins_of (hm:l∈subs 6)(hk:k<6)(hn:k∉l):SetTable.has l.toArray k=false/\SetTable.insertAt l.toArray (SetTable.below l.toArray k) k=(ins l k).toArray/\SetTable.below l.toArray k=(l.filter (λx=>Nat.blt x k)).length/\l.take (l.filter (λx=>Nat.blt x k)).length++k::l.drop (l.filter (λx=>Nat.blt x k)).length=ins l k/\ins l k∈subs 6/\(ins l k).length=l.length+1:=by
 have q:b1 l k=true:=dI (dI wB l hm) k (FR.mpr hk);have hc:l.contains k=false:=by simpa using hn
 simp only[b1,hc,Bool.false_or,tw,Fm,GJ,GM] at q;obtain⟨⟨⟨q1,q2⟩,q3⟩,q4⟩:=q;refine⟨q1,?_,q2,q3,q4,?_⟩
 .rw[q2];apply Array.toList_inj.mp;rw[SetTable.toList_insertAt];simpa using q3
 .rw[<-q3,FC,List.length_cons,Gg,Hm];have:(l.filter (λx=>Nat.blt x k)).length<=l.length:=Hj _ _;omega
def Bi {b:Bool}{l D:ai}{t:SetTable}{es:Array (Int×Value)}{k:Nat}{x:Value}(h:TG b l D t)(h1:es.toList.map (·.1)=l.map Int.ofNat)(hk:k<6)(hn:k∉l)(hD:k∉D) :
  ∃es' t',layNew t es (Int.ofNat k) x=(es',t',false,false)/\es'.toList.map (·.1)=(ins l k).map Int.ofNat/\(∀e∈es'.toList,e∈es.toList\/e=(Int.ofNat k,x))/\t'.mask=t.mask/\t'.place=(ins l k).toArray/\t'.dummies=t.dummies/\t'.led=b/\t'.plain=true/\t'.fill=t.fill+1/\ins l k∈subs 6:=by
 obtain⟨q1,hp,q2,q3,q4,hlen⟩:=ins_of h.mem hk hn;obtain⟨ds,d1,d2,d3⟩:=h.dum;have hnod:SetTable.has t.dummies k=false:=by rw[d2]; exact (ins_of d1 hk λe=>hD (d3 k e)).1
 have hnop:SetTable.has t.place k=false:=by rw[h.place]; exact q1
 have f1:t.freeSlot (Int.ofNat k)=some (k,false):=wG h.mask3 hk hnop hnod;rw[<-h.place] at hp q2;have hf:=h.fill;have h6:=(mem_b4 h.mem).1;have hfl:({ t with place:=(ins l k).toArray,dummies:=t.dummies }:SetTable).fill=t.fill+1:=by
  simp only[SetTable.fill,h.size,Fh,hlen];omega
 have hfit:({ t with place:=(ins l k).toArray,dummies:=t.dummies }:SetTable).fits (l.length+1)=true:=by
  simp only[SetTable.fits,hfl,tw,Fm,Fx,Fh,hlen];refine⟨trivial,?_⟩;rcases h.mask with ⟨e,q⟩ | e | e <;> omega
 have hes:(SetTable.insertAt es (SetTable.below t.place k) (Int.ofNat k,x)).size=l.length+1:=by
  rw[<-Array.length_toList,(SetTable.insertAt_perm _ _ _).length_eq,HC,FC,Array.length_toList,gD h1];rfl
 refine⟨SetTable.insertAt es (SetTable.below t.place k) (Int.ofNat k,x),{ t with place:=(ins l k).toArray },?_,?_,λe he=>?_,rfl,rfl,rfl,h.led,h.plain,hfl,q4⟩
 .unfold layNew;rw[f1];dsimp only[SetTable.put];rw[hnod,hp];simp only[Fq,if_false];rw[hes];simp only[SetTable.orStandIn,hfit,if_true,Hn]
 .rw[SetTable.toList_insertAt,q2,GD,Fk,HF,HG,h1,<-HF,<-HG,<-q3];simp
 .have:=(SetTable.insertAt_perm es (SetTable.below t.place k) (Int.ofNat k,x)).mem_iff.mp he;rw[HC,FT,Fi] at this;exact this
def zD {m f mv:Nat}{ld pl:Bool}{l:ai}{es:Array (Int×Value)}(q:b2 m l=true)(h1:es.toList.map (·.1)=l.map Int.ofNat):SetTable.laid m f mv ld pl (es.map (·.1))=some (⟨m,l.toArray,#[],f,ld,mv,pl⟩,(List.range l.length).toArray):=by
 simp only[b2,Fm] at q;obtain⟨owner,o1,o2⟩:=cg q;have hh:es.map (·.1)=hs l:=by
  apply Array.toList_inj.mp;rw[Array.toList_map,h1];rfl
 have hzip:(l.zip (List.range l.length)).map (·.1)=l:=by rw[List.map_fst_zip]; simp
 have hzip2:(l.zip (List.range l.length)).map (·.2)=List.range l.length:=by rw[List.map_snd_zip]; simp
 unfold SetTable.laid;rw[hh];show (SetTable.layClean m (hs l)).bind _=_;rw[o1];show some _=some _;rw[show (List.range (m+1)).filterMap (λj=>(owner.getD j none).map (j,·))=l.zip (List.range l.length) from o2,hzip,hzip2]
def xC {l:ai}{es:Array (Int×Value)}(hz:es.size=l.length):(List.range l.length).toArray.filterMap (es[·]?)=es:=by
 apply Array.toList_inj.mp;rw[Array.toList_filterMap];show (List.range l.length).filterMap (λi=>es[i]?)=es.toList;rw[<-hz];exact filterMap_getElem?_range es
def Br {b:Bool}{l D:ai}{t:SetTable}{es:Array (Int×Value)}(hm:l∈subs 6)(h1:es.toList.map (·.1)=l.map Int.ofNat)(hl:t.led=b)(hp:t.plain=true) :
  ∃t',relayAll t es (SetTable.grown es.size)=(es,t',false)/\TG b l D t':=by
 have q:=dI Ec l hm;simp only[sG,tw,FM,Fm] at q;obtain⟨⟨⟨q1,_⟩,_⟩,q4⟩:=q;have hz:es.size=l.length:=gD h1;have h6:=(mem_b4 hm).1;have TT:TG b l D ⟨gm l,l.toArray,#[],t.finger,t.led,t.movedTo (gm l),t.plain⟩:=by
  refine⟨hm,rfl,⟨[],by decide +kernel,rfl,λx hx=>by cases hx⟩,?_,hl,hp⟩;rcases q4 with (⟨q4,q5⟩ | q4) | q4
  .exact .inl ⟨q4,by simpa[SetTable.fill] using GI q5⟩
  .exact .inr (.inl q4)
  .exact .inr (.inr q4)
 refine⟨_,?_,TT⟩;have hr:t.relaid (es.map (·.1)) (SetTable.grown es.size)=some (⟨gm l,l.toArray,#[],t.finger,t.led,t.movedTo (gm l),t.plain⟩,(List.range l.length).toArray):=by
  unfold SetTable.relaid;rw[hz];exact zD q1 h1
 have hcov:coversAll (List.range l.length).toArray es.size=true:=by
  unfold coversAll;rw[hz];exact List.isPerm_iff.mpr (List.Perm.refl _)
 unfold relayAll;rw[hr];dsimp only;rw[xC hz,hcov,TT.fits hz];rfl
section
variable {prog:Program}{w:World}{A:Around}{E:Value->Shared->Prop}{s:Shared}
def SG.store {b:Bool}{h:Heap}{a:Addr}{es es':Array (Int×Value)}{ep:Nat}{t t':SetTable}{l D:ai}(ho:h.get? a=some { cls:=.type "set",dict:=none,data:=.set es ep t })(h1:es'.toList.map (·.1)=l.map Int.ofNat)(h2:∀e∈es'.toList,∃tk,e.2=.int e.1 tk)(ht:TG b l D t') :
  (h.update a (Obj.putSet es' t')).get? a=some { cls:=.type "set",dict:=none,data:=.set es' (ep+1) t' }/\SG b (h.update a (Obj.putSet es' t')) a l D:=by
 have e:=Gi (Obj.putSet es' t') ho rfl;exact⟨e,es',ep+1,t',e,h1,h2,ht⟩
def small_line (h:n<=6):n<=sizeLine:=bv h (by decide)
def C3 {a:Addr}{l D:ai}{b:Bool}{k:Nat}{tk:Tok}{Q:Bool->Shared->Prop}(hS:SG b s.heap a l D)(hk:k<6)(hD:k∉D)
  (h:∀h' r,Heap.SameBut a s.heap h'->SG b h' a (if k∈l then l else ins l k) D->Q r { s with heap:=h' }) :
  wpAny (model prog w) A (setAddHashed a (.int (Int.ofNat k) tk) ((intKind prog w).hash (Int.ofNat k))) Q E s:=by
 obtain⟨es,ep,t,ho,h1,h2,ht⟩:=hS;have hel:ElemsOf (intKind prog w) es.toList:=lP ht.mem h1 h2;have hz:=gD h1;have h6:=(mem_b4 ht.mem).1;have hf:t.fits es.size=true:=ht.fits hz;have hb:es.size<scanBound:=by unfold scanBound; omega
 have hkey:(intKind prog w).is (Int.ofNat k) (.int (Int.ofNat k) tk)=true:=intKind_is _ _ _ _;unfold setAddHashed setAddHashedIn;refine Gv (aK (G7 ho rfl hf ?_));dsimp only;rw[byScan_of (knd:=intKind prog w) rfl hb hel];simp only[↓reduceIte];unfold setAddByScan;refine aK ?_;refine aK (wpAny_rule ?_);refine aK (wpAny_setScan_of (knd:=intKind prog w) hkey ho rfl hf hel ?_);have hin:∀e∈es.toList,(intKind prog w).is (Int.ofNat k) e.2=true->k∈l:=by
  intro e he hi;obtain⟨tk',et⟩:=h2 e he;obtain⟨t2,e2⟩:=Value.isInt_shape (show Value.isInt (Int.ofNat k) e.2=true from hi);rw[et] at e2;injection e2 with e3 _;have:e.1∈l.map Int.ofNat:=by rw[<-h1]; exact FH he
  obtain⟨k',hk',ek⟩:=eT this;rw[e3] at ek;have:k'=k:=Int.ofNat.inj ek;exact this ▸ hk'
 cases hr:List.findIdx? (λe=>(intKind prog w).is (Int.ofNat k) e.2) es.toList with
 | some j=>
  dsimp only;obtain⟨hj,hpj,_⟩:=FN.mp hr;have hkl:k∈l:=hin _ (FO hj) hpj;refine aW (aW ?_);have e:s={ s with heap:=s.heap }:=by cases s; rfl
  have:=h s.heap false (Heap.SameBut.refl a s.heap) ⟨es,ep,t,ho,by rw[if_pos hkl]; exact h1,h2,by rw[if_pos hkl]; exact ht⟩;rw[e]; exact this
 | none=>
  dsimp only;have hkl:k∉l:=by
   intro hm;have:Int.ofNat k∈es.toList.map (·.1):=by rw[h1]; exact FH hm
   obtain⟨e,he,ee⟩:=eT this;have:=List.findIdx?_eq_none_iff.mp hr e he;obtain⟨tk',et⟩:=h2 e he;rw[et,ee] at this;have z:(intKind prog w).is (Int.ofNat k) (.int (Int.ofNat k) tk')=true:=intKind_is _ _ _ _;rw[z] at this;cases this
  rw[if_neg hkl] at h;have hh:(intKind prog w).hash (Int.ofNat k)=Int.ofNat k:=vG hk;rw[hh];obtain⟨es',t',hL,e1,e2,m1,m2,m3,m4,m5,m6,m7⟩:=Bi (x:=.int (Int.ofNat k) tk) ht h1 hk hkl hD;rw[hL];dsimp only;have e2':∀e∈es'.toList,∃tk,e.2=.int e.1 tk:=λe he=>by
   rcases e2 e he with q | q
   .exact h2 e q
   .rw[q]; exact⟨tk,rfl⟩
  have hz':=gD e1;have h6':=(mem_b4 m7).1;refine aK ?_;refine aW ?_;rw[m5];simp only[if_true];refine aK ?_;rw[hashByValue_scannable 8 (x:=.int (Int.ofNat k) tk) rfl];refine aW ?_;simp only[plainKind,if_true,Bool.not_false,Bool.true_and];refine aK (wpAny_storeSet_of ho rfl ?_ (small_line (by rw[hz']; exact h6')));by_cases hfull:t'.tooFull=true
  .rw[if_pos hfull];obtain⟨t2,r1,r2⟩:=Br (b:=b) (D:=D) m7 e1 m4 m5;rw[r1];dsimp only;have hx:=Gi (Obj.putSet es' t') ho rfl;refine aK ?_;refine aW ?_;refine aK (wpAny_storeSet_of (o:={ cls:=.type "set",dict:=none,data:=.set es' (ep+1) t' }) hx rfl ?_ (small_line (by rw[hz']; exact h6')));refine aW (aW (h _ true ((Gc s.heap a _).trans (Gc _ a _)) (SG.store hx e1 e2' r2).2))
  .rw[if_neg hfull];have hm':t'.mask=7/\t'.fill<=4\/t'.mask=15\/t'.mask=31:=by
    rcases ht.mask with ⟨q,q2⟩ | q
    .refine .inl ⟨m1.trans q,?_⟩;simp only[SetTable.tooFull,m1,q,Fx,ge_iff_le] at hfull;omega
    .exact .inr (by rw[m1]; exact q)
   refine aW (aW (h _ true (Gc s.heap a _) (SG.store ho e1 e2' ⟨m7,m2,by rw[m3]; exact ht.dum,hm',m4,m5⟩).2))
end
end St
end
section
namespace St
open PySem PyProof.Rows PySem.W
def C9:entryFor table "set.__iter__" = some Builtin.«frozenset.__iter__»:=
 entryFor_alias (id' := "frozenset.__iter__") (by kernel_rfl) rfl (by decide +kernel) (by kernel_rfl)
def kQ:Slot "set_iterator" "__next__" "set_iterator.__next__" :=
 .of (owner := "set_iterator") (n := "__next__") (by rw[typeLookup_type,Hk]; kernel_rfl) (by decide +kernel) (by decide +kernel) (by decide +kernel)
  (by first | exact .inl (by decide +kernel) | exact .inr (by decide +kernel)) (by rw[isSubtype_type]; kernel_rfl)
def r6:entryFor table "set_iterator.__next__" = some Builtin.«set_iterator.__next__»:=entryFor_of_tree (by kernel_rfl)
theorem uF:Manifest.owners.lookup (String.ofList ['r','o','t','a','r','e','t','i','_','t','e','s'].reverse)=some Manifest.sig_set_iterator:=by kernel_rfl
def sr (a:Value):argsOk "set_iterator.__next__" ⟨[a],[]⟩:=by
 unfold argsOk; rw[signature?_of (id := "set_iterator.__next__") (n:=['_','_','t','x','e','n','_','_']) (o:=['r','o','t','a','r','e','t','i','_','t','e','s']) (by kernel_rfl) uF]; kernel_rfl
def uI:Slot "set_iterator" "__iter__" "set_iterator.__iter__" :=
 .of (owner := "set_iterator") (n := "__iter__") (by rw[typeLookup_type,Hk]; kernel_rfl) (by decide +kernel) (by decide +kernel) (by decide +kernel)
  (by first | exact .inl (by decide +kernel) | exact .inr (by decide +kernel)) (by rw[isSubtype_type]; kernel_rfl)
def yo:typeLookup (.type "set") "__len__" = pure (some (.builtin "set.__len__")):=by rw[typeLookup_type,Hk]; kernel_rfl
section
variable {prog:Program}{w:World}{A:Around}{E:Value->Shared->Prop}{s:Shared}{r:Addr}
def BC (hT:s.TypeIs (.ref r) "set")(h:Q false s):wpAny (model prog w) A (Builtin.List.listLengthHint (.ref r)) Q E s:=by
 unfold Builtin.List.listLengthHint;refine aK (wpAny_specialOf hT yo ?_);generalize hid:("set.__len__" : String)=id0;wp_delta
 rw[show splitId id0=some ("set", "__len__") from by subst hid; decide +kernel];subst hid;refine aK (wpAny_isInstance (T := "set") (b:=true) hT (by rw[isSubtype_type]; kernel_rfl) ?_);refine GE (λhab=>absurd hab (by decide)) (λ_=>?_);refine GE (λ_=>?_) (λhab=>absurd (by decide +kernel) hab);refine aK (wpAny_typeOf hT ?_);exact aW h
def pf (h:Q (w.params.followText "set-order") s):wpAny (model prog w) A setsByText Q E s:=by
 unfold setsByText;refine aK (wpAny_askSetting ?_);exact aW h
def yl (ho:s.heap.get? a=some { cls:=.type "set",dict:=none,data:=.set es ep t })(hf:t.fits es.size=true)(hp:t.plain=true)(h:Q false s) :
  wpAny (model prog w) A (setDrawn a) Q E s:=by
 unfold setDrawn;refine aK (G7 ho rfl hf ?_);dsimp only;refine aK (pf ?_);refine aW ?_;show Q (!w.params.followText "set-order" && (!t.plain&&decide (es.size > 1))) s;rw[hp,Hn,Bool.false_and,Bool.and_false];exact h
end
noncomputable abbrev ky (slot i:Nat)(a:Addr)(n ep:Nat):Obj:={ cls:=.type "set_iterator",data:=.fields #[.int slot 0,.int i 0,.ref a,.int n 0,.int ep 0] }
section
variable {prog:Program}{w:World}{A:Around}{E:Value->Shared->Prop}{s:Shared}{a:Addr}{es:Array (Int×Value)}{ep:Nat}{t:SetTable}
def yF (ho:s.heap.get? a=some { cls:=.type "set",dict:=none,data:=.set es ep t })(hf:t.fits es.size=true)(hp:t.plain=true)
  (hQ:Q (.ref s.heap.objs.size) { s with heap:=s.heap.push (ky 0 0 a es.size ep) }):wpAny (model prog w) A (pyIter (.ref a)) Q E s:=by
 have hT:s.TypeIs (.ref a) "set":=⟨_,ho,rfl⟩
 refine wpAny_pyIter_slot hT F.slot_set_iter (FV F.slot_set_iter hT C9 ?_ (F.args_set_iter_1 _));unfold Builtin.«frozenset.__iter__» Builtin.Frozenset.slot0 slotArgs;simp only[List.isEmpty_nil,Hn,Fq,↓reduceIte,bind_assoc,List.length_nil,G8];unfold Builtin.Frozenset.addrOf Builtin.Frozenset.sizeOf;refine aK (aW ?_);try dsimp only
 refine aK (aW ?_);refine aK (aK (Hs ho rfl hf (aW ?_)));refine aK (yl ho hf hp ?_);simp only[Fq,if_false];refine aK (aW ?_);refine aK (wpAny_setEpoch_of ho rfl hf ?_);unfold newFields;refine aK (FE (aW ⟨_,rfl, "set_iterator",_,⟨_,c6 _ rfl,rfl⟩,kQ.lookup,?_⟩));exact hQ
noncomputable def ord (w:World)(a:Addr)(ep:Nat)(es:Array (Int×Value)):Array (Int×Value):=if w.params.followText "set-order" then pickOrder (w.params.setOrder a ep) es else es
noncomputable def nextOf (w:World)(a:Addr)(ep:Nat)(es:Array (Int×Value))(t:SetTable)(slot i:Nat):Option (Value×Nat):=
 if w.params.followText "set-order" then ((ord w a ep es)[i]?).map λe=>(e.2,slot) else match es[SetTable.below t.place slot]?,t.place[SetTable.below t.place slot]? with
  | some (_,x),some j=>some (x,j+1)
  | _,_=>none
def vM (ho:s.heap.get? a=some { cls:=.type "set",dict:=none,data:=.set es ep t })(hf:t.fits es.size=true)(hp:t.plain=true)(hl:t.led = !w.params.followText "set-order")(h:Q (nextOf w a ep es t slot i) s) :
  wpAny (model prog w) A (setNext a slot i ep) Q E s:=by
 unfold setNext;refine aK (G7 ho rfl hf ?_);dsimp only;refine aK (pf ?_);unfold nextOf ord at h;cases hb:w.params.followText "set-order" with
 | true=>
  rw[hb] at h;simp only[if_true,G8,Fq,if_false] at h ⊢;refine aK ?_;unfold setWalk;refine aK (G7 ho rfl hf ?_);dsimp only;refine aK (pf ?_);rw[hb];simp only[if_true];refine aK (wpAny_askSetting ?_);exact aW (aW h)
 | false=>
  rw[hb] at h hl;simp only[Fq,if_false] at h ⊢;refine GE (λhab=>absurd (show (!t.plain&&decide (es.size > 1))=true from hab) (by rw[hp]; simp)) (λ_=>?_);refine aK ?_;refine GE (λhab=>absurd (show (!t.led&&!es.isEmpty)=true from hab) (by rw[hl]; simp)) (λ_=>?_);exact aW (aW h)
end
theorem vf:∀{l:List α} {i:Nat} (h:i<l.length),List.Perm (l[i]::l.eraseIdx i) l
 | x::l,0,_=>List.Perm.refl _
 | x::l,i+1,h=>by
  have:=vf (l:=l) (i:=i) (Nat.lt_of_succ_lt_succ h);rw[List.eraseIdx_cons_succ,List.getElem_cons_succ];exact (List.Perm.swap x _ _).trans (this.cons x)
theorem vY (next:Nat->Nat):∀(fuel k:Nat) (left:List α) (out:Array α),fuel=left.length->List.Perm (pickOrder.go next fuel k left out).toList (out.toList++left)
 | 0,k,left,out,h=>by
  have:left=[]:=Gw.mp h.symm;subst this;simp[pickOrder.go]
 | fuel+1,k,left,out,h=>by
  unfold pickOrder.go;have hl:next k % left.length<left.length:=Nat.mod_lt _ (by omega);rw[Fp hl];dsimp only;refine (vY next fuel (k+1) _ _ ?_).trans ?_
  .rw[List.length_eraseIdx,if_pos hl]; omega
  .rw[HC,G5];refine List.Perm.append_left _ ?_;exact vf hl
def A0 (next:Nat->Nat)(xs:Array α):List.Perm (pickOrder next xs).toList xs.toList:=by
 have:=vY next xs.size 0 xs.toList #[] (by simp);simpa[pickOrder] using this
def rh (w:World)(a:Addr)(ep:Nat)(es:Array (Int×Value)):List.Perm (ord w a ep es).toList es.toList:=by
 unfold ord;split
 .exact A0 _ _
 .exact List.Perm.refl _
def qK (w:World)(a:Addr)(ep:Nat)(es:Array (Int×Value)):(ord w a ep es).size=es.size:=by
 rw[<-Array.length_toList,(rh w a ep es).length_eq,Array.length_toList]
noncomputable def slotAt (w:World)(l:ai)(i:Nat):Nat:=if w.params.followText "set-order" then 0 else if i=0 then 0 else l.getD (i - 1) 0+1
section
variable {prog:Program}{w:World}{A:Around}{E:Value->Shared->Prop}{s:Shared}{a I:Addr}{es:Array (Int×Value)}{ep:Nat}{t:SetTable}{b:Bool}{l D:ai}
def zp (ht:TG b l D t)(h1:es.toList.map (·.1)=l.map Int.ofNat)(hi:i<es.size):∃e,(ord w a ep es)[i]? = some e/\nextOf w a ep es t (slotAt w l i) i=some (e.2,slotAt w l (i+1)):=by
 have hz:=gD h1;have ho:i<(ord w a ep es).size:=by rw[qK]; exact hi
 refine⟨(ord w a ep es)[i],by simp[ho],?_⟩;unfold nextOf slotAt;by_cases hb:w.params.followText "set-order" = true
 .simp only[hb,if_true];rw[GT ho];rfl
 .have q:=dI u9 l ht.mem;simp only[b3,List.all_eq_true,Fm,FR] at q;have q1:=q i (by omega);have hbel:SetTable.below t.place (if i=0 then 0 else l.getD (i - 1) 0+1)=i:=by rw[ht.place]; exact q1
  have hil:i<l.length:=by omega
  have hb':w.params.followText "set-order" = false:=by simpa using hb
  simp only[hb',Fq,if_false,hbel];have e1:es[i]? = some es[i]:=by simp[hi]
  have e2:t.place[i]? = some (l[i]'hil):=by rw[ht.place]; simp[hil]
  have e3:(ord w a ep es)=es:=by unfold ord; rw[if_neg hb]
  rw[e1,e2];simp only[e3,Nat.add_eq_zero_iff,Nat.succ_ne_self,and_false,if_false,Nat.add_sub_cancel,Nat.reduceAdd,Nat.one_ne_zero];simp[hil]
def Bp (ht:TG b l D t)(h1:es.toList.map (·.1)=l.map Int.ofNat):nextOf w a ep es t (slotAt w l es.size) es.size=none:=by
 have hz:=gD h1;unfold nextOf slotAt;by_cases hb:w.params.followText "set-order" = true
 .simp only[hb,if_true];rw[G9 (by rw[qK]; exact bu _)];rfl
 .have q:=dI u9 l ht.mem;simp only[b3,List.all_eq_true,Fm,FR] at q;have q1:=q es.size (by omega);have hbel:SetTable.below t.place (if es.size=0 then 0 else l.getD (es.size - 1) 0+1)=es.size:=by rw[ht.place]; exact q1
  have hb':w.params.followText "set-order" = false:=by simpa using hb
  simp only[hb',Fq,if_false,hbel];have e1:es[es.size]? = none:=by simp
  rw[e1]
def xw (hI:s.heap.get? I=some (ky slot i a es.size ep))(ho:s.heap.get? a=some { cls:=.type "set",dict:=none,data:=.set es ep t })(hf:t.fits es.size=true)(hp:t.plain=true)(hl:t.led = !w.params.followText "set-order")(hn:nextOf w a ep es t slot i=some (x,nx))
  (hQ:∀h',h'.get? I=some (ky nx (i+1) a es.size ep)->Heap.SameBut I s.heap h'->Q (some x) { s with heap:=h' }):wpAny (model prog w) A (pyNext (.ref I)) Q E s:=by
 have hT:s.TypeIs (.ref I) "set_iterator":=⟨_,hI,rfl⟩
 unfold pyNext;refine aK (wpAny_attempt (wpAny_callSpecial?_slot (name:=Str.ofString "__next__") hT kQ (FV kQ hT r6 ?_ (sr _))));unfold Builtin.«set_iterator.__next__» slotArgs;simp only[List.isEmpty_nil,Hn,Fq,↓reduceIte,bind_assoc,List.length_nil,G8];refine aK (aW ?_);refine aK (wpAny_fieldsOf hI rfl ?_);dsimp only;refine aK (Hs ho rfl hf ?_);refine GE (λhab=>absurd hab (by simp)) (λ_=>?_);simp only[Int.toNat_natCast];refine aK (vM ho hf hp hl ?_);rw[hn];dsimp only;refine aK (wpAny_setField_rec hI (by simp) λh1 g1 s1=>?_);refine aK (wpAny_setField_rec (s:={ s with heap:=h1 }) g1 (by simp) λh2 g2 s2=>?_);exact aW ⟨_,rfl,aW (hQ h2 g2 (s1.trans s2))⟩
def DI (hh:A.handled=none)(hI:s.heap.get? I=some (ky slot i a es.size ep))(ho:s.heap.get? a=some { cls:=.type "set",dict:=none,data:=.set es ep t })(hf:t.fits es.size=true)(hp:t.plain=true)(hl:t.led = !w.params.followText "set-order")(hn:nextOf w a ep es t slot i=none)
  (hQ:∀h',Heap.ExtBut I s.heap h'->Q none { s with heap:=h' }):wpAny (model prog w) A (pyNext (.ref I)) Q E s:=by
 have hT:s.TypeIs (.ref I) "set_iterator":=⟨_,hI,rfl⟩
 unfold pyNext;refine aK (wpAny_attempt (wpAny_callSpecial?_slot (name:=Str.ofString "__next__") hT kQ (FV kQ hT r6 ?_ (sr _))));unfold Builtin.«set_iterator.__next__» slotArgs;simp only[List.isEmpty_nil,Hn,Fq,↓reduceIte,bind_assoc,List.length_nil,G8];refine aK (aW ?_);refine aK (wpAny_fieldsOf hI rfl ?_);dsimp only;refine aK (Hs ho rfl hf ?_);refine GE (λhab=>absurd hab (by simp)) (λ_=>?_);simp only[Int.toNat_natCast];refine aK (vM ho hf hp hl ?_);rw[hn];dsimp only;refine aK (Hy hI rfl (by simp) ?_);show wpAny _ _ (newExc (.type "StopIteration") [] >>= _) _ _ _;refine aK ?_;simp only[newExc,newTuple];refine aK (FE ?_ (by size_fits));refine aK (m:=firstArgMember _ _) (wpAny_of_eq (a:=Value.none) (by first | rfl | (simp only[firstArgMember]; rfl)) ?_);refine FE ?_ (by size_fits);simp only[raiseNew];refine aK (wpAny_handled ?_);rw[show A.in1.handled=none from hh];refine aK (aW (wpAny_throw ?_));refine aK (wpAny_isInstance (T := "StopIteration") (b:=true) ⟨_,c6 _ rfl,rfl⟩ isSubtype_stop ?_);exact aW (hQ _ (((Gc ..).extBut.push _).push _))
end
def wC:entryFor table "set_iterator.__iter__" = some Builtin.«dict_keyiterator.__iter__»:=
 entryFor_alias (id' := "dict_keyiterator.__iter__") (by kernel_rfl) rfl (by decide +kernel) (by kernel_rfl)
def yu (a:Value):argsOk "set_iterator.__iter__" ⟨[a],[]⟩:=by
 unfold argsOk; rw[signature?_of (id := "set_iterator.__iter__") (n:=['_','_','r','e','t','i','_','_']) (o:=['r','o','t','a','r','e','t','i','_','t','e','s']) (by kernel_rfl) uF]; kernel_rfl
noncomputable abbrev lN (es:Array (Int×Value))(ep:Nat)(t:SetTable):Obj:={ cls:=.type "set",dict:=none,data:=.set es ep t }
section
variable {prog:Program}{w:World}{A:Around}{E:Value->Shared->Prop}{s:Shared}{a I:Addr}{es:Array (Int×Value)}{ep:Nat}{t:SetTable}{l D:ai}
def AC (w:World)(l:ai):slotAt w l 0=0:=by unfold slotAt; split <;> rfl
def yY (hh:A.handled=none)(hne:a≠I)(ht:TG (!w.params.followText "set-order") l D t)(h1:es.toList.map (·.1)=l.map Int.ofNat) :
  Walks prog w A I [I,a] [I] es.size (λi v=>∃e,(ord w a ep es)[i]? = some e/\v=e.2) (λi h=>h.get? I=some (ky (slotAt w l i) i a es.size ep)/\h.get? a=some (lN es ep t)) where
 sub:=λb hb=>by simp at hb; simp[hb]
 frame:=λ_ _ _ st hk=>⟨hk I (by simp) _ st.1,hk a (by simp) _ st.2⟩
 item:=λi s Q E hi st hQ=>by
  obtain⟨e,e1,e2⟩:=zp (w:=w) (a:=a) (ep:=ep) ht h1 hi;refine xw st.1 st.2 (ht.fits (gD h1)) ht.plain ht.led e2 λh' g sb=>?_;exact hQ _ h' s.toks ⟨e,e1,rfl⟩ ⟨g,sb.extBut _ _ hne st.2⟩ λb o hb q=>sb.extBut b o (λz=>hb (by simp[z])) q
 done:=λs Q E st hQ=>DI hh st.1 st.2 (ht.fits (gD h1)) ht.plain ht.led (Bp ht h1) λh' he=>hQ h' s.toks λb o hb q=>he b o (λz=>hb (by simp[z])) q
 self:=λi s Q E st hQ=>by
  have hT:s.TypeIs (.ref I) "set_iterator":=⟨_,st.1,rfl⟩
  refine wpAny_pyIter_slot hT uI (FV uI hT wC ?_ (yu _));show wpAny _ _ (ret (.ref I)) _ _ s;exact aW ⟨_,rfl, "set_iterator",_,hT,kQ.lookup,hQ⟩
def Ek (ht:TG (!w.params.followText "set-order") l D t)(h1:es.toList.map (·.1)=l.map Int.ofNat):KdlSrc prog w "set" a a es.size (λi v=>∃e,(ord w a ep es)[i]? = some e/\v=e.2) (λh=>h.get? a=some (lN es ep t)) where
 type:=λ_ hm=>⟨_,hm,rfl⟩
 there:=λ_ hm=>⟨bM hm,bM hm⟩
 keep:=λ_ _ hm hk=>hk a (.inl rfl) _ hm
 notList:=by decide
 notTuple:=by decide
 hint:=λ_ _ _ _ hm hq=>BC ⟨_,hm,rfl⟩ hq
 iter:=λA s hh hm=>⟨ky 0 0 a es.size ep,_,(λ_ _ hq=>yF hm (ht.fits (gD h1)) ht.plain hq),yY hh (dr (bM hm)) ht h1,⟨by rw[AC]; exact c6 _ rfl,bV _ hm⟩⟩
def BO (K:KdlSrc prog w T r d n P OK)(hh:A.handled=none)(hok:OK s.heap)(hn:n<=sizeLine)
  (hQ:∀h' tk acc,(∀b o,s.heap.get? b=some o->h'.get? b=some o)->ItemsOf P acc n->Q acc.toList { s with heap:=h',toks:=tk }):wpAny (model prog w) A (collect (.ref r)) Q E s:=by
 unfold collect;refine aK (wpAny_runValue (GG F.entry_proto_collect ?_));rw[Gr F.plain_proto_collect _];show wpAny _ A.in1 (newList [] >>= λl=>again (.builtin "list.__iadd__" ⟨[l,.ref r],[]⟩)) _ _ s;refine aK (FE ?_);refine aW ⟨plainId_quiet F.plain_list_iadd _,GG F.entry_list_iadd ?_⟩;rw[Gr F.plain_list_iadd _];show wpAny _ A.in1 (Builtin.List.listExtendWith (.ref s.heap.objs.size) (.ref r) (.ref s.heap.objs.size)) _ _ _;have hlt:=K.there _ hok;refine kdl_extend (R:=λr s'=>match r with
   | .ok (.ret v)=>wpAny (model prog w) A (match v with
    | .ref a=>do
     match (<-load a).data with
     | .seq xs _=>pure xs.toList
     | _=>unsupported "internal:collect"
    | _=>unsupported "internal:collect") Q E s'
   | .ok _=>False
   | .error e=>E e s') (s:={ s with heap:=s.heap.push { cls:=.type "list",data:=.seq ([]:List Value).toArray } }) K hh (K.keep _ _ hok λb _ o e=>bV _ e) s.heap.objs.size (Gp hlt.1) (Gp hlt.2) (.ref s.heap.objs.size) 0 (c6 _ rfl) (λh' tk acc' c' hk hS' hacc=>?_) hn
 show wpAny _ A (load s.heap.objs.size >>= _) _ _ _;refine aK (wpAny_load hS' ?_);exact aW (hQ h' tk acc' (λb o e=>hk b o (dr (bM e)) (bV _ e)) hacc)
def sorted_set (hh:A.handled=none)(hS:SG (!w.params.followText "set-order") s.heap a l D)
  (h:∀h' tk L (vs:al) n,(∀b o,s.heap.get? b=some o->h'.get? b=some o)->a<L->h'.get? L=some { cls:=.type "list",data:=.seq vs.toArray n }->IntsAre vs (l.map Int.ofNat)->Q (.ref L) { s with heap:=h',toks:=tk }) :
  wpAny (model prog w) A (call (.builtin "sorted") [.ref a]) Q E s:=by
 obtain⟨es,ep,t,ho,h1,h2,ht⟩:=hS;have hz:=gD h1;have h6:=(mem_b4 ht.mem).1;refine Calls.call_function_entry kind_sorted plain_sorted entry_sorted (args_sorted1 _) ?_;unfold Builtin.«sorted»;refine aK (m:=checkCount "sorted" 1 1 _) (aW ?_);refine aK (BO (Ek (prog:=prog) (a:=a) (ep:=ep) ht h1) hh ho (small_line (by omega)) λh' tk acc hk hacc=>?_);refine aK (wpAny_newList ?_ (hsz:=by rw[Array.length_toList,hacc.1]; exact small_line (by omega)));have hvs:acc.toList=(ord w a ep es).toList.map (·.2):=by
  apply Gu;intro j;rw[Fs,GK,GK];by_cases hj:j<acc.size
  .obtain⟨e,e1,e2⟩:=hacc.2 j acc[j] (by simp[hj]);rw[e1,GT hj,e2];rfl
  .have hsz:(ord w a ep es).size<=j:=by rw[qK,<-hacc.1]; omega
   rw[G9 (by omega),G9 hsz];rfl
 have hints:IntsAre acc.toList ((ord w a ep es).toList.map (·.1)):=by
  rw[hvs];have:∀(m:List (Int×Value)),(∀e∈m,∃tk,e.2=.int e.1 tk)->IntsAre (m.map (·.2)) (m.map (·.1)):=by
   intro m;induction m with
   | nil=>intro _; exact IntsAre.nil
   | cons e m ih=>
    intro hm;obtain⟨tk,et⟩:=hm e bW;rw[Fk,Fk,et];exact IntsAre.cons _ _ (ih λx hx=>hm x (bX _ hx))
  exact this _ λe he=>h2 e ((rh w a ep es).mem_iff.mp he)
 have hoL:(h'.push (seqObj "list" acc.toList.toArray 0)).get? h'.objs.size=some (seqObj "list" acc.toList.toArray 0):=c6 _ rfl;have hlen:acc.toList.length<64:=by rw[Array.length_toList,hacc.1]; omega
 refine aK (Gv (FV slot_list_sort ⟨_,hoL,rfl⟩ entry_list_sort (list_sort_tree hoL hints hlen λout ns' a1 a2 a3=>⟨_,rfl,?_⟩) (args_list_sort _)));have hns:ns'=l.map Int.ofNat:=by
  have p:ns'.Perm (l.map Int.ofNat):=by
   rw[<-h1];exact a2.trans ((rh w a ep es).map _)
  refine ksm_same p a3 ?_;rw[List.pairwise_map];exact (mem_b4 ht.mem).2.2.imp λh=>Int.ofNat_le.mpr (GQ h)
 subst hns;obtain⟨e,ge⟩:=sortedHeap_at (out:=out) hoL;refine aW ⟨_,rfl,h _ _ h'.objs.size out.toList e (λb o q=>?_) ?_ ?_ a1⟩
 .have hb:b<h'.objs.size:=bM (hk b o q);rw[sortedHeap_old (GP hb) (by rw[Fz]; exact F7 hb)];exact bV _ (hk b o q)
 .exact bM (hk a _ ho)
 .simpa using ge
end
noncomputable def stp (l:ai)(k:Nat):ai:=if k∈l then l else ins l k
noncomputable def acc (val:Nat->Nat)(i:Nat):ai:=((List.range i).map val).foldl stp []
def E6 (val:Nat->Nat)(i:Nat):acc val (i+1)=stp (acc val i) (val i):=by
 unfold acc;rw[List.range_succ,GD,HD];rfl
section
variable {prog:Program}{w:World}{A:Around}{R:Result->Shared->Prop}{I:Addr}{fp wr:ak}{G:Array GenState->Array GenState->Prop}{n:Nat}{P:Nat->Value->Prop}{St:Nat->Shared->Prop}
def SG.at (x:SG b h a l D)(e:∀o,h.get? a=some o->h'.get? a=some o):SG b h' a l D:=by
 obtain⟨es,ep,t,ho,r⟩:=x;exact⟨es,ep,t,e _ ho,r⟩
def zA (b:Bool)(W:WalksS prog w A.in1 I fp wr G n P St)(S:Addr)(hSf:S∉fp)(val:Nat->Nat)(hval:∀i v,P i v->val i<6/\∃t,v=.int (Int.ofNat (val i)) t) :
  ∀(k i:Nat) (s:Shared),n - i=k->i<=n->St i s->SG b s.heap S (acc val i) [] ->
   (∀s',Moved (S::wr) G s s'->SG b s'.heap S (acc val n) []->R (.ok (.ret .none)) s') ->
   codeAny (model prog w) A (.builtin "set.update.loop" ⟨[.ref S,.ref I],[]⟩) R s:=by
 have hSw:S∉wr:=λh=>hSf (W.sub _ h);have hsub:∀b∈wr,b∈S::wr:=λb hb=>bX _ hb;intro k;induction k with
 | zero=>
  intro i s hk hi hst hS hR;have hin:i=n:=by omega
  subst hin;refine GG F.entry_set_update_loop ?_;rw[Gr GZ _];show wpAny _ A.in1 (pyNext (.ref I) >>= _) _ _ s;refine aK (W.done s _ _ hst λs' hm=>?_);show wpAny _ A.in1 (ret Value.none) _ _ s';exact aW (hR s' (hm.mono hsub) (hS.at λo e=>hm.heap S _ hSw e))
 | succ k ih=>
  intro i s hk hi hst hS hR;have hlt:i<n:=by omega
  refine GG F.entry_set_update_loop ?_;rw[Gr GZ _];show wpAny _ A.in1 (pyNext (.ref I) >>= _) _ _ s;refine aK (W.item i s _ _ hlt hst λv s' hP hst' hm=>?_);obtain⟨hv6,t,rfl⟩:=hval i v hP;have hS':SG b s'.heap S (acc val i) []:=hS.at λo e=>hm.heap S _ hSw e;show wpAny _ A.in1 (holding [Value.int (Int.ofNat (val i)) t] (setAdd S (.int (Int.ofNat (val i)) t)) >>= _) _ _ s';refine aK (Gv ?_);unfold setAdd;refine Gv ?_;refine aK ((intKind prog w).pyHash (k:=Int.ofNat (val i)) (intKind_is _ _ _ _) ?_);refine C3 (s:={ s' with toks:=s'.toks+1 }) hS' hv6 (λz=>by cases z) λh' r hsb hS2=>?_;have hSi:SG b h' S (acc val (i+1)) []:=by rw[E6]; exact hS2
  refine aW ⟨plainId_quiet GZ _,ih (i+1) _ (by omega) hlt (W.frame _ s' _ _ hst' (F0 _) λb hb o e=>?_) hSi λs'' hm'' hS''=>?_⟩
  .rw[hsb.2 b (λh:b=S=>hSf (by rw[<-h]; exact hb))]; exact e
  .refine hR s'' (Moved.trans W.gtrans ((hm.mono hsub).then_heap (F0 _) λb o hb e=>?_) hm'') hS'';rw[hsb.2 b (λh:b=S=>hb (by rw[h]; exact bW))]; exact e
end
section
variable {prog:Program}{w:World}{A:Around}{E:Value->Shared->Prop}{s:Shared}
def D3 (a:Value)
  (h:Q₁ (.ref s.heap.objs.size) { s with heap:=s.heap.push { cls:=.type "set",dict:=none,data:=.set #[] 0 (.fresh 0 0 (!w.params.followText "set-order")) } }) :
  codeAny (model prog w) A (.call (.builtin "set.__new__") ⟨[.type "set",a],[]⟩) (wants Q₁ E) s:=by
 refine codeAny_of_tree ?_;show wpAny _ A.in1 (do checkBuiltinCall "set.__new__" ⟨[.type "set",a],[]⟩; again (.builtin "set.__new__" ⟨[.type "set",a],[]⟩)) _ _ s;refine aK (wpAny_of_eq (F.newCall_set_1 a) (aW ⟨plainId_quiet F.plain_set_new _,GG F.entry_set_new ?_⟩));rw[Gr F.plain_set_new _];unfold Builtin.«set.__new__» Builtin.Frozenset.newClass;have hsub:=sub_set_self;obtain⟨hp,g,d,tk,os⟩:=s;dsimp only;wp_walk
 refine wpAny_askSetting (aW ?_);dsimp only;simp only[newObj];refine aK (wpAny_alloc (aW ?_));exact aW h
def Cm (b:Bool)(e:h.get? a=some { cls:=.type "set",dict:=none,data:=.set #[] 0 (.fresh 0 0 b) }):SG b h a [] []:=
 ⟨#[],0,_,e,rfl,λe he=>by simp at he,⟨by decide +kernel,rfl,⟨[],by decide +kernel,rfl,λx hx=>by cases hx⟩,.inl ⟨rfl,by simp[SetTable.fill,SetTable.fresh]⟩,rfl,rfl⟩⟩
set_option maxHeartbeats 3200000 in
def set_list {l:Addr}{items:az}{ns:ai}{Q:Value->Shared->Prop}
  (hh:A.handled=none)(hl:s.heap.IsList l items)(hi:IntsAre items.toList (ns.map Int.ofNat))(h6:∀x∈ns,x<6)
  (h:∀(h':Heap) (tk:Nat),SG (!w.params.followText "set-order") h' s.heap.objs.size (ns.foldl stp []) [] ->
   (∀b o,b<s.heap.objs.size->s.heap.get? b=some o->h'.get? b=some o)->Q (.ref s.heap.objs.size) { s with heap:=h',toks:=tk }) :
  wpAny (model prog w) A (call (.type "set") [.ref l]) Q E s:=by
 have hlen:items.size=ns.length:=by have:=IntsAre.length hi; simpa using this
 have hacc:acc (λi=>ns.getD i 0) items.size=ns.foldl stp []:=by
  unfold acc;have:(List.range items.size).map (λi=>ns.getD i 0)=ns:=by
   rw[hlen];apply Gu;intro j;by_cases hj:j<ns.length
   .simp[hj]
   .simp[Nat.le_of_not_lt hj]
  rw[this]
 obtain⟨c,tl,hmro⟩:=Gz.mro;have hmade:=Gz.made;have hsub:=Gz.sub;refine wpAny_call (codeAny_of_tree ?_);show wpAny _ _ (callAny (.type "set") _) _ _ _;refine aW ⟨Code.quiet_builtin _ (by decide +kernel),GG F.entry_type_call ?_⟩;rw[Around.under_plain (weight_type_call_type "set" [.ref l] []) rfl];have h1:=Gz.notType;have h2:=Gz.canCreate;have hct:=F.typeCall_set_1 (.ref l);repeat (any_goals (first | assumption | wp_step))
 refine G1 (D3 (.ref l) (E:=E) (Q₁:=λobj s₁=>obj=.ref s.heap.objs.size/\s₁={ s with heap:=s.heap.push { cls:=.type "set",dict:=none,data:=.set #[] 0 (.fresh 0 0 (!w.params.followText "set-order")) } }) ⟨rfl,rfl⟩) λr s₁ hr=>?_;cases r with
 | error e=>exact hr
 | ok fl=>
  cases fl with
  | ret obj=>
   obtain⟨rfl,rfl⟩:=hr;generalize hled:(!w.params.followText "set-order")=led at *;have hS:(s.heap.push { cls:=.type "set",dict:=none,data:=.set #[] 0 (.fresh 0 0 led) }).get? s.heap.objs.size=some { cls:=.type "set",dict:=none,data:=.set #[] 0 (.fresh 0 0 led) }:=c6 _ rfl;have hT:Shared.TypeIs { s with heap:=s.heap.push { cls:=.type "set",dict:=none,data:=.set #[] 0 (.fresh 0 0 led) } } (.ref s.heap.objs.size) "set":=⟨_,hS,rfl⟩
   have hli:=Gz.init.lookup;have hbi:=Gz.init.bind (.ref s.heap.objs.size);repeat (any_goals (first | assumption | wp_step))
   refine G1 (codeAny_call_builtin (R:=wants (λr s₂=>r=.none/\∃h' tk,s₂={ s with heap:=h',toks:=tk }/\SG led h' s.heap.objs.size (ns.foldl stp []) [] /\
     (∀b o,b<s.heap.objs.size->s.heap.get? b=some o->h'.get? b=some o)) E) Gz.init.plain F.entry_set_init (check_set_init_1 hT ?_)) λr₂ s₂ hr₂=>?_
   .obtain⟨ol,hol,hcl,nl,hdl⟩:=hl;obtain⟨ocls,odict,odata,oslots⟩:=ol;simp only at hcl hdl;subst hcl; subst hdl;have hol':(s.heap.push { cls:=.type "set",dict:=none,data:=.set #[] 0 (.fresh 0 0 led) }).get? l=some { cls:=.type "list",dict:=odict,data:=.seq items nl,slots:=oslots }:=bV _ hol;have hsls:=F.sub_list_set;have hslf:=F.sub_list_frozenset;have hne:(Value.type "list" == Value.type "dict")=false:=by decide
    have hl1:(s.heap.push { cls:=.type "set",dict:=none,data:=.set #[] 0 (.fresh 0 0 led) }).IsList l items:=⟨_,hol',rfl,nl,rfl⟩
    unfold Builtin.«set.__init__» noKeywords Builtin.Frozenset.updateFrom;generalize hPI:pyIter=PI;wp_walk
    subst hPI;refine G0 hl1 ?_;refine aK (wpAny_runValue ?_);have hlS:l<s.heap.objs.size:=bM hol;have hh3:A.in1.in1.in1.handled=none:=by simp[hh]
    have hneI:l≠(s.heap.push { cls:=.type "set",dict:=none,data:=.set #[] 0 (.fresh 0 0 led) }).objs.size:=by
     rw[Fz]; exact dr (F7 hlS)
    have hSf:s.heap.objs.size∉[(s.heap.push { cls:=.type "set",dict:=none,data:=.set #[] 0 (.fresh 0 0 led) }).objs.size,l]:=by
     rw[Fz]; simp only[Fu,Fi,Ft,or_false,not_or];exact⟨dr (Gf _),Gp hlS⟩
    have hval:∀(i:Nat) (v:Value),items[i]? = some v->(λi=>ns.getD i 0) i<6/\∃t,v=.int (Int.ofNat ((λi=>ns.getD i 0) i)) t:=λi v hv=>by
     have hil:i<ns.length:=by
      have:=(FZ.mp hv).1;omega
     obtain⟨t,et⟩:=IntsAre.int_at hi i v (by rw[GK]; exact hv);refine⟨?_,t,?_⟩
     .simp only[List.getD_eq_getElem?_getD,Fp hil,Option.getD_some];exact h6 _ (FO hil)
     .rw[et];simp[hil]
    refine zA led ((Walks.list hh3 _ l hneI items).toS) s.heap.objs.size
     hSf (λi=>ns.getD i 0) hval (items.size - 0) 0 _ (by omega) (FS _)
     ⟨⟨_,c6 _ rfl,rfl,rfl⟩,(hl1.push _)⟩ ?hS0 ?hR
    case hS0=>exact Cm led (bV _ hS)
    case hR=>
     intro s' hm hS';rw[hacc] at hS';obtain⟨h',g',d',tk',os'⟩:=s';have eg:g'=s.gens:=hm.gens;have ed:d'=s.drawn:=hm.drawn;have eo:os'=s.os:=hm.os;subst eg; subst ed; subst eo;show wpAny _ _ _ _ _ _;refine aW ?_;show wpAny _ _ (ret Value.none) _ _ _;refine aW ⟨rfl,h',tk',rfl,hS',λb o hb e=>?_⟩;have hb1:b≠s.heap.objs.size:=dr hb;have hb2:b≠(s.heap.push { cls:=.type "set",dict:=none,data:=.set #[] 0 (.fresh 0 0 led) }).objs.size:=by
      rw[Fz]; exact dr (F7 hb)
     exact hm.heap b o (by simp only[Fu,Fi,Ft,or_false,not_or]; exact⟨hb1,hb2⟩) (bV _ (bV _ e))
   .cases r₂ with
    | error e=>exact hr₂
    | ok fl₂=>
     cases fl₂ with
     | ret r=>
      obtain⟨rfl,h',tk,rfl,hS',hk'⟩:=hr₂;repeat (any_goals (first | assumption | wp_step))
      exact h _ _ hS' hk'
     | _=>exact hr₂.elim
  | _=>exact hr.elim
end
end St
end
section
namespace L2
open PySem PySem.Spec PyProof.Rows
section
variable {X:Cx}
noncomputable def cq (ns:ai):ar:=ns.map λn=>.int (Int.ofNat n)
def Fg (K:be)(te:TE):TE:=λσ H Q=>te σ H λx H1=>∃a ns,x=.ref a/\SqL K H1 a (cq ns)/\(∀n∈ns,n<6)/\∀p,H1 p=none->Q (.ref p) (upd H1 p (.lst (cq (ns.foldl St.stp []))))
theorem rZ:∀{ns:ai} {its:al},Vals (cq ns) its->IntsAre its (ns.map Int.ofNat)
 | [],_,h=>by cases h; exact .nil
 | n::ns,_,h=>by
  cases h with
  | cons h1 h2=>
   obtain⟨t,rfl⟩:=(show ∃t,_=Value.int (Int.ofNat n) t from h1)
   exact .cons _ _ (rZ h2)
theorem u7:∀{ns:ai} {its:al},IntsAre its (ns.map Int.ofNat)->Vals (cq ns) its
 | [],_,h=>by cases h; exact .nil
 | n::ns,_,h=>by
  cases h with
  | cons _ t h=>exact .cons ⟨t,rfl⟩ (u7 h)
def Dz (hc:X.calm=true)(he:PE X e te)(g1:Gl X "sorted")(m1:X.mg "sorted" = none)(b1:bootBuiltins "sorted" = some (.builtin "sorted"))(g2:Gl X "set")(m2:X.mg "set" = none)(b2:bootBuiltins "set" = some (.type "set"))
  (hs1:starEach [.Call (.Name "set" p2) [e] [] p3] X.env=[(false,eval (.Call (.Name "set" p2) [e] [] p3) X.env)])(hs2:starEach [e] X.env=[(false,eval e X.env)]) :
  PE X (.Call (.Name "sorted" p1) [.Call (.Name "set" p2) [e] [] p3] [] p4) (Fg X.K te):=by
 intro pins s σ H Q I h;have hh:=I.ok.hd hc;refine FK (gg I g1 m1 b1 ?_);refine PyProof.Rows.callWith_builtin1 ?_ hs1 rfl;rw[hs1];show wpAny _ _ (spliced ((false,eval (.Call (.Name "set" p2) [e] [] p3) X.env)::[])) _ _ s;refine Gy ?_;refine FK (gg I g2 m2 b2 ?_);refine Fw ?_ hs2 rfl;rw[hs2];show wpAny _ _ (spliced ((false,eval e X.env)::[])) _ _ s;refine Gy (aV (he pins s σ H _ I h) λu s1 hZz=>?_);obtain⟨x,H1,I1,r1,a,ns,ex,hx,h6,q⟩:=hZz;subst ex;cases r1;refine GL ?_;obtain⟨its,rv,pl,hz⟩:=I1.list hx;refine St.set_list hh pl.isList (by simpa using rZ rv) h6 λh' tk hS hk=>?_;refine GL ?_;refine St.sorted_set hh hS λh'' tk' L vs n hk' hlt hget hints=>?_;refine⟨.ref L,upd H1 L (.lst (cq (ns.foldl St.stp []))),I1.laid (t':=tk') (λb o qb=>hk' b o (hk b o (bM qb) qb)) (GQ hlt) ⟨?_,vs,n,u7 hints,hget⟩,rfl,q L (I1.hok.fresh (GQ hlt))⟩;have:=hS;obtain⟨es,ep,t,_,h1,_,ht⟩:=this;rw[cq,Fj];exact St.small_line (St.mem_b4 ht.mem).1
end
section
variable {X:Cx}
def wF:OpR X (binaryOp .Add) (λx y H Q=>∃a b ys,x=.ref a/\y=.ref b/\SqT X.K H a []/\SqT X.K H b ys/\Q (.ref b) H):=by
 intro pins s σ H x y v u Q I rx ry h;obtain⟨a,b,ys,rfl,rfl,ha,hb,q⟩:=h;cases rx;cases ry;obtain⟨its,r1,⟨⟨cls,dd,data,sl⟩,ho,hc,n,hd⟩,_⟩:=I.tuple ha;obtain⟨its2,r2,⟨⟨cls2,dd2,data2,sl2⟩,ho2,hc2,n2,hd2⟩,_⟩:=I.tuple hb;simp only at hc hd hc2 hd2;subst hc hd hc2 hd2;cases r1;exact concat_meets ⟨_,ho,rfl⟩ ⟨_,ho2,rfl⟩ noFill_tuple_add seq_tuple_add G2 GY (GV _ _)
  (tuple_addW0 a b #[] its2.toArray n n2 dd dd2 sl sl2 rfl) ⟨ho,ho2,⟨.ref b,H,I,rfl,q⟩⟩
def B0 (l:Addr)(items:az)(n:Nat)(b:Addr)(items2:az)(n2:Nat)(dd2:aB)(sl2:Array ay)(hs0:¬(!items.isEmpty&&Builtin.List.listTooLong (items.size+items2.size))=true)(hs1:items.size<=sizeLine)(hs2:items.size+items2.size<=sizeLine+1) :
  Meets (Builtin.«list.extend» ⟨[.ref l,.ref b],[]⟩) (λ_ R s=>s.heap.get? l=some { cls:=.type "list",dict:=none,data:=.seq items n,slots:=#[] }/\s.heap.get? b=some { cls:=.type "tuple",dict:=dd2,data:=.seq items2 n2,slots:=sl2 }/\R (.ok (.ret Value.none)) { s with heap:=s.heap.update l (Obj.mapSeq λx=>x++items2),toks:=s.toks }):=
 .of_wp λprog w A R s h=>by
  obtain⟨hp,g,d,tk,os⟩:=s; obtain⟨hl,hb,h⟩:=h; have f1:=AutoSeq1.idx_int; have f2:=AutoSeq1.sub_tuple_tuple; have f3:=AutoSeq1.sub_list_list; have f4:=AutoSeq1.sub_tuple_list; have f5:=AutoSeq1.sub_list_tuple;have hz':(items++items2).size<=sizeLine+1:=by rw[Array.size_append]; exact hs2
  wp_walk using (wpAny_updateSeq hl rfl (hz:=hs1) (_hz':=hz')),wpAny_loadPart' hl,wpAny_loadPart' hb; exact⟨_,rfl,h⟩
def ig (K:be):V->ar->Hp->VK->Prop:=λx vs H Q=>∃l b xs zs,x=.ref l/\vs=[.ref b]/\H l=some (.lst xs)/\SqT K H b zs/\xs.length+zs.length<=sizeLine/\Q .non (upd H l (.lst (xs++zs)))
def wu:oi X "list.extend" (ig X.K):=by
 intro pins s σ H x vs v us Q I rx rv h;obtain⟨l,b,xs,zs,rfl,rfl,hH,hB,hz,q⟩:=h;cases rx;obtain⟨u,rfl,ru⟩:=rv.one;cases ru;obtain⟨z,its,n,r,hl,e⟩:=I.lstM hH;obtain⟨its2,r2,⟨⟨cls2,dd2,data2,sl2⟩,ho2,hc2,n2,hd2⟩,_⟩:=I.tuple hB;simp only at hc2 hd2;subst hc2 hd2;have hl2:=r2.length;have hsz:its.toArray.size+its2.toArray.size<=sizeLine:=by rw[Fh,Fh]; omega
 have hlong:¬(!its.toArray.isEmpty&&Builtin.List.listTooLong (its.toArray.size+its2.toArray.size))=true:=by
  rw[uz hsz,Bool.and_false];exact Fy
 refine GO F.slot_list_extend ⟨_,e,rfl⟩ F.entry_list_extend (F.args_list_extend_2 _ _)
  (B0 l its.toArray n b its2.toArray n2 dd2 sl2 hlong (by rw[Fh]; omega) (by omega)) ⟨e,ho2,?_⟩
 refine⟨.non,_,I.lset (its':=its++its2) hH e (by simp) (r.append r2) ?_,rfl,q⟩;rw[FC];omega
def BH (te:TE):TE:=λσ H Q=>te σ H λx H1=>∃j:Int,x=.int j/\0<=j/\j<=16777216/\∀p,H1 p=none->Q (.ref p) (upd H1 p (.lst (cq (List.range j.toNat))))
def Dd (hc:X.calm=true)(he:PE X e te)(g1:Gl X "list")(m1:X.mg "list" = none)(b1:bootBuiltins "list" = some (.type "list"))(g2:Gl X "range")(m2:X.mg "range" = none)(b2:bootBuiltins "range" = some (.type "range"))
  (hs1:starEach [.Call (.Name "range" p2) [e] [] p3] X.env=[(false,eval (.Call (.Name "range" p2) [e] [] p3) X.env)])(hs2:starEach [e] X.env=[(false,eval e X.env)]) :
  PE X (.Call (.Name "list" p1) [.Call (.Name "range" p2) [e] [] p3] [] p4) (BH te):=by
 intro pins s σ H Q I h;have hh:=I.ok.hd hc;refine FK (gg I g1 m1 b1 ?_);refine Fw ?_ hs1 rfl;rw[hs1];show wpAny _ _ (spliced ((false,eval (.Call (.Name "range" p2) [e] [] p3) X.env)::[])) _ _ s;refine Gy ?_;refine FK (gg I g2 m2 b2 ?_);refine Fw ?_ hs2 rfl;rw[hs2];show wpAny _ _ (spliced ((false,eval e X.env)::[])) _ _ s;refine Gy (aV (he pins s σ H _ I h) λu s1 hZz=>?_);obtain⟨x,H1,I1,r1,j,ex,j0,j1,q⟩:=hZz;subst ex;obtain⟨t,rfl⟩:=(show ∃t,u=Value.int j t from r1)
 refine GL ?_;refine call_range_1 ?_;refine GL ?_;refine call_list_range (n:=j.toNat) hh (IsRange.new ..) (small_one (by omega) (by omega) (by omega) (by omega)) ?_ (by omega) λh' tk acc c kp ge it=>?_
 .simp[Builtin.Range.rangeSize];omega
 rw[Fz] at ge ⊢;refine⟨.ref (s1.heap.objs.size+1),upd H1 (s1.heap.objs.size+1) (.lst (cq (List.range j.toNat))),I1.laid (t':=tk) (λb o qb=>kp b o (bV _ qb)) (F0 _) ⟨?_,acc.toList,c,?_,by simpa using ge⟩,rfl,q _ (I1.hok.fresh (F0 _))⟩
 .rw[cq,Fj,List.length_range,sizeLine_eq]; omega
 .have:∀(m:Nat) (l:al),l.length=m->(∀(i:Nat) (v:Value),l[i]? = some v->∃t,v=Value.int (i:Int) t)->Vals (cq (List.range m)) l:=by
   intro m;induction m with
   | zero=>intro l hl _; rw[Gw.mp hl]; exact .nil
   | succ m ih=>
    intro l hl hv;have hne:l≠[]:=λz=>by rw[z] at hl; cases hl
    rw[<-List.dropLast_concat_getLast hne,List.range_succ];unfold cq;rw[GD];refine (ih l.dropLast (by rw[List.length_dropLast]; omega) λi v hi=>hv i v ?_).append (.cons ?_ .nil)
    .rw[List.getElem?_dropLast] at hi;split at hi
     .exact hi
     .cases hi
    .have:=hv m (l.getLast hne) (by rw[List.getLast_eq_getElem,Fp (by omega)]; simp[hl]);exact this
  refine this j.toNat acc.toList (by rw[Array.length_toList]; exact it.1) λi v hi=>?_;obtain⟨t,et⟩:=it.2 i v (by rw[<-GK]; exact hi);exact⟨t,by rw[et]; simp⟩
def EK (ho:s.heap.get? l=some { cls:=.type "list",data:=.seq items n })
  (h0:0<=k)(hfit:k<2 ^ 63)(hn:k<items.size)(hQ:Q () { s with heap:=s.heap.update l (Obj.mapSeq (·.setIfInBounds k.toNat v)) }):wpAny (model prog w) A (setItem (.ref l) (.int k t) v) Q E s:=by
 have hl:s.heap.IsList l items:=PySem.IsL.isList ho;unfold setItem;try with_reducible refine Gv ?_
 first | refine aK (aW ?_) | skip
 refine aK (wpAny_sequenceKey hl.typeIs (by decide) ?_);refine aK (wpAny_callSpecial?_slot (name:=Str.ofString "__setitem__") hl.typeIs slot_list_setitem
  (FV slot_list_setitem hl.typeIs entry_list_setitem ?_ (args_list_setitem _ _ _)))
 show wpAny _ _ (Builtin.List.listSubscript? (.int k t) >>= _) _ _ s;refine aK (wpAny_listSubscript_int (fitsIndex_of h0 hfit) ?_);clear hfit;obtain⟨j,rfl⟩:=Int.eq_ofNat_of_zero_le h0;have hj:j<items.size:=by omega
 have hx':items[j]? = some items[j]:=GT hj;show wpAny _ _ ((seqItemAt l j >>= λr=>pure (r.map (j,·))) >>= _) _ _ s;refine aK (aK (wpAny_seqItemAt ho rfl (aW ?_)));rw[hx'];show wpAny _ _ (setSeqItemAt l j v >>= _) _ _ s;refine aK (wpAny_setSeqItemAt ho rfl ?_);first
  | exact aK (aW (aW ⟨.none,rfl,aW hQ⟩))
  | exact aW ⟨.none,rfl,aW hQ⟩
def jS (to ti tv:TE):TS:=λD σ H=>tv σ H λy H1=>to σ H1 λx H2=>ti σ H2 λk H3=>∃l xs i,x=.ref l/\k=.int i/\H3 l=some (.lst xs)/\0<=i/\i<xs.length/\D.nx σ (upd H3 l (.lst (xs.set i.toNat y)))
def Bk (ho:PE X o to)(hi:PE X i ti)(hv:PE X value tv)(hs:swapsWith value (some (.Subscript o i pos')) pos.line X.env=pure false):PS X (.Assign [.Subscript o i pos'] value pos) (jS to ti tv):=by
 intro pins s σ H D I h;refine wpAny_Assign_Subscript (aV (hv pins s σ H _ I h) λu s1 ⟨y,H1,I1,ry,q⟩=>aV (ho pins s1 σ H1 _ I1 q) λov s2 ⟨x,H2,I2,rx,q2⟩=>aV (hi pins s2 σ H2 _ I2 q2) λiv s3 hZz=>?_) hs;obtain⟨k,H3,I3,rk,l,xs,j,ex,ek,hH,j0,j1,qn⟩:=hZz;subst ex ek;cases rx;obtain⟨t,rfl⟩:=(show ∃t,iv=Value.int j t from rk)
 obtain⟨z,its,n,r,hl,e⟩:=I3.lstM hH;have hz:(xs.length:Int)<=16777216:=by
  have:=z;rw[sizeLine_eq] at this;omega
 refine EK e j0 (by omega) (by rw[Fh]; omega) ?_;exact⟨σ,_,I3.lset (its':=its.set j.toNat u) (t':=s3.toks) hH e (by simp) (Vals.set ry j.toNat r) (by rw[FD]; exact z),qn⟩
end
section
variable {X:Cx}
def wI {prog:Program}{w:World}{A:Around}{E:Value->Shared->Prop}{s:Shared}{t sl:Addr}{items:az}{vl vu:Value}{lo hi:Option Int}{Q:Value->Shared->Prop}(ht:IsTup s.heap t items)(hs:s.heap.IsSliceOf sl vl vu .none)(pl:IsPart vl lo)(pu:IsPart vu hi)
  (hw:HT.sIx items.size 0 lo=0/\HT.sIx items.size items.size hi=items.size)(h:Q (.ref t) s):wpAny (model prog w) A (getItem (.ref t) (.ref sl)) Q E s:=by
 obtain⟨os,hos,hcs,hds⟩:=id hs;have hTs:s.TypeIs (.ref sl) "slice":=⟨os,hos,hcs⟩
 unfold getItem;try with_reducible refine Gv ?_
 first | refine aK (aW ?_) | skip
 refine aK (wpAny_sequenceKey ht.typeIs (by decide) ?_);refine aK (wpAny_callSpecial?_slot (name:=Str.ofString "__getitem__") ht.typeIs FG
  (FV FG ht.typeIs entry_tuple_getitem ?_ (args_tuple_getitem _ _)))
 show wpAny _ _ (Builtin.Tuple.tupleItemsOf (.ref t) >>= _) _ _ s;refine aK (tupleItemsOf_ ht ?_);refine aK (wpAny_typeOf hTs ?_);rw[if_pos (by decide)];refine aK (HT.sliceApplied_gen hs pl pu ?_);have hyes:(((HT.sIx items.size 0 lo:Nat):Int) == 0&&(1:Int) == 1&&(HT.sIx items.size items.size hi - HT.sIx items.size 0 lo) == items.size)=true:=by
  rw[hw.1,hw.2]; simp
 show wpAny _ _ (if (((HT.sIx items.size 0 lo:Nat):Int) == 0&&(1:Int) == 1&&(HT.sIx items.size items.size hi - HT.sIx items.size 0 lo) == items.size)=true then _ else _) _ _ s;rw[if_pos hyes];unfold Builtin.Tuple.tupleIsExact;refine aK (aK (wpAny_typeOf ht.typeIs (aW ?_)));rw[if_pos (by decide)];refine aK (wpAny_rule (aK (aW (aW ⟨_,rfl,aW h⟩))))
def lv (K:be):V->Option Int->Option Int->Hp->VK->Prop:=λx lo hi H Q=>∃a xs,x=.ref a/\SqT K H a xs /\
 (HT.sIx xs.length 0 lo=0/\HT.sIx xs.length xs.length hi=xs.length->Q (.ref a) H) /\
 (¬(HT.sIx xs.length 0 lo=0/\HT.sIx xs.length xs.length hi=xs.length)->∀p,H p=none->Q (.ref p) (upd H p (.tup (dB xs lo hi))))
def yC:mo X (lv X.K):=by
 intro pins s σ H x v vl vu lo hi sl Q I rx hs pl pu h;obtain⟨a,xs,rfl,hx,q1,q2⟩:=h;by_cases hw:HT.sIx xs.length 0 lo=0/\HT.sIx xs.length xs.length hi=xs.length
 .cases rx;obtain⟨its,r,ht,hz⟩:=I.tuple hx;have hlen:its.toArray.size=xs.length:=by rw[Fh]; exact r.length.symm
  refine⟨"tuple",_,FG.lookup,ht.typeIs,?_⟩;exact wI ht hs pl pu (by rw[hlen]; exact hw) ⟨.ref a,H,I,rfl,q1 hw⟩
 .exact Df pins s σ H _ v vl vu lo hi sl Q I rx hs pl pu ⟨a,xs,rfl,hx,hw,q2 hw⟩
def CH:fillsNumberSlot (.type "tuple") "mul" = pure false:=
 PySem.fillsNumberSlot_seq (id := "tuple.__mul__") (r:=some (.builtin "tuple.__rmul__")) GA.lookup (by decide +kernel) PySem.F.slot_tuple_rmul.lookup (by decide +kernel)
def zm:seqRepeat? (.type "tuple")=pure (some (.builtin "tuple.__mul__")):=by
 unfold seqRepeat?;rw[PySem.seqSlot_of (T := "tuple") (name := "__mul__") (id := "tuple.__mul__") GA.lookup (by decide +kernel),PySem.seqSlot_of (T := "tuple") (name := "__rmul__") (id := "tuple.__rmul__") PySem.F.slot_tuple_rmul.lookup (by decide +kernel)];rfl
def xk (a:Int)(t:Tok)(l:Addr)(items:az)(n:Nat)(dd:aB)(sl:Array ay) :
  Meets (Builtin.«int.__rmul__» ⟨[.int a t,.ref l],[]⟩) (λ_ R s=>s.heap.get? l=some { cls:=.type "tuple",dict:=dd,data:=.seq items n,slots:=sl }/\R (.ok (.ret Value.notImplemented)) s):=
 .of_wp λprog w A R s h=>by obtain⟨hp,g,d,tk,os⟩:=s; obtain⟨hl,h⟩:=h; wp_walk; exact⟨_,rfl,h⟩
def Al (l:Addr)(items:az)(n:Nat)(dd:aB)(sl:Array ay)(u:Tok) :
  Meets (Builtin.«tuple.__mul__» ⟨[.ref l,.int 1 u],[]⟩) (λ_ R s=>s.heap.get? l=some { cls:=.type "tuple",dict:=dd,data:=.seq items n,slots:=sl }/\R (.ok (.ret (.ref l))) s):=
 .of_wp λprog w A R s h=>by
  obtain⟨hp,g,d,tk,os⟩:=s; obtain⟨hl,h⟩:=h;wp_walk using F5 hl
  exact⟨_,rfl,h⟩
def DB (l:Addr)(items:az)(n:Nat)(dd:aB)(sl:Array ay)(x:Int)(u:Tok)(h0:¬(x < -(2 ^ 63)||x ≥ 2 ^ 63)=true)(h1:¬(items.isEmpty||x == 1)=true)(h2:¬(x<=0||items.isEmpty)=true)
  (h3:¬items.size * x > (2 ^ 63 - 1) / 8)(h4:¬Builtin.Tuple.tupleTooMany (items.size * x)=true)(h5:(List.foldl (·++·) #[] (List.replicate x.toNat items)).size<=sizeLine) :
  Meets (Builtin.«tuple.__mul__» ⟨[.ref l,.int x u],[]⟩) (λ_ R s=>s.heap.get? l=some { cls:=.type "tuple",dict:=dd,data:=.seq items n,slots:=sl }/\R (.ok (.ret (.ref s.heap.objs.size))) { s with heap:=s.heap.push { cls:=.type "tuple",data:=.seq (List.foldl (·++·) #[] (List.replicate x.toNat items)) } }):=
 .of_wp λprog w A R s h=>by
  obtain⟨hp,g,d,tk,os⟩:=s; obtain⟨hl,h⟩:=h;wp_walk using F5 hl
  rw[if_neg h0];refine aK (tupleItemsOf_ (t:=l) (items:=items) ⟨_,hl,rfl,n,rfl⟩ ?_);dsimp only;rw[if_neg h1,if_neg h2,if_neg h3,if_neg h4];wp_walk
  exact⟨_,rfl,h⟩
def mx (K:be):R2:=λx y H Q=>∃a k xs,x=.ref a/\y=.int k/\SqT K H a xs/\xs≠[]/\1<=k/\k<=1000/\xs.length * k.toNat<=sizeLine /\
 (k=1->Q (.ref a) H)/\(k≠1->∀p,H p=none->Q (.ref p) (upd H p (.tup (List.replicate k.toNat xs).flatten)))
def Bx:OpR X (binaryOp .Mult) (mx X.K):=by
 intro pins s σ H x y v u Q I rx ry h;obtain⟨a,k,xs,rfl,rfl,hx,hne,k1,k2,hz,q1,q2⟩:=h;cases rx;obtain⟨t,rfl⟩:=ry;obtain⟨its,r,⟨⟨cls,dd,data,sl⟩,ho,hc,n,hd⟩,hz0⟩:=I.tuple hx;simp only at hc hd;subst hc hd;have hl:=r.length;have hne':its≠[]:=by
  intro e;subst e;exact hne (Gw.mp hl)
 have em:its.toArray.isEmpty=false:=by cases its with | nil=>exact absurd rfl hne' | cons=>rfl
 refine wpAny_binaryOp_repeat_ref (T := "tuple") (U := "int") (by decide) ⟨_,ho,rfl⟩ (λs'=>typeIs_int s' k t) CH PySem.F.fills_int_mul PySem.F.slot_int_rmul zm PySem.F.slot_int_index.lookup
  (GO PySem.F.slot_int_rmul (typeIs_int s k t) PySem.F.entry_int_rmul (PySem.F.args_int_rmul_2 _ _) (xk k t a its.toArray n dd sl) ⟨ho,rfl,⟨_,ho,rfl⟩,?_⟩)
 by_cases hk:k=1
 .subst hk;exact GO GA ⟨_,ho,rfl⟩ PySem.F.entry_tuple_mul (PySem.F.args_tuple_mul_2 _ _) (Al a its.toArray n dd sl t) ⟨ho,⟨.ref a,H,I,rfl,q1 rfl⟩⟩
 .have f0:List.foldl (λx1 x2=>x1++x2) #[] (List.replicate k.toNat its.toArray)=(List.replicate k.toNat its).flatten.toArray:=by
   have:=rE its k.toNat [];rw[List.nil_append] at this;exact this
  have sz:(its.length:Int) * k<=sizeLine:=by
   have:((its.length * k.toNat:Nat):Int)<=(sizeLine:Nat):=by rw[<-hl]; exact_mod_cast hz
   rw[Int.natCast_mul,Ht (by omega)] at this;exact this
  refine GO GA ⟨_,ho,rfl⟩ PySem.F.entry_tuple_mul (PySem.F.args_tuple_mul_2 _ _)
   (DB a its.toArray n dd sl k t (by simp; omega) (by rw[em]; simpa using hk) (by rw[em]; simp; omega) ?_ ?_ ?_) ⟨ho,?_⟩
  .have:((sizeLine:Nat):Int)<=(2 ^ 63 - 1) / 8:=by decide
   rw[Fh];omega
  .rw[Fh];unfold Builtin.Tuple.tupleTooMany;simp only[Fx];omega
  .rw[f0,Fh,qR,Nat.mul_comm,<-hl]; exact hz
  .rw[f0];refine⟨.ref _,_,I.laid (t':=s.toks) (o:=.tup (List.replicate k.toNat xs).flatten) (λb ob q=>bV _ q) (bu _) ?_,rfl,q2 hk _ (I.hok.fresh (bu _))⟩;exact⟨by rw[qR,Nat.mul_comm]; exact hz,_,r.rep k.toNat,TupN.new _ _⟩
end
section
variable {prog:Program}{w:World}{A:Around}{E:Value->Shared->Prop}{s:Shared}{it t:Addr}{i:Nat}{items:az}
def sV (hit:s.heap.IsTupleIter it t i)
  (h:wpAny (model prog w) A.in1 (Builtin.«tuple_iterator.__next__» ⟨[.ref it],[]⟩) (λfin s'=>∃v,fin=.done (.ret v)/\Q v s') E s):wpAny (model prog w) A (Builtin.SmallTypes.nextOf (.ref it)) Q E s:=by
 unfold Builtin.SmallTypes.nextOf;refine aK (wpAny_callSpecial?_slot (name:=Str.ofString "__next__") hit.typeIs Ha (FV Ha hit.typeIs PySem.F.entry_tuple_iterator_next ?_ (PySem.F.args_tuple_iterator_next_1 _)));refine F9 h (λfin s' ⟨v,e,q⟩=>⟨v,e,aW q⟩) λ_ _ e=>e
def Fa (hit:s.heap.IsTupleIter it t i)(ht:s.heap.IsTuple t items)(hx:items[i]? = some x)(hQ:∀h',h'.IsTupleIter it t (i+1)->Heap.SameBut it s.heap h'->Q x { s with heap:=h' }):wpAny (model prog w) A (Builtin.SmallTypes.nextOf (.ref it)) Q E s:=by
 refine sV hit ?_;obtain⟨o,ho,hc,hd⟩:=id hit;obtain⟨ol,hol,_,nl,hdl⟩:=ht;show wpAny _ _ (field (.ref it) 0 >>= _) _ _ s;refine aK (Gq ho hd (x:=.ref t) rfl ?_);show wpAny _ _ (if (Value.ref t == Value.none)=true then _ else _) _ _ s;rw[if_neg (show ¬((Value.ref t == Value.none)=true) from Fy)];show wpAny _ _ (field (.ref it) 1 >>= _) _ _ s;refine aK (Gq ho hd (x:=.int i 0) rfl ?_);show wpAny _ _ (seqItems? (.ref t) >>= _) _ _ s;refine aK (wpAny_seqItems hol hdl ?_);simp only[Int.toNat_natCast,hx];refine aK (Hy ho hd (by simp) (aW ⟨x,rfl,hQ _ ?_ (Gc ..)⟩));exact⟨_,Gi _ ho (Hi (Hz hd _)),(Obj.cls_mapFields ..).trans hc,by rw[Hz hd]; simp[rawInt]⟩
def sf (hh:A.handled=none)(hit:s.heap.IsTupleIter it t i)(ht:s.heap.IsTuple t items)(hx:items[i]? = none)
  (hE:∀h' e,Heap.ExtBut it s.heap h'->(∃o,h'.get? e=some o/\o.cls=.type "StopIteration")->E (.ref e) { s with heap:=h' }):wpAny (model prog w) A (Builtin.SmallTypes.nextOf (.ref it)) Q E s:=by
 refine sV hit ?_;obtain⟨o,ho,hc,hd⟩:=id hit;obtain⟨ol,hol,_,nl,hdl⟩:=ht;show wpAny _ _ (field (.ref it) 0 >>= _) _ _ s;refine aK (Gq ho hd (x:=.ref t) rfl ?_);show wpAny _ _ (if (Value.ref t == Value.none)=true then _ else _) _ _ s;rw[if_neg (show ¬((Value.ref t == Value.none)=true) from Fy)];show wpAny _ _ (field (.ref it) 1 >>= _) _ _ s;refine aK (Gq ho hd (x:=.int i 0) rfl ?_);show wpAny _ _ (seqItems? (.ref t) >>= _) _ _ s;refine aK (wpAny_seqItems hol hdl ?_);simp only[Int.toNat_natCast,hx];refine aK (wpAny_rule (aK (Hy ho hd (by simp) ?_)));show wpAny _ _ (newExc (.type "StopIteration") [] >>= _) _ _ _;refine aK ?_;simp only[newExc,newTuple];refine aK (FE ?_ (by size_fits));refine aK (m:=firstArgMember _ _) (wpAny_of_eq (a:=Value.none) (by first | rfl | (simp only[firstArgMember]; rfl)) ?_);refine FE ?_ (by size_fits);simp only[raiseNew];refine aK (wpAny_handled ?_);rw[show A.in1.handled=none from hh];exact aK (aW (wpAny_throw (hE _ _ (((Gc ..).extBut.push _).push _) ⟨_,c6 _ rfl,rfl⟩)))
def jX (hh:A.handled=none)(it t:Addr)(hne:t≠it)(items:az) :
  Draws prog w A it [it,t] items.size (λi v=>items[i]? = some v) (λi h=>h.IsTupleIter it t i/\h.IsTuple t items) where
 live:=λ_ _ st=>let ⟨o,ho,_⟩:=st.1; ⟨o,ho⟩
 frame:=λ_ _ _ st hk=>⟨st.1.at λo e=>hk it (by simp) o e,let ⟨o,ho,r⟩:=st.2; ⟨o,hk t (by simp) o ho,r⟩⟩
 item:=λi s Q E hi st hQ=>Fa st.1 st.2 (x:=items[i]) (by simp[hi]) λh' a b=>hQ _ h' s.toks (by simp[hi]) ⟨a,let ⟨o,ho,r⟩:=st.2; ⟨o,(b.2 t hne).trans ho,r⟩⟩ b
 done:=λs Q E st hE=>sf hh st.1 st.2 (by simp) hE
def Cw (hh:A.handled=none)(it t:Addr)(items:az)(n:Nat)(hx:items[n]? = none) :
  Draws prog w A it [it,t] n (λ_ _=>False) (λk h=>k=n/\h.IsTupleIter it t n/\h.IsTuple t items) where
 live:=λ_ _ st=>let ⟨o,ho,_⟩:=st.2.1; ⟨o,ho⟩
 frame:=λ_ _ _ st hk=>⟨st.1,st.2.1.at λo e=>hk it (by simp) o e,let ⟨o,ho,r⟩:=st.2.2; ⟨o,hk t (by simp) o ho,r⟩⟩
 item:=λi s Q E hi st hQ=>absurd hi (by rw[st.1]; exact Ge _)
 done:=λs Q E st hE=>sf hh st.2.1 st.2.2 hx hE
def Ew (l:Addr)(items:az)(n:Nat)(dct:aB)(sl:Array ay) :
  Meets (Builtin.«enumerate.__new__» ⟨[.type "enumerate",.ref l],[]⟩) (λ_ R s=>s.heap.get? l=some { cls:=.type "tuple",dict:=dct,data:=.seq items n,slots:=sl } /\
   R (.ok (.ret (.ref (s.heap.push { cls:=.type "tuple_iterator",data:=.fields #[.ref l,.int 0 0] }).objs.size)))
    { s with heap:=(s.heap.push { cls:=.type "tuple_iterator",data:=.fields #[.ref l,.int 0 0] }).push { cls:=.type "enumerate",data:=.fields #[.none,.bool false,.ref s.heap.objs.size,rawInt 0,.none,.none] } }):=
 .of_wp λprog w A R s h=>by
  obtain⟨hp,g,d,tk,os⟩:=s; obtain⟨hl,h⟩:=h;have hsub:=sub_enumerate;have hT:Heap.IsTuple (Shared.heap ⟨hp,g,d,tk,os⟩) l items:=⟨_,hl,rfl,n,rfl⟩
  wp_walk using F5 hl
  refine wpAny_stack_any λst=>aW ?_;split
  .rename_i c _ _ _ _ _;cases (c == Value.type "enumerate") <;> (wp_walk using F5 hl,Hw hT; exact⟨_,rfl,h⟩)
  .wp_walk using F5 hl,Hw hT
   exact⟨_,rfl,h⟩
def yE (hL:s.heap.IsTuple l items)
  (h:∀h',IsEnum h' (s.heap.objs.size+1) s.heap.objs.size 0 .none->h'.IsTupleIter s.heap.objs.size l 0->(∀b o,s.heap.get? b=some o->h'.get? b=some o)->Q (.ref (s.heap.objs.size+1)) { s with heap:=h' }) :
  wpAny (model prog w) A (call (.type "enumerate") [.ref l]) Q E s:=by
 obtain⟨⟨c,dct,dt,sl⟩,hl,hc,n,hd⟩:=hL;have hc':c=.type "tuple":=hc;have hd':dt=.seq items n:=hd;subst hc' hd';refine callType_new PySem.F.called_enumerate (by decide) (PySem.F.typeCall_enumerate_1 _) (PySem.F.newCall_enumerate_1 _) (λobj=>PySem.F.args_object_init_2 obj _) PySem.F.entry_enumerate_new (Ew l items n dct sl) ⟨hl,?_⟩;have hz:(s.heap.push { cls:=.type "tuple_iterator",data:=.fields #[.ref l,.int 0 0] }).objs.size=s.heap.objs.size+1:=Fz ..;show _/\_;rw[hz];have he:=c6 (s.heap.push { cls:=.type "tuple_iterator",data:=.fields #[.ref l,.int 0 0] }) (o:={ cls:=.type "enumerate",data:=.fields #[.none,.bool false,.ref s.heap.objs.size,rawInt 0,.none,.none] }) rfl;rw[hz] at he;exact⟨⟨_,he,rfl⟩,h _ he ⟨_,bV _ (c6 _ rfl),rfl,rfl⟩ λb o x=>bV _ (bV _ x)⟩
end
noncomputable def jx (K:be)(a:Addr):It:=
 ⟨λi H=>∃xs x,SqT K H a xs/\xs[i]? = some x,λi H v H'=>∃x p,v=.ref p/\H p=none/\H'=upd H p (.tup [.int i,x])/\∀xs,SqT K H a xs->xs[i]? = some x,λi H=>∃xs,SqT K H a xs/\xs.length<=i⟩
def gJ (e it l:Addr)(i:Nat)(h:Heap):Prop:=(∃old,IsEnum h e it i old)/\h.IsTupleIter it l i
def Ch {P:Program}{w:World}{K:be}{es:aq}{k1:Nat}{ps:Pos}(l e it:Addr):Turn P w K (.Tuple es k1 ps) (jx K l) [e,it] e (gJ e it l) where
 mem:=by simp
 obj:=λi h t b hb=>by
  obtain⟨⟨old,te⟩,⟨o1,e1,_,d1⟩⟩:=t;simp only[Fu,Ft,or_false] at hb;rcases hb with rfl | rfl
  .exact⟨_,te,(λv q=>nomatch q)⟩
  .exact⟨o1,e1,λv q=>by rw[d1] at q; cases q⟩
 keep:=λi h h' t k=>by
  obtain⟨⟨old,te⟩,t1⟩:=t;exact⟨⟨old,k e (by simp) _ te⟩,t1.at λo q=>k it (by simp) o q⟩
 item:=by
  intro X hP hw hK hc i pins s σ H E I hf st hg;subst hP hw hK;obtain⟨xs,x,hx,ex⟩:=hg;obtain⟨its,rv,p,hz⟩:=I.tuple hx;obtain⟨u,hu,ru⟩:=rv.get ex;obtain⟨⟨old,te⟩,t1⟩:=st;have hl:=rv.length;have hi:i<its.toArray.size:=by
   have:=(de hu).1;simpa using this
  have ne:e≠it:=by
   obtain⟨o1,e1,c1,_⟩:=t1;exact kh "enumerate" "tuple_iterator" te e1 rfl c1 (by decide)
  have nl:l≠it:=by
   obtain⟨o1,e1,c1,_⟩:=t1;obtain⟨o2,e2,c2,_⟩:=p;exact kh "tuple" "tuple_iterator" e2 e1 c2 c1 (by decide)
  have nel:e≠l:=by
   obtain⟨o2,e2,c2,_⟩:=p;exact kh "enumerate" "tuple" te e2 rfl c2 (by decide)
  refine wpAny_pyNext_enum_itemD (jX (A:=X.A.in1) (by exact I.ok.hd hc) it l nl its.toArray) te (show s.heap.IsTupleIter it l i/\s.heap.IsTuple l its.toArray from ⟨t1,p⟩) hi ne (by simp; exact⟨ne,nel⟩) λy h' tk hy z1 z2 z3 z4 z5=>?_;have ey:y=u:=by
   have hu':its.toArray[i]? = some u:=by simpa using hu
   rw[hu'] at hy;exact (cK hy).symm
  subst ey;refine⟨_,rfl,?_⟩;refine wpAny_letOwnedTupleGo_enum (s:={ s with heap:=h',toks:=tk+1 }) z1 λh2 z1' sb=>?_;have kk:∀b o,b∉[e,it]->s.heap.get? b=some o->h2.get? b=some o:=λb o nb q=>by
   simp only[Fu,Ft,or_false,not_or] at nb;exact (sb.2 b nb.1).trans (z5 b o nb.1 nb.2 q)
  have le:e<s.heap.objs.size:=bM te;have gT:h2.get? s.heap.objs.size=some { cls:=.type "tuple",data:=.seq #[.int i tk,y] }:=(sb.2 _ (Gp le)).trans z3;refine⟨.ref s.heap.objs.size,upd H s.heap.objs.size (.tup [.int i,x]),I.turnedN (t':=tk+1) hf kk (bu _) ⟨by show 2<=sizeLine; decide,[.int i tk,y],.cons ⟨_,rfl⟩ (.cons ru .nil),_,gT,rfl,⟨_,rfl⟩,rfl⟩,rfl,
   ⟨x,_,rfl,I.hok.fresh (bu _),rfl,λzs hq=>by rw[I.tuple_inj hq hx]; exact ex⟩,⟨⟨y,by simpa using z1'⟩,z2.1.at λo q=>(sb.2 it (GR ne)).trans q⟩,λb hb=>?_⟩
  obtain⟨o,q,_⟩:∃o,s.heap.get? b=some o/\True:=by
   simp only[Fu,Ft,or_false] at hb;obtain⟨o1,e1,_,d1⟩:=t1;rcases hb with rfl | rfl
   .exact⟨_,te,trivial⟩
   .exact⟨o1,e1,trivial⟩
  rw[bT (GP (Heap.lt_size q))];exact (hf b hb).1
 done:=by
  intro X hP hw hK hc i pins s σ H E I hf st hg;subst hP hw hK;obtain⟨xs,hx,hend⟩:=hg;obtain⟨its,rv,p,hz⟩:=I.tuple hx;obtain⟨⟨old,te⟩,t1⟩:=st;have hl:=rv.length;have nl:l≠it:=by
   obtain⟨o1,e1,c1,_⟩:=t1;obtain⟨o2,e2,c2,_⟩:=p;exact kh "tuple" "tuple_iterator" e2 e1 c2 c1 (by decide)
  refine wpAny_pyNext_enum_endD (Cw (A:=X.A.in1) (by exact I.ok.hd hc) it l its.toArray i (by simp; omega)) te ⟨rfl,t1,p⟩ λh' kp=>⟨rfl,I.turnedL (t':=s.toks) hf λb o nb q=>?_⟩
  simp only[Fu,Ft,or_false,not_or] at nb;exact kp b o nb.2 q
 self:=λ_ _ _ _ _ st h=>by
  obtain⟨⟨old,te⟩,_⟩:=st;exact G6 te h
section
variable {X:Cx}{es:aq}{k1:Nat}{tp:Pos}
def zV {a:Expr}{ta:TA}{p pos:Pos}(hg:Gl X "enumerate")(hm:X.mg "enumerate" = none)(hv:bootBuiltins "enumerate" = some (.type "enumerate"))(ha:PA X [a] ta)(hs:starEach [a] X.env=[(false,eval a X.env)]:=by rfl) :
  PI X (.Tuple es k1 tp) (.Call (.Name "enumerate" p) [a] [] pos) (λσ H R=>ta σ H λvs H1=>(∃a xs,vs=[.ref a]/\SqL X.K H1 a xs/\R (qW X.K a) H1)\/∃a xs,vs=[.ref a]/\SqT X.K H1 a xs/\R (jx X.K a) H1):=by
 intro pins s σ H R I h;refine Call_ (gg I hg hm hv (Fw (aV (ha pos pins s σ H _ I h) λus s1 hZz=>?_) hs rfl));obtain⟨vs,H1,I1,r1,q1⟩:=hZz;rcases q1 with ⟨l1,xs,rfl,hx,q⟩ | ⟨l1,xs,rfl,hx,q⟩
 .obtain⟨u,rfl,ru⟩:=vals1 r1;cases ru;obtain⟨its,rx,px,hzx⟩:=I1.list hx;refine call_enumerate_list px.isList λh' z1 z2 z3 z4=>?_;refine G6 (s:={ s1 with heap:=h' }) z1 ⟨_,_,_,_,H1,rfl,I1.kept (t':=s1.toks) z4,zG l1 _ _,⟨⟨_,z1⟩,z2⟩,λb hb=>?_,q⟩;have lb:s1.heap.objs.size<=b:=by
   simp only[Fu,Ft,or_false] at hb;rcases hb with rfl | rfl <;> omega
  exact I1.fpOk lb (I1.hok.fresh lb)
 .obtain⟨u,rfl,ru⟩:=vals1 r1;cases ru;obtain⟨its,rx,px,hzx⟩:=I1.tuple hx;refine yE px λh' z1 z2 z4=>?_;refine G6 (s:={ s1 with heap:=h' }) z1 ⟨_,_,_,_,H1,rfl,I1.kept (t':=s1.toks) z4,Ch l1 _ _,⟨⟨_,z1⟩,z2⟩,λb hb=>?_,q⟩;have lb:s1.heap.objs.size<=b:=by
   simp only[Fu,Ft,or_false] at hb;rcases hb with rfl | rfl <;> omega
  exact I1.fpOk lb (I1.hok.fresh lb)
end
section
variable {X:Cx}
def iS:V->ar->Hp->VK->Prop:=λx vs H Q=>∃a xs y j,x=.ref a/\vs=[y]/\Rd H a (.lst xs)/\flatV y=true/\xs.all flatV=true/\(xs.findIdx? λz=>eqV z y)=some j/\Q (.int (j:Nat)) H
def xq:uK X "list.index" iS:=by
 intro pins s σ H x vs v us Q I rx rv h;obtain⟨a,xs,y,j,rfl,rfl,hx,fy,fs,hf,q⟩:=h;cases rx;cases rv with
 | @cons _ u _ us ry rn=>
 cases rn;obtain⟨hz,its,n,r,ho⟩:=hx.ok I.hok;obtain⟨hj,hp,hq⟩:=FN.mp hf;have len:=r.length;have at':∀i (h1:i<xs.length) (h2:i<its.toArray.size),nP y its.toArray[i]=eqV xs[i] y:=λi h1 h2=>by
  obtain⟨w,e,rw'⟩:=r.get (i:=i) (x:=xs[i]) (by simp[h1]);have e2:its.toArray[i]=w:=by
   have h2':i<its.length:=by simpa using h2
   rw[Fp h2'] at e;simpa using cK e
  rw[e2];exact vR rw' (dI fs _ (FO h1))
 have hj2:j<its.toArray.size:=by rw[Fh]; omega
 have hsm:(j:Int)<2 ^ 63 - 1:=by
  have:sizeLine<2 ^ 62:=by decide
  omega
 refine GO PySem.F.slot_list_index ⟨_,ho,rfl⟩ PySem.F.entry_list_index (PySem.F.args_list_index_2 _ _)
  (PySem.SeqAt.list_indexAt a its.toArray n none #[] u (nP y) j hj2 hsm (by rw[at' j hj hj2]; exact hp) λm hm hl=>?_)
  ⟨ho,λz hz=>uL ry fy r fs z (by simpa using hz),⟨.int (j:Nat),H,I.tok _,⟨_,rfl⟩,q⟩⟩
 have hm':m<xs.length:=by omega
 rw[at' m hm' hm];simpa using hq m hl
noncomputable def isIntV:V->Bool
 | .int _=>true
 | _=>false
noncomputable def jL (i:Int):Value->Bool
 | .int j _=>j == i
 | _=>false
theorem vK:∀{xs:ar} {us:al},Vals xs us->xs.all isIntV=true->∀u∈us,MeetsSeq.EqGives u (.int i t) (jL i u)
 | _,_,.nil,_=>λu hu=>by cases hu
 | y::xs,u::us,.cons r q,f=>λu' hu=>by
  rw[List.all_cons,tw] at f;rcases cZ hu with rfl | hu
  .cases y with
   | int j=>obtain⟨t',rfl⟩:=r; exact MeetsSeq.EqGives.int j i t' t
   | _=>cases f.1
  .exact vK q f.2 u' hu
def fT:V->ar->Hp->VK->Prop:=λx vs H Q=>∃l xs i j,x=.ref l/\vs=[.int i]/\H l=some (.lst xs)/\xs.all isIntV=true/\(xs.findIdx? λz=>eqV z (.int i))=some j/\Q .non (upd H l (.lst (xs.eraseIdx j)))
def tR:oi X "list.remove" fT:=by
 intro pins s σ H x vs v us Q I rx rv h;obtain⟨l,xs,i,j,rfl,rfl,hH,hi,hf,q⟩:=h;cases rx;obtain⟨u,rfl,ru⟩:=Vals.one rv;obtain⟨t,rfl⟩:=ru;obtain⟨z,its,n,r,hl,e⟩:=I.lstM hH;obtain⟨hj,hp,hq⟩:=FN.mp hf;have at':∀m (h1:m<xs.length) (h2:m<its.toArray.size),jL i its.toArray[m]=eqV xs[m] (.int i):=λm h1 h2=>by
  obtain⟨w,e,rw'⟩:=r.get (i:=m) (x:=xs[m]) (by simp[h1]);have e2:its.toArray[m]=w:=by
   have h2':m<its.length:=by simpa using h2
   rw[Fp h2'] at e;simpa using cK e
  rw[e2];have fi:=dI hi _ (FO h1);cases hx:xs[m] with
  | int y=>rw[hx] at rw'; obtain⟨t',rfl⟩:=rw'; rfl
  | _=>rw[hx] at fi; cases fi
 have hj2:j<its.toArray.size:=by rw[Fh]; omega
 refine GO GW ⟨_,e,rfl⟩ PySem.F.entry_list_remove (PySem.F.args_list_remove_2 _ _)
  (MeetsSeq.list_remove l its.toArray n (.int i t) (jL i) (λy hy=>vK r hi y (by simpa using hy)) j hj2 (by rw[at' j hj hj2]; exact hp) (λm hm hl'=>?_) (by rw[Fh]; omega)) ⟨e,?_⟩
 .have hm':m<xs.length:=by rw[Fh] at hm; omega
  rw[at' m hm' hm];simpa using hq m hl'
 .refine⟨.non,_,I.lset (its':=its.eraseIdx j) hH e ?_ (r.eraseIdx j) ?_,rfl,q⟩
  .show its.toArray.eraseIdxIfInBounds j=(its.eraseIdx j).toArray;rw[List.eraseIdxIfInBounds_toArray]
  .have:=tQ xs j;omega
end
section
variable {X:Cx}{tg:Expr}
end
section
variable {X:Cx}
end
end L2
end
section
namespace L2
open PySem PySem.Spec PySem.W PyProof.Rows
def Pm (N:Nat)(p:Array Nat):Prop:=p.Perm (List.toArray (List.range N))
def Pm.rev (h:Pm N p)(i j:Nat):Pm N (kas_rev p i j):=(mirror_perm p i j _).trans h
section
variable {N:Nat}(hN:0<N)
include hN
end
section
variable {prog:Program}{w:World}{A:Around}{E:Value->Shared->Prop}{s:Shared}{a:Addr}{vs:al}{n:Nat}{κ:SortKind}{c:Nat->Nat->Bool}
end
section
variable {X:Cx}
end
end L2
end
section
namespace L2
open PySem PySem.Spec PyProof.Rows
noncomputable def pI (K:be)(a:Addr)(n:Nat):It:=
 ⟨λi H=>i<n/\∃xs x,SqL K H a xs/\xs[n - 1 - i]? = some x,λi H x H'=>H'=H/\∀xs,SqL K H a xs->xs[n - 1 - i]? = some x,λi _=>n<=i⟩
def Cj {P:Program}{w:World}{K:be}{tg:Expr}(a it:Addr)(n:Nat):Turn P w K tg (pI K a n) [it] it (λi h=>h.IsRevIter it a ((n:Int) - 1 - (min i n:Nat))) where
 mem:=by simp
 obj:=λi h st b hb=>by
  have e:b=it:=by simpa using hb
  subst e;obtain⟨o,e,c,d⟩:=st;exact⟨o,e,λv z=>by rw[d] at z; cases z⟩
 keep:=λi h h' st k=>st.at λo e=>k it (by simp) o e
 item:=by
  intro X hP hw hK hc i pins s σ H E I hf st hg;subst hP hw hK;obtain⟨hi,xs,x,hq,hx⟩:=hg;obtain⟨its,rv,p,hz⟩:=I.list hq;obtain⟨u,hu,ru⟩:=rv.get hx;obtain⟨f0,f1,f2,f3,f4,f5⟩:=hf it (by simp);have e0:(n:Int) - 1 - (min i n:Nat)=((n - 1 - i:Nat):Int):=by omega
  rw[e0] at st;refine wpAny_pyNext_rev_item st p.isList (x:=u) (by simpa using hu) λh' st' sb=>?_;have I1:Inv X pins σ H { s with heap:=h' }:=I.turned (t':=s.toks) (λb o hb e=>(sb.2 b hb).trans e) f0 f1 f3 f4 f5;obtain⟨o,e,c,d⟩:=id st';have e2:((n - 1 - i:Nat):Int) - 1=(n:Int) - 1 - (min (i+1) n:Nat):=by omega
  rw[e2] at st';exact⟨u,rfl,nI (s:={ s with heap:=h' }) e c d (by decide) ⟨x,H,I1,ru,⟨rfl,λys hy=>by rw[I.list_inj hy hq]; exact hx⟩,st',λb hb=>(hf b hb).1⟩⟩
 done:=by
  intro X hP hw hK hc i pins s σ H E I hf st hg;subst hP hw hK;obtain⟨f0,f1,f2,f3,f4,f5⟩:=hf it (by simp);have hg':n<=i:=hg;have e0:(n:Int) - 1 - (min i n:Nat) = -1:=by omega
  rw[e0] at st;exact wpAny_pyNext_rev_end (I.ok.hd hc) st λh' eb=>⟨rfl,I.turned (t':=s.toks) (λb o hb e=>eb b o hb e) f0 f1 f3 f4 f5⟩
 self:=λ_ _ _ _ _ st h=>wpAny_pyIter_revIter st h
section
variable {X:Cx}{tg:Expr}
def pZ (K:be)(ta:TA):TI:=λσ H R=>ta σ H λvs H1=>∃a xs,vs=[.ref a]/\SqL K H1 a xs/\R (pI K a xs.length) H1
def zF {a:Expr}{ta:TA}{p pos:Pos}(hg:Gl X "reversed")(hm:X.mg "reversed" = none)(hv:bootBuiltins "reversed" = some (.type "reversed"))(ha:PA X [a] ta)(hs:starEach [a] X.env=[(false,eval a X.env)]:=by rfl) :
  PI X tg (.Call (.Name "reversed" p) [a] [] pos) (pZ X.K ta):=by
 intro pins s σ H R I h;refine Call_ (gg I hg hm hv (Fw (aV (ha pos pins s σ H _ I h) λus s1 hZz=>?_) hs rfl));obtain⟨vs,H1,I1,r1,q1⟩:=hZz;obtain⟨l,xs,rfl,hx,q⟩:=q1;obtain⟨u,rfl,ru⟩:=vals1 r1;cases ru;obtain⟨its,rx,px,hzx⟩:=I1.list hx;have el:=rx.length;refine call_reversed_list px.isList ?_;have g:(s1.heap.push (revObj l ((its.toArray.size:Int) - 1))).IsRevIter s1.heap.objs.size l ((xs.length:Int) - 1 - (min 0 xs.length:Nat)):=by
  have e0:(xs.length:Int) - 1 - (min 0 xs.length:Nat)=(its.toArray.size:Int) - 1:=by simp; omega
  rw[e0];exact⟨_,c6 _ rfl,rfl,rfl⟩
 refine wpAny_pyIter_revIter (s:={ s1 with heap:=s1.heap.push (revObj l ((its.toArray.size:Int) - 1)) }) g ⟨s1.heap.objs.size,[s1.heap.objs.size],_,_,H1,rfl,I1.kept (t':=s1.toks) λb o e=>bV _ e,Cj l _ xs.length,g,λb hb=>?_,q⟩;have:b=s1.heap.objs.size:=by simpa using hb
 subst this;exact I1.fpOk (bu _) (I1.hok.fresh (bu _))
end
end L2
end
section
namespace L2
open PySem PySem.Spec PySem.W PyProof.Rows
section
variable {X:Cx}
def lc (K:be)(n:Nat)(t:jo):TG:=λv σ H Q=>∃a xs,v=.ref a/\SqL K H a xs/\xs.length=n/\t xs σ H Q
def Do (hc:X.calm=true)(h:kN X es t)(hn:(assignEach es X.env).length=n)(hst:(assignEach es X.env).findIdx? (·.1)=none):PG X (.Tuple es k pos) (lc X.K n t):=by
 intro pins s σ H v u Q I r hw;obtain⟨a,xs,e1,hq,hl,hw⟩:=hw;subst e1;cases r;obtain⟨its,rv,ht,hz⟩:=I.list hq;have ln:=rv.length;show wpAny _ _ (do standAt pos; unpack (.ref a) (assignEach es X.env)) _ _ s;refine aK (wpAny_standAt (aK (Gv ?_)));rw[hst,hn,<-hl,ln,<-show its.toArray.size=its.length by simp];refine kun_itemsOf (I.ok.hd hc) ht.isList λh' hx=>?_;have I1:Inv X pins σ H { s with heap:=h' }:=I.kept (t':=s.toks) λb o e=>hx b o (dr (bM e)) e;exact h pins _ σ H xs _ Q I1 (by simpa using rv) hw
end
theorem tZ:∀{ns:aj} {us:al},Vals (ns.map .int) us->IntsAre us ns
 | [],_,.nil=>.nil
 | _::_,_,.cons ⟨_,rfl⟩ r=>.cons _ _ (tZ r)
def yw {us:al}{ns:aj}(h:IntsAre us ns):Vals (ns.map .int) us:=by
 induction h with
 | nil=>exact .nil
 | cons i t _ ih=>exact .cons ⟨_,rfl⟩ ih
def zY {X:Cx}:CallR X (.builtin "sorted") (λxs H Q=>∃(a:Addr) (ns:List Int),xs=[.ref a]/\SqL X.K H a (ns.map .int)/\ns.length<64/\∀ns':List Int,ns'.Perm ns->ns'.Pairwise (·<=·)->∀p,H p=none->Q (.ref p) (upd H p (.lst (ns'.map .int)))):=by
 rintro pins s σ H xs us Q I rs ⟨a,ns,e,hS,hz,q⟩;subst e;obtain⟨u,rfl,ru⟩:=rs.one;cases ru;obtain⟨its,rv,pl,hlen⟩:=I.list hS;have el:=rv.length;rw[Fj] at el hlen;refine sorted_ints pl.isList (tZ rv) (by omega) λout ns' a1 a2 a3=>?_;obtain⟨e,he⟩:=sortedAll_at s.heap its out;refine⟨.ref _,upd H (s.heap.objs.size+1) (.lst (ns'.map .int)),I.laid (t':=s.toks) (λ_ _=>sortedAll_old) (F0 _) ⟨?_,out.toList,e,yw a1,he⟩,rfl,q ns' a2 a3 _ (I.hok.fresh (F0 _))⟩;rw[Fj,a2.length_eq]; exact hlen
end L2
end
section
namespace Ip
open PySem (Str)
noncomputable section
inductive D where
 | non | bl (b:Bool) | int (i:Int) | str (s:Str)
 | lst (xs:List D) | tup (xs:List D)
 | ins (c:Nat) (fs:List (Nat×D))
 deriving Inhabited
abbrev _root_.aF:=List (Nat×D)
abbrev _root_.av:=List D
mutual
@[simp] noncomputable def D.flat:D->Bool
 | .lst _=>false
 | .tup xs=>D.flats xs
 | .ins _ _=>false
 | _=>true
@[simp] noncomputable def D.flats:av->Bool
 | []=>true
 | d::ds=>d.flat&&D.flats ds
end
theorem mD:∀xs:av,D.flats xs=xs.all D.flat
 | []=>by rw[D.flats]; rfl
 | d::ds=>by rw[D.flats,mD ds]; rfl
@[simp] noncomputable def D.fb:Nat->D->Bool
 | 0,d=>d.flat
 | k+1,.lst xs=>xs.all (D.fb k)
 | k+1,.tup xs=>xs.all (D.fb k)
 | k+1,.ins _ fs=>fs.all λp=>D.fb k p.2
 | _+1,_=>true
noncomputable def D.pur:Nat->D->Bool
 | 0,.lst _=>false
 | 0,.tup _=>false
 | n+1,.lst xs=>xs.all (D.pur n)
 | n+1,.tup xs=>xs.all (D.pur n)
 | _,.ins _ _=>false
 | _,.str s=>s.cps.all (·<1114112)
 | _,_=>true
@[simp] theorem pur_non (n:Nat):D.pur n .non=true:=by cases n <;> rfl
@[simp] theorem pur_bl (n:Nat)(b:Bool):D.pur n (.bl b)=true:=by cases n <;> rfl
@[simp] theorem Cz (n:Nat)(i:Int):D.pur n (.int i)=true:=by cases n <;> rfl
@[simp] theorem eH (n:Nat)(s:Str):D.pur n (.str s)=s.cps.all (·<1114112):=by cases n <;> rfl
@[simp] theorem pur_lst (n:Nat)(xs:av):D.pur (n+1) (.lst xs)=xs.all (D.pur n):=rfl
@[simp] theorem pur_tup (n:Nat)(xs:av):D.pur (n+1) (.tup xs)=xs.all (D.pur n):=rfl
@[simp] theorem pur_ints (n:Nat)(xs:aj):(xs.map D.int).all (D.pur n)=true:=by simp
noncomputable abbrev D.pures (xs:av):Bool:=xs.all (D.pur 60)
@[simp] noncomputable def D.scal:D->Bool
 | .non=>true | .bl _=>true | .int _=>true | .str _=>true
 | _=>false
mutual
noncomputable def D.eq:D->D->Bool
 | .non,.non=>true
 | .int i,.int j=>decide (i=j)
 | .int i,.bl b=>decide (i=if b then 1 else 0)
 | .bl b,.int i=>decide ((if b then 1 else 0)=i)
 | .bl b,.bl c=>decide (b=c)
 | .str s,.str t=>decide (s=t)
 | .lst xs,.lst ys=>D.eqs xs ys
 | .tup xs,.tup ys=>D.eqs xs ys
 | _,_=>false
noncomputable def D.eqs:av->av->Bool
 | [],[]=>true
 | x::xs,y::ys=>x.eq y&&D.eqs xs ys
 | _,_=>false
end
inductive R (α:Type) where
 | ok (a:α)
 | bad
@[simp,reducible] noncomputable def R.bind {α β:Type}(r:R α)(f:α->R β):R β:=match r with
 | .ok a=>f a
 | .bad=>.bad
noncomputable abbrev KD:=Nat×D
abbrev _root_.ax:=Option KD
abbrev _root_.au:=List KD
noncomputable def ba (j:Nat)(x:KD):Bool:=x.2.flat||(x.1 == j||(D.fb j x.2&&D.fb x.1 x.2))
noncomputable def aL (xs:au):Nat:=match xs.find? λx=>!x.2.flat with
 | none=>98
 | some x=>if xs.all (ba x.1) then x.1 else 0
noncomputable def dh (k:Nat)(xs:av)(v:KD):Nat:=if ba k v then k else if xs.all (λd=>ba v.1 (k,d)) then v.1 else 0
noncomputable abbrev SL:Nat:=1000000
inductive Ty where
 | int | bool | str | list | tuple | dict | verr | cls (c:Nat)
inductive Op where
 | add | sub | mul | fdiv | mod | pow | shr | neg | not
 | eq | ne | lt | le | gt | ge | isN | notN | isin | nin
 | lst | tup | ix | slL | slH | slLH | rev
 | fld (f:Nat) | isi (ts:List Ty)
 | len | list | lrng | lrev | tuple | all | any | toInt | sum | srt | srtSet | symd | min1 | min2 | max2
 | index | count
inductive Wk where
 | seq | rng1 | rng2 | enum | zip | rev
inductive Tg where
 | one (i:Nat) | many (is:ai)
inductive Ex where
 | var (i:Nat)
 | cst (d:D)
 | op (o:Op) (es:List Ex)
 | and (a b:Ex) | or (a b:Ex)
 | ite (c a b:Ex)
 | chain (o p:Op) (a b c:Ex)
 | sl2 (a l h:Ex)
 | comp (caps:List aA) (tg:Tg) (wk:Wk) (it:List Ex) (t:List Ex) (e:Ex)
 | call (f:Nat) (es:List Ex)
 | make (c:Nat) (es:List Ex)
 | meth (m:Nat) (o:Ex) (es:List Ex)
 | bad
 deriving Inhabited
abbrev _root_.aC:=List Ex
inductive Mu where
 | append | extend | clear | insert | remove | pop0
inductive S where
 | set (i:Nat) (e:Ex)
 | setT (is:ai) (e:Ex)
 | ret (e:Ex)
 | ex (e:Ex)
 | iff (c:Ex) (t e:List S)
 | whl (c:Ex) (b:List S)
 | fo (tg:Tg) (wk:Wk) (it:aC) (b:List S)
 | mut (x:Nat) (path:aC) (m:Mu) (es:aC)
 | put (x:Nat) (path:aC) (i e:Ex)
 | sfld (i:Nat) (f:Nat) (e:Ex)
 | retP (s:Str) (i:Nat)
 | nest (x:Nat) (is:ai) (rm:Bool) (j:Nat)
 | byref (f x:Nat) (es:aC)
 | bad
 deriving Inhabited
abbrev _root_.aw:=List S
structure Fn where
 np:Nat
 io:ai
 ns:Nat
 dfl:av
 body:aw
structure Cl where
 init:aA
 meths:List (Nat×Nat)
 ups:ai
 isx:Bool
structure Pg where
 fn:Nat->Option Fn
 cl:Nat->Option Cl
inductive Run where
 | ret (k:Nat) (d:D) (outs:au)
 | bad
def lJ (n:Nat):∃f:Int->Bool,∀i,f i=true ↔ -(2 ^ n)<=i/\i<2 ^ n:=⟨λi=>decide (-(2 ^ n)<=i/\i<2 ^ n),λi=>decide_eq_true_iff⟩
noncomputable def ci:Int->Bool:=Classical.choose (lJ 62)
def dA {i:Int}:ci i=true ↔ -(2 ^ 62)<=i/\i<2 ^ 62:=Classical.choose_spec (lJ 62) i
noncomputable def en (n:Nat)(i:Int):aA:=if 0<=i then (if i<n then some i.toNat else none) else if -(n:Int)<=i then some (i+n).toNat else none
noncomputable def dG (n d:Nat):Option Int->Nat
 | none=>d
 | some i=>if 0<=i then min i.toNat n else (i+n).toNat
noncomputable def cutD {α:Type}(xs:List α)(lo hi:Option Int):List α:=(xs.drop (dG xs.length 0 lo)).take (dG xs.length xs.length hi - dG xs.length 0 lo)
@[simp] noncomputable def lg:Ty->Bool
 | .bool=>true | .int=>true | _=>false
@[simp] noncomputable def ii:Ty->Bool
 | .int=>true | _=>false
@[simp] noncomputable def iE:Ty->Bool
 | .str=>true | _=>false
@[simp] noncomputable def iI:Ty->Bool
 | .list=>true | _=>false
@[simp] noncomputable def iR:Ty->Bool
 | .tuple=>true | _=>false
@[simp] noncomputable def lA (G:Pg)(c d:Nat):Bool:=match G.cl c with
 | some K=>decide (d=c)||K.ups.contains d
 | none=>false
@[simp] noncomputable def hV (G:Pg)(c:Nat):Ty->Bool
 | .cls d=>lA G c d | _=>false
noncomputable def bf (G:Pg):D->Ty->Bool
 | .bl _=>lg
 | .int _=>ii
 | .str _=>iE
 | .lst _=>iI
 | .tup _=>iR
 | .ins c _=>hV G c
 | .non=>λ_=>false
@[simp] theorem isTy_bl (G:Pg)(b:Bool)(t:Ty):bf G (.bl b) t=lg t:=rfl
@[simp] theorem isTy_int (G:Pg)(b:Int)(t:Ty):bf G (.int b) t=ii t:=rfl
@[simp] theorem isTy_str (G:Pg)(b:Str)(t:Ty):bf G (.str b) t=iE t:=rfl
@[simp] theorem isTy_lst (G:Pg)(b:av)(t:Ty):bf G (.lst b) t=iI t:=rfl
@[simp] theorem isTy_tup (G:Pg)(b:av)(t:Ty):bf G (.tup b) t=iR t:=rfl
@[simp] theorem isTy_ins (G:Pg)(c:Nat)(fs:aF)(t:Ty):bf G (.ins c fs) t=hV G c t:=rfl
@[simp] theorem isTy_non (G:Pg)(t:Ty):bf G .non t=false:=rfl
noncomputable def allB:av->Option Bool
 | []=>some true
 | .bl b::ds=>(allB ds).map λc=>b&&c
 | _::_=>none
noncomputable def anyB:av->Option Bool
 | []=>some false
 | .bl b::ds=>(anyB ds).map λc=>b||c
 | _::_=>none
noncomputable def bE:av->Option aj
 | []=>some []
 | .int i::ds=>(bE ds).map λis=>i::is
 | _::_=>none
noncomputable def D.memb (x:D)(xs:av):Bool:=xs.any λy=>y.eq x
noncomputable def D.find (x:D)(xs:av):aA:=xs.findIdx? λy=>y.eq x
@[simp] noncomputable def fB (b:Bool):ax:=some (99,.bl b)
@[simp] noncomputable def fI (i:Int):ax:=some (99,.int i)
@[simp] noncomputable def kd (b:Bool):R KD:=.ok (99,.bl b)
@[simp] noncomputable def D.seq:D->Option av
 | .lst xs=>some xs
 | .tup xs=>some xs
 | _=>none
@[simp] noncomputable def D.lstO:D->Option av
 | .lst xs=>some xs
 | _=>none
@[simp] noncomputable def bS (f:D->ax):au->ax
 | [x]=>f x.2
 | _=>none
@[simp] noncomputable def br (f:D->D->ax):au->ax
 | [x,y]=>f x.2 y.2
 | _=>none
@[simp] noncomputable def on3 (f:D->D->D->ax):au->ax
 | [x,y,z]=>f x.2 y.2 z.2
 | _=>none
@[simp] noncomputable def bz (f:Int->Int->ax):D->D->ax
 | .int i,.int j=>f i j
 | _,_=>none
@[simp] noncomputable def gb:D->D->ax
 | .int i,.int j=>fI (i+j)
 | .lst xs,.lst ys=>if xs.length+ys.length<=SL then some (1,.lst (xs++ys)) else none
 | .tup xs,.tup ys=>if xs.length+ys.length<=SL then some (0,.tup (xs++ys)) else none
 | _,_=>none
noncomputable def cy:av->Option ai
 | []=>some []
 | .int i::ds=>if 0<=i/\i<6 then (cy ds).map λns=>i.toNat::ns else none
 | _::_=>none
noncomputable def du (ns:ai):ai:=(List.range 6).filter λk=>ns.contains k
noncomputable def natL (ns:ai):av:=ns.map λn=>.int (Int.ofNat n)
@[simp] noncomputable def jW:D->D->ax
 | .int i,.int j=>if ci i||ci j then fI (i * j) else none
 | .lst xs,.int j=>if 0<=j/\ci j=true/\xs.length * j.toNat<=SL then some (1,.lst (List.replicate j.toNat xs).flatten) else none
 | .tup xs,.int j=>if xs.isEmpty=false/\1<=j/\j<=1000/\xs.length * j.toNat<=SL then some (0,.tup (List.replicate j.toNat xs).flatten) else none
 | _,_=>none
@[simp] noncomputable def jh (neg:Bool)(x y:D):ax:=if x.pur 60&&y.pur 60 then fB (if neg then !x.eq y else x.eq y) else none
@[simp] noncomputable def iX (neg:Bool)(x y:D):ax:=match y.seq with
 | some ys=>if x.pur 60&&D.pures ys then fB (if neg then !x.memb ys else x.memb ys) else none
 | none=>none
@[simp] noncomputable def aH:D->D->ax
 | x,.int i=>match x.seq with
  | some xs=>match (en xs.length i).bind λj=>xs[j]? with
   | some d=>some (0,d)
   | none=>none
  | none=>none
 | _,_=>none
@[simp] noncomputable def ce (lo hi:Option Int):D->ax
 | .lst xs=>some (1,.lst (cutD xs lo hi))
 | .tup xs=>some (0,.tup (cutD xs lo hi))
 | _=>none
noncomputable def gB (f:Nat):D->ax
 | .ins _ fs=>match fs.lookup f with | some d=>some (0,d) | none=>none
 | _=>none
@[simp] noncomputable def dP (f:av->ax):D->ax
 | .lst xs=>f xs
 | _=>none
@[simp] noncomputable def dO (f:av->ax)(x:D):ax:=match x.seq with | some xs=>f xs | none=>none
@[simp] noncomputable def intD:D->ax
 | .int i=>fI i
 | .bl b=>fI (if b then 1 else 0)
 | _=>none
@[simp] noncomputable def jn:D->ax
 | .bl b=>fB (!b)
 | _=>none
@[simp] noncomputable def jA:D->ax
 | .int i=>fI (-i)
 | _=>none
@[simp] noncomputable def dY (neg:Bool):D->ax
 | .non=>fB (!neg)
 | _=>fB neg
@[simp] noncomputable def lE:D->ax
 | .lst xs=>some (0,.tup xs)
 | .tup xs=>some (0,.tup xs)
 | _=>none
noncomputable def cX (x y:D):ax:=match x with
 | .lst xs=>if y.scal&&xs.all D.scal then (match y.find xs with | some j=>fI j | none=>none) else none
 | _=>none
@[simp] theorem w6 (xs:av)(y:D):cX (.lst xs) y=if y.scal&&xs.all D.scal then (match y.find xs with | some j=>fI j | none=>none) else none:=rfl
def A8 {x y:D}{z:KD}(h:cX x y=some z):∃xs,x=.lst xs:=by cases x <;> first | exact⟨_,rfl⟩ | cases h
@[simp] noncomputable def countD (x y:D):ax:=match x.seq with
 | some xs=>if y.pur 60&&D.pures xs then fI (xs.countP λz=>z.eq y) else none
 | none=>none
noncomputable def jP (x y:D):ax:=match x with
 | .lst xs=>if y.scal&&xs.all D.scal then fI ((xs.countP λz=>z.eq y:Nat):Int) else none
 | _=>none
@[simp] theorem cntD_lst (xs:av)(y:D):jP (.lst xs) y=if y.scal&&xs.all D.scal then fI ((xs.countP λz=>z.eq y:Nat):Int) else none:=rfl
noncomputable def lU (xs:av):ax:=(bE xs).bind λis=>if is.all (λi=>decide (0<=i/\i<=10000000))=true/\is.length<=1000 then fI is.sum else none
noncomputable def c7 (ns:aj):aj:=ns.mergeSort λa b=>decide (a<=b)
noncomputable def fE (xs:av):ax:=(bE xs).bind λns=>if ns.length<64 then some (1,.lst ((c7 ns).map .int)) else none
@[simp] noncomputable def gu:D->ax
 | .int j=>if 0<=j/\j<=SL then some (1,.lst (natL (List.range j.toNat))) else none
 | _=>none
noncomputable def bm (G:Pg):Op->au->ax
 | .lst,vs=>some (aL vs+1,.lst (vs.map (·.2)))
 | .tup,vs=>some (aL vs+1,.tup (vs.map (·.2)))
 | .add,vs=>br gb vs
 | .sub,vs=>br (bz λi j=>fI (i - j)) vs
 | .mul,vs=>br jW vs
 | .fdiv,vs=>br (bz λi j=>if 0<j/\j<1000000000000000000000000000000000000000000000000000000000000 then fI (i / j) else none) vs
 | .mod,vs=>br (bz λi j=>if 0<j then fI (i % j) else none) vs
 | .pow,vs=>br (bz λi j=>if 0<=j/\j<=1000000/\ci i=true then fI (i ^ j.toNat) else none) vs
 | .shr,vs=>br (bz λi j=>if 0<=j then fI (i / 2 ^ j.toNat) else none) vs
 | .neg,vs=>bS jA vs
 | .not,vs=>bS jn vs
 | .eq,vs=>br (jh false) vs
 | .ne,vs=>br (jh true) vs
 | .lt,vs=>br (bz λi j=>fB (decide (i<j))) vs
 | .le,vs=>br (bz λi j=>fB (decide (i<=j))) vs
 | .gt,vs=>br (bz λi j=>fB (decide (j<i))) vs
 | .ge,vs=>br (bz λi j=>fB (decide (j<=i))) vs
 | .isN,vs=>bS (dY false) vs
 | .notN,vs=>bS (dY true) vs
 | .isin,vs=>br (iX false) vs
 | .nin,vs=>br (iX true) vs
 | .ix,vs=>br aH vs
 | .slL,vs=>br (λx y=>match y with | .int i=>ce (some i) none x | _=>none) vs
 | .slH,vs=>br (λx y=>match y with | .int i=>ce none (some i) x | _=>none) vs
 | .slLH,_=>none
 | .rev,vs=>bS (dP λxs=>some (1,.lst xs.reverse)) vs
 | .fld f,vs=>bS (gB f) vs
 | .isi ts,vs=>bS (λx=>fB (ts.any (bf G x))) vs
 | .len,vs=>bS (dO λxs=>fI xs.length) vs
 | .list,vs=>bS (dO λxs=>some (1,.lst xs)) vs
 | .lrng,vs=>bS gu vs
 | .lrev,_=>none
 | .tuple,vs=>bS lE vs
 | .all,vs=>bS (dP λxs=>match allB xs with | some b=>fB b | none=>none) vs
 | .any,vs=>bS (dP λxs=>match anyB xs with | some b=>fB b | none=>none) vs
 | .toInt,vs=>bS intD vs
 | .sum,vs=>bS (dP lU) vs
 | .srt,vs=>bS (dP fE) vs
 | .srtSet,vs=>bS (dP λxs=>match cy xs with | some ns=>some (1,.lst (natL (du ns))) | none=>none) vs
 | .symd,_=>none
 | .min1,_=>none
 | .min2,vs=>br (bz λi j=>fI (if j<i then j else i)) vs
 | .max2,vs=>br (bz λi j=>fI (if j > i then j else i)) vs
 | .index,vs=>br cX vs
 | .count,vs=>br jP vs
@[simp] theorem vt (G:Pg)(vs:au):bm G .lst vs=some (aL vs+1,.lst (vs.map (·.2))):=rfl
@[simp] theorem wz (G:Pg)(vs:au):bm G .tup vs=some (aL vs+1,.tup (vs.map (·.2))):=rfl
@[simp] theorem Cg (G:Pg)(vs:au):bm G .add vs=br gb vs:=rfl
@[simp] theorem opD_sub (G:Pg)(vs:au):bm G .sub vs=br (bz λi j=>fI (i - j)) vs:=rfl
@[simp] theorem BN (G:Pg)(vs:au):bm G .mul vs=br jW vs:=rfl
@[simp] theorem opD_fdiv (G:Pg)(vs:au):bm G .fdiv vs=br (bz λi j=>if 0<j/\j<1000000000000000000000000000000000000000000000000000000000000 then fI (i / j) else none) vs:=rfl
@[simp] theorem opD_mod (G:Pg)(vs:au):bm G .mod vs=br (bz λi j=>if 0<j then fI (i % j) else none) vs:=rfl
@[simp] theorem opD_pow (G:Pg)(vs:au):bm G .pow vs=br (bz λi j=>if 0<=j/\j<=1000000/\ci i=true then fI (i ^ j.toNat) else none) vs:=rfl
@[simp] theorem opD_shr (G:Pg)(vs:au):bm G .shr vs=br (bz λi j=>if 0<=j then fI (i / 2 ^ j.toNat) else none) vs:=rfl
@[simp] theorem Bq (G:Pg)(vs:au):bm G .neg vs=bS jA vs:=rfl
@[simp] theorem Et (G:Pg)(vs:au):bm G .not vs=bS jn vs:=rfl
@[simp] theorem xc (G:Pg)(vs:au):bm G .eq vs=br (jh false) vs:=rfl
@[simp] theorem Cc (G:Pg)(vs:au):bm G .ne vs=br (jh true) vs:=rfl
@[simp] theorem opD_lt (G:Pg)(vs:au):bm G .lt vs=br (bz λi j=>fB (decide (i<j))) vs:=rfl
@[simp] theorem opD_le (G:Pg)(vs:au):bm G .le vs=br (bz λi j=>fB (decide (i<=j))) vs:=rfl
@[simp] theorem opD_gt (G:Pg)(vs:au):bm G .gt vs=br (bz λi j=>fB (decide (j<i))) vs:=rfl
@[simp] theorem opD_ge (G:Pg)(vs:au):bm G .ge vs=br (bz λi j=>fB (decide (j<=i))) vs:=rfl
@[simp] theorem BZ (G:Pg)(vs:au):bm G .isN vs=bS (dY false) vs:=rfl
@[simp] theorem xZ (G:Pg)(vs:au):bm G .notN vs=bS (dY true) vs:=rfl
@[simp] theorem opD_isin (G:Pg)(vs:au):bm G .isin vs=br (iX false) vs:=rfl
@[simp] theorem opD_nin (G:Pg)(vs:au):bm G .nin vs=br (iX true) vs:=rfl
@[simp] theorem yy (G:Pg)(vs:au):bm G .ix vs=br aH vs:=rfl
@[simp] theorem opD_slL (G:Pg)(vs:au):bm G .slL vs=br (λx y=>match y with | .int i=>ce (some i) none x | _=>none) vs:=rfl
@[simp] theorem opD_slH (G:Pg)(vs:au):bm G .slH vs=br (λx y=>match y with | .int i=>ce none (some i) x | _=>none) vs:=rfl
@[simp] theorem opD_slLH (G:Pg)(vs:au):bm G .slLH vs=none:=rfl
@[simp] theorem xM (G:Pg)(vs:au):bm G .rev vs=bS (dP λxs=>some (1,.lst xs.reverse)) vs:=rfl
@[simp] theorem Bh (G:Pg)(f:Nat)(vs:au):bm G (.fld f) vs=bS (gB f) vs:=rfl
@[simp] theorem opD_isi (G:Pg)(ts:List Ty)(vs:au):bm G (.isi ts) vs=bS (λx=>fB (ts.any (bf G x))) vs:=rfl
@[simp] theorem E7 (G:Pg)(vs:au):bm G .len vs=bS (dO λxs=>fI xs.length) vs:=rfl
@[simp] theorem Dc (G:Pg)(vs:au):bm G .list vs=bS (dO λxs=>some (1,.lst xs)) vs:=rfl
@[simp] theorem Cp (G:Pg)(vs:au):bm G .lrng vs=bS gu vs:=rfl
@[simp] theorem opD_lrev (G:Pg)(vs:au):bm G .lrev vs=none:=rfl
@[simp] theorem y9 (G:Pg)(vs:au):bm G .tuple vs=bS lE vs:=rfl
@[simp] theorem zr (G:Pg)(vs:au):bm G .all vs=bS (dP λxs=>match allB xs with | some b=>fB b | none=>none) vs:=rfl
@[simp] theorem AF (G:Pg)(vs:au):bm G .any vs=bS (dP λxs=>match anyB xs with | some b=>fB b | none=>none) vs:=rfl
@[simp] theorem Ay (G:Pg)(vs:au):bm G .toInt vs=bS intD vs:=rfl
@[simp] theorem A7 (G:Pg)(vs:au):bm G .sum vs=bS (dP lU) vs:=rfl
@[simp] theorem DZ (G:Pg)(vs:au):bm G .srt vs=bS (dP fE) vs:=rfl
@[simp] theorem zJ (G:Pg)(vs:au):bm G .srtSet vs=bS (dP λxs=>match cy xs with | some ns=>some (1,.lst (natL (du ns))) | none=>none) vs:=rfl
@[simp] theorem opD_symd (G:Pg)(vs:au):bm G .symd vs=none:=rfl
@[simp] theorem opD_min1 (G:Pg)(vs:au):bm G .min1 vs=none:=rfl
@[simp] theorem Au (G:Pg)(vs:au):bm G .min2 vs=br (bz λi j=>fI (if j<i then j else i)) vs:=rfl
@[simp] theorem opD_max2 (G:Pg)(vs:au):bm G .max2 vs=br (bz λi j=>fI (if j > i then j else i)) vs:=rfl
@[simp] theorem yc (G:Pg)(vs:au):bm G .index vs=br cX vs:=rfl
@[simp] theorem opD_count (G:Pg)(vs:au):bm G .count vs=br jP vs:=rfl
@[simp,reducible] noncomputable def R.of {α:Type}:Option α->R α
 | some a=>.ok a
 | none=>.bad
def bR {α:Type}{x:α}(h:(none:Option α)=some x):False:=nomatch h
noncomputable def lF (f:D->Option av):au->Option av
 | []=>none
 | x::r=>match r with
  | []=>f x.2
  | _::_=>none
noncomputable def pk (f:D->D->Option av):au->Option av
 | []=>none
 | x::r=>match r with
  | []=>none
  | y::t=>match t with
   | []=>f x.2 y.2
   | _::_=>none
def pN {f:D->Option av}{vs:au}{ds:av}(h:lF f vs=some ds):∃x,vs=[x]/\f x.2=some ds:=by
 cases vs with
 | nil=>exact (bR h).elim
 | cons x r=>
  cases r with
  | nil=>exact⟨x,rfl,h⟩
  | cons _ _=>exact (bR h).elim
def sN {f:D->D->Option av}{vs:au}{ds:av}(h:pk f vs=some ds):∃x y,vs=[x,y]/\f x.2 y.2=some ds:=by
 cases vs with
 | nil=>exact (bR h).elim
 | cons x r=>
  cases r with
  | nil=>exact (bR h).elim
  | cons y t=>
   cases t with
   | nil=>exact⟨x,y,rfl,h⟩
   | cons _ _=>exact (bR h).elim
noncomputable def fj:D->Option Int
 | .int i=>some i
 | _=>none
def qh {d:D}{i:Int}(h:fj d=some i):d=.int i:=by
 cases d <;> first | exact (bR h).elim | exact congrArg D.int (cK h)
noncomputable def iJ (d:D):Option av:=(fj d).bind λj=>if ci j=true then some ((List.range j.toNat).map λ(n:Nat)=>.int n) else none
noncomputable def ip (d e:D):Option av:=(fj d).bind λi=>(fj e).bind λj=>if ci i=true/\ci j=true then some ((List.range (j - i).toNat).map λ(n:Nat)=>.int (i+n)) else none
noncomputable def iT (x:D):Option av:=x.seq.map λxs=>xs.mapIdx λn d=>.tup [.int n,d]
noncomputable def lG (x y:D):Option av:=x.lstO.bind λxs=>y.lstO.map λys=>(xs.zip ys).map λp=>.tup [p.1,p.2]
noncomputable def hX (x:D):Option av:=x.lstO.map List.reverse
noncomputable def da:Wk->au->Option av
 | .seq=>lF D.seq
 | .rng1=>lF iJ
 | .rng2=>pk ip
 | .enum=>lF iT
 | .zip=>pk lG
 | .rev=>lF hX
noncomputable abbrev Sl:=List (Option D)
@[simp] noncomputable def cD (a:Sl):aA->Option D
 | some i=>(a[i]?).join
 | none=>none
@[simp] noncomputable def bn {α:Type}(f:D->α):ai->av->List (Option α)->List (Option α)
 | i::is,d::ds,a=>bn f is ds (a.set i (some (f d)))
 | _,_,a=>a
@[simp] noncomputable def dC {α:Type}(f:D->α)(a:List (Option α)):Tg->D->Option (List (Option α))
 | .one i,d=>some (a.set i (some (f d)))
 | .many is,d=>match d with
  | .tup ds=>if ds.length=is.length then some (bn f is ds a) else none
  | _=>none
noncomputable def aO (f:D->R ax):av->R au
 | []=>.ok []
 | x::xs=>(f x).bind λo=>(aO f xs).bind λys=>.ok (match o with | some y=>y::ys | none=>ys)
@[simp] noncomputable def R.bl (r:R KD):R Bool:=r.bind λx=>match x.2 with
 | .bl b=>.ok b
 | _=>.bad
noncomputable def gj {α:Type}(d:D)(t e b:α):α:=match d with
 | .bl c=>if c then t else e
 | _=>b
@[simp] theorem ik {α:Type}(c:Bool)(t e b:α):gj (.bl c) t e b=if c then t else e:=rfl
section
variable (G:Pg)(cl:Nat->au->Run)
@[simp] noncomputable def gM:Run->R KD
 | .ret k d []=>.ok (k,d)
 | _=>.bad
@[simp] noncomputable def fill (F:Fn)(vs:au):au:=vs++(F.dfl.drop (F.dfl.length - (F.np - vs.length))).map λd=>(99,d)
@[simp] noncomputable def c9 (f m:Nat):Option Fn:=match G.fn f with
 | some F=>if F.io=[]/\m<=F.np/\F.np - m<=F.dfl.length then some F else none
 | none=>none
noncomputable def cu (c m:Nat):Option (Nat×Fn×D):=match G.cl c with
 | some C=>match C.init with
  | some f=>match G.fn f with
   | some F=>if F.io=[0]/\m+1<=F.np/\F.np - (m+1)<=F.dfl.length/\m<=50 then some (f,F,.ins c []) else none
   | none=>none
  | none=>none
 | none=>none
@[simp] noncomputable def made:Run->R KD
 | .ret _ .non [x]=>.ok x
 | _=>.bad
@[simp] noncomputable def fM (p:Nat×Fn×D)(vs:au):R KD:=made (cl p.1 ((1,p.2.2)::fill { p.2.1 with np:=p.2.1.np - 1 } vs))
noncomputable def bO (m k:Nat):D->Option (Nat×Fn)
 | .ins c fs=>match G.cl c with
  | some C=>match C.meths.lookup m with
   | some f=>match G.fn f with
    | some F=>if F.io=[]/\fs.lookup m=none/\k+1<=F.np/\F.np - (k+1)<=F.dfl.length then some (f,F) else none
    | none=>none
   | none=>none
  | none=>none
 | _=>none
@[simp] noncomputable def sl2D (i:Int)(x:D):D->R KD
 | .int j=>R.of (ce (some i) (some j) x)
 | _=>.bad
mutual
noncomputable def eval (a:Sl):Ex->R KD
 | .var i=>match a[i]? with
  | some (some d)=>.ok (0,d)
  | _=>.bad
 | .cst d=>.ok (99,d)
 | .op o es=>(evals a es).bind λvs=>R.of (bm G o vs)
 | .and x y=>(eval a x).bind λv=>gj v.2 (eval a y) (kd false) .bad
 | .or x y=>(eval a x).bind λv=>gj v.2 (kd true) (eval a y) .bad
 | .ite c x y=>(eval a c).bind λv=>gj v.2 (eval a x) (eval a y) .bad
 | .chain o p x y z=>(eval a x).bind λu=>(eval a y).bind λv=>(R.of (bm G o [u,v])).bind λb=>gj b.2 ((eval a z).bind λw=>R.of (bm G p [v,w])) (kd false) .bad
 | .sl2 x y z=>(eval a x).bind λu=>(eval a y).bind λv=>match v.2 with
  | .int i=>(eval a z).bind λw=>sl2D i u.2 w.2
  | _=>.bad
 | .comp caps tg wk it t e=>(evals a it).bind λvs=>match da wk vs with
  | some xs=>if xs.length<=SL then
    (aO (λx=>match dC id (caps.map (cD a)) tg x with
     | some b=>((evals b t).bind λts=>match ts with
      | []=>(eval b e).bind λy=>.ok (some y)
      | [t]=>gj t.2 ((eval b e).bind λy=>.ok (some y)) (.ok none) .bad
      | _=>.bad)
     | none=>.bad) xs).bind λys=>.ok (aL ys+1,.lst (ys.map (·.2)))
   else .bad
  | none=>.bad
 | .call f es=>(R.of (c9 G f es.length)).bind λF=>(evals a es).bind λvs=>gM (cl f (fill F vs))
 | .make c es=>(R.of (cu G c es.length)).bind λp=>(evals a es).bind (fM cl p)
 | .meth m o es=>(eval a o).bind λx=>(R.of (bO G m es.length x.2)).bind λp=>(evals a es).bind λvs=>gM (cl p.1 (fill p.2 (x::vs)))
 | .bad=>.bad
noncomputable def evals (a:Sl):aC->R au
 | []=>.ok []
 | e::es=>(eval a e).bind λx=>(evals a es).bind λxs=>.ok (x::xs)
end
@[simp] theorem cj (a:Sl):evals G cl a []=.ok []:=rfl
@[simp] theorem bP (a:Sl)(e:Ex)(es:aC):evals G cl a (e::es)=(eval G cl a e).bind λx=>(evals G cl a es).bind λxs=>.ok (x::xs):=rfl
noncomputable def compF (b0:Sl)(tg:Tg)(t:aC)(e:Ex)(x:D):R ax:=match dC id b0 tg x with
 | some b=>(evals G cl b t).bind λts=>match ts with
  | []=>(eval G cl b e).bind λy=>.ok (some y)
  | [t]=>gj t.2 ((eval G cl b e).bind λy=>.ok (some y)) (.ok none) .bad
  | _=>.bad
 | none=>.bad
@[simp] theorem ku (a:Sl)(i:Nat):eval G cl a (.var i)=match a[i]? with
  | some (some d)=>.ok (0,d)
  | _=>.bad:=rfl
@[simp] theorem nM (a:Sl)(d:D):eval G cl a (.cst d)=.ok (99,d):=rfl
@[simp] theorem df (a:Sl)(o:Op)(es:aC):eval G cl a (.op o es)=(evals G cl a es).bind λvs=>R.of (bm G o vs):=rfl
@[simp] theorem lI (a:Sl)(x y:Ex):eval G cl a (.and x y)=(eval G cl a x).bind λv=>gj v.2 (eval G cl a y) (kd false) .bad:=rfl
@[simp] theorem k8 (a:Sl)(x y:Ex):eval G cl a (.or x y)=(eval G cl a x).bind λv=>gj v.2 (kd true) (eval G cl a y) .bad:=rfl
@[simp] theorem rd (a:Sl)(c x y:Ex):eval G cl a (.ite c x y)=(eval G cl a c).bind λv=>gj v.2 (eval G cl a x) (eval G cl a y) .bad:=rfl
@[simp] theorem ou (a:Sl)(o p:Op)(x y z:Ex):eval G cl a (.chain o p x y z)=(eval G cl a x).bind λu=>(eval G cl a y).bind λv=>(R.of (bm G o [u,v])).bind λb=>
  gj b.2 ((eval G cl a z).bind λw=>R.of (bm G p [v,w])) (kd false) .bad:=rfl
@[simp] theorem rN (a:Sl)(x y z:Ex):eval G cl a (.sl2 x y z)=(eval G cl a x).bind λu=>(eval G cl a y).bind λv=>match v.2 with
  | .int i=>(eval G cl a z).bind λw=>sl2D i u.2 w.2
  | _=>.bad:=rfl
@[simp] theorem kK (a:Sl)(f:Nat)(es:aC):eval G cl a (.call f es)=(R.of (c9 G f es.length)).bind λF=>(evals G cl a es).bind λvs=>gM (cl f (fill F vs)):=rfl
@[simp] theorem lB (a:Sl)(f:Nat)(es:aC):eval G cl a (.make f es)=(R.of (cu G f es.length)).bind λp=>(evals G cl a es).bind (fM cl p):=rfl
@[simp] theorem kv (a:Sl)(m:Nat)(o:Ex)(es:aC):eval G cl a (.meth m o es)=(eval G cl a o).bind λx=>(R.of (bO G m es.length x.2)).bind λp=>(evals G cl a es).bind λvs=>gM (cl p.1 (fill p.2 (x::vs))):=rfl
@[simp] theorem f7 (a:Sl):eval G cl a .bad=.bad:=rfl
@[simp] theorem ka (a:Sl)(caps:List aA)(tg:Tg)(wk:Wk)(it t:aC)(e:Ex):eval G cl a (.comp caps tg wk it t e)=(evals G cl a it).bind λvs=>match da wk vs with
  | some xs=>if xs.length<=SL then (aO (compF G cl (caps.map (cD a)) tg t e) xs).bind λys=>.ok (aL ys+1,.lst (ys.map (·.2))) else .bad
  | none=>.bad:=by
 rfl
noncomputable abbrev Fr:=List ax
@[simp] noncomputable def Fr.sl (A:Fr):Sl:=A.map (Option.map (·.2))
inductive O where
 | nx (A:Fr) | ret (k:Nat) (d:D) (A:Fr) | bad
mutual
@[simp] noncomputable def Ex.names:Ex->ai
 | .var i=>[i]
 | .cst _=>[]
 | .op _ es=>Ex.namess es
 | .and a b=>a.names++b.names
 | .or a b=>a.names++b.names
 | .ite c a b=>c.names++(a.names++b.names)
 | .chain _ _ a b c=>a.names++(b.names++c.names)
 | .sl2 a b c=>a.names++(b.names++c.names)
 | .comp caps _ _ it _ _=>caps.filterMap id++Ex.namess it
 | .call _ es=>Ex.namess es
 | .make _ es=>Ex.namess es
 | .meth _ o es=>o.names++Ex.namess es
 | .bad=>[]
@[simp] noncomputable def Ex.namess:aC->ai
 | []=>[]
 | e::es=>e.names++Ex.namess es
end
@[simp] noncomputable def frz1 (A:Fr)(i:Nat):Fr:=match A[i]? with
 | some (some (_,d))=>A.set i (some (0,d))
 | _=>A
@[simp] noncomputable def frz (ns:ai)(A:Fr):Fr:=ns.foldl frz1 A
@[simp] noncomputable def settle (ns:ai)(A:Fr)(x:KD):Fr:=if x.2.fb x.1 then A else frz ns A
@[simp] noncomputable def putF (f:Nat)(d:D):aF->aF
 | []=>[(f,d)]
 | (g,e)::r=>if g=f then (g,d)::r else (g,e)::putF f d r
noncomputable def bD (body:D->Fr->O):av->Fr->O
 | [],A=>.nx A
 | x::xs,A=>match body x A with
  | .nx A=>bD body xs A
  | o=>o
noncomputable def dS (test:Fr->R Bool)(body:Fr->O):Nat->Fr->O
 | 0,_=>.bad
 | n+1,A=>match test A with
  | .ok true=>match body A with
   | .nx A=>dS test body n A
   | o=>o
  | .ok false=>.nx A
  | .bad=>.bad
@[simp] noncomputable def R.toO {α:Type}(r:R α)(A:Fr)(f:α->O):O:=match r with
 | .ok a=>f a
 | .bad=>.bad
@[simp] noncomputable def O.seq (o:O)(f:Fr->O):O:=match o with
 | .nx A=>f A
 | o=>o
noncomputable def D.isI:D->Bool
 | .int _=>true
 | _=>false
noncomputable def fD (m:Mu)(k:Nat)(xs:av)(vs:au):ax:=match m,vs with
 | .append,[v]=>if xs.length<SL then some (dh k xs v+1,.lst (xs++[v.2])) else none
 | .extend,[v]=>match v.2 with
  | .tup ys=>if ys.all D.scal=true/\xs.length+ys.length<=SL then some (1,.lst (xs++ys)) else none
  | _=>none
 | .clear,[]=>some (99,.lst [])
 | .insert,[v,w]=>match v.2 with
  | .int i=>if 0<=i/\i.toNat<=xs.length/\xs.length<SL/\w.2.scal=true then some (1,.lst (xs.take i.toNat++w.2::xs.drop i.toNat)) else none
  | _=>none
 | .remove,[v]=>match v.2 with
  | .int i=>if xs.all D.isI=true then (match D.find (.int i) xs with | some j=>some (1,.lst (xs.eraseIdx j)) | none=>none) else none
  | _=>none
 | .pop0,[]=>if xs=[] then none else some (k+1,.lst xs.dropLast)
 | _,_=>none
@[simp] theorem rK (k:Nat)(xs:av)(v:KD):fD .append k xs [v]=if xs.length<SL then some (dh k xs v+1,.lst (xs++[v.2])) else none:=rfl
@[simp] theorem mutD_clear (k:Nat)(xs:av):fD .clear k xs []=some (99,.lst []):=rfl
@[simp] theorem mutD_insert (k:Nat)(xs:av)(v w:KD):fD .insert k xs [v,w]=match v.2 with
  | .int i=>if 0<=i/\i.toNat<=xs.length/\xs.length<SL/\w.2.scal=true then some (1,.lst (xs.take i.toNat++w.2::xs.drop i.toNat)) else none
  | _=>none:=rfl
@[simp] theorem ym (k:Nat)(xs:av)(v:KD):fD .remove k xs [v]=match v.2 with
  | .int i=>if xs.all D.isI=true then (match D.find (.int i) xs with | some j=>some (1,.lst (xs.eraseIdx j)) | none=>none) else none
  | _=>none:=rfl
@[simp] theorem sJ (k:Nat)(xs:av)(v:KD):fD .extend k xs [v]=match v.2 with
  | .tup ys=>if ys.all D.scal=true/\xs.length+ys.length<=SL then some (1,.lst (xs++ys)) else none
  | _=>none:=rfl
noncomputable def fN (v:D):av->Option av
 | []=>some []
 | .lst xs::ds=>if xs.length<SL then (fN v ds).map λes=>.lst (xs++[v])::es else none
 | _::_=>none
section
variable (io:ai)
@[simp] noncomputable def cV (i:Nat)(x:KD)(A:Fr):O:=if io.contains i=false/\i<A.length then .nx (A.set i (some x)) else .bad
@[simp] noncomputable def setFs:ai->au->Fr->O
 | [],[],A=>.nx A
 | i::is,x::xs,A=>(cV io i x A).seq (setFs is xs)
 | _,_,_=>.bad
@[simp] noncomputable def bN (tg:Tg)(d:D)(A:Fr):O:=match tg,d with
 | .one i,d=>cV io i (0,d) A
 | .many is,.tup ds=>setFs io is (ds.map λd=>(0,d)) A
 | .many is,.lst ds=>setFs io is (ds.map λd=>(0,d)) A
 | _,_=>.bad
@[simp] noncomputable def fX (io:ai)(is:ai)(e:Ex)(A:Fr)(x:KD):O:=match x.2 with
 | .tup ds=>setFs io is (ds.map λd=>(0,d)) (settle e.names A x)
 | .lst ds=>setFs io is (ds.map λd=>(0,d)) (settle e.names A x)
 | _=>.bad
noncomputable def cr (A:Fr)(e:Ex)(r:R KD):O:=match e with
 | .var i=>match A[i]? with
  | some (some x)=>.ret x.1 x.2 (A.set i none)
  | _=>.bad
 | e=>r.toO A λx=>.ret x.1 x.2 (settle e.names A x)
@[simp] theorem sP (A:Fr)(i:Nat)(r:R KD):cr A (.var i) r=match A[i]? with
  | some (some x)=>.ret x.1 x.2 (A.set i none)
  | _=>.bad:=rfl
@[simp] theorem retO_cst (A:Fr)(d:D)(r:R KD):cr A (.cst d) r=r.toO A λx=>.ret x.1 x.2 (settle (Ex.cst d).names A x):=rfl
@[simp] theorem retO_op (A:Fr)(o:Op)(es:aC)(r:R KD):cr A (.op o es) r=r.toO A λx=>.ret x.1 x.2 (settle (Ex.op o es).names A x):=rfl
@[simp] theorem retO_and (A:Fr)(x y:Ex)(r:R KD):cr A (.and x y) r=r.toO A λz=>.ret z.1 z.2 (settle (Ex.and x y).names A z):=rfl
@[simp] theorem retO_or (A:Fr)(x y:Ex)(r:R KD):cr A (.or x y) r=r.toO A λz=>.ret z.1 z.2 (settle (Ex.or x y).names A z):=rfl
@[simp] theorem retO_ite (A:Fr)(c x y:Ex)(r:R KD):cr A (.ite c x y) r=r.toO A λz=>.ret z.1 z.2 (settle (Ex.ite c x y).names A z):=rfl
@[simp] theorem retO_chain (A:Fr)(o p:Op)(x y w:Ex)(r:R KD):cr A (.chain o p x y w) r=r.toO A λz=>.ret z.1 z.2 (settle (Ex.chain o p x y w).names A z):=rfl
@[simp] theorem retO_sl2 (A:Fr)(x y w:Ex)(r:R KD):cr A (.sl2 x y w) r=r.toO A λz=>.ret z.1 z.2 (settle (Ex.sl2 x y w).names A z):=rfl
@[simp] theorem retO_comp (A:Fr)(caps:List aA)(tg:Tg)(wk:Wk)(it t:aC)(e:Ex)(r:R KD):cr A (.comp caps tg wk it t e) r=r.toO A λz=>.ret z.1 z.2 (settle (Ex.comp caps tg wk it t e).names A z):=rfl
@[simp] theorem retO_call (A:Fr)(f:Nat)(es:aC)(r:R KD):cr A (.call f es) r=r.toO A λz=>.ret z.1 z.2 (settle (Ex.call f es).names A z):=rfl
@[simp] theorem retO_make (A:Fr)(f:Nat)(es:aC)(r:R KD):cr A (.make f es) r=r.toO A λz=>.ret z.1 z.2 (settle (Ex.make f es).names A z):=rfl
@[simp] theorem retO_meth (A:Fr)(f:Nat)(o:Ex)(es:aC)(r:R KD):cr A (.meth f o es) r=r.toO A λz=>.ret z.1 z.2 (settle (Ex.meth f o es).names A z):=rfl
@[simp] theorem retO_bad (A:Fr)(r:R KD):cr A .bad r=r.toO A λz=>.ret z.1 z.2 (settle Ex.bad.names A z):=rfl
@[simp] noncomputable def eI (m:Mu)(vs:au)(A:Fr)(x:Nat):Option ax->O
 | some (some (k+1,.lst xs))=>match fD m k xs vs with
  | some y=>.nx (A.set x (some y))
  | none=>.bad
 | _=>.bad
noncomputable def oq (m:Mu)(vs:au)(A:Fr)(x:Nat)(i:Int):Option ax->O
 | some (some (k+2,.lst xs))=>match en xs.length i with
  | some j=>match xs[j]? with
   | some (.lst ys)=>match fD m k ys vs with
    | some y=>.nx (A.set x (some (dh (k+1) (xs.eraseIdx j) y+1,.lst (xs.set j y.2))))
    | none=>.bad
   | _=>.bad
  | none=>.bad
 | _=>.bad
@[simp] noncomputable def cw:Option ax->Bool
 | some (some (_,.lst _))=>true
 | _=>false
@[simp] noncomputable def d7 (m:Mu)(A:Fr)(x:Nat)(es:aC)(ps vs:au):O:=
 let A1:=if vs.all (λv=>v.2.fb v.1) then A else frz (Ex.namess es) A
 match ps with
 | []=>eI m vs A1 x A1[x]?
 | [(_,.int i)]=>oq m vs A1 x i A1[x]?
 | _=>.bad
@[simp] noncomputable def hG (A:Fr)(x:Nat)(v w:KD):Option ax->O
 | some (some (k+1,.lst xs))=>match w.2 with
  | .int i=>if 0<=i/\i<xs.length then .nx (A.set x (some (1,.lst (xs.set i.toNat v.2)))) else .bad
  | _=>.bad
 | _=>.bad
@[simp] noncomputable def gw (A:Fr)(x f:Nat)(v:KD):Option ax->O
 | some (some (k+1,.ins c fs))=>if fs.length<50 then .nx (A.set x (some (dh k (fs.map (·.2)) v+1,.ins c (putF f v.2 fs)))) else .bad
 | _=>.bad
@[simp] noncomputable def appAll0 (io:ai)(A:Fr)(x y:Nat)(v:KD):Option ax->O
 | some (some (k+2,.lst ds))=>if v.2.flat=true/\io.contains x=false/\x≠y/\x<A.length then match fN v.2 ds with
   | some es=>.nx ((A.set y (some (k+2,.lst es))).set x none)
   | none=>.bad
  else .bad
 | _=>.bad
@[simp] noncomputable def iD (A:Fr)(s:Str)(i:Nat):Option ax->O
 | some (some x)=>.ret (x.1+1) (.tup [.str s,x.2]) (A.set i none)
 | _=>.bad
@[simp] noncomputable def appAt0 (A:Fr)(x i:Nat)(v:KD):Option ax->O
 | some (some (k+2,.tup ds))=>match ds[i]? with
  | some (.lst ys)=>if v.2.scal=true/\ys.length<SL then .nx (A.set x (some (k+2,.tup (ds.set i (.lst (ys++[v.2])))))) else .bad
  | _=>.bad
 | _=>.bad
@[simp] noncomputable def Wk.rng:Wk->Bool
 | .rng1=>true
 | .rng2=>true
 | _=>false
@[simp] noncomputable def Wk.fz (wk:Wk)(it:aC):ai:=if wk.rng=true then [] else Ex.namess it
noncomputable def natO:Option ax->aA
 | some (some (_,.int n))=>if 0<=n then some n.toNat else none
 | _=>none
noncomputable def natsO (A:Fr):ai->Option ai
 | []=>some []
 | i::is=>(natO A[i]?).bind λn=>(natsO A is).map λns=>n::ns
noncomputable def intF:Option ax->Option Int
 | some (some (_,.int n))=>some n
 | _=>none
noncomputable def eh (rm:Bool)(v:Int)(ys:av):Option av:=if ys.all D.isI=true then (if rm=true then (D.find (.int v) ys).map λj=>ys.eraseIdx j else if ys.length<SL then some (ys++[.int v]) else none) else none
noncomputable def cU (rm:Bool)(v:Int):ai->D->Option D
 | [],.lst ys=>(eh rm v ys).map .lst
 | n::ns,.lst ds=>(ds[n]?).bind λd=>(cU rm v ns d).map λd'=>.lst (ds.set n d')
 | _,_=>none
noncomputable def fW (A:Fr)(x:Nat)(is:ai)(rm:Bool)(j:Nat):Option ax->O
 | some (some z)=>match if is.length<z.1 then (natsO A is).bind λns=>(intF A[j]?).bind λv=>cU rm v ns z.2 else none with
  | some d=>.nx (A.set x (some (z.1,d)))
  | none=>.bad
 | _=>.bad
noncomputable def dk (G:Pg)(f k:Nat):Option Fn:=(G.fn f).bind λF=>if F.io=[0]/\k=F.np then some F else none
noncomputable def jT (A:Fr)(x:Nat):Run->O
 | .ret _ .non [z]=>if z.2.fb z.1=true then .nx (A.set x (some z)) else .bad
 | _=>.bad
noncomputable def gX (cl:Nat->au->Run)(f:Nat)(A:Fr)(x:Nat)(ns:ai)(vs:au):Option ax->O
 | some (some y)=>if ns.contains x=true then .bad else jT A x (cl f (y::vs))
 | _=>.bad
@[simp] noncomputable def kF (G:Pg)(loop:av->Fr->O)(wk:Wk)(it:aC)(A:Fr)(vs:au):O:=match da wk vs with
 | some xs=>if xs.length<=SL then loop xs (frz (wk.fz it) A) else .bad
 | none=>.bad
mutual
noncomputable def exec (A:Fr):S->O
 | .set i e=>(eval G cl A.sl e).toO A λx=>cV io i x (settle e.names A x)
 | .setT is e=>(eval G cl A.sl e).toO A (fX io is e A)
 | .ret e=>cr A e (eval G cl A.sl e)
 | .ex e=>(eval G cl A.sl e).toO A λx=>.nx (settle e.names A x)
 | .iff c t e=>((eval G cl A.sl c).bl).toO A λb=>if b then execs A t else execs A e
 | .whl c b=>dS (λA=>(eval G cl A.sl c).bl) (λA=>execs A b) 10000 A
 | .fo tg wk it b=>(evals G cl A.sl it).toO A (kF G (bD λx A=>(bN io tg x A).seq λA=>execs A b) wk it A)
 | .mut x path m es=>if cw A[x]? then (evals G cl A.sl path).toO A λps=>(evals G cl A.sl es).toO A (d7 m A x es ps) else .bad
 | .put x path i e=>if path.isEmpty=true then (eval G cl A.sl e).toO A λv=>(eval G cl A.sl i).toO A λw=>hG (settle e.names A v) x v w (settle e.names A v)[x]? else .bad
 | .sfld x f e=>(eval G cl A.sl e).toO A λv=>gw (settle e.names A v) x f v (settle e.names A v)[x]?
 | .retP s i=>iD A s i A[i]?
 | .nest x is rm j=>fW A x is rm j A[x]?
 | .byref f x es=>match dk G f (es.length+1) with
  | some _=>(evals G cl A.sl es).toO A λvs=>gX cl f A x (Ex.namess es) vs A[x]?
  | none=>.bad
 | .bad=>.bad
noncomputable def execs (A:Fr):aw->O
 | []=>.nx A
 | s::ss=>(exec A s).seq λA=>execs A ss
end
end
end
section
variable (G:Pg)(cl:Nat->au->Run)(io:ai)
@[simp] theorem uE (A:Fr):execs G cl io A []=.nx A:=rfl
@[simp] theorem k6 (A:Fr)(s:S)(ss:aw):execs G cl io A (s::ss)=(exec G cl io A s).seq λA=>execs G cl io A ss:=rfl
noncomputable def fh (tg:Tg)(b:aw)(x:D)(A:Fr):O:=(bN io tg x A).seq λA=>execs G cl io A b
noncomputable def mV (c:Ex)(A:Fr):R Bool:=(eval G cl A.sl c).bl
noncomputable def ml (b:aw)(A:Fr):O:=execs G cl io A b
@[simp] theorem kI (A:Fr)(i:Nat)(e:Ex):exec G cl io A (.set i e)=(eval G cl A.sl e).toO A λx=>cV io i x (settle e.names A x):=rfl
@[simp] theorem vq (A:Fr)(is:ai)(e:Ex):exec G cl io A (.setT is e)=(eval G cl A.sl e).toO A (fX io is e A):=rfl
@[simp] theorem mE (A:Fr)(e:Ex):exec G cl io A (.ret e)=cr A e (eval G cl A.sl e):=rfl
@[simp] theorem pL (A:Fr)(e:Ex):exec G cl io A (.ex e)=(eval G cl A.sl e).toO A λx=>.nx (settle e.names A x):=rfl
@[simp] theorem tM (A:Fr)(c:Ex)(t e:aw):exec G cl io A (.iff c t e)=((eval G cl A.sl c).bl).toO A λb=>if b then execs G cl io A t else execs G cl io A e:=rfl
@[simp] theorem kA (A:Fr)(x:Nat)(path:aC)(m:Mu)(es:aC):exec G cl io A (.mut x path m es)=if cw A[x]? then (evals G cl A.sl path).toO A λps=>(evals G cl A.sl es).toO A (d7 m A x es ps) else .bad:=rfl
@[simp] theorem sj (A:Fr)(x:Nat)(path:aC)(i e:Ex):exec G cl io A (.put x path i e)=if path.isEmpty=true then (eval G cl A.sl e).toO A λv=>(eval G cl A.sl i).toO A λw=>hG (settle e.names A v) x v w (settle e.names A v)[x]? else .bad:=rfl
@[simp] theorem xT (A:Fr)(x f:Nat)(e:Ex):exec G cl io A (.sfld x f e)=(eval G cl A.sl e).toO A λv=>gw (settle e.names A v) x f v (settle e.names A v)[x]?:=rfl
@[simp] theorem yb (A:Fr)(s:Str)(i:Nat):exec G cl io A (.retP s i)=iD A s i A[i]?:=rfl
theorem tN (A:Fr)(x:Nat)(is:ai)(rm:Bool)(j:Nat):exec G cl io A (.nest x is rm j)=fW A x is rm j A[x]?:=rfl
theorem oM (A:Fr)(f x:Nat)(es:aC):exec G cl io A (.byref f x es)=match dk G f (es.length+1) with
  | some _=>(evals G cl A.sl es).toO A λvs=>gX cl f A x (Ex.namess es) vs A[x]?
  | none=>.bad:=rfl
@[simp] theorem yK (A:Fr):exec G cl io A .bad=.bad:=rfl
@[simp] theorem pW (A:Fr)(tg:Tg)(wk:Wk)(it:aC)(b:aw):exec G cl io A (.fo tg wk it b)=(evals G cl A.sl it).toO A (kF G (bD (fh G cl io tg b)) wk it A):=by
 rfl
@[simp] theorem B7 (A:Fr)(c:Ex)(b:aw):exec G cl io A (.whl c b)=dS (mV G cl c) (ml G cl io b) 10000 A:=by
 rfl
end
def vB {j:Nat}{x:KD}(h:x.2.flat=true):ba j x=true:=by simp[ba,h]
@[simp] theorem joinK_nil:aL []=98:=rfl
@[simp] theorem kY {x:KD}{xs:au}(h:x.2.flat=true):aL (x::xs)=aL xs:=by
 have h2:∀j,ba j x=true:=λj=>vB h;unfold aL;rw[List.find?_cons_of_neg (by simp[h])];cases xs.find? λx=>!x.2.flat with
 | none=>rfl
 | some y=>
  show (if (ba y.1 x&&xs.all (ba y.1))=true then y.1 else 0)=if xs.all (ba y.1)=true then y.1 else 0
  rw[h2 y.1,Bool.true_and]
@[simp] noncomputable def outs (A:Fr):ai->Option au
 | []=>some []
 | i::is=>match A[i]? with
  | some (some x)=>(outs A is).map λxs=>x::xs
  | _=>none
@[simp] noncomputable def fin (io:ai):O->Run
 | .nx A=>match outs A io with
  | some xs=>.ret 99 .non xs
  | none=>.bad
 | .ret k d A=>match outs A io with
  | some xs=>.ret k d xs
  | none=>.bad
 | _=>.bad
@[simp] noncomputable def bo (F:Fn)(vs:au):Fr:=vs.mapIdx (λi v=>if F.io.contains i then some v else some (0,v.2))++List.replicate (F.ns - F.np) none
noncomputable def run (G:Pg):Nat->Nat->au->Run
 | 0,_,_=>.bad
 | n+1,f,vs=>match G.fn f with
  | some F=>if vs.length=F.np then fin F.io (execs G (run G n) F.io (bo F vs) F.body) else .bad
  | none=>.bad
end
end Ip
end
section
namespace Ip
open PySem
structure Tb where
 fns:List (Str×Nat)
 cls:List (Str×Nat)
 wb:Str
 att:ao
 fl:ai
 cst:List (Str×D)
 rf:ai
noncomputable def pos? (x:Str):ao->aA
 | []=>none
 | y::ys=>if y == x then some 0 else (pos? x ys).map (·+1)
theorem pos?_get {x:Str}:∀{l:ao} {i:Nat},pos? x l=some i->l[i]? = some x
 | [],_,h=>by simp[pos?] at h
 | y::ys,i,h=>by
  unfold pos? at h;by_cases e:(y == x)=true
  .rw[if_pos e] at h;cases h;simpa using e
  .rw[if_neg e] at h;cases q:pos? x ys with
   | none=>rw[q] at h; cases h
   | some j=>rw[q] at h; cases h; simpa using pos?_get q
noncomputable def oh:Operator->Option Op
 | .Add=>some .add | .Sub=>some .sub | .Mult=>some .mul | .FloorDiv=>some .fdiv | .Mod=>some .mod | .Pow=>some .pow
 | _=>none
noncomputable def f8:CmpOp->Option Op
 | .Eq=>some .eq | .NotEq=>some .ne | .Lt=>some .lt | .LtE=>some .le | .Gt=>some .gt | .GtE=>some .ge | .In=>some .isin | .NotIn=>some .nin
 | _=>none
noncomputable def bg (sc:Scope)(x:Str):Bool:=sc.names.lookup x == some .globalImplicit
noncomputable def aU (sc:Scope)(x:Str):Bool:=sc.names.lookup x == some .local||sc.names.lookup x == some .cell||sc.names.lookup x == some .free
noncomputable def bw (sc:Scope)(x:Str):Bool:=sc.names.lookup x == some .local||sc.names.lookup x == some .cell
noncomputable def lL:List (Str×Op):=[("len",.len),("list",.list),("tuple",.tuple),("all",.all),("any",.any),("int",.toInt),("sum",.sum),("sorted",.srt)]
noncomputable def jr:List (Str×Ty):=[("int",.int),("bool",.bool),("str",.str),("list",.list),("tuple",.tuple),("dict",.dict),("ValueError",.verr)]
noncomputable def gv (T:Tb)(sc:Scope):Expr->Option Ty
 | .Name x _=>if bg sc x then (match T.cls.lookup x with
  | some c=>some (.cls c)
  | none=>jr.lookup x) else none
 | _=>none
noncomputable def dM (T:Tb)(sc:Scope)(e:Expr):Option (List Ty):=(gv T sc e).map λt=>[t]
noncomputable def cP (sc:Scope)(N N':ao)(caps:List aA)(scope:Scope):Bool:=
 scope.kind == .function&&scope.names.all (λy=>(y.2 != .cell||scope.names.lookup y.1 == some .cell)&&(y.2 != .local||scope.names.lookup y.1 == some .local)&&(y.2 != .free||(sc.names.lookup y.1 == some .cell||sc.names.lookup y.1 == some .free))) &&
 caps.length == N'.length&&decide N'.Nodup&&(caps.zip N').all λp=>match p.1 with
  | none=>true
  | some j=>N[j]? == some p.2&&scope.names.lookup p.2 == some .free
noncomputable def aQ (scope:Scope):ao:=(scope.names.filter λy=>y.2 == .local||y.2 == .cell||y.2 == .free).map (·.1)
noncomputable def bc (N:ao)(scope:Scope):List aA:=(scope.names.filter λy=>y.2 == .local||y.2 == .cell||y.2 == .free).map λy=>if y.2 == .free then pos? y.1 N else none
noncomputable def cz (sc:Scope)(N:ao):Expr->Option Tg
 | .Name x _=>if bw sc x then (pos? x N).map .one else none
 | .Tuple es _ _=>(es.mapM λ(e:Expr)=>match e with
  | .Name x _=>if bw sc x then pos? x N else none
  | _=>none).map .many
 | _=>none
theorem rL (sc:Scope)(N:ao)(x:Str)(p:Pos):cz sc N (.Name x p)=if bw sc x then (pos? x N).map .one else none:=rfl
theorem t3 (sc:Scope)(N:ao)(es:aq)(k:Nat)(p:Pos):cz sc N (.Tuple es k p)=(es.mapM λ(e:Expr)=>match e with
  | .Name x _=>if bw sc x then pos? x N else none
  | _=>none).map .many:=rfl
noncomputable def aM (x:Str):Bool:=!(x == ("__debug__" : Str))&&!(x == ("__classdict__" : Str))
noncomputable def cC:Expr->Bool
 | .Set _ _ _=>false
 | _=>true
noncomputable def iM:CmpOp->Option Op
 | .Eq=>some .eq | .NotEq=>some .ne | .Lt=>some .lt | .LtE=>some .le | .Gt=>some .gt | .GtE=>some .ge
 | _=>none
noncomputable def isNone:Expr->Bool
 | .Constant .none _ _=>true
 | _=>false
noncomputable def aJ (es:aq):Bool:=es.all λe=>match e with
 | .Starred _ _=>false
 | _=>true
noncomputable def eS:Expr->Bool
 | .Call (.Name _ _) [] [] _=>false
 | _=>true
noncomputable def dJ:Wk->Tg->Bool
 | .enum,.one _=>false
 | .zip,.one _=>false
 | _,_=>true
noncomputable def cM:Tg->ai
 | .one i=>[i]
 | .many is=>is
noncomputable def bC:Expr->Option Str
 | .Name x _=>some x
 | _=>none
noncomputable def eO:Expr->Option (Expr×List Expr×List Keyword×Pos)
 | .Call f a k p=>some (f,a,k,p)
 | _=>none
noncomputable def fV:Expr->Option (Expr×Str×Pos)
 | .Attribute o m p=>some (o,m,p)
 | _=>none
noncomputable def mz:Const->Option Int
 | .int i=>some i
 | _=>none
noncomputable def mf:Expr->Option Int
 | .Constant c _ _=>mz c
 | _=>none
def gc {e:Expr}{x:Str}(h:bC e=some x):∃p,e=.Name x p:=by
 cases e <;> first | exact (bR h).elim | exact⟨_,congrArg (λx=>Expr.Name x _) (cK h)⟩
def nn {e:Expr}{x:Expr×List Expr×List Keyword×Pos}(h:eO e=some x):e=.Call x.1 x.2.1 x.2.2.1 x.2.2.2:=by
 cases e <;> first | exact (bR h).elim | exact congrArg (λx:Expr×List Expr×List Keyword×Pos=>Expr.Call x.1 x.2.1 x.2.2.1 x.2.2.2) (cK h)
def qx {e:Expr}{x:Expr×Str×Pos}(h:fV e=some x):e=.Attribute x.1 x.2.1 x.2.2:=by
 cases e <;> first | exact (bR h).elim | exact congrArg (λx:Expr×Str×Pos=>Expr.Attribute x.1 x.2.1 x.2.2) (cK h)
def Dr {c:Const}{i:Int}(h:mz c=some i):c=.int i:=by
 cases c <;> first | exact (bR h).elim | exact congrArg Const.int (cK h)
def Dl {e:Expr}{i:Int}(h:mf e=some i):∃k p,e=.Constant (.int i) k p:=by
 cases e <;> first | exact (bR h).elim | exact⟨_,_,congrArg (λc=>Expr.Constant c _ _) (Dr h)⟩
noncomputable def oy:Expr->Option Expr
 | .UnaryOp o a _=>(match o with | .USub=>some a | _=>none)
 | _=>none
noncomputable def gU (e:Expr):Bool:=(oy e).bind mf == some 1
def EN {b:Expr}(h:gU b=true):∃k p1 p2,b=.UnaryOp .USub (.Constant (.int 1) k p1) p2:=by
 obtain⟨a,n1,r1⟩:=bZ (Fm.mp h);obtain⟨k,p1,rfl⟩:=Dl r1;cases b <;> first | exact (bR n1).elim | skip
 rename_i o a p;cases o <;> first | exact (bR n1).elim | (cases n1; exact⟨_,_,_,rfl⟩)
noncomputable def lC (sc:Scope)(f:Str)(a:Expr):Option (Op×Expr):=(eO a).bind λc=>(bC c.1).bind λg=>if c.2.1.length=1/\c.2.2.1.isEmpty=true/\(bg sc g&&aJ c.2.1)=true then
  (if (f == ("sorted" : Str)&&g == ("set" : Str))=true then c.2.1.head?.map λb=>(.srtSet,b) else if (f == ("list" : Str)&&g == ("range" : Str))=true then c.2.1.head?.map λb=>(.lrng,b) else none)
 else none
def CV {sc:Scope}{f:Str}{a b:Expr}{o:Op}(h:lC sc f a=some (o,b)):∃g p1 p2,a=.Call (.Name g p1) [b] [] p2/\bg sc g=true/\aJ [b]=true/\((f = "sorted" /\ g = "set" /\ o=.srtSet)\/(f = "list" /\ g = "range" /\ o=.lrng)):=by
 unfold lC at h;obtain⟨c,n1,r1⟩:=bZ h;obtain⟨g,n2,r2⟩:=bZ r1;have e1:=nn n1;obtain⟨p,e2⟩:=gc n2;by_cases c1:c.2.1.length=1/\c.2.2.1.isEmpty=true/\(bg sc g&&aJ c.2.1)=true
 rotate_left
 .rw[if_neg c1] at r2; exact (bR r2).elim
 rw[if_pos c1] at r2;obtain⟨l1,l2,l3⟩:=c1;obtain⟨x,ex⟩:=GB.mp l1;rw[tw] at l3;have kw:c.2.2.1=[]:=Gx.mp l2;by_cases c2:(f == ("sorted" : Str)&&g == ("set" : Str))=true
 .rw[if_pos c2,ex] at r2;have r3:(Op.srtSet,x)=(o,b):=cK r2;cases r3;simp only[tw,Fm] at c2;exact⟨g,p,c.2.2.2,by rw[e1,e2,ex,kw],l3.1,by rw[<-ex]; exact l3.2,.inl ⟨c2.1,c2.2,rfl⟩⟩
 .rw[if_neg c2] at r2;by_cases c3:(f == ("list" : Str)&&g == ("range" : Str))=true
  .rw[if_pos c3,ex] at r2;have r3:(Op.lrng,x)=(o,b):=cK r2;cases r3;simp only[tw,Fm] at c3;exact⟨g,p,c.2.2.2,by rw[e1,e2,ex,kw],l3.1,by rw[<-ex]; exact l3.2,.inr ⟨c3.1,c3.2,rfl⟩⟩
  .rw[if_neg c3] at r2; exact (bR r2).elim
section
variable (T:Tb)
noncomputable def pv? (x:Str)(N:ao)(f:Nat->Ex):Ex:=match pos? x N with
 | some i=>f i
 | none=>.bad
noncomputable def pU:Expr->Bool
 | .Name _ _=>true
 | _=>false
noncomputable def dL (m:Str)(args:aq):Bool:=m == ("index" : Str)&&args.length == 1&&args.all pU
mutual
noncomputable def cE (sc:Scope)(N:ao):Nat->Expr->Ex
 | 0,_=>.bad
 | n+1,.Name x _=>if aU sc x&&aM x then pv? x N .var else if bg sc x then (match T.cst.lookup x with | some d=>.cst d | none=>.bad) else .bad
 | n+1,.Constant c _ _=>match c with
  | .none=>.cst .non
  | .bool b=>.cst (.bl b)
  | .int i=>.cst (.int i)
  | .str s=>.cst (.str s)
  | _=>.bad
 | n+1,.BinOp a o b _=>match oh o with
  | some o=>.op o [cE sc N n a,cE sc N n b]
  | none=>.bad
 | n+1,.UnaryOp o a _=>match o with
  | .Not=>.op .not [cE sc N n a]
  | .USub=>.op .neg [cE sc N n a]
  | _=>.bad
 | n+1,.BoolOp o es p=>match es with
  | []=>.bad
  | [a]=>cE sc N n a
  | a::b::es=>match o with
   | .And=>.and (cE sc N n a) (cE sc N n (.BoolOp o (b::es) p))
   | .Or=>.or (cE sc N n a) (cE sc N n (.BoolOp o (b::es) p))
 | n+1,.Compare a os bs _=>match os,bs with
  | [o],[b]=>match o with
   | .Is=>if isNone b then .op .isN [cE sc N n a] else .bad
   | .IsNot=>if isNone b then .op .notN [cE sc N n a] else .bad
   | o=>match f8 o with
    | some o=>if cC b then .op o [cE sc N n a,cE sc N n b] else .bad
    | none=>.bad
  | [o,p],[b,c]=>match iM o,iM p with
   | some o,some p=>.chain o p (cE sc N n a) (cE sc N n b) (cE sc N n c)
   | _,_=>.bad
  | _,_=>.bad
 | n+1,.IfExp c a b _=>.ite (cT sc N n c) (cE sc N n a) (cE sc N n b)
 | n+1,.List es _=>if es.length<=1000 then .op .lst (es.map (cE sc N n)) else .bad
 | n+1,.Tuple es _ _=>if es.length<=1000 then .op .tup (es.map (cE sc N n)) else .bad
 | n+1,.Subscript a i _=>match i with
  | .Slice lo hi st _=>match lo,hi,st with
   | some l,none,none=>.op .slL [cE sc N n a,cE sc N n l]
   | none,some l,none=>.op .slH [cE sc N n a,cE sc N n l]
   | some l,some h,none=>.sl2 (cE sc N n a) (cE sc N n l) (cE sc N n h)
   | none,none,some s=>if gU s then .op .rev [cE sc N n a] else .bad
   | _,_,_=>.bad
  | i=>.op .ix [cE sc N n a,cE sc N n i]
 | n+1,.Attribute o f _=>match pos? f T.att with
  | some k=>if T.fl.contains k&&eS o then .op (.fld k) [cE sc N n o] else .bad
  | none=>.bad
 | n+1,.ListComp e gs scope _=>match gs with
  | [⟨tg,iter,ifs,as⟩]=>
   if cP sc N (aQ scope) (bc N scope) scope&&as == 0&&decide (ifs.length<=1) then
    match cz scope (aQ scope) tg with
    | some g=>if dJ (cI sc N n iter).1 g&&(cM g).all (λi=>(bc N scope)[i]? == some none) then
      .comp (bc N scope) g (cI sc N n iter).1 (cI sc N n iter).2 (ifs.map (cT scope (aQ scope) n)) (cE scope (aQ scope) n e)
     else .bad
    | none=>.bad
   else .bad
  | _=>.bad
 | n+1,.Call f args kws cp=>match kws with
  | []=>match f with
   | .Name f _=>if bg sc f then
     match T.fns.lookup f with
     | some k=>if aJ args then .call k (args.map (cE sc N n)) else .bad
     | none=>match T.cls.lookup f with
      | some c=>if aJ args then .make c (args.map (cE sc N n)) else .bad
      | none=>cB sc N n f args
    else .bad
   | .Attribute o m ap=>match pos? m T.att with
     | some k=>if eS o&&aJ args&&decide (args.length<30)&&ap.endLine == cp.line then .meth k (cE sc N n o) (args.map (cE sc N n)) else .bad
     | none=>if dL m args&&eS o&&aJ args&&ap.endLine == cp.line then .op .index ((o::args).map (cE sc N n)) else .bad
   | _=>.bad
  | _=>.bad
 | _,_=>.bad
noncomputable def cT (sc:Scope)(N:ao):Nat->Expr->Ex
 | 0,_=>.bad
 | n+1,.BoolOp o es p=>match es with
  | []=>.bad
  | [a]=>cT sc N n a
  | a::b::es=>match o with
   | .And=>.and (cT sc N n a) (cT sc N n (.BoolOp o (b::es) p))
   | .Or=>.or (cT sc N n a) (cT sc N n (.BoolOp o (b::es) p))
 | n+1,.UnaryOp .Not a _=>.op .not [cT sc N n a]
 | n+1,.IfExp _ _ _ _=>.bad
 | n+1,e=>cE sc N n e
noncomputable def cB (sc:Scope)(N:ao):Nat->Str->aq->Ex
 | 0,_,_=>.bad
 | n+1,f,args=>match args with
  | [a]=>match lC sc f a with
   | some (o,b)=>.op o [cE sc N n b]
   | none=>match lL.lookup f with
    | some o=>.op o [cE sc N n a]
    | none=>.bad
  | [a,b]=>if f == ("isinstance" : Str) then (match dM T sc b with
    | some ts=>.op (.isi ts) [cE sc N n a]
    | none=>.bad)
   else if f == ("min" : Str)&&aJ [a,b] then .op .min2 [cE sc N n a,cE sc N n b]
   else .bad
  | _=>.bad
noncomputable def cI (sc:Scope)(N:ao):Nat->Expr->Wk×aC
 | 0,_=>(.seq,[.bad])
 | n+1,e=>match e with
  | .Call (.Name f p) args [] q=>
   if bg sc f&&f == ("range" : Str)&&aJ args then match args with
    | [a]=>(.rng1,[cE sc N n a])
    | [a,b]=>(.rng2,[cE sc N n a,cE sc N n b])
    | _=>(.seq,[.bad])
   else if bg sc f&&f == ("enumerate" : Str)&&aJ args then match args with
    | [a]=>(.enum,[cE sc N n a])
    | _=>(.seq,[.bad])
   else if bg sc f&&f == ("zip" : Str)&&aJ args then match args with
    | [a,b]=>(.zip,[cE sc N n a,cE sc N n b])
    | _=>(.seq,[.bad])
   else if bg sc f&&f == ("reversed" : Str)&&aJ args then match args with
    | [a]=>(.rev,[cE sc N n a])
    | _=>(.seq,[.bad])
   else (.seq,[cE sc N n (.Call (.Name f p) args [] q)])
  | e=>(.seq,[cE sc N n e])
end
theorem wP (sc:Scope)(N:ao)(n:Nat)(x:Str)(p:Pos):cE T sc N (n+1) (.Name x p)=if aU sc x&&aM x then pv? x N .var else if bg sc x then (match T.cst.lookup x with | some d=>.cst d | none=>.bad) else .bad:=rfl
theorem rB (sc:Scope)(N:ao)(n:Nat)(a:Expr)(os:List CmpOp)(bs:aq)(p:Pos):cE T sc N (n+1) (.Compare a os bs p)=match os,bs with
  | [o],[b]=>match o with
   | .Is=>if isNone b then .op .isN [cE T sc N n a] else .bad
   | .IsNot=>if isNone b then .op .notN [cE T sc N n a] else .bad
   | o=>match f8 o with
    | some o=>if cC b then .op o [cE T sc N n a,cE T sc N n b] else .bad
    | none=>.bad
  | [o,p],[b,c]=>match iM o,iM p with
   | some o,some p=>.chain o p (cE T sc N n a) (cE T sc N n b) (cE T sc N n c)
   | _,_=>.bad
  | _,_=>.bad:=rfl
theorem Bu (sc:Scope)(N:ao)(n:Nat)(c a b:Expr)(p:Pos):cE T sc N (n+1) (.IfExp c a b p)=.ite (cT T sc N n c) (cE T sc N n a) (cE T sc N n b):=rfl
theorem Az (sc:Scope)(N:ao)(n:Nat)(es:aq)(p:Pos):cE T sc N (n+1) (.List es p)=if es.length<=1000 then .op .lst (es.map (cE T sc N n)) else .bad:=rfl
theorem As (sc:Scope)(N:ao)(n:Nat)(es:aq)(k:Nat)(p:Pos):cE T sc N (n+1) (.Tuple es k p)=if es.length<=1000 then .op .tup (es.map (cE T sc N n)) else .bad:=rfl
theorem kP (sc:Scope)(N:ao)(n:Nat)(a i:Expr)(p:Pos):cE T sc N (n+1) (.Subscript a i p)=match i with
  | .Slice lo hi st _=>match lo,hi,st with
   | some l,none,none=>.op .slL [cE T sc N n a,cE T sc N n l]
   | none,some l,none=>.op .slH [cE T sc N n a,cE T sc N n l]
   | some l,some h,none=>.sl2 (cE T sc N n a) (cE T sc N n l) (cE T sc N n h)
   | none,none,some s=>if gU s then .op .rev [cE T sc N n a] else .bad
   | _,_,_=>.bad
  | i=>.op .ix [cE T sc N n a,cE T sc N n i]:=rfl
theorem Dv (sc:Scope)(N:ao)(n:Nat)(o:Expr)(f:Str)(p:Pos):cE T sc N (n+1) (.Attribute o f p)=match pos? f T.att with
  | some k=>if T.fl.contains k&&eS o then .op (.fld k) [cE T sc N n o] else .bad
  | none=>.bad:=rfl
theorem uu (sc:Scope)(N:ao)(n:Nat)(e:Expr)(gs:List Comprehension)(scope:Scope)(p:Pos):cE T sc N (n+1) (.ListComp e gs scope p)=match gs with
  | [⟨tg,iter,ifs,as⟩]=>
   if cP sc N (aQ scope) (bc N scope) scope&&as == 0&&decide (ifs.length<=1) then
    match cz scope (aQ scope) tg with
    | some g=>if dJ (cI T sc N n iter).1 g&&(cM g).all (λi=>(bc N scope)[i]? == some none) then
      .comp (bc N scope) g (cI T sc N n iter).1 (cI T sc N n iter).2 (ifs.map (cT T scope (aQ scope) n)) (cE T scope (aQ scope) n e)
     else .bad
    | none=>.bad
   else .bad
  | _=>.bad:=rfl
theorem tD (sc:Scope)(N:ao)(n:Nat)(f:Expr)(args:aq)(kws:List Keyword)(cp:Pos):cE T sc N (n+1) (.Call f args kws cp)=match kws with
  | []=>match f with
   | .Name f _=>if bg sc f then
     match T.fns.lookup f with
     | some k=>if aJ args then .call k (args.map (cE T sc N n)) else .bad
     | none=>match T.cls.lookup f with
      | some c=>if aJ args then .make c (args.map (cE T sc N n)) else .bad
      | none=>cB T sc N n f args
    else .bad
   | .Attribute o m ap=>match pos? m T.att with
     | some k=>if eS o&&aJ args&&decide (args.length<30)&&ap.endLine == cp.line then .meth k (cE T sc N n o) (args.map (cE T sc N n)) else .bad
     | none=>if dL m args&&eS o&&aJ args&&ap.endLine == cp.line then .op .index ((o::args).map (cE T sc N n)) else .bad
   | _=>.bad
  | _=>.bad:=rfl
theorem vV (sc:Scope)(N:ao)(n:Nat)(f:Str)(args:aq):cB T sc N (n+1) f args=match args with
  | [a]=>match lC sc f a with
   | some (o,b)=>.op o [cE T sc N n b]
   | none=>match lL.lookup f with
    | some o=>.op o [cE T sc N n a]
    | none=>.bad
  | [a,b]=>if f == ("isinstance" : Str) then (match dM T sc b with
    | some ts=>.op (.isi ts) [cE T sc N n a]
    | none=>.bad)
   else if f == ("min" : Str)&&aJ [a,b] then .op .min2 [cE T sc N n a,cE T sc N n b]
   else .bad
  | _=>.bad:=rfl
theorem Bc (sc:Scope)(N:ao)(n:Nat)(e:Expr):cI T sc N (n+1) e=match e with
  | .Call (.Name f p) args [] q=>
   if bg sc f&&f == ("range" : Str)&&aJ args then match args with
    | [a]=>(.rng1,[cE T sc N n a])
    | [a,b]=>(.rng2,[cE T sc N n a,cE T sc N n b])
    | _=>(.seq,[.bad])
   else if bg sc f&&f == ("enumerate" : Str)&&aJ args then match args with
    | [a]=>(.enum,[cE T sc N n a])
    | _=>(.seq,[.bad])
   else if bg sc f&&f == ("zip" : Str)&&aJ args then match args with
    | [a,b]=>(.zip,[cE T sc N n a,cE T sc N n b])
    | _=>(.seq,[.bad])
   else if bg sc f&&f == ("reversed" : Str)&&aJ args then match args with
    | [a]=>(.rev,[cE T sc N n a])
    | _=>(.seq,[.bad])
   else (.seq,[cE T sc N n (.Call (.Name f p) args [] q)])
  | e=>(.seq,[cE T sc N n e]):=rfl
noncomputable def ps? (x:Str)(N:ao)(f:Nat->S):S:=match pos? x N with
 | some i=>f i
 | none=>.bad
noncomputable def fk:Expr->Bool
 | .Call _ _ _ _=>true
 | .Name _ _=>true
 | _=>false
noncomputable def i4:Expr->Option (Expr×Expr×Pos)
 | .Subscript a i p=>some (a,i,p)
 | _=>none
def vk {e:Expr}{x:Expr×Expr×Pos}(h:i4 e=some x):e=.Subscript x.1 x.2.1 x.2.2:=by
 cases e <;> first | exact (bR h).elim | (cases h; rfl)
noncomputable def fZ (e:Expr):Option (Str×Str):=(i4 e).bind λt=>(bC t.1).bind λx=>(bC t.2.1).map λj=>(x,j)
def pj {e:Expr}{x j:Str}(h:fZ e=some (x,j)):∃p1 p2 p3,e=.Subscript (.Name x p1) (.Name j p2) p3:=by
 obtain⟨t,n1,r1⟩:=bZ h;obtain⟨x',n2,r2⟩:=bZ r1;obtain⟨j',n3,r3⟩:=cg r2;cases r3;obtain⟨p1,e1⟩:=gc n2;obtain⟨p2,e2⟩:=gc n3;exact⟨p1,p2,t.2.2,by rw[vk n1,e1,e2]⟩
noncomputable def iY (e:Expr):Option (Str×Str):=(fV e).bind λt=>(bC t.1).map λx=>(x,t.2.1)
def Cs {e:Expr}{x f:Str}(h:iY e=some (x,f)):∃p1 p2,e=.Attribute (.Name x p1) f p2:=by
 obtain⟨t,n1,r1⟩:=bZ h;obtain⟨x',n2,r2⟩:=cg r1;cases r2;obtain⟨p1,e1⟩:=gc n2;exact⟨p1,t.2.2,by rw[qx n1,e1]⟩
noncomputable def ly:Expr->Bool
 | .ListComp _ _ _ _=>true
 | _=>false
noncomputable def jy (e:Expr):Option (Str×Str×Pos×List Expr×Pos):=(eO e).bind λc=>(fV c.1).bind λt=>(bC t.1).bind λx=>if c.2.2.1.isEmpty=true then some (x,t.2.1,t.2.2,c.2.1,c.2.2.2) else none
def y8 {e:Expr}{x f:Str}{mp cp:Pos}{a:aq}(h:jy e=some (x,f,mp,a,cp)):∃p1,e=.Call (.Attribute (.Name x p1) f mp) a [] cp:=by
 obtain⟨t,n1,r1⟩:=bZ h;obtain⟨u,n2,r2⟩:=bZ r1;obtain⟨x',n3,r3⟩:=bZ r2;by_cases c:t.2.2.1.isEmpty=true
 rotate_left
 .rw[if_neg c] at r3; exact (bR r3).elim
 rw[if_pos c] at r3;cases r3;obtain⟨p1,e1⟩:=gc n3;exact⟨p1,by rw[nn n1,qx n2,e1,Gx.mp c]⟩
noncomputable def gW:Expr->Option aq
 | .Tuple es _ _=>some es
 | _=>none
def uY {e:Expr}{es:aq}(h:gW e=some es):∃k p,e=.Tuple es k p:=by
 cases e <;> first | exact (bR h).elim | (cases h; exact⟨_,_,rfl⟩)
noncomputable def jM (sc:Scope)(N:ao)(n:Nat)(ts:aq)(e:Expr):S:=match ts with
 | []=>.bad
 | t::r=>if r.isEmpty=true then (match bC t with
  | some x=>if bw sc x then ps? x N λi=>.set i (cE T sc N n e) else .bad
  | none=>match fZ t with
   | some (x,j)=>if aU sc x&&aM x&&aU sc j&&aM j then ps? x N λk=>ps? j N λi=>.put k [] (.var i) (cE T sc N n e) else .bad
   | none=>match iY t with
    | some (x,f)=>if aU sc x&&aM x then ps? x N λk=>ps? f T.att λj=>if T.fl.contains j then .sfld k j (cE T sc N n e) else .bad else .bad
    | none=>match gW t with
     | some _=>if fk e then (match cz sc N t with
      | some (.many is)=>.setT is (cE T sc N n e)
      | _=>.bad) else .bad
     | none=>.bad) else .bad
noncomputable def lj (sc:Scope)(N:ao)(n:Nat)(x:Str)(mp cp:Pos)(args:aq):S:=match args with
 | [a]=>if aJ [a]&&mp.endLine == cp.line then ps? x N λi=>.mut i [] .append [cE T sc N n a] else .bad
 | _=>.bad
noncomputable def lX (sc:Scope)(N:ao)(n:Nat)(x:Str)(mp cp:Pos)(args:aq):S:=match args with
 | [a]=>if aJ [a]&&mp.endLine == cp.line then ps? x N λi=>.mut i [] .extend [cE T sc N n a] else .bad
 | _=>.bad
noncomputable def mr (sc:Scope)(N:ao)(n:Nat)(x:Str)(mp cp:Pos)(args:aq):S:=match args with
 | [a]=>if aJ [a]&&mp.endLine == cp.line then ps? x N λi=>.mut i [] .remove [cE T sc N n a] else .bad
 | _=>.bad
noncomputable def gy (e:Expr):Option (Str×ao):=match fZ e with
 | some (x,i)=>some (x,[i])
 | none=>(i4 e).bind λt=>(fZ t.1).bind λu=>(bC t.2.1).map λj=>(u.1,[u.2,j])
inductive Pth:Expr->Str->ao->Prop
 | one {x i:Str} {p1 p2 p3:Pos}:Pth (.Subscript (.Name x p1) (.Name i p2) p3) x [i]
 | two {x i j:Str} {p1 p2 p3 p4 p5:Pos}:Pth (.Subscript (.Subscript (.Name x p1) (.Name i p2) p3) (.Name j p4) p5) x [i,j]
def xR {e:Expr}{x:Str}{is:ao}(h:gy e=some (x,is)):Pth e x is:=by
 unfold gy at h;cases q:fZ e with
 | some u=>
  obtain⟨x',i⟩:=u;rw[q] at h;cases h;obtain⟨p1,p2,p3,e3⟩:=pj q;rw[e3]; exact .one
 | none=>
  rw[q] at h;obtain⟨t,n1,r1⟩:=bZ h;obtain⟨u,n2,r2⟩:=bZ r1;obtain⟨j,n3,r3⟩:=cg r2;cases r3;obtain⟨p1,p2,p3,e2⟩:=pj n2;obtain⟨p4,e3⟩:=gc n3;rw[vk n1,e2,e3]; exact .two
noncomputable def jY (es:aq):Option Str:=if es.length=1 then es.head?.bind bC else none
def DJ {es:aq}{y:Str}(h:jY es=some y):∃p,es=[.Name y p]:=by
 unfold jY at h;split at h
 .rename_i hl;obtain⟨a,rfl⟩:=GB.mp hl;obtain⟨p,e⟩:=gc (show bC a=some y from h);exact⟨p,by rw[e]⟩
 .cases h
noncomputable def cn (sc:Scope)(x:Str):Bool:=aU sc x&&aM x
noncomputable def nH (sc:Scope)(e:Expr):Option (Str×List Str×Bool×Str):=(eO e).bind λc=>(fV c.1).bind λt=>(gy t.1).bind λu=>(jY c.2.1).bind λy=>
 if (cn sc u.1&&u.2.all (cn sc)&&cn sc y&&c.2.2.1.isEmpty&&t.2.2.endLine == c.2.2.2.line&&(t.2.1 == ("append" : Str)||t.2.1 == ("remove" : Str)))=true then some (u.1,u.2,t.2.1 == ("remove" : Str),y) else none
def Ab {sc:Scope}{e:Expr}{x y:Str}{is:ao}{rm:Bool}(h:nH sc e=some (x,is,rm,y)):∃b f p4 p5 p6,e=.Call (.Attribute b f p4) [.Name y p6] [] p5/\Pth b x is/\cn sc x=true/\(∀i∈is,cn sc i=true)/\cn sc y=true/\(p4.endLine == p5.line)=true/\((f = "append" /\ rm=false)\/(f = "remove" /\ rm=true)):=by
 unfold nH at h;obtain⟨c,n1,r1⟩:=bZ h;obtain⟨t,n2,r2⟩:=bZ r1;obtain⟨u,n3,r3⟩:=bZ r2;obtain⟨z,n4,r4⟩:=bZ r3;split at r4
 .rename_i c1;cases r4;simp only[tw,FM,List.all_eq_true] at c1;obtain⟨⟨⟨⟨⟨q1,q2⟩,q3⟩,q4⟩,q5⟩,q6⟩:=c1;obtain⟨p6,e6⟩:=DJ n4;refine⟨t.1,t.2.1,t.2.2,c.2.2.2,p6,by rw[nn n1,qx n2,e6,Gx.mp q4],xR n3,q1,q2,q3,q5,?_⟩;rcases q6 with q | q
  .have e:t.2.1 = "append":=by simpa using q
   rw[e]; exact .inl ⟨rfl,rfl⟩
  .have e:t.2.1 = "remove":=by simpa using q
   rw[e]; exact .inr ⟨rfl,rfl⟩
 .cases r4
noncomputable def fY (N:ao):ao->Option ai
 | []=>some []
 | x::xs=>(pos? x N).bind λi=>(fY N xs).map λis=>i::is
noncomputable def tG (N:ao)(x:Str)(is:ao)(rm:Bool)(y:Str):S:=ps? x N λa=>ps? y N λc=>match fY N is with
 | some bs=>.nest a bs rm c
 | none=>.bad
noncomputable def g8 (sc:Scope)(e:Expr):Option (Nat×Str×aq):=(eO e).bind λc=>(bC c.1).bind λf=>(T.fns.lookup f).bind λk=>(c.2.1.head?.bind bC).bind λx=>
 if (T.rf.contains k&&bg sc f&&cn sc x&&aJ c.2.1.tail&&c.2.2.1.isEmpty)=true then some (k,x,c.2.1.tail) else none
def Ae {sc:Scope}{e:Expr}{k:Nat}{x:Str}{as:aq}(h:g8 T sc e=some (k,x,as)):∃f p p1 p2,e=.Call (.Name f p) (.Name x p1::as) [] p2/\T.fns.lookup f=some k/\bg sc f=true/\cn sc x=true/\aJ as=true:=by
 unfold g8 at h;obtain⟨c,n1,r1⟩:=bZ h;obtain⟨f,n2,r2⟩:=bZ r1;obtain⟨k',n3,r3⟩:=bZ r2;obtain⟨x',n4,r4⟩:=bZ r3;obtain⟨a,n5,r5⟩:=bZ n4;split at r4
 .rename_i c1;cases r4;simp only[tw] at c1;obtain⟨⟨⟨⟨_,q2⟩,q3⟩,q4⟩,q5⟩:=c1;obtain⟨p,e1⟩:=gc n2;obtain⟨p1,e2⟩:=gc r5;refine⟨f,p,p1,c.2.2.2,?_,n3,q2,q3,q4⟩;have:c.2.1=a::c.2.1.tail:=by
   cases hc:c.2.1 with
   | nil=>rw[hc] at n5; cases n5
   | cons b r=>rw[hc] at n5; cases n5; rfl
  rw[nn n1,e1,Gx.mp q5,<-e2,<-this]
 .cases r4
noncomputable def jE (sc:Scope)(N:ao)(n:Nat)(e:Expr):S:=match jy e with
 | some (x,m,mp,args,cp)=>
  if aU sc x&&aM x&&m == ("append" : Str) then lj T sc N n x mp cp args
  else if aU sc x&&aM x&&m == ("extend" : Str) then lX T sc N n x mp cp args
  else if aU sc x&&aM x&&m == ("remove" : Str) then mr T sc N n x mp cp args
  else .ex (cE T sc N n e)
 | none=>if ly e then .bad else match nH sc e with
  | some (x,is,rm,y)=>tG N x is rm y
  | none=>match g8 T sc e with
   | some (k,x,as)=>ps? x N λi=>.byref k i (as.map (cE T sc N n))
   | none=>.ex (cE T sc N n e)
noncomputable def jO:Expr->Option Str
 | .Constant c _ _=>(match c with | .str s=>some s | _=>none)
 | _=>none
def yT {e:Expr}{s:Str}(h:jO e=some s):∃k p,e=.Constant (.str s) k p:=by
 cases e <;> first | exact (bR h).elim | skip
 rename_i c k p;cases c <;> first | exact (bR h).elim | (cases h; exact⟨_,_,rfl⟩)
noncomputable def mN (sc:Scope)(e:Expr):Option (Str×Str):=(gW e).bind λes=>if es.length=2 then (es.head?.bind jO).bind λs=>(es.getLast?.bind bC).bind λx=>if (aU sc x&&aM x)=true then some (s,x) else none else none
def Di {sc:Scope}{e:Expr}{s x:Str}(h:mN sc e=some (s,x)):∃k1 p1 p2 k3 p3,e=.Tuple [.Constant (.str s) k1 p1,.Name x p2] k3 p3/\aU sc x=true/\aM x=true:=by
 unfold mN at h;obtain⟨es,n1,r1⟩:=bZ h;obtain⟨k3,p3,e1⟩:=uY n1;by_cases c1:es.length=2
 rotate_left
 .rw[if_neg c1] at r1; exact (bR r1).elim
 rw[if_pos c1] at r1;obtain⟨a,b,rfl⟩:∃a b,es=[a,b]:=by
  match es,c1 with
  | [a,b],_=>exact⟨a,b,rfl⟩
 obtain⟨s',n2,r2⟩:=bZ r1;obtain⟨x',n3,r3⟩:=bZ r2;by_cases c2:(aU sc x'&&aM x')=true
 rotate_left
 .rw[if_neg c2] at r3; exact (bR r3).elim
 rw[if_pos c2] at r3;cases r3;obtain⟨k1,p1,e2⟩:=yT (show jO a=some s from n2);obtain⟨p2,e3⟩:=gc (show bC b=some x from n3);rw[tw] at c2;exact⟨k1,p1,p2,k3,p3,by rw[e1,e2,e3],c2.1,c2.2⟩
noncomputable def nO:Ex->Bool
 | .var _=>true
 | _=>false
noncomputable def jD (sc:Scope)(N:ao)(n:Nat)(o:Option Expr):S:=match o with
 | none=>.ret (.cst .non)
 | some e=>match bC e with
  | some x=>if aU sc x&&aM x then ps? x N λi=>.ret (.var i) else .bad
  | none=>match mN sc e with
   | some (s,x)=>ps? x N λi=>.retP s i
   | none=>if nO (cE T sc N n e) then .bad else .ret (cE T sc N n e)
noncomputable def jK (sc:Scope)(N:ao)(n:Nat)(tg it:Expr)(b els:aE)(cb:aw):S:=match els with
 | _::_=>.bad
 | []=>match cz sc N tg with
   | some g=>if dJ (cI T sc N n it).1 g then .fo g (cI T sc N n it).1 (cI T sc N n it).2 cb else .bad
   | none=>.bad
noncomputable def cS (sc:Scope)(N:ao):Nat->Stmt->S
 | 0,_=>.bad
 | n+1,.Assign ts e _=>jM T sc N n ts e
 | n+1,.Expr e _=>jE T sc N n e
 | n+1,.Return o _=>jD T sc N n o
 | n+1,.If c a b _=>.iff (cT T sc N n c) (a.map (cS sc N n)) (b.map (cS sc N n))
 | n+1,.For tg it b els _=>jK T sc N n tg it b els (b.map (cS sc N n))
 | n+1,.While c b els _=>if els.isEmpty=true then .whl (cT T sc N n c) (b.map (cS sc N n)) else .bad
 | _,_=>.bad
theorem zX (sc:Scope)(N:ao)(n:Nat)(ts:aq)(e:Expr)(p:Pos):cS T sc N (n+1) (.Assign ts e p)=jM T sc N n ts e:=rfl
theorem zb (sc:Scope)(N:ao)(n:Nat)(e:Expr)(p:Pos):cS T sc N (n+1) (.Expr e p)=jE T sc N n e:=rfl
theorem zd (sc:Scope)(N:ao)(n:Nat)(o:Option Expr)(p:Pos):cS T sc N (n+1) (.Return o p)=jD T sc N n o:=rfl
theorem A9 (sc:Scope)(N:ao)(n:Nat)(c:Expr)(b els:aE)(p:Pos):cS T sc N (n+1) (.While c b els p)=if els.isEmpty=true then .whl (cT T sc N n c) (b.map (cS T sc N n)) else .bad:=rfl
theorem AW (sc:Scope)(N:ao)(n:Nat)(tg it:Expr)(b els:aE)(p:Pos):cS T sc N (n+1) (.For tg it b els p)=jK T sc N n tg it b els (b.map (cS T sc N n)):=rfl
noncomputable def pz:Expr->Option D
 | .Constant .none _ _=>some .non
 | .Constant (.bool b) _ _=>some (.bl b)
 | .Constant (.int i) _ _=>some (.int i)
 | .Constant (.str s) _ _=>some (.str s)
 | _=>none
noncomputable def fS (a:Arguments)(sc:Scope):ao:=
 let ps:=a.args.map (·.arg)
 ps++((sc.names.filter λy=>(y.2 == .local||y.2 == .cell)&&!ps.contains y.1).map (·.1))
noncomputable def cF (io:ai):Stmt->Option Fn
 | .FunctionDef _ a body [] _ _ sc _ _ _=>(a.defaults.mapM pz).map λds=>⟨a.args.length,io,(fS a sc).length,ds,body.map (cS T sc (fS a sc) 60)⟩
 | _=>none
end
end Ip
end
section
namespace L2
open PySem PySem.Spec PyProof.Rows
open Ip (D KD Ex Op Pg Fn Sl Fr Wk Tg Tb)
structure Wd where
 K:be
 iA:Nat->aB
 att:ao
def Sub (S H:Hp):Prop:=∀a o,S a=some o->H a=some o
def Sub.refl (H:Hp):Sub H H:=λ_ _ h=>h
def Sub.trans {A B C:Hp}(h:Sub A B)(k:Sub B C):Sub A C:=λa o e=>k a o (h a o e)
theorem Sub.upd {H:Hp}{a:Addr}{o:HO}(h:H a=none):Sub H (upd H a o):=λb u e=>by
 rw[bT (λz=>by rw[z,h] at e; cases e)]; exact e
theorem Sub.none {A B:Hp}(h:Sub A B){a:Addr}(e:B a=none):A a=none:=by
 cases q:A a with
 | none=>rfl
 | some o=>rw[h a o q] at e; cases e
open Classical in
noncomputable def hid (N:Addr->Prop)(H:Hp):Hp:=λa=>if N a then none else H a
def aS {N:Addr->Prop}{H:Hp}{a:Addr}{o:HO}:hid N H a=some o↔¬N a/\H a=some o:=by
 unfold hid;by_cases h:N a
 .simp[h]
 .simp[h]
def bq {N:Addr->Prop}{H:Hp}:Sub (hid N H) H:=λ_ _ e=>(aS.mp e).2
def ga {N N':Addr->Prop}{H H':Hp}(h:Sub H H')(n:∀a,N' a->N a\/H a=none):Sub (hid N H) (hid N' H'):=λa o e=>by
 obtain⟨h1,h2⟩:=aS.mp e;refine aS.mpr ⟨λz=>?_,h a o h2⟩;rcases n a z with q | q
 .exact h1 q
 .rw[h2] at q; cases q
theorem Rd.sub {S H:Hp}{a:Addr}{u:HO}(h:Sub S H):Rd S a u->Rd H a u
 | .inl e=>.inl (h _ _ e)
 | .inr ⟨o,e⟩=>.inr ⟨o,h _ _ e⟩
theorem SqL.sub {K:be}{S H:Hp}{a:Addr}{xs:ar}(h:Sub S H):SqL K S a xs->SqL K H a xs:=by
 intro hZ;cases hZ with
 | inl e=>exact .inl (Rd.sub h e)
 | inr e=>exact .inr e
theorem SqT.sub {K:be}{S H:Hp}{a:Addr}{xs:ar}(h:Sub S H):SqT K S a xs->SqT K H a xs:=by
 intro hZ;cases hZ with
 | inl e=>exact .inl (Rd.sub h e)
 | inr e=>exact .inr e
mutual
inductive Den (W:Wd) (S:Hp):V->D->Prop
 | non:Den W S .non .non
 | bl {b:Bool}:Den W S (.bl b) (.bl b)
 | int {i:Int}:Den W S (.int i) (.int i)
 | str {s:Str}:Den W S (.str s) (.str s)
 | lst {a:Addr} {vs:ar} {ds:av} (h:Rd S a (.lst vs)) (q:Dens W S vs ds):Den W S (.ref a) (.lst ds)
 | tup {a:Addr} {vs:ar} {ds:av} (h:SqT W.K S a vs) (q:Dens W S vs ds):Den W S (.ref a) (.tup ds)
 | ins {a C dx:Addr} {c:Nat} {fs:List (Str×V)} {ds:aF} (h:S a=some (.ins C dx fs)) (hc:W.iA c=some C) (q:DenF W S fs ds):Den W S (.ref a) (.ins c ds)
inductive Dens (W:Wd) (S:Hp):ar->av->Prop
 | nil:Dens W S [] []
 | cons {v:V} {d:D} {vs:ar} {ds:av} (h:Den W S v d) (q:Dens W S vs ds):Dens W S (v::vs) (d::ds)
inductive DenF (W:Wd) (S:Hp):List (Str×V)->aF->Prop
 | nil:DenF W S [] []
 | cons {n:Str} {f:Nat} {v:V} {d:D} {vs:List (Str×V)} {ds:aF} (hf:W.att[f]? = some n) (h:Den W S v d) (q:DenF W S vs ds):DenF W S ((n,v)::vs) ((f,d)::ds)
end
mutual
theorem Den.mono {W:Wd}{S H:Hp}(h:Sub S H):∀{v d},Den W S v d->Den W H v d:=by
 intro _ _ hZ;cases hZ with
 | non=>exact .non
 | bl=>exact .bl
 | int=>exact .int
 | str=>exact .str
 | lst e q=>exact .lst (Rd.sub h e) (q.mono h)
 | tup e q=>exact .tup (SqT.sub h e) (q.mono h)
 | ins e hc q=>exact .ins (h _ _ e) hc (q.mono h)
theorem Dens.mono {W:Wd}{S H:Hp}(h:Sub S H):∀{v d},Dens W S v d->Dens W H v d:=by
 intro _ _ hZ;cases hZ with
 | nil=>exact .nil
 | cons e q=>exact .cons (e.mono h) (q.mono h)
theorem DenF.mono {W:Wd}{S H:Hp}(h:Sub S H):∀{v d},DenF W S v d->DenF W H v d:=by
 intro _ _ hZ;cases hZ with
 | nil=>exact .nil
 | cons f e q=>exact .cons f (e.mono h) (q.mono h)
end
theorem Dens.length {W:Wd}{S:Hp}:∀{vs ds},Dens W S vs ds->vs.length=ds.length:=by
 intro _ _ hZ;cases hZ with
 | nil=>exact rfl
 | cons _ q=>rw[List.length_cons,List.length_cons,q.length]
theorem Dens.get {W:Wd}{S:Hp}:∀{vs ds} {i:Nat} {d:D},Dens W S vs ds->ds[i]? = some d->∃v,vs[i]? = some v/\Den W S v d
 | _,_,_,_,.nil,e=>by simp at e
 | _,_,0,_,.cons h _,e=>by simp at e; subst e; exact⟨_,rfl,h⟩
 | _,_,i+1,_,.cons _ q,e=>by simpa using q.get (i:=i) (by simpa using e)
theorem Dens.append {W:Wd}{S:Hp}:∀{vs ws ds es},Dens W S vs ds->Dens W S ws es->Dens W S (vs++ws) (ds++es):=by
 intro _ _ _ _ hZ;cases hZ with
 | nil=>exact λq=>q
 | cons h t=>exact λq=>.cons h (t.append q)
theorem Dens.take {W:Wd}{S:Hp}:∀{vs ds} (n:Nat),Dens W S vs ds->Dens W S (vs.take n) (ds.take n)
 | _,_,0,_=>.nil
 | _,_,_+1,.nil=>.nil
 | _,_,n+1,.cons h t=>.cons h (t.take n)
theorem Dens.drop {W:Wd}{S:Hp}:∀{vs ds} (n:Nat),Dens W S vs ds->Dens W S (vs.drop n) (ds.drop n)
 | _,_,0,h=>h
 | _,_,_+1,.nil=>.nil
 | _,_,n+1,.cons _ t=>t.drop n
theorem Dens.set {W:Wd}{S:Hp}{v:V}{d:D}(r:Den W S v d):∀{vs ds} (i:Nat),Dens W S vs ds->Dens W S (vs.set i v) (ds.set i d)
 | _,_,_,.nil=>.nil
 | _,_,0,.cons _ t=>.cons r t
 | _,_,i+1,.cons q t=>.cons q (t.set r i)
theorem DenF.length {W:Wd}{S:Hp}:∀{vs ds},DenF W S vs ds->vs.length=ds.length:=by
 intro _ _ hZ;cases hZ with
 | nil=>exact rfl
 | cons _ _ q=>rw[List.length_cons,List.length_cons,q.length]
def pE {l:ao}(nd:l.Nodup){i j:Nat}{x:Str}(h:l[i]? = some x)(k:l[j]? = some x):i=j:=pP nd h k
theorem DenF.lookup {W:Wd}{S:Hp}(nd:W.att.Nodup){f:Nat}{n:Str}(hn:W.att[f]? = some n):∀{vs ds},DenF W S vs ds->(∀d,ds.lookup f=some d->∃v,vs.lookup n=some v/\Den W S v d)/\(ds.lookup f=none->vs.lookup n=none)
 | _,_,.nil=>⟨(λ_ e=>nomatch e),λ_=>rfl⟩
 | _,_,.cons (n:=m) (f:=g) hg h q=>by
  obtain⟨i1,i2⟩:=q.lookup nd hn;by_cases e:g=f
  .subst e;have:m=n:=by rw[hn] at hg; exact (cK hg).symm
   subst this;simp only[List.lookup_cons,beq_self_eq_true];exact⟨λd z=>⟨_,rfl,by cases cK z; exact h⟩,λz=>nomatch z⟩
  .have nm:n≠m:=λz=>e (pE nd hg (by rw[<-z]; exact hn));have b1:(f == g)=false:=by simpa using λz=>e (Eq.symm z)
   have b2:(n == m)=false:=by simpa using nm
   simp only[List.lookup_cons,b1,b2];exact⟨i1,i2⟩
theorem DenF.put {W:Wd}{S:Hp}(nd:W.att.Nodup){f:Nat}{n:Str}{v:V}{d:D}(hn:W.att[f]? = some n)(r:Den W S v d):∀{vs ds},DenF W S vs ds->DenF W S (putF n v vs) (Ip.putF f d ds)
 | _,_,.nil=>.cons hn r .nil
 | _,_,.cons (n:=m) (f:=g) hg h q=>by
  unfold putF Ip.putF;by_cases e:g=f
  .subst e;have:m=n:=by rw[hn] at hg; exact (cK hg).symm
   subst this;rw[if_pos rfl,if_pos rfl];exact .cons hg r q
  .have nm:m≠n:=λz=>e (pE nd hg (by rw[z]; exact hn));rw[if_neg e,if_neg nm];exact .cons hg h (q.put nd hn r)
inductive OwnL (P:V->D->ak->Prop):ar->av->ak->Prop
 | nil:OwnL P [] [] []
 | cons {v:V} {d:D} {f:ak} {vs:ar} {ds:av} {g:ak} (h:P v d f) (q:OwnL P vs ds g):OwnL P (v::vs) (d::ds) (f++g)
inductive OwnF (att:ao) (P:V->D->ak->Prop):List (Str×V)->aF->ak->Prop
 | nil:OwnF att P [] [] []
 | cons {n:Str} {i:Nat} {v:V} {d:D} {f:ak} {vs:List (Str×V)} {ds:aF} {g:ak} (hf:att[i]? = some n) (h:P v d f) (q:OwnF att P vs ds g):OwnF att P ((n,v)::vs) ((i,d)::ds) (f++g)
theorem OwnL.imp {P Q:V->D->ak->Prop}:∀{vs ds fp},OwnL P vs ds fp->(∀v d f,(∀a∈f,a∈fp)->P v d f->Q v d f)->OwnL Q vs ds fp:=by
 intro _ _ _ hZ;cases hZ with
 | nil=>exact λ_=>.nil
 | cons h q=>exact λk=>.cons (k _ _ _ (λ_ z=>dZ _ z) h) (q.imp λv d f z=>k v d f λa y=>ck _ (z a y))
theorem OwnF.imp {att:ao}{P Q:V->D->ak->Prop}:∀{vs ds fp},OwnF att P vs ds fp->(∀v d f,(∀a∈f,a∈fp)->P v d f->Q v d f)->OwnF att Q vs ds fp:=by
 intro _ _ _ hZ;cases hZ with
 | nil=>exact λ_=>.nil
 | cons hf h q=>exact λk=>.cons hf (k _ _ _ (λ_ z=>dZ _ z) h) (q.imp λv d f z=>k v d f λa y=>ck _ (z a y))
theorem OwnL.dens {W:Wd}{T:Hp}{P:V->D->ak->Prop}:∀{vs ds fp},OwnL P vs ds fp->(∀v d f,(∀a∈f,a∈fp)->P v d f->Den W T v d)->Dens W T vs ds:=by
 intro _ _ _ hZ;cases hZ with
 | nil=>exact λ_=>.nil
 | cons h q=>exact λk=>.cons (k _ _ _ (λ_ z=>dZ _ z) h) (q.dens λv d f z=>k v d f λa y=>ck _ (z a y))
theorem OwnF.dens {W:Wd}{T:Hp}{P:V->D->ak->Prop}:∀{vs ds fp},OwnF W.att P vs ds fp->(∀v d f,(∀a∈f,a∈fp)->P v d f->Den W T v d)->DenF W T vs ds:=by
 intro _ _ _ hZ;cases hZ with
 | nil=>exact λ_=>.nil
 | cons hf h q=>exact λk=>.cons hf (k _ _ _ (λ_ z=>dZ _ z) h) (q.dens λv d f z=>k v d f λa y=>ck _ (z a y))
theorem OwnL.length {P:V->D->ak->Prop}:∀{vs ds fp},OwnL P vs ds fp->vs.length=ds.length:=by
 intro _ _ _ hZ;cases hZ with
 | nil=>exact rfl
 | cons _ q=>rw[List.length_cons,List.length_cons,q.length]
noncomputable def Own (W:Wd)(S H:Hp):Nat->V->D->ak->Prop
 | 0,v,d,fp=>fp=[]/\Den W S v d
 | k+1,v,.lst ds,fp=>∃a vs fq,v=.ref a/\H a=some (.lst vs)/\OwnL (Own W S H k) vs ds fq/\fp=a::fq
 | k+1,v,.tup ds,fp=>∃a vs,v=.ref a/\SqT W.K S a vs/\OwnL (Own W S H k) vs ds fp
 | k+1,v,.ins c ds,fp=>∃a C dx fs fq,v=.ref a/\H a=some (.ins C dx fs)/\W.iA c=some C/\OwnF W.att (Own W S H k) fs ds fq/\fp=a::fq
 | _+1,v,d,fp=>fp=[]/\Den W S v d
theorem Own.mono {W:Wd}{S S' H H':Hp}(hs:Sub S S'):∀{k v d fp},(∀a∈fp,∀o,H a=some o->H' a=some o)->Own W S H k v d fp->Own W S' H' k v d fp
 | 0,_,_,_,_,h=>⟨h.1,h.2.mono hs⟩
 | k+1,_,.lst ds,_,hf,⟨a,vs,fq,e1,e2,e3,e4⟩=>⟨a,vs,fq,e1,hf a (by rw[e4]; exact bW) _ e2,e3.imp λ_ _ _ z y=>Own.mono hs (λb hb=>hf b (by rw[e4]; exact bX _ (z b hb))) y,e4⟩
 | k+1,_,.tup ds,_,hf,⟨a,vs,e1,e2,e3⟩=>⟨a,vs,e1,SqT.sub hs e2,e3.imp λ_ _ _ z y=>Own.mono hs (λb hb=>hf b (z b hb)) y⟩
 | k+1,_,.ins c ds,_,hf,⟨a,C,dx,fs,fq,e1,e2,e5,e3,e4⟩=>⟨a,C,dx,fs,fq,e1,hf a (by rw[e4]; exact bW) _ e2,e5,e3.imp λ_ _ _ z y=>Own.mono hs (λb hb=>hf b (by rw[e4]; exact bX _ (z b hb))) y,e4⟩
 | _+1,_,.non,_,_,h=>⟨h.1,h.2.mono hs⟩
 | _+1,_,.bl _,_,_,h=>⟨h.1,h.2.mono hs⟩
 | _+1,_,.int _,_,_,h=>⟨h.1,h.2.mono hs⟩
 | _+1,_,.str _,_,_,h=>⟨h.1,h.2.mono hs⟩
theorem Own.den {W:Wd}{S H T:Hp}(hs:Sub S T):∀{k v d fp},(∀a∈fp,∀o,H a=some o->T a=some o)->Own W S H k v d fp->Den W T v d
 | 0,_,_,_,_,h=>h.2.mono hs
 | k+1,_,.lst ds,_,hf,⟨a,vs,fq,e1,e2,e3,e4⟩=>by
  subst e1;exact .lst (.inl (hf a (by rw[e4]; exact bW) _ e2)) (e3.dens λ_ _ _ z y=>Own.den hs (λb hb=>hf b (by rw[e4]; exact bX _ (z b hb))) y)
 | k+1,_,.tup ds,_,hf,⟨a,vs,e1,e2,e3⟩=>by
  subst e1;exact .tup (SqT.sub hs e2) (e3.dens λ_ _ _ z y=>Own.den hs (λb hb=>hf b (z b hb)) y)
 | k+1,_,.ins c ds,_,hf,⟨a,C,dx,fs,fq,e1,e2,e5,e3,e4⟩=>by
  subst e1;exact .ins (hf a (by rw[e4]; exact bW) _ e2) e5 (e3.dens λ_ _ _ z y=>Own.den hs (λb hb=>hf b (by rw[e4]; exact bX _ (z b hb))) y)
 | _+1,_,.non,_,_,h=>h.2.mono hs
 | _+1,_,.bl _,_,_,h=>h.2.mono hs
 | _+1,_,.int _,_,_,h=>h.2.mono hs
 | _+1,_,.str _,_,_,h=>h.2.mono hs
theorem OwnL.mem {P:V->D->ak->Prop}{R:Addr->Prop}(hP:∀v d f,P v d f->∀a∈f,R a):∀{vs ds fp},OwnL P vs ds fp->∀a∈fp,R a:=by
 intro _ _ _ hZ;cases hZ with
 | nil=>intro _ z; simp at z
 | cons h q=>exact λa z=>(dg z).elim (hP _ _ _ h a) (q.mem hP a)
theorem OwnF.mem {att:ao}{P:V->D->ak->Prop}{R:Addr->Prop}(hP:∀v d f,P v d f->∀a∈f,R a):∀{vs ds fp},OwnF att P vs ds fp->∀a∈fp,R a:=by
 intro _ _ _ hZ;cases hZ with
 | nil=>intro _ z; simp at z
 | cons _ h q=>exact λa z=>(dg z).elim (hP _ _ _ h a) (q.mem hP a)
theorem Own.dom {W:Wd}{S H:Hp}:∀{k v d fp},Own W S H k v d fp->∀a∈fp,H a≠none
 | 0,_,_,_,h,a,z=>by rw[h.1] at z; simp at z
 | k+1,_,.lst ds,_,⟨a,vs,fq,e1,e2,e3,e4⟩,b,z=>by
  rw[e4] at z;rcases cZ z with q | q
  .rw[q,e2]; simp
  .exact e3.mem (λ_ _ _ y=>Own.dom y) b q
 | k+1,_,.tup ds,_,⟨a,vs,e1,e2,e3⟩,b,z=>e3.mem (λ_ _ _ y=>Own.dom y) b z
 | k+1,_,.ins c ds,_,⟨a,C,dx,fs,fq,e1,e2,e5,e3,e4⟩,b,z=>by
  rw[e4] at z;rcases cZ z with q | q
  .rw[q,e2]; simp
  .exact e3.mem (λ_ _ _ y=>Own.dom y) b q
 | _+1,_,.non,_,h,a,z=>by rw[h.1] at z; simp at z
 | _+1,_,.bl _,_,h,a,z=>by rw[h.1] at z; simp at z
 | _+1,_,.int _,_,h,a,z=>by rw[h.1] at z; simp at z
 | _+1,_,.str _,_,h,a,z=>by rw[h.1] at z; simp at z
theorem OwnL.flat {W:Wd}{S:Hp}{P:V->D->ak->Prop}(hP:∀v d,d.flat=true->Den W S v d->P v d []):∀{vs ds},D.flats ds=true->Dens W S vs ds->OwnL P vs ds []:=by
 intro _ _ hf hZ;cases hZ with
 | nil=>exact .nil
 | cons h q=>
  rw[D.flats,tw] at hf;exact OwnL.cons (f:=[]) (g:=[]) (hP _ _ hf.1 h) (OwnL.flat hP hf.2 q)
theorem OwnL.flat_inv {W:Wd}{S:Hp}{P:V->D->ak->Prop}(hP:∀v d f,d.flat=true->P v d f->f=[]/\Den W S v d):∀{vs ds fp},D.flats ds=true->OwnL P vs ds fp->fp=[]/\Dens W S vs ds:=by
 intro _ _ _ hf hZ;cases hZ with
 | nil=>exact⟨rfl,.nil⟩
 | cons h q=>
  rw[D.flats,tw] at hf;obtain⟨e1,d1⟩:=hP _ _ _ hf.1 h;obtain⟨e2,d2⟩:=q.flat_inv hP hf.2;exact⟨by rw[e1,e2]; rfl,.cons d1 d2⟩
theorem Own.flat {W:Wd}{S H:Hp}:∀{k v d},d.flat=true->Den W S v d->Own W S H k v d []
 | 0,_,_,_,h=>⟨rfl,h⟩
 | k+1,_,.lst _,hf,_=>by simp[D.flat] at hf
 | k+1,_,.tup ds,hf,.tup e q=>⟨_,_,rfl,e,OwnL.flat (λ_ _=>Own.flat) (by rw[D.flat] at hf; exact hf) q⟩
 | k+1,_,.ins _ _,hf,_=>by simp[D.flat] at hf
 | _+1,_,.non,_,h=>⟨rfl,h⟩
 | _+1,_,.bl _,_,h=>⟨rfl,h⟩
 | _+1,_,.int _,_,h=>⟨rfl,h⟩
 | _+1,_,.str _,_,h=>⟨rfl,h⟩
theorem Own.flat_inv {W:Wd}{S H:Hp}:∀{k v d fp},d.flat=true->Own W S H k v d fp->fp=[]/\Den W S v d
 | 0,_,_,_,_,h=>h
 | k+1,_,.lst _,_,hf,_=>by simp[D.flat] at hf
 | k+1,_,.tup ds,_,hf,⟨a,vs,e1,e2,e3⟩=>by
  obtain⟨h1,h2⟩:=e3.flat_inv (λ_ _ _=>Own.flat_inv) (by rw[D.flat] at hf; exact hf);subst e1;exact⟨h1,.tup e2 h2⟩
 | k+1,_,.ins _ _,_,hf,_=>by simp[D.flat] at hf
 | _+1,_,.non,_,_,h=>h
 | _+1,_,.bl _,_,_,h=>h
 | _+1,_,.int _,_,_,h=>h
 | _+1,_,.str _,_,_,h=>h
theorem OwnL.re {P Q:V->D->ak->Prop}{b:D->Bool}(hP:∀v d f,b d=true->P v d f->Q v d f):∀{vs ds fp},ds.all b=true->OwnL P vs ds fp->OwnL Q vs ds fp:=by
 intro _ _ _ hf hZ;cases hZ with
 | nil=>exact .nil
 | cons h q=>
  rw[List.all_cons,tw] at hf;exact .cons (hP _ _ _ hf.1 h) (q.re hP hf.2)
def NOk (N:Addr->Prop)(H:Hp):Prop:=∀a,N a->H a≠none
def RelS (W:Wd)(S:Hp)(a:Sl)(σ:St):Prop:=∀(i:Nat) (d:D),a[i]? = some (some d)->∃v,σ[i]? = some (some v)/\Den W S v d
theorem RelS.mono {W:Wd}{S S':Hp}{a:Sl}{σ:St}(h:Sub S S')(r:RelS W S a σ):RelS W S' a σ:=λi d e=>by
 obtain⟨v,h1,h2⟩:=r i d e;exact⟨v,h1,h2.mono h⟩
def Res (W:Wd)(H:Hp)(N:Addr->Prop)(H':Hp)(x:KD)(v:V):Prop:=
 Sub H H'/\∃fp:ak,fp.Nodup/\(∀a∈fp,H a=none)/\Own W (hid (λa=>N a\/a∈fp) H') H' x.1 v x.2 fp
inductive OwnV (W:Wd) (S H:Hp):ar->au->ak->Prop
 | nil:OwnV W S H [] [] []
 | cons {v:V} {x:KD} {f:ak} {vs:ar} {xs:au} {g:ak} (h:Own W S H x.1 v x.2 f) (q:OwnV W S H vs xs g):OwnV W S H (v::vs) (x::xs) (f++g)
theorem OwnV.mono {W:Wd}{S S' H H':Hp}(hs:Sub S S'):∀{vs xs fp},(∀a∈fp,∀o,H a=some o->H' a=some o)->OwnV W S H vs xs fp->OwnV W S' H' vs xs fp:=by
 intro _ _ _ hf hZ;cases hZ with
 | nil=>exact .nil
 | cons h q=>exact .cons (h.mono hs λa z=>hf a (dZ _ z)) (q.mono hs λa z=>hf a (ck _ z))
theorem OwnV.dens {W:Wd}{S H T:Hp}(hs:Sub S T):∀{vs xs fp},(∀a∈fp,∀o,H a=some o->T a=some o)->OwnV W S H vs xs fp->Dens W T vs (xs.map (·.2)):=by
 intro _ _ _ hf hZ;cases hZ with
 | nil=>exact .nil
 | cons h q=>exact .cons (h.den hs λa z=>hf a (dZ _ z)) (q.dens hs λa z=>hf a (ck _ z))
theorem OwnV.dom {W:Wd}{S H:Hp}:∀{vs xs fp},OwnV W S H vs xs fp->∀a∈fp,H a≠none:=by
 intro _ _ _ hZ;cases hZ with
 | nil=>intro a z; simp at z
 | cons h q=>exact λa z=>(dg z).elim (h.dom a) (q.dom a)
theorem OwnV.length {W:Wd}{S H:Hp}:∀{vs xs fp},OwnV W S H vs xs fp->vs.length=xs.length:=by
 intro _ _ _ hZ;cases hZ with
 | nil=>exact rfl
 | cons _ q=>rw[List.length_cons,List.length_cons,q.length]
def ResL (W:Wd)(H:Hp)(N:Addr->Prop)(H':Hp)(xs:au)(vs:ar):Prop:=
 Sub H H'/\∃fp:ak,fp.Nodup/\(∀a∈fp,H a=none)/\OwnV W (hid (λa=>N a\/a∈fp) H') H' vs xs fp
theorem Res.den {W:Wd}{H H':Hp}{N:Addr->Prop}{x:KD}{v:V}(hN:NOk N H)(r:Res W H N H' x v):Den W (hid N H') v x.2:=by
 obtain⟨hs,fp,_,hf,o⟩:=r;refine o.den (λa u e=>?_) λa ha u e=>aS.mpr ⟨λz=>hN a z (hf a ha),e⟩;obtain⟨h1,h2⟩:=aS.mp e;exact aS.mpr ⟨λz=>h1 (.inl z),h2⟩
theorem ResL.dens {W:Wd}{H H':Hp}{N:Addr->Prop}{xs:au}{vs:ar}(hN:NOk N H)(r:ResL W H N H' xs vs):Dens W (hid N H') vs (xs.map (·.2)):=by
 obtain⟨hs,fp,_,hf,o⟩:=r;refine o.dens (λa u e=>?_) λa ha u e=>aS.mpr ⟨λz=>hN a z (hf a ha),e⟩;obtain⟨h1,h2⟩:=aS.mp e;exact aS.mpr ⟨λz=>h1 (.inl z),h2⟩
def Res.of_den {W:Wd}{H H':Hp}{N:Addr->Prop}{v:V}{d:D}(hs:Sub H H')(h:Den W (hid N H') v d):Res W H N H' (0,d) v:=
 ⟨hs,[],.nil,λa z=>by simp at z,rfl,h.mono λa o e=>aS.mpr ⟨λz=>(aS.mp e).1 (by simpa using z),(aS.mp e).2⟩⟩
def Res.of_flat {W:Wd}{H H':Hp}{N:Addr->Prop}{v:V}{k:Nat}{d:D}(hs:Sub H H')(hf:d.flat=true)(h:Den W (hid N H') v d):Res W H N H' (k,d) v:=
 ⟨hs,[],.nil,λa z=>by simp at z,Own.flat hf (h.mono λa o e=>aS.mpr ⟨λz=>(aS.mp e).1 (by simpa using z),(aS.mp e).2⟩)⟩
def NOk.mono {N:Addr->Prop}{H H':Hp}(h:NOk N H)(hs:Sub H H'):NOk N H':=λa z q=>h a z (hs.none q)
section
variable (W:Wd)(G:Pg)(cl:Nat->au->Ip.Run)
def aY (ir:Ex)(E:St->XK):TE:=λσ H Q=>∃(N:Addr->Prop) (a:Sl),NOk N H/\RelS W (hid N H) a σ/\match Ip.eval G cl a ir with
 | .ok x=>∀v H',Res W H N H' x v->Q v H'
 | .bad=>False
def bJ (irs:aC)(E:St->XK):TA:=λσ H Q=>∃(N:Addr->Prop) (a:Sl),NOk N H/\RelS W (hid N H) a σ/\match Ip.evals G cl a irs with
 | .ok xs=>∀vs H',ResL W H N H' xs vs->Q vs H'
 | .bad=>False
end
def PE.mono {X:Cx}{e:Expr}{t t':TE}(h:PE X e t)(k:∀σ H Q,t' σ H Q->t σ H Q):PE X e t':=λpins s σ H Q I q=>h pins s σ H Q I (k σ H Q q)
def PA.mono {X:Cx}{e:aq}{t t':TA}(h:PA X e t)(k:∀σ H Q,t' σ H Q->t σ H Q):PA X e t':=λpos pins s σ H Q I q=>h pos pins s σ H Q I (k σ H Q q)
def PT.mono {X:Cx}{e:Expr}{t t':TT}(h:PT X e t)(k:∀σ H Q,t' σ H Q->t σ H Q):PT X e t':=λpins s σ H Q I q=>h pins s σ H Q I (k σ H Q q)
def PS.mono {X:Cx}{e:Stmt}{t t':TS}(h:PS X e t)(k:∀D σ H,t' D σ H->t D σ H):PS X e t':=λpins s σ H D I q=>h pins s σ H D I (k D σ H q)
def PSs.mono {X:Cx}{e:aE}{t t':TS}(h:PSs X e t)(k:∀D σ H,t' D σ H->t D σ H):PSs X e t':=λpins s σ H D I q=>h pins s σ H D I (k D σ H q)
def bF {X:Cx}{e:Expr}{W:Wd}{G:Pg}{cl:Nat->au->Ip.Run}{E:St->XK}:PE X e (aY W G cl .bad E):=λ_ _ _ _ _ _ ⟨_,_,_,_,h⟩=>by
 rw[Ip.eval] at h; exact h.elim
section
variable {W:Wd}{G:Pg}{cl:Nat->au->Ip.Run}{E:St->XK}{σ:St}{H:Hp}
def f9 {ir:Ex}{Q:VK}{N:Addr->Prop}{a:Sl}(hN:NOk N H)(hS:RelS W (hid N H) a σ)
  (ok:∀x,Ip.eval G cl a ir=.ok x->∀v H1 fp,Sub H H1->fp.Nodup->(∀b∈fp,H b=none)->Own W (hid (λb=>N b\/b∈fp) H1) H1 x.1 v x.2 fp ->
   NOk (λb=>N b\/b∈fp) H1->RelS W (hid (λb=>N b\/b∈fp) H1) a σ->Q v H1)
  (nb:Ip.eval G cl a ir≠.bad):aY W G cl ir E σ H Q:=by
 refine⟨N,a,hN,hS,?_⟩;cases q:Ip.eval G cl a ir with
 | bad=>exact absurd q nb
 | ok x=>
  rintro v H1 ⟨hs,fp,nd,hf,o⟩;refine ok x q v H1 fp hs nd hf o (λb z=>?_) (hS.mono (ga hs λb z=>z.imp id λy=>hf b y));exact z.elim (λy=>(hN.mono hs) b y) (o.dom b)
end
end L2
end
section
namespace L2
open PySem PySem.Spec PyProof.Rows
open Ip (D KD Ex Op Pg Fn Sl Fr Wk Tg Tb R jh df bP cj ci dA bR bz br bm)
def rD (W:Wd)(G:Pg)(o:Op)(vs:ar)(H:Hp)(Q:VK):Prop:=∃(N:Addr->Prop) (xs:au) (x:KD),NOk N H/\Dens W (hid N H) vs (xs.map (·.2))/\bm G o xs=some x/\∀v H',Res W H N H' x v->Q v H'
theorem Res.trans {W:Wd}{H H2 H':Hp}{N:Addr->Prop}{x:KD}{v:V}(hs:Sub H H2)(r:Res W H2 N H' x v):Res W H N H' x v:=by
 obtain⟨h1,fp,nd,hf,o⟩:=r;exact⟨hs.trans h1,fp,nd,λa z=>hs.none (hf a z),o⟩
def Own.later {W:Wd}{H H1 H2:Hp}{N M:Addr->Prop}{k:Nat}{v:V}{d:D}{fp:ak}(hN:NOk N H)(hs:Sub H1 H2)(hf:∀b∈fp,H b=none)(hM:∀b,N b->M b)(o:Own W (hid (λb=>M b\/b∈fp) H1) H1 k v d fp):Den W (hid N H2) v d:=by
 refine o.den (λa u e=>?_) λa ha u e=>aS.mpr ⟨λz=>hN a z (hf a ha),hs a u e⟩;obtain⟨h1,h2⟩:=aS.mp e;exact aS.mpr ⟨λz=>h1 (.inl (hM a z)),hs a u h2⟩
section
variable {W:Wd}{G:Pg}{cl:Nat->au->Ip.Run}{E:St->XK}{σ:St}{H:Hp}{Q:VK}{o:Op}
def gP {ia:Ex}{r:V->Hp->VK->Prop}(hr:∀x H Q,rD W G o [x] H Q->r x H Q)(h:aY W G cl (.op o [ia]) E σ H Q):o9 r (aY W G cl ia E) σ H Q:=by
 obtain⟨N,a,hN,hS,h⟩:=h;unfold o9;refine f9 hN hS (λx ex v H1 fp hs nd hf ow hN1 hS1=>?_) λee=>?_
 .simp only[df,cj,bP,ex,R.bind] at h;cases q:bm G o [x] with
  | none=>simp only[q,R.of] at h
  | some z=>
   simp only[q,R.of] at h;exact hr _ _ _ ⟨N,[x],z,hN.mono hs,.cons (ow.later hN (Sub.refl _) hf λ_ y=>y) .nil,q,λw H' r=>h w H' (r.trans hs)⟩
 .simp only[df,cj,bP,ee,R.bind] at h
def g9 {ia ib:Ex}{r:R2}(hr:∀x y H Q,rD W G o [x,y] H Q->r x y H Q)(h:aY W G cl (.op o [ia,ib]) E σ H Q):iF r (aY W G cl ia E) (aY W G cl ib E) σ H Q:=by
 obtain⟨N,a,hN,hS,h⟩:=h;unfold iF;refine f9 hN hS (λx ex v H1 fp hs nd hf ow hN1 hS1=>?_) λee=>?_
 .refine f9 hN1 hS1 (λy ey w H2 fq hs2 nd2 hf2 ow2 hN2 hS2=>?_) λee=>?_
  .simp only[df,cj,bP,ex,ey,R.bind] at h;cases q:bm G o [x,y] with
   | none=>simp only[q,R.of] at h
   | some z=>
    simp only[q,R.of] at h;exact hr _ _ _ _ ⟨N,[x,y],z,hN.mono (hs.trans hs2),.cons (ow.later hN hs2 hf λ_ y=>y) (.cons (ow2.later (hN.mono hs) (Sub.refl _) hf2 λ_ y=>.inl y) .nil),q,λw H' r=>h w H' (r.trans (hs.trans hs2))⟩
  .simp only[df,cj,bP,ex,ee,R.bind] at h
 .simp only[df,cj,bP,ee,R.bind] at h
end
def Dens.one {W:Wd}{S:Hp}{vs:ar}{d:D}(h:Dens W S vs [d]):∃v,vs=[v]/\Den W S v d:=by
 cases h with
 | cons h r=>cases r; exact⟨_,rfl,h⟩
def Dens.two {W:Wd}{S:Hp}{vs:ar}{d e:D}(h:Dens W S vs [d,e]):∃v w,vs=[v,w]/\Den W S v d/\Den W S w e:=by
 cases h with
 | cons h r=>
  obtain⟨w,e,h2⟩:=r.one;subst e;exact⟨_,_,rfl,h,h2⟩
def eL {W:Wd}{S:Hp}{x:V}{xs:au}(h:Dens W S [x] (xs.map (·.2))):∃p,xs=[p]/\Den W S x p.2:=by
 cases xs with
 | nil=>cases h
 | cons p r=>
  cases h with
  | cons h1 h2=>
   cases r with
   | nil=>exact⟨p,rfl,h1⟩
   | cons _ _=>cases h2
def dE {W:Wd}{S:Hp}{x y:V}{xs:au}(h:Dens W S [x,y] (xs.map (·.2))):∃p q,xs=[p,q]/\Den W S x p.2/\Den W S y q.2:=by
 cases xs with
 | nil=>cases h
 | cons p r=>
  cases h with
  | cons h1 h2=>
   obtain⟨q,rfl,h3⟩:=eL h2;exact⟨p,q,rfl,h1,h3⟩
def Den.int_inv {W:Wd}{S:Hp}{v:V}{i:Int}(h:Den W S v (.int i)):v=.int i:=by cases h; rfl
def Den.bl_inv {W:Wd}{S:Hp}{v:V}{i:Bool}(h:Den W S v (.bl i)):v=.bl i:=by cases h; rfl
theorem Res.int {W:Wd}{H:Hp}{N:Addr->Prop}{k:Nat}{i:Int}:Res W H N H (k,.int i) (.int i):=Res.of_flat (Sub.refl _) rfl .int
theorem Res.bl {W:Wd}{H:Hp}{N:Addr->Prop}{k:Nat}{i:Bool}:Res W H N H (k,.bl i) (.bl i):=Res.of_flat (Sub.refl _) rfl .bl
section
variable {X:Cx}{W:Wd}{G:Pg}
def OpR.imp {f:Value->Value->Sem Value}{r r':R2}(h:OpR X f r)(k:∀x y H Q,r' x y H Q->r x y H Q):OpR X f r':=λpins s σ H x y v u Q I rx ry q=>h pins s σ H x y v u Q I rx ry (k x y H Q q)
def iV {o:Op}{f:Int->Int->ax}{C:Int->Int->Prop}{g:Int->Int->V}(ho:∀xs,bm G o xs=br (bz f) xs)(hf:∀i j x,f i j=some x->C i j/\∀(N:Addr->Prop) (H:Hp),Res W H N H x (g i j)) :
  ∀x y H Q,rD W G o [x,y] H Q->rI C g x y H Q:=by
 rintro x y H Q ⟨N,xs,z,hN,hd,hz,hq⟩;obtain⟨p,q,rfl,d1,d2⟩:=dE hd;rw[ho] at hz;obtain⟨k1,p⟩:=p;obtain⟨k2,q⟩:=q;simp only[br] at hz;cases p <;> cases q <;> first | exact (bR hz).elim | simp only[bz] at hz
 cases d1;cases d2;obtain⟨hc,hr⟩:=hf _ _ _ hz;exact⟨_,_,rfl,rfl,hc,hq _ _ (hr N H)⟩
def xa:OpR X (binaryOp .Sub) (λx y=>rD W G .sub [x,y]):=AN.imp λx y H Q h=>by
 obtain⟨i,j,e1,e2,_,q⟩:=iV (C:=λ_ _=>True) (g:=λi j=>.int (i - j)) (λ_=>rfl) (λi j x e=>by cases e; exact⟨trivial,λ_ _=>Res.int⟩) x y H Q h;exact⟨i,j,e1,e2,q⟩
def wj:OpR X (binaryOp .FloorDiv) (rI (λ_ j=>0<j/\j<1000000000000000000000000000000000000000000000000000000000000) λi j=>.int (i / j)):=mT λi j _ _ _ _ _ hc q=>by
 have h1:(0:Int)<j:=hc.1;have h2:j<1000000000000000000000000000000000000000000000000000000000000:=hc.2;exact floordiv_int (by omega) (by rw[Int.fdiv_eq_ediv_of_nonneg i (by omega)]; exact q) (.inl (PyProof.noPylong_of_log2 (dR ((Nat.log2_lt (by omega)).mpr (by omega:j.natAbs<2 ^ 200)) (by decide))))
def D9:OpR X (binaryOp .FloorDiv) (λx y=>rD W G .fdiv [x,y]):=wj.imp (iV (λ_=>rfl) λi j x e=>by
 by_cases h:0<j/\j<1000000000000000000000000000000000000000000000000000000000000
 .rw[if_pos h] at e; cases e; exact⟨h,λ_ _=>Res.int⟩
 .rw[if_neg h] at e; cases e)
def Eg:OpR X (binaryOp .Mod) (λx y=>rD W G .mod [x,y]):=xz.imp (iV (λ_=>rfl) λi j x e=>by
 by_cases h:0<j
 .rw[if_pos h] at e; cases e; exact⟨h,λ_ _=>Res.int⟩
 .rw[if_neg h] at e; cases e)
def zR {i:Int}(h:ci i=true):i.natAbs<2 ^ 64:=by
 rw[dA] at h;omega
def DX:OpR X (binaryOp .Pow) (λx y=>rD W G .pow [x,y]):=Av.imp (iV (λ_=>rfl) λi j x e=>by
 by_cases h:0<=j/\j<=1000000/\ci i=true
 .rw[if_pos h] at e; cases e; exact⟨⟨h.1,h.2.1,zR h.2.2⟩,λ_ _=>Res.int⟩
 .rw[if_neg h] at e; cases e)
def qq:OpR X (compareOp .LtE) (λx y=>rD W G .le [x,y]):=ya.imp λx y H Q h=>by
 obtain⟨i,j,e1,e2,_,q⟩:=iV (C:=λ_ _=>True) (g:=λi j=>.bl (decide (i<=j))) (λ_=>rfl) (λi j x e=>by cases e; exact⟨trivial,λ_ _=>Res.bl⟩) x y H Q h;exact⟨i,j,e1,e2,q⟩
def pV:OpR X (compareOp .Gt) (λx y=>rD W G .gt [x,y]):=Ad.imp λx y H Q h=>by
 obtain⟨i,j,e1,e2,_,q⟩:=iV (C:=λ_ _=>True) (g:=λi j=>.bl (decide (j<i))) (λ_=>rfl) (λi j x e=>by cases e; exact⟨trivial,λ_ _=>Res.bl⟩) x y H Q h;exact⟨i,j,e1,e2,q⟩
def qN:OpR X (compareOp .GtE) (λx y=>rD W G .ge [x,y]):=Dh.imp λx y H Q h=>by
 obtain⟨i,j,e1,e2,_,q⟩:=iV (C:=λ_ _=>True) (g:=λi j=>.bl (decide (j<=i))) (λ_=>rfl) (λi j x e=>by cases e; exact⟨trivial,λ_ _=>Res.bl⟩) x y H Q h;exact⟨i,j,e1,e2,q⟩
def qE:OpR X (compareOp .Lt) (λx y=>rD W G .lt [x,y]):=DE.imp λx y H Q h=>by
 obtain⟨i,j,e1,e2,_,q⟩:=iV (C:=λ_ _=>True) (g:=λi j=>.bl (decide (i<j))) (λ_=>rfl) (λi j x e=>by cases e; exact⟨trivial,λ_ _=>Res.bl⟩) x y H Q h;exact⟨i,j,e1,e2,q⟩
theorem OwnL.zero {S T:Hp}:∀{vs ds},Dens W S vs ds->OwnL (Own W S T 0) vs ds []:=by
 intro _ _ hZ;cases hZ with
 | nil=>exact .nil
 | cons h q=>exact OwnL.cons (f:=[]) (g:=[]) ⟨rfl,h⟩ (OwnL.zero q)
def A6 {H:Hp}{N:Addr->Prop}{p:Addr}{o:HO}(hp:H p=none):Sub (hid N H) (hid (λa=>N a\/a∈[p]) (upd H p o)):=
 ga (Sub.upd hp) λa z=>z.imp id λy=>by rw[Fi.mp y]; exact hp
def Res.newL {H:Hp}{N:Addr->Prop}{p:Addr}{vs:ar}{ds:av}(hp:H p=none)(h:Dens W (hid N H) vs ds):Res W H N (upd H p (.lst vs)) (1,.lst ds) (.ref p):=
 ⟨Sub.upd hp,[p],by simp,λa z=>by rw[Fi.mp z]; exact hp,p,vs,[],rfl,cQ,OwnL.zero (h.mono (A6 hp)),rfl⟩
def Res.newT {H:Hp}{N:Addr->Prop}{p:Addr}{vs:ar}{ds:av}(hN:NOk N H)(hp:H p=none)(h:Dens W (hid N H) vs ds):Res W H N (upd H p (.tup vs)) (0,.tup ds) (.ref p):=
 Res.of_den (Sub.upd hp) (.tup (SqT.of (aS.mpr ⟨λz=>hN p z hp,cQ⟩)) (h.mono (ga (Sub.upd hp) λa z=>.inl z)))
def Inv.rdL {pins:af}{σ:St}{H:Hp}{s:Shared}{l:Addr}{xs:ar}(I:Inv X pins σ H s)(h:Rd H l (.lst xs)):xs.length<=sizeLine/\∃(its:al) (n:Nat),Vals xs its/\xs.length=its.length/\s.heap.get? l=some { cls:=.type "list",data:=.seq its.toArray n }:=by
 obtain⟨z,its,n,r,e⟩:=h.ok I.hok;exact⟨z,its,n,r,r.length,e⟩
def mq:R2:=λx y H Q=>∃l b xs zs,x=.ref l/\y=.ref b/\Rd H l (.lst xs)/\Rd H b (.lst zs)/\xs.length+zs.length<=sizeLine/\∀p,H p=none->Q (.ref p) (upd H p (.lst (xs++zs)))
def Af:OpR X (binaryOp .Add) mq:=by
 intro pins s σ H x y v u Q I rx ry h;obtain⟨l,b,xs,zs,rfl,rfl,hH,hB,hz,q⟩:=h;cases rx;cases ry;obtain⟨z,its,n,r,hl,e⟩:=I.rdL hH;obtain⟨z2,its2,n2,r2,hl2,e2⟩:=I.rdL hB;refine PySem.P.add_list e e2 ?_ (by rw[Fh,Fh]; omega);have ea:its.toArray++its2.toArray=(its++its2).toArray:=by simp
 rw[ea];exact⟨.ref _,_,I.lnew (t':=s.toks) (r.append r2) (by rw[FC]; omega),rfl,q _ I.fresh⟩
def gL {n:Nat}(h:n<=Ip.SL):n<=sizeLine:=bv h (by decide)
theorem Dens.rep {S:Hp}{vs:ar}{ds:av}(h:Dens W S vs ds):∀k,Dens W S (List.replicate k vs).flatten (List.replicate k ds).flatten
 | 0=>.nil
 | k+1=>by
  rw[List.replicate_succ,List.replicate_succ,List.flatten_cons,List.flatten_cons];exact h.append (h.rep k)
def Aj (hK:W.K=X.K):OpR X (binaryOp .Mult) (λx y=>rD W G .mul [x,y]):=by
 refine (Ez.or (yd.or Bx)).imp λx y H Q hZz=>?_;obtain⟨N,xs,z,hN,hd,hz,hq⟩:=hZz;obtain⟨⟨k1,p⟩,⟨k2,q⟩,rfl,d1,d2⟩:=dE hd;simp only[Ip.BN,br] at hz;cases p <;> cases q <;> first | exact (bR hz).elim | simp only[Ip.jW] at hz
 .rename_i i j;cases d1;cases d2;by_cases h:(ci i||ci j)=true
  .rw[if_pos h] at hz;cases hz;refine .inl ⟨i,j,rfl,rfl,?_,hq _ _ Res.int⟩;simp only[FM,dA] at h;unfold CMul;omega
  .rw[if_neg h] at hz; cases hz
 .rename_i xs j;cases d2;split at hz
  .rename_i hl;cases hz;cases d1 with | @lst a vs _ e1 q1=>?_
   have hb:=dA.mp hl.2.1;refine .inr (.inl ⟨a,j,vs,rfl,rfl,Rd.sub bq e1,by omega,by omega,?_,λp hp=>hq _ _ (Res.newL hp (q1.rep _))⟩);rw[q1.length];exact bv hl.2.2 (by decide)
  .cases hz
 .rename_i xs j;cases d2;split at hz
  .rename_i hl;cases hz;cases d1 with | @tup a vs _ e1 q1=>?_
   have ln:=q1.length;refine .inr (.inr ⟨a,j,vs,rfl,rfl,by rw[<-hK]; exact SqT.sub bq e1,?_,hl.2.1,hl.2.2.1,?_,λe=>hq _ _ (Res.of_den (Sub.refl _) ?_),λ_ p hp=>hq _ _ (Res.newT hN hp (q1.rep _))⟩)
   .intro e;subst e;have:xs=[]:=Gw.mp ln.symm;subst this;exact absurd hl.1 (by decide)
   .rw[ln]; exact bv hl.2.2.2 (by decide)
   .subst e;have e2:(List.replicate (1:Int).toNat xs).flatten=xs:=by simp
    rw[e2];exact .tup e1 q1
  .cases hz
def BU (hK:W.K=X.K):OpR X (binaryOp .Add) (λx y=>rD W G .add [x,y]):=by
 refine ((C2.or Af).or (wF.or Ce)).imp λx y H Q hZz=>?_;obtain⟨N,xs,z,hN,hd,hz,hq⟩:=hZz;obtain⟨⟨k1,p⟩,⟨k2,q⟩,rfl,d1,d2⟩:=dE hd;simp only[Ip.Cg,br] at hz;cases p <;> cases q <;> first | exact (bR hz).elim | simp only[Ip.gb] at hz
 .cases d1;cases d2;cases hz;exact .inl (.inl ⟨_,_,rfl,rfl,hq _ _ Res.int⟩)
 .rename_i xs ys;split at hz
  .rename_i hl;cases hz;cases d1 with | lst e1 q1=>?_
   cases d2 with | lst e2 q2=>?_
   refine .inl (.inr ⟨_,_,_,_,rfl,rfl,Rd.sub bq e1,Rd.sub bq e2,?_,λp hp=>hq _ _ (Res.newL hp (q1.append q2))⟩);rw[q1.length,q2.length];exact gL hl
  .cases hz
 .rename_i xs ys;split at hz
  .rename_i hl;cases hz;cases d1 with | @tup a vs _ e1 q1=>?_
   cases d2 with | @tup b ws _ e2 q2=>?_
   have s1:SqT X.K H a vs:=by rw[<-hK]; exact SqT.sub bq e1
   have s2:SqT X.K H b ws:=by rw[<-hK]; exact SqT.sub bq e2
   by_cases c1:vs=[]
   .subst c1;cases q1;exact .inr (.inl ⟨a,b,ws,rfl,rfl,s1,s2,hq _ _ (Res.of_den (Sub.refl _) (.tup e2 q2))⟩)
   .refine .inr (.inr ⟨a,b,vs,ws,rfl,rfl,s1,s2,c1,?_,λc2=>?_,λ_ p hp=>hq _ _ (Res.newT hN hp (q1.append q2))⟩)
    .rw[q1.length,q2.length];exact gL hl
    .subst c2;cases q2;rw[Ga] at hq;exact hq _ _ (Res.of_den (Sub.refl _) (.tup e1 q1))
  .cases hz
end
mutual
noncomputable def bI:D->PyData
 | .non=>.none
 | .bl b=>.bool b
 | .int i=>.int i
 | .str s=>.str s
 | .lst xs=>.list (pyDs xs)
 | .tup xs=>.tuple (pyDs xs)
 | .ins _ _=>.none
noncomputable def pyDs:av->List PyData
 | []=>[]
 | d::ds=>bI d::pyDs ds
end
mutual
theorem nu:∀x y:D,∀n m,x.pur n=true->y.pur m=true->PyData.eqv (bI x) (bI y)=x.eq y:=by
 intro hZ;cases hZ with
 | lst xs=>
  intro y n m hx hy;cases n with
  | zero=>cases hx
  | succ n=>
   cases y with
   | lst ys=>
    cases m with
    | zero=>cases hy
    | succ m=>rw[bI,bI,D.eq,PyData.eqv]; exact zGP xs ys n m hx hy
   | ins _ _=>cases m <;> cases hy
   | _=>simp[bI,D.eq,PyData.eqv]
 | tup xs=>
  intro y n m hx hy;cases n with
  | zero=>cases hx
  | succ n=>
   cases y with
   | tup ys=>
    cases m with
    | zero=>cases hy
    | succ m=>rw[bI,bI,D.eq,PyData.eqv]; exact zGP xs ys n m hx hy
   | ins _ _=>cases m <;> cases hy
   | _=>simp[bI,D.eq,PyData.eqv]
 | ins _ _=>intro _ n _ hx _; cases n <;> cases hx
 | non=>
  intro y _ m _ hy;cases y with
  | ins _ _=>cases m <;> cases hy
  | _=>simp[bI,D.eq,PyData.eqv]
 | bl b=>
  intro y _ m _ hy;cases y with
  | bl c=>cases b <;> cases c <;> rfl
  | int i=>rw[bI,bI,D.eq,PyData.eqv]; rfl
  | ins _ _=>cases m <;> cases hy
  | _=>simp[bI,D.eq,PyData.eqv]
 | int i=>
  intro y _ m _ hy;cases y with
  | bl c=>rw[bI,bI,D.eq,PyData.eqv]; rfl
  | int i=>rw[bI,bI,D.eq,PyData.eqv]; rfl
  | ins _ _=>cases m <;> cases hy
  | _=>simp[bI,D.eq,PyData.eqv]
 | str i=>
  intro y _ m _ hy;cases y with
  | str j=>rw[bI,bI,D.eq,PyData.eqv]; by_cases h:i=j <;> simp[h]
  | ins _ _=>cases m <;> cases hy
  | _=>simp[bI,D.eq,PyData.eqv]
theorem zGP:∀xs ys:av,∀n m,xs.all (D.pur n)=true->ys.all (D.pur m)=true->PyData.eqvAll (pyDs xs) (pyDs ys)=D.eqs xs ys
 | [],[],_,_,_,_=>by simp[pyDs,D.eqs,PyData.eqvAll]
 | [],_::_,_,_,_,_=>by simp[pyDs,D.eqs,PyData.eqvAll]
 | _::_,[],_,_,_,_=>by simp[pyDs,D.eqs,PyData.eqvAll]
 | x::xs,y::ys,n,m,hx,hy=>by
  rw[List.all_cons,tw] at hx hy;rw[pyDs,pyDs,D.eqs,PyData.eqvAll,nu x y n m hx.1 hy.1,zGP xs ys n m hx.2 hy.2]
end
mutual
theorem ji:∀x:D,∀n,x.pur n=true->(bI x).canLay0=true/\(bI x).depth<=n:=by
 intro hZ;cases hZ with
 | lst xs=>
  intro n hx;cases n with
  | zero=>cases hx
  | succ n=>
   obtain⟨h1,h2⟩:=zCq xs n hx;rw[bI,PyData.canLay0,PyData.depth];exact⟨h1,by omega⟩
 | tup xs=>
  intro n hx;cases n with
  | zero=>cases hx
  | succ n=>
   obtain⟨h1,h2⟩:=zCq xs n hx;rw[bI,PyData.canLay0,PyData.depth];exact⟨h1,by omega⟩
 | ins _ _=>intro n hx; cases n <;> cases hx
 | non=>intro _ _; simp[bI,PyData.canLay0,PyData.depth]
 | bl _=>intro _ _; simp[bI,PyData.canLay0,PyData.depth]
 | int _=>intro _ _; simp[bI,PyData.canLay0,PyData.depth]
 | str s=>
  intro n hx;rw[Ip.eH] at hx;rw[bI,PyData.canLay0,PyData.depth];exact⟨hx,FS _⟩
theorem zCq:∀xs:av,∀n,xs.all (D.pur n)=true->PyData.canLayAll0 (pyDs xs)=true/\PyData.depthAll (pyDs xs)<=n
 | [],_,_=>by simp[pyDs,PyData.canLayAll0,PyData.depthAll]
 | x::xs,n,hx=>by
  rw[List.all_cons,tw] at hx;obtain⟨h1,h2⟩:=ji x n hx.1;obtain⟨h3,h4⟩:=zCq xs n hx.2;rw[pyDs,PyData.canLayAll0,PyData.depthAll,h1,h3];exact⟨rfl,Nat.max_le.mpr ⟨h2,h4⟩⟩
end
def mK (h:x.pur 60=true):SeqAt.shaped (bI x)=true:=by
 obtain⟨h1,h2⟩:=ji x 60 h;unfold SeqAt.shaped;rw[h1,Bool.true_and];exact FF (by omega)
section
variable {X:Cx}{W:Wd}{G:Pg}{pins:af}{σ:St}{H:Hp}{s:Shared}
mutual
theorem Den.reads (hK:W.K=X.K)(I:Inv X pins σ H s):∀{v:V} {d:D} {u:Value} (n:Nat),Den W H v d->d.pur n=true->RelV v u->∃as,Reads s.heap u (bI d) as:=by
 intro _ _ _ n hZ;cases hZ with
 | non=>intro _ r; cases r; exact⟨_,by rw[bI]; exact .none⟩
 | bl=>intro _ r; cases r; exact⟨_,by rw[bI]; exact .bool _⟩
 | int=>intro _ r; obtain⟨t,rfl⟩:=r; exact⟨_,by rw[bI]; exact .int _ t⟩
 | str=>intro _ r; obtain⟨t,rfl⟩:=r; exact⟨_,by rw[bI]; exact .str _ t⟩
 | lst e q=>
  intro hp r;cases r;cases n with
  | zero=>cases hp
  | succ n=>
   obtain⟨_,its,k,rv,_,eo⟩:=I.rdL e;obtain⟨as,ra⟩:=q.reads hK I n hp rv;exact⟨_,by rw[bI]; exact reads_list_at eo rfl rfl (by simpa using ra)⟩
 | tup e q=>
  intro hp r;cases r;cases n with
  | zero=>cases hp
  | succ n=>
   obtain⟨its,rv,⟨o,eo,hc,k,hd⟩,_⟩:=I.tuple (hK ▸ e);obtain⟨as,ra⟩:=q.reads hK I n hp rv;exact⟨_,by rw[bI]; exact reads_tuple_at eo hc hd (by simpa using ra)⟩
 | ins _ _ _=>intro hp _; cases n <;> cases hp
theorem Dens.reads (hK:W.K=X.K)(I:Inv X pins σ H s):∀{vs:ar} {ds:av} {us:al} (n:Nat),Dens W H vs ds->ds.all (D.pur n)=true->Vals vs us->∃as,ReadsAll s.heap us (pyDs ds) as
 | _,_,_,_,.nil,_,.nil=>⟨_,by rw[pyDs]; exact .nil⟩
 | _,_,_,n,.cons h q,hp,.cons r t=>by
  rw[List.all_cons,tw] at hp;obtain⟨as,h1⟩:=h.reads hK I n hp.1 r;obtain⟨bs,h2⟩:=q.reads hK I n hp.2 t;exact⟨_,by rw[pyDs]; exact .cons h1 h2⟩
end
def pQ (hK:W.K=X.K)(hu:X.A.units+64<cLine):OpR X (compareOp .Eq) (λx y=>rD W G .eq [x,y]):=by
 rintro pins s σ H x y v u Q I rx ry ⟨N,xs,z,hN,hd,hz,hq⟩;obtain⟨⟨k1,p⟩,⟨k2,q⟩,rfl,d1,d2⟩:=dE hd;simp only[Ip.xc,br,jh] at hz;split at hz
 .rename_i hp;rw[tw] at hp;cases hz;obtain⟨_,r1⟩:=(d1.mono bq).reads hK I 60 hp.1 rx;obtain⟨_,r2⟩:=(d2.mono bq).reads hK I 60 hp.2 ry;refine eq_dataH r1 r2 (mK hp.1) (mK hp.2) hu ⟨.bl _,H,I,rfl,?_⟩;rw[nu p q 60 60 hp.1 hp.2];exact hq _ _ Res.bl
 .cases hz
def oW (hK:W.K=X.K)(hu:X.A.units+64<cLine):OpR X (compareOp .NotEq) (λx y=>rD W G .ne [x,y]):=by
 rintro pins s σ H x y v u Q I rx ry ⟨N,xs,z,hN,hd,hz,hq⟩;obtain⟨⟨k1,p⟩,⟨k2,q⟩,rfl,d1,d2⟩:=dE hd;simp only[Ip.Cc,br,jh] at hz;split at hz
 .rename_i hp;rw[tw] at hp;cases hz;obtain⟨_,r1⟩:=(d1.mono bq).reads hK I 60 hp.1 rx;obtain⟨_,r2⟩:=(d2.mono bq).reads hK I 60 hp.2 ry;refine ne_dataH r1 r2 (mK hp.1) (mK hp.2) hu ⟨.bl _,H,I,rfl,?_⟩;rw[nu p q 60 60 hp.1 hp.2];exact hq _ _ Res.bl
 .cases hz
end
end L2
end
section
namespace L2
open PySem PySem.Spec PyProof.Rows
open Ip (D KD Ex Op Pg Fn Sl Fr Wk Tg Tb SL ik lL dC bc aQ cB cE kP cI cT c9 cD iM f8 cP aO compF ce lI f7 kK ka lB kv df k8 evals bP cj fB frz frz1 iX ci dA fj bE bg dL bw dY isNone bf aU aL cu bO natL cy aJ bR cC eS ba bS br dP dO bm pos? pos?_get du cM cz gv dM da dJ)
section
variable {X:Cx}{W:Wd}{G:Pg}
def yM:∀x H Q,rD W G .neg [x] H Q->rU (λi=>.int (-i)) x H Q:=by
 rintro x H Q ⟨N,xs,z,hN,hd,hz,hq⟩;obtain⟨⟨k1,p⟩,rfl,d1⟩:=eL hd;simp only[Ip.Bq,bS] at hz;cases p <;> first | exact (bR hz).elim | simp only[Ip.jA] at hz
 cases d1;cases hz;exact⟨_,rfl,hq _ _ Res.int⟩
def BX:∀x H Q,rD W G .not [x] H Q->∃c,x=.bl c/\Q (.bl (!c)) H:=by
 rintro x H Q ⟨N,xs,z,hN,hd,hz,hq⟩;obtain⟨⟨k1,p⟩,rfl,d1⟩:=eL hd;simp only[Ip.Et,bS] at hz;cases p <;> first | exact (bR hz).elim | simp only[Ip.jn] at hz
 cases d1;cases hz;exact⟨_,rfl,hq _ _ Res.bl⟩
def Den.non_iff {S:Hp}{v:V}{d:D}(h:Den W S v d):decide (v=.non)=(match d with | .non=>true | _=>false):=by
 cases h <;> simp
def uf:∀x H Q,rD W G .isN [x] H Q->Q (.bl (decide (x=.non))) H:=by
 rintro x H Q ⟨N,xs,z,hN,hd,hz,hq⟩;obtain⟨⟨k1,p⟩,rfl,d1⟩:=eL hd;rw[d1.non_iff];simp only[Ip.BZ,bS] at hz;cases p <;> simp only[dY,fB] at hz <;> cases hz <;> exact hq _ _ Res.bl
def tH:∀x H Q,rD W G .notN [x] H Q->Q (.bl (!decide (x=.non))) H:=by
 rintro x H Q ⟨N,xs,z,hN,hd,hz,hq⟩;obtain⟨⟨k1,p⟩,rfl,d1⟩:=eL hd;rw[d1.non_iff];simp only[Ip.xZ,bS] at hz;cases p <;> simp only[dY,fB] at hz <;> cases hz <;> exact hq _ _ Res.bl
theorem Den.flatV {S:Hp}{v:V}{d:D}(h:Den W S v d)(hs:d.scal=true):flatV v=true:=by
 cases h <;> first | rfl | cases hs
theorem Den.eqV {S:Hp}{v w:V}{d e:D}(h:Den W S v d)(k:Den W S w e)(hs:d.scal=true)(ks:e.scal=true):eqV v w=d.eq e:=by
 cases h <;> first | (cases hs; done) | (cases k <;> first | (cases ks; done) | rfl | simp[L2.eqV,D.eq])
theorem Dens.flatV {S:Hp}:∀{vs:ar} {ds:av},Dens W S vs ds->ds.all D.scal=true->vs.all L2.flatV=true:=by
 intro _ _ hZ;cases hZ with
 | nil=>exact λ_=>rfl
 | cons h q=>
  intro hs;rw[List.all_cons,tw] at hs;rw[List.all_cons,h.flatV hs.1,q.flatV hs.2]; rfl
theorem uD:∀ys:av,pyDs ys=ys.map bI
 | []=>by rw[pyDs]; rfl
 | y::ys=>by rw[pyDs,uD ys]; rfl
def xV {p:D}(hp:p.pur 60=true){ys:av}(h:ys.all (D.pur 60)=true):(pyDs ys).map (λy=>PyData.eqv y (bI p))=ys.map λy=>y.eq p:=by
 rw[uD,Hb];exact Hu λy hy=>nu y p 60 60 (dI h y hy) hp
def mI {p:D}{ys:av}{u:Nat}(hp:p.pur 60=true)(hu:u+64<cLine):u+1+min (PyData.depthAll (pyDs ys)) (bI p).depth<cLine:=by
 have:=(ji p 60 hp).2;omega
theorem Den.seq {S:Hp}{v:V}{d:D}{xs:av}(h:Den W S v d)(e:d.seq=some xs):∃a vs,v=.ref a/\((SqL W.K S a vs/\Rd S a (.lst vs))\/SqT W.K S a vs)/\Dens W S vs xs:=by
 cases h <;> first | exact (bR e).elim | simp only[D.seq] at e
 .rename_i h1 h2;cases e;exact⟨_,_,rfl,.inl ⟨.inl h1,h1⟩,h2⟩
 .rename_i h1 h2;cases e;exact⟨_,_,rfl,.inr h1,h2⟩
def vz {neg:Bool}{o:Op}{pins:af}{σ:St}{H:Hp}{s:Shared}{x y:V}{v u:Value}{Q:VK}(ho:∀xs,bm G o xs=br (iX neg) xs)(hK:W.K=X.K)(I:Inv X pins σ H s)(rx:RelV x v)(ry:RelV y u)(h:rD W G o [x,y] H Q) :
  ∃p ys as bs,p.pur 60=true/\ys.all (D.pur 60)=true/\Reads s.heap v (bI p) as/\(Reads s.heap u (.list (pyDs ys)) bs\/Reads s.heap u (.tuple (pyDs ys)) bs)/\Q (.bl (if neg then !(pyDs ys).any λy=>PyData.eqv y (bI p) else (pyDs ys).any λy=>PyData.eqv y (bI p))) H:=by
 obtain⟨N,xs,z,hN,hd,hz,hq⟩:=h;obtain⟨⟨k1,p⟩,⟨k2,q⟩,rfl,d1,d2⟩:=dE hd;rw[ho] at hz;simp only[br,iX] at hz;cases e:q.seq with
 | none=>rw[e] at hz; cases hz
 | some ys=>
  rw[e] at hz;simp only at hz;split at hz
  .rename_i hp;rw[tw] at hp;cases hz;obtain⟨as,r1⟩:=(d1.mono bq).reads hK I 60 hp.1 rx;have em:p.memb ys=(pyDs ys).any λy=>PyData.eqv y (bI p):=by
    have e1:=congrArg (λl:List Bool=>l.any id) (xV hp.1 hp.2);simp only[List.any_map] at e1;exact e1.symm
   have hq':=hq (.bl (if neg then !p.memb ys else p.memb ys)) H Res.bl;rw[em] at hq';have d2':=d2.mono bq;cases q <;> first | exact (bR e).elim | simp only[D.seq] at e
   .cases e;obtain⟨bs,r2⟩:=d2'.reads hK I 61 hp.2 ry;rw[bI] at r2;exact⟨p,ys,as,bs,hp.1,hp.2,r1,.inl r2,hq'⟩
   .cases e;obtain⟨bs,r2⟩:=d2'.reads hK I 61 hp.2 ry;rw[bI] at r2;exact⟨p,ys,as,bs,hp.1,hp.2,r1,.inr r2,hq'⟩
  .cases hz
def qC (hK:W.K=X.K)(hu:X.A.units+64<cLine):OpR X (compareOp .In) (λx y=>rD W G .isin [x,y]):=by
 intro pins s σ H x y v u Q I rx ry h;obtain⟨p,ys,as,bs,hp,hs,r1,r2,q⟩:=vz (neg:=false) (λ_=>rfl) hK I rx ry h;rcases r2 with r2 | r2
 .exact SeqAt.in_list_reads r2 r1 (zCq ys 60 hs).1 (ji p 60 hp).1 (mI hp hu) ⟨.bl _,H,I,rfl,q⟩
 .exact SeqAt.in_tuple_reads r2 r1 (zCq ys 60 hs).1 (ji p 60 hp).1 (mI hp hu) ⟨.bl _,H,I,rfl,q⟩
def DG (hK:W.K=X.K)(hu:X.A.units+64<cLine):OpR X (compareOp .NotIn) (λx y=>rD W G .nin [x,y]):=by
 intro pins s σ H x y v u Q I rx ry h;obtain⟨p,ys,as,bs,hp,hs,r1,r2,q⟩:=vz (neg:=true) (λ_=>rfl) hK I rx ry h;rcases r2 with r2 | r2
 .exact SeqAt.notIn_list_reads r2 r1 (zCq ys 60 hs).1 (ji p 60 hp).1 (mI hp hu) ⟨.bl _,H,I,rfl,q⟩
 .exact SeqAt.notIn_tuple_reads r2 r1 (zCq ys 60 hs).1 (ji p 60 hp).1 (mI hp hu) ⟨.bl _,H,I,rfl,q⟩
def pM (hK:W.K=X.K):mG X (λx y=>rD W G .ix [x,y]):=by
 rintro value slice pins s σ H x y v u Q I rx ry ⟨N,xs,z,hN,hd,hz,hq⟩ hs;obtain⟨⟨k1,p⟩,⟨k2,q⟩,rfl,d1,d2⟩:=dE hd;simp only[Ip.yy,br] at hz;cases q <;> first | exact (bR hz).elim | simp only[Ip.aH] at hz
 cases d2;rename_i i;cases e:p.seq with
 | none=>rw[e] at hz; cases hz
 | some ds=>
  rw[e] at hz;simp only at hz;obtain⟨a,vs,rfl,hsq,hv⟩:=d1.seq e;cases e2:(Ip.en ds.length i).bind λj=>ds[j]? with
  | none=>rw[e2] at hz; cases hz
  | some d=>
   rw[e2] at hz;cases hz;obtain⟨j,ej,ed⟩:=bZ e2;obtain⟨w,ew,dw⟩:=hv.get ed;have ha:jl vs i=some w:=by
    unfold jl;have:i9 vs.length i=some j:=by rw[hv.length]; exact ej
    rw[this]; exact ew
   have hr:Q w H:=hq _ _ (Res.of_den (Sub.refl _) dw);rcases hsq with hl | ht
   .exact m8 value slice pins s σ H _ _ v u Q I rx ry ⟨a,vs,i,w,rfl,rfl,by rw[<-hK]; exact SqL.sub bq hl.1,ha,hr⟩ hs
   .exact yJ value slice pins s σ H _ _ v u Q I rx ry ⟨a,vs,i,w,rfl,rfl,by rw[<-hK]; exact SqT.sub bq ht,ha,hr⟩ hs
def sR (n d:Nat)(o:Option Int):HT.sIx n d o=Ip.dG n d o:=by
 cases o with
 | none=>rfl
 | some i=>
  show (if i<0 then (i+(n:Int)).toNat else min i.toNat n)=if 0<=i then min i.toNat n else (i+n).toNat
  by_cases h:i<0
  .rw[if_pos h,if_neg (by omega)]
  .rw[if_neg h,if_pos (by omega)]
def Dens.cut {S:Hp}{vs:ar}{ds:av}(h:Dens W S vs ds)(lo hi:Option Int):Dens W S (dB vs lo hi) (Ip.cutD ds lo hi):=by
 unfold dB Ip.cutD;rw[sR,sR,h.length];exact (h.drop _).take _
def i5 (W:Wd):V->Option Int->Option Int->Hp->VK->Prop:=λx lo hi H Q=>∃N d z,NOk N H/\Den W (hid N H) x d/\ce lo hi d=some z/\∀v H',Res W H N H' z v->Q v H'
def rz (hK:W.K=X.K):mo X (i5 W):=by
 rintro pins s σ H x v vl vu lo hi sl Q I rx hs pl pu ⟨N,d,z,hN,hd,hz,hq⟩;cases hd <;> first | exact (bR hz).elim | simp only[ce] at hz
 rotate_left
 .rename_i a vs ds h1 h2;cases hz;refine yC pins s σ H _ v vl vu lo hi sl Q I rx hs pl pu ⟨a,vs,rfl,by rw[<-hK]; exact SqT.sub bq h1,λhw=>hq _ _ (Res.of_den (Sub.refl _) ?_),λ_ p hp=>hq _ _ (Res.newT hN hp (h2.cut lo hi))⟩;have c:=h2.cut lo hi;have e:dB vs lo hi=vs:=by
   unfold dB;rw[hw.1,hw.2];simp
  rw[e] at c;exact .tup h1 c
 rename_i a vs ds h1 h2;cases hz;exact Ak pins s σ H _ v vl vu lo hi sl Q I rx hs pl pu ⟨a,vs,rfl,by rw[<-hK]; exact .inl (Rd.sub bq h1),λp hp=>hq _ _ (Res.newL hp (h2.cut lo hi))⟩
def qB (K:be)(te:TE):TE:=λσ H Q=>te σ H λx H1=>∃a xs,x=.ref a/\SqL K H1 a xs/\∀p,H1 p=none->Q (.ref p) (upd H1 p (.lst xs.reverse))
def Fe {e st:Expr}{te:TE}{p2 pos:Pos}(he:PE X e te)(hst:PE X st (tC (.int (-1)))):PE X (.Subscript e (.Slice none none (some st) p2) pos) (qB X.K te):=by
 intro pins s σ H Q I h;refine Subscript_ (aV (he pins s σ H _ I h) λv s1 hZz=>?_);obtain⟨x,H1,I1,r1,q1⟩:=hZz;obtain⟨a,xs,rfl,hx,q⟩:=q1;cases r1;refine wpAny_Slice ?_;rw[evalPart_none];refine aW ?_;refine aW ?_;rw[evalPart_some];refine aV (hst pins s1 σ H1 (λy H2=>y=.int (-1)/\H2=H1) I1 ⟨rfl,rfl⟩) λu s2 hZz=>?_;obtain⟨y,H2,I2,r2,e1,e2⟩:=hZz;subst e1 e2;obtain⟨t,rfl⟩:=(show ∃t,u=Value.int (-1) t from r2)
 have I4:Inv X pins σ H2 { s2 with heap:=s2.heap.push { cls:=.type "slice",data:=.fields #[.none,.none,.int (-1) t] } }:=I2.kept (t':=s2.toks) λb ob q=>bV _ q;show wpAny (model X.prog X.w) X.A (subscriptTail e (.Slice none none (some st) p2) (.ref a) (.ref s2.heap.objs.size)) (EP X pins σ Q) X.xe { s2 with heap:=s2.heap.push { cls:=.type "slice",data:=.fields #[.none,.none,.int (-1) t] } };obtain⟨its,r,ht,hz⟩:=I4.list hx;refine tail_any (ops:=[.ref a,.ref s2.heap.objs.size]) ht.isList.typeIs slot_list_getitem.lookup ?_ (by with_unfolding_all rfl);refine wpAny_getItem_list_slice ht.isList (Heap.IsSliceOf.new ..) .none .none (.int (-1) t) (by simp) ?_ (by rw[Fh,<-r.length]; exact hz);rw[PySem.W.krv_pick];refine⟨.ref _,_,I4.laid (t':=s2.toks) (o:=.lst xs.reverse) (λb ob q=>bV _ q) (bu _) ?_,rfl,q _ (I4.hok.fresh (bu _))⟩;exact⟨by rw[List.length_reverse]; exact hz,_,0,r.reverse,c6 _ rfl⟩
def Dens.rev {S:Hp}{vs:ar}{ds:av}(h:Dens W S vs ds):Dens W S vs.reverse ds.reverse:=by
 induction vs generalizing ds with
 | nil=>cases h; exact .nil
 | cons v vs ih=>
  cases h with
  | cons h q=>
   rw[G4,G4];exact (ih q).append (.cons h .nil)
def CallR.imp {f:Value}{r r':ar->Hp->VK->Prop}(h:CallR X f r)(k:∀xs H Q,r' xs H Q->r xs H Q):CallR X f r':=λpins s σ H xs us Q I r q=>h pins s σ H xs us Q I r (k xs H Q q)
def Dens.vs1 {S:Hp}{vs:ar}{xs:au}{o:Op}{f:D->ax}{z:KD}(h:Dens W S vs (xs.map (·.2)))(e:bS f xs=some z):∃v p,vs=[v]/\xs=[p]/\Den W S v p.2/\f p.2=some z:=by
 cases xs with
 | nil=>exact (bR e).elim
 | cons p r=>
  cases r with
  | nil=>
   obtain⟨v,rfl,h1⟩:=Dens.one h;exact⟨v,p,rfl,rfl,h1,e⟩
  | cons _ _=>exact (bR e).elim
def tV {f:av->ax}{d:D}{z:KD}(e:dO f d=some z):∃xs,d.seq=some xs/\f xs=some z:=by
 unfold dO at e;cases q:d.seq with
 | none=>rw[q] at e; cases e
 | some xs=>rw[q] at e; exact⟨xs,rfl,e⟩
def kJ {f:av->ax}{d:D}{z:KD}(e:dP f d=some z):∃xs,d=.lst xs/\f xs=some z:=by
 cases d <;> simp only[dP] at e <;> first | exact⟨_,rfl,e⟩ | cases e
def AU (hK:W.K=X.K):CallR X (.builtin "len") (λxs=>rD W G .len xs):=AJ.imp λvs H Q ⟨N,xs,z,hN,hd,hz,hq⟩=>by
 simp only[Ip.E7] at hz;obtain⟨v,p,rfl,rfl,dv,ez⟩:=hd.vs1 (o:=.len) hz;obtain⟨ds,e1,e2⟩:=tV ez;obtain⟨a,ws,rfl,hs,hv⟩:=dv.seq e1;cases e2;refine⟨a,ws,rfl,?_,?_⟩
 .rw[<-hK]; exact hs.imp (λh=>SqL.sub bq h.1) (SqT.sub bq)
 .rw[hv.length]; exact hq _ _ Res.int
def BA (hK:W.K=X.K):CallR X (.type "list") (λxs=>rD W G .list xs):=BV.imp λvs H Q ⟨N,xs,z,hN,hd,hz,hq⟩=>by
 simp only[Ip.Dc] at hz;obtain⟨v,p,rfl,rfl,dv,ez⟩:=hd.vs1 (o:=.list) hz;obtain⟨ds,e1,e2⟩:=tV ez;obtain⟨a,ws,rfl,hs,hv⟩:=dv.seq e1;cases e2;refine⟨a,ws,rfl,?_,λl hl=>hq _ _ (Res.newL hl hv)⟩;rw[<-hK]; exact hs.imp (λh=>SqL.sub bq h.1) (SqT.sub bq)
def BB (hK:W.K=X.K):CallR X (.type "tuple") (λxs=>rD W G .tuple xs):=AM.imp λvs H Q ⟨N,xs,z,hN,hd,hz,hq⟩=>by
 simp only[Ip.y9] at hz;obtain⟨v,p,rfl,rfl,dv,ez⟩:=hd.vs1 (o:=.tuple) hz;obtain⟨k,d⟩:=p;cases dv with
 | @lst a ws ds h1 h2=>
  cases ez;exact⟨a,ws,rfl,.inl ⟨by rw[<-hK]; exact .inl (Rd.sub bq h1),λl hl=>hq _ _ (Res.newT hN hl h2)⟩⟩
 | @tup a ws ds h1 h2=>
  cases ez;exact⟨a,ws,rfl,.inr ⟨by rw[<-hK]; exact SqT.sub bq h1,hq _ _ (Res.of_den (Sub.refl _) (.tup h1 h2))⟩⟩
 | _=>cases ez
def y4:CallR X (.type "int") (λxs=>rD W G .toInt xs):=yr.imp λvs H Q ⟨N,xs,z,hN,hd,hz,hq⟩=>by
 simp only[Ip.Ay] at hz;obtain⟨v,p,rfl,rfl,dv,ez⟩:=hd.vs1 (o:=.toInt) hz;obtain⟨k,d⟩:=p;cases dv <;> first | exact (bR ez).elim | simp only[Ip.intD] at ez
 .cases ez;exact .inr ⟨_,rfl,hq _ _ Res.int⟩
 .cases ez;exact .inl ⟨_,rfl,hq _ _ Res.int⟩
theorem ux:∀{ds:av} {b:Bool},Ip.allB ds=some b->∃bs:List Bool,ds=bs.map .bl/\b=bs.all id
 | [],b,h=>⟨[],rfl,by cases h; rfl⟩
 | .bl c::ds,b,h=>by
  rw[Ip.allB] at h;obtain⟨c',e,rfl⟩:=cg h;obtain⟨bs,rfl,rfl⟩:=ux e;exact⟨c::bs,rfl,rfl⟩
theorem uy:∀{ds:av} {b:Bool},Ip.anyB ds=some b->∃bs:List Bool,ds=bs.map .bl/\b=bs.any id
 | [],b,h=>⟨[],rfl,by cases h; rfl⟩
 | .bl c::ds,b,h=>by
  rw[Ip.anyB] at h;obtain⟨c',e,rfl⟩:=cg h;obtain⟨bs,rfl,rfl⟩:=uy e;exact⟨c::bs,rfl,rfl⟩
theorem Dens.bools {S:Hp}:∀{vs:ar} {bs:List Bool},Dens W S vs (bs.map .bl)->vs=bs.map .bl
 | [],[],_=>rfl
 | v::vs,b::bs,.cons h q=>by rw[h.bl_inv,q.bools]; rfl
def Vals.bool_at {bs:List Bool}:∀{us:al} {i:Nat} {v:Value},Vals (bs.map .bl) us->us[i]? = some v->∃b,bs[i]? = some b/\v=.bool b:=by
 intro us i v r e;have hl:bs.length=us.length:=by simpa using r.length
 have hi:i<us.length:=(de e).1;have hb:(bs.map V.bl)[i]? = some (.bl bs[i]):=by simp[Fs,Fp (by omega:i<bs.length)]
 obtain⟨u,e2,r2⟩:=r.get hb;rw[e] at e2;cases e2;exact⟨_,Fp (by omega),r2⟩
def xJ (hc:X.calm=true):CallR X (.builtin "all") (λxs=>rD W G .all xs):=by
 rintro pins s σ H vs us Q I rs ⟨N,xs,z,hN,hd,hz,hq⟩;simp only[Ip.zr] at hz;obtain⟨v,p,rfl,rfl,dv,ez⟩:=hd.vs1 (o:=.all) hz;obtain⟨ds,e1,e2⟩:=kJ ez;obtain⟨u,rfl,ru⟩:=rs.one;rw[e1] at dv;cases dv with | @lst l ws _ h1 h2=>?_
 cases ru;cases e3:Ip.allB ds with
 | none=>rw[e3] at e2; cases e2
 | some b=>
  rw[e3] at e2;cases e2;obtain⟨bs,rfl,rfl⟩:=ux e3;have:=h2.bools;subst this;obtain⟨_,its,n,rv,hlen,eo⟩:=I.rdL (Rd.sub bq h1);have hl:s.heap.IsList l its.toArray:=⟨_,eo,rfl,n,rfl⟩
  have hlt:l<s.heap.objs.size:=bM eo;refine call_all_walk (G0 hl ?_);refine⟨s.heap.objs.size,[s.heap.objs.size,l],[s.heap.objs.size],its.toArray.size,_,_,λi=>(bs[i]?).getD true,rfl,Walks.list (A:=X.A.in1) (I.ok.hd hc) _ l (dr hlt) its.toArray,
   ⟨⟨_,c6 _ rfl,rfl,rfl⟩,hl.push _⟩,λi v s' Q' E' hP hQ=>?_,λh' tk hk=>?_⟩
  .obtain⟨b,e,rfl⟩:=rv.bool_at (i:=i) (v:=v) (by simpa using hP);simp only[e,Option.getD_some] at hQ;exact FJ hQ
  .have e:((List.range its.toArray.size).all λi=>(bs[i]?).getD true)=bs.all id:=by
    rw[Fh,<-hlen,Fj]; exact LSm.range_all bs
   rw[e];exact⟨.bl _,H,I.kept (t':=tk) (LSm.kept_iter hk),rfl,hq _ _ Res.bl⟩
def AV (hc:X.calm=true):CallR X (.builtin "any") (λxs=>rD W G .any xs):=by
 rintro pins s σ H vs us Q I rs ⟨N,xs,z,hN,hd,hz,hq⟩;simp only[Ip.AF] at hz;obtain⟨v,p,rfl,rfl,dv,ez⟩:=hd.vs1 (o:=.any) hz;obtain⟨ds,e1,e2⟩:=kJ ez;obtain⟨u,rfl,ru⟩:=rs.one;rw[e1] at dv;cases dv with | @lst l ws _ h1 h2=>?_
 cases ru;cases e3:Ip.anyB ds with
 | none=>rw[e3] at e2; cases e2
 | some b=>
  rw[e3] at e2;cases e2;obtain⟨bs,rfl,rfl⟩:=uy e3;have:=h2.bools;subst this;obtain⟨_,its,n,rv,hlen,eo⟩:=I.rdL (Rd.sub bq h1);have hl:s.heap.IsList l its.toArray:=⟨_,eo,rfl,n,rfl⟩
  have hlt:l<s.heap.objs.size:=bM eo;refine call_any_walk (G0 hl ?_);refine⟨s.heap.objs.size,[s.heap.objs.size,l],[s.heap.objs.size],its.toArray.size,_,_,λi=>(bs[i]?).getD false,rfl,Walks.list (A:=X.A.in1) (I.ok.hd hc) _ l (dr hlt) its.toArray,
   ⟨⟨_,c6 _ rfl,rfl,rfl⟩,hl.push _⟩,λi v s' Q' E' hP hQ=>?_,λh' tk hk=>?_⟩
  .obtain⟨b,e,rfl⟩:=rv.bool_at (i:=i) (v:=v) (by simpa using hP);simp only[e,Option.getD_some] at hQ;exact FJ hQ
  .have e:((List.range its.toArray.size).any λi=>(bs[i]?).getD false)=bs.any id:=by
    rw[Fh,<-hlen,Fj]; exact LSm.range_any bs
   rw[e];exact⟨.bl _,H,I.kept (t':=tk) (LSm.kept_iter hk),rfl,hq _ _ Res.bl⟩
theorem ue {S:Hp}:∀{ns:ai} {vs:ar},Dens W S vs (natL ns)->vs=cq ns
 | [],_,h=>by cases h; rfl
 | n::ns,_,h=>by
  cases h with
  | cons h q=>
   cases h;rw[ue q];rfl
theorem oJ {S:Hp}:∀{ns:ai},Dens W S (cq ns) (natL ns)
 | []=>.nil
 | n::ns=>.cons .int oJ
theorem sm:∀{ds:av} {ns:ai},cy ds=some ns->ds=natL ns/\∀n∈ns,n<6
 | [],ns,h=>by cases h; exact⟨rfl,λn hn=>by simp at hn⟩
 | d::ds,ns,h=>by
  cases d with
  | int i=>
   unfold cy at h;by_cases c:0<=i/\i<6
   .rw[if_pos c] at h;obtain⟨ms,e1,e2⟩:=cg h;obtain⟨h1,h2⟩:=sm e1;subst e2;refine⟨?_,λn hn=>?_⟩
    .rw[h1];show _=D.int (Int.ofNat i.toNat)::natL ms;rw[Int.ofNat_eq_natCast,Ht c.1]
    .rcases cZ hn with z | z
     .rw[z]; omega
     .exact h2 n z
   .rw[if_neg c] at h; cases h
  | _=>exact nomatch h
def zM:((St.subs 6).all λl=>decide (l=(List.range 6).filter λk=>l.contains k))=true:=by decide +kernel
def Dt {l:ai}{k x:Nat}:x∈St.stp l k↔x∈l\/x=k:=by
 unfold St.stp St.ins;by_cases c:k∈l
 .rw[if_pos c];exact⟨.inl,λh=>h.elim id λz=>z ▸ c⟩
 .rw[if_neg c];simp only[FT,FU,Fu];have b1:∀a b:Nat,Nat.blt a b=true↔a<b:=λa b=>⟨GI,Nat.ble_eq_true_of_le⟩
  simp only[b1];constructor
  .rintro (h | h | h)
   .exact .inl h.1
   .exact .inr h
   .exact .inl h.1
  .rintro (h | h)
   .rcases Nat.lt_trichotomy x k with z | z | z
    .exact .inl ⟨h,z⟩
    .exact .inr (.inl z)
    .exact .inr (.inr ⟨h,z⟩)
   .exact .inr (.inl h)
def xY {l:ai}{k:Nat}(hl:l∈St.subs 6)(hk:k<6):St.stp l k∈St.subs 6:=by
 unfold St.stp;by_cases c:k∈l
 .rw[if_pos c]; exact hl
 .rw[if_neg c];exact (St.ins_of hl hk c).2.2.2.2.1
theorem si:∀(ns l:ai),l∈St.subs 6->(∀n∈ns,n<6)->ns.foldl St.stp l∈St.subs 6/\∀x,x∈ns.foldl St.stp l↔x∈l\/x∈ns
 | [],l,hl,_=>⟨hl,λx=>by simp⟩
 | n::ns,l,hl,h=>by
  obtain⟨h1,h2⟩:=si ns (St.stp l n) (xY hl (h n bW)) λm hm=>h m (bX _ hm);refine⟨h1,λx=>?_⟩;rw[List.foldl_cons,h2 x,Dt,Fu,or_assoc]
def wN {ns:ai}(h:∀n∈ns,n<6):ns.foldl St.stp []=du ns:=by
 obtain⟨h1,h2⟩:=si ns [] (by decide +kernel) h;have:=He (dI zM _ h1);rw[this];unfold du;refine HE λk _=>?_;rw[Bool.eq_iff_iff,GJ,GJ,h2 k];simp
def Ea (hK:W.K=X.K):∀x H Q,rD W G .srtSet [x] H Q->∃a ns,x=.ref a/\SqL X.K H a (cq ns)/\(∀n∈ns,n<6)/\∀p,H p=none->Q (.ref p) (upd H p (.lst (cq (ns.foldl St.stp [])))):=by
 rintro x H Q ⟨N,xs,z,hN,hd,hz,hq⟩;simp only[Ip.zJ] at hz;obtain⟨v,p,e,rfl,dv,ez⟩:=hd.vs1 (o:=.srtSet) hz;cases e;obtain⟨ds,e1,e2⟩:=kJ ez;rw[e1] at dv;cases dv with | @lst a vs _ h1 h2=>?_
 cases q:cy ds with
 | none=>rw[q] at e2; cases e2
 | some ns=>
  rw[q] at e2;cases e2;obtain⟨r1,r2⟩:=sm q;rw[r1] at h2;have ev:=ue h2;subst ev;refine⟨a,ns,rfl,by rw[<-hK]; exact .inl (Rd.sub bq h1),r2,λp hp=>hq _ _ ?_⟩;rw[wN r2];exact Res.newL hp oJ
def CO:∀x H Q,rD W G .lrng [x] H Q->∃j:Int,x=.int j/\0<=j/\j<=16777216/\∀p,H p=none->Q (.ref p) (upd H p (.lst (cq (List.range j.toNat)))):=by
 rintro x H Q ⟨N,xs,z,hN,hd,hz,hq⟩;simp only[Ip.Cp] at hz;obtain⟨v,p,e,rfl,dv,ez⟩:=hd.vs1 (o:=.lrng) hz;cases e;obtain⟨k,d⟩:=p;cases dv <;> first | exact (bR ez).elim | simp only[Ip.gu] at ez
 rename_i j;by_cases c:0<=j/\j<=(SL:Int)
 .rw[if_pos c] at ez;cases ez;have:(SL:Int)=1000000:=rfl;exact⟨j,rfl,c.1,by omega,λp hp=>hq _ _ (Res.newL hp oJ)⟩
 .rw[if_neg c] at ez; cases ez
end
theorem OwnF.re {att:ao}{P Q:V->D->ak->Prop}{b:D->Bool}(hP:∀v d f,b d=true->P v d f->Q v d f):∀{vs ds fp},(ds.all λp=>b p.2)=true->OwnF att P vs ds fp->OwnF att Q vs ds fp:=by
 intro _ _ _ hf hZ;cases hZ with
 | nil=>exact .nil
 | cons e h q=>
  rw[List.all_cons,tw] at hf;exact .cons e (hP _ _ _ hf.1 h) (q.re hP hf.2)
theorem mR:∀{xs:List α},xs.all p=true->xs.all q=true->(xs.all λx=>p x&&q x)=true
 | [],_,_=>rfl
 | x::xs,h,k=>by
  rw[List.all_cons,tw] at h k;rw[List.all_cons,h.1,k.1,mR h.2 k.2]; rfl
section
variable {W:Wd}{S H:Hp}
theorem Own.fb:∀{k j v d fp},D.fb k d=true->D.fb j d=true->Own W S H k v d fp->Own W S H j v d fp
 | 0,j,_,d,_,h,_,o=>by
  rw[D.fb] at h;obtain⟨e1,e2⟩:=o.flat_inv h;rw[e1];exact Own.flat h e2
 | k+1,0,_,d,_,_,h,o=>by
  rw[D.fb] at h;obtain⟨e1,e2⟩:=o.flat_inv h;exact⟨e1,e2⟩
 | k+1,j+1,_,.lst ds,_,h1,h2,⟨a,vs,fq,e1,e2,e3,e4⟩=>⟨a,vs,fq,e1,e2,e3.re (b:=λd=>D.fb k d&&D.fb j d) (λv d f hb o=>by rw[tw] at hb; exact Own.fb hb.1 hb.2 o) (mR h1 h2),e4⟩
 | k+1,j+1,_,.tup ds,_,h1,h2,⟨a,vs,e1,e2,e3⟩=>⟨a,vs,e1,e2,e3.re (b:=λd=>D.fb k d&&D.fb j d) (λv d f hb o=>by rw[tw] at hb; exact Own.fb hb.1 hb.2 o) (mR h1 h2)⟩
 | k+1,j+1,_,.ins c ds,_,h1,h2,⟨a,C,dx,fs,fq,e1,e2,e5,e3,e4⟩=>⟨a,C,dx,fs,fq,e1,e2,e5,e3.re (b:=λd=>D.fb k d&&D.fb j d) (λv d f hb o=>by rw[tw] at hb; exact Own.fb hb.1 hb.2 o) (mR h1 h2),e4⟩
 | _+1,_+1,_,.non,_,_,_,h=>h
 | _+1,_+1,_,.bl _,_,_,_,h=>h
 | _+1,_+1,_,.int _,_,_,_,h=>h
 | _+1,_+1,_,.str _,_,_,_,h=>h
theorem Own.at (h:ba j (k,d)=true)(o:Own W S H k v d fp):Own W S H j v d fp:=by
 unfold ba at h;rw[FM,FM,tw] at h;rcases h with h | h | ⟨h1,h2⟩
 .obtain⟨e1,e2⟩:=o.flat_inv h;rw[e1];exact Own.flat h e2
 .have:k=j:=by simpa using h
  rw[<-this]; exact o
 .exact o.fb h2 h1
theorem OwnV.at:∀{vs xs fp},xs.all (ba j)=true->OwnV W S H vs xs fp->OwnL (Own W S H j) vs (xs.map (·.2)) fp:=by
 intro _ _ _ hf hZ;cases hZ with
 | nil=>exact .nil
 | cons h q=>
  rw[List.all_cons,tw] at hf;exact .cons (h.at hf.1) (q.at hf.2)
def yk:xs.all (ba (aL xs))=true\/aL xs=0:=by
 unfold aL;cases e:xs.find? λx=>!x.2.flat with
 | none=>
  refine .inl (List.all_eq_true.mpr λx hx=>Ip.vB ?_);have:=List.find?_eq_none.mp e x hx;simpa using this
 | some y=>
  show xs.all (ba (if xs.all (ba y.1)=true then y.1 else 0))=true\/(if xs.all (ba y.1)=true then y.1 else 0)=0;by_cases h:xs.all (ba y.1)=true
  .rw[if_pos h]; exact .inl h
  .rw[if_neg h]; exact .inr rfl
def OwnV.join {N:Addr->Prop}{vs:ar}{xs:au}{fp:ak}(nd:fp.Nodup)(hn:∀a∈fp,¬N a)(o:OwnV W (hid (λa=>N a\/a∈fp) H) H vs xs fp) :
  ∃fq:ak,fq.Nodup/\(∀a∈fq,a∈fp)/\OwnL (Own W (hid (λa=>N a\/a∈fq) H) H (aL xs)) vs (xs.map (·.2)) fq:=by
 rcases yk (xs:=xs) with h | h
 .exact⟨fp,nd,λ_ z=>z,o.at h⟩
 .rw[h];refine⟨[],.nil,λ_ z=>by simp at z,OwnL.zero ?_⟩;refine o.dens (λa u e=>?_) λa ha u e=>aS.mpr ⟨λz=>z.elim (hn a ha) (by simp),e⟩;obtain⟨h1,h2⟩:=aS.mp e;exact aS.mpr ⟨λz=>z.elim (λy=>h1 (.inl y)) (by simp),h2⟩
end
section
variable {X:Cx}{W:Wd}{G:Pg}{cl:Nat->au->Ip.Run}{E:St->XK}
def nF (e:Expr)(es:aq)(env:Env):(∃x p,e=.Starred x p)\/starEach (e::es) env=(false,PySem.eval e env)::starEach es env:=by
 cases e <;> first | exact .inl ⟨_,_,rfl⟩ | exact .inr rfl
def D2 (h:bJ W G cl (ir::irs) E σ H Q):bU (aY W G cl ir E) (bJ W G cl irs E) σ H Q:=by
 obtain⟨N,a,hN,hS,h⟩:=h;unfold bU;refine f9 hN hS (λx ex v H1 fp hs nd hf ow hN1 hS1=>?_) λee=>?_
 .refine⟨_,a,hN1,hS1,?_⟩;cases q:evals G cl a irs with
  | bad=>simp only[bP,ex,q,Ip.R.bind] at h
  | ok xs=>
   simp only[bP,ex,q,Ip.R.bind] at h;rintro vs H2 ⟨hs2,fq,nd2,hf2,o2⟩;refine h _ _ ⟨hs.trans hs2,fp++fq,?_,λb z=>(dg z).elim (hf b) λy=>hs.none (hf2 b y),?_⟩
   .refine Fv.mpr ⟨nd,nd2,λb hb c hc z=>?_⟩;rw[z] at hb;exact ow.dom c hb (hf2 c hc)
   .refine .cons (ow.mono (ga hs2 λb z=>?_) λb hb o e=>hs2 b o e) (o2.mono (λb o e=>?_) λb _ o e=>e)
    .rcases z with z | z
     .exact .inl (.inl z)
     .exact (dg z).elim (λy=>.inl (.inr y)) λy=>.inr (hf2 b y)
    .obtain⟨h1,h2⟩:=aS.mp e;refine aS.mpr ⟨λz=>h1 ?_,h2⟩;rcases z with z | z
     .exact .inl (.inl z)
     .exact (dg z).elim (λy=>.inl (.inr y)) .inr
 .simp only[bP,ee,Ip.R.bind] at h
def nq (h:bJ W G cl [] E σ H Q):d8 σ H Q:=by
 obtain⟨N,a,hN,hS,h⟩:=h;simp only[cj] at h;exact h _ _ ⟨Sub.refl _,[],.nil,λa z=>by simp at z,.nil⟩
theorem vh:∀{es:aq} {f:Expr->Ex},(∀e∈es,PE X e (aY W G cl (f e) E))->(∀e∈es,∀x p,e=.Starred x p->f e=.bad)->PA X es (bJ W G cl (es.map f) E)
 | [],_,_,_=>iB.mono λσ H Q h=>nq h
 | e::es,f,h,k=>by
  rcases nF e es X.env with ⟨x,p,hx⟩ | hs
  .rintro pos pins s σ H Q I ⟨N,a,_,_,q⟩;rw[Fk,k e Gh x p hx,bP,f7] at q;exact q.elim
  .refine (gx (h e bW) (vh (λy hy=>h y (bX _ hy)) λy hy=>k y (bX _ hy)) hs).mono λσ H Q q=>?_;rw[Fk] at q;exact D2 q
def o6 (hl:irs.length<=1000)(h:PA X es (bJ W G cl irs E)):PE X (.List es pos) (aY W G cl (.op .lst irs) E):=by
 refine (y2 h).mono λσ H Q hZz=>?_;obtain⟨N,a,hN,hS,q⟩:=hZz;refine⟨N,a,hN,hS,?_⟩;rw[df] at q;cases e:evals G cl a irs with
 | bad=>rw[e] at q; exact q
 | ok xs=>
  simp only[e,Ip.R.bind,Ip.R.of,Ip.vt] at q;rintro vs H1 ⟨hs,fp,nd,hf,o⟩;have hx:xs.length=irs.length:=evals_length e;refine⟨?_,λp hp=>?_⟩
  .rw[o.length,hx];exact bv hl (by decide)
  obtain⟨fq,nd2,sub,o2⟩:=o.join nd λb hb z=>hN b z (hf b hb);refine q _ _ ⟨hs.trans (Sub.upd hp),p::fq,FB.mpr ⟨λz=>o.dom p (sub p z) hp,nd2⟩,λb z=>?_,p,vs,fq,rfl,cQ,?_,rfl⟩
  .rcases cZ z with y | y
   .rw[y]; exact hs.none hp
   .exact hf b (sub b y)
  .refine o2.imp λv d f hf2 ow=>ow.mono (ga (Sub.upd hp) λb z=>?_) λb _ u e=>Sub.upd hp b u e;rcases z with z | z
   .exact .inl (.inl z)
   .rcases cZ z with y | y
    .rw[y]; exact .inr hp
    .exact .inl (.inr y)
where
 evals_length {a:Sl}:∀{irs:aC} {xs:au},evals G cl a irs=.ok xs->xs.length=irs.length
  | [],xs,h=>by rw[cj] at h; cases h; rfl
  | ir::irs,xs,h=>by
   rw[bP] at h;cases e1:Ip.eval G cl a ir with
   | bad=>rw[e1] at h; cases h
   | ok x=>
    cases e2:evals G cl a irs with
    | bad=>rw[e1,e2] at h; cases h
    | ok ys=>
     rw[e1,e2] at h;cases h;rw[List.length_cons,List.length_cons,evals_length e2]
def Dk (hl:irs.length<=1000)(h:PA X es (bJ W G cl irs E)):PE X (.Tuple es k pos) (aY W G cl (.op .tup irs) E):=by
 refine (tF h).mono λσ H Q hZz=>?_;obtain⟨N,a,hN,hS,q⟩:=hZz;refine⟨N,a,hN,hS,?_⟩;rw[df] at q;cases e:evals G cl a irs with
 | bad=>rw[e] at q; exact q
 | ok xs=>
  simp only[e,Ip.R.bind,Ip.R.of,Ip.wz] at q;rintro vs H1 ⟨hs,fp,nd,hf,o⟩;have hx:xs.length=irs.length:=o6.evals_length e;refine⟨?_,λp hp=>?_⟩
  .rw[o.length,hx];exact bv hl (by decide)
  obtain⟨fq,nd2,sub,o2⟩:=o.join nd λb hb z=>hN b z (hf b hb);refine q _ _ ⟨hs.trans (Sub.upd hp),fq,nd2,λb z=>hf b (sub b z),p,vs,rfl,SqT.of (aS.mpr ⟨λz=>?_,cQ⟩),?_⟩
  .rcases z with z | z
   .exact (hN.mono hs) p z hp
   .exact o.dom p (sub p z) hp
  .refine o2.imp λv d f hf2 ow=>ow.mono (ga (Sub.upd hp) λb z=>.inl z) λb _ u e=>Sub.upd hp b u e
end
section
variable {X:Cx}{W:Wd}{G:Pg}{cl:Nat->au->Ip.Run}{E:St->XK}{σ:St}{H:Hp}
def D5 (h:PE X e (cA i)):PE X e (aY W G cl (.var i) E):=h.mono λσ H Q ⟨N,a,hN,hS,q⟩=>by
 rw[Ip.ku] at q;cases e:a[i]? with
 | none=>rw[e] at q; exact q.elim
 | some o=>
  cases o with
  | none=>rw[e] at q; exact q.elim
  | some d=>
   rw[e] at q;obtain⟨v,h1,h2⟩:=hS i d e;exact⟨v,h1,q v H (Res.of_den (Sub.refl _) h2)⟩
def mh (hd:d.flat=true)(hv:∀S,Den W S v d)(h:PE X e (tC v)):PE X e (aY W G cl (.cst d) E):=h.mono λσ H Q ⟨N,a,hN,hS,q⟩=>by
 rw[Ip.nM] at q;exact q v H (Res.of_flat (Sub.refl _) hd (hv _))
def bL (W:Wd)(G:Pg)(cl:Nat->au->Ip.Run)(ir:Ex)(E:St->XK):TT:=λσ H Q=>∃(N:Addr->Prop) (a:Sl),NOk N H/\RelS W (hid N H) a σ/\match (Ip.eval G cl a ir).bl with
 | .ok b=>∀H',Sub H H'->Q b H'
 | .bad=>False
def RelS.grow (hS:RelS W (hid N H) a σ)(hs:Sub H H1):RelS W (hid N H1) a σ:=hS.mono (ga hs λ_ z=>.inl z)
def lH (h:bL W G cl ir E σ H Q):aY W G cl ir E σ H (λx H1=>∃c,x=.bl c/\Q c H1):=by
 obtain⟨N,a,hN,hS,h⟩:=h;refine⟨N,a,hN,hS,?_⟩;cases e:Ip.eval G cl a ir with
 | bad=>rw[e] at h; exact h
 | ok x=>
  obtain⟨k,d⟩:=x;rw[e] at h;intro v H' r;cases d <;> try (exact h.elim)
  have:=(r.den hN).bl_inv;subst this;exact⟨_,rfl,h H' r.1⟩
def r8 (h:PE X e (aY W G cl ir E))(he:∀whole,isTrue e X.env whole=(do let v <-whole; standAt e.pos; holding [v] (truthy v))):PT X e (bL W G cl ir E):=
 (zl h he).mono λσ H Q q=>lH q
def gH {α β:Type}{r:Ip.R α}{f:α->Ip.R β}{b:β}(h:r.bind f=.ok b):∃a,r=.ok a/\f a=.ok b:=by
 cases r with
 | ok a=>exact⟨a,rfl,h⟩
 | bad=>cases h
def xW (h:bL W G cl (.and x y) E σ H Q):jg (bL W G cl x E) (bL W G cl y E) σ H Q:=by
 obtain⟨N,a,hN,hS,h⟩:=h;rw[lI] at h;unfold jg;refine⟨N,a,hN,hS,?_⟩;cases e:Ip.eval G cl a x with
 | bad=>rw[e] at h; exact h
 | ok v=>
  obtain⟨k,d⟩:=v;rw[e] at h;cases d <;> try (exact h.elim)
  rename_i b;intro H1 hs;cases b with
  | false=>exact h H1 hs
  | true=>
   rw[if_pos rfl];refine⟨N,a,hN.mono hs,hS.grow hs,?_⟩;simp only[Ip.R.bind,ik,if_true] at h;cases e2:(Ip.eval G cl a y).bl with
   | bad=>rw[e2] at h; exact h
   | ok b=>rw[e2] at h; exact λH' hs2=>h H' (hs.trans hs2)
def AX (h:bL W G cl (.or x y) E σ H Q):oG (bL W G cl x E) (bL W G cl y E) σ H Q:=by
 obtain⟨N,a,hN,hS,h⟩:=h;rw[k8] at h;unfold oG;refine⟨N,a,hN,hS,?_⟩;cases e:Ip.eval G cl a x with
 | bad=>rw[e] at h; exact h
 | ok v=>
  obtain⟨k,d⟩:=v;rw[e] at h;cases d <;> try (exact h.elim)
  rename_i b;intro H1 hs;cases b with
  | true=>exact h H1 hs
  | false=>
   rw[if_neg (by decide)];refine⟨N,a,hN.mono hs,hS.grow hs,?_⟩;simp only[Ip.R.bind,ik,Fq,if_false] at h;cases e2:(Ip.eval G cl a y).bl with
   | bad=>rw[e2] at h; exact h
   | ok b=>rw[e2] at h; exact λH' hs2=>h H' (hs.trans hs2)
def EW (h:bL W G cl (.op .not [x]) E σ H Q):jN (bL W G cl x E) σ H Q:=by
 obtain⟨N,a,hN,hS,h⟩:=h;rw[df,bP,cj] at h;unfold jN;refine⟨N,a,hN,hS,?_⟩;cases e:Ip.eval G cl a x with
 | bad=>rw[e] at h; exact h
 | ok v=>
  obtain⟨k,d⟩:=v;rw[e] at h;cases d <;> first | exact h | exact h.elim
def CU (h:aY W G cl (.and x y) E σ H Q):gq (aY W G cl x E) (aY W G cl y E) σ H Q:=by
 obtain⟨N,a,hN,hS,h⟩:=h;rw[lI] at h;unfold gq;refine⟨N,a,hN,hS,?_⟩;cases e:Ip.eval G cl a x with
 | bad=>rw[e] at h; exact h
 | ok v=>
  obtain⟨k,d⟩:=v;rw[e] at h;cases d <;> try (exact h.elim)
  rename_i b;intro v H1 r;have:=(r.den hN).bl_inv;subst this;have hs:=r.1;refine⟨b,rfl,?_⟩;cases b with
  | false=>exact h _ _ (Res.of_flat hs rfl .bl)
  | true=>
   rw[if_pos rfl];refine⟨N,a,hN.mono hs,hS.grow hs,?_⟩;simp only[Ip.R.bind,ik,if_true] at h;cases e2:Ip.eval G cl a y with
   | bad=>rw[e2] at h; exact h
   | ok b=>rw[e2] at h; exact λv H' r2=>h v H' (r2.trans hs)
def oB (h:aY W G cl (.or x y) E σ H Q):jq (aY W G cl x E) (aY W G cl y E) σ H Q:=by
 obtain⟨N,a,hN,hS,h⟩:=h;rw[k8] at h;unfold jq;refine⟨N,a,hN,hS,?_⟩;cases e:Ip.eval G cl a x with
 | bad=>rw[e] at h; exact h
 | ok v=>
  obtain⟨k,d⟩:=v;rw[e] at h;cases d <;> try (exact h.elim)
  rename_i b;intro v H1 r;have:=(r.den hN).bl_inv;subst this;have hs:=r.1;refine⟨b,rfl,?_⟩;cases b with
  | true=>exact h _ _ (Res.of_flat hs rfl .bl)
  | false=>
   rw[if_neg (by decide)];refine⟨N,a,hN.mono hs,hS.grow hs,?_⟩;simp only[Ip.R.bind,ik,Fq,if_false] at h;cases e2:Ip.eval G cl a y with
   | bad=>rw[e2] at h; exact h
   | ok b=>rw[e2] at h; exact λv H' r2=>h v H' (r2.trans hs)
def xx (h:aY W G cl (.ite c x y) E σ H Q):qo (bL W G cl c E) (aY W G cl x E) (aY W G cl y E) σ H Q:=by
 obtain⟨N,a,hN,hS,h⟩:=h;rw[Ip.rd] at h;unfold qo;refine⟨N,a,hN,hS,?_⟩;cases e:Ip.eval G cl a c with
 | bad=>rw[e] at h; exact h
 | ok v=>
  obtain⟨k,d⟩:=v;rw[e] at h;cases d <;> try (exact h.elim)
  rename_i b;intro H1 hs;cases b with
  | true=>
   rw[if_pos rfl];refine⟨N,a,hN.mono hs,hS.grow hs,?_⟩;simp only[Ip.R.bind,ik,if_true] at h;cases e2:Ip.eval G cl a x with
   | bad=>rw[e2] at h; exact h
   | ok b=>rw[e2] at h; exact λv H' r2=>h v H' (r2.trans hs)
  | false=>
   rw[if_neg (by decide)];refine⟨N,a,hN.mono hs,hS.grow hs,?_⟩;simp only[Ip.R.bind,ik,Fq,if_false] at h;cases e2:Ip.eval G cl a y with
   | bad=>rw[e2] at h; exact h
   | ok b=>rw[e2] at h; exact λv H' r2=>h v H' (r2.trans hs)
def vQ (h:aY W G cl (.chain o p x y z) E σ H Q) :
  d9 (λx y=>rD W G o [x,y]) (λx y=>rD W G p [x,y]) (aY W G cl x E) (aY W G cl y E) (aY W G cl z E) σ H Q:=by
 obtain⟨N,a,hN,hS,h⟩:=h;rw[Ip.ou] at h;unfold d9;refine f9 hN hS (λx1 ex v H1 fp hs nd hf ow hN1 hS1=>?_) λee=>?_
 .refine f9 hN1 hS1 (λy1 ey w H2 fq hs2 nd2 hf2 ow2 hN2 hS2=>?_) λee=>?_
  .simp only[ex,ey,Ip.R.bind] at h;have hN':=hN.mono (hs.trans hs2);have dx:=ow.later hN hs2 hf λ_ y=>y;have dy:=ow2.later (hN.mono hs) (Sub.refl _) hf2 λ_ y=>.inl y;cases q:bm G o [x1,y1] with
   | none=>simp only[q,Ip.R.of] at h
   | some b=>
    simp only[q,Ip.R.of] at h;refine⟨N,[x1,y1],b,hN',.cons dx (.cons dy .nil),q,λv2 H3 r3=>?_⟩;obtain⟨kb,b⟩:=b;cases b <;> try (exact h.elim)
    rename_i b;have:=(r3.den hN').bl_inv;subst this;have hs3:=(hs.trans hs2).trans r3.1;refine⟨b,rfl,?_⟩;cases b with
    | false=>exact h _ _ (Res.of_flat hs3 rfl .bl)
    | true=>
     rw[if_pos rfl];simp only[ik,if_true] at h;refine f9 (hN.mono hs3) (hS.grow hs3) (λz1 ez u H4 fz hs4 nd4 hf4 ow4 hN4 hS4=>?_) λee=>?_
     .simp only[ez] at h;cases q2:bm G p [y1,z1] with
      | none=>simp only[q2] at h
      | some t=>
       simp only[q2] at h;exact⟨N,[y1,z1],t,hN.mono (hs3.trans hs4),.cons (dy.mono (ga (r3.1.trans hs4) λ_ z=>.inl z)) (.cons (ow4.later (hN.mono hs3) (Sub.refl _) hf4 λ_ y=>y) .nil),q2,λv H' r=>h v H' (r.trans (hs3.trans hs4))⟩
     .simp only[ee] at h
  .simp only[ex,ee,Ip.R.bind] at h
 .simp only[ee,Ip.R.bind] at h
end
def ItD (W:Wd)(N:Addr->Prop)(H1:Hp)(J:It)(ds:av):Prop:=∀(M:Addr->Prop) (H:Hp),Sub (hid N H1) (hid M H)->NOk M H->∀i:Nat,
 (∀d,ds[i]? = some d->J.go i H/\∀x H',J.yld i H x H'->Sub H H'/\Den W (hid M H') x d)/\(ds.length<=i->J.stop i H)
section
variable {X:Cx}{W:Wd}{G:Pg}{cl:Nat->au->Ip.Run}{E:St->XK}
def je (h:Sub H H'):Sub (hid N H) (hid N H'):=ga h λ_ z=>.inl z
def fw (W:Wd)(G:Pg)(cl:Nat->au->Ip.Run)(wk:Wk)(irs:aC)(E:St->XK):TI:=λσ H R=>∃(N:Addr->Prop) (a:Sl),NOk N H/\RelS W (hid N H) a σ/\match evals G cl a irs with
 | .ok vs=>(match da wk vs with
  | some ds=>∀J H',Sub H H'->ItD W N H' J ds->(wk.rng=true->∀M,ItD W M H' J ds)->R J H'
  | none=>False)
 | .bad=>False
def PI.mono (h:PI X tg iter t)(k:∀σ H R,t' σ H R->t σ H R):PI X tg iter t':=λpins s σ H R I q=>h pins s σ H R I (k σ H R q)
def ItD.list (hK:W.K=X.K)(h:Rd (hid N H1) a (.lst vs))(q:Dens W (hid N H1) vs ds):ItD W N H1 (qL X.K a) ds:=λM H hs hN i=>by
 have hq:SqL X.K H a vs:=.inl (Rd.sub (hs.trans bq) h);refine⟨λd e=>?_,λhl=>⟨vs,hq,by rw[q.length]; exact hl⟩⟩;obtain⟨v,e1,e2⟩:=q.get e;refine⟨⟨vs,v,hq,e1⟩,λx H' hZz=>?_⟩;obtain⟨hH,hx⟩:=hZz;subst hH;have:=hx vs hq;rw[e1] at this;cases this;exact⟨Sub.refl _,e2.mono hs⟩
def ItD.tup (hK:W.K=X.K)(h:SqT W.K (hid N H1) a vs)(q:Dens W (hid N H1) vs ds):ItD W N H1 (o4 X.K a) ds:=λM H hs hN i=>by
 have hq:SqT X.K H a vs:=hK ▸ SqT.sub (hs.trans bq) h;refine⟨λd e=>?_,λhl=>⟨vs,hq,by rw[q.length]; exact hl⟩⟩;obtain⟨v,e1,e2⟩:=q.get e;refine⟨⟨vs,v,hq,e1⟩,λx H' hZz=>?_⟩;obtain⟨hH,hx⟩:=hZz;subst hH;have:=hx vs hq;rw[e1] at this;cases this;exact⟨Sub.refl _,e2.mono hs⟩
def DH (hK:W.K=X.K)(h:PE X e (aY W G cl ir E)):PI X tg e (fw W G cl .seq [ir] E):=by
 rintro pins s σ H R I ⟨N,a,hN,hS,q⟩;rw[bP,cj] at q;cases e1:Ip.eval G cl a ir with
 | bad=>rw[e1] at q; exact q.elim
 | ok x=>
  obtain⟨k,d⟩:=x;rw[e1] at q;simp only[show da .seq [(k,d)]=d.seq from rfl] at q;cases e2:d.seq with
  | none=>rw[e2] at q; exact q.elim
  | some ds=>
   rw[e2] at q;cases d <;> first | exact (bR e2).elim | simp only[D.seq] at e2
   .cases e2;refine Em h pins s σ H R I ⟨N,a,hN,hS,?_⟩;rw[e1];intro v H' r;have dv:=r.den hN;cases dv with | @lst b vs _ h1 h2=>?_
    exact⟨b,rfl,⟨vs,.inl (Rd.sub bq h1)⟩,q _ _ r.1 (ItD.list hK h1 h2) λz=>nomatch z⟩
   .cases e2;refine AI h pins s σ H R I ⟨N,a,hN,hS,?_⟩;rw[e1];intro v H' r;have dv:=r.den hN;cases dv with | @tup b vs _ h1 h2=>?_
    exact⟨b,rfl,⟨vs,hK ▸ SqT.sub bq h1⟩,q _ _ r.1 (ItD.tup hK h1 h2) λz=>nomatch z⟩
theorem ItD.range {N:Addr->Prop}{H1:Hp}{lo:Int}{n:Nat}:ItD W N H1 (kD lo n) ((List.range n).map λ(i:Nat)=>.int (lo+i)):=λM H hs hN i=>by
 refine⟨λd e=>?_,λhl=>?_⟩;rotate_left
 .show n<=i;simpa using hl
 rw[Fs] at e;obtain⟨j,e1,e2⟩:=cg e;have hi:i<n:=by have:=(de e1).1; simpa using this
 rw[List.getElem?_range hi] at e1;cases e1;subst e2;refine⟨hi,λx H' hZz=>?_⟩;obtain⟨hH,hx⟩:=hZz;subst hH hx;exact⟨Sub.refl _,.int⟩
def wk_rng1 (h:da .rng1 xs=some ds):∃k j,xs=[(k,.int j)]/\(-(2 ^ 62)<=j/\j<2 ^ 62)/\ds=(List.range j.toNat).map λ(n:Nat)=>.int n:=by
 obtain⟨⟨k,d⟩,rfl,h2⟩:=Ip.pN (f:=Ip.iJ) h;obtain⟨j,e1,h3⟩:=bZ (show (fj d).bind _=some ds from h2);clear h h2;obtain rfl:=Ip.qh e1;by_cases hj:ci j=true
 .rw[if_pos hj] at h3;cases h3;exact⟨k,j,rfl,dA.mp hj,rfl⟩
 .rw[if_neg hj] at h3; exact (bR h3).elim
def wk_rng2 (h:da .rng2 xs=some ds):∃k l i j,xs=[(k,.int i),(l,.int j)]/\(-(2 ^ 62)<=i/\i<2 ^ 62 /\ -(2 ^ 62)<=j/\j<2 ^ 62)/\ds=(List.range (j - i).toNat).map λ(n:Nat)=>.int (i+n):=by
 obtain⟨⟨k,d⟩,⟨l,e⟩,rfl,h2⟩:=Ip.sN (f:=Ip.ip) h;obtain⟨i,e1,h3⟩:=bZ (show (fj d).bind _=some ds from h2);obtain⟨j,e2,h4⟩:=bZ h3;clear h h2 h3;obtain rfl:=Ip.qh e1;obtain rfl:=Ip.qh e2;by_cases hj:ci i=true/\ci j=true
 .rw[if_pos hj] at h4;cases h4;exact⟨k,l,i,j,rfl,⟨(dA.mp hj.1).1,(dA.mp hj.1).2,(dA.mp hj.2).1,(dA.mp hj.2).2⟩,rfl⟩
 .rw[if_neg hj] at h4; exact (bR h4).elim
def rl {d:D}{xs:av}(h:d.lstO=some xs):d=.lst xs:=by
 cases d <;> simp only[D.lstO] at h <;> cases h
 rfl
def CL {d:D}{xs:av}(h:d.seq=some xs):d=.lst xs\/d=.tup xs:=by
 cases d <;> simp only[D.seq] at h <;> cases h
 .exact .inl rfl
 .exact .inr rfl
def wk_enum (h:da .enum xs=some ds):∃k d es,xs=[(k,d)]/\(d=.lst es\/d=.tup es)/\ds=es.mapIdx λn d=>.tup [.int n,d]:=by
 obtain⟨⟨k,d⟩,rfl,h2⟩:=Ip.pN (f:=Ip.iT) h;obtain⟨es,e1,e2⟩:=cg (show d.seq.map _=some ds from h2);exact⟨k,d,es,rfl,CL e1,e2.symm⟩
def yj {xs:au}{ds:av}(h:da .rev xs=some ds):∃k us,xs=[(k,.lst us)]/\ds=us.reverse:=by
 obtain⟨⟨k,d⟩,rfl,h2⟩:=Ip.pN (f:=Ip.hX) h;obtain⟨us,e1,e2⟩:=cg (show d.lstO.map _=some ds from h2);cases rl e1;exact⟨k,us,rfl,e2.symm⟩
def wk_zip (h:da .zip xs=some ds):∃k l d e us ws,xs=[(k,d),(l,e)]/\d=.lst us/\e=.lst ws/\ds=(us.zip ws).map λp=>.tup [p.1,p.2]:=by
 obtain⟨⟨k,d⟩,⟨l,e⟩,rfl,h2⟩:=Ip.sN (f:=Ip.lG) h;obtain⟨us,e1,e2⟩:=bZ (show d.lstO.bind _=some ds from h2);obtain⟨ws,e3,e4⟩:=cg e2;exact⟨k,l,d,e,us,ws,rfl,rl e1,rl e3,e4.symm⟩
def ma (h:fw W G cl wk irs E σ H R)
  (k:∀(N:Addr->Prop) xs ds,da wk xs=some ds->NOk N H->(∀J H',Sub H H'->ItD W N H' J ds->(wk.rng=true->∀M,ItD W M H' J ds)->R J H')->∀vs H',Sub H H'->Dens W (hid N H') vs (xs.map (·.2))->Q vs H'):bJ W G cl irs E σ H Q:=by
 obtain⟨N,a,hN,hS,q⟩:=h;refine⟨N,a,hN,hS,?_⟩;cases e1:evals G cl a irs with
 | bad=>rw[e1] at q; exact q
 | ok xs=>
  rw[e1] at q;simp only at q;cases e2:da wk xs with
  | none=>rw[e2] at q; exact q.elim
  | some ds=>
   rw[e2] at q;exact λvs H' r=>k N xs ds e2 hN q vs H' r.1 (r.dens hN)
def DD {tg e:Expr}{ir:Ex}{p pos:Pos}(hg:Gl X "range")(hm:X.mg "range" = none)(h:PA X [e] (bJ W G cl [ir] E))(hs:starEach [e] X.env=[(false,PySem.eval e X.env)]):PI X tg (.Call (.Name "range" p) [e] [] pos) (fw W G cl .rng1 [ir] E):=by
 refine (xA hg hm h hs).mono λσ H R q=>ma q λN xs ds e2 hN q vs H' hs dv=>?_;obtain⟨k,j,rfl,hj,rfl⟩:=wk_rng1 e2;obtain⟨v,rfl,h1⟩:=Dens.one dv;rw[h1.int_inv];have rr:∀M,ItD W M H' (kD 0 j.toNat) ((List.range j.toNat).map λ(n:Nat)=>.int n):=λM=>by
  have:=ItD.range (W:=W) (N:=M) (H1:=H') (lo:=0) (n:=j.toNat);simpa using this
 exact⟨j,rfl,hj.1,hj.2,q _ _ hs (rr N) λ_ M=>rr M⟩
def Bt (hg:Gl X "range")(hm:X.mg "range" = none)(h:PA X [e,e'] (bJ W G cl [ir,ir'] E))(hs:starEach [e,e'] X.env=[(false,PySem.eval e X.env),(false,PySem.eval e' X.env)])(hs2:starEach [e'] X.env=[(false,PySem.eval e' X.env)]):PI X tg (.Call (.Name "range" p) [e,e'] [] pos) (fw W G cl .rng2 [ir,ir'] E):=by
 refine (xD hg hm h hs hs2).mono λσ H R q=>ma q λN xs ds e2 hN q vs H' hs dv=>?_;obtain⟨k,l,i,j,rfl,hj,rfl⟩:=wk_rng2 e2;obtain⟨v,w,rfl,h1,h2⟩:=Dens.two dv;rw[h1.int_inv,h2.int_inv];exact⟨i,j,rfl,hj,q _ _ hs ItD.range λ_ _=>ItD.range⟩
def ItD.enum (hK:W.K=X.K)(h:Rd (hid N H1) a (.lst vs))(q:Dens W (hid N H1) vs ds):ItD W N H1 (qW X.K a) (ds.mapIdx λn d=>.tup [.int n,d]):=λM H hs hN i=>by
 have hq:SqL X.K H a vs:=.inl (Rd.sub (hs.trans bq) h);refine⟨λd e=>?_,λhl=>⟨vs,hq,by rw[q.length]; simpa using hl⟩⟩;rw[FW] at e;obtain⟨d',e0,rfl⟩:=cg e;obtain⟨v,e1,e2⟩:=q.get e0;refine⟨⟨vs,v,hq,e1⟩,λx H' hZz=>?_⟩;obtain⟨y,p,hx,hp,hH,hy⟩:=hZz;have:=hy vs hq;rw[e1] at this;cases this;subst hx hH;exact⟨Sub.upd hp,.tup (SqT.of (aS.mpr ⟨λz=>hN p z hp,cQ⟩)) (.cons .int (.cons (e2.mono (hs.trans (je (Sub.upd hp)))) .nil))⟩
def ItD.enumT (hK:W.K=X.K)(h:SqT W.K (hid N H1) a vs)(q:Dens W (hid N H1) vs ds):ItD W N H1 (jx X.K a) (ds.mapIdx λn d=>.tup [.int n,d]):=λM H hs hN i=>by
 have hq:SqT X.K H a vs:=by rw[<-hK]; exact SqT.sub (hs.trans bq) h
 refine⟨λd e=>?_,λhl=>⟨vs,hq,by rw[q.length]; simpa using hl⟩⟩;rw[FW] at e;obtain⟨d',e0,rfl⟩:=cg e;obtain⟨v,e1,e2⟩:=q.get e0;refine⟨⟨vs,v,hq,e1⟩,λx H' hZz=>?_⟩;obtain⟨y,p,hx,hp,hH,hy⟩:=hZz;have:=hy vs hq;rw[e1] at this;cases this;subst hx hH;exact⟨Sub.upd hp,.tup (SqT.of (aS.mpr ⟨λz=>hN p z hp,cQ⟩)) (.cons .int (.cons (e2.mono (hs.trans (je (Sub.upd hp)))) .nil))⟩
theorem ItD.zip (hK:W.K=X.K)(h:Rd (hid N H1) a (.lst vs))(q:Dens W (hid N H1) vs ds)(h':Rd (hid N H1) b (.lst ws))(q':Dens W (hid N H1) ws es) :
  ItD W N H1 (rC X.K a b) ((ds.zip es).map λp=>.tup [p.1,p.2]):=λM H hs hN i=>by
 have hq:SqL X.K H a vs:=.inl (Rd.sub (hs.trans bq) h);have hq':SqL X.K H b ws:=.inl (Rd.sub (hs.trans bq) h');refine⟨λd e=>?_,λhl=>?_⟩
 .rw[Fs] at e;obtain⟨⟨d1,d2⟩,e0,rfl⟩:=cg e;obtain⟨e1,e2⟩:=List.getElem?_zip_eq_some.mp e0;obtain⟨v,f1,f2⟩:=q.get e1;obtain⟨w,g1,g2⟩:=q'.get e2;refine⟨⟨vs,ws,v,w,hq,hq',f1,g1⟩,λx H' hZz=>?_⟩;obtain⟨y,z,p,hx,hp,hH,hy,hz⟩:=hZz;have t1:=hy vs hq;have t2:=hz ws hq';rw[f1] at t1;rw[g1] at t2;cases t1;cases t2;subst hx hH;exact⟨Sub.upd hp,.tup (SqT.of (aS.mpr ⟨λz=>hN p z hp,cQ⟩)) (.cons (f2.mono (hs.trans (je (Sub.upd hp)))) (.cons (g2.mono (hs.trans (je (Sub.upd hp)))) .nil))⟩
 .refine⟨vs,ws,hq,hq',?_⟩;rw[q.length,q'.length];simp only[Fj,List.length_zip] at hl;omega
def ItD.rev (h:Rd (hid N H1) a (.lst vs))(q:Dens W (hid N H1) vs ds):ItD W N H1 (pI X.K a vs.length) ds.reverse:=λM H hs hN i=>by
 have hq:SqL X.K H a vs:=.inl (Rd.sub (hs.trans bq) h);have ln:=q.length;refine⟨λd e=>?_,λhl=>?_⟩
 .have hi:i<ds.length:=by simpa using (de e).1
  rw[List.getElem?_reverse hi,<-ln] at e;obtain⟨v,e1,e2⟩:=q.get e;refine⟨⟨by omega,vs,v,hq,e1⟩,λx H' hZz=>?_⟩;obtain⟨hH,hx⟩:=hZz;subst hH;have:=hx vs hq;rw[e1] at this;cases this;exact⟨Sub.refl _,e2.mono hs⟩
 .show vs.length<=i;rw[ln]; simpa using hl
def za (hK:W.K=X.K)(hg:Gl X "enumerate")(hm:X.mg "enumerate" = none)(hv:bootBuiltins "enumerate" = some (.type "enumerate"))(h:PA X [e] (bJ W G cl [ir] E))(hs:starEach [e] X.env=[(false,PySem.eval e X.env)]) :
  PI X (.Tuple es k1 tp) (.Call (.Name "enumerate" p) [e] [] pos) (fw W G cl .enum [ir] E):=by
 refine (zV hg hm hv h hs).mono λσ H R q=>ma q λN xs ds e2 hN q vs H' hs dv=>?_;obtain⟨k,d,us,rfl,hd,rfl⟩:=wk_enum e2;obtain⟨v,rfl,h0⟩:=Dens.one dv;rcases hd with rfl | rfl
 .have h0':Den W (hid N H') v (.lst us):=h0;cases h0' with | @lst a ws _ h1 h2=>?_
  exact .inl ⟨a,ws,rfl,.inl (Rd.sub bq h1),q _ _ hs (ItD.enum hK h1 h2) λz=>nomatch z⟩
 .have h0':Den W (hid N H') v (.tup us):=h0;cases h0' with | @tup a ws _ h1 h2=>?_
  exact .inr ⟨a,ws,rfl,by rw[<-hK]; exact SqT.sub bq h1,q _ _ hs (ItD.enumT hK h1 h2) λz=>nomatch z⟩
def Ey (hg:Gl X "reversed")(hm:X.mg "reversed" = none)(hv:bootBuiltins "reversed" = some (.type "reversed"))(h:PA X [e] (bJ W G cl [ir] E))(hs:starEach [e] X.env=[(false,PySem.eval e X.env)]) :
  PI X tg (.Call (.Name "reversed" p) [e] [] pos) (fw W G cl .rev [ir] E):=by
 refine (zF hg hm hv h hs).mono λσ H R q=>ma q λN xs ds e2 hN q vs H' hs dv=>?_;obtain⟨k,us,rfl,rfl⟩:=yj e2;obtain⟨v,rfl,h0⟩:=Dens.one dv;have h0':Den W (hid N H') v (.lst us):=h0;cases h0' with | @lst a ws _ h1 h2=>?_
 exact⟨a,ws,rfl,.inl (Rd.sub bq h1),q _ _ hs (ItD.rev h1 h2) λz=>nomatch z⟩
def wT (hK:W.K=X.K)(hg:Gl X "zip")(hm:X.mg "zip" = none)(hv:bootBuiltins "zip" = some (.type "zip"))(h:PA X [e,e'] (bJ W G cl [ir,ir'] E))
  (hs:starEach [e,e'] X.env=[(false,PySem.eval e X.env),(false,PySem.eval e' X.env)])(hs2:starEach [e'] X.env=[(false,PySem.eval e' X.env)]) :
  PI X (.Tuple es k1 tp) (.Call (.Name "zip" p) [e,e'] [] pos) (fw W G cl .zip [ir,ir'] E):=by
 refine (wt hg hm hv h hs hs2).mono λσ H R q=>ma q λN xs ds e2 hN q vs H' hs dv=>?_;obtain⟨k,l,d,e,us,ws,rfl,rfl,rfl,rfl⟩:=wk_zip e2;obtain⟨v,w,rfl,h0,g0⟩:=Dens.two dv;have h0':Den W (hid N H') v (.lst us):=h0;have g0':Den W (hid N H') w (.lst ws):=g0;cases h0' with | @lst a vs' _ h1 h2=>?_
 cases g0' with | @lst b ws' _ g1 g2=>?_
 exact⟨a,b,vs',ws',rfl,.inl (Rd.sub bq h1),.inl (Rd.sub bq g1),q _ _ hs (ItD.zip hK h1 h2 g1 g2) λz=>nomatch z⟩
def iU:ai->jo
 | []=>mC
 | i::is=>iO (eM i) (iU is)
def gT (K:be):Tg->TG
 | .one i=>eM i
 | .many is=>λv σ H Q=>lK K is.length (iU is) v σ H Q\/lc K is.length (iU is) v σ H Q
theorem RelS.set (h:RelS W S a σ)(hi:i < σ.length)(hd:Den W S v d):RelS W S (a.set i (some d)) (σ.set i (some v)):=λj e hj=>by
 by_cases z:i=j
 .subst z;by_cases y:i<a.length
  .rw[Fo y] at hj;cases hj;exact⟨v,Fo hi,hd⟩
  .rw[Gj (by rw[FD]; omega)] at hj; cases hj
 .rw[Fl z] at hj;rw[Fl z];exact h j e hj
def RelS.skip (h:RelS W S a σ)(hi:∀d,a[i]?≠some (some d)):RelS W S a (σ.set i (some v)):=λj e hj=>by
 by_cases z:i=j
 .subst z; exact absurd hj (hi e)
 .rw[Fl z]; exact h j e hj
theorem wg:∀{is:ai} {vs:ar} {ds:av} {a:Sl} {σ:St} {Q:St->Hp->Prop},Dens W S vs ds->ds.length=is.length->(∀i∈is,i < σ.length)->(∀i∈is,∀d,a0[i]?≠some (some d))->RelS W S a σ->RelS W S a0 σ ->
  (∀σ',RelS W S (Ip.bn id is ds a) σ'->RelS W S a0 σ'->σ'.length=σ.length->Q σ' H)->iU is vs σ H Q
 | [],_,_,a,σ,Q,.nil,_,_,_,h,h0,k=>⟨rfl,k σ h h0 rfl⟩
 | [],_,_,_,_,_,.cons _ _,hl,_,_,_,_,_=>by simp at hl
 | i::is,_,_,_,_,_,.nil,hl,_,_,_,_,_=>by simp at hl
 | i::is,_,_,a,σ,Q,.cons hd q,hl,hi,ha,h,h0,k=>by
  refine⟨_,_,rfl,?_⟩;show iU is _ (σ.set i (some _)) H Q;refine wg q (by simpa using hl) (λj hj=>by rw[FD]; exact hi j (bX _ hj)) (λj hj=>ha j (bX _ hj)) (h.set (hi i bW) hd) (h0.skip (ha i bW)) λσ' h1 h2 h3=>k σ' h1 h2 (by rw[h3,FD])
def B8 (hK:W.K=X.K)(hd:Den W (hid N H) v d)(hi:∀i∈cM tg,i < σ.length)(ha:∀i∈cM tg,∀d,a0[i]?≠some (some d))(h0:RelS W (hid N H) a0 σ)
  (hb:dC id a0 tg d=some a1)(k:∀σ',RelS W (hid N H) a1 σ'->RelS W (hid N H) a0 σ'->σ'.length=σ.length->Q σ' H):gT X.K tg v σ H Q:=by
 cases tg with
 | one i=>
  simp only[dC] at hb;cases hb;exact k _ (h0.set (hi i (by simp[cM])) hd) (h0.skip (ha i (by simp[cM]))) (by rw[FD])
 | many is=>
  cases hd <;> first | exact (bR hb).elim | simp only[dC] at hb
  rename_i a vs ds h1 h2;by_cases hl:ds.length=is.length
  .rw[if_pos hl] at hb;cases hb;exact .inl ⟨a,vs,rfl,hK ▸ SqT.sub bq h1,h2.length.trans hl,wg h2 hl hi ha h0 h0 k⟩
  .rw[if_neg hl] at hb; cases hb
theorem uc:∀{ds:av} {zs:au},aO f ds=.ok zs->∀i d,ds[i]? = some d->∃o z1,f d=.ok o/\aO f (ds.take i)=.ok z1/\aO f (ds.take (i+1))=.ok (z1++o.toList)
 | [],_,_,i,d,e=>by simp at e
 | x::xs,zs,h,i,d,e=>by
  rw[aO] at h;obtain⟨o,ho,h⟩:=gH h;obtain⟨ys,hy,h⟩:=gH h;cases i with
  | zero=>
   simp at e;subst e;refine⟨o,[],ho,rfl,?_⟩;rw[List.take_succ_cons,List.take_zero,aO,ho,Ip.R.bind,aO,Ip.R.bind];cases o <;> rfl
  | succ i=>
   obtain⟨o2,z1,h1,h2,h3⟩:=uc hy i d (by simpa using e);refine⟨o2,_,h1,by rw[List.take_succ_cons,aO,ho,Ip.R.bind,h2,Ip.R.bind],?_⟩;rw[List.take_succ_cons,aO,ho,Ip.R.bind,h3,Ip.R.bind];cases o <;> rfl
def Cd (caps:List aA)(h:RelS W S a σ):RelS W S (caps.map (cD a)) (caps.map (hU σ)):=λi d e=>by
 rw[Fs] at e;obtain⟨o,e1,e2⟩:=cg e;cases o with
 | none=>cases e2
 | some j=>
  have e3:a[j]? = some (some d):=by
   have:(a[j]?).join=some d:=e2;cases q:a[j]? with
   | none=>rw[q] at this; cases this
   | some r=>rw[q] at this; rw[show r=some d from this]
  obtain⟨v,h1,h2⟩:=h j d e3;refine⟨v,?_,h2⟩;rw[Fs,e1];show some ((σ[j]?).join)=some (some v);rw[h1];rfl
theorem OwnV.snoc (h:Own W S H x.1 v x.2 f):∀{vs xs fp},OwnV W S H vs xs fp->OwnV W S H (vs++[v]) (xs++[x]) (fp++f):=by
 intro _ _ _ hZ;cases hZ with
 | nil=>simpa using OwnV.cons h .nil
 | cons h0 q=>
  rw[List.cons_append,List.cons_append,G5];exact .cons h0 (OwnV.snoc h q)
theorem vF:∀{ds:av} {zs:au},aO f ds=.ok zs->zs.length<=ds.length
 | [],_,h=>by cases h; exact bu _
 | x::xs,zs,h=>by
  rw[aO] at h;obtain⟨o,ho,h⟩:=gH h;obtain⟨ys,hy,h⟩:=gH h;cases h;have:=vF hy;cases o <;> simp <;> omega
def rG (W:Wd)(G:Pg)(cl:Nat->au->Ip.Run):aC->TT
 | []=>gr
 | [t]=>bL W G cl t λ_ _ _ _=>False
 | _=>λ_ _ _=>False
def dX (N:Addr->Prop)(l:Addr)(fp:ak):Addr->Prop:=λb=>(N b\/b=l)\/b∈fp
abbrev rc (W:Wd)(F:D->Ip.R ax)(A:Ip.Sl)(n:Nat)(ds:av)(N:Addr->Prop)(l:Addr)(H1:Hp)(i:Nat)(ys:ar)(σ:St)(H:Hp):Prop:=∃(z1:au) (fp:ak),aO F (ds.take i)=.ok z1/\fp.Nodup/\l∉fp/\(∀b∈fp,H1 b=none)/\OwnV W (hid (dX N l fp) H) H ys z1 fp/\H l=some (.lst ys)/\Sub H1 H/\RelS W (hid (dX N l fp) H) A σ/\σ.length=n
def uB (hK:W.K=X.K)(hidx:∀i∈cM tg,caps[i]? = some none)(h:aY W G cl (.comp caps tg wk it ts x) E σ H Q) :
  fJ (fw W G cl wk it E) caps (gT X.K tg) (rG W G cl ts) (aY W G cl x λ_ _ _ _=>False) σ H Q:=by
 obtain⟨N,a,hN,hS,h⟩:=h;rw[ka] at h;unfold fJ;refine⟨N,a,hN,hS,?_⟩;cases e1:evals G cl a it with
 | bad=>rw[e1] at h; exact h
 | ok vs=>
  rw[e1] at h;simp only[Ip.R.bind] at h;cases e2:da wk vs with
  | none=>rw[e2] at h; exact h.elim
  | some ds=>
   rw[e2] at h;simp only at h;by_cases hl:ds.length<=SL
   rotate_left
   .rw[if_neg hl] at h; exact h.elim
   rw[if_pos hl] at h;cases e3:aO (compF G cl (caps.map (cD a)) tg ts x) ds with
   | bad=>rw[e3] at h; exact h.elim
   | ok zs=>
    rw[e3] at h;simp only[e2];intro J H1 hs1 hJ _ l hl1;have hN1:=hN.mono hs1;have a0n:∀i∈cM tg,∀d,(caps.map (cD a))[i]?≠some (some d):=λi hi d z=>by
     rw[Fs,hidx i hi] at z; cases z
    have ilt:∀i∈cM tg,i<caps.length:=λi hi=>(de (hidx i hi)).1;refine⟨λi m ys σ Hc=>m=ds.length - i/\i<=ds.length/\rc W (compF G cl (caps.map (cD a)) tg ts x) (caps.map (cD a)) caps.length ds N l H1 i ys σ Hc,
     ⟨ds.length,by simp,FS _,[],[],rfl,.nil,by simp,λb z=>by simp at z,.nil,cQ,Sub.upd hl1,?_,by simp⟩,?_⟩
    .refine (Cd caps (hS.grow hs1)).mono (ga (Sub.upd hl1) λb z=>?_);rcases z with (z | z) | z
     .exact .inl z
     .rw[z]; exact .inr hl1
     .simp at z
    rintro i m ys σ1 Hc ⟨rfl,hi,z1,fp,ez,nd,lf,hf,ow,hcl,hs2,hS2,hlen⟩;have hNc:NOk (dX N l fp) Hc:=λb z=>by
     rcases z with (z | z) | z
     .exact (hN1.mono hs2) b z
     .rw[z,hcl]; simp
     .exact ow.dom b z
    have hsub:Sub (hid N H1) (hid (dX N l fp) Hc):=ga hs2 λb z=>by
     rcases z with (z | z) | z
     .exact .inl z
     .rw[z]; exact .inr hl1
     .exact .inr (hf b z)
    obtain⟨J1,J2⟩:=hJ (dX N l fp) Hc hsub hNc i;by_cases hlt:i<ds.length
    .obtain⟨o,z1',f1,f2,f3⟩:=uc e3 i ds[i] (by simp[hlt]);rw[ez] at f2;cases f2;obtain⟨Jg,Jy⟩:=J1 ds[i] (by simp[hlt]);refine .inr ⟨Jg,λys σ' H'=>rc W (compF G cl (caps.map (cD a)) tg ts x) (caps.map (cD a)) caps.length ds N l H1 (i+1) ys σ' H',
      λys' σ' H' p'=>⟨ds.length - (i+1),by omega,rfl,hlt,p'⟩,λv H' hy=>?_⟩
     obtain⟨s3,dx⟩:=Jy v H' hy;unfold compF at f1;cases eb:dC id (caps.map (cD a)) tg ds[i] with
     | none=>rw[eb] at f1; cases f1
     | some a1=>
      rw[eb] at f1;simp only at f1;have hN3:=hNc.mono s3;refine B8 hK dx (λj hj=>by rw[hlen]; exact ilt j hj) a0n (hS2.grow s3) eb λσ2 r1 r0 hl2=>?_;have hlen2:σ2.length=caps.length:=hl2.trans hlen;have takeIt:∀y H4,Sub H' H4->Ip.eval G cl a1 x=.ok y->o=some y->aY W G cl x (λ_ _ _ _=>False) σ2 H4 λv H5=>∃ys',H5 l=some (.lst ys')/\ys'.length<sizeLine /\
        rc W (compF G cl (caps.map (cD a)) tg ts x) (caps.map (cD a)) caps.length ds N l H1 (i+1) (ys'++[v]) σ2 (upd H5 l (.lst (ys'++[v]))):=by
       intro y H4 s4 ey ho;refine⟨dX N l fp,a1,hN3.mono s4,r1.grow s4,?_⟩;rw[ey];rintro v H5 ⟨s5,fq,nd5,hf5,ow5⟩;have sc5:Sub Hc H5:=(s3.trans s4).trans s5;have l4:H4 l≠none:=by rw[(s3.trans s4) l _ hcl]; simp
       have lq:l∉fq:=λz=>l4 (hf5 l z);have up:∀b,b≠l->(upd H5 l (.lst (ys++[v]))) b=H5 b:=λb z=>bT z;have big:Sub (hid (dX N l fp) Hc) (hid (dX N l (fp++fq)) (upd H5 l (.lst (ys++[v])))):=λb u e=>by
        obtain⟨g1,g2⟩:=aS.mp e;have bl:b≠l:=λz=>g1 (.inl (.inr z));refine aS.mpr ⟨λz=>?_,by rw[up b bl]; exact sc5 b u g2⟩;rcases z with z | z
        .exact g1 (.inl z)
        .rcases dg z with z | z
         .exact g1 (.inr z)
         .have:=hf5 b z;rw[(s3.trans s4) b u g2] at this;cases this
       refine⟨ys,sc5 l _ hcl,?_,z1++[y],fp++fq,by rw[f3,ho]; rfl,?_,?_,?_,?_,cQ,?_,?_,hlen2⟩
       .rw[ow.length];have:=vF ez;rw[Gg] at this;have h2:SL<sizeLine:=by decide
        omega
       .refine Fv.mpr ⟨nd,nd5,λb hb c hc z=>?_⟩;subst z;have h1:=ow.dom b hb;cases hq:Hc b with
        | none=>exact h1 hq
        | some u=>
         have:=hf5 b hc;rw[(s3.trans s4) b u hq] at this;cases this
       .intro z;rcases dg z with z | z
        .exact lf z
        .exact lq z
       .intro b z;rcases dg z with z | z
        .exact hf b z
        .exact (hs2.trans (s3.trans s4)).none (hf5 b z)
       .refine OwnV.snoc (ow5.mono (λb u e=>?_) λb hb u e=>?_) (ow.mono big λb hb u e=>?_)
        .obtain⟨g1,g2⟩:=aS.mp e;have bl:b≠l:=λz=>g1 (.inl (.inl (.inr z)));refine aS.mpr ⟨λz=>?_,by rw[up b bl]; exact g2⟩;rcases z with z | z
         .exact g1 (.inl (.inl z))
         .rcases dg z with z | z
          .exact g1 (.inl (.inr z))
          .exact g1 (.inr z)
        .rw[up b λz=>lq (z ▸ hb)]; exact e
        .rw[up b λz=>lf (z ▸ hb)]; exact sc5 b u e
       .intro b u e;rw[up b λz=>by rw[z,hl1] at e; cases e];exact (hs2.trans sc5) b u e
       .refine RelS.mono (λb u e=>?_) r0;obtain⟨g1,g2⟩:=aS.mp e;have bl:b≠l:=λz=>g1 (.inl (.inr z));refine aS.mpr ⟨λz=>?_,by rw[up b bl]; exact (s4.trans s5) b u g2⟩;rcases z with z | z
        .exact g1 (.inl z)
        .rcases dg z with z | z
         .exact g1 (.inr z)
         .have:=hf5 b z;rw[s4 b u g2] at this;cases this
      match ts,f1 with
      | [],f1=>
       simp only[cj,Ip.R.bind] at f1;cases ey:Ip.eval G cl a1 x with
       | bad=>rw[ey] at f1; cases f1
       | ok y=>
        rw[ey] at f1;cases f1;have t:=takeIt y H' (Sub.refl _) ey rfl;simp only[rG,gr,if_true];exact t
      | [t],f1=>
       simp only[cj,bP,Ip.R.bind] at f1;refine⟨dX N l fp,a1,hN3,r1,?_⟩;cases et:Ip.eval G cl a1 t with
       | bad=>rw[et] at f1; cases f1
       | ok tv=>
        obtain⟨kt,tv⟩:=tv;rw[et] at f1;simp only at f1;cases tv <;> simp only[Ip.gj] at f1 <;> try (cases f1; done)
        rename_i b;intro H4 s4;cases b with
        | true=>
         rw[if_pos rfl];simp only[if_true] at f1;cases ey:Ip.eval G cl a1 x with
         | bad=>rw[ey] at f1; cases f1
         | ok y=>
          rw[ey] at f1;cases f1;exact takeIt y H4 s4 ey rfl
        | false=>
         rw[if_neg (by decide)];simp only[Fq,if_false] at f1;cases f1;have sc4:Sub Hc H4:=s3.trans s4;exact⟨z1,fp,by rw[f3]; simp,nd,lf,hf,ow.mono (je sc4) λb _ u e=>sc4 b u e,sc4 l _ hcl,hs2.trans sc4,r0.grow s4,hlen2⟩
      | _::_::_,f1=>
       exfalso;obtain⟨us,h1,h2⟩:=gH f1;simp only[bP] at h1;obtain⟨u1,_,h1⟩:=gH h1;obtain⟨u2,h3,h1⟩:=gH h1;obtain⟨u4,_,h3⟩:=gH h3;obtain⟨u5,_,h3⟩:=gH h3;cases h1;cases h3;simp only at h2;cases h2
    .have e:i=ds.length:=by omega
     subst e;rw[List.take_of_length_le (HB _),e3] at ez;cases ez;obtain⟨fq,nd2,sub,o2⟩:=OwnV.join (N:=λb=>N b\/b=l) nd (λb hb z=>z.elim (λy=>hN1 b y (hf b hb)) λy=>lf (y ▸ hb)) ow;refine .inl ⟨J2 (bu _),h _ _ ⟨hs1.trans hs2,l::fq,FB.mpr ⟨λz=>lf (sub l z),nd2⟩,λb z=>?_,l,ys,fq,rfl,hcl,?_,rfl⟩⟩
     .rcases cZ z with y | y
      .rw[y]; exact hs1.none hl1
      .exact hs1.none (hf b (sub b y))
     .refine o2.imp λv d f hf2 ow=>ow.mono (λb u e=>?_) λb _ u e=>e;obtain⟨g1,g2⟩:=aS.mp e;refine aS.mpr ⟨λz=>g1 ?_,g2⟩;rcases z with z | z
      .exact .inl (.inl z)
      .rcases cZ z with y | y
       .exact .inl (.inr y)
       .exact .inr y
end
def DM (W:Wd)(G:Pg)(n f:Nat):Sp:=λvs H Q E=>∃(N:Addr->Prop) (xs:au),NOk N H/\Dens W (hid N H) vs (xs.map (·.2))/\match Ip.run G n f xs with
 | .ret k d []=>∀v H',Res W H N H' (k,d) v->Q v H'
 | _=>False
def Ep (W:Wd)(G:Pg)(n f:Nat):Sp:=λvs H Q E=>∃(N:Addr->Prop) (x0:KD) (xs:au) (v0:V) (ws:ar) (f0:ak),vs=v0::ws/\NOk N H/\f0.Nodup/\(∀b∈f0,¬N b) /\
 Own W (hid (λb=>N b\/b∈f0) H) H x0.1 v0 x0.2 f0/\Dens W (hid (λb=>N b\/b∈f0) H) ws (xs.map (·.2))/\match Ip.run G n f (x0::xs) with
 | .ret k d [y]=>∀v H' (fp:ak),Sub (hid (λb=>b∈f0) H) H'->fp.Nodup->(∀b∈fp,hid (λb=>b∈f0) H b=none)->Own W (hid (λb=>N b\/b∈fp) H') H' y.1 v0 y.2 fp->(d=.non->v=.non)->Q v H'
 | _=>False
def fc (W:Wd)(G:Pg)(n f:Nat)(F:Fn):Sp:=λvs H Q E=>(F.io=[]/\DM W G n f vs H Q E)\/(F.io=[0]/\Ep W G n f vs H Q E)
def vb (hF:G.fn f=some F)(h:Ip.run G n f xs≠.bad):xs.length=F.np:=by
 cases n with
 | zero=>exact absurd rfl h
 | succ n=>
  rw[Ip.run,hF] at h;by_cases e:xs.length=F.np
  .exact e
  .simp only[if_neg e] at h; exact absurd rfl h
def qO (hF:G.fn f=some F)(h:fc W G n f F vs H Q E):vs.length=F.np:=by
 rcases h with ⟨_,N,xs,_,d,q⟩ | ⟨_,N,x0,xs,v0,ws,f0,rfl,_,_,_,_,d,q⟩
 .have:=vb (xs:=xs) hF (λz=>by rw[z] at q; exact q);rw[d.length,Fj]; exact this
 .have:=vb (xs:=x0::xs) hF (λz=>by rw[z] at q; exact q);rw[List.length_cons,d.length,Fj]; simpa using this
section
variable {X:Cx}{W:Wd}{G:Pg}{n:Nat}{E:St->XK}{σ:St}{H:Hp}{Q:VK}
def kO {irs:aC}{cl:Nat->au->Ip.Run}{Q:ar->Hp->Prop}{N:Addr->Prop}{a:Sl}(hN:NOk N H)(hS:RelS W (hid N H) a σ)
  (ok:∀xs,evals G cl a irs=.ok xs->∀vs H1,Sub H H1->Dens W (hid N H1) vs (xs.map (·.2))->Q vs H1)
  (nb:evals G cl a irs≠.bad):bJ W G cl irs E σ H Q:=by
 refine⟨N,a,hN,hS,?_⟩;cases q:evals G cl a irs with
 | bad=>exact absurd q nb
 | ok xs=>exact λvs H1 r=>ok xs q vs H1 r.1 (r.dens hN)
noncomputable def cG (F:Fn)(m:Nat):av:=F.dfl.drop (F.dfl.length - (F.np - m))
theorem A4 (F:Fn)(xs:au):Ip.fill F xs=xs++(cG F xs.length).map λd=>(99,d):=rfl
def pJ (F:Fn)(xs:au):(Ip.fill F xs).map (·.2)=xs.map (·.2)++cG F xs.length:=by
 rw[A4,GD,Hb];congr 1
 exact List.map_id _
def ng (h:evals G cl a irs=.ok xs):xs.length=irs.length:=o6.evals_length h
def sv (h:c9 G f k=some F):G.fn f=some F/\F.io=[]/\k<=F.np/\F.np - k<=F.dfl.length:=by
 unfold c9 at h;cases q:G.fn f with
 | none=>rw[q] at h; cases h
 | some F'=>
  rw[q] at h;simp only at h;by_cases c:F'.io=[]/\k<=F'.np/\F'.np - k<=F'.dfl.length
  .rw[if_pos c] at h; cases h; exact⟨rfl,c⟩
  .rw[if_neg c] at h; cases h
def uo (h:bO G m k d=some (f,F)):∃c fs Cl',d=.ins c fs/\G.cl c=some Cl'/\Cl'.meths.lookup m=some f/\G.fn f=some F/\F.io=[]/\fs.lookup m=none/\k+1<=F.np/\F.np - (k+1)<=F.dfl.length:=by
 cases d <;> first | exact (bR h).elim | simp only[bO] at h
 rename_i c fs;cases q1:G.cl c with
 | none=>rw[q1] at h; cases h
 | some Cl'=>
  rw[q1] at h;simp only at h;cases q2:Cl'.meths.lookup m with
  | none=>rw[q2] at h; cases h
  | some f'=>
   rw[q2] at h;simp only at h;cases q3:G.fn f' with
   | none=>rw[q3] at h; cases h
   | some F'=>
    rw[q3] at h;simp only at h;by_cases c1:F'.io=[]/\fs.lookup m=none/\k+1<=F'.np/\F'.np - (k+1)<=F'.dfl.length
    .rw[if_pos c1] at h;cases h;exact⟨c,fs,Cl',rfl,q1,q2,q3,c1⟩
    .rw[if_neg c1] at h; cases h
def uh (hF:c9 G f es.length=some F)(hd:∀S,Dens W S dvs (cG F es.length))(h:aY W G (Ip.run G n) (.call f es) E σ H Q):dN (fc W G n f F) dvs E (bJ W G (Ip.run G n) es E) σ H Q:=by
 obtain⟨N,a,hN,hS,h⟩:=h;obtain⟨_,hio,_⟩:=sv hF;rw[kK,hF] at h;simp only[Ip.R.bind] at h;unfold dN;refine kO hN hS (λxs ex vs H1 hs dv=>?_) λee=>?_
 .rw[ex] at h;simp only at h;refine .inl ⟨hio,N,Ip.fill F xs,hN.mono hs,?_,?_⟩
  .rw[pJ,ng ex];exact dv.append (hd _)
  .cases q:Ip.run G n f (Ip.fill F xs) with
   | bad=>rw[q] at h; exact h
   | ret k d outs=>
    rw[q] at h;cases outs with
    | nil=>exact λv H' r=>h v H' (r.trans hs)
    | cons _ _=>exact h
 .rw[ee] at h; exact h
theorem EE (nd:W.att.Nodup)(hnm:W.att[m]? = some nm)(hC:W.iA c=some C)(hd:∀S,Dens W S dvs (cG F (es.length+1)))
 (hN:NOk N H)(hS:RelS W (hid N H) a σ)(ho:Ip.eval G (Ip.run G n) a io=.ok (k,.ins c fs0))(hm:bO G m es.length (.ins c fs0)=some (f,F))
    (h:match Ip.eval G (Ip.run G n) a (.meth m io es) with
      | .ok x=>∀v H',Res W H N H' x v->Q v H'
      | .bad=>False):eD C nm (fc W G n f F) dvs E (aY W G (Ip.run G n) io E) (bJ W G (Ip.run G n) es E) σ H Q:=by
  obtain⟨_,_,_,e0,_,_,_,hio,hfl,_⟩:=uo hm;cases e0;rw[kv,ho] at h;simp only[Ip.R.bind,hm,Ip.R.of] at h;unfold eD;refine⟨N,a,hN,hS,?_⟩;rw[ho];intro v H1 r;have dv:=r.den hN;have hs:=r.1;cases dv with | @ins b C' dx _ fs ds hb hc' hf=>?_
  rw[hC] at hc';cases hc';have hb1:=aS.mp hb;refine⟨b,dx,fs,rfl,hb1.2,(hf.lookup nd hnm).2 hfl,?_⟩;refine kO (hN.mono hs) (hS.grow hs) (λxs ex vs H2 hs2 dv2=>?_) λee=>?_
  . rw[ex] at h;simp only at h;refine .inl ⟨hio,N,Ip.fill F ((k,.ins c fs0)::xs),hN.mono (hs.trans hs2),?_,?_⟩
    . rw[pJ,List.length_cons,ng ex];exact (Dens.cons ((Den.ins hb hC hf).mono (je hs2)) dv2).append (hd _)
    . cases q2:Ip.run G n f (Ip.fill F ((k,.ins c fs0)::xs)) with
      | bad=>rw[q2] at h; exact h
      | ret k d outs=>
        rw[q2] at h;cases outs with
        | nil=>exact λv H' r=>h v H' (r.trans (hs.trans hs2))
        | cons _ _=>exact h
  . rw[ee] at h; exact h
end
structure InsC (K:be)(C:Addr):Prop where
 cls:Cls K C
 ha:PySem.W.findIn K (.ref C) "__class__" = some (some (.builtin "object.__class__"))
 hn:PySem.W.specialIn K (.builtin "object.__class__") "__get__" = some (some (.builtin "getset_descriptor.__get__"))
 htk:PySem.W.takesIn K (.builtin "object.__class__")=some true
 hm:PySem.W.mroIn K C (.type "object")=some true
structure CF (W:Wd)(fl:ai):Prop where
 nd:W.att.Nodup
 ins:∀c C,W.iA c=some C->InsC W.K C/\∀f n,f∈fl->W.att[f]? = some n->NoAttr W.K C n
section
variable {X:Cx}{W:Wd}{G:Pg}{cl:Nat->au->Ip.Run}{E:St->XK}{fl:ai}
def BE (hK:W.K=X.K)(cf:CF W fl)(hk:k∈fl)(hn:W.att[k]? = some n)(ho:PE X o (aY W G cl io E))(hb:attributeBase o n X.env (PySem.eval o X.env)=PySem.eval o X.env):PE X (.Attribute o n pos) (aY W G cl (.op (.fld k) [io]) E):=by
 refine (Ee ho hb).mono λσ H Q hZz=>?_;obtain⟨N,a,hN,hS,q⟩:=hZz;rw[df,bP,cj] at q;cases e1:Ip.eval G cl a io with
 | bad=>rw[e1] at q; exact q.elim
 | ok x=>
  obtain⟨kx,d⟩:=x;rw[e1] at q;simp only[Ip.R.bind,Ip.Bh,bS] at q;cases d <;> simp only[Ip.gB] at q <;> try (exact q.elim)
  .rename_i c fs;cases e2:fs.lookup k with
   | none=>rw[e2] at q; exact q.elim
   | some d=>
    rw[e2] at q;refine⟨N,a,hN,hS,?_⟩;rw[e1];intro v H1 r;have dv:=r.den hN;cases dv with | @ins b C dx _ vs ds hb hc hf=>?_
    obtain⟨w,l1,dw⟩:=(hf.lookup cf.nd hn).1 d e2;obtain⟨ic,na⟩:=cf.ins c C hc;exact⟨b,C,dx,vs,w,rfl,(aS.mp hb).2,hK ▸ ic.cls,hK ▸ na k n hk hn,l1,q _ _ (Res.of_den r.1 dw)⟩
noncomputable def kZ (W:Wd):D->ay
 | .non=>some (.type "NoneType")
 | .bl _=>some (.type "bool")
 | .int _=>some (.type "int")
 | .str _=>some (.type "str")
 | .lst _=>some (.type "list")
 | .tup _=>some (.type "tuple")
 | .ins c _=>(W.iA c).map .ref
def DF {pins:af}{σ:St}{H:Hp}{s:Shared}{A:Around}{E:Value->Shared->Prop}{Q:Value->Shared->Prop}{c:Value}{b:Bool}{x:V}{u t:Value}{d:D}(hK:W.K=X.K)(cf:CF W fl)(I:Inv X pins σ H s)(rx:RelV x u)(hd:Den W H x d)(ht:kZ W d=some t)
  (e:PySem.W.kitOne X.K t c=some b)(h:∀tk,Q (.bool b) { s with toks:=tk }):wpAny (model X.prog X.w) A (call (.builtin "isinstance") [u,c]) Q E s:=by
 cases hd with
 | non=>cases ht; exact i7 I rx .non e h
 | bl=>cases ht; exact i7 I rx (.bl _) e h
 | int=>cases ht; exact i7 I rx (.int _) e h
 | str=>cases ht; exact i7 I rx (.str _) e h
 | lst h1 h2=>
  cases ht;rcases h1 with h1 | ⟨o,h1⟩
  .exact i7 I rx (.lst h1) e h
  .exact i7 I rx (.frz h1) e h
 | @tup a vs ds h1 h2=>
  cases ht;cases (show u=Value.ref a from rx);obtain⟨its,_,⟨o,g1,g2,_⟩,_⟩:=I.tuple (hK ▸ h1);exact FL PySem.W.kitx_tuple I.kIn ⟨o,g1,g2⟩ e (λz=>nomatch z) h
 | ins h1 hc _=>
  rw[kZ,hc] at ht;cases ht;obtain⟨ic,_⟩:=cf.ins _ _ hc;exact i7 I rx (.ins h1 (hK ▸ ic.cls) (hK ▸ ic.ha) (hK ▸ ic.hn) (hK ▸ ic.htk) (hK ▸ ic.hm)) e h
def bY (W:Wd)(G:Pg)(t:Ip.Ty)(cv:Value):Prop:=∀d tv,kZ W d=some tv->PySem.W.kitOne W.K tv cv=some (bf G d t)
def Den.ty (h:Den W S v d):∃t,kZ W d=some t:=by
 cases h with
 | ins _ hc _=>exact⟨_,by rw[kZ,hc]; rfl⟩
 | _=>exact⟨_,rfl⟩
def DL {a b:Expr}{ia:Ex}{t:Ip.Ty}{c:V}{cv:Value}{p pos:Pos}(hK:W.K=X.K)(cf:CF W fl)(hc:valOf c=some cv)(hi:bY W G t cv)(hg:Gl X "isinstance")(hm:X.mg "isinstance" = none)(hv:bootBuiltins "isinstance" = some (.builtin "isinstance"))
  (ha:PE X a (aY W G cl ia E))(hb:PE X b (tC c))(hs1:starEach [a,b] X.env=(false,PySem.eval a X.env)::starEach [b] X.env)(hs2:starEach [b] X.env=(false,PySem.eval b X.env)::starEach [] X.env) :
  PE X (.Call (.Name "isinstance" p) [a,b] [] pos) (aY W G cl (.op (.isi [t]) [ia]) E):=by
 have rule:CallR X (.builtin "isinstance") (λxs H Q=>∃N x d,NOk N H/\xs=[x,c]/\Den W (hid N H) x d/\Q (.bl ([t].any (bf G d))) H):=by
  rintro pins s σ H xs us Q I r ⟨N,x,d,hN,e,hd,q⟩;have e1:[t].any (bf G d)=bf G d t:=by simp
  rw[e1] at q;subst e;obtain⟨u,v,rfl,ru,rv⟩:=vals2 r;have ev:v=cv:=by
   cases c with
   | ref a=>cases hc; exact rv
   | ty n=>cases hc; exact rv
   | _=>cases hc
  subst ev;obtain⟨tv,et⟩:=hd.ty;exact DF hK cf I ru (hd.mono bq) et (hK ▸ hi d tv et) λtk=>⟨.bl _,H,I.tok _,rfl,q⟩
 refine (jQ rule hg hm hv (gx ha (gx hb iB hs2) hs1) (by decide) (by decide) hs1 (by rw[hs2]; rfl)).mono λσ H Q hZz=>?_;obtain⟨N,as,hN,hS,q⟩:=hZz;rw[df,bP,cj] at q;refine⟨N,as,hN,hS,?_⟩;cases e1:Ip.eval G cl as ia with
 | bad=>rw[e1] at q; exact q.elim
 | ok x=>
  obtain⟨kx,d⟩:=x;rw[e1] at q;intro v H1 r;exact⟨N,v,d,hN.mono r.1,rfl,r.den hN,q _ _ (Res.of_flat r.1 rfl .bl)⟩
end
section
variable {X:Cx}{W:Wd}{G:Pg}{n:Nat}{E:St->XK}{σ:St}{H:Hp}{Q:VK}
def vp (h:cu G c k=some (f,F,d)):∃Cl',G.cl c=some Cl'/\Cl'.init=some f/\G.fn f=some F/\d=.ins c []/\F.io=[0]/\k+1<=F.np/\F.np - (k+1)<=F.dfl.length/\k<=50:=by
 unfold cu at h;cases q1:G.cl c with
 | none=>rw[q1] at h; cases h
 | some Cl'=>
  rw[q1] at h;simp only at h;cases q2:Cl'.init with
  | none=>rw[q2] at h; cases h
  | some f'=>
   rw[q2] at h;simp only at h;cases q3:G.fn f' with
   | none=>rw[q3] at h; cases h
   | some F'=>
    rw[q3] at h;simp only at h;by_cases c1:F'.io=[0]/\k+1<=F'.np/\F'.np - (k+1)<=F'.dfl.length/\k<=50
    .rw[if_pos c1] at h;cases h;exact⟨Cl',rfl,q2,q3,rfl,c1⟩
    .rw[if_neg c1] at h; cases h
theorem zt (hio:F.io=[0])(hnp:xs.length+1<=F.np)
  (hd:∀S,Dens W S dvs (cG F (xs.length+1)))(hN:NOk N H1)(hs:Sub H H1)(dv:Dens W (hid N H1) vs (xs.map (·.2)))(hx:H1 x=none)(h12:∀b,b≠x->∀o,H1 b=some o->H2 b=some o)(h21:∀b,H2 b=none->H1 b=none)
  (ho:Own W (hid (λb=>N b\/b∈[x]) H2) H2 1 (.ref x) d0 [x])
  (h:match Ip.fM (Ip.run G n) (f,F,d0) xs with
   | .ok y=>∀v H',Res W H N H' y v->Q v H'
   | .bad=>False):fc W G n f F (.ref x::(vs++dvs)) H2 (λv H2=>v=.non/\Q (.ref x) H2) (E σ):=by
 simp only[Ip.fM] at h;have hN2:NOk N H2:=λb z q=>hN b z (h21 b q);have hxN:¬N x:=λz=>hN x z hx;have s1:Sub H1 (hid (λb=>b∈[x]) H2):=λb o e=>aS.mpr ⟨(λz=>by rw[Fi.mp z,hx] at e; cases e),h12 b (λz=>by rw[z,hx] at e; cases e) o e⟩;have none1:∀b,hid (λb=>b∈[x]) H2 b=none->H1 b=none:=λb z=>s1.none z;refine .inr ⟨hio,N,(1,d0),Ip.fill { F with np:=F.np - 1 } xs,.ref x,vs++dvs,[x],rfl,hN2,by simp,λb hb=>by rw[Fi.mp hb]; exact hxN,ho,?_,?_⟩
 .have e:(Ip.fill { F with np:=F.np - 1 } xs).map (·.2)=xs.map (·.2)++cG F (xs.length+1):=by
   rw[pJ];congr 1
   unfold cG;show F.dfl.drop (F.dfl.length - (F.np - 1 - xs.length))=_;congr 2
   omega
  rw[e];refine (dv.mono λb o eb=>?_).append (hd _);obtain⟨g1,g2⟩:=aS.mp eb;have bx:b≠x:=λz=>by rw[z,hx] at g2; cases g2
  exact aS.mpr ⟨λz=>z.elim g1 λy=>bx (Fi.mp y),h12 b bx o g2⟩
 .cases q:Ip.run G n f ((1,d0)::Ip.fill { F with np:=F.np - 1 } xs) with
  | bad=>rw[q] at h; exact h
  | ret k d outs=>
   rw[q] at h;cases d <;> try (exact h.elim)
   match outs,h with
   | [],h=>exact h.elim
   | _::_::_,h=>exact h.elim
   | [y],h=>
    intro v H' fp g1 nd hf ow hv;exact⟨hv rfl,h _ _ ⟨hs.trans (s1.trans g1),fp,nd,λb hb=>hs.none (none1 b (hf b hb)),ow⟩⟩
def rY (hC:W.iA c=some C)(hm:cu G c es.length=some (f,F,.ins c []))(hd:∀S,Dens W S dvs (cG F (es.length+1)))
  (h:aY W G (Ip.run G n) (.make c es) E σ H Q):fR C (fc W G n f F) dvs E (bJ W G (Ip.run G n) es E) σ H Q:=by
 obtain⟨N,a,hN,hS,h⟩:=h;obtain⟨_,_,_,_,_,hio,hnp,_⟩:=vp hm;rw[lB,hm] at h;simp only[Ip.R.bind] at h;unfold fR;refine kO hN hS (λxs ex vs H1 hs dv=>?_) λee=>?_
 .rw[ex] at h;intro x dx h1 h2 hne;have hN1:=hN.mono hs;refine zt (d0:=.ins c []) hio (by rw[ng ex]; exact hnp) (by rw[ng ex]; exact hd) hN1 hs dv h1 (λb nb o e=>?_) (λb e=>?_) ⟨x,C,dx,[],[],rfl,cQ,hC,.nil,rfl⟩ h
  .rw[bT nb,bT λz=>by rw[z,h2] at e; cases e]; exact e
  .by_cases z:b=x
   .rw[z,cQ] at e; cases e
   .rw[bT z] at e;by_cases y:b=dx
    .rw[y,cQ] at e; cases e
    .rw[bT y] at e; exact e
 .rw[ee] at h; exact h
end
def kS {o:Expr}{f:Str}{env:Env}{w:Sem Value}(h:eS o=true):attributeBase o f env w=w:=by
 unfold attributeBase;unfold eS at h;split
 .rename_i heq;simp at h
 .rfl
def d5 {e:Expr}{es:aq}(h:aJ (e::es)=true):(∀x p,e≠.Starred x p)/\aJ es=true:=by
 unfold aJ at h ⊢;rw[List.all_cons,tw] at h;refine⟨λx p z=>?_,h.2⟩;rw[z] at h;exact absurd (show false=true from h.1) (by decide)
def di {e:Expr}{es:aq}{env:Env}(h:∀x p,e≠.Starred x p):starEach (e::es) env=(false,PySem.eval e env)::starEach es env:=by
 rcases nF e es env with ⟨x,p,z⟩ | q
 .exact absurd z (h x p)
 .exact q
theorem kT {pos:Pos}{env:Env}:∀{es:aq},aJ es=true->(backTo pos (starEach es env)).any (·.1)=false
 | [],_=>rfl
 | e::es,h=>by
  obtain⟨h1,h2⟩:=d5 h;rw[di h1];show (false||(backTo pos (starEach es env)).any (·.1))=false;rw[kT h2]; rfl
theorem nV {pos:Pos}{env:Env}:∀{es:aq},aJ es=true->(backTo pos (starEach es env)).all (λx=>!x.1)=true
 | [],_=>rfl
 | e::es,h=>by
  obtain⟨h1,h2⟩:=d5 h;rw[di h1];show (!false&&(backTo pos (starEach es env)).all (λx=>!x.1))=true;rw[nV h2]; rfl
def AS {o:Expr}{m:Str}{ap cp:Pos}{args:aq}{env:Env}(hs:eS o=true)(ns:aJ args=true)(hl:args.length<30)(hp:ap.endLine=cp.line) :
  PySem.eval (.Call (.Attribute o m ap) args [] cp) env=(do
   let ov <-PySem.eval o env
   standAt ap.atName
   let (f,first) <-holding [ov] (getMethod ov m (do return (<-importBound o env).getD true))
   callWith cp f first (backTo cp (starEach args env)) (backToKw cp (keywordEach [] env))):=by
 show (do
  let ov <-attributeBase o m env (PySem.eval o env)
  standAt ap.atName
  methodCall o m ap cp env ov (args.length+0) (backTo cp (starEach args env)) (backToKw cp (keywordEach [] env)))=_
 rw[kS hs];have few:methodCallForm (args.length+0) (backTo cp (starEach args env)) (backToKw cp (keywordEach [] env))=true:=by
  unfold methodCallForm;rw[nV ns];show (true&&true&&decide (args.length+0+0<30))=true;rw[FF (by omega)]; rfl
 have hpos:methodCallPos true o env ap cp=pure cp:=by
  unfold methodCallPos;rw[if_pos (by rw[hp]; simp)]
 unfold methodCall;rw[few];unfold calleeOf;rw[hpos];rfl
noncomputable def rm (n:Nat):Nat:=3 * n+1
def FI (W:Wd)(G:Pg)(n:Nat)(P:Program)(w:World)(mg:Str->ay)(base:Heap)(k:Nat)(F:Fn)(a:Addr):Prop:=
 ∃(fd:FuncData) (ps:ao),FnOk P w W.K mg base (ft P w) (rm n) a fd ps (fc W G n k F)/\∀m,m<=F.np->F.np - m<=F.dfl.length->∃(ds:al) (dvs:ar),Binds W.K fd ps ds/\Vals dvs ds/\∀S,Dens W S dvs (cG F m)
noncomputable def eJ:List (Str×Value):=[("len",.builtin "len"),("all",.builtin "all"),("any",.builtin "any"),("isinstance",.builtin "isinstance"),("min",.builtin "min"),("sum",.builtin "sum"),("list",.type "list"),("tuple",.type "tuple"),("range",.type "range"),("enumerate",.type "enumerate"),("zip",.type "zip"),("reversed",.type "reversed"),("int",.type "int"),("sorted",.builtin "sorted"),("set",.type "set")]
def bA (i:Nat){x:Str×Value}(h:eJ[i]? = some x):x∈eJ:=FA h
structure GF (W:Wd)(G:Pg)(T:Tb)(n:Nat)(P:Program)(w:World)(mg:Str->ay)(base:Heap):Prop where
 cf:CF W T.fl
 att:W.att=T.att
 blt:∀x v,(x,v)∈eJ->mg x=none/\bootBuiltins x=some v
 cst:∀x d,T.cst.lookup x=some d->(x == ("__debug__" : Str))=false/\∃u v,mg x=some u/\RelV v u/\d.flat=true/\∀S,Den W S v d
 fns:∀x k,T.fns.lookup x=some k->(x == ("__debug__" : Str))=false/\∃F a,G.fn k=some F/\mg x=some (.ref a)/\PySem.W.keepIn W.K (.ref a)=true/\FI W G n P w mg base k F a
 cls:∀x c,T.cls.lookup x=some c->(x == ("__debug__" : Str))=false/\∃C,mg x=some (.ref C)/\∀Cl' f F,G.cl c=some Cl'->Cl'.init=some f->G.fn f=some F ->
  ∃a,FI W G n P w mg base f F a/\W.iA c=some C/\Mk W.K C a
 meth:∀c Cl' m f F,G.cl c=some Cl'->Cl'.meths.lookup m=some f->G.fn f=some F->∀nm,W.att[m]? = some nm->∃C a,W.iA c=some C/\Meth W.K C nm a/\FI W G n P w mg base f F a
 isB:∀x t,Ip.jr.lookup x=some t->mg x=none/\x ≠ "__name__" /\ (x == ("__debug__" : Str))=false/\∃nm,bootBuiltins x=some (.type nm)/\bY W G t (.type nm)
 isC:∀x c,T.cls.lookup x=some c->∃C,mg x=some (.ref C)/\bY W G (.cls c) (.ref C)
structure Gd (W:Wd)(G:Pg)(T:Tb)(n:Nat)(E:St->XK)(sc:Scope)(N:ao)(X:Cx):Prop where
 gf:GF W G T n X.prog X.w X.mg X.base
 K:W.K=X.K
 vis:∀x,aU sc x=true->pe X.env.scope x
 loc:∀x,bw sc x=true->Loc X.env.scope x/\(X.fn x=true\/X.env.scope.names.lookup x=some .local)
 gl:∀x,bg sc x=true->Gl X x
 fr:∀x,(sc.names.lookup x=some .cell\/sc.names.lookup x=some .free)->(X.env.scope.names.lookup x=some .cell\/X.env.scope.names.lookup x=some .free)
 nm:X.N=N
 nd:N.Nodup
 calm:X.calm=true
 pass:bH (ft X.prog X.w) X E
 room:Room (rm n+1) X.A
def E9 {scope:Scope}{env:Env}{x:Str}{k:NameKind}(h:scope.names.lookup x=some k):(relabel scope env).names.lookup x=some k\/(k=.free/\(relabel scope env).names.lookup x=some .cell):=by
 have go:∀(g:Str×NameKind->Str×NameKind),(∀p,g p=p\/(p.2=.free/\g p=(p.1,.cell)))->∀(names:List (Str×NameKind)),names.lookup x=some k->(names.map g).lookup x=some k\/(k=.free/\(names.map g).lookup x=some .cell):=by
  intro g hg names;induction names with
  | nil=>intro h; exact nomatch h
  | cons p r ih=>
   intro h;rw[Fk];obtain⟨n,kn⟩:=p;rw[List.lookup_cons] at h;rcases hg (n,kn) with e | ⟨e1,e2⟩
   .rw[e,List.lookup_cons];cases hx:x == n with
    | true=>rw[hx] at h; exact .inl h
    | false=>rw[hx] at h; exact ih h
   .rw[e2,List.lookup_cons];cases hx:x == n with
    | true=>
     rw[hx] at h;have e1':kn=.free:=e1;exact .inr ⟨by rw[<-Option.some.inj h]; exact e1',rfl⟩
    | false=>rw[hx] at h; exact ih h
 refine go _ (λp=>?_) scope.names h;obtain⟨n,k⟩:=p;by_cases hb:(k == NameKind.free&&env.scope.kind == .function&&env.kindOf n == some .cell)=true
 .refine .inr ⟨?_,if_pos hb⟩;simp only[tw,Fm] at hb;exact hb.1.1
 .exact .inl (if_neg hb)
def Gd.block {W:Wd}{G:Pg}{T:Tb}{n:Nat}{E:St->XK}{sc:Scope}{N:ao}{X:Cx}(g:Gd W G T n E sc N X){scope:Scope}(hb:cP sc N (aQ scope) (bc N scope) scope=true)(cl:ah)(C:Addr)(s:Shared)(H:Hp)(fp:ak) :
  Gd W G T n (λ_ _ _ _=>False) scope (aQ scope) (bj X (aQ scope) scope cl C s H fp λ_ _=>False):=by
 have S:=CompS.of (show compOk sc N (aQ scope) (bc N scope) scope=true from hb);have look:∀x k,scope.names.lookup x=some k->(relabel scope X.env).names.lookup x=some k\/(k=.free/\(relabel scope X.env).names.lookup x=some .cell):=λx k=>E9;refine⟨g.gf,g.K,λx h=>?_,λx h=>?_,λx h=>?_,λx h=>?_,rfl,S.nd,g.calm,passN,g.room⟩
 .unfold aU at h;simp only[FM,Fm] at h;rcases h with (h | h) | h
  .rcases look x _ h with q | ⟨q,_⟩
   .exact .inl q
   .cases q
  .rcases look x _ h with q | ⟨q,_⟩
   .exact .inr (.inl q)
   .cases q
  .rcases look x _ h with q | ⟨_,q⟩
   .exact .inr (.inr q)
   .exact .inr (.inl q)
 .unfold bw at h;simp only[FM,Fm] at h;rcases h with h | h
  .rcases look x _ h with q | ⟨q,_⟩
   .exact⟨.inl q,.inr q⟩
   .cases q
  .rcases look x _ h with q | ⟨q,_⟩
   .exact⟨.inr q,.inl (by show (scope.names.lookup x == some NameKind.cell)=true; rw[h]; decide)⟩
   .cases q
 .unfold bg at h;simp only[Fm] at h;rcases look x _ h with q | ⟨q,_⟩
  .exact q
  .cases q
 .rcases h with h | h
  .rcases look x _ h with q | ⟨q,_⟩
   .exact .inl q
   .cases q
  .rcases look x _ h with q | ⟨_,q⟩
   .exact .inr q
   .exact .inl q
theorem Gd.compOk {W:Wd}{G:Pg}{T:Tb}{n:Nat}{E:St->XK}{sc:Scope}{N:ao}{X:Cx}(g:Gd W G T n E sc N X){scope:Scope}(hb:cP sc N (aQ scope) (bc N scope) scope=true) :
  L2.compOk X.env.scope X.N (aQ scope) (bc N scope) scope=true:=by
 rw[g.nm];unfold cP at hb;unfold L2.compOk;simp only[tw,List.all_eq_true] at hb ⊢;obtain⟨⟨⟨⟨h1,h2⟩,h3⟩,h4⟩,h5⟩:=hb;refine⟨⟨⟨⟨h1,λy hy=>?_⟩,h3⟩,h4⟩,h5⟩;obtain⟨⟨a1,a2⟩,a3⟩:=h2 y hy;refine⟨⟨a1,a2⟩,?_⟩;simp only[FM,bne_iff_ne,ne_eq,Fm] at a3 ⊢;rcases a3 with a3 | a3
 .exact .inl a3
 .exact .inr (g.fr y.1 a3)
section
variable {X:Cx}{W:Wd}{G:Pg}{T:Tb}{n:Nat}{E:St->XK}{σ:St}{H:Hp}{sc:Scope}{N:ao}
def oN (d:D):(∃i,d=.int i)\/∀i,d≠.int i:=by
 cases d with
 | int i=>exact .inl ⟨i,rfl⟩
 | _=>exact .inr λi z=>by cases z
def sB {cl:Nat->au->Ip.Run}{o:Op}{x y:Ex}{Q:VK}{lo hi:Int->Option Int}(ho:∀u v:KD,bm G o [u,v]=match v.2 with | .int i=>ce (lo i) (hi i) u.2 | _=>none)(h:aY W G cl (.op o [x,y]) E σ H Q) :
  aY W G cl x E σ H λv H1=>aY W G cl y E σ H1 λw H2=>∃i,w=.int i/\i5 W v (lo i) (hi i) H2 Q:=by
 obtain⟨N,a,hN,hS,h⟩:=h;refine f9 hN hS (λu eu v H1 fp hs nd hf ow hN1 hS1=>?_) λee=>?_
 .refine f9 hN1 hS1 (λu2 eu2 w H2 fq hs2 nd2 hf2 ow2 hN2 hS2=>?_) λee=>?_
  .simp only[df,cj,bP,eu,eu2,Ip.R.bind,ho] at h;have dv:=ow.later hN hs2 hf λ_ y=>y;have dw:=ow2.later (hN.mono hs) (Sub.refl _) hf2 λ_ y=>.inl y;obtain⟨k2,d2⟩:=u2;rcases oN d2 with ⟨i,rfl⟩ | ni
   .simp only at h;cases q:ce (lo i) (hi i) u.2 with
    | none=>rw[q] at h; exact h.elim
    | some z=>
     rw[q] at h;exact⟨i,dw.int_inv,N,u.2,z,hN.mono (hs.trans hs2),dv,q,λv H' r=>h v H' (r.trans (hs.trans hs2))⟩
   .cases d2 <;> first | exact h.elim | exact absurd rfl (ni _)
  .simp only[df,cj,bP,eu,ee,Ip.R.bind] at h
 .simp only[df,cj,bP,ee,Ip.R.bind] at h
def BS {cl:Nat->au->Ip.Run}{x y z:Ex}{Q:VK}(h:aY W G cl (.sl2 x y z) E σ H Q) :
  aY W G cl x E σ H λv H1=>aY W G cl y E σ H1 λw H2=>∃i,w=.int i/\aY W G cl z E σ H2 λu H3=>∃j,u=.int j/\i5 W v (some i) (some j) H3 Q:=by
 obtain⟨N,a,hN,hS,h⟩:=h;rw[Ip.rN] at h;refine f9 hN hS (λu eu v H1 fp hs nd hf ow hN1 hS1=>?_) λee=>?_
 .refine f9 hN1 hS1 (λu2 eu2 w H2 fq hs2 nd2 hf2 ow2 hN2 hS2=>?_) λee=>?_
  .have dw:=ow2.later (hN.mono hs) (Sub.refl _) hf2 λ_ y=>.inl y;obtain⟨k2,d2⟩:=u2;simp only[eu,eu2,Ip.R.bind] at h;rcases oN d2 with ⟨i,rfl⟩ | ni
   .refine⟨i,dw.int_inv,?_⟩;have hs3:=hs.trans hs2;simp only at h;refine f9 (hN.mono hs3) (hS.grow hs3) (λu3 eu3 w3 H3 fr hs4 nd4 hf4 ow4 hN4 hS4=>?_) λee=>?_
    .have dv:=ow.later hN (hs2.trans hs4) hf λ_ y=>y;have dz:=ow4.later (hN.mono hs3) (Sub.refl _) hf4 λ_ y=>y;obtain⟨k3,d3⟩:=u3;simp only[eu3] at h;rcases oN d3 with ⟨j,rfl⟩ | nj
     .simp only[Ip.sl2D] at h;cases q:ce (some i) (some j) u.2 with
      | none=>rw[q] at h; exact h.elim
      | some t=>
       rw[q] at h;exact⟨j,dz.int_inv,N,u.2,t,hN.mono (hs3.trans hs4),dv,q,λv H' r=>h v H' (r.trans (hs3.trans hs4))⟩
     .cases d3 <;> first | exact h.elim | exact absurd rfl (nj _)
    .simp only[ee] at h
   .cases d2 <;> first | exact h.elim | exact absurd rfl (ni _)
  .simp only[eu,ee,Ip.R.bind] at h
 .simp only[ee,Ip.R.bind] at h
theorem Dens.find {S:Hp}{x:V}{d:D}(hx:Den W S x d)(sx:d.scal=true):∀{vs:ar} {ds:av},Dens W S vs ds->ds.all D.scal=true->(vs.findIdx? λz=>L2.eqV z x)=d.find ds:=by
 intro _ _ hZ;cases hZ with
 | nil=>exact λ_=>rfl
 | cons h q=>
  intro hs;rw[List.all_cons,tw] at hs;have e:=q.find hx sx hs.2;unfold D.find at e ⊢;rw[GC,GC,h.eqV hx hs.1 sx,e]
def Cy {cl:Nat->au->Ip.Run}{x y:Ex}{Q:VK}(hK:W.K=X.K)(h:aY W G cl (.op .index [x,y]) E σ H Q):gZ X.K "list" iS (aY W G cl x E) (bJ W G cl [y] E) σ H Q:=by
 obtain⟨N,a,hN,hS,h⟩:=h;unfold gZ;refine f9 hN hS (λu eu v H1 fp hs nd hf ow hN1 hS1=>?_) λee=>?_
 .cases q:Ip.eval G cl a y with
  | bad=>simp only[df,cj,bP,eu,q,Ip.R.bind] at h
  | ok u2=>
   simp only[df,cj,bP,eu,q,Ip.R.bind,Ip.yc,br] at h;cases hz:Ip.cX u.2 u2.2 with
   | none=>rw[hz] at h; exact h.elim
   | some z=>
    rw[hz] at h;obtain⟨xs,ex⟩:=Ip.A8 hz;have dv:=ow.later hN (Sub.refl _) hf λ_ y=>y;rw[ex] at dv hz;cases dv with | @lst l ws _ h1 h2=>?_
    have sq:Rd H1 l (.lst ws):=Rd.sub bq h1;refine⟨.inl ⟨rfl,ws,.inl sq⟩,kO (hN.mono hs) (hS.grow hs) (λzs ez vs H2 hs2 dz=>?_) λee=>?_⟩
    .simp only[cj,bP,q,Ip.R.bind] at ez;cases ez;obtain⟨w,rfl,dw⟩:=Dens.one dz;rw[Ip.w6] at hz;split at hz
     .rename_i hp;rw[tw] at hp;have h2':=h2.mono (je (N:=N) hs2);have fi:=Dens.find dw hp.1 h2' hp.2;cases hj:u2.2.find xs with
      | none=>rw[hj] at hz; cases hz
      | some j=>
       rw[hj] at hz;cases hz;exact⟨l,ws,w,j,rfl,rfl,Rd.sub hs2 sq,dw.flatV hp.1,h2'.flatV hp.2,fi.trans hj,h _ _ (Res.trans (hs.trans hs2) Res.int)⟩
     .cases hz
    .simp only[cj,bP,q,Ip.R.bind] at ee;cases ee
 .simp only[df,cj,bP,ee,Ip.R.bind] at h
def iW {cl:Nat->au->Ip.Run}{o:Op}{x:Ex}{Q:VK}(h:aY W G cl (.op o [x]) E σ H Q):kH (λvs=>rD W G o vs) (bJ W G cl [x] E) σ H Q:=by
 obtain⟨N,a,hN,hS,h⟩:=h;rw[df] at h;unfold kH;refine kO hN hS (λxs ex vs H1 hs dv=>?_) λee=>?_
 .rw[ex] at h;simp only[Ip.R.bind] at h;cases q:bm G o xs with
  | none=>rw[q] at h; exact h.elim
  | some z=>
   rw[q] at h;exact⟨N,xs,z,hN.mono hs,dv,q,λv H' r=>h v H' (r.trans hs)⟩
 .rw[ee] at h; exact h
def CD {cl:Nat->au->Ip.Run}{o:Op}{x y:Ex}{Q:VK}(h:aY W G cl (.op o [x,y]) E σ H Q):kH (λvs=>rD W G o vs) (bJ W G cl [x,y] E) σ H Q:=by
 obtain⟨N,a,hN,hS,h⟩:=h;rw[df] at h;unfold kH;refine kO hN hS (λxs ex vs H1 hs dv=>?_) λee=>?_
 .rw[ex] at h;simp only[Ip.R.bind] at h;cases q:bm G o xs with
  | none=>rw[q] at h; exact h.elim
  | some z=>
   rw[q] at h;exact⟨N,xs,z,hN.mono hs,dv,q,λv H' r=>h v H' (r.trans hs)⟩
 .rw[ee] at h; exact h
def CC (hc:X.calm=true):CallR X (.builtin "min") (λxs=>rD W G .min2 xs):=(xB hc).imp λvs H Q ⟨N,xs,z,hN,hd,hz,hq⟩=>by
 rw[Ip.Au] at hz;cases xs with
 | nil=>cases hz
 | cons x r=>
  cases r with
  | nil=>cases hz
  | cons y t=>
   cases t with
   | cons _ _=>cases hz
   | nil=>
    obtain⟨k,d⟩:=x;obtain⟨l,e⟩:=y;simp only[br] at hz;cases d <;> first | (cases hz; done) | skip
    cases e <;> first | (cases hz; done) | skip
    rename_i i j;simp only[Ip.bz] at hz;obtain⟨v,w,rfl,h1,h2⟩:=Dens.two hd;have e1:=h1.int_inv;have e2:=h2.int_inv;subst e1 e2;cases hz;exact⟨i,j,rfl,hq _ _ Res.int⟩
theorem Vals.nums:∀{is:aj} {us:al},Vals (is.map V.int) us->∃ps:List (Int×Tok),us=ps.map (λp=>.int p.1 p.2)/\ps.map (·.1)=is
 | [],us,r=>by cases r; exact⟨[],rfl,rfl⟩
 | i::is,us,r=>by
  cases r with
  | cons h q=>
   obtain⟨t,rfl⟩:=h;obtain⟨ps,rfl,e⟩:=Vals.nums q;exact⟨(i,t)::ps,rfl,by rw[Fk,e]⟩
theorem uS:∀{ds:av} {is:aj},bE ds=some is->ds=is.map .int
 | [],is,h=>by cases h; rfl
 | d::ds,is,h=>by
  cases d with
  | int i=>
   obtain⟨js,h1,rfl⟩:=cg (show (bE ds).map (λis=>i::is)=some is from h);rw[uS h1]; rfl
  | _=>cases h
theorem Dens.nums {S:Hp}:∀{is:aj} {ws:ar},Dens W S ws (is.map .int)->ws=is.map .int
 | [],_,.nil=>rfl
 | i::is,_,.cons h q=>by rw[h.int_inv,Dens.nums q]; rfl
def AT {xs:Array (Int×Tok)}{is:aj}(h:xs.toList.map (·.1)=is):∀k,k<=is.length->preSum (numAt xs) k=(is.take k).sum:=by
 have na:∀j,numAt xs j=(is[j]?).getD 0:=λj=>by
  rw[<-h];simp[numAt]
 intro k;induction k with
 | zero=>intro _; simp[preSum]
 | succ k ih=>
  intro hk;have e1:is.take (k+1)=is.take k++[is[k]'(by omega)]:=List.take_succ_eq_append_getElem (by omega);have e2:numAt xs k=is[k]'(by omega):=by rw[na]; simp[show k<is.length by omega]
  rw[preSum,ih (by omega),e2,e1,List.sum_append];simp
theorem vo:∀is:aj,(∀i∈is,0<=i/\i<=10000000)->0<=is.sum/\is.sum<=10000000 * is.length
 | [],_=>by simp
 | i::is,h=>by
  have h1:=h i bW;have ih:=vo is λj hj=>h j (bX _ hj);rw[List.sum_cons,List.length_cons];omega
def Bn (hc:X.calm=true):CallR X (.builtin "sum") (λxs H Q=>∃(a:Addr) (is:List Int) (S:Hp),xs=[.ref a]/\Sub S H/\Den W S (.ref a) (.lst (is.map .int))/\(∀i∈is,0<=i/\i<=10000000)/\is.length<=1000/\Q (.int is.sum) H):=by
 rintro pins s σ H vs us Q I rs ⟨a,is,S,e,hS,dv,hb,hz,q⟩;subst e;obtain⟨u,rfl,ru⟩:=rs.one;cases ru;cases dv with | @lst l ws _ h1 h2=>?_
 have e2:=h2.nums;subst e2;obtain⟨_,its,n,rv,hlen,eo⟩:=I.rdL (Rd.sub hS h1);obtain⟨ps,rfl,e3⟩:=rv.nums;have hl:s.heap.IsList a (intItems ps.toArray):=⟨_,eo,rfl,n,by simp[intItems]⟩
 have hl3:ps.length=is.length:=by rw[<-Fj (·.1),e3]
 have pt:=AT (xs:=ps.toArray) (is:=is) (by simpa using e3);refine sum_intList (I.ok.hd hc) hl (λj hj=>?_) λh' tk t' kp=>?_
 .have hj':j<is.length:=by simpa[hl3] using hj
  have e4:numAt ps.toArray j=is[j]:=by
   rw[<-show (is[j]?).getD 0=is[j] by simp[hj'],<-e3];simp[numAt]
  have b1:=hb is[j] (FO hj');have b2:=vo (is.take (j+1)) λi hi=>hb i (List.mem_of_mem_take hi);have b3:((is.take (j+1)).length:Int)<=1000:=by rw[Gg]; omega
  rw[e4,pt (j+1) (by omega)];unfold InLong;omega
 .have sz:ps.toArray.size=is.length:=by simp[hl3]
  rw[sz,pt is.length (HB _),List.take_length];exact⟨.int is.sum,H,I.kept (t':=tk) kp,⟨_,rfl⟩,q⟩
def BD (hc:X.calm=true):CallR X (.builtin "sum") (λxs=>rD W G .sum xs):=(Bn (W:=W) hc).imp λvs H Q ⟨N,xs,z,hN,hd,hz,hq⟩=>by
 rw[Ip.A7] at hz;obtain⟨v,p,rfl,rfl,dv,ez⟩:=hd.vs1 (o:=.sum) hz;obtain⟨ds,e1,e2⟩:=kJ ez;rw[e1] at dv;obtain⟨is,e3,e4⟩:=bZ (show (bE ds).bind _=some z from e2);split at e4
 .rename_i hl;cases e4;rw[uS e3] at dv;cases dv with | @lst a ws _ h1 h2=>?_
  exact⟨a,is,_,rfl,bq,.lst h1 h2,λi hi=>by simpa using dI hl.1 i hi,hl.2,hq _ _ Res.int⟩
 .cases e4
theorem vZ {S:Hp}:∀{ws:ar} {ds:av} {ns:aj},Dens W S ws ds->bE ds=some ns->ws=ns.map .int/\ds=ns.map .int
 | _,_,_,.nil,h=>by cases h; exact⟨rfl,rfl⟩
 | _,_,_,.cons (d:=d) hx t,h=>by
  cases d <;> try (cases h; done)
  rename_i i;obtain⟨ns,e,rfl⟩:=cg (show (bE _).map _=some _ from h);obtain⟨a1,a2⟩:=vZ t e;rw[hx.int_inv,a1,a2];exact⟨rfl,rfl⟩
theorem vH {S:Hp}:∀ns:aj,Dens W S (ns.map .int) (ns.map .int)
 | []=>.nil
 | _::ns=>.cons .int (vH ns)
def wU {ns ns':aj}(h:ns'.Perm ns)(p:ns'.Pairwise (·<=·)):ns'=Ip.c7 ns:=by
 refine PySem.W.ksm_same (h.trans (List.mergeSort_perm ns _).symm) p ?_;have:=List.pairwise_mergeSort (le:=λa b:Int=>decide (a<=b)) (λa b c h1 h2=>by simp at *; omega) (λa b=>by simp; omega) ns;exact this.imp λh=>by simpa using h
def CJ (hK:W.K=X.K):CallR X (.builtin "sorted") (λxs=>rD W G .srt xs):=zY.imp λvs H Q ⟨N,xs,z,hN,hd,hz,hq⟩=>by
 rw[Ip.DZ] at hz;obtain⟨v,p,rfl,rfl,dv,ez⟩:=hd.vs1 (o:=.srt) hz;obtain⟨ds,e1,e2⟩:=kJ ez;rw[e1] at dv;obtain⟨ns,e3,e4⟩:=bZ (show (bE ds).bind _=some z from e2);split at e4
 .rename_i hl;cases e4;cases dv with | @lst a ws _ h1 h2=>?_
  obtain⟨rfl,rfl⟩:=vZ h2 e3;refine⟨a,ns,rfl,.inl (Rd.sub bq h1),hl,λns' a1 a2 q hp=>?_⟩;rw[wU a1 a2];exact hq _ _ (Res.newL hp (vH _))
 .cases e4
def ph (T:Tb)(sc:Scope)(N:ao)(m:Nat)(x:Expr)(p:Pos):cE T sc N m (.Starred x p)=.bad:=by
 cases m <;> rfl
theorem ug {α:Type}{x:Str}{v:α}:∀{l:List (Str×α)},l.lookup x=some v->(x,v)∈l
 | [],h=>nomatch h
 | (y,j)::r,h=>by
  rw[List.lookup_cons] at h;cases e:x == y with
  | true=>
   rw[e] at h;rw[Fm] at e;cases h;rw[e];exact bW
  | false=>rw[e] at h; exact bX _ (ug h)
theorem uC (g:Gd W G T n E sc N X):∀{es:aq} {is:ai},(es.mapM λ(e:Expr)=>match e with
  | .Name x _=>if bw sc x then pos? x N else none
  | _=>none)=some is->kN X es (iU is)/\(assignEach es X.env).length=is.length/\(assignEach es X.env).findIdx? (·.1)=none
 | [],is,h=>by
  cases h;exact⟨xK,rfl,rfl⟩
 | e::es,is,h=>by
  rw[List.mapM_cons] at h;cases e with
  | Name x p=>
   by_cases hl:bw sc x=true
   .simp only[hl,if_true] at h;cases q:pos? x N with
    | none=>rw[q] at h; cases h
    | some i=>
     rw[q] at h;cases q2:(es.mapM λ(e:Expr)=>match e with
       | .Name x _=>if bw sc x then pos? x N else none
       | _=>none) with
     | none=>simp[q2] at h
     | some js=>
      simp[q2] at h;subst h;obtain⟨h1,h2,h3⟩:=uC g q2;obtain⟨l1,l2⟩:=g.loc x hl;have hi:X.N[i]? = some x:=by rw[g.nm]; exact pos?_get q
      refine⟨DO (qJ (by rw[g.nm]; exact g.nd) hi l1 l2) h1 rfl,?_,?_⟩
      .show (assignEach es X.env).length+1=js.length+1;rw[h2]
      .show List.findIdx? _ ((false,_)::assignEach es X.env)=none;rw[GC,h3];rfl
   .simp only[hl] at h;cases h
  | _=>cases h
def nW (g:Gd W G T n E sc N X){tg:Expr}{t:Tg}(h:cz sc N tg=some t):PG X tg (gT X.K t):=by
 cases tg with
 | Name x p=>
  simp only[Ip.rL,Ip.t3] at h;by_cases hl:bw sc x=true
  .rw[if_pos hl] at h;obtain⟨i,q,rfl⟩:=cg h;obtain⟨l1,l2⟩:=g.loc x hl;exact qJ (by rw[g.nm]; exact g.nd) (by rw[g.nm]; exact pos?_get q) l1 l2
  .rw[if_neg hl] at h; cases h
 | Tuple es k p=>
  simp only[Ip.rL,Ip.t3] at h;obtain⟨is,q,rfl⟩:=cg h;obtain⟨h1,h2,h3⟩:=uC g q;exact λpins s σ H v u Q I r hw=>hw.elim (Co g.calm h1 h2 h3 pins s σ H v u Q I r) (Do g.calm h1 h2 h3 pins s σ H v u Q I r)
 | _=>cases h
end
section
variable {W:Wd}{G:Pg}{T:Tb}{n:Nat}
structure IH (W:Wd)(G:Pg)(T:Tb)(n m:Nat):Prop where
 e:∀{E:St->XK} {sc:Scope} {N:ao} {X:Cx},Gd W G T n E sc N X->∀x,PE X x (aY W G (Ip.run G n) (cE T sc N m x) E)
 t:∀{E:St->XK} {sc:Scope} {N:ao} {X:Cx},Gd W G T n E sc N X->∀x,PT X x (bL W G (Ip.run G n) (cT T sc N m x) E)
 c:∀{E:St->XK} {sc:Scope} {N:ao} {X:Cx},Gd W G T n E sc N X->∀a os bs p,PT X (.Compare a os bs p) (bL W G (Ip.run G n) (cE T sc N m (.Compare a os bs p)) E)
 i:∀{E:St->XK} {sc:Scope} {N:ao} {X:Cx},Gd W G T n E sc N X->∀tg x,((cI T sc N m x).1=.enum\/(cI T sc N m x).1=.zip->∃es k p,tg=.Tuple es k p)->PI X tg x (fw W G (Ip.run G n) (cI T sc N m x).1 (cI T sc N m x).2 E)
 b:∀{E:St->XK} {sc:Scope} {N:ao} {X:Cx},Gd W G T n E sc N X->∀f args p pos,bg sc f=true->PE X (.Call (.Name f p) args [] pos) (aY W G (Ip.run G n) (cB T sc N m f args) E)
variable {m:Nat}{E:St->XK}{sc:Scope}{N:ao}{X:Cx}
def IH.args (ih:IH W G T n m)(g:Gd W G T n E sc N X)(es:aq):PA X es (bJ W G (Ip.run G n) (es.map (cE T sc N m)) E):=
 vh (λe _=>ih.e g e) λe _ x p h=>by rw[h]; exact ph T sc N m x p
theorem Gd.units (g:Gd W G T n E sc N X):X.A.units+64<cLine:=g.room.units
def gF:PI X tg x (fw W G (Ip.run G n) .seq [.bad] E):=λpins s σ H R I ⟨_,_,_,_,q⟩=>by
 rw[bP,f7] at q;exact q.elim
def eV:PT X x (bL W G (Ip.run G n) .bad E):=λpins s σ H R I ⟨_,_,_,_,q⟩=>by
 rw[f7] at q;exact q.elim
def wY (g:Gd W G T n E sc N X)(x:Str)(p:Pos):PE X (.Name x p) (aY W G (Ip.run G n) (cE T sc N (m+1) (.Name x p)) E):=by
 rw[Ip.wP];by_cases h1:(aU sc x&&Ip.aM x)=true
 .rw[if_pos h1];rw[tw] at h1;unfold Ip.pv?;cases q:pos? x N with
  | none=>exact bF
  | some i=>
   have ok:=h1.2;unfold Ip.aM at ok;simp only[tw,GM] at ok;exact D5 (oH (by rw[g.nm]; exact pos?_get q) (g.vis x h1.1) ok.1 ok.2)
 .rw[if_neg h1];by_cases h2:bg sc x=true
  .rw[if_pos h2];cases q:T.cst.lookup x with
   | none=>exact bF
   | some d=>
    obtain⟨hd,u,v,hm,r,hf,hv⟩:=g.gf.cst x d q;exact mh hf hv (sU (g.gl x h2) hm r hd)
  .rw[if_neg h2]; exact bF
def wv (c:Const)(k:Nat)(p:Pos):PE X (.Constant c k p) (aY W G (Ip.run G n) (cE T sc N (m+1) (.Constant c k p)) E):=by
 cases c with
 | none=>exact mh rfl (λ_=>.non) EJ
 | bool b=>exact mh rfl (λ_=>.bl) xX
 | int i=>exact mh rfl (λ_=>.int) vL
 | str s=>exact mh rfl (λ_=>.str) tj
 | _=>exact bF
def CQ (ih:IH W G T n m)(g:Gd W G T n E sc N X)(a b:Expr)(o:Operator)(p:Pos):PE X (.BinOp a o b p) (aY W G (Ip.run G n) (cE T sc N (m+1) (.BinOp a o b p)) E):=by
 have ha:=ih.e g a;have hb:=ih.e g b;cases o with
 | Add=>exact (kM (BU g.K) ha hb).mono λσ H Q=>g9 λ_ _ _ _ h=>h
 | Sub=>exact (kM xa ha hb).mono λσ H Q=>g9 λ_ _ _ _ h=>h
 | Mult=>exact (kM (Aj g.K) ha hb).mono λσ H Q=>g9 λ_ _ _ _ h=>h
 | FloorDiv=>exact (kM D9 ha hb).mono λσ H Q=>g9 λ_ _ _ _ h=>h
 | Mod=>exact (kM Eg ha hb).mono λσ H Q=>g9 λ_ _ _ _ h=>h
 | Pow=>exact (kM DX ha hb).mono λσ H Q=>g9 λ_ _ _ _ h=>h
 | _=>exact bF
def oY (ih:IH W G T n m)(g:Gd W G T n E sc N X)(a:Expr)(o:UnaryOp)(p:Pos):PE X (.UnaryOp o a p) (aY W G (Ip.run G n) (cE T sc N (m+1) (.UnaryOp o a p)) E):=by
 have ha:=ih.e g a;cases o with
 | Not=>exact (xy ha).mono λσ H Q=>gP BX
 | USub=>exact (vg uR ha).mono λσ H Q=>gP yM
 | _=>exact bF
def zZ (ih:IH W G T n m)(g:Gd W G T n E sc N X)(o:BoolOp)(es:aq)(p:Pos):PE X (.BoolOp o es p) (aY W G (Ip.run G n) (cE T sc N (m+1) (.BoolOp o es p)) E):=by
 match es with
 | []=>exact bF
 | [a]=>exact EY (ih.e g a)
 | a::b::es=>
  cases o with
  | And=>exact (zx (ih.e g a) (ih.e g (.BoolOp .And (b::es) p))).mono λσ H Q=>CU
  | Or=>exact (wV (ih.e g a) (ih.e g (.BoolOp .Or (b::es) p))).mono λσ H Q=>oB
def sS (h:cC b=true):behindInMarks o b=false:=by
 cases b <;> first | rfl | cases h
def kL (g:Gd W G T n E sc N X)(h:f8 o=some p):OpR X (compareOp o) (λx y=>rD W G p [x,y]):=by
 cases o <;> (try cases h)
 .exact pQ g.K g.units
 .exact oW g.K g.units
 .exact qE
 .exact qq
 .exact pV
 .exact qN
 .exact qC g.K g.units
 .exact DG g.K g.units
def tX (h:iM o=some p):f8 o=some p/\o≠.In/\o≠.NotIn:=by
 cases o <;> (try cases h) <;> exact⟨rfl,by decide,by decide⟩
def t7 (h:isNone b=true):∃k p,b=.Constant .none k p:=by
 cases b <;> try (cases h; done)
 rename_i c k p;cases c <;> first | exact⟨k,p,rfl⟩ | cases h
def sh (ih:IH W G T n m)(g:Gd W G T n E sc N X)(a:Expr)(os:List CmpOp)(bs:aq)(p:Pos) :
  PE X (.Compare a os bs p) (aY W G (Ip.run G n) (cE T sc N (m+1) (.Compare a os bs p)) E)/\PT X (.Compare a os bs p) (bL W G (Ip.run G n) (cE T sc N (m+1) (.Compare a os bs p)) E):=by
 have ha:=ih.e g a;match os,bs with
 | [o],[b]=>
  have hb:=ih.e g b;have rest:∀q,f8 o=some q->PE X (.Compare a [o] [b] p) (aY W G (Ip.run G n) (if cC b then .op q [cE T sc N m a,cE T sc N m b] else .bad) E)/\PT X (.Compare a [o] [b] p) (bL W G (Ip.run G n) (if cC b then .op q [cE T sc N m a,cE T sc N m b] else .bad) E):=λq hq=>by
   by_cases ns:cC b=true
   .rw[if_pos ns];exact⟨(Bs (kL g hq) ha hb (sS ns)).mono λσ H Q=>g9 λ_ _ _ _ h=>h,(BM (kL g hq) ha hb (sS ns)).mono λσ H Q h=>g9 (λ_ _ _ _ h=>h) (lH h)⟩
   .rw[if_neg ns]; exact⟨bF,eV⟩
  cases o with
  | Is=>
   simp only[Ip.rB];by_cases hn:isNone b=true
   .rw[if_pos hn];obtain⟨k,p',rfl⟩:=t7 hn;exact⟨(sD (u6 ha)).mono λσ H Q=>gP (r:=λx H Q=>Q (.bl (decide (x=.non))) H) uf,(vx (u6 ha)).mono λσ H Q h=>gP (r:=λx H Q=>Q (.bl (decide (x=.non))) H) uf (lH h)⟩
   .rw[if_neg hn]; exact⟨bF,eV⟩
  | IsNot=>
   simp only[Ip.rB];by_cases hn:isNone b=true
   .rw[if_pos hn];obtain⟨k,p',rfl⟩:=t7 hn;exact⟨(sD (uZ ha)).mono λσ H Q=>gP (r:=λx H Q=>Q (.bl (!decide (x=.non))) H) tH,(vx (uZ ha)).mono λσ H Q h=>gP (r:=λx H Q=>Q (.bl (!decide (x=.non))) H) tH (lH h)⟩
   .rw[if_neg hn]; exact⟨bF,eV⟩
  | Eq=>exact rest _ rfl
  | NotEq=>exact rest _ rfl
  | Lt=>exact rest _ rfl
  | LtE=>exact rest _ rfl
  | Gt=>exact rest _ rfl
  | GtE=>exact rest _ rfl
  | In=>exact rest _ rfl
  | NotIn=>exact rest _ rfl
 | [o,q],[b,c]=>
  have hb:=ih.e g b;have hc:=ih.e g c;simp only[Ip.rB];cases h1:iM o with
  | none=>exact⟨bF,eV⟩
  | some o'=>
   cases h2:iM q with
   | none=>exact⟨bF,eV⟩
   | some q'=>
    obtain⟨c1,_,_⟩:=tX h1;obtain⟨c2,n1,n2⟩:=tX h2;have hm:lastMarks [o,q] [b,c]=false:=jJ c n1 n2;exact⟨(Eo (kL g c1) (kL g c2) ha hb hc hm).mono λσ H Q=>vQ,(xt (kL g c1) (kL g c2) ha hb hc hm).mono λσ H Q h=>vQ (lH h)⟩
 | [],_=>exact⟨bF,eV⟩
 | [_],[]=>exact⟨bF,eV⟩
 | [_],_::_::_=>exact⟨bF,eV⟩
 | [_,_],[]=>exact⟨bF,eV⟩
 | [_,_],[_]=>exact⟨bF,eV⟩
 | [_,_],_::_::_::_=>exact⟨bF,eV⟩
 | _::_::_::_,_=>exact⟨bF,eV⟩
end
section
variable {W:Wd}{G:Pg}{T:Tb}{n:Nat}{m:Nat}{E:St->XK}{sc:Scope}{N:ao}{X:Cx}
def qH (ih:IH W G T n m)(g:Gd W G T n E sc N X)(c a b:Expr)(p:Pos):PE X (.IfExp c a b p) (aY W G (Ip.run G n) (cE T sc N (m+1) (.IfExp c a b p)) E):=by
 simp only[Ip.Bu];exact (zj (ih.t g c) (ih.e g a) (ih.e g b)).mono λσ H Q=>xx
def xn (ih:IH W G T n m)(g:Gd W G T n E sc N X)(es:aq)(p:Pos):PE X (.List es p) (aY W G (Ip.run G n) (cE T sc N (m+1) (.List es p)) E):=by
 simp only[Ip.Az];by_cases h:es.length<=1000
 .rw[if_pos h]; exact o6 (by rw[Fj]; exact h) (ih.args g es)
 .rw[if_neg h]; exact bF
def yq (ih:IH W G T n m)(g:Gd W G T n E sc N X)(es:aq)(k:Nat)(p:Pos):PE X (.Tuple es k p) (aY W G (Ip.run G n) (cE T sc N (m+1) (.Tuple es k p)) E):=by
 simp only[Ip.As];by_cases h:es.length<=1000
 .rw[if_pos h]; exact Dk (by rw[Fj]; exact h) (ih.args g es)
 .rw[if_neg h]; exact bF
def yi (ih:IH W G T n m)(g:Gd W G T n E sc N X)(o:Expr)(f:Str)(p:Pos):PE X (.Attribute o f p) (aY W G (Ip.run G n) (cE T sc N (m+1) (.Attribute o f p)) E):=by
 simp only[Ip.Dv];cases q:pos? f T.att with
 | none=>exact bF
 | some k=>
  by_cases h:(T.fl.contains k&&eS o)=true
  .simp only[h,if_true];rw[tw] at h;exact BE g.K g.gf.cf (by simpa using h.1) (by rw[g.gf.att]; exact pos?_get q) (ih.e g o) (kS h.2)
  .simp only[h]; exact bF
def no (h:∀a b c p,i≠.Slice a b c p):fH i:=by
 intro o v;cases i <;> first | rfl | exact absurd rfl (h _ _ _ _)
def Ah:PE X (.UnaryOp .USub (.Constant (.int 1) k p1) p2) (tC (.int (-1))):=(vg uR vL).mono λσ H Q h=>⟨_,rfl,h⟩
def ER (hK:W.K=X.K):∀x H Q,rD W G .rev [x] H Q->∃a xs,x=.ref a/\SqL X.K H a xs/\∀p,H p=none->Q (.ref p) (upd H p (.lst xs.reverse)):=by
 rintro x H Q ⟨N,xs,z,hN,hd,hz,hq⟩;simp only[Ip.xM] at hz;obtain⟨v,p,e,rfl,dv,ez⟩:=hd.vs1 (o:=.rev) hz;cases e;obtain⟨ds,e1,e2⟩:=kJ ez;rw[e1] at dv;cases dv with | @lst a vs _ h1 h2=>?_
 cases e2;exact⟨a,vs,rfl,by rw[<-hK]; exact .inl (Rd.sub bq h1),λp hp=>hq _ _ (Res.newL hp h2.rev)⟩
def Ct (ih:IH W G T n m)(g:Gd W G T n E sc N X)(a i:Expr)(p:Pos):PE X (.Subscript a i p) (aY W G (Ip.run G n) (cE T sc N (m+1) (.Subscript a i p)) E):=by
 have ha:=ih.e g a;cases i with
 | Slice lo hi st q=>
  match lo,hi,st with
  | some l,none,none=>
   simp only[kP];exact (oX (rz g.K) ha (nQ (ih.e g l)) uT).mono λσ H Q h=>sB (lo:=λi=>some i) (hi:=λ_=>none) (λu v=>rfl) h
  | none,some l,none=>
   simp only[kP];exact (oX (rz g.K) ha uT (nQ (ih.e g l))).mono λσ H Q h=>sB (lo:=λ_=>none) (hi:=λi=>some i) (λu v=>rfl) h
  | some l,some h,none=>
   simp only[kP];exact (oX (rz g.K) ha (nQ (ih.e g l)) (nQ (ih.e g h))).mono λσ H Q h=>BS h
  | none,none,none=>exact bF
  | none,none,some st=>
   simp only[kP];by_cases h1:Ip.gU st=true
   .rw[if_pos h1];obtain⟨k,p1,p2,rfl⟩:=Ip.EN h1;exact (Fe ha (Ah)).mono λσ H Q h=>gP (r:=λx H Q=>∃a xs,x=.ref a/\SqL X.K H a xs/\∀p,H p=none->Q (.ref p) (upd H p (.lst xs.reverse))) (ER g.K) h
   .rw[if_neg h1]; exact bF
  | some _,none,some _=>exact bF
  | none,some _,some _=>exact bF
  | some _,some _,some _=>exact bF
 | _=>
  simp only[kP];exact (nS (pM g.K) ha (ih.e g _) (no λ_ _ _ _ z=>by cases z)).mono λσ H Q=>g9 λ_ _ _ _ h=>h
def qQ (e:Expr):(∃a b c,e=.Set a b c)\/∀(env:Env) (x:Value),foldedSetIterable e env x=pure x:=by
 cases e <;> first | exact .inl ⟨_,_,_,rfl⟩ | exact .inr λ_ _=>rfl
def o5:(cI T sc N m (.Set a b c)).2=[.bad]:=by
 cases m with
 | zero=>rfl
 | succ m=>cases m <;> rfl
structure CompR (W:Wd)(G:Pg)(n:Nat)(E:St->XK)(X:Cx)(scope:Scope)(N:ao)(tg iter elt:Expr)(ifs:aq)(t:Tg)(wk:Wk)(it ts:aC)(x:Ex):Prop where
 hS:compOk X.env.scope X.N (aQ scope) (bc N scope) scope=true
 hi:PI X tg iter (fw W G (Ip.run G n) wk it E)
 hg:∀cl C s H fp,PG (bj X (aQ scope) scope cl C s H fp λ_ _=>False) tg (gT X.K t)
 ht:∀cl C s H fp,PTs (bj X (aQ scope) scope cl C s H fp λ_ _=>False) ifs (rG W G (Ip.run G n) ts)
 he:∀cl C s H fp,PE (bj X (aQ scope) scope cl C s H fp λ_ _=>False) elt (aY W G (Ip.run G n) x λ_ _ _ _=>False)
 hx:∀i∈cM t,(bc N scope)[i]? = some none
def sE (h1:cz sc N tg=some t)(h2:dJ wk t=true):wk=.enum\/wk=.zip->∃es k p,tg=.Tuple es k p:=by
 intro hw;cases tg with
 | Name x p=>
  simp only[Ip.rL] at h1;by_cases hl:bw sc x=true
  .rw[if_pos hl] at h1;obtain⟨i,_,rfl⟩:=cg h1;rcases hw with rfl | rfl <;> cases h2
  .rw[if_neg hl] at h1; cases h1
 | Tuple es k p=>exact⟨es,k,p,rfl⟩
 | _=>cases h1
def vd (ih:IH W G T n m)(g:Gd W G T n E sc N X)(hb:cP sc N (aQ scope) (bc N scope) scope=true)(hl:ifs.length<=1)(ht:cz scope (aQ scope) tg=some t)
  (hw:dJ (cI T sc N m iter).1 t=true)(hx:(cM t).all (λi=>(bc N scope)[i]? == some none)=true) :
  CompR W G n E X scope N tg iter e ifs t (cI T sc N m iter).1 (cI T sc N m iter).2 (ifs.map (cT T scope (aQ scope) m)) (cE T scope (aQ scope) m e):=by
 refine⟨g.compOk hb,ih.i g tg iter (sE ht hw),λcl C s H fp=>?_,λcl C s H fp=>?_,λcl C s H fp=>ih.e (g.block hb cl C s H fp) e,λi hi=>?_⟩
 .exact nW (g.block hb cl C s H fp) ht
 .match ifs,hl with
  | [],_=>exact CA
  | [c],_=>exact zu (ih.t (g.block hb cl C s H fp) c)
 .have:=dI hx i hi;simpa using this
def ww (ih:IH W G T n m)(g:Gd W G T n E sc N X)(e:Expr)(gs:List Comprehension)(scope:Scope)(p:Pos):PE X (.ListComp e gs scope p) (aY W G (Ip.run G n) (cE T sc N (m+1) (.ListComp e gs scope p)) E):=by
 match gs with
 | []=>exact bF
 | ⟨_,_,_,_⟩::_::_=>exact bF
 | [⟨tg,iter,ifs,as⟩]=>
  simp only[Ip.uu];by_cases h:(cP sc N (aQ scope) (bc N scope) scope&&as == 0&&decide (ifs.length<=1))=true
  rotate_left
  .rw[if_neg h]; exact bF
  rw[if_pos h];simp only[tw,Fm,Fx] at h;obtain⟨⟨hb,has⟩,hl⟩:=h;subst has;cases ht:cz scope (aQ scope) tg with
  | none=>exact bF
  | some t=>
   by_cases h2:(dJ (cI T sc N m iter).1 t&&(cM t).all (λi=>(bc N scope)[i]? == some none))=true
   rotate_left
   .simp only[h2]; exact bF
   simp only[h2,if_true];rw[tw] at h2;rcases qQ iter with ⟨a,b,c,rfl⟩ | hs
   .rintro pins s σ H Q I ⟨_,_,_,_,q⟩;rw[ka,o5,bP,f7] at q;exact q.elim
   .have cp:=vd (e:=e) ih g hb hl ht h2.1 h2.2;exact (BF g.calm cp.hS cp.hi cp.hg cp.ht cp.he (hs X.env)).mono λσ H Q=>uB g.K cp.hx
def x9 (ih:IH W G T n m)(g:Gd W G T n E sc N X)(e:Expr):PT X e (bL W G (Ip.run G n) (cT T sc N (m+1) e) E):=by
 cases e with
 | BoolOp o es p=>
  match es with
  | []=>exact eV
  | [a]=>
   cases o with
   | And=>exact (EG (ih.t g a)).pt
   | Or=>exact (EA (ih.t g a)).pt
  | a::b::es=>
   have hb:∀o,PW X (.BoolOp o (b::es) p) (bL W G (Ip.run G n) (cT T sc N m (.BoolOp o (b::es) p)) E):=λo whole=>ih.t g (.BoolOp o (b::es) p);cases o with
   | And=>exact (DC (ih.t g a) (hb .And)).pt.mono λσ H Q=>xW
   | Or=>exact (Eu (ih.t g a) (hb .Or)).pt.mono λσ H Q=>AX
 | UnaryOp o a p=>
  cases o with
  | Not=>exact (EQ (ih.t g a)).mono λσ H Q=>EW
  | _=>exact r8 (ih.e g _) λ_=>rfl
 | IfExp c a b p=>exact eV
 | Compare a os bs p=>exact ih.c g a os bs p
 | _=>exact r8 (ih.e g _) λ_=>rfl
end
section
variable {W:Wd}{G:Pg}{T:Tb}{n:Nat}{m:Nat}{E:St->XK}{sc:Scope}{N:ao}{X:Cx}
def wE (ih:IH W G T n m)(g:Gd W G T n E sc N X)(f:Str)(args:aq)(p pos:Pos)(k:Nat)(hg:bg sc f=true)(hk:T.fns.lookup f=some k)(ns:aJ args=true):PE X (.Call (.Name f p) args [] pos) (aY W G (Ip.run G n) (.call k (args.map (cE T sc N m))) E):=by
 obtain⟨hdb,F,a,hF,hm,kp,fd,ps,fo,bd⟩:=g.gf.fns f k hk;cases q:c9 G k args.length with
 | none=>
  rintro pins s σ H Q I ⟨_,_,_,_,h⟩;rw[kK,Fj,q] at h;exact h.elim
 | some F'=>
  obtain⟨e1,hio,h1,h2⟩:=sv q;rw[hF] at e1;cases e1;obtain⟨ds,dvs,hb,hv,hd⟩:=bd args.length h1 h2;have fo':FnOk X.prog X.w X.K X.mg X.base (ft X.prog X.w) (rm n) a fd ps (fc W G n k F):=g.K ▸ fo;have rm1:=g.room.mono (F0 (rm n));have q':c9 G k (args.map (cE T sc N m)).length=some F:=by rw[Fj]; exact q
  have hd':∀S,Dens W S dvs (cG F (args.map (cE T sc N m)).length):=by rw[Fj]; exact hd
  match args,ns,q',hd' with
  | [],_,q',hd'=>exact (x8 fo' rm1 (g.gl f hg) hm (g.K ▸ kp) (g.K ▸ hb) hv g.pass hdb).mono λσ H Q h=>nq (uh (es:=[]) q' hd' h)
  | e::es,ns,q',hd'=>
   obtain⟨s1,s2⟩:=d5 ns;exact (sF fo' rm1 (g.gl f hg) hm (g.K ▸ kp) (g.K ▸ hb) hv g.pass (ih.args g (e::es)) hdb (di s1) (kT s2)).mono λσ H Q=>uh q' hd'
def Bb (ih:IH W G T n m)(g:Gd W G T n E sc N X)(f:Str)(args:aq)(p pos:Pos)(c:Nat)(hg:bg sc f=true)(hk:T.cls.lookup f=some c)(ns:aJ args=true):PE X (.Call (.Name f p) args [] pos) (aY W G (Ip.run G n) (.make c (args.map (cE T sc N m))) E):=by
 obtain⟨hdb,C,hm,hc⟩:=g.gf.cls f c hk;cases q:cu G c args.length with
 | none=>
  rintro pins s σ H Q I ⟨_,_,_,_,h⟩;rw[lB,Fj,q] at h;exact h.elim
 | some t=>
  obtain⟨fi,F,d⟩:=t;obtain⟨Cl',k1,k2,k3,k4,hio,h1,h2,h50⟩:=vp q;obtain⟨a,⟨fd,ps,fo,bd⟩,hx⟩:=hc Cl' fi F k1 k2 k3;obtain⟨ds,dvs,hb,hv,hd⟩:=bd (args.length+1) h1 h2;have fo':FnOk X.prog X.w X.K X.mg X.base (ft X.prog X.w) (rm n) a fd ps (fc W G n fi F):=g.K ▸ fo;have hd':∀S,Dens W S dvs (cG F ((args.map (cE T sc N m)).length+1)):=by rw[Fj]; exact hd
  .obtain⟨iA,mk⟩:=hx;subst k4;have q':cu G c (args.map (cE T sc N m)).length=some (fi,F,.ins c []):=by rw[Fj]; exact q
   have mk':Mk X.K C a:=g.K ▸ mk;match args,ns,q',hd' with
   | [],_,q',hd'=>exact (wD mk' fo' g.room (g.gl f hg) hm (g.K ▸ hb) hv g.pass hdb).mono λσ H Q h=>nq (rY (es:=[]) iA q' hd' h)
   | e::es,ns,q',hd'=>
    obtain⟨s1,s2⟩:=d5 ns;exact (xE mk' fo' g.room (g.gl f hg) hm (g.K ▸ hb) hv g.pass (ih.args g (e::es)) hdb (di s1) (kT s2)).mono λσ H Q=>rY iA q' hd'
def yN (ih:IH W G T n m)(g:Gd W G T n E sc N X)(o:Expr)(f:Str)(args:aq)(ap pos:Pos)(k:Nat)(hk:pos? f T.att=some k)(hs:eS o=true)(ns:aJ args=true)(hl:args.length<30)(hp:ap.endLine=pos.line) :
  PE X (.Call (.Attribute o f ap) args [] pos) (aY W G (Ip.run G n) (.meth k (cE T sc N m o) (args.map (cE T sc N m))) E):=by
 rintro pins s σ H Q I ⟨N0,a,hN,hS,h⟩;have ho:=ih.e g o;have arm:=AS (m:=f) (env:=X.env) hs ns hl hp;have hatt:W.att[k]? = some f:=by rw[g.gf.att]; exact pos?_get hk
 cases q:Ip.eval G (Ip.run G n) a (cE T sc N m o) with
 | bad=>rw[kv,q] at h; exact h.elim
 | ok x=>
  obtain⟨kx,d⟩:=x;cases q2:bO G k args.length d with
  | none=>
   rw[kv,q] at h;simp only[Ip.R.bind,Fj,q2] at h
  | some t=>
   obtain⟨fi,F⟩:=t;obtain⟨c,fs,Cl',rfl,k1,k2,k3,hio,hfl,h1,h2⟩:=uo q2;obtain⟨C,ad,hC,hme,fd,ps,fo,bd⟩:=g.gf.meth c Cl' k fi F k1 k2 k3 f hatt;obtain⟨ds,dvs,hb,hv,hd⟩:=bd (args.length+1) h1 h2;have fo':FnOk X.prog X.w X.K X.mg X.base (ft X.prog X.w) (rm n) ad fd ps (fc W G n fi F):=g.K ▸ fo;have rm1:=g.room.mono (F0 (rm n));have cls:Cls X.K C:=g.K ▸ (g.gf.cf.ins c C hC).1.cls;have q3:bO G k (args.map (cE T sc N m)).length (.ins c fs)=some (fi,F):=by rw[Fj]; exact q2
   have hd':∀S,Dens W S dvs (cG F ((args.map (cE T sc N m)).length+1)):=by rw[Fj]; exact hd
   have key:=EE (E:=E) (Q:=Q) g.gf.cf.nd hatt hC hd' hN hS q q3 h;match args,ns,arm,key with
   | [],_,arm,key=>exact AD ho cls (g.K ▸ hme) fo' rm1 (g.K ▸ hb) hv g.pass arm pins s σ H Q I (by
     unfold eD at key ⊢;refine evT_mono key λx H1 ⟨a,dx,fs,e1,e2,e3,e4⟩=>⟨a,dx,fs,e1,e2,e3,nq e4⟩)
   | e::es,ns,arm,key=>
    obtain⟨s1,s2⟩:=d5 ns;exact B4 ho cls (g.K ▸ hme) fo' rm1 (g.K ▸ hb) hv g.pass (ih.args g (e::es)) (di s1) (kT s2) arm pins s σ H Q I key
where
 evT_mono {ir:Ex} {cl:Nat->au->Ip.Run} {E:St->XK} {σ:St} {H:Hp} {Q Q':VK} (h:aY W G cl ir E σ H Q) (k:∀v H,Q v H->Q' v H):aY W G cl ir E σ H Q':=by
  obtain⟨N,a,hN,hS,h⟩:=h;refine⟨N,a,hN,hS,?_⟩;cases q:Ip.eval G cl a ir with
  | bad=>rw[q] at h; exact h
  | ok x=>rw[q] at h; exact λv H' r=>k v H' (h v H' r)
def pR {e:Expr}{cp:Pos}{env:Env}(ns:aJ [e]=true):((backTo cp (starEach [e] env)).all (λx=>!x.1)&&(backToKw cp (keywordEach [] env)).all (λx=>x.1.isSome)
   && decide ([e].length+([]:List Keyword).length+(if ([]:List Keyword).isEmpty then 0 else 1)<30))=true:=by
 rw[nV ns]; rfl
def ES (ih:IH W G T n m)(g:Gd W G T n E sc N X)(o:Expr)(f:Str)(args:aq)(ap pos:Pos)(hi:dL f args=true)(hs:eS o=true)(ns:aJ args=true)(hp:ap.endLine=pos.line) :
  PE X (.Call (.Attribute o f ap) args [] pos) (aY W G (Ip.run G n) (.op .index ((o::args).map (cE T sc N m))) E):=by
 unfold dL at hi;simp only[tw,Fm,List.all_eq_true] at hi;obtain⟨⟨rfl,hl⟩,hn⟩:=hi;obtain⟨a,rfl⟩:=GB.mp hl;have ha:=hn a (Fi.mpr rfl);obtain⟨s1,s2⟩:=d5 ns;have ln:(ap.endLine == pos.line)=true:=by rw[hp]; exact beq_self_eq_true _
 exact (j9 (T := "list") (id := "list.index") FX PySem.F.slot_list_index PySem.F.type_list_index xq (ih.e g o) (ih.args g [a]) (kS hs) (pR ns) ln (di s1) rfl).mono λσ H Q h=>Cy g.K h
def Gd.bl (g:Gd W G T n E sc N X){x:Str}{v:Value}(h:(x,v)∈eJ):X.mg x=none/\bootBuiltins x=some v:=g.gf.blt x v h
def DA (ih:IH W G T n m)(g:Gd W G T n E sc N X)(a:Expr):((∃x p,a=.Starred x p)/\cE T sc N m a=.bad)\/(PA X [a] (bJ W G (Ip.run G n) [cE T sc N m a] E)/\starEach [a] X.env=(false,PySem.eval a X.env)::starEach [] X.env):=by
 rcases nF a [] X.env with ⟨x,p,rfl⟩ | h
 .exact .inl ⟨⟨x,p,rfl⟩,ph T sc N m x p⟩
 .exact .inr ⟨ih.args g [a],h⟩
def v8 {o:Op}{x:Expr}{es:aC}:PE X x (aY W G (Ip.run G n) (.op o (.bad::es)) E):=λpins s σ H Q I ⟨_,_,_,_,h⟩=>by
 rw[df,bP,f7] at h;exact h.elim
def Ba (g:Gd W G T n E sc N X){b:Expr}{t:Ip.Ty}(q:gv T sc b=some t):∃c cv,PE X b (tC c)/\valOf c=some cv/\bY W G t cv:=by
 cases b with
 | Name x bp=>
  simp only[gv] at q;by_cases hgx:bg sc x=true
  .rw[if_pos hgx] at q;cases q2:T.cls.lookup x with
   | some c=>
    rw[q2] at q;cases q;obtain⟨hdb,_⟩:=g.gf.cls x c q2;obtain⟨C,hm,hi⟩:=g.gf.isC x c q2;exact⟨.ref C,.ref C,sU (g.gl x hgx) hm rfl hdb,rfl,hi⟩
   | none=>
    rw[q2] at q;obtain⟨hm,hn,hdb,nm,hb,hi⟩:=g.gf.isB x t q;exact⟨.ty nm,.type nm,EL (g.gl x hgx) hm hb rfl hn hdb,rfl,hi⟩
  .rw[if_neg hgx] at q; cases q
 | _=>cases q
def yx (ih:IH W G T n m)(g:Gd W G T n E sc N X)(f:Str)(args:aq)(p pos:Pos)(hg:bg sc f=true):PE X (.Call (.Name f p) args [] pos) (aY W G (Ip.run G n) (cB T sc N (m+1) f args) E):=by
 match args with
 | []=>exact bF
 | _::_::_::_=>exact bF
 | [a]=>
  simp only[Ip.vV];cases qi:Ip.lC sc f a with
  | some ob=>
   obtain⟨o,b⟩:=ob;dsimp only;obtain⟨g',p1,p2,rfl,hg',ns,hc⟩:=Ip.CV qi;obtain⟨s1,_⟩:=d5 ns;rcases hc with ⟨rfl,rfl,rfl⟩ | ⟨rfl,rfl,rfl⟩
   .obtain⟨h1,h2⟩:=g.bl (x := "sorted") (v:=.builtin "sorted") (bA 13 rfl);obtain⟨h3,h4⟩:=g.bl (x := "set") (v:=.type "set") (bA 14 rfl);exact (Dz g.calm (ih.e g b) (g.gl _ hg) h1 h2 (g.gl _ hg') h3 h4 rfl (di s1)).mono λσ H Q h=>gP (Ea g.K) h
   .obtain⟨h1,h2⟩:=g.bl (x := "list") (v:=.type "list") (bA 6 rfl);obtain⟨h3,h4⟩:=g.bl (x := "range") (v:=.type "range") (bA 8 rfl);exact (Dd g.calm (ih.e g b) (g.gl _ hg) h1 h2 (g.gl _ hg') h3 h4 rfl (di s1)).mono λσ H Q h=>gP CO h
  | none=>
  dsimp only;cases q:lL.lookup f with
  | none=>exact bF
  | some o=>
   rcases DA ih g a with ⟨_,hb⟩ | ⟨pa,hs⟩
   .simp only[hb]; exact v8
   have hmem:=ug q;simp only[lL,Fu,Ft,or_false,F6] at hmem;rcases hmem with ⟨rfl,rfl⟩ | ⟨rfl,rfl⟩ | ⟨rfl,rfl⟩ | ⟨rfl,rfl⟩ | ⟨rfl,rfl⟩ | ⟨rfl,rfl⟩ | ⟨rfl,rfl⟩ | ⟨rfl,rfl⟩
   .obtain⟨h1,h2⟩:=g.bl (x := "len") (v:=.builtin "len") (bA 0 rfl);exact (jQ (AU g.K) (g.gl _ hg) h1 h2 pa (by decide) (by decide) hs rfl).mono λσ H Q=>iW
   .obtain⟨h1,h2⟩:=g.bl (x := "list") (v:=.type "list") (bA 6 rfl);exact (o8 (BA g.K) (g.gl _ hg) h1 h2 pa (by decide) (by decide) hs rfl).mono λσ H Q=>iW
   .obtain⟨h1,h2⟩:=g.bl (x := "tuple") (v:=.type "tuple") (bA 7 rfl);exact (o8 (BB g.K) (g.gl _ hg) h1 h2 pa (by decide) (by decide) hs rfl).mono λσ H Q=>iW
   .obtain⟨h1,h2⟩:=g.bl (x := "all") (v:=.builtin "all") (bA 1 rfl);exact (jQ (xJ g.calm) (g.gl _ hg) h1 h2 pa (by decide) (by decide) hs rfl).mono λσ H Q=>iW
   .obtain⟨h1,h2⟩:=g.bl (x := "any") (v:=.builtin "any") (bA 2 rfl);exact (jQ (AV g.calm) (g.gl _ hg) h1 h2 pa (by decide) (by decide) hs rfl).mono λσ H Q=>iW
   .obtain⟨h1,h2⟩:=g.bl (x := "int") (v:=.type "int") (bA 12 rfl);exact (o8 y4 (g.gl _ hg) h1 h2 pa (by decide) (by decide) hs rfl).mono λσ H Q=>iW
   .obtain⟨h1,h2⟩:=g.bl (x := "sum") (v:=.builtin "sum") (bA 5 rfl);exact (jQ (BD g.calm) (g.gl _ hg) h1 h2 pa (by decide) (by decide) hs rfl).mono λσ H Q=>iW
   .obtain⟨h1,h2⟩:=g.bl (x := "sorted") (v:=.builtin "sorted") (bA 13 rfl);exact (jQ (CJ g.K) (g.gl _ hg) h1 h2 pa (by decide) (by decide) hs rfl).mono λσ H Q=>iW
 | [a,b]=>
  simp only[Ip.vV];by_cases hf:(f == ("isinstance" : Str))=true
  rotate_left
  .rw[if_neg hf];by_cases hf2:(f == ("min" : Str)&&aJ [a,b])=true
   rotate_left
   .rw[if_neg hf2]; exact bF
   rw[if_pos hf2];rw[tw] at hf2;have hf':f = "min":=by simpa using hf2.1
   subst hf';obtain⟨s1,s2⟩:=d5 hf2.2;obtain⟨s3,_⟩:=d5 s2;obtain⟨h1,h2⟩:=g.bl (x := "min") (v:=.builtin "min") (bA 4 rfl);exact (jQ (CC g.calm) (g.gl _ hg) h1 h2 (ih.args g [a,b]) (by decide) (by decide) (di s1) (by rw[di s3]; rfl)).mono λσ H Q=>CD
  rw[if_pos hf];have hf':f = "isinstance":=by simpa using hf
  subst hf';cases q:dM T sc b with
  | none=>exact bF
  | some ts=>
   rcases nF a [b] X.env with ⟨x,p',rfl⟩ | hs1
   .simp only[ph]; exact v8
   obtain⟨h1,h2⟩:=g.bl (x := "isinstance") (v:=.builtin "isinstance") (bA 3 rfl);cases b with
   | Name x bp=>
    simp only[dM] at q;obtain⟨t,q',rfl⟩:=cg q;obtain⟨c,cv,he,hc,hi⟩:=Ba g q';exact DL g.K g.gf.cf hc hi (g.gl _ hg) h1 h2 (ih.e g a) he hs1 rfl
   | _=>simp[dM,gv] at q
def xh (ih:IH W G T n m)(g:Gd W G T n E sc N X)(tg x:Expr)(ht:(cI T sc N (m+1) x).1=.enum\/(cI T sc N (m+1) x).1=.zip->∃es k p,tg=.Tuple es k p):PI X tg x (fw W G (Ip.run G n) (cI T sc N (m+1) x).1 (cI T sc N (m+1) x).2 E):=by
 have gen:∀y,PI X tg y (fw W G (Ip.run G n) .seq [cE T sc N m y] E):=λy=>DH g.K (ih.e g y);cases x with
 | Call f args kws q=>
  cases f with
  | Name f p=>
   cases kws with
   | cons _ _=>exact gen _
   | nil=>
    simp only[Ip.Bc] at ht ⊢;by_cases h1:(bg sc f&&f == ("range" : Str)&&aJ args)=true
    .rw[if_pos h1];simp only[tw,Fm] at h1;obtain⟨⟨hg,rfl⟩,ns⟩:=h1;have hm:=(g.bl (x := "range") (v:=.type "range") (bA 8 rfl)).1;match args,ns with
     | [a],ns=>
      obtain⟨s1,_⟩:=d5 ns;exact DD (g.gl _ hg) hm (ih.args g [a]) (di s1)
     | [a,b],ns=>
      obtain⟨s1,s2⟩:=d5 ns;obtain⟨s3,_⟩:=d5 s2;exact Bt (g.gl _ hg) hm (ih.args g [a,b]) (by rw[di s1,di s3]; rfl) (di s3)
     | [],_=>exact gF
     | _::_::_::_,_=>exact gF
    rw[if_neg h1] at ht ⊢;by_cases h2:(bg sc f&&f == ("enumerate" : Str)&&aJ args)=true
    .rw[if_pos h2] at ht ⊢;simp only[tw,Fm] at h2;obtain⟨⟨hg,rfl⟩,ns⟩:=h2;obtain⟨hm,hv⟩:=g.bl (x := "enumerate") (v:=.type "enumerate") (bA 9 rfl);match args,ns,ht with
     | [a],ns,ht=>
      obtain⟨s1,_⟩:=d5 ns;obtain⟨es,k,p',rfl⟩:=ht (.inl rfl);exact za g.K (g.gl _ hg) hm hv (ih.args g [a]) (di s1)
     | [],_,_=>exact gF
     | _::_::_,_,_=>exact gF
    rw[if_neg h2] at ht ⊢;by_cases h3:(bg sc f&&f == ("zip" : Str)&&aJ args)=true
    .rw[if_pos h3] at ht ⊢;simp only[tw,Fm] at h3;obtain⟨⟨hg,rfl⟩,ns⟩:=h3;obtain⟨hm,hv⟩:=g.bl (x := "zip") (v:=.type "zip") (bA 10 rfl);match args,ns,ht with
     | [a,b],ns,ht=>
      obtain⟨s1,s2⟩:=d5 ns;obtain⟨s3,_⟩:=d5 s2;obtain⟨es,k,p',rfl⟩:=ht (.inr rfl);exact wT g.K (g.gl _ hg) hm hv (ih.args g [a,b]) (by rw[di s1,di s3]; rfl) (di s3)
     | [],_,_=>exact gF
     | [_],_,_=>exact gF
     | _::_::_::_,_,_=>exact gF
    rw[if_neg h3] at ht ⊢;by_cases h4:(bg sc f&&f == ("reversed" : Str)&&aJ args)=true
    .rw[if_pos h4];simp only[tw,Fm] at h4;obtain⟨⟨hg,rfl⟩,ns⟩:=h4;obtain⟨hm,hv⟩:=g.bl (x := "reversed") (v:=.type "reversed") (bA 11 rfl);match args,ns with
     | [a],ns=>
      obtain⟨s1,_⟩:=d5 ns;exact Ey (g.gl _ hg) hm hv (ih.args g [a]) (di s1)
     | [],_=>exact gF
     | _::_::_,_=>exact gF
    rw[if_neg h4];exact gen _
  | _=>exact gen _
 | _=>exact gen _
def E3 (ih:IH W G T n m)(g:Gd W G T n E sc N X)(f:Expr)(args:aq)(kws:List Keyword)(p:Pos):PE X (.Call f args kws p) (aY W G (Ip.run G n) (cE T sc N (m+1) (.Call f args kws p)) E):=by
 cases kws with
 | cons _ _=>exact bF
 | nil=>
  cases f with
  | Name f q=>
   simp only[Ip.tD];by_cases hg:bg sc f=true
   rotate_left
   .rw[if_neg hg]; exact bF
   rw[if_pos hg];cases h1:T.fns.lookup f with
   | some k=>
    by_cases ns:aJ args=true
    .simp only[ns,if_true]; exact wE ih g f args q p k hg h1 ns
    .simp only[ns]; exact bF
   | none=>
    cases h2:T.cls.lookup f with
    | some c=>
     by_cases ns:aJ args=true
     .simp only[ns,if_true]; exact Bb ih g f args q p c hg h2 ns
     .simp only[ns]; exact bF
    | none=>exact ih.b g f args q p hg
  | Attribute o f ap=>
   simp only[Ip.tD];cases h1:pos? f T.att with
   | none=>
    by_cases h:(dL f args&&eS o&&aJ args&&ap.endLine == p.line)=true
    .simp only[h,if_true];simp only[tw,Fm] at h;obtain⟨⟨⟨a0,a1⟩,a2⟩,a4⟩:=h;exact ES ih g o f args ap p a0 a1 a2 a4
    .simp only[h]; exact bF
   | some k=>
    by_cases h:(eS o&&aJ args&&decide (args.length<30)&&ap.endLine == p.line)=true
    .simp only[h,if_true];simp only[tw,Fx,Fm] at h;obtain⟨⟨⟨a1,a2⟩,a3⟩,a4⟩:=h;exact yN ih g o f args ap p k h1 a1 a2 a3 a4
    .simp only[h]; exact bF
  | _=>exact bF
def AK (ih:IH W G T n m)(g:Gd W G T n E sc N X)(e:Expr):PE X e (aY W G (Ip.run G n) (cE T sc N (m+1) e) E):=by
 cases e with
 | Name x p=>exact wY g x p
 | Constant c k p=>exact wv c k p
 | BinOp a o b p=>exact CQ ih g a b o p
 | UnaryOp o a p=>exact oY ih g a o p
 | BoolOp o es p=>exact zZ ih g o es p
 | Compare a os bs p=>exact (sh ih g a os bs p).1
 | IfExp c a b p=>exact qH ih g c a b p
 | List es p=>exact xn ih g es p
 | Tuple es k p=>exact yq ih g es k p
 | Subscript a i p=>exact Ct ih g a i p
 | Attribute o f p=>exact yi ih g o f p
 | ListComp e gs scope p=>exact ww ih g e gs scope p
 | Call f args kws p=>exact E3 ih g f args kws p
 | _=>exact bF
theorem eQ:∀m,IH W G T n m
 | 0=>by
  refine⟨λg x=>?_,λg x=>?_,λg a os bs p=>?_,λg tg x _=>?_,λg f args p pos hg=>?_⟩
  .exact bF
  .exact eV
  .exact eV
  .exact gF
  .exact bF
 | m+1=>by
  have ih:=eQ m;exact⟨λg x=>AK ih g x,λg x=>x9 ih g x,λg a os bs p=>(sh ih g a os bs p).2,λg tg x ht=>xh ih g tg x ht,λg f args p pos hg=>yx ih g f args p pos hg⟩
end
section
variable {G:Pg}{cl:Nat->au->Ip.Run}
mutual
theorem eR:∀e:Ex,(∀i∈e.names,a[i]? = b[i]?)->Ip.eval G cl a e=Ip.eval G cl b e:=by
 intro hZ;cases hZ with
 | var i=>intro h; rw[Ip.ku,Ip.ku,h i (by simp)]
 | cst d=>intro _; rw[Ip.nM,Ip.nM]
 | op o es=>intro h; rw[df,df,zAC es (by simpa using h)]
 | and x y=>
  intro h;simp only[Ex.names,FT] at h;rw[lI,lI,eR x λi hi=>h i (.inl hi),eR y λi hi=>h i (.inr hi)]
 | or x y=>
  intro h;simp only[Ex.names,FT] at h;rw[k8,k8,eR x λi hi=>h i (.inl hi),eR y λi hi=>h i (.inr hi)]
 | ite c x y=>
  intro h;simp only[Ex.names,FT] at h;rw[Ip.rd,Ip.rd,eR c λi hi=>h i (.inl hi),eR x λi hi=>h i (.inr (.inl hi)),eR y λi hi=>h i (.inr (.inr hi))]
 | chain o p x y z=>
  intro h;simp only[Ex.names,FT] at h;rw[Ip.ou,Ip.ou,eR x λi hi=>h i (.inl hi),eR y λi hi=>h i (.inr (.inl hi)),eR z λi hi=>h i (.inr (.inr hi))]
 | sl2 x y z=>
  intro h;simp only[Ex.names,FT] at h;rw[Ip.rN,Ip.rN,eR x λi hi=>h i (.inl hi),eR y λi hi=>h i (.inr (.inl hi)),eR z λi hi=>h i (.inr (.inr hi))]
 | comp caps tg wk it t e=>
  intro h;simp only[Ex.names,FT] at h;have hc:caps.map (cD a)=caps.map (cD b):=Hu λo ho=>by
   cases o with
   | none=>rfl
   | some i=>
    show (a[i]?).join=(b[i]?).join;rw[h i (.inl (GX.mpr ⟨some i,ho,rfl⟩))]
  rw[ka,ka,zAC it λi hi=>h i (.inr hi),hc]
 | call f es=>intro h; rw[kK,kK,zAC es (by simpa using h)]
 | make f es=>intro h; rw[lB,lB,zAC es (by simpa using h)]
 | meth m o es=>
  intro h;simp only[Ex.names,FT] at h;rw[kv,kv,eR o λi hi=>h i (.inl hi),zAC es λi hi=>h i (.inr hi)]
 | bad=>intro _; rw[f7,f7]
theorem zAC:∀es:aC,(∀i∈Ex.namess es,a[i]? = b[i]?)->evals G cl a es=evals G cl b es
 | [],_=>by rw[cj,cj]
 | e::es,h=>by
  simp only[Ex.namess,FT] at h;rw[bP,bP,eR e λi hi=>h i (.inl hi),zAC es λi hi=>h i (.inr hi)]
end
end
noncomputable def mask (ns:ai)(a:Sl):Sl:=a.mapIdx λi o=>if i∈ns then o else none
def nU (h:i∈ns):a[i]? = (mask ns a)[i]?:=by
 unfold mask;rw[FW];cases a[i]? with
 | none=>rfl
 | some o=>simp[h]
def mU (h:(mask ns a)[i]? = some (some d)):i∈ns/\a[i]? = some (some d):=by
 unfold mask at h;rw[FW] at h;cases q:a[i]? with
 | none=>rw[q] at h; cases h
 | some o=>
  rw[q] at h;by_cases hi:i∈ns
  .simp[hi] at h; exact⟨hi,by rw[h]⟩
  .simp[hi] at h
def l5 {A:Fr}{i:Nat}{d:D}(h:A.sl[i]? = some (some d)):∃k,A[i]? = some (some (k,d)):=by
 unfold Fr.sl at h;rw[Fs] at h;obtain⟨o,h1,h2⟩:=cg h;obtain⟨x,h3,h4⟩:=cg h2;obtain⟨k,d'⟩:=x;cases h4;exact⟨k,by rw[h1,h3]⟩
def dU (W:Wd)(S S':Hp):Prop:=∀a vs,SqT W.K S a vs->SqT W.K S' a vs
mutual
theorem Den.hide (h:dU W S S'):∀{v d},d.flat=true->Den W S v d->Den W S' v d:=by
 intro _ _ hf hZ;cases hZ with
 | non=>exact .non
 | bl=>exact .bl
 | int=>exact .int
 | str=>exact .str
 | tup e q=>exact .tup (h _ _ e) (q.hide h (by rw[D.flat] at hf; exact hf))
 | lst _ _=>simp at hf
 | ins _ _ _=>simp at hf
theorem Dens.hide (h:dU W S S'):∀{v d},D.flats d=true->Dens W S v d->Dens W S' v d:=by
 intro _ _ hf hZ;cases hZ with
 | nil=>exact .nil
 | cons e q=>
  rw[D.flats,tw] at hf;exact .cons (e.hide h hf.1) (q.hide h hf.2)
end
theorem Own.hide (h:dU W S S'):∀{k v d fp},D.fb k d=true->Own W S H k v d fp->Own W S' H k v d fp
 | 0,_,_,_,hf,⟨e,o⟩=>⟨e,o.hide h (by rw[D.fb] at hf; exact hf)⟩
 | k+1,_,.lst ds,_,hf,⟨a,vs,fq,e1,e2,e3,e4⟩=>⟨a,vs,fq,e1,e2,e3.re (b:=D.fb k) (λ_ _ _ hb o=>Own.hide h hb o) hf,e4⟩
 | k+1,_,.tup ds,_,hf,⟨a,vs,e1,e2,e3⟩=>⟨a,vs,e1,h _ _ e2,e3.re (b:=D.fb k) (λ_ _ _ hb o=>Own.hide h hb o) hf⟩
 | k+1,_,.ins c ds,_,hf,⟨a,C,dx,fs,fq,e1,e2,e5,e3,e4⟩=>⟨a,C,dx,fs,fq,e1,e2,e5,e3.re (b:=D.fb k) (λ_ _ _ hb o=>Own.hide h hb o) hf,e4⟩
 | _+1,_,.non,_,_,⟨e,o⟩=>⟨e,o.hide h rfl⟩
 | _+1,_,.bl _,_,_,⟨e,o⟩=>⟨e,o.hide h rfl⟩
 | _+1,_,.int _,_,_,⟨e,o⟩=>⟨e,o.hide h rfl⟩
 | _+1,_,.str _,_,_,⟨e,o⟩=>⟨e,o.hide h rfl⟩
theorem Own.noTup:∀{k v d fp},Own W S H k v d fp->∀a∈fp,∀vs,¬Rd H a (.tup vs)
 | 0,_,_,_,h,a,z=>by rw[h.1] at z; simp at z
 | k+1,_,.lst ds,_,⟨a,vs,fq,e1,e2,e3,e4⟩,b,z=>by
  rw[e4] at z;rcases cZ z with q | q
  .intro ws r;rw[q] at r;rcases r with r | ⟨o,r⟩ <;> rw[e2] at r <;> cases r
  .exact e3.mem (λ_ _ _ y=>Own.noTup y) b q
 | k+1,_,.tup ds,_,⟨a,vs,e1,e2,e3⟩,b,z=>e3.mem (λ_ _ _ y=>Own.noTup y) b z
 | k+1,_,.ins c ds,_,⟨a,C,dx,fs,fq,e1,e2,e5,e3,e4⟩,b,z=>by
  rw[e4] at z;rcases cZ z with q | q
  .intro ws r;rw[q] at r;rcases r with r | ⟨o,r⟩ <;> rw[e2] at r <;> cases r
  .exact e3.mem (λ_ _ _ y=>Own.noTup y) b q
 | _+1,_,.non,_,h,a,z=>by rw[h.1] at z; simp at z
 | _+1,_,.bl _,_,h,a,z=>by rw[h.1] at z; simp at z
 | _+1,_,.int _,_,h,a,z=>by rw[h.1] at z; simp at z
 | _+1,_,.str _,_,h,a,z=>by rw[h.1] at z; simp at z
def aP (N:Addr->Prop)(F:Nat->ak):Addr->Prop:=λb=>N b\/∃j,b∈F j
structure FrF (W:Wd)(E0:Hp)(N:Addr->Prop)(pin:List (Nat×V))(A:Fr)(σ:St)(H:Hp)(F:Nat->ak):Prop where
 sub:Sub E0 H
 nok:NOk N H
 len:σ.length=A.length
 pn:∀p∈pin,σ[p.1]? = some (some p.2)
 nd:∀i,(F i).Nodup
 dj:∀i j b,b∈F i->b∈F j->i=j
 fr:∀i b,b∈F i->E0 b=none/\¬N b
 rel:∀(i:Nat) (x:KD),A[i]? = some (some x)->∃v,σ[i]? = some (some v)/\Own W (hid (aP N F) H) H x.1 v x.2 (F i)
 em:∀(i:Nat),(∀x,A[i]?≠some (some x))->F i=[]
theorem FrF.dom {W:Wd}{E0:Hp}{N:Addr->Prop}{pin:List (Nat×V)}{A:Fr}{σ:St}{H:Hp}{F:Nat->ak}(f:FrF W E0 N pin A σ H F){i:Nat}{b:Addr}(h:b∈F i):H b≠none:=by
 by_cases q:∃x,A[i]? = some (some x)
 .obtain⟨x,e⟩:=q;obtain⟨v,_,o⟩:=f.rel i x e;exact o.dom b h
 .rw[f.em i λx z=>q ⟨x,z⟩] at h; simp at h
theorem FrF.noTup {W:Wd}{E0:Hp}{N:Addr->Prop}{pin:List (Nat×V)}{A:Fr}{σ:St}{H:Hp}{F:Nat->ak}(f:FrF W E0 N pin A σ H F){i:Nat}{b:Addr}(h:b∈F i)(vs:ar):¬Rd H b (.tup vs):=by
 by_cases q:∃x,A[i]? = some (some x)
 .obtain⟨x,e⟩:=q;obtain⟨v,_,o⟩:=f.rel i x e;exact o.noTup b h vs
 .rw[f.em i λx z=>q ⟨x,z⟩] at h; simp at h
def FrF.grow {W:Wd}{E0:Hp}{N:Addr->Prop}{pin:List (Nat×V)}{A:Fr}{σ:St}{H H':Hp}{F:Nat->ak}(f:FrF W E0 N pin A σ H F)(hs:Sub H H'){fp:ak}(hf:∀b∈fp,H b=none/\H' b≠none):FrF W E0 (λb=>N b\/b∈fp) pin A σ H' F where
 sub:=f.sub.trans hs
 nok:=λb z=>z.elim (f.nok.mono hs b) λy=>(hf b y).2
 len:=f.len
 pn:=f.pn
 nd:=f.nd
 dj:=f.dj
 fr:=λi b h=>⟨(f.fr i b h).1,λz=>z.elim (f.fr i b h).2 λy=>f.dom h (hf b y).1⟩
 rel:=λi x e=>by
  obtain⟨v,h1,h2⟩:=f.rel i x e;refine⟨v,h1,h2.mono (ga hs λb z=>?_) λb _ o e=>hs b o e⟩;rcases z with (z | z) | z
  .exact .inl (.inl z)
  .exact .inr (hf b z).1
  .exact .inl (.inr z)
 em:=f.em
def xr:(frz1 A j)[i]? = if i=j then (A[i]?).map (Option.map λx=>(0,x.2)) else A[i]?:=by
 unfold frz1;cases q:A[j]? with
 | none=>
  by_cases z:i=j
  .subst z; simp[q]
  .simp[z]
 | some o=>
  cases o with
  | none=>
   by_cases z:i=j
   .subst z; simp[q]
   .simp[z]
  | some x=>
   obtain⟨k,d⟩:=x;have hl:j<A.length:=(de q).1;by_cases z:i=j
   .subst z;simp[q,Fo hl]
   .simp only[if_neg z];exact Fl λy=>z y.symm
theorem rH:∀{ns:ai} {A:Fr},(frz ns A)[i]? = if i∈ns then (A[i]?).map (Option.map λx=>(0,x.2)) else A[i]?
 | [],A=>by simp[frz]
 | n::ns,A=>by
  show (frz ns (frz1 A n))[i]? = _;rw[rH,xr];by_cases h1:i=n
  .subst h1;by_cases h2:i∈ns
   .simp[h2,Function.comp_def]
   .simp[h2]
  .by_cases h2:i∈ns
   .simp[h1,h2]
   .simp[h1,h2]
theorem uJ:∀{ns:ai} {A:Fr},(frz ns A).length=A.length
 | [],A=>rfl
 | n::ns,A=>by
  show (frz ns (frz1 A n)).length=_;rw[uJ];unfold frz1;split
  .exact FD
  .rfl
section
variable {W:Wd}{E0:Hp}{N:Addr->Prop}{pin:List (Nat×V)}{A:Fr}{σ:St}{H:Hp}{F:Nat->ak}
noncomputable def bG (ns:ai)(F:Nat->ak):Nat->ak:=λj=>if j∈ns then [] else F j
def gh (h:b∈bG ns F j):j∉ns/\b∈F j:=by
 unfold bG at h;by_cases z:j∈ns
 .rw[if_pos z] at h; simp at h
 .rw[if_neg z] at h; exact⟨z,h⟩
def mw (h:aP N (bG ns F) b):aP N F b:=h.imp id λ⟨j,q⟩=>⟨j,(gh q).2⟩
def FrF.see (f:FrF W E0 N pin A σ H F)(hi:i∈ns)(h:A[i]? = some (some x)):∃v,σ[i]? = some (some v)/\Den W (hid (aP N (bG ns F)) H) v x.2:=by
 obtain⟨v,h1,o⟩:=f.rel i x h;refine⟨v,h1,o.den (λb u e=>?_) λb hb u e=>aS.mpr ⟨λz=>?_,e⟩⟩
 .obtain⟨g1,g2⟩:=aS.mp e;exact aS.mpr ⟨λz=>g1 (mw z),g2⟩
 .rcases z with z | ⟨j,z⟩
  .exact (f.fr i b hb).2 z
  .obtain⟨z1,z2⟩:=gh z;exact z1 (f.dj i j b hb z2 ▸ hi)
theorem FrF.frz (f:FrF W E0 N pin A σ H F)(ns:ai):FrF W E0 N pin (frz ns A) σ H (bG ns F) where
 sub:=f.sub
 nok:=f.nok
 len:=by rw[uJ]; exact f.len
 pn:=f.pn
 nd:=λi=>by
  unfold bG;split
  .exact .nil
  .exact f.nd i
 dj:=λi j b h1 h2=>f.dj i j b (gh h1).2 (gh h2).2
 fr:=λi b h=>f.fr i b (gh h).2
 rel:=λi x e=>by
  rw[rH] at e;by_cases hi:i∈ns
  .rw[if_pos hi] at e;obtain⟨o,e1,e2⟩:=cg e;obtain⟨y,e3,e4⟩:=cg e2;rw[e3] at e1;subst e4;obtain⟨v,h1,h2⟩:=f.see hi e1;exact⟨v,h1,by unfold bG; rw[if_pos hi]; exact⟨rfl,h2⟩⟩
  .rw[if_neg hi] at e;obtain⟨v,h1,o⟩:=f.rel i x e;refine⟨v,h1,?_⟩;have:bG ns F i=F i:=by unfold bG; rw[if_neg hi]
   rw[this];exact o.mono (λb u e=>aS.mpr ⟨λz=>(aS.mp e).1 (mw z),(aS.mp e).2⟩) λ_ _ _ e=>e
 em:=λi h=>by
  unfold bG;by_cases hi:i∈ns
  .rw[if_pos hi]
  .rw[if_neg hi];exact f.em i λx z=>h x (by rw[rH,if_neg hi]; exact z)
def FrV (W:Wd)(E0:Hp)(N:Addr->Prop)(pin:List (Nat×V))(A:Fr)(σ:St)(H:Hp)(x:KD)(v:V):Prop:=
 ∃(fp:ak) (F:Nat->ak),FrF W E0 (λb=>N b\/b∈fp) pin A σ H F/\fp.Nodup/\(∀b∈fp,E0 b=none/\¬N b)/\Own W (hid (aP (λb=>N b\/b∈fp) F) H) H x.1 v x.2 fp
def wL (f:FrF W E0 N pin A σ H F){H':Hp}(hs:Sub H H'){M:Addr->Prop}(hM:∀b,aP N F b->M b\/∃j,b∈F j){fp:ak}:dU W (hid (λb=>M b\/b∈fp) H') (hid (aP (λb=>N b\/b∈fp) F) H'):=by
 intro a vs h;rcases h with h | h
 .refine .inl ?_;have noF:∀j,a∉F j:=λj z=>by
   have h':Rd H' a (.tup vs):=Rd.sub bq h;cases q:H a with
   | none=>exact f.dom z q
   | some o=>
    have e:=hs a o q;refine f.noTup z vs ?_;rcases h' with h' | ⟨u,h'⟩
    .rw[e] at h'; cases h'; exact .inl q
    .rw[e] at h'; cases h'; exact .inr ⟨u,q⟩
  have vis:∀o,hid (λb=>M b\/b∈fp) H' a=some o->hid (aP (λb=>N b\/b∈fp) F) H' a=some o:=λo e=>by
   obtain⟨g1,g2⟩:=aS.mp e;refine aS.mpr ⟨λz=>?_,g2⟩;rcases z with (z | z) | ⟨j,z⟩
   .rcases hM a (.inl z) with y | ⟨j,y⟩
    .exact g1 (.inl y)
    .exact noF j y
   .exact g1 (.inr z)
   .exact noF j z
  rcases h with h | ⟨u,h⟩
  .exact .inl (vis _ h)
  .exact .inr ⟨u,vis _ h⟩
 .exact .inr h
theorem km {G:Pg}{cl:Nat->au->Ip.Run}{E:St->XK}{Q:VK}{e:Ex}(f:FrF W E0 N pin A σ H F)(h:match Ip.eval G cl A.sl e with
  | .ok x=>∀v H',FrV W E0 N pin (Ip.settle e.names A x) σ H' x v->Q v H'
  | .bad=>False):aY W G cl e E σ H Q:=by
 have f1:=f.frz e.names;have hN:NOk (aP N (bG e.names F)) H:=λb z=>z.elim (f.nok b) λ⟨j,q⟩=>f1.dom q;refine⟨aP N (bG e.names F),mask e.names A.sl,hN,λi d hi=>?_,?_⟩
 .obtain⟨h1,h2⟩:=mU hi;obtain⟨k,h3⟩:=l5 h2;exact f.see h1 h3
 rw[<-eR (a:=A.sl) e λi hi=>nU hi];cases q:Ip.eval G cl A.sl e with
 | bad=>rw[q] at h; exact h
 | ok x=>
  rw[q] at h;rintro v H' ⟨hs,fp,nd,hf,o⟩;refine h v H' ⟨fp,?_⟩;have hfp:∀b∈fp,H b=none/\H' b≠none:=λb hb=>⟨hf b hb,o.dom b hb⟩
  have fr:∀b∈fp,E0 b=none/\¬N b:=λb hb=>⟨f.sub.none (hf b hb),λz=>f.nok b z (hf b hb)⟩
  unfold Ip.settle;by_cases hb:D.fb x.1 x.2=true
  .rw[if_pos hb];exact⟨F,f.grow hs hfp,nd,fr,o.hide (wL f hs λb z=>z.elim (λy=>.inl (.inl y)) .inr) hb⟩
  .rw[if_neg hb];refine⟨bG e.names F,f1.grow hs hfp,nd,fr,o.mono (λb u e=>?_) λ_ _ _ e=>e⟩;obtain⟨g1,g2⟩:=aS.mp e;refine aS.mpr ⟨λz=>g1 ?_,g2⟩;rcases z with (z | z) | z
   .exact .inl (.inl z)
   .exact .inr z
   .exact .inl (.inr z)
end
end L2
end
section
namespace L2
open PySem PySem.Spec PyProof.Rows
open Ip (D KD Ex Op Pg Fn Sl Fr Wk Tg Tb O Pth SL dh bN cE cF cI cS cT eh bo f7 evals bP fin fS fh kF frz intF bg bw cw bf nO aU bD eI d7 natO natsO aJ ba aM pos? pos?_get fY ps? dk cV setFs cz jr cn ml mV dS da dJ)
def PostS (W:Wd)(E0:Hp)(N:Addr->Prop)(pin:List (Nat×V))(E:St->XK)(Dn:Ends):O->Prop
 | .nx A=>∀σ H F,FrF W E0 N pin A σ H F->Dn.nx σ H
 | .ret k d A=>∀v σ H,FrV W E0 N pin A σ H (k,d) v->Dn.rt v H
 | .bad=>False
def bK (W:Wd)(G:Pg)(n:Nat)(io:ai)(E:St->XK)(s:Ip.S):TS:=λDn σ H=>∃(E0:Hp) (N:Addr->Prop) (pin:List (Nat×V)) (A:Fr) (F:Nat->ak),(∀p∈pin,p.1∈io)/\FrF W E0 N pin A σ H F/\PostS W E0 N pin E Dn (Ip.exec G (Ip.run G n) io A s)
def dW (W:Wd)(G:Pg)(n:Nat)(io:ai)(E:St->XK)(ss:List Ip.S):TS:=λDn σ H=>∃(E0:Hp) (N:Addr->Prop) (pin:List (Nat×V)) (A:Fr) (F:Nat->ak),(∀p∈pin,p.1∈io)/\FrF W E0 N pin A σ H F/\PostS W E0 N pin E Dn (Ip.execs G (Ip.run G n) io A ss)
section
variable {X:Cx}{W:Wd}{G:Pg}{n:Nat}{io:ai}{E:St->XK}{E0:Hp}{N:Addr->Prop}{pin:List (Nat×V)}{A:Fr}{σ:St}{H:Hp}{F:Nat->ak}
def db {st:Stmt}:PS X st (bK W G n io E .bad):=λpins s σ H Dn I ⟨_,_,_,_,_,_,_,h⟩=>by
 rw[Ip.yK] at h; exact h.elim
def ye:PSs X [] (dW W G n io E []):=Aq.mono λDn σ H ⟨_,_,_,_,_,_,f,h⟩=>by
 rw[Ip.uE] at h;exact h _ _ _ f
def EU {st:Stmt}{sts:aE}{s:Ip.S}{ss:List Ip.S}(h1:PS X st (bK W G n io E s))(h2:PSs X sts (dW W G n io E ss)):PSs X (st::sts) (dW W G n io E (s::ss)):=
 (E8 h1 h2).mono λDn σ H ⟨E0,N,pin,A,F,hp,f,h⟩=>by
  refine⟨E0,N,pin,A,F,hp,f,?_⟩;rw[Ip.k6] at h;cases q:Ip.exec G (Ip.run G n) io A s with
  | nx A'=>
   rw[q] at h;exact λσ' H' F' f'=>⟨E0,N,pin,A',F',hp,f',h⟩
  | ret k d A'=>rw[q] at h; exact h
  | bad=>rw[q] at h; exact h
theorem FrV.set (f:FrV W E0 N pin A σ H x v)(hi:∀p∈pin,p.1≠i)(hl:i<A.length):∃F,FrF W E0 N pin (A.set i (some x)) (σ.set i (some v)) H F:=by
 obtain⟨fp,F,f,nd,fr,o⟩:=f;have hlt:i < σ.length:=by rw[f.len]; exact hl
 refine⟨λj=>if j=i then fp else F j,⟨f.sub,λb z=>f.nok b (.inl z),by rw[FD,FD]; exact f.len,λp hp=>by rw[Fl λz=>hi p hp z.symm]; exact f.pn p hp,λj=>?_,λj k b h1 h2=>?_,λj b h=>?_,λj y h=>?_,λj h=>?_⟩⟩
 .by_cases z:j=i
  .rw[if_pos z]; exact nd
  .rw[if_neg z]; exact f.nd j
 .by_cases z:j=i
  .rw[if_pos z] at h1;by_cases y:k=i
   .rw[z,y]
   .rw[if_neg y] at h2;exact absurd (.inr h1) (f.fr k b h2).2
  .rw[if_neg z] at h1;by_cases y:k=i
   .rw[if_pos y] at h2;exact absurd (.inr h2) (f.fr j b h1).2
   .rw[if_neg y] at h2;exact f.dj j k b h1 h2
 .by_cases z:j=i
  .rw[if_pos z] at h; exact fr b h
  .rw[if_neg z] at h;exact⟨(f.fr j b h).1,λy=>(f.fr j b h).2 (.inl y)⟩
 .have sub:Sub (hid (aP (λb=>N b\/b∈fp) F) H) (hid (aP N λj=>if j=i then fp else F j) H):=λb u e=>by
   obtain⟨g1,g2⟩:=aS.mp e;refine aS.mpr ⟨λz=>g1 ?_,g2⟩;rcases z with z | ⟨k,z⟩
   .exact .inl (.inl z)
   .by_cases y:k=i
    .simp only[if_pos y] at z; exact .inl (.inr z)
    .simp only[if_neg y] at z; exact .inr ⟨k,z⟩
  by_cases z:j=i
  .subst z;rw[Fo hl] at h;cases h;refine⟨v,Fo hlt,?_⟩;simp only[if_true];exact o.mono sub λ_ _ _ e=>e
  .rw[Fl λy=>z y.symm] at h;obtain⟨w,h1,h2⟩:=f.rel j y h;refine⟨w,by rw[Fl λy=>z y.symm]; exact h1,?_⟩;simp only[if_neg z];exact h2.mono sub λ_ _ _ e=>e
 .by_cases z:j=i
  .subst z;exact absurd (Fo hl) (h x)
  .simp only[if_neg z];exact f.em j λy w=>h y (by rw[Fl λy=>z y.symm]; exact w)
def FrF.weaken (f:FrF W E1 N pin A σ H F)(h:Sub E0 E1):FrF W E0 N pin A σ H F:=
 ⟨h.trans f.sub,f.nok,f.len,f.pn,f.nd,f.dj,λi b hb=>⟨h.none (f.fr i b hb).1,(f.fr i b hb).2⟩,f.rel,f.em⟩
def PostS.strong (h:Sub E0 E1)(p:PostS W E0 N pin E Dn o):PostS W E1 N pin E Dn o:=by
 cases o with
 | nx A=>exact λσ H F f=>p σ H F (f.weaken h)
 | ret k d A=>exact λv σ H ⟨fp,F,f,nd,fr,o⟩=>p v σ H ⟨fp,F,f.weaken h,nd,λb hb=>⟨h.none (fr b hb).1,(fr b hb).2⟩,o⟩
 | bad=>exact p
def mO (f:FrF W E0 N pin A σ H F)(h:PostS W E0 N pin E Dn ((Ip.eval G (Ip.run G n) A.sl e).toO A k))
  (ok:∀x,Ip.eval G (Ip.run G n) A.sl e=.ok x->PostS W E0 N pin E Dn (k x)->∀v H',FrV W E0 N pin (Ip.settle e.names A x) σ H' x v->Q v H'):aY W G (Ip.run G n) e E σ H Q:=by
 refine km f ?_;cases q:Ip.eval G (Ip.run G n) A.sl e with
 | bad=>rw[q] at h; exact h
 | ok x=>rw[q] at h; exact ok x q h
def pC (h:bK W G n io E (.set i e) Dn σ H):aY W G (Ip.run G n) e E σ H λv H1=>Dn.nx (σ.set i (some v)) H1:=by
 obtain⟨E0,N,pin,A,F,hp,f,h⟩:=h;rw[Ip.kI] at h;refine mO f h λx ex hk v H' fv=>?_;unfold cV at hk;by_cases c:io.contains i=false/\i<(Ip.settle e.names A x).length
 .rw[if_pos c] at hk;obtain⟨F',f'⟩:=fv.set (λp hp' z=>by have:=hp p hp'; rw[z] at this; have c1:=c.1; simp[this] at c1) c.2;exact hk _ _ _ f'
 .rw[if_neg c] at hk; exact hk.elim
def FrV.drop (h:FrV W E0 N pin A σ H x v):∃F,FrF W E0 N pin A σ H F/\Den W (hid (aP N F) H) v x.2:=by
 obtain⟨fp,F',f',nd,fr,o⟩:=h;refine⟨F',⟨f'.sub,λb z=>f'.nok b (.inl z),f'.len,f'.pn,f'.nd,f'.dj,λi b hb=>⟨(f'.fr i b hb).1,λz=>(f'.fr i b hb).2 (.inl z)⟩,λi y hy=>?_,f'.em⟩,?_⟩
 .obtain⟨w,h1,h2⟩:=f'.rel i y hy;refine⟨w,h1,h2.mono (λb u e=>?_) λ_ _ _ e=>e⟩;obtain⟨g1,g2⟩:=aS.mp e;exact aS.mpr ⟨λz=>g1 (z.imp .inl id),g2⟩
 .refine o.den (λb u e=>?_) λb hb u e=>aS.mpr ⟨λz=>?_,e⟩
  .obtain⟨g1,g2⟩:=aS.mp e;exact aS.mpr ⟨λz=>g1 (z.imp .inl id),g2⟩
  .rcases z with z | ⟨j,z⟩
   .exact (fr b hb).2 z
   .exact (f'.fr j b z).2 (.inr hb)
def pT (h:bK W G n io E (.ex e) Dn σ H):aY W G (Ip.run G n) e E σ H λv H1=>Dn.nx σ H1:=by
 obtain⟨E0,N,pin,A,F,hp,f,h⟩:=h;rw[Ip.pL] at h;refine mO f h λx ex hk v H' fv=>?_;obtain⟨F',f',_⟩:=fv.drop;exact hk σ H' F' f'
def vA (hv:∀i,e≠.var i)(h:bK W G n io E (.ret e) Dn σ H):aY W G (Ip.run G n) e E σ H Dn.rt:=by
 obtain⟨E0,N,pin,A,F,hp,f,h⟩:=h;rw[Ip.mE] at h;have e1:Ip.cr A e (Ip.eval G (Ip.run G n) A.sl e)=(Ip.eval G (Ip.run G n) A.sl e).toO A λx=>.ret x.1 x.2 (Ip.settle e.names A x):=by
  cases e <;> first | rfl | exact absurd rfl (hv _)
 rw[e1] at h;exact mO f h λx ex hk v H' fv=>hk v σ H' fv
def FrF.moved (f:FrF W E0 N pin A σ H F)(q:A[i]? = some (some x)):∃v,σ[i]? = some (some v)/\FrV W E0 N pin (A.set i none) σ H x v:=by
 obtain⟨v,hv,ow⟩:=f.rel i x q;have hl:i<A.length:=(de q).1;have eqH:∀b,aP (λb=>N b\/b∈F i) (bG [i] F) b↔aP N F b:=λb=>by
  constructor
  .intro z;rcases z with (z | z) | ⟨j,z⟩
   .exact .inl z
   .exact .inr ⟨i,z⟩
   .exact .inr ⟨j,(gh z).2⟩
  .intro z;rcases z with z | ⟨j,z⟩
   .exact .inl (.inl z)
   .by_cases y:j=i
    .rw[y] at z; exact .inl (.inr z)
    .exact .inr ⟨j,by unfold bG; rw[if_neg (by simpa using y)]; exact z⟩
 have eqF:aP (λb=>N b\/b∈F i) (bG [i] F)=aP N F:=funext λb=>propext (eqH b);refine⟨v,hv,⟨F i,bG [i] F,?_,f.nd i,λb hb=>f.fr i b hb,by rw[eqF]; exact ow⟩⟩;refine⟨f.sub,λb z=>z.elim (f.nok b) λy=>f.dom y,by rw[FD]; exact f.len,f.pn,λj=>?_,λj k b h1 h2=>f.dj j k b (gh h1).2 (gh h2).2,λj b hb=>?_,λj y hy=>?_,λj hj=>?_⟩
 .unfold bG;split
  .exact .nil
  .exact f.nd j
 .obtain⟨z1,z2⟩:=gh hb;refine⟨(f.fr j b z2).1,λz=>z.elim (f.fr j b z2).2 λy=>z1 ?_⟩;rw[f.dj j i b z2 y]; simp
 .by_cases z:j=i
  .subst z;rw[Fo hl] at hy; cases hy
  .rw[Fl λy=>z y.symm] at hy;obtain⟨w,h1,h2⟩:=f.rel j y hy;refine⟨w,h1,?_⟩;have:bG [i] F j=F j:=by unfold bG; rw[if_neg (by simpa using z)]
   rw[this,eqF];exact h2
 .unfold bG;by_cases z:j=i
  .rw[if_pos (by simpa using z)]
  .rw[if_neg (by simpa using z)];exact f.em j λy w=>hj y (by rw[Fl λy=>z y.symm]; exact w)
def zQ (h:bK W G n io E (.ret (.var i)) Dn σ H):∃v,σ[i]? = some (some v)/\Dn.rt v H:=by
 obtain⟨E0,N,pin,A,F,hp,f,h⟩:=h;rw[Ip.mE,Ip.sP] at h;cases q:A[i]? with
 | none=>rw[q] at h; exact h.elim
 | some o=>
  cases o with
  | none=>rw[q] at h; exact h.elim
  | some x=>
   rw[q] at h;obtain⟨v,hv,fv⟩:=f.moved q;exact⟨v,hv,h v σ H fv⟩
def E4 (h:bK W G n io E (.retP s i) Dn σ H):l7 (mj (bU (tC (.str s)) (bU (cA i) d8))) Dn σ H:=by
 obtain⟨E0,N,pin,A,F,hp,f,h⟩:=h;rw[Ip.yb] at h;cases q:A[i]? with
 | none=>rw[q] at h; exact h.elim
 | some o=>
  cases o with
  | none=>rw[q] at h; exact h.elim
  | some x=>
   rw[q] at h;obtain⟨v,hv,fp,F',f',nd,fr,ow⟩:=f.moved q;refine⟨v,hv,bv (show 2<=2 from bu _) (by decide),λp hp'=>?_⟩;have sub:Sub H (upd H p (.tup [.str s,v])):=Sub.upd hp';have g:=f'.grow sub (fp:=[]) λb z=>by simp at z
   have eN:(λb=>(N b\/b∈fp)\/b∈([]:ak))=λb=>N b\/b∈fp:=funext λb=>propext (by simp);rw[eN] at g;have pn:¬aP (λb=>N b\/b∈fp) F' p:=λz=>z.elim (λy=>f'.nok p y hp') λ⟨j,y⟩=>f'.dom y hp';refine h _ σ _ ⟨fp,F',g,nd,fr,p,[.str s,v],rfl,SqT.of (aS.mpr ⟨pn,cQ⟩),?_⟩;have o2:Own W (hid (aP (λb=>N b\/b∈fp) F') (upd H p (.tup [.str s,v]))) (upd H p (.tup [.str s,v])) x.1 v x.2 fp:=ow.mono (ga sub λ_ z=>.inl z) λb _ u e=>sub b u e;have:=OwnL.cons (f:=[]) (Own.flat (k:=x.1) (H:=upd H p (.tup [.str s,v])) (d:=.str s) rfl (.str (S:=hid (aP (λb=>N b\/b∈fp) F') (upd H p (.tup [.str s,v]))))) (OwnL.cons o2 .nil);simpa using this
def vC (f:FrF W E0 N pin A σ H F)(h:PostS W E0 N pin E Dn (((Ip.eval G (Ip.run G n) A.sl e).bl).toO A k))
  (ok:∀b,PostS W E0 N pin E Dn (k b)->∀H',FrF W E0 N pin A σ H' F->Q b H'):bL W G (Ip.run G n) e E σ H Q:=by
 have f1:=f.frz e.names;have hN:NOk (aP N (bG e.names F)) H:=λb z=>z.elim (f.nok b) λ⟨j,q⟩=>f1.dom q;have grow0:∀H',Sub H H'->FrF W E0 N pin A σ H' F:=λH' hs=>by
  have g:=f.grow hs (fp:=[]) λb z=>by simp at z
  have:(λb=>N b\/b∈([]:ak))=N:=funext λb=>propext (by simp);rw[this] at g; exact g
 refine⟨aP N (bG e.names F),mask e.names A.sl,hN,λi d hi=>?_,?_⟩
 .obtain⟨h1,h2⟩:=mU hi;obtain⟨k,h3⟩:=l5 h2;exact f.see h1 h3
 rw[<-eR (a:=A.sl) e λi hi=>nU hi];cases q:Ip.eval G (Ip.run G n) A.sl e with
 | bad=>rw[q] at h; exact h
 | ok x=>
  obtain⟨kx,d⟩:=x;rw[q] at h;cases d <;> try (exact h.elim)
  rename_i b;exact λH' hs=>ok b h H' (grow0 H' hs)
end
section
variable {X:Cx}{W:Wd}{G:Pg}{n:Nat}{io:ai}{E:St->XK}{E0:Hp}{N:Addr->Prop}{pin:List (Nat×V)}{A:Fr}{σ:St}{H:Hp}{F:Nat->ak}
def BY (h:bK W G n io E (.iff c t e) Dn σ H):jZ (bL W G (Ip.run G n) c E) (dW W G n io E t) (dW W G n io E e) Dn σ H:=by
 obtain⟨E0,N,pin,A,F,hp,f,h⟩:=h;rw[Ip.tM] at h;unfold jZ;refine vC f h λb hk H' f'=>?_;cases b with
 | true=>rw[if_pos rfl] at hk ⊢; exact⟨E0,N,pin,A,F,hp,f',hk⟩
 | false=>rw[if_neg (by decide)] at hk ⊢; exact⟨E0,N,pin,A,F,hp,f',hk⟩
theorem El:dS test body (m+1) A=(test A).toO A λb=>if b=true then (match body A with
  | .nx A=>dS test body m A
  | o=>o) else .nx A:=by
 rw[dS];cases test A with
 | ok b=>cases b <;> rfl
 | bad=>rfl
def BI (h:bK W G n io E (.whl c b) Dn σ H):eZ (bL W G (Ip.run G n) c E) (dW W G n io E b) Dn σ H:=by
 obtain⟨E0,N,pin,A,F,hp,f,h⟩:=h;rw[Ip.B7] at h;unfold eZ;refine⟨λm σ H=>∃A F,FrF W E0 N pin A σ H F/\PostS W E0 N pin E Dn (dS (mV G (Ip.run G n) c) (ml G (Ip.run G n) io b) m A),⟨10000,A,F,f,h⟩,?_⟩;rintro m σ1 H1 ⟨A1,F1,f1,h1⟩;cases m with
 | zero=>exact h1.elim
 | succ m=>
  rw[El] at h1;refine vC f1 h1 λbb hk H' f'=>?_;cases bb with
  | false=>rw[if_neg (by decide)] at hk ⊢; exact hk _ _ _ f'
  | true=>
   rw[if_pos rfl] at hk ⊢;refine⟨λσ H=>∃A F,FrF W E0 N pin A σ H F/\PostS W E0 N pin E Dn (dS (mV G (Ip.run G n) c) (ml G (Ip.run G n) io b) m A),λσ' H' ⟨A',F',f',p'⟩=>⟨m,Gf _,A',F',f',p'⟩,E0,N,pin,A1,F1,hp,f',?_⟩;have qe:ml G (Ip.run G n) io b A1=Ip.execs G (Ip.run G n) io A1 b:=rfl;rw[qe] at hk;cases q:Ip.execs G (Ip.run G n) io A1 b with
   | nx A'=>rw[q] at hk; exact λσ H F f=>⟨A',F,f,hk⟩
   | ret k d A'=>rw[q] at hk; exact hk
   | bad=>rw[q] at hk; exact hk
def FrF.set0 (f:FrF W E0 N pin A σ H F)(hd:Den W (hid (aP N F) H) v d)(hi:∀p∈pin,p.1≠i)(hl:i<A.length):FrF W E0 N pin (A.set i (some (0,d))) (σ.set i (some v)) H (bG [i] F):=by
 have hlt:i < σ.length:=by rw[f.len]; exact hl
 refine⟨f.sub,f.nok,by rw[FD,FD]; exact f.len,λp hp=>by rw[Fl λz=>hi p hp z.symm]; exact f.pn p hp,λj=>?_,λj k b h1 h2=>f.dj j k b (gh h1).2 (gh h2).2,λj b hb=>f.fr j b (gh hb).2,λj y hy=>?_,λj hj=>?_⟩
 .unfold bG;split
  .exact .nil
  .exact f.nd j
 .have sub:Sub (hid (aP N F) H) (hid (aP N (bG [i] F)) H):=λb u e=>aS.mpr ⟨λz=>(aS.mp e).1 (mw z),(aS.mp e).2⟩;by_cases z:j=i
  .subst z;rw[Fo hl] at hy;cases hy;refine⟨v,Fo hlt,?_⟩;unfold bG;rw[if_pos (by simp)];exact⟨rfl,hd.mono sub⟩
  .rw[Fl λy=>z y.symm] at hy;obtain⟨w,h1,h2⟩:=f.rel j y hy;refine⟨w,by rw[Fl λy=>z y.symm]; exact h1,?_⟩;have:bG [i] F j=F j:=by unfold bG; rw[if_neg (by simpa using z)]
   rw[this];exact h2.mono sub λ_ _ _ e=>e
 .unfold bG;by_cases z:j=i
  .rw[if_pos (by simpa using z)]
  .rw[if_neg (by simpa using z)];exact f.em j λy w=>hj y (by rw[Fl λy=>z y.symm]; exact w)
def zv:Sub (hid (aP N F) H) (hid (aP N (bG ns F)) H):=λb u e=>aS.mpr ⟨λz=>(aS.mp e).1 (mw z),(aS.mp e).2⟩
def vO (hp:∀p∈pin,p.1∈io)(h:io.contains i=false):∀p∈pin,p.1≠i:=λp hp' z=>by
 have:=hp p hp';rw[z] at this;simp[this] at h
theorem og (hp:∀p∈pin,p.1∈io)(hQ:∀A F σ,FrF W E0 N pin A σ H F->PostS W E0 N pin E Dn (k A)->Q σ H) :
  ∀{is:ai} {vs:ar} {ds:av} {A:Fr} {σ:St} {F:Nat->ak},Dens W (hid (aP N F) H) vs ds->FrF W E0 N pin A σ H F->PostS W E0 N pin E Dn ((setFs io is (ds.map λd=>(0,d)) A).seq k)->iU is vs σ H Q
 | [],_,_,A,σ,F,.nil,f,h=>⟨rfl,hQ A F σ f h⟩
 | [],_,_,_,_,_,.cons _ _,_,h=>h.elim
 | _::_,_,_,_,_,_,.nil,_,h=>h.elim
 | i::is,_,_,A,σ,F,.cons hd q,f,h=>by
  refine⟨_,_,rfl,?_⟩;show iU is _ (σ.set i (some _)) H Q;simp only[Fk,setFs] at h;unfold cV at h;by_cases c:io.contains i=false/\i<A.length
  .rw[if_pos c] at h;exact og hp hQ (q.mono zv) (f.set0 hd (vO hp c.1) c.2) h
  .rw[if_neg c] at h; exact h.elim
def tq (hK:W.K=X.K)(hp:∀p∈pin,p.1∈io)(hd:Den W (hid (aP N F) H) v d)(f:FrF W E0 N pin A σ H F)(h:PostS W E0 N pin E Dn ((bN io tg d A).seq k))
  (hQ:∀A F σ,FrF W E0 N pin A σ H F->PostS W E0 N pin E Dn (k A)->Q σ H):gT X.K tg v σ H Q:=by
 cases tg with
 | one i=>
  simp only[bN] at h;unfold cV at h;by_cases c:io.contains i=false/\i<A.length
  .rw[if_pos c] at h;exact hQ _ _ _ (f.set0 hd (vO hp c.1) c.2) h
  .rw[if_neg c] at h; exact h.elim
 | many is=>
  cases hd <;> simp only[bN] at h <;> try (exact h.elim)
  .rename_i a vs ds h1 h2;exact .inr ⟨a,vs,rfl,.inl (Rd.sub bq h1),h2.length.trans (len_of h),og hp hQ h2 f h⟩
  .rename_i a vs ds h1 h2;exact .inl ⟨a,vs,rfl,hK ▸ SqT.sub bq h1,h2.length.trans (len_of h),og hp hQ h2 f h⟩
where
 len_of {E0:Hp} {Dn:Ends} {k:Fr->O}:∀{is:ai} {ds:av} {A:Fr},PostS W E0 N pin E Dn ((setFs io is (ds.map λd=>(0,d)) A).seq k)->ds.length=is.length
  | [],[],_,_=>rfl
  | [],_::_,_,h=>h.elim
  | _::_,[],_,h=>h.elim
  | i::is,d::ds,A,h=>by
   simp only[Fk,setFs] at h;unfold cV at h;by_cases c:io.contains i=false/\i<A.length
   .rw[if_pos c] at h;rw[List.length_cons,List.length_cons,len_of h]
   .rw[if_neg c] at h; exact h.elim
def tY (hK:W.K=X.K)(h:bK W G n io E (.setT is e) Dn σ H):aY W G (Ip.run G n) e E σ H λv H1=>gT X.K (.many is) v σ H1 Dn.nx:=by
 obtain⟨E0,N,pin,A,F,hp,f,h⟩:=h;rw[Ip.vq] at h;refine mO f h λx ex hk v H' fv=>?_;obtain⟨F',f',dv⟩:=fv.drop;have sq:∀o:O,(o.seq λA=>.nx A)=o:=λo=>by cases o <;> rfl
 have eb:Ip.fX io is e A x=bN io (.many is) x.2 (Ip.settle e.names A x):=by
  obtain⟨k,d⟩:=x;cases d <;> rfl
 rw[eb,<-sq (bN io (.many is) x.2 (Ip.settle e.names A x))] at hk;exact tq hK hp dv f' hk λA F σ f h=>h σ H' F f
def Dg (f:FrF W E0 N pin A σ H F)(h:PostS W E0 N pin E Dn ((evals G (Ip.run G n) A.sl it).toO A k))(nb:∀vs,PostS W E0 N pin E Dn (k vs)->∃ds,da wk vs=some ds)
  (ok:∀vs ds,da wk vs=some ds->PostS W E0 N pin E Dn (k vs)->∀J H',Sub H H'->ItD W (aP N (bG (Ip.Wk.fz wk it) F)) H' J ds->R J H'):fw W G (Ip.run G n) wk it E σ H R:=by
 have f1:=f.frz (Ex.namess it);have hN:NOk (aP N (bG (Ex.namess it) F)) H:=λb z=>z.elim (f.nok b) λ⟨j,q⟩=>f1.dom q;refine⟨aP N (bG (Ex.namess it) F),mask (Ex.namess it) A.sl,hN,λi d hi=>?_,?_⟩
 .obtain⟨h1,h2⟩:=mU hi;obtain⟨k,h3⟩:=l5 h2;exact f.see h1 h3
 rw[<-zAC (a:=A.sl) it λi hi=>nU hi];cases q:evals G (Ip.run G n) A.sl it with
 | bad=>rw[q] at h; exact h
 | ok vs=>
  rw[q] at h;obtain⟨ds,e⟩:=nb vs h;simp only[e];refine λJ H' hs hJ hr=>ok vs ds e h J H' hs ?_;unfold Ip.Wk.fz;by_cases hw:wk.rng=true
  .rw[if_pos hw]; exact hr hw _
  .rw[if_neg hw]; exact hJ
def BL (hK:W.K=X.K)(h:bK W G n io E (.fo tg wk it b) Dn σ H):jH (fw W G (Ip.run G n) wk it E) (gT X.K tg) (dW W G n io E b) Dn σ H:=by
 obtain⟨E0,N,pin,A,F,hp,f,h⟩:=h;rw[Ip.pW] at h;unfold jH;have pre:∀vs,PostS W E0 N pin E Dn (kF G (bD (fh G (Ip.run G n) io tg b)) wk it A vs)->∃ds,da wk vs=some ds/\ds.length<=SL/\PostS W E0 N pin E Dn (bD (fh G (Ip.run G n) io tg b) ds (frz (Ip.Wk.fz wk it) A)):=λvs hv=>by
  unfold kF at hv;cases q:da wk vs with
  | none=>rw[q] at hv; exact hv.elim
  | some ds=>
   rw[q] at hv;simp only at hv;by_cases hl:ds.length<=SL
   .rw[if_pos hl] at hv; exact⟨ds,rfl,hl,hv⟩
   .rw[if_neg hl] at hv; exact hv.elim
 refine Dg f h (λvs hv=>by obtain⟨ds,e,_⟩:=pre vs hv; exact⟨ds,e⟩) λvs ds e hv J H1 hs hJ=>?_;obtain⟨ds',e',hl,hq⟩:=pre vs hv;rw[e] at e';cases e';have f0:=f.frz (Ip.Wk.fz wk it);have f1:FrF W E0 N pin (frz (Ip.Wk.fz wk it) A) σ H1 (bG (Ip.Wk.fz wk it) F):=by
  have g:=f0.grow hs (fp:=[]) λb z=>by simp at z
  have:(λb=>N b\/b∈([]:ak))=N:=funext λb=>propext (by simp);rw[this] at g; exact g
 have hE1:Sub E0 (hid (λb=>∃j,b∈bG (Ip.Wk.fz wk it) F j) H1):=λb o eb=>aS.mpr ⟨(λ⟨j,z⟩=>by rw[(f1.fr j b z).1] at eb; cases eb),f1.sub b o eb⟩;have f2:FrF W (hid (λb=>∃j,b∈bG (Ip.Wk.fz wk it) F j) H1) N pin (frz (Ip.Wk.fz wk it) A) σ H1 (bG (Ip.Wk.fz wk it) F):=
  ⟨bq,f1.nok,f1.len,f1.pn,f1.nd,f1.dj,λi b hb=>⟨by
   cases q:hid (λb=>∃j,b∈bG (Ip.Wk.fz wk it) F j) H1 b with
   | none=>rfl
   | some o=>exact absurd ⟨i,hb⟩ (aS.mp q).1,(f1.fr i b hb).2⟩,f1.rel,f1.em⟩
 have hvis:∀b o,hid (aP N (bG (Ip.Wk.fz wk it) F)) H1 b=some o->¬N b/\hid (λb=>∃j,b∈bG (Ip.Wk.fz wk it) F j) H1 b=some o:=λb o e=>by
  obtain⟨g1,g2⟩:=aS.mp e;exact⟨λz=>g1 (.inl z),aS.mpr ⟨λz=>g1 (.inr z),g2⟩⟩
 generalize hid (λb=>∃j,b∈bG (Ip.Wk.fz wk it) F j) H1=E1 at hE1 f2 hvis;refine⟨λi m σ H=>i<=ds.length/\m=ds.length - i/\∃A F,FrF W E1 N pin A σ H F/\PostS W E0 N pin E Dn (bD (fh G (Ip.run G n) io tg b) (ds.drop i) A),⟨ds.length,FS _,by omega,_,_,f2,by simpa using hq⟩,?_⟩;rintro i m σ1 Hc ⟨hi,rfl,A1,F1,f3,p3⟩;have hsub:Sub (hid (aP N (bG (Ip.Wk.fz wk it) F)) H1) (hid (aP N F1) Hc):=λb o e=>by
  obtain⟨g1,g2⟩:=hvis b o e;refine aS.mpr ⟨λz=>?_,f3.sub b o g2⟩;rcases z with z | ⟨j,z⟩
  .exact g1 z
  .rw[(f3.fr j b z).1] at g2; cases g2
 have hN3:NOk (aP N F1) Hc:=λb z=>z.elim (f3.nok b) λ⟨j,q⟩=>f3.dom q;obtain⟨J1,J2⟩:=hJ (aP N F1) Hc hsub hN3 i;by_cases hlt:i<ds.length
 .have hdrop:ds.drop i=ds[i]::ds.drop (i+1):=GU hlt;rw[hdrop,bD] at p3;obtain⟨Jg,Jy⟩:=J1 ds[i] (by simp[hlt]);refine .inr ⟨Jg,λσ H=>∃A F,FrF W E1 N pin A σ H F/\PostS W E0 N pin E Dn (bD (fh G (Ip.run G n) io tg b) (ds.drop (i+1)) A),λσ' H' ⟨A',F',f',p'⟩=>⟨ds.length - (i+1),by omega,hlt,rfl,A',F',f',p'⟩,λx H' hy=>?_⟩;obtain⟨s3,dx⟩:=Jy x H' hy;have f4:FrF W E1 N pin A1 σ1 H' F1:=by
   have g:=f3.grow s3 (fp:=[]) λb z=>by simp at z
   have:(λb=>N b\/b∈([]:ak))=N:=funext λb=>propext (by simp);rw[this] at g; exact g
  have turn:PostS W E1 N pin E { Dn with nx:=λσ H=>∃A F,FrF W E1 N pin A σ H F/\PostS W E0 N pin E Dn (bD (fh G (Ip.run G n) io tg b) (ds.drop (i+1)) A),ct:=λσ H=>∃A F,FrF W E1 N pin A σ H F/\PostS W E0 N pin E Dn (bD (fh G (Ip.run G n) io tg b) (ds.drop (i+1)) A),bk:=Dn.nx }
    (fh G (Ip.run G n) io tg b ds[i] A1):=by
   cases q:fh G (Ip.run G n) io tg b ds[i] A1 with
   | nx A'=>rw[q] at p3; exact λσ H F f=>⟨A',F,f,p3⟩
   | ret k d A'=>
    rw[q] at p3;exact PostS.strong (Dn:=Dn) (o:=.ret k d A') hE1 p3
   | bad=>rw[q] at p3; exact p3
  unfold fh at turn;exact tq hK hp dx f4 turn λA2 F2 σ2 g p=>⟨E1,N,pin,A2,F2,hp,g,p⟩
 .have e:i=ds.length:=by omega
  subst e;rw[Hf (HB _),bD] at p3;exact .inl ⟨J2 (bu _),p3 _ _ _ (f3.weaken hE1)⟩
end
section
variable {X:Cx}{W:Wd}{G:Pg}{n:Nat}{io:ai}{E:St->XK}{E0:Hp}{N:Addr->Prop}{pin:List (Nat×V)}{A:Fr}{σ:St}{H:Hp}{F:Nat->ak}
def FrF.upd {fp fx:ak}{x:Nat}{l:Addr}{v0:V}{y:KD}{H2:Hp}(f:FrF W E0 (λb=>N b\/b∈fp) pin A σ H F)(fr:∀b∈fp,E0 b=none/\¬N b)(hl:l∈F x)(hx:x<A.length)(hσ:σ[x]? = some (some v0))(hfx:fx.Nodup)(hin:∀b∈fx,b∈F x\/b∈fp)
  (h12:∀b,b≠l->∀u,H b=some u->H2 b=some u)(h2l:H2 l≠none)(hy:Own W (hid (aP N λj=>if j=x then fx else F j) H2) H2 y.1 v0 y.2 fx):FrF W E0 N pin (A.set x (some y)) σ H2 λj=>if j=x then fx else F j:=by
 have l0:E0 l=none:=(f.fr x l hl).1;have mem:∀j b,b∈(if j=x then fx else F j)->(j=x/\b∈fx)\/(j≠x/\b∈F j):=λj b h=>by
  by_cases z:j=x
  .rw[if_pos z] at h; exact .inl ⟨z,h⟩
  .rw[if_neg z] at h; exact .inr ⟨z,h⟩
 refine⟨λb u e=>h12 b (λz=>by rw[z,l0] at e; cases e) u (f.sub b u e),λb z=>?_,by rw[FD]; exact f.len,f.pn,λj=>?_,λi j b h1 h2=>?_,λj b h=>?_,λj z hz=>?_,λj hj=>?_⟩
 .by_cases q:b=l
  .rw[q]; exact h2l
  .have:=f.nok b (.inl z);cases e:H b with
   | none=>exact absurd e this
   | some u=>rw[h12 b q u e]; simp
 .by_cases z:j=x
  .simp only[if_pos z]; exact hfx
  .simp only[if_neg z]; exact f.nd j
 .rcases mem i b h1 with ⟨z1,q1⟩ | ⟨z1,q1⟩ <;> rcases mem j b h2 with ⟨z2,q2⟩ | ⟨z2,q2⟩
  .rw[z1,z2]
  .rcases hin b q1 with w | w
   .exact absurd (f.dj j x b q2 w) z2
   .exact absurd (.inr w) (f.fr j b q2).2
  .rcases hin b q2 with w | w
   .exact absurd (f.dj i x b q1 w) z1
   .exact absurd (.inr w) (f.fr i b q1).2
  .exact f.dj i j b q1 q2
 .rcases mem j b h with ⟨z,q⟩ | ⟨z,q⟩
  .rcases hin b q with w | w
   .exact⟨(f.fr x b w).1,λy=>(f.fr x b w).2 (.inl y)⟩
   .exact fr b w
  .exact⟨(f.fr j b q).1,λy=>(f.fr j b q).2 (.inl y)⟩
 .by_cases q:j=x
  .subst q;rw[Fo hx] at hz;cases hz;exact⟨_,hσ,by simp only[if_true]; exact hy⟩
  .rw[Fl λy=>q y.symm] at hz;obtain⟨w,h1,h2⟩:=f.rel j z hz;refine⟨w,h1,?_⟩;simp only[if_neg q];refine h2.mono (λb u e=>?_) λb hb u e=>h12 b (λy=>q (f.dj j x b hb (y ▸ hl))) u e;obtain⟨g1,g2⟩:=aS.mp e;have bl:b≠l:=λy=>g1 (.inr ⟨x,y ▸ hl⟩);refine aS.mpr ⟨λy=>?_,h12 b bl u g2⟩;rcases y with y | ⟨i,y⟩
   .exact g1 (.inl (.inl y))
   .rcases mem i b y with ⟨z1,q1⟩ | ⟨z1,q1⟩
    .rcases hin b q1 with w | w
     .exact g1 (.inr ⟨x,w⟩)
     .exact g1 (.inl (.inr w))
    .exact g1 (.inr ⟨i,q1⟩)
 .by_cases q:j=x
  .subst q;exact absurd (Fo hx) (hj y)
  .simp only[if_neg q];exact f.em j λz w=>hj z (by rw[Fl λy=>q y.symm]; exact w)
theorem OwnL.snoc (h:P v d g):∀{vs ds fp},OwnL P vs ds fp->OwnL P (vs++[v]) (ds++[d]) (fp++g):=by
 intro _ _ _ hZ;cases hZ with
 | nil=>simpa using OwnL.cons h .nil
 | cons h0 q=>
  rw[List.cons_append,List.cons_append,G5];exact .cons h0 (OwnL.snoc h q)
def zT {x:Nat}{k:Nat}{xs:av}{v:KD}{w:V}(fv:FrV W E0 N pin A σ H v w)(hx:A[x]? = some (some (k+1,.lst xs))) :
  ∃l ws,σ[x]? = some (some (.ref l))/\H l=some (.lst ws)/\ws.length=xs.length/\∃F',FrF W E0 N pin (A.set x (some (dh k xs v+1,.lst (xs++[v.2])))) σ (upd H l (.lst (ws++[w]))) F':=by
 obtain⟨fp,F,f,nd,fr,o⟩:=fv;obtain⟨z,hσ,l,ws,fq,rfl,e2,e3,e4⟩:=f.rel x _ hx;have hl:l∈F x:=by rw[e4]; exact bW
 have hxl:x<A.length:=(de hx).1;have ndx:=f.nd x;rw[e4] at ndx;obtain⟨lq,ndq⟩:=FB.mp ndx;have lfp:l∉fp:=λz=>(f.fr x l hl).2 (.inr z);have qF:∀b∈fq,b∈F x:=λb hb=>by rw[e4]; exact bX _ hb
 have h12:∀b,b≠l->∀u,H b=some u->(L2.upd H l (.lst (ws++[w]))) b=some u:=λb nb u e=>by rw[bT nb]; exact e
 refine⟨l,ws,hσ,e2,e3.length,?_⟩;have deep:∀j,ba j v=true->(xs.all λd=>ba j (k,d))=true->∃F',FrF W E0 N pin (A.set x (some (j+1,.lst (xs++[v.2])))) σ (L2.upd H l (.lst (ws++[w]))) F':=λj h1 h2=>by
  refine⟨_,f.upd (fx:=l::(fq++fp)) (y:=(j+1,.lst (xs++[v.2]))) fr hl hxl hσ ?_ (λb hb=>?_) h12 (by rw[cQ]; simp) ⟨l,_,fq++fp,rfl,cQ,?_,rfl⟩⟩
  .refine FB.mpr ⟨λz=>(dg z).elim lq lfp,Fv.mpr ⟨ndq,nd,λb hb c hc z=>?_⟩⟩;subst z;exact (f.fr x b (qF b hb)).2 (.inr hc)
  .rcases cZ hb with z | z
   .rw[z]; exact .inl hl
   .exact (dg z).imp (qF b) id
  .have sub:Sub (hid (aP (λb=>N b\/b∈fp) F) H) (hid (aP N λi=>if i=x then l::(fq++fp) else F i) (L2.upd H l (.lst (ws++[w])))):=λb u e=>by
    obtain⟨g1,g2⟩:=aS.mp e;have bl:b≠l:=λy=>g1 (.inr ⟨x,y ▸ hl⟩);refine aS.mpr ⟨λy=>?_,h12 b bl u g2⟩;rcases y with y | ⟨i,y⟩
    .exact g1 (.inl (.inl y))
    .by_cases z:i=x
     .simp only[if_pos z] at y;rcases cZ y with q | q
      .exact bl q
      .rcases dg q with q | q
       .exact g1 (.inr ⟨x,qF b q⟩)
       .exact g1 (.inl (.inr q))
     .simp only[if_neg z] at y;exact g1 (.inr ⟨i,y⟩)
   refine OwnL.snoc ((o.at h1).mono sub λb hb u e=>h12 b (λz=>lfp (z ▸ hb)) u e) ?_;have e5:=e3.re (Q:=Own W (hid (aP (λb=>N b\/b∈fp) F) H) H j) (b:=λd=>ba j (k,d)) (λv d g hb o=>Own.at hb o) h2;exact e5.imp λv d g hg o=>o.mono sub λb hb u e=>h12 b (λz=>lq (z ▸ hg b hb)) u e
 unfold dh;by_cases c1:ba k v=true
 .rw[if_pos c1];refine deep k c1 (List.all_eq_true.mpr λd _=>?_);unfold ba;simp
 .rw[if_neg c1];by_cases c2:(xs.all λd=>ba v.1 (k,d))=true
  .rw[if_pos c2];refine deep v.1 ?_ c2;unfold ba;simp
  .rw[if_neg c2];refine⟨_,f.upd (fx:=[l]) (y:=(1,.lst (xs++[v.2]))) fr hl hxl hσ (by simp) (λb hb=>by rw[Fi.mp hb]; exact .inl hl) h12 (by rw[cQ]; simp) ⟨l,_,[],rfl,cQ,OwnL.zero ?_,rfl⟩⟩;have sub:Sub (hid (aP (λb=>N b\/b∈fp) F) H) (hid (aP N λi=>if i=x then [l] else F i) (L2.upd H l (.lst (ws++[w])))):=λb u e=>by
    obtain⟨g1,g2⟩:=aS.mp e;have bl:b≠l:=λy=>g1 (.inr ⟨x,y ▸ hl⟩);refine aS.mpr ⟨λy=>?_,h12 b bl u g2⟩;rcases y with y | ⟨i,y⟩
    .exact g1 (.inl (.inl y))
    .by_cases z:i=x
     .simp only[if_pos z] at y; exact bl (Fi.mp y)
     .simp only[if_neg z] at y;exact g1 (.inr ⟨i,y⟩)
   have see:∀b,(b∈fq\/b∈fp)->∀u,H b=some u->hid (aP N λi=>if i=x then [l] else F i) (L2.upd H l (.lst (ws++[w]))) b=some u:=λb hb u e=>by
    have bl:b≠l:=λz=>hb.elim (λy=>lq (z ▸ y)) λy=>lfp (z ▸ y);refine aS.mpr ⟨λy=>?_,h12 b bl u e⟩;rcases y with y | ⟨i,y⟩
    .rcases hb with q | q
     .exact (f.fr x b (qF b q)).2 (.inl y)
     .exact (fr b q).2 y
    .by_cases z:i=x
     .simp only[if_pos z] at y; exact bl (Fi.mp y)
     .simp only[if_neg z] at y;rcases hb with q | q
      .exact z (f.dj i x b y (qF b q))
      .exact (f.fr i b y).2 (.inr q)
   exact (e3.dens λv d g hg o=>o.den sub λb hb u e=>see b (.inl (hg b hb)) u e).append (.cons (o.den sub λb hb u e=>see b (.inr hb) u e) .nil)
def zh (hK:W.K=X.K)(h:bK W G n io E (.mut x [] .append [e]) Dn σ H):cN (gZ X.K "list" fU (cA x) (bU (aY W G (Ip.run G n) e E) d8)) Dn σ H:=by
 obtain⟨E0,N,pin,A,F,hp,f,h⟩:=h;rw[Ip.kA] at h;by_cases c:cw A[x]? = true
 rotate_left
 .rw[if_neg c] at h; exact h.elim
 rw[if_pos c] at h;have hs:∃k xs,A[x]? = some (some (k,.lst xs)):=by
  cases q:A[x]? with
  | none=>rw[q] at c; cases c
  | some o=>
   rw[q] at c;cases o with
   | none=>cases c
   | some y=>
    obtain⟨k,d⟩:=y;cases d <;> first | exact⟨k,_,rfl⟩ | cases c
 obtain⟨k,xs,hx⟩:=hs;obtain⟨v,hv,ow⟩:=f.rel x _ hx;have dv:Den W H v (.lst xs):=ow.den bq λ_ _ _ e=>e;unfold cN gZ;refine⟨v,hv,?_,?_⟩
 .cases dv with | @lst l ws _ h1 h2=>?_
  exact .inl ⟨rfl,ws,.inl h1⟩
 simp only[Ip.cj,bP,Ip.R.toO,Ip.R.bind] at h;unfold bU;refine km f ?_;cases q:Ip.eval G (Ip.run G n) A.sl e with
 | bad=>rw[q] at h; exact h
 | ok y=>
  rw[q] at h;simp only[d7] at h;have e1:(if ([y].all λv=>v.2.fb v.1)=true then A else frz (Ex.namess [e]) A)=Ip.settle e.names A y:=by
   unfold Ip.settle;simp
  rw[e1] at h;intro w H1 fv;cases q2:(Ip.settle e.names A y)[x]? with
  | none=>rw[q2] at h; exact h.elim
  | some o=>
   rw[q2] at h;cases o with
   | none=>exact h.elim
   | some z=>
    obtain⟨k',d⟩:=z;cases k' with
    | zero=>cases d <;> exact h.elim
    | succ k'=>
     cases d <;> try (exact h.elim)
     rename_i ys;simp only[eI,Ip.rK] at h;by_cases hl:ys.length<SL
     .rw[if_pos hl] at h;obtain⟨l,ws,g1,g2,g3,F',g4⟩:=zT fv q2;rw[hv] at g1;cases g1;exact⟨l,ws,w,rfl,rfl,g2,by rw[g3]; exact dR hl (by decide),h _ _ _ g4⟩
     .rw[if_neg hl] at h; exact h.elim
end
theorem OwnF.put (nd:att.Nodup)(hn:att[f]? = some n)(h:P v d g):∀{vs ds fp},OwnF att P vs ds fp->(fp++g).Nodup ->
  ∃fz:ak,OwnF att P (putF n v vs) (Ip.putF f d ds) fz/\fz.Nodup/\∀b∈fz,b∈fp\/b∈g
 | _,_,_,.nil,hd=>⟨g,by
   have:=OwnF.cons hn h (OwnF.nil (att:=att) (P:=P));rw[Ga] at this;exact this,by simpa using hd,λb hb=>.inr hb⟩
 | _,_,_,.cons (n:=m) (i:=i) (f:=f0) (g:=g0) hi h0 q,hd=>by
  unfold putF Ip.putF;have hd1:=Fv.mp hd;have hd2:=Fv.mp hd1.1;by_cases e:i=f
  .subst e;have:m=n:=by rw[hn] at hi; exact (cK hi).symm
   subst this;rw[if_pos rfl,if_pos rfl];refine⟨g++g0,.cons hi h q,Fv.mpr ⟨hd1.2.1,hd2.2.1,λa ha b hb z=>?_⟩,λb hb=>?_⟩
   .exact hd1.2.2 b (ck _ hb) a ha z.symm
   .rcases dg hb with z | z
    .exact .inr z
    .exact .inl (ck _ z)
  .have nm:m≠n:=λz=>e (pE nd hi (by rw[z]; exact hn));rw[if_neg e,if_neg nm];obtain⟨fz,k1,k2,k3⟩:=q.put nd hn h (Fv.mpr ⟨hd2.2.1,hd1.2.1,λa ha b hb z=>hd1.2.2 a (ck _ ha) b hb z⟩);refine⟨f0++fz,.cons hi h0 k1,Fv.mpr ⟨hd2.1,k2,λa ha b hb z=>?_⟩,λb hb=>?_⟩
   .rcases k3 b hb with w | w
    .exact hd2.2.2 a ha b w z
    .exact hd1.2.2 a (dZ _ ha) b w z
   .rcases dg hb with z | z
    .exact .inl (dZ _ z)
    .exact (k3 b z).imp (ck _) id
theorem OwnF.length:∀{vs ds fp},OwnF att P vs ds fp->vs.length=ds.length:=by
 intro _ _ _ hZ;cases hZ with
 | nil=>exact rfl
 | cons _ _ q=>rw[List.length_cons,List.length_cons,q.length]
theorem OwnF.zero:∀{vs ds},DenF W S vs ds->OwnF W.att (Own W S H 0) vs ds []:=by
 intro _ _ hZ;cases hZ with
 | nil=>exact .nil
 | cons hf h q=>exact OwnF.cons (f:=[]) (g:=[]) hf ⟨rfl,h⟩ (OwnF.zero q)
section
variable {X:Cx}{W:Wd}{G:Pg}{n:Nat}{io:ai}{E:St->XK}{E0:Hp}{N:Addr->Prop}{pin:List (Nat×V)}{A:Fr}{σ:St}{H:Hp}{F:Nat->ak}
def C4 (nda:W.att.Nodup)(hnm:W.att[f]? = some nm)(fr0:FrF W E0 (λb=>N b\/b∈fp) pin A σ H F)(nd:fp.Nodup)(fr:∀b∈fp,E0 b=none/\¬N b)
  (o:Own W (hid (aP (λb=>N b\/b∈fp) F) H) H v.1 w v.2 fp)(hxl:x<A.length)(hσ:σ[x]? = some (some (.ref l)))(e4:F x=l::fq)(e3:OwnF W.att (Own W (hid (aP (λb=>N b\/b∈fp) F) H) H k) ws fs fq)
  (h12:∀b,b≠l->∀u,H b=some u->H2 b=some u)(h2l:H2 l≠none)
  (own:∀j fz S,OwnF W.att (Own W S H2 j) (putF nm w ws) (Ip.putF f v.2 fs) fz->Own W S H2 (j+1) (.ref l) dd (l::fz)) :
  ∃F',FrF W E0 N pin (A.set x (some (dh k (fs.map (·.2)) v+1,dd))) σ H2 F':=by
 have hl:l∈F x:=by rw[e4]; exact bW
 have ndx:=fr0.nd x;rw[e4] at ndx;obtain⟨lq,ndq⟩:=FB.mp ndx;have lfp:l∉fp:=λz=>(fr0.fr x l hl).2 (.inr z);have qF:∀b∈fq,b∈F x:=λb hb=>by rw[e4]; exact bX _ hb
 have ndc:(fq++fp).Nodup:=Fv.mpr ⟨ndq,nd,λb hb c hc z=>by subst z; exact (fr0.fr x b (qF b hb)).2 (.inr hc)⟩;have sub:∀fz:ak,(∀b∈fz,b∈fq\/b∈fp)->Sub (hid (aP (λb=>N b\/b∈fp) F) H) (hid (aP N λi=>if i=x then l::fz else F i) H2):=λfz hz b u e=>by
  obtain⟨g1,g2⟩:=aS.mp e;have bl:b≠l:=λy=>g1 (.inr ⟨x,y ▸ hl⟩);refine aS.mpr ⟨λy=>?_,h12 b bl u g2⟩;rcases y with y | ⟨i,y⟩
  .exact g1 (.inl (.inl y))
  .by_cases z:i=x
   .simp only[if_pos z] at y;rcases cZ y with q | q
    .exact bl q
    .rcases hz b q with q | q
     .exact g1 (.inr ⟨x,qF b q⟩)
     .exact g1 (.inl (.inr q))
   .simp only[if_neg z] at y;exact g1 (.inr ⟨i,y⟩)
 have deep:∀j,ba j v=true->((fs.map (·.2)).all λd=>ba j (k,d))=true->∃F',FrF W E0 N pin (A.set x (some (j+1,dd))) σ H2 F':=λj h1 h2=>by
  have e5:=e3.re (Q:=Own W (hid (aP (λb=>N b\/b∈fp) F) H) H j) (b:=λd=>ba j (k,d)) (λv d g hb o=>Own.at hb o) (by rw[List.all_map] at h2; exact h2);obtain⟨fz,k1,k2,k3⟩:=e5.put nda hnm (o.at h1) ndc;have lz:l∉fz:=λz=>(k3 l z).elim lq lfp;refine⟨_,fr0.upd (fx:=l::fz) (y:=(j+1,dd)) fr hl hxl hσ (FB.mpr ⟨lz,k2⟩) (λb hb=>?_) h12 h2l (own j fz _ (k1.imp λv d g hg o=>o.mono (sub fz k3) λb hb u e=>h12 b (λz=>lz (z ▸ hg b hb)) u e))⟩;rcases cZ hb with z | z
  .rw[z]; exact .inl hl
  .exact (k3 b z).imp (qF b) id
 unfold dh;by_cases c1:ba k v=true
 .rw[if_pos c1];refine deep k c1 (List.all_eq_true.mpr λd _=>?_);unfold ba;simp
 .rw[if_neg c1];by_cases c2:((fs.map (·.2)).all λd=>ba v.1 (k,d))=true
  .rw[if_pos c2];refine deep v.1 ?_ c2;unfold ba;simp
  .rw[if_neg c2];have sub0:=sub [] (λb z=>by simp at z);have see:∀b,(b∈fq\/b∈fp)->∀u,H b=some u->hid (aP N λi=>if i=x then [l] else F i) H2 b=some u:=λb hb u e=>by
    have bl:b≠l:=λz=>hb.elim (λy=>lq (z ▸ y)) λy=>lfp (z ▸ y);refine aS.mpr ⟨λy=>?_,h12 b bl u e⟩;rcases y with y | ⟨i,y⟩
    .rcases hb with q | q
     .exact (fr0.fr x b (qF b q)).2 (.inl y)
     .exact (fr b q).2 y
    .by_cases z:i=x
     .simp only[if_pos z] at y; exact bl (Fi.mp y)
     .simp only[if_neg z] at y;rcases hb with q | q
      .exact z (fr0.dj i x b y (qF b q))
      .exact (fr0.fr i b y).2 (.inr q)
   have dn:DenF W (hid (aP N λi=>if i=x then [l] else F i) H2) (putF nm w ws) (Ip.putF f v.2 fs):=
    (e3.dens λv d g hg o=>o.den sub0 λb hb u e=>see b (.inl (hg b hb)) u e).put nda hnm (o.den sub0 λb hb u e=>see b (.inr hb) u e)
   exact⟨_,fr0.upd (fx:=[l]) (y:=(1,dd)) fr hl hxl hσ (by simp) (λb hb=>by rw[Fi.mp hb]; exact .inl hl) h12 h2l (own 0 [] _ (OwnF.zero dn))⟩
def DT (hK:W.K=X.K)(cf:CF W fl)(hk:k∈fl)(hnm:W.att[k]? = some nm)(h:bK W G n io E (.sfld x k e) Dn σ H) :
  jV X.K (cA x) (aY W G (Ip.run G n) e E) nm Dn σ H:=by
 obtain⟨E0,N,pin,A,F,hp,f,h⟩:=h;rw[Ip.xT] at h;cases q:Ip.eval G (Ip.run G n) A.sl e with
 | bad=>rw[q] at h; exact h.elim
 | ok v=>
  rw[q] at h;simp only[Ip.R.toO] at h;cases q2:(Ip.settle e.names A v)[x]? with
  | none=>rw[q2] at h; exact h.elim
  | some oo=>
   rw[q2] at h;cases oo with
   | none=>exact h.elim
   | some z=>
    obtain⟨k',d⟩:=z;have hxl:x<(Ip.settle e.names A v).length:=(de q2).1;cases k' with
    | zero=>cases d <;> exact h.elim
    | succ k'=>
     cases d <;> try (exact h.elim)
     .rename_i c fs;simp only[Ip.gw] at h;by_cases hl:fs.length<50
      rotate_left
      .rw[if_neg hl] at h; exact h.elim
      rw[if_pos hl] at h
      skip
      unfold jV;refine km f ?_;rw[q];rintro w H1 ⟨fp,F1,f1,nd,fr,o⟩;obtain⟨z,hσ,a,C,dx,ws,fq,rfl,e2,hC,e3,e4⟩:=f1.rel x _ q2;obtain⟨ic,na⟩:=cf.ins c C hC;refine⟨_,hσ,a,C,dx,ws,rfl,e2,hK ▸ ic.cls,hK ▸ na k nm hk hnm,by rw[e3.length]; omega,?_⟩;obtain⟨F',g⟩:=C4 (H2:=L2.upd H1 a (.ins C dx (putF nm w ws))) (dd:=.ins c (Ip.putF k v.2 fs)) cf.nd hnm f1 nd fr o hxl hσ e4 e3 (λb nb u e=>by rw[bT nb]; exact e) (by rw[cQ]; simp)
       (λj fz S hz=>⟨a,C,dx,_,fz,rfl,cQ,hC,hz,rfl⟩)
      exact h _ _ _ g
end
section
variable {X:Cx}{W:Wd}{G:Pg}{n:Nat}{io:ai}{E:St->XK}{E0:Hp}{N:Addr->Prop}{pin:List (Nat×V)}{A:Fr}{σ:St}{H:Hp}{F:Nat->ak}
def o3 (fv:FrV W E0 N pin A σ H v w)(hx:A[x]? = some (some (k+1,.lst xs))) :
  ∃l ws,σ[x]? = some (some (.ref l))/\H l=some (.lst ws)/\ws.length=xs.length/\Dens W H ws xs/\Den W H w v.2 /\
   ∀ws' ds',(∀S,Dens W S ws xs->Den W S w v.2->Dens W S ws' ds')->∃F',FrF W E0 N pin (A.set x (some (1,.lst ds'))) σ (upd H l (.lst ws')) F':=by
 obtain⟨fp,F,f,nd,fr,o⟩:=fv;obtain⟨z,hσ,l,ws,fq,rfl,e2,e3,e4⟩:=f.rel x _ hx;have hl:l∈F x:=by rw[e4]; exact bW
 have hxl:x<A.length:=(de hx).1;have ndx:=f.nd x;rw[e4] at ndx;obtain⟨lq,ndq⟩:=FB.mp ndx;have lfp:l∉fp:=λz=>(f.fr x l hl).2 (.inr z);have qF:∀b∈fq,b∈F x:=λb hb=>by rw[e4]; exact bX _ hb
 refine⟨l,ws,hσ,e2,e3.length,e3.dens λv d g hg o=>o.den bq λb hb u e=>e,o.den bq λb hb u e=>e,λws' ds' hd=>?_⟩;have h12:∀b,b≠l->∀u,H b=some u->(L2.upd H l (.lst ws')) b=some u:=λb nb u e=>by rw[bT nb]; exact e
 refine⟨_,f.upd (fx:=[l]) (y:=(1,.lst ds')) fr hl hxl hσ (by simp) (λb hb=>by rw[Fi.mp hb]; exact .inl hl) h12 (by rw[cQ]; simp) ⟨l,_,[],rfl,cQ,OwnL.zero ?_,rfl⟩⟩;have sub:Sub (hid (aP (λb=>N b\/b∈fp) F) H) (hid (aP N λi=>if i=x then [l] else F i) (L2.upd H l (.lst ws'))):=λb u e=>by
  obtain⟨g1,g2⟩:=aS.mp e;have bl:b≠l:=λy=>g1 (.inr ⟨x,y ▸ hl⟩);refine aS.mpr ⟨λy=>?_,h12 b bl u g2⟩;rcases y with y | ⟨i,y⟩
  .exact g1 (.inl (.inl y))
  .by_cases z:i=x
   .simp only[if_pos z] at y; exact bl (Fi.mp y)
   .simp only[if_neg z] at y;exact g1 (.inr ⟨i,y⟩)
 have see:∀b,(b∈fq\/b∈fp)->∀u,H b=some u->hid (aP N λi=>if i=x then [l] else F i) (L2.upd H l (.lst ws')) b=some u:=λb hb u e=>by
  have bl:b≠l:=λz=>hb.elim (λy=>lq (z ▸ y)) λy=>lfp (z ▸ y);refine aS.mpr ⟨λy=>?_,h12 b bl u e⟩;rcases y with y | ⟨i,y⟩
  .rcases hb with q | q
   .exact (f.fr x b (qF b q)).2 (.inl y)
   .exact (fr b q).2 y
  .by_cases z:i=x
   .simp only[if_pos z] at y; exact bl (Fi.mp y)
   .simp only[if_neg z] at y;rcases hb with q | q
    .exact z (f.dj i x b y (qF b q))
    .exact (f.fr i b y).2 (.inr q)
 exact hd _ (e3.dens λv d g hg o=>o.den sub λb hb u e=>see b (.inl (hg b hb)) u e) (o.den sub λb hb u e=>see b (.inr hb) u e)
theorem Den.scal (hs:d.scal=true)(h:Den W S v d):Den W S' v d:=by
 cases h <;> first | exact .non | exact .bl | exact .int | exact .str | (simp[D.scal] at hs)
theorem Dens.scal:∀{vs:ar} {ds:av},ds.all D.scal=true->Dens W S vs ds->Dens W S' vs ds:=by
 intro _ _ hs hZ;cases hZ with
 | nil=>exact .nil
 | cons h q=>
  rw[List.all_cons,tw] at hs;exact .cons (h.scal hs.1) (q.scal hs.2)
def vS {x:Nat}(c:cw A[x]? = true):∃k xs,A[x]? = some (some (k,.lst xs)):=by
 cases q:A[x]? with
 | none=>rw[q] at c; cases c
 | some o=>
  rw[q] at c;cases o with
  | none=>cases c
  | some y=>
   obtain⟨k,d⟩:=y;cases d <;> first | exact⟨k,_,rfl⟩ | cases c
def CW {x:Nat}{e:Ex}{Dn:Ends}(hK:W.K=X.K)(h:bK W G n io E (.mut x [] .extend [e]) Dn σ H):cN (gZ X.K "list" (ig X.K) (cA x) (bU (aY W G (Ip.run G n) e E) d8)) Dn σ H:=by
 obtain⟨E0,N,pin,A,F,hp,f,h⟩:=h;rw[Ip.kA] at h;by_cases c:cw A[x]? = true
 rotate_left
 .rw[if_neg c] at h; exact h.elim
 rw[if_pos c] at h;obtain⟨k,xs,hx⟩:=vS c;obtain⟨v,hv,ow⟩:=f.rel x _ hx;have dv:Den W H v (.lst xs):=ow.den bq λ_ _ _ e=>e;unfold cN gZ;refine⟨v,hv,?_,?_⟩
 .cases dv with | @lst l ws _ h1 h2=>?_
  exact .inl ⟨rfl,ws,.inl h1⟩
 simp only[Ip.cj,bP,Ip.R.toO,Ip.R.bind] at h;unfold bU;refine km f ?_;cases q:Ip.eval G (Ip.run G n) A.sl e with
 | bad=>rw[q] at h; exact h
 | ok y=>
  rw[q] at h;simp only[d7] at h;have e1:(if ([y].all λv=>v.2.fb v.1)=true then A else frz (Ex.namess [e]) A)=Ip.settle e.names A y:=by
   unfold Ip.settle;simp
  rw[e1] at h;intro w H1 fv;cases q2:(Ip.settle e.names A y)[x]? with
  | none=>rw[q2] at h; exact h.elim
  | some o=>
   rw[q2] at h;cases o with
   | none=>exact h.elim
   | some z=>
    obtain⟨k',d⟩:=z;cases k' with
    | zero=>cases d <;> exact h.elim
    | succ k'=>
     cases d <;> try (exact h.elim)
     rename_i ys;simp only[eI,Ip.sJ] at h;obtain⟨j,dy⟩:=y;cases dy <;> try (exact h.elim)
     rename_i zs;simp only at h;by_cases hl:zs.all D.scal=true/\ys.length+zs.length<=SL
     .rw[if_pos hl] at h;obtain⟨l,ws,g1,g2,g3,g4,g5,g6⟩:=o3 fv q2;rw[hv] at g1;cases g1;cases g5 with | @tup b vs _ t1 t2=>?_
      obtain⟨F',g7⟩:=g6 (ws++vs) (ys++zs) λS hS _=>hS.append (t2.scal hl.1);refine⟨l,b,ws,vs,rfl,rfl,g2,hK ▸ t1,by rw[g3,t2.length]; exact gL hl.2,h _ _ _ g7⟩
     .rw[if_neg hl] at h; exact h.elim
theorem Dens.setI (h:Den W S v d):∀{vs:ar} {ds:av} (j:Nat),Dens W S vs ds->Dens W S (vs.set j v) (ds.set j d)
 | _,_,_,.nil=>.nil
 | _,_,0,.cons _ q=>.cons h q
 | _,_,j+1,.cons h0 q=>.cons h0 (q.setI h j)
theorem Dens.erase:∀{vs:ar} {ds:av} (j:Nat),Dens W S vs ds->Dens W S (vs.eraseIdx j) (ds.eraseIdx j)
 | _,_,_,.nil=>.nil
 | _,_,0,.cons _ q=>q
 | _,_,j+1,.cons h0 q=>.cons h0 (q.erase j)
theorem Dens.at:∀{vs:ar} {ds:av} (j:Nat),Dens W S vs ds->ds[j]? = some d->∃v,vs[j]? = some v/\Den W S v d
 | _,_,_,.nil,e=>by simp at e
 | v::_,_,0,.cons h q,e=>by
  cases e;exact⟨v,rfl,h⟩
 | _,_,j+1,.cons h0 q,e=>by
  obtain⟨v,e1,e2⟩:=q.at j (by simpa using e);exact⟨v,by simpa using e1,e2⟩
def A5 (h:bK W G n io E (.put x [] (.var j) e) Dn σ H):jS (cA x) (cA j) (aY W G (Ip.run G n) e E) Dn σ H:=by
 obtain⟨E0,N,pin,A,F,hp,f,h⟩:=h;rw[Ip.sj] at h;simp only[List.isEmpty_nil,if_true] at h;unfold jS;refine km f ?_;cases q:Ip.eval G (Ip.run G n) A.sl e with
 | bad=>rw[q] at h; exact h
 | ok y=>
  rw[q] at h;simp only[Ip.R.toO,Ip.ku] at h;cases qj:A.sl[j]? with
  | none=>rw[qj] at h; exact h.elim
  | some oj=>
   cases oj with
   | none=>rw[qj] at h; exact h.elim
   | some dj=>
    rw[qj] at h;simp only at h;intro w H1 fv;cases q2:(Ip.settle e.names A y)[x]? with
    | none=>rw[q2] at h; exact h.elim
    | some o=>
     rw[q2] at h;cases o with
     | none=>exact h.elim
     | some z=>
      obtain⟨k',d⟩:=z;cases k' with
      | zero=>cases d <;> exact h.elim
      | succ k'=>
       cases d <;> try (exact h.elim)
       rename_i ys;simp only[Ip.hG] at h;cases dj <;> try (exact h.elim)
       rename_i i;simp only at h;by_cases hl:0<=i/\i<(ys.length:Int)
       .rw[if_pos hl] at h;obtain⟨l,ws,g1,g2,g3,g4,g5,g6⟩:=o3 fv q2;obtain⟨F',g7⟩:=g6 (ws.set i.toNat w) (ys.set i.toNat y.2) λS hS hw=>hS.setI hw _;obtain⟨kj,hj⟩:=l5 qj;obtain⟨vj,s1,s2⟩:=f.rel j _ hj;have dj:Den W H vj (.int i):=s2.den bq λ_ _ _ e=>e;cases dj;exact⟨.ref l,g1,.int i,s1,l,ws,i,rfl,rfl,g2,hl.1,by rw[g3]; exact hl.2,h _ _ _ g7⟩
       .rw[if_neg hl] at h; exact h.elim
end
section
variable {X:Cx}{W:Wd}{G:Pg}{n:Nat}{io:ai}{E:St->XK}{E0:Hp}{N:Addr->Prop}{pin:List (Nat×V)}{A:Fr}{σ:St}{H:Hp}{F:Nat->ak}
theorem Dens.isI:∀{vs:ar} {ds:av},Dens W S vs ds->ds.all D.isI=true->vs.all isIntV=true/\ds.all D.scal=true
 | _,_,.nil,_=>⟨rfl,rfl⟩
 | _,_,.cons (d:=d) h q,hs=>by
  rw[List.all_cons,tw] at hs;obtain⟨i1,i2⟩:=q.isI hs.2;cases d with
  | int i=>
   rw[h.int_inv,List.all_cons,List.all_cons,i1,i2];exact⟨rfl,rfl⟩
  | _=>cases hs.1
def wA (h:bK W G n io E (.mut x [] .remove [e]) Dn σ H):cN (gZ X.K "list" fT (cA x) (bU (aY W G (Ip.run G n) e E) d8)) Dn σ H:=by
 obtain⟨E0,N,pin,A,F,hp,f,h⟩:=h;rw[Ip.kA] at h;by_cases c:cw A[x]? = true
 rotate_left
 .rw[if_neg c] at h; exact h.elim
 rw[if_pos c] at h;obtain⟨k,xs,hx⟩:=vS c;obtain⟨v,hv,ow⟩:=f.rel x _ hx;have dv:Den W H v (.lst xs):=ow.den bq λ_ _ _ e=>e;unfold cN gZ;refine⟨v,hv,?_,?_⟩
 .cases dv with | @lst l ws _ h1 h2=>?_
  exact .inl ⟨rfl,ws,.inl h1⟩
 simp only[Ip.cj,bP,Ip.R.toO,Ip.R.bind] at h;unfold bU;refine km f ?_;cases q:Ip.eval G (Ip.run G n) A.sl e with
 | bad=>rw[q] at h; exact h
 | ok y=>
  rw[q] at h;simp only[d7] at h;have e1:(if ([y].all λv=>v.2.fb v.1)=true then A else frz (Ex.namess [e]) A)=Ip.settle e.names A y:=by
   unfold Ip.settle;simp
  rw[e1] at h;intro w H1 fv;cases q2:(Ip.settle e.names A y)[x]? with
  | none=>rw[q2] at h; exact h.elim
  | some o=>
   rw[q2] at h;cases o with
   | none=>exact h.elim
   | some z=>
    obtain⟨k',d⟩:=z;cases k' with
    | zero=>cases d <;> exact h.elim
    | succ k'=>
     cases d <;> try (exact h.elim)
     rename_i ys;simp only[eI,Ip.ym] at h;obtain⟨j,dy⟩:=y;cases dy <;> try (exact h.elim)
     rename_i i;simp only at h;by_cases hl:ys.all D.isI=true
     .rw[if_pos hl] at h;cases hf:D.find (.int i) ys with
      | none=>rw[hf] at h; exact h.elim
      | some j=>
       rw[hf] at h;obtain⟨l,ws,g1,g2,g3,g4,g5,g6⟩:=o3 fv q2;rw[hv] at g1;cases g1;obtain⟨i1,i2⟩:=g4.isI hl;have fi:=Dens.find g5 rfl g4 i2;have e5:=g5.int_inv;subst e5;obtain⟨F',g7⟩:=g6 (ws.eraseIdx j) (ys.eraseIdx j) λS hS _=>hS.erase j;exact⟨l,ws,i,j,rfl,rfl,g2,i1,fi.trans hf,h _ _ _ g7⟩
     .rw[if_neg hl] at h; exact h.elim
end
section
variable {X:Cx}{W:Wd}{G:Pg}{n:Nat}{io:ai}{E:St->XK}{E0:Hp}{N:Addr->Prop}{pin:List (Nat×V)}{A:Fr}{σ:St}{H:Hp}{F:Nat->ak}
def FrF.chg {H':Hp}{fp:ak}{x:Nat}{v0:V}{y:KD}{M:Addr->Prop}(f:FrF W E0 N pin A σ H F)(hx:x<A.length)(hσ:σ[x]? = some (some v0))(nd:fp.Nodup)(g1:Sub (hid (λb=>b∈F x) H) H')(hf:∀b∈fp,hid (λb=>b∈F x) H b=none)
  (hM:∀b,N b->M b)(ow:Own W (hid (λb=>M b\/b∈fp) H') H' y.1 v0 y.2 fp)(hb:D.fb y.1 y.2=true):FrF W E0 N pin (A.set x (some y)) σ H' λj=>if j=x then fp else F j:=by
 have keep:∀b u,H b=some u->b∉F x->H' b=some u:=λb u e nb=>g1 b u (aS.mpr ⟨nb,e⟩);have far:∀b∈fp,b∉F x->H b=none:=λb hb nb=>by
  cases q:H b with
  | none=>rfl
  | some u=>have:=hf b hb; rw[aS.mpr ⟨nb,q⟩] at this; cases this
 have mem:∀j b,b∈(if j=x then fp else F j)->(j=x/\b∈fp)\/(j≠x/\b∈F j):=λj b h=>by
  by_cases z:j=x
  .rw[if_pos z] at h; exact .inl ⟨z,h⟩
  .rw[if_neg z] at h; exact .inr ⟨z,h⟩
 have apart:∀j b,j≠x->b∈F j->b∉F x:=λj b z h h'=>z (f.dj j x b h h');have old:∀j b,j≠x->b∈F j->b∈fp->False:=λj b z h h'=>f.dom h (far b h' (apart j b z h));have sub:Sub (hid (aP N F) H) (hid (aP N λj=>if j=x then fp else F j) H'):=λb u e=>by
  obtain⟨e1,e2⟩:=aS.mp e;have nx:b∉F x:=λz=>e1 (.inr ⟨x,z⟩);refine aS.mpr ⟨λz=>?_,keep b u e2 nx⟩;rcases z with z | ⟨j,z⟩
  .exact e1 (.inl z)
  .rcases mem j b z with ⟨_,q⟩ | ⟨_,q⟩
   .rw[far b q nx] at e2; cases e2
   .exact e1 (.inr ⟨j,q⟩)
 refine⟨λb u e=>keep b u (f.sub b u e) λz=>?_,λb z=>?_,by rw[FD]; exact f.len,f.pn,λj=>?_,λi j b h1 h2=>?_,λj b h=>?_,λj z hz=>?_,λj hj=>?_⟩
 .rw[(f.fr x b z).1] at e; cases e
 .cases e:H b with
  | none=>exact absurd e (f.nok b z)
  | some u=>rw[keep b u e λq=>(f.fr x b q).2 z]; simp
 .by_cases z:j=x
  .simp only[if_pos z]; exact nd
  .simp only[if_neg z]; exact f.nd j
 .rcases mem i b h1 with ⟨z1,q1⟩ | ⟨z1,q1⟩ <;> rcases mem j b h2 with ⟨z2,q2⟩ | ⟨z2,q2⟩
  .rw[z1,z2]
  .exact (old j b z2 q2 q1).elim
  .exact (old i b z1 q1 q2).elim
  .exact f.dj i j b q1 q2
 .rcases mem j b h with ⟨z,q⟩ | ⟨z,q⟩
  .by_cases nb:b∈F x
   .exact f.fr x b nb
   .have h0:=far b q nb;exact⟨f.sub.none h0,λw=>f.nok b w h0⟩
  .exact f.fr j b q
 .by_cases q:j=x
  .subst q;rw[Fo hx] at hz;cases hz;refine⟨_,hσ,?_⟩;simp only[if_true];refine ow.hide (λa vs h=>?_) hb;rcases h with h | h
   .refine .inl ?_;have noF:∀i,i≠j->a∉F i:=λi zi z=>by
     have h':Rd H' a (.tup vs):=Rd.sub bq h;cases q:H a with
     | none=>exact f.dom z q
     | some o=>
      have e:=keep a o q (apart i a zi z);refine f.noTup z vs ?_;rcases h' with h' | ⟨u,h'⟩
      .rw[e] at h'; cases h'; exact .inl q
      .rw[e] at h'; cases h'; exact .inr ⟨u,q⟩
    have vis:∀o,hid (λb=>M b\/b∈fp) H' a=some o->hid (aP N λi=>if i=j then fp else F i) H' a=some o:=λo e=>by
     obtain⟨g1,g2⟩:=aS.mp e;refine aS.mpr ⟨λz=>?_,g2⟩;rcases z with z | ⟨i,z⟩
     .exact g1 (.inl (hM a z))
     .rcases mem i a z with ⟨_,q⟩ | ⟨zi,q⟩
      .exact g1 (.inr q)
      .exact noF i zi q
    rcases h with h | ⟨u,h⟩
    .exact .inl (vis _ h)
    .exact .inr ⟨u,vis _ h⟩
   .exact .inr h
  .rw[Fl λy=>q y.symm] at hz;obtain⟨w,h1,h2⟩:=f.rel j z hz;refine⟨w,h1,?_⟩;simp only[if_neg q];exact h2.mono sub λb hb u e=>keep b u e (apart j b q hb)
 .by_cases z:j=x
  .subst z;exact absurd (Fo hx) (hj y)
  .simp only[if_neg z];exact f.em j λy w=>hj y (by rw[Fl λy=>z y.symm]; exact w)
def sL {f k:Nat}{F:Fn}(h:dk G f k=some F):G.fn f=some F/\F.io=[0]/\k=F.np:=by
 unfold dk at h;obtain⟨F',e,r⟩:=bZ h;split at r
 .rename_i c; cases r; exact⟨e,c⟩
 .cases r
def xm {f x:Nat}{es:aC}{Fn':Fn}{Dn:Ends}(hF:dk G f (es.length+1)=some Fn')(h:bK W G n io E (.byref f x es) Dn σ H):cN (dN (fc W G n f Fn') [] E (bU (cA x) (bJ W G (Ip.run G n) es E))) Dn σ H:=by
 obtain⟨E0,N,pin,A,F,hp,f0,h⟩:=h;obtain⟨_,hio,_⟩:=sL hF;rw[Ip.oM,hF] at h;dsimp only at h;unfold cN dN bU;have f1:=f0.frz (Ex.namess es);have hN:NOk (aP N (bG (Ex.namess es) F)) H:=λb z=>z.elim (f0.nok b) λ⟨j,q⟩=>f1.dom q;cases q:evals G (Ip.run G n) A.sl es with
 | bad=>rw[q] at h; exact h.elim
 | ok vs=>
  rw[q] at h;simp only[Ip.R.toO] at h;cases hx:A[x]? with
  | none=>rw[hx] at h; exact h.elim
  | some o=>
   cases o with
   | none=>rw[hx] at h; exact h.elim
   | some y=>
    rw[hx] at h;simp only[Ip.gX] at h;by_cases nc:(Ex.namess es).contains x=true
    .rw[if_pos nc] at h; exact h.elim
    rw[if_neg nc] at h;have nx:x∉Ex.namess es:=λz=>nc (GJ.mpr z);obtain⟨v0,hσ,ow⟩:=f0.rel x y hx;refine⟨v0,hσ,aP N (bG (Ex.namess es) F),mask (Ex.namess es) A.sl,hN,λi d hi=>?_,?_⟩
    .obtain⟨h1,h2⟩:=mU hi;obtain⟨k,h3⟩:=l5 h2;exact f0.see h1 h3
    rw[<-zAC (a:=A.sl) es λi hi=>nU hi,q];intro ws H1 r;have hs:=r.1;have dv:=r.dens hN;show fc W G n f Fn' ((v0::ws)++[]) H1 _ _;rw[Ga];have g:=f0.grow hs (fp:=[]) λb z=>by simp at z
    have eN:(λb=>N b\/b∈([]:ak))=N:=funext λb=>propext (by simp);rw[eN] at g;have inX:∀b,b∈F x->aP N (bG (Ex.namess es) F) b:=λb hb=>.inr ⟨x,by unfold bG; rw[if_neg nx]; exact hb⟩;refine .inr ⟨hio,λb=>aP N (bG (Ex.namess es) F) b/\b∉F x,y,vs,v0,ws,F x,rfl,λb z=>hN.mono hs b z.1,f0.nd x,λb hb z=>z.2 hb,ow.mono (λb u e=>?_) λb _ u e=>hs b u e,dv.mono λb u e=>?_,?_⟩
    .obtain⟨e1,e2⟩:=aS.mp e;exact aS.mpr ⟨λz=>z.elim (λw=>e1 (mw w.1)) λw=>e1 (.inr ⟨x,w⟩),hs b u e2⟩
    .obtain⟨e1,e2⟩:=aS.mp e;exact aS.mpr ⟨λz=>z.elim (λw=>e1 w.1) λw=>e1 (inX b w),e2⟩
    .cases qr:Ip.run G n f (y::vs) with
     | bad=>rw[qr] at h; exact h
     | ret k d outs=>
      rw[qr] at h;cases d <;> try (exact h.elim)
      match outs,h with
      | [],h=>exact h.elim
      | _::_::_,h=>exact h.elim
      | [z],h=>
       intro v H' fp g1 nd hf ow2 hv;simp only[Ip.jT] at h;by_cases hb:D.fb z.1 z.2=true
       .rw[if_pos hb] at h;exact h σ H' _ (g.chg (de hx).1 hσ nd g1 hf (λb w=>⟨.inl w,λq=>(f0.fr x b q).2 w⟩) ow2 hb)
       .rw[if_neg hb] at h; exact h.elim
theorem OwnL.pick {S:Hp}{k:Nat}:∀{vs:ar} {ds:av} {fq:ak} {i:Nat} {d:D},OwnL (Own W S H k) vs ds fq->fq.Nodup->ds[i]? = some d ->
  ∃w f1,vs[i]? = some w/\Own W S H k w d f1/\f1.Nodup/\(∀b∈f1,b∈fq)/\∀S2 H2 d',Sub S S2->(∀b∈fq,b∉f1->∀u,H b=some u->H2 b=some u)->Own W S2 H2 k w d' f1->OwnL (Own W S2 H2 k) vs (ds.set i d') fq
 | _,_,_,i,_,.nil,_,h=>by simp at h
 | _,_,_,0,d,.cons (v:=w) (f:=f0) (g:=g0) h0 q,nd,h=>by
  simp at h;subst h;obtain⟨n1,n2,n3⟩:=Fv.mp nd;refine⟨w,f0,rfl,h0,n1,λb hb=>dZ _ hb,λS2 H2 d' hs hb hw=>?_⟩;rw[List.set_cons_zero];exact .cons hw (q.imp λv d f hf o=>o.mono hs λb hb' u e=>hb b (ck _ (hf b hb')) (λz=>n3 b z b (hf b hb') rfl) u e)
 | _,_,_,i+1,d,.cons (f:=f0) (g:=g0) h0 q,nd,h=>by
  obtain⟨n1,n2,n3⟩:=Fv.mp nd;obtain⟨w,f1,k1,k2,k3,k4,k5⟩:=q.pick (i:=i) n2 (by simpa using h);refine⟨w,f1,by simpa using k1,k2,k3,λb hb=>ck _ (k4 b hb),λS2 H2 d' hs hb hw=>?_⟩;rw[List.set_cons_succ];exact .cons (h0.mono hs λb hb' u e=>hb b (dZ _ hb') (λz=>n3 b hb' b (k4 b z) rfl) u e) (k5 S2 H2 d' hs (λb hb'=>hb b (ck _ hb')) hw)
def jI (H:Hp):ai->V->Addr->Prop
 | [],v,a=>v=.ref a
 | n::ns,v,a=>∃l vs w,v=.ref l/\H l=some (.lst vs)/\vs[n]? = some w/\jI H ns w a
def wa {xs:av}(h:xs.all D.isI=true):D.flats xs=true:=by
 rw[Ip.mD,List.all_eq_true];intro d hd;have:=dI h d hd;cases d <;> first | rfl | cases this
theorem Own.nest {S:Hp}{rm:Bool}{c:Int}:∀{ns:ai} {k:Nat} {v:V} {d d':D} {fp:ak},Own W S H k v d fp->ns.length<k->fp.Nodup->Ip.cU rm c ns d=some d' ->
  ∃a ws ys zs,jI H ns v a/\a∈fp/\H a=some (.lst ws)/\Dens W S ws ys/\eh rm c ys=some zs/\∀S2 H2 ws',Sub S S2->(∀b∈fp,b≠a->∀u,H b=some u->H2 b=some u)->H2 a=some (.lst ws')->zs.all D.isI=true->Dens W S2 ws' zs->Own W S2 H2 k v d' fp
 | [],0,_,_,_,_,_,hk,_,_=>by simp at hk
 | _::_,0,_,_,_,_,_,hk,_,_=>by simp at hk
 | [],k+1,v,d,d',fp,o,_,nd,h=>by
  cases d <;> try (cases h; done)
  rename_i ys;obtain⟨zs,e,rfl⟩:=cg (show (eh rm c ys).map _=some d' from h);obtain⟨a,ws,fq,rfl,e2,e3,e4⟩:=o;have hy:ys.all D.isI=true:=by
   unfold eh at e;by_cases c:ys.all D.isI=true
   .exact c
   .rw[if_neg c] at e; cases e
  obtain⟨z1,z2⟩:=OwnL.flat_inv (λv d f hd o=>Own.flat_inv hd o) (wa hy) e3;subst z1;refine⟨a,ws,ys,zs,rfl,by rw[e4]; exact bW,e2,z2,e,λS2 H2 ws' hs hb h2 hz hw=>⟨a,ws',[],rfl,h2,OwnL.flat (λv d hd q=>Own.flat hd q) (wa hz) hw,e4⟩⟩
 | i::ns,k+1,v,d,d',fp,o,hk,nd,h=>by
  cases d <;> try (cases h; done)
  rename_i ds;obtain⟨d1,e1,r1⟩:=bZ (show (ds[i]?).bind _=some d' from h);obtain⟨d2,r2,rfl⟩:=cg r1;obtain⟨l,vs,fq,rfl,e2,e3,e4⟩:=o;rw[e4] at nd;obtain⟨lq,ndq⟩:=FB.mp nd;obtain⟨w,f1,k1,k2,k3,k4,k5⟩:=e3.pick ndq e1;obtain⟨a,ws,ys,zs,m1,m2,m3,m4,m5,m6⟩:=Own.nest k2 (by simpa using hk) k3 r2;have am:=k4 a m2;refine⟨a,ws,ys,zs,⟨l,vs,w,rfl,e2,k1,m1⟩,by rw[e4]; exact bX _ am,m3,m4,m5,λS2 H2 ws' hs hb h2 hz hw=>?_⟩;rw[e4] at hb;refine⟨l,vs,fq,rfl,hb l bW (λz=>lq (z ▸ am)) _ e2,k5 S2 H2 d2 hs (λb hb' nb=>hb b (bX _ hb') λz=>nb (z ▸ m2)) (m6 S2 H2 ws' hs (λb hb'=>hb b (bX _ (k4 b hb'))) h2 hz hw),e4⟩
def gQ (rm:Bool)(c:Int)(ws ws':ar):Prop:=if rm=true then ws.all isIntV=true/\∃j,(ws.findIdx? λz=>eqV z (.int c))=some j/\ws'=ws.eraseIdx j else ws.length<sizeLine/\ws'=ws++[.int c]
theorem p7 {S S':Hp}:∀{ws:ar} {ys:av},Dens W S ws ys->ys.all D.isI=true->Dens W S' ws ys
 | _,_,.nil,_=>.nil
 | _,_,.cons (d:=d) hx t,h=>by
  rw[List.all_cons,tw] at h;cases d <;> first | (cases h.1; done) | skip
  rw[hx.int_inv];exact .cons .int (p7 t h.2)
def Da {rm:Bool}{c:Int}{ys zs:av}{ws:ar}{S:Hp}(dw:Dens W S ws ys)(h:eh rm c ys=some zs):∃ws',gQ rm c ws ws'/\zs.all D.isI=true/\∀S',Dens W S' ws' zs:=by
 unfold eh at h;by_cases hy:ys.all D.isI=true
 rotate_left
 .rw[if_neg hy] at h; cases h
 rw[if_pos hy] at h;obtain⟨i1,i2⟩:=dw.isI hy;cases rm with
 | true=>
  rw[if_pos rfl] at h;obtain⟨j,e,rfl⟩:=cg h;refine⟨ws.eraseIdx j,?_,List.all_eq_true.mpr λd hd=>dI hy d (List.mem_of_mem_eraseIdx hd),λS'=>(p7 dw hy).erase j⟩;unfold gQ;rw[if_pos rfl];exact⟨i1,j,(Dens.find (d:=.int c) .int rfl dw i2).trans e,rfl⟩
 | false=>
  rw[if_neg (by simp)] at h;by_cases hl:ys.length<SL
  .rw[if_pos hl] at h;cases h;refine⟨ws++[.int c],?_,by rw[List.all_append,hy]; rfl,λS'=>(p7 dw hy).append (.cons .int .nil)⟩;unfold gQ;rw[if_neg (by simp),dw.length];exact⟨dR hl (gL (bu _)),rfl⟩
  .rw[if_neg hl] at h; cases h
def EI {o:Option ax}{n:Nat}(h:natO o=some n):∃k m,o=some (some (k,.int m))/\0<=m/\m.toNat=n:=by
 unfold natO at h;split at h
 .rename_i k m;by_cases c:0<=m
  .rw[if_pos c] at h; cases h; exact⟨k,m,rfl,c,rfl⟩
  .rw[if_neg c] at h; cases h
 .cases h
def zk {o:Option ax}{m:Int}(h:intF o=some m):∃k,o=some (some (k,.int m)):=by
 unfold intF at h;split at h
 .cases h; exact⟨_,rfl⟩
 .cases h
theorem FrF.int (f:FrF W E0 N pin A σ H F){i k:Nat}{m:Int}(h:A[i]? = some (some (k,.int m))):σ[i]? = some (some (.int m)):=by
 obtain⟨v,e,o⟩:=f.rel i _ h;rw[e,(o.den bq λ_ _ _ e=>e:Den W H v (.int m)).int_inv]
def gA (K:be):TE->ai->TE
 | t,[]=>t
 | t,i::is=>gA K (iF (jF K) t (cA i)) is
theorem sW {K:be}(f:FrF W E0 N pin A σ H F){a:Addr}{Q:VK}(hq:Q (.ref a) H):∀{is ns:ai} {v:V} {t:TE},natsO A is=some ns->jI H ns v a->(∀R:VK,R v H->t σ H R)->gA K t is σ H Q
 | [],_,v,t,h,p,ht=>by
  cases h;cases (show v=.ref a from p);exact ht _ hq
 | i::is,_,v,t,h,p,ht=>by
  obtain⟨n,e1,r1⟩:=bZ (show (natO A[i]?).bind _=some _ from h);obtain⟨ns,e2,rfl⟩:=cg r1;obtain⟨k,m,e3,m0,rfl⟩:=EI e1;obtain⟨l,vs,w,rfl,g1,g2,g3⟩:=p;show gA K (iF (jF K) t (cA i)) is σ H Q;refine sW f hq e2 g3 λR hr=>ht _ ⟨.int m,f.int e3,l,vs,m,w,rfl,rfl,.inl (.inl g1),?_,hr⟩;have hl:m.toNat<vs.length:=(de g2).1;have hl2:m<vs.length:=by omega
  unfold jl i9;rw[if_pos m0,if_pos hl2];exact g2
def tT {x j:Nat}{is:ai}{rm:Bool}{Dn:Ends}(h:bK W G n io E (.nest x is rm j) Dn σ H):∃a ws c ws',(∀Q:VK,Q (.ref a) H->gA X.K (cA x) is σ H Q)/\H a=some (.lst ws)/\σ[j]? = some (some (.int c))/\gQ rm c ws ws'/\Dn.nx σ (upd H a (.lst ws')):=by
 obtain⟨E0,N,pin,A,F,hp,f,h⟩:=h;rw[Ip.tN] at h;have f:=f.grow (Sub.refl H) (fp:=[]) λb z=>by simp at z
 have fr:∀b∈([]:ak),E0 b=none/\¬N b:=λb z=>by simp at z
 cases hx:A[x]? with
 | none=>rw[hx] at h; exact h.elim
 | some o=>
  cases o with
  | none=>rw[hx] at h; exact h.elim
  | some z=>
   obtain⟨k,d⟩:=z;rw[hx] at h;simp only[Ip.fW] at h;by_cases hk:is.length<k
   rotate_left
   .rw[if_neg hk] at h; exact h.elim
   rw[if_pos hk] at h;cases e1:natsO A is with
   | none=>rw[e1] at h; exact h.elim
   | some ns=>
    cases e2:intF A[j]? with
    | none=>rw[e1,e2] at h; exact h.elim
    | some c=>
     rw[e1,e2] at h;simp only[Option.bind] at h;cases e3:Ip.cU rm c ns d with
     | none=>rw[e3] at h; exact h.elim
     | some d'=>
      rw[e3] at h;obtain⟨kj,e4⟩:=zk e2;obtain⟨v,hσ,ow⟩:=f.rel x _ hx;have hl:∀{is ns:ai},natsO A is=some ns->ns.length=is.length:=by
       intro is;induction is with
       | nil=>intro ns h; cases h; rfl
       | cons i is ih=>
        intro ns h;obtain⟨n,_,r1⟩:=bZ (show (natO A[i]?).bind _=some _ from h);obtain⟨ns',e2,rfl⟩:=cg r1;rw[List.length_cons,List.length_cons,ih e2]
      obtain⟨a,ws,ys,zs,m1,m2,m3,m4,m5,m6⟩:=ow.nest (by rw[hl e1]; exact hk) (f.nd x) e3;obtain⟨ws',c1,c2,c3⟩:=Da m4 m5;refine⟨a,ws,c,ws',λQ hq=>sW f hq e1 m1 λR hr=>⟨v,hσ,hr⟩,m3,f.int e4,c1,?_⟩;have h12:∀b,b≠a->∀u,H b=some u->(L2.upd H a (.lst ws')) b=some u:=λb nb u e=>by rw[bT nb]; exact e
      have sub:Sub (hid (aP (λb=>N b\/b∈([]:ak)) F) H) (hid (aP N λj=>if j=x then F x else F j) (L2.upd H a (.lst ws'))):=λb u e=>by
       obtain⟨g1,g2⟩:=aS.mp e;refine aS.mpr ⟨λy=>?_,h12 b (λy=>g1 (.inr ⟨x,y ▸ m2⟩)) u g2⟩;rcases y with y | ⟨j,y⟩
       .exact g1 (.inl (.inl y))
       .by_cases z:j=x
        .simp only[if_pos z] at y; exact g1 (.inr ⟨x,y⟩)
        .simp only[if_neg z] at y; exact g1 (.inr ⟨j,y⟩)
      exact h _ _ _ (f.upd (fx:=F x) (y:=(k,d')) fr m2 (de hx).1 hσ (f.nd x) (λb hb=>.inl hb) h12 (by rw[cQ]; simp) (m6 _ _ ws' sub (λb _ nb u e=>h12 b nb u e) cQ c2 (c3 _)))
end
structure Gs (W:Wd)(G:Pg)(T:Tb)(n:Nat)(E:St->XK)(sc:Scope)(N:ao)(X:Cx):Prop where
 gd:Gd W G T n E sc N X
 own:PassesOwn (model X.prog X.w) X.A X.env X.xe
 stk:∃L outer,X.stack=X.env::outer/\X.env.frame=some L
 scq:X.env.scope=sc
section
variable {W:Wd}{G:Pg}{T:Tb}{n:Nat}{io:ai}{m:Nat}{E:St->XK}{sc:Scope}{N:ao}{X:Cx}
def jG {st:Stmt}{i:Nat}:PS X st (bK W G n io E (.set i .bad)):=λpins s σ H Dn I ⟨_,_,_,_,_,_,_,h⟩=>by
 rw[Ip.kI,f7] at h; exact h.elim
def Ax {st:Stmt}:PS X st (bK W G n io E (.ex .bad)):=λpins s σ H Dn I ⟨_,_,_,_,_,_,_,h⟩=>by
 rw[Ip.pL,f7] at h; exact h.elim
def vm (e:Expr):(∃a b c d,e=.ListComp a b c d)\/(∀T sc N m,cE T sc N m e=.bad)\/∀t l env,swapsWith e t l env=pure false:=by
 cases e <;> first
  | exact .inl ⟨_,_,_,_,rfl⟩
  | exact .inr (.inr λ_ _ _=>rfl)
  | (refine .inr (.inl λT sc N m=>?_); cases m <;> rfl)
def yL (g:Gs W G T n E sc N X)(x:Str)(p:Pos)(e:Expr)(pos:Pos)(i:Nat)(hl:bw sc x=true)(hi:pos? x N=some i):PS X (.Assign [.Name x p] e pos) (bK W G n io E (.set i (cE T sc N m e))):=by
 obtain⟨l1,l2⟩:=g.gd.loc x hl;have hN:X.N.Nodup:=by rw[g.gd.nm]; exact g.gd.nd
 have hx:X.N[i]? = some x:=by rw[g.gd.nm]; exact pos?_get hi
 rcases vm e with ⟨el,gs,scope,cp,rfl⟩ | hb | hs
 .have hsw:∃b,swapsWith (.ListComp el gs scope cp) (some (.Name x p)) pos.line X.env=pure b:=⟨_,rfl⟩
  obtain⟨b,hsw⟩:=hsw;cases b with
  | false=>exact (sA hN hx l1 ((eQ m).e g.gd _) hsw l2).mono λDn σ H h=>pC h
  | true=>
   cases m with
   | zero=>exact jG
   | succ m=>
    have ih:=eQ (W:=W) (G:=G) (T:=T) (n:=n) m;match gs with
    | []=>exact jG
    | ⟨_,_,_,_⟩::_::_=>exact jG
    | [⟨tg,iter,ifs,as⟩]=>
     simp only[Ip.uu];by_cases h:(Ip.cP sc N (Ip.aQ scope) (Ip.bc N scope) scope&&as == 0&&decide (ifs.length<=1))=true
     rotate_left
     .rw[if_neg h]; exact jG
     rw[if_pos h];simp only[tw,Fm,Fx] at h;obtain⟨⟨hb,has⟩,hln⟩:=h;subst has;cases ht:cz scope (Ip.aQ scope) tg with
     | none=>exact jG
     | some t=>
      by_cases h2:(dJ (cI T sc N m iter).1 t&&(Ip.cM t).all (λi=>(Ip.bc N scope)[i]? == some none))=true
      rotate_left
      .simp only[h2]; exact jG
      simp only[h2,if_true];rw[tw] at h2;rcases qQ iter with ⟨a,b,c,rfl⟩ | hs
      .rintro pins s σ H Dn I ⟨_,_,_,_,_,_,_,q⟩;rw[Ip.kI,Ip.ka,o5,bP,f7] at q;exact q.elim
      .have cp:=vd (e:=el) ih g.gd hb hln ht h2.1 h2.2;exact (CB g.gd.calm cp.hS hN hx l1 cp.hi cp.hg cp.ht cp.he hsw l2 (hs X.env)).mono λDn σ H h=>uB g.gd.K cp.hx (pC h)
 .rw[hb]; exact jG
 .exact (sA hN hx l1 ((eQ m).e g.gd e) (hs _ _ _) l2).mono λDn σ H h=>pC h
def uv (g:Gs W G T n E sc N X)(e:Expr)(pos:Pos)(hl:∀a b c d,e≠.ListComp a b c d):PS X (.Expr e pos) (bK W G n io E (.ex (cE T sc N m e))):=by
 rcases vm e with ⟨a,b,c,d,rfl⟩ | hb | hs
 .exact absurd rfl (hl a b c d)
 .rw[hb]; exact Ax
 .exact (jR ((eQ m).e g.gd e) (hs _ _ _)).mono λDn σ H h=>pT h
def Ds {o:Expr}{f:Str}{p:Pos}(e:Expr)(l:Nat)(env:Env):swapsWith e (some (.Attribute o f p)) l env=pure false:=by
 cases e <;> rfl
def B1 (g:Gs W G T n E sc N X)(es:aq)(k:Nat)(tp:Pos)(e:Expr)(pos:Pos)(is:ai)(hc:Ip.fk e=true)(ht:cz sc N (.Tuple es k tp)=some (.many is)):PS X (.Assign [.Tuple es k tp] e pos) (bK W G n io E (.setT is (cE T sc N m e))):=by
 cases e with
 | Call f args kws cp=>exact (v9 ((eQ m).e g.gd _) (nW g.gd ht)).mono λDn σ H h=>tY g.gd.K h
 | Name x p=>exact (v9 ((eQ m).e g.gd _) (nW g.gd ht)).mono λDn σ H h=>tY g.gd.K h
 | _=>cases hc
def zB (g:Gs W G T n E sc N X)(x:Str)(xp:Pos)(f:Str)(ap:Pos)(e:Expr)(pos:Pos)(k j:Nat)(hv:aU sc x=true)(hok:aM x=true)(hk:pos? x N=some k)(hj:pos? f T.att=some j)(hf:T.fl.contains j=true) :
  PS X (.Assign [.Attribute (.Name x xp) f ap] e pos) (bK W G n io E (.sfld k j (cE T sc N m e))):=by
 unfold aM at hok;simp only[tw,GM] at hok;have hx:X.N[k]? = some x:=by rw[g.gd.nm]; exact pos?_get hk
 have po:=oH (pos:=xp) hx (g.gd.vis x hv) hok.1 hok.2;have he:=(eQ m).e g.gd e;have r1:=D4 (f:=f) (pos:=pos) (pos':=ap) po he (Ds e _ _);intro pins s σ H Dn I h;have hnm:W.att[j]? = some f:=by rw[g.gd.gf.att]; exact pos?_get hj
 exact r1 pins s σ H Dn I (DT g.gd.K g.gd.gf.cf (by simpa using hf) hnm h)
end
section
variable {W:Wd}{G:Pg}{T:Tb}{n:Nat}{io:ai}{m:Nat}{E:St->XK}{sc:Scope}{N:ao}{X:Cx}
def okN {x:Str}(h:aM x=true):(x == ("__debug__" : Str))=false/\(x == ("__classdict__" : Str))=false:=by
 unfold aM at h;simp only[tw,GM] at h;exact h
def ff (g:Gs W G T n E sc N X){x:Str}{p:Pos}{i:Nat}(hv:aU sc x=true)(hok:aM x=true)(hi:pos? x N=some i):PE X (.Name x p) (cA i):=
 oH (by rw[g.gd.nm]; exact pos?_get hi) (g.gd.vis x hv) (okN hok).1 (okN hok).2
def EC (g:Gs W G T n E sc N X)(e:Expr)(pos:Pos)(h:¬nO (cE T sc N m e)=true):PS X (.Return (some e) pos) (bK W G n io E (.ret (cE T sc N m e))):=
 (rQ ((eQ m).e g.gd e)).mono λDn σ H=>vA λi z=>h (by rw[z]; rfl)
def Ci (g:Gs W G T n E sc N X)(x:Str)(p pos:Pos)(i:Nat)(hv:aU sc x=true)(hok:aM x=true)(hi:pos? x N=some i):PS X (.Return (some (.Name x p)) pos) (bK W G n io E (.ret (.var i))):=
 (rQ (ff g hv hok hi)).mono λDn σ H h=>zQ h
def xb (g:Gs W G T n E sc N X)(x s:Str)(k1 k3:Nat)(p1 p2 p3 pos:Pos)(i:Nat)(hv:aU sc x=true)(hok:aM x=true)(hi:pos? x N=some i):PS X (.Return (some (.Tuple [.Constant (.str s) k1 p1,.Name x p2] k3 p3)) pos) (bK W G n io E (.retP s i)):=
 (rQ (tF (gx tj (gx (ff g hv hok hi) iB rfl) rfl))).mono λDn σ H h=>E4 h
def yS (pos:Pos):PS X (.Return none pos) (bK W G n io E (.ret (.cst .non))):=
 BP.mono λDn σ H h=>by
  obtain⟨N0,a,hN,hS,h⟩:=vA (λi=>by simp) h;rw[Ip.nM] at h;exact h _ _ (Res.of_flat (Sub.refl _) rfl .non)
def o7 {e:Expr}{es:aq}{cp:Pos}{env:Env}(ns:aJ (e::es)=true)(hl:es.length<29):((backTo cp (starEach (e::es) env)).all (λx=>!x.1)&&(backToKw cp (keywordEach [] env)).all (λx=>x.1.isSome)
   && decide ((e::es).length+([]:List Keyword).length+(if ([]:List Keyword).isEmpty then 0 else 1)<30))=true:=by
 rw[nV ns];show (true&&true&&decide (es.length+1+0+0<30))=true;rw[FF (by omega)]; rfl
def Dp (g:Gs W G T n E sc N X)(x:Str)(xp mp cp pos:Pos)(e:Expr)(i:Nat)(hv:aU sc x=true)(hok:aM x=true)(hi:pos? x N=some i)(ns:aJ [e]=true)(hp:(mp.endLine == cp.line)=true) :
  PS X (.Expr (.Call (.Attribute (.Name x xp) "append" mp) [e] [] cp) pos) (bK W G n io E (.mut i [] .append [cE T sc N m e])):=by
 have s1:=(d5 ns).1;exact (jR (j9 FX PySem.F.slot_list_append PySem.F.type_list_append pr (ff g hv hok hi) (gx ((eQ m).e g.gd e) iB (di s1)) rfl (o7 ns (by decide)) hp (di s1) rfl) rfl).mono λDn σ H h=>zh g.gd.K h
def B6 (g:Gs W G T n E sc N X)(x:Str)(xp mp cp pos:Pos)(e:Expr)(i:Nat)(hv:aU sc x=true)(hok:aM x=true)(hi:pos? x N=some i)(ns:aJ [e]=true)(hp:(mp.endLine == cp.line)=true) :
  PS X (.Expr (.Call (.Attribute (.Name x xp) "extend" mp) [e] [] cp) pos) (bK W G n io E (.mut i [] .extend [cE T sc N m e])):=by
 have s1:=(d5 ns).1;exact (jR (j9 FX PySem.F.slot_list_extend PySem.F.type_list_extend wu (ff g hv hok hi) (gx ((eQ m).e g.gd e) iB (di s1)) rfl (o7 ns (by decide)) hp (di s1) rfl) rfl).mono λDn σ H h=>CW g.gd.K h
def zC (g:Gs W G T n E sc N X)(x j:Str)(xp jp sp pos:Pos)(e:Expr)(i k:Nat)(hv:aU sc x=true)(hok:aM x=true)(hi:pos? x N=some i)(hv2:aU sc j=true)(hok2:aM j=true)(hk:pos? j N=some k) :
  PS X (.Assign [.Subscript (.Name x xp) (.Name j jp) sp] e pos) (bK W G n io E (.put i [] (.var k) (cE T sc N m e))):=
 (Bk (ff g hv hok hi) (ff g hv2 hok2 hk) ((eQ m).e g.gd e) (by cases e <;> rfl)).mono λDn σ H h=>A5 h
def B5 (g:Gs W G T n E sc N X)(x:Str)(xp mp cp pos:Pos)(e:Expr)(i:Nat)(hv:aU sc x=true)(hok:aM x=true)(hi:pos? x N=some i)(ns:aJ [e]=true)(hp:(mp.endLine == cp.line)=true) :
  PS X (.Expr (.Call (.Attribute (.Name x xp) "remove" mp) [e] [] cp) pos) (bK W G n io E (.mut i [] .remove [cE T sc N m e])):=by
 have s1:=(d5 ns).1;exact (jR (j9 FX GW PySem.F.type_list_remove tR (ff g hv hok hi) (gx ((eQ m).e g.gd e) iB (di s1)) rfl (o7 ns (by decide)) hp (di s1) rfl) rfl).mono λDn σ H h=>wA h
def kl {sc:Scope}{x:Str}(h:cn sc x=true):aU sc x=true/\aM x=true:=Ho.mp h
def E5 (g:Gs W G T n E sc N X){b:Expr}{x:Str}{is:ao}{k:Nat}{ks:ai}(p:Pth b x is)(hx:cn sc x=true)(hi:∀i∈is,cn sc i=true)(hk:pos? x N=some k)(hks:fY N is=some ks):PE X b (gA X.K (cA k) ks):=by
 obtain⟨v1,v2⟩:=kl hx;cases p with
 | @one _ i=>
  obtain⟨a,e1,r1⟩:=bZ (show (pos? i N).bind _=some ks from hks);cases r1;obtain⟨w1,w2⟩:=kl (hi i (by simp));exact nS m8 (ff g v1 v2 hk) (ff g w1 w2 e1) (no λ_ _ _ _ q=>nomatch q)
 | @two _ i j=>
  obtain⟨a,e1,r1⟩:=bZ (show (pos? i N).bind _=some ks from hks);obtain⟨as,e2,rfl⟩:=cg r1;obtain⟨c,e3,r3⟩:=bZ (show (pos? j N).bind _=some as from e2);cases r3;obtain⟨w1,w2⟩:=kl (hi i (by simp));obtain⟨w3,w4⟩:=kl (hi j (by simp));exact nS m8 (nS m8 (ff g v1 v2 hk) (ff g w1 w2 e1) (no λ_ _ _ _ q=>nomatch q)) (ff g w3 w4 e3) (no λ_ _ _ _ q=>nomatch q)
def Cr (g:Gs W G T n E sc N X){b:Expr}{x y f:Str}{is:ao}{k c:Nat}{ks:ai}{rm:Bool}{p4 p5 p6 pos:Pos}(p:Pth b x is)(hx:cn sc x=true)(hi:∀i∈is,cn sc i=true)(hy:cn sc y=true)(hk:pos? x N=some k)(hks:fY N is=some ks)(hc:pos? y N=some c)(hp:(p4.endLine == p5.line)=true)(hf:(f = "append" /\ rm=false)\/(f = "remove" /\ rm=true)) :
  PS X (.Expr (.Call (.Attribute b f p4) [.Name y p6] [] p5) pos) (bK W G n io E (.nest k ks rm c)):=by
 have r:=E5 g p hx hi hk hks;obtain⟨w1,w2⟩:=kl hy;have hs:Ip.eS b=true:=by cases p <;> rfl
 rcases hf with ⟨rfl,rfl⟩ | ⟨rfl,rfl⟩
 .refine (jR (j9 FX PySem.F.slot_list_append PySem.F.type_list_append pr r (gx (ff g w1 w2 hc) iB rfl) (kS hs) rfl hp rfl rfl) rfl).mono λDn σ H h=>?_;obtain⟨a,ws,cc,ws',h1,h2,h3,h4,h5⟩:=tT (X:=X) h;obtain⟨h6,rfl⟩:=(show ws.length<sizeLine/\ws'=ws++[.int cc] from h4)
  exact h1 _ ⟨.inl ⟨rfl,ws,.inl (.inl h2)⟩,.int cc,h3,a,ws,.int cc,rfl,rfl,h2,h6,h5⟩
 .refine (jR (j9 FX GW PySem.F.type_list_remove tR r (gx (ff g w1 w2 hc) iB rfl) (kS hs) rfl hp rfl rfl) rfl).mono λDn σ H h=>?_;obtain⟨a,ws,cc,ws',h1,h2,h3,h4,h5⟩:=tT (X:=X) h;obtain⟨h6,j,h7,rfl⟩:=(show ws.all isIntV=true/\∃j,(ws.findIdx? λz=>eqV z (.int cc))=some j/\ws'=ws.eraseIdx j from h4)
  exact h1 _ ⟨.inl ⟨rfl,ws,.inl (.inl h2)⟩,.int cc,h3,a,ws,cc,j,rfl,rfl,h2,h6,h7,h5⟩
def xP (g:Gs W G T n E sc N X){f x:Str}{as:aq}{k i:Nat}{p p1 p2 pos:Pos}(hk:T.fns.lookup f=some k)(hg:bg sc f=true)(hx:cn sc x=true)(ns:aJ as=true)(hi:pos? x N=some i):PS X (.Expr (.Call (.Name f p) (.Name x p1::as) [] p2) pos) (bK W G n io E (.byref k i (as.map (cE T sc N m)))):=by
 obtain⟨hdb,F,a,hF,hm,kp,fd,ps,fo,bd⟩:=g.gd.gf.fns f k hk;obtain⟨v1,v2⟩:=kl hx;cases q:dk G k (as.length+1) with
 | none=>
  rintro pins s σ H Dn I ⟨_,_,_,_,_,_,_,h⟩;rw[Ip.oM,Fj,q] at h;exact h.elim
 | some F'=>
  obtain⟨e1,hio,hnp⟩:=sL q;rw[hF] at e1;cases e1;obtain⟨ds,dvs,hb,hv,hd⟩:=bd (as.length+1) (by omega) (by omega);have e0:dvs=[]:=by
   have:=hd λ_=>none;unfold cG at this;rw[hnp,Nat.sub_self,Nat.sub_zero,List.drop_length] at this;cases this;rfl
  subst e0;have q':dk G k ((as.map (cE T sc N m)).length+1)=some F:=by rw[Fj]; exact q
  have fo':FnOk X.prog X.w X.K X.mg X.base (ft X.prog X.w) (rm n) a fd ps (fc W G n k F):=g.gd.K ▸ fo;exact (jR (sF fo' (g.gd.room.mono (F0 (rm n))) (g.gd.gl f hg) hm (g.gd.K ▸ kp) (g.gd.K ▸ hb) hv g.gd.pass (gx (ff g v1 v2 hi) ((eQ m).args g.gd as) rfl) hdb rfl (kT ns)) rfl).mono λDn σ H h=>xm q' h
def jU (W:Wd)(G:Pg)(T:Tb)(n m:Nat):Prop:=∀{io:ai} {E:St->XK} {sc:Scope} {N:ao} {X:Cx},Gs W G T n E sc N X->∀st,PS X st (bK W G n io E (cS T sc N m st))
theorem ke (ih:jU W G T n m)(g:Gs W G T n E sc N X):∀sts:aE,PSs X sts (dW W G n io E (sts.map (cS T sc N m)))
 | []=>ye
 | st::sts=>EU (ih g st) (ke ih g sts)
def rP (ih:jU W G T n m)(g:Gs W G T n E sc N X)(c:Expr)(a b:aE)(pos:Pos):PS X (.If c a b pos) (bK W G n io E (.iff (cT T sc N m c) (a.map (cS T sc N m)) (b.map (cS T sc N m)))):=
 (wl ((eQ m).t g.gd c) (ke ih g a) (ke ih g b)).mono λDn σ H h=>BY h
def Eb (ih:jU W G T n m)(g:Gs W G T n E sc N X)(c:Expr)(b:aE)(pos:Pos):PS X (.While c b [] pos) (bK W G n io E (.whl (cT T sc N m c) (b.map (cS T sc N m)))):=
 (yD g.own ((eQ m).t g.gd c) (ke ih g b)).mono λDn σ H h=>BI h
def Ei {st:Stmt}{tg:Tg}{wk:Wk}{b:List Ip.S}:PS X st (bK W G n io E (.fo tg wk [.bad] b)):=λpins s σ H Dn I ⟨_,_,_,_,_,_,_,h⟩=>by
 rw[Ip.pW,bP,f7] at h; exact h.elim
def yz (ih:jU W G T n m)(g:Gs W G T n E sc N X)(tg it:Expr)(b:aE)(pos:Pos)(t:Tg)(ht:cz sc N tg=some t)(hw:dJ (cI T sc N m it).1 t=true) :
  PS X (.For tg it b [] pos) (bK W G n io E (.fo t (cI T sc N m it).1 (cI T sc N m it).2 (b.map (cS T sc N m)))):=by
 rcases qQ it with ⟨a,b',c,rfl⟩ | hs
 .rw[o5]; exact Ei
 .exact (Cu g.own g.gd.calm ((eQ m).i g.gd tg it (sE ht hw)) (nW g.gd ht) (ke ih g b) (hs X.env)).mono λDn σ H h=>BL g.gd.K h
def ps?_or {x:Str}{N:ao}{f:Nat->Ip.S}:ps? x N f=.bad\/∃i,pos? x N=some i/\ps? x N f=f i:=by
 unfold ps?;cases pos? x N with
 | none=>exact .inl rfl
 | some i=>exact .inr ⟨i,rfl,rfl⟩
def pq {st:Stmt}{x:Str}{N:ao}{f:Nat->Ip.S}(h:∀i,pos? x N=some i->PS X st (bK W G n io E (f i))):PS X st (bK W G n io E (ps? x N f)):=by
 rcases ps?_or (x:=x) (N:=N) (f:=f) with q | ⟨i,hi,q⟩
 .rw[q]; exact db
 .rw[q]; exact h i hi
def C6 (g:Gs W G T n E sc N X)(ts:aq)(e:Expr)(pos:Pos):PS X (.Assign ts e pos) (bK W G n io E (cS T sc N (m+1) (.Assign ts e pos))):=by
 rw[Ip.zX];cases ts with
 | nil=>exact db
 | cons t r=>
  unfold Ip.jM;dsimp only;by_cases hr:r.isEmpty=true
  rotate_left
  .rw[if_neg hr]; exact db
  rw[if_pos hr];obtain rfl:=Gx.mp hr;cases q1:Ip.bC t with
  | some x=>
   obtain⟨p1,rfl⟩:=Ip.gc q1;dsimp only;by_cases hl:bw sc x=true
   .rw[if_pos hl]; exact pq λi hi=>yL g _ _ e pos i hl hi
   .rw[if_neg hl]; exact db
  | none=>
   dsimp only;cases q2:Ip.fZ t with
   | some xj=>
    obtain⟨x,j⟩:=xj;obtain⟨p1,p2,p3,rfl⟩:=Ip.pj q2;dsimp only;by_cases hl:(aU sc x&&aM x&&aU sc j&&aM j)=true
    .rw[if_pos hl];simp only[tw] at hl;obtain⟨⟨⟨h1,h2⟩,h3⟩,h4⟩:=hl;refine pq λk hk=>?_;refine pq λj hj=>?_;exact zC g _ _ _ _ _ pos e k j h1 h2 hk h3 h4 hj
    .rw[if_neg hl]; exact db
   | none=>
    dsimp only;cases q3:Ip.iY t with
    | none=>
     dsimp only;cases q4:Ip.gW t with
     | none=>exact db
     | some es=>
      obtain⟨k,tp,rfl⟩:=Ip.uY q4;dsimp only;by_cases hc:Ip.fk e=true
      rotate_left
      .rw[if_neg hc]; exact db
      rw[if_pos hc];split
      .rename_i ht;exact B1 g _ _ _ e pos _ hc ht
      .exact db
    | some xf=>
     obtain⟨x,f⟩:=xf;obtain⟨p1,p2,rfl⟩:=Ip.Cs q3;dsimp only;by_cases hl:(aU sc x&&aM x)=true
     rotate_left
     .rw[if_neg hl]; exact db
     rw[if_pos hl];rw[tw] at hl;refine pq λk hk=>?_;refine pq λj hj=>?_;by_cases hf:T.fl.contains j=true
     .simp only[hf,if_true];exact zB g _ _ _ _ e pos k j hl.1 hl.2 hk hj hf
     .simp only[hf]; exact db
def yB (g:Gs W G T n E sc N X)(e:Expr)(pos:Pos):PS X (.Expr e pos) (bK W G n io E (cS T sc N (m+1) (.Expr e pos))):=by
 rw[Ip.zb];unfold Ip.jE;cases qm:Ip.jy e with
 | some t=>
  obtain⟨x,mm,mp,args,cp⟩:=t;obtain⟨xp,rfl⟩:=Ip.y8 qm;dsimp only;split
  .rename_i hc;simp only[tw,Fm] at hc;obtain⟨⟨h1,h2⟩,rfl⟩:=hc;unfold Ip.lj;split
   .split
    .rename_i a hd;rw[tw] at hd;refine pq λk hk=>?_;exact Dp g _ _ _ _ _ _ _ h1 h2 hk hd.1 hd.2
    .exact db
   .exact db
  .split
   .rename_i hc;simp only[tw,Fm] at hc;obtain⟨⟨h1,h2⟩,rfl⟩:=hc;unfold Ip.lX;split
    .split
     .rename_i hd;rw[tw] at hd;refine pq λk hk=>?_;exact B6 g _ _ _ _ _ _ _ h1 h2 hk hd.1 hd.2
     .exact db
    .exact db
   .split
    .rename_i hc;simp only[tw,Fm] at hc;obtain⟨⟨h1,h2⟩,rfl⟩:=hc;unfold Ip.mr;split
     .split
      .rename_i hd;rw[tw] at hd;refine pq λk hk=>?_;exact B5 g _ _ _ _ _ _ _ h1 h2 hk hd.1 hd.2
      .exact db
     .exact db
    .exact uv g _ pos λ_ _ _ _ z=>by cases z
 | none=>
  dsimp only;by_cases hL:Ip.ly e=true
  .rw[if_pos hL]; exact db
  rw[if_neg hL];cases qa:Ip.nH sc e with
  | some t=>
   obtain⟨x,is,rm,y⟩:=t;dsimp only;obtain⟨b,f,p4,p5,p6,rfl,hp,v1,v2,v3,ln,hf⟩:=Ip.Ab qa;unfold Ip.tG;refine pq λk hk=>?_;refine pq λc hc=>?_;cases qs:fY N is with
   | none=>exact db
   | some ks=>exact Cr g hp v1 v2 v3 hk qs hc ln hf
  | none=>
   dsimp only;cases qr:Ip.g8 T sc e with
   | none=>exact uv g e pos λ_ _ _ _ z=>hL (by rw[z]; rfl)
   | some t=>
    obtain⟨k,x,as⟩:=t;dsimp only;obtain⟨f,p,p1,p2,rfl,hk,hg,hx,ns⟩:=Ip.Ae T qr;exact pq λi hi=>xP g hk hg hx ns hi
def AA (g:Gs W G T n E sc N X)(o:Option Expr)(pos:Pos):PS X (.Return o pos) (bK W G n io E (cS T sc N (m+1) (.Return o pos))):=by
 rw[Ip.zd];cases o with
 | none=>exact yS pos
 | some e=>
  unfold Ip.jD;dsimp only;cases q1:Ip.bC e with
  | some x=>
   obtain⟨p,rfl⟩:=Ip.gc q1;dsimp only;by_cases hc:(aU sc x&&aM x)=true
   .rw[if_pos hc];rw[tw] at hc;refine pq λk hk=>?_;exact Ci g _ _ pos k hc.1 hc.2 hk
   .rw[if_neg hc]; exact db
  | none=>
   dsimp only;cases qs:Ip.mN sc e with
   | none=>
    dsimp only;by_cases hb:nO (cE T sc N m e)=true
    .rw[if_pos hb]; exact db
    .rw[if_neg hb]; exact EC g e pos hb
   | some t=>
    obtain⟨s,x⟩:=t;dsimp only;obtain⟨k1,p1,p2,k3,p3,rfl,v1,v2⟩:=Ip.Di qs;refine pq λk hk=>?_;exact xb g x s k1 k3 p1 p2 p3 pos k v1 v2 hk
def By (ih:jU W G T n m)(g:Gs W G T n E sc N X)(tg it:Expr)(b els:aE)(pos:Pos):PS X (.For tg it b els pos) (bK W G n io E (cS T sc N (m+1) (.For tg it b els pos))):=by
 simp only[Ip.AW,Ip.jK];split
 .exact db
 .split
  .rename_i ht;split
   .rename_i hw;exact yz ih g tg it b pos _ ht hw
   .exact db
  .exact db
theorem tE (W:Wd)(G:Pg)(T:Tb)(n:Nat):∀m,jU W G T n m
 | 0=>λg st=>by exact db
 | m+1=>λg st=>by
  have ih:jU W G T n m:=tE W G T n m;cases st with
  | Assign ts e pos=>exact C6 g ts e pos
  | Expr e pos=>exact yB g e pos
  | Return o pos=>exact AA g o pos
  | If c a b pos=>exact rP ih g c a b pos
  | For tg it b els pos=>exact By ih g tg it b els pos
  | While c b els pos=>
   rw[Ip.A9];by_cases he:els.isEmpty=true
   .rw[if_pos he];obtain rfl:=Gx.mp he;exact Eb ih g c b pos
   .rw[if_neg he]; exact db
  | _=>exact db
end
section
variable {W:Wd}{G:Pg}{T:Tb}{n:Nat}{P:Program}{w:World}{mg:Str->ay}{base:Heap}
theorem oz:∀{vs:ar} {ds:av} {i:Nat} {d:D},Dens W S vs ds->ds[i]? = some d->∃v,vs[i]? = some v/\Den W S v d
 | _,_,_,_,.nil,h=>by simp at h
 | _,_,0,_,.cons h _,e=>by
  simp only[List.getElem?_cons_zero,GN] at e;subst e;exact⟨_,rfl,h⟩
 | _,_,i+1,_,.cons _ q,e=>by
  simp only[List.getElem?_cons_succ] at e ⊢;exact oz q e
def uX (h:(bo F xs)[i]? = some (some x)):∃y,xs[i]? = some y/\x=if F.io.contains i then y else (0,y.2):=by
 unfold bo at h;by_cases hi:i<xs.length
 .rw[GS (by rw[HA]; exact hi),FW,Fp hi] at h;simp only[Option.map_some,GN] at h;refine⟨xs[i],Fp hi,?_⟩;by_cases c:F.io.contains i=true
  .rw[if_pos c] at h ⊢; exact (cK h).symm
  .rw[if_neg c] at h ⊢; exact (cK h).symm
 .rw[List.getElem?_append_right (by rw[HA]; omega)] at h;have:=FA h;rw[List.mem_replicate] at this;cases this.2
def vc (h:xs.length=F.np)(h2:F.np<=F.ns):(bo F xs).length=F.ns:=by
 unfold bo;rw[FC,HA,Hh];omega
def mS {N:ao}{vs:ar}{i:Nat}{v:V}(h:vs[i]? = some v):(start N vs)[i]? = some (some v):=by
 unfold start;have hi:i<vs.length:=(de h).1;rw[GS (by rw[Fj]; exact hi),Fs,h]; rfl
def At (h:vs.length<=N.length):(start N vs).length=N.length:=by
 unfold start;rw[FC,Fj,Hh]; omega
def BG:aP M (λ_=>[])=M:=funext λb=>propext ⟨λz=>z.elim id λ⟨_,y⟩=>by simp at y,.inl⟩
def wQ:Own W S H 99 .non .non []:=⟨rfl,.non⟩
def C5 (h:Own W S H k v .non fp):v=.non:=by
 cases k with
 | zero=>obtain⟨_,h⟩:=h; cases h; rfl
 | succ k=>obtain⟨_,h⟩:=h; cases h; rfl
theorem wx (h:match fin [] o with
  | .ret k d []=>∀v H',Res W H N H' (k,d) v->Q v H'
  | _=>False):PostS W H N [] (λ_=>E) { nx:=λ_ H'=>Q .non H',rt:=Q } o:=by
 cases o with
 | nx A=>exact λσ H' F f=>h .non H' ⟨f.sub,[],.nil,λ_ z=>by simp at z,wQ⟩
 | ret k d A=>
  rintro v σ H' ⟨fp,F,f,nd,fr,o⟩;refine h v H' ⟨f.sub,fp,nd,λb hb=>(fr b hb).1,o.mono (λb u z=>?_) λ_ _ _ e=>e⟩;exact aS.mpr ⟨λy=>(aS.mp z).1 (.inl y),(aS.mp z).2⟩
 | bad=>exact h.elim
theorem Dx {H:Hp}{N:Addr->Prop}{f0:ak}{v0:V}{o:O}{Q:VK}{E:XK}(h:match fin [0] o with
  | .ret k d [y]=>∀v H' (fp:ak),Sub (hid (λb=>b∈f0) H) H'->fp.Nodup->(∀b∈fp,hid (λb=>b∈f0) H b=none)->Own W (hid (λb=>N b\/b∈fp) H') H' y.1 v0 y.2 fp->(d=.non->v=.non)->Q v H'
  | _=>False):PostS W (hid (λb=>b∈f0) H) N [(0,v0)] (λ_=>E) { nx:=λ_ H'=>Q .non H',rt:=Q } o:=by
 have key:∀{N':Addr->Prop} {A:Fr} {σ:St} {H':Hp} {F:Nat->ak} {y:KD},FrF W (hid (λb=>b∈f0) H) N' [(0,v0)] A σ H' F->(∀b,N b->N' b)->A[0]? = some (some y)->Sub (hid (λb=>b∈f0) H) H'/\(F 0).Nodup/\(∀b∈F 0,hid (λb=>b∈f0) H b=none)/\Own W (hid (λb=>N b\/b∈F 0) H') H' y.1 v0 y.2 (F 0):=by
  intro N' A σ H' F y f hN hA;obtain⟨v,h1,h2⟩:=f.rel 0 y hA;have h3:=f.pn (0,v0) (by simp);rw[h1] at h3;cases h3;refine⟨f.sub,f.nd 0,λb hb=>(f.fr 0 b hb).1,h2.mono (λb u z=>?_) λ_ _ _ e=>e⟩;refine aS.mpr ⟨λy=>(aS.mp z).1 ?_,(aS.mp z).2⟩;exact y.elim (λq=>.inl (hN b q)) λq=>.inr ⟨0,q⟩
 cases o with
 | nx A=>
  intro σ H' F f;simp only[fin,Ip.outs] at h;cases q:A[0]? with
  | none=>rw[q] at h; exact h.elim
  | some o=>
   cases o with
   | none=>rw[q] at h; exact h.elim
   | some y=>
    rw[q] at h;obtain⟨a1,a2,a3,a4⟩:=key f (λ_ z=>z) q;exact h .non H' _ a1 a2 a3 a4 λ_=>rfl
 | ret k d A=>
  rintro v σ H' ⟨fp,F,f,nd,fr,o⟩;simp only[fin,Ip.outs] at h;cases q:A[0]? with
  | none=>rw[q] at h; exact h.elim
  | some o=>
   cases o with
   | none=>rw[q] at h; exact h.elim
   | some y=>
    rw[q] at h;obtain⟨a1,a2,a3,a4⟩:=key f (λ_ z=>.inl z) q;refine h v H' _ a1 a2 a3 a4 λz=>?_;subst z;exact C5 o
 | bad=>exact h.elim
def wy {k:Nat}{F:Fn}{N:ao}{vs:ar}{H:Hp}{Q:VK}{E:XK}(hF:G.fn k=some F)(hns:F.ns=N.length)(hnp:F.np<=F.ns)(h:fc W G (n+1) k F vs H Q E) :
  dW W G n F.io (λ_=>E) F.body { nx:=λ_ H'=>Q .non H',rt:=Q } (start N vs) H:=by
 have hlen:=qO hF h;have hsl:(start N vs).length=N.length:=At (by omega);rcases h with ⟨hio,M,xs,hM,dv,h⟩ | ⟨hio,M,x0,xs,v0,ws,f0,rfl,hM,nd,dj,ow,dv,h⟩
 .have hx:xs.length=F.np:=by rw[dv.length,Fj] at hlen; exact hlen
  rw[Ip.run,hF] at h;simp only[if_pos hx,hio] at h;refine⟨H,M,[],bo F xs,λ_=>[],λp hp=>by simp at hp,⟨λ_ _ e=>e,hM,by rw[hsl,vc hx hnp,hns],λp hp=>by simp at hp,λ_=>.nil,λi j b hb=>by simp at hb,λi b hb=>by simp at hb,λi x e=>?_,λ_ _=>rfl⟩,?_⟩
  .obtain⟨y,e1,e2⟩:=uX e;rw[hio] at e2;simp only[List.contains_nil,Fq,if_false] at e2;obtain⟨v,e3,e4⟩:=oz (i:=i) (d:=y.2) dv (by rw[Fs,e1]; rfl);refine⟨v,mS e3,?_⟩;rw[BG,e2];exact⟨rfl,e4⟩
  .rw[hio];exact wx h
 .have hx:(x0::xs).length=F.np:=by rw[List.length_cons,dv.length,Fj] at hlen; rw[List.length_cons]; exact hlen
  rw[Ip.run,hF] at h;simp only[if_pos hx,hio] at h;have hh:aP M (λi=>if i=0 then f0 else [])=λb=>M b\/b∈f0:=funext λb=>propext ⟨λz=>z.imp id λ⟨j,y⟩=>by
   by_cases q:j=0
   .simpa[q] using y
   .simp[q] at y,λz=>z.imp id λy=>⟨0,by simpa using y⟩⟩
  refine⟨hid (λb=>b∈f0) H,M,[(0,v0)],bo F (x0::xs),λi=>if i=0 then f0 else [],λp hp=>by simp at hp; rw[hp,hio]; simp,⟨λb u e=>(aS.mp e).2,hM,by rw[hsl,vc hx hnp,hns],λp hp=>?_,λi=>?_,λi j b h1 h2=>?_,λi b hb=>?_,λi x e=>?_,λi hi=>?_⟩,?_⟩
  .simp only[Fi] at hp;rw[hp];exact mS rfl
  .split
   .exact nd
   .exact .nil
  .split at h1
   .split at h2
    .omega
    .simp at h2
   .simp at h1
  .split at hb
   .exact⟨by unfold hid; exact if_pos hb,dj b hb⟩
   .simp at hb
  .obtain⟨y,e1,e2⟩:=uX e;rw[hio] at e2;rw[hh];cases i with
   | zero=>
    simp only[List.getElem?_cons_zero,GN] at e1;subst e1;rw[if_pos (by simp)] at e2;subst e2;exact⟨v0,mS rfl,by simpa using ow⟩
   | succ i=>
    simp only[List.getElem?_cons_succ] at e1;rw[if_neg (by simp)] at e2;obtain⟨v,e3,e4⟩:=oz (i:=i) (d:=y.2) dv (by rw[Fs,e1]; rfl);refine⟨v,mS (by simpa using e3),?_⟩;rw[e2];exact⟨by simp,e4⟩
  .split
   .rename_i z;subst z;exact absurd (show (bo F (x0::xs))[0]? = some (some x0) by simp[bo,hio]) (hi x0)
   .rfl
  .rw[hio];exact Dx h
structure FunD (K:be)(x qual:Str)(st:Stmt)(f:Addr)(fd:FuncData):Prop where
 ex:∃(oc:Value) (od:aB) (dV kV doc pm:Value) (an:aB) (cdv ct:Value) (osl:Array ay),
  fd=PySem.W.fnOf x qual (aR st) (bh st) (cH st) dV kV doc pm an cdv ct/\K.lookup f=some ⟨oc,od,.func fd,osl⟩/\PySem.W.codeIn K cdv qual=true
def FunD.okX {N:ao}{x qual:Str}{st:Stmt}{f:Addr}{fd:FuncData}{ps:ao}{k:Nat}{sp:Sp}{K:be}(F:FunD K x qual st f fd)(S:FnScope N ps (cH st))(len:∀vs H Q E,sp vs H Q E->vs.length=ps.length)
  (hbody:∀(cdv:Value) (A:Around) (outer:List Env) (s:Shared) (H:Hp) (vs:ar) (Q:VK) (E:XK),Room k (A.deeper (envOfC qual (cH st) s.heap.objs.size f cdv))->sp vs H Q E ->
   ∃t,PSs (fe (ft P w) P w K mg base N qual (cH st) f cdv A outer s H E) (bh st) t/\t { nx:=λ_ H'=>Q .non H',rt:=Q } (start N vs) H):FnOk P w K mg base (ft P w) (k+1) f fd ps sp:=by
 obtain⟨oc,od,dV,kV,doc,pm,an,cdv,ct,osl,rfl,lk,hcd⟩:=F.ex;exact zI lk hcd S len λA outer s H vs Q E hr hsp=>hbody cdv A outer s H vs Q E hr hsp
structure DefAt (W:Wd)(T:Tb)(F:Fn)(a:Addr):Prop where
 ex:∃(x qual:Str) (st:Stmt) (fd:FuncData) (ps:ao) (io:ai),FunD W.K x qual st a fd/\FnScope (fS (aR st) (cH st)) ps (cH st)/\cF T io st=some F/\F.np=ps.length /\
  ∀m,m<=F.np->F.np - m<=F.dfl.length->∃(ds:al) (dvs:ar),Binds W.K fd ps ds/\Vals dvs ds/\∀S,Dens W S dvs (cG F m)
def DK {io:ai}{st:Stmt}{F:Fn}(h:cF T io st=some F):F.io=io/\F.ns=(fS (aR st) (cH st)).length/\F.np=(aR st).args.length/\F.body=(bh st).map (cS T (cH st) (fS (aR st) (cH st)) 60):=by
 unfold cF at h;split at h
 .obtain⟨ds,_,h2⟩:=cg h;subst h2;exact⟨rfl,rfl,rfl,rfl⟩
 .cases h
def BW:a.args.length<=(fS a sc).length:=by
 unfold fS;rw[FC,Fj]; omega
def uV {k:Nat}{F:Fn}{a:Addr}{x qual:Str}{st:Stmt}{fd:FuncData}{ps:ao}{io:ai}(hF:G.fn k=some F)(g:∀m,n=m+1->GF W G T m P w mg base)(fu:FunD W.K x qual st a fd)(S:FnScope (fS (aR st) (cH st)) ps (cH st))(hc:cF T io st=some F)(hnp:F.np=ps.length) :
  FnOk P w W.K mg base (ft P w) (rm n) a fd ps (fc W G n k F):=by
 obtain⟨c1,c2,c3,c4⟩:=DK hc;cases n with
 | zero=>
  refine fu.okX (k:=0) S (λvs H Q E h=>by rw[qO hF h,hnp]) λcdv A outer s H vs Q E hr h=>?_;rcases h with ⟨_,_,_,_,_,q⟩ | ⟨_,_,_,_,_,_,_,_,_,_,_,_,_,q⟩
  .exact q.elim
  .exact q.elim
 | succ n=>
  refine fu.okX (k:=3 * n+3) S (λvs H Q E h=>by rw[qO hF h,hnp]) λcdv A outer s H vs Q E hr h=>?_;refine⟨_,ke (io:=F.io) (E:=λ_=>E) (tE W G T n 60) (sc:=cH st) (N:=fS (aR st) (cH st)) ?_ (bh st),?_⟩
  .refine⟨⟨g n rfl,rfl,λy hy=>?_,λy hy=>?_,λy hy=>?_,λy hy=>hy,rfl,S.nd,rfl,passF,hr.mono (by unfold rm; omega)⟩,PassesOwn.leaving,⟨_,_,rfl,rfl⟩,rfl⟩
   .unfold aU at hy;simp only[FM,Fm] at hy;exact hy.elim (λz=>z.elim .inl λz=>.inr (.inl z)) λz=>.inr (.inr z)
   .unfold bw at hy;simp only[FM,Fm] at hy;exact⟨hy,.inl rfl⟩
   .unfold bg at hy;simp only[Fm] at hy;exact hy
  .rw[<-c4];exact wy hF c2 (by rw[c3,c2]; exact BW) h
def oQ (hF:G.fn k=some F)(g:∀m,n=m+1->GF W G T m P w mg base)(d:DefAt W T F a):FI W G n P w mg base k F a:=by
 obtain⟨x,qual,st,fd,ps,io,fu,S,hc,hnp,dfl⟩:=d.ex;exact⟨fd,ps,uV hF g fu S hc hnp,dfl⟩
end
structure GF0 (W:Wd)(G:Pg)(T:Tb)(mg:Str->ay):Prop where
 cf:CF W T.fl
 att:W.att=T.att
 blt:∀x v,(x,v)∈eJ->mg x=none/\bootBuiltins x=some v
 cst:∀x d,T.cst.lookup x=some d->(x == ("__debug__" : Str))=false/\∃u v,mg x=some u/\RelV v u/\d.flat=true/\∀S,Den W S v d
 fns:∀x k,T.fns.lookup x=some k->(x == ("__debug__" : Str))=false/\∃F a,G.fn k=some F/\mg x=some (.ref a)/\PySem.W.keepIn W.K (.ref a)=true/\DefAt W T F a
 cls:∀x c,T.cls.lookup x=some c->(x == ("__debug__" : Str))=false/\∃C,mg x=some (.ref C)/\∀Cl' f F,G.cl c=some Cl'->Cl'.init=some f->G.fn f=some F ->
  ∃a,DefAt W T F a/\W.iA c=some C/\Mk W.K C a
 meth:∀c Cl' m f F,G.cl c=some Cl'->Cl'.meths.lookup m=some f->G.fn f=some F->∀nm,W.att[m]? = some nm->∃C a,W.iA c=some C/\Meth W.K C nm a/\DefAt W T F a
 isB:∀x t,jr.lookup x=some t->mg x=none/\x ≠ "__name__" /\ (x == ("__debug__" : Str))=false/\∃nm,bootBuiltins x=some (.type nm)/\bY W G t (.type nm)
 isC:∀x c,T.cls.lookup x=some c->∃C,mg x=some (.ref C)/\bY W G (.cls c) (.ref C)
def EM (g0:GF0 W G T mg):∀n,GF W G T n P w mg base:=by
 have step:∀n,(∀m,n=m+1->GF W G T m P w mg base)->GF W G T n P w mg base:=λn ih=>
  ⟨g0.cf,g0.att,g0.blt,g0.cst,λx k h=>by
   obtain⟨h1,F,a,h2,h3,h4,h5⟩:=g0.fns x k h;exact⟨h1,F,a,h2,h3,h4,oQ h2 ih h5⟩,λx c h=>by
   obtain⟨h1,C,h2,h3⟩:=g0.cls x c h;refine⟨h1,C,h2,λCl' f F q1 q2 q3=>?_⟩;obtain⟨a,h4,h5⟩:=h3 Cl' f F q1 q2 q3;exact⟨a,oQ q3 ih h4,h5⟩,λc Cl' m f F q1 q2 q3 nm q4=>by
   obtain⟨C,a,h1,h2,h3⟩:=g0.meth c Cl' m f F q1 q2 q3 nm q4;exact⟨C,a,h1,h2,oQ q3 ih h3⟩,g0.isB,g0.isC⟩
 intro n;induction n with
 | zero=>exact step 0 λm h=>by cases h
 | succ n ih=>exact step (n+1) λm h=>by cases h; exact ih
section
variable {W:Wd}{T:Tb}{F:Fn}{f:Addr}{x qual:Str}{st:Stmt}{oc dV kV doc pm cdv ct:Value}{od an:aB}{osl:Array ay}{ps:ao}{io:ai}
def Ag (l:W.K.lookup f=some ⟨oc,od,.func (PySem.W.fnOf x qual (aR st) (bh st) (cH st) dV kV doc pm an cdv ct),osl⟩)(c:PySem.W.codeIn W.K cdv qual=true)
  (S:FnScope (fS (aR st) (cH st)) ps (cH st))(hc:cF T io st=some F)(hnp:F.np=ps.length)(hd:F.dfl=[])
  (hb:∀us:al,us.length=ps.length->bindArgs (PySem.W.fnOf x qual (aR st) (bh st) (cH st) dV kV doc pm an cdv ct) ⟨us,[]⟩=pure (ps.zip us)):DefAt W T F f:=by
 refine⟨x,qual,st,_,ps,io,⟨oc,od,dV,kV,doc,pm,an,cdv,ct,osl,rfl,l,c⟩,S,hc,hnp,λm h1 h2=>⟨[],[],Binds.all hb,.nil,λS=>?_⟩⟩;unfold cG;rw[hd];simp;exact .nil
theorem mem_of_lookup:∀{l:af},l.lookup a=some o->(a,o)∈l
 | [],h=>nomatch h
 | (y,j)::r,h=>by
  rw[List.lookup_cons] at h;cases e:a == y with
  | true=>
   rw[e] at h;rw[Fm] at e;cases h;rw[e];exact bW
  | false=>rw[e] at h; exact bX _ (mem_of_lookup h)
def fK (K:be):Sp:=λvs H Q _=>∃(a:Addr) (ns:aj),vs=[.ref a]/\SqL K H a (ns.map V.int)/\ns.length<=63/\∀H',Q (.bl true) H'
def C0 (hio:F.io=[])(hno:(W.K.all λp=>!(p.2.cls == Value.type "list"))=true)(hr:∀ns:List Int,ns.length<=63->∃kk,Ip.run G n k [(0,.lst (ns.map D.int))]=.ret kk (.bl true) []) :
  ∀vs H Q E,fK W.K vs H Q E->fc W G n k F vs H Q E:=by
 rintro vs H Q E ⟨a,ns,e,hS,hl,hq⟩;subst e;obtain⟨kk,hr⟩:=hr ns hl;refine .inl ⟨hio,λ_=>False,[(0,.lst (ns.map D.int))],λ_ z=>z.elim,?_,?_⟩
 .have e:hid (λ_=>False) H=H:=funext λb=>by unfold hid; exact if_neg id
  rw[e];have hR:Rd H a (.lst (ns.map V.int)):=by
   rcases hS with h | ⟨o,its,m,h1,h2,_⟩
   .exact h
   .have:=dI hno (a,o) (mem_of_lookup h1);rw[h2] at this;simp at this
  refine .cons (.lst hR ?_) .nil;clear hr hS hR hl;induction ns with
  | nil=>exact .nil
  | cons i ns ih=>exact .cons .int ih
 .rw[hr];rintro v H' ⟨_,fp,_,_,o⟩;have:v=.bl true:=by
   cases kk with
   | zero=>obtain⟨_,o⟩:=o; cases o; rfl
   | succ kk=>obtain⟨_,o⟩:=o; cases o; rfl
  subst this;exact hq H'
end
section
variable {W:Wd}{G:Pg}{T:Tb}{mg:Str->ay}
def PF (W:Wd)(T:Tb)(G:Pg)(mg:Str->ay)(p:Str×Nat):Prop:=(p.1 == ("__debug__" : Str))=false/\∃F a,G.fn p.2=some F/\mg p.1=some (.ref a)/\PySem.W.keepIn W.K (.ref a)=true/\DefAt W T F a
def xo (W:Wd)(T:Tb)(G:Pg)(mg:Str->ay)(p:Str×Nat):Prop:=(p.1 == ("__debug__" : Str))=false/\∃C,mg p.1=some (.ref C)/\bY W G (.cls p.2) (.ref C)/\∀Cl' f F,G.cl p.2=some Cl'->Cl'.init=some f->G.fn f=some F ->
  ∃a,DefAt W T F a/\W.iA p.2=some C/\Mk W.K C a
def PV (W:Wd)(mg:Str->ay)(p:Str×D):Prop:=(p.1 == ("__debug__" : Str))=false/\∃u v,mg p.1=some u/\RelV v u/\p.2.flat=true/\∀S,Den W S v p.2
def PM (W:Wd)(T:Tb)(G:Pg)(C:Addr)(p:Nat×Nat):Prop:=∃F nm a,G.fn p.2=some F/\W.att[p.1]? = some nm/\Meth W.K C nm a/\DefAt W T F a
theorem gp [BEq α][LawfulBEq α]:∀{l:List (α×β)},l.lookup a=some b->(a,b)∈l
 | [],h=>nomatch h
 | (y,j)::r,h=>by
  rw[List.lookup_cons] at h;cases e:a == y with
  | true=>
   rw[e] at h;rw[Fm] at e;cases h;rw[e];exact bW
  | false=>rw[e] at h; exact bX _ (gp h)
def En (cf:CF W T.fl)(att:W.att=T.att)(blt:∀p∈eJ,mg p.1=none/\bootBuiltins p.1=some p.2)(cst:∀p∈T.cst,PV W mg p)(fns:∀p∈T.fns,PF W T G mg p)(cls:∀p∈T.cls,xo W T G mg p)
  (meth:∀c Cl',G.cl c=some Cl'->Cl'.meths≠[]->∃C,W.iA c=some C/\∀p∈Cl'.meths,PM W T G C p)
  (isB:∀p∈jr,mg p.1=none/\p.1 ≠ "__name__" /\ (p.1 == ("__debug__" : Str))=false/\∃nm,bootBuiltins p.1=some (.type nm)/\bY W G p.2 (.type nm)):GF0 W G T mg where
 cf:=cf
 att:=att
 blt:=λx v h=>blt (x,v) h
 cst:=λx d h=>cst (x,d) (gp h)
 fns:=λx k h=>fns (x,k) (gp h)
 cls:=λx c h=>by
  obtain⟨h1,C,h2,_,h3⟩:=cls (x,c) (gp h);exact⟨h1,C,h2,h3⟩
 meth:=λc Cl' m f F h1 h2 h3 nm h4=>by
  have hm:=gp h2;obtain⟨C,e1,e2⟩:=meth c Cl' h1 (λz=>by rw[z] at hm; simp at hm);obtain⟨F',nm',a,e3,e4,e5,e6⟩:=e2 (m,f) hm;rw[h3] at e3; cases e3;rw[h4] at e4; cases e4;exact⟨C,a,e1,e5,e6⟩
 isB:=λx t h=>isB (x,t) (gp h)
 isC:=λx c h=>by
  obtain⟨_,C,h2,h3,_⟩:=cls (x,c) (gp h);exact⟨C,h2,h3⟩
def Ap (h0:PySem.W.kitOne W.K (.type "NoneType") cv=some (bf G .non t))(h1:PySem.W.kitOne W.K (.type "bool") cv=some (bf G (.bl true) t))(h2:PySem.W.kitOne W.K (.type "int") cv=some (bf G (.int 0) t))
  (h3:PySem.W.kitOne W.K (.type "str") cv=some (bf G (.str "") t))(h4:PySem.W.kitOne W.K (.type "list") cv=some (bf G (.lst []) t))(h5:PySem.W.kitOne W.K (.type "tuple") cv=some (bf G (.tup []) t))
  (h6:∀c C,W.iA c=some C->PySem.W.kitOne W.K (.ref C) cv=some (bf G (.ins c []) t)):bY W G t cv:=by
 intro d tv h;cases d with
 | non=>cases h; exact h0
 | bl b=>cases h; rw[h1]; cases t <;> rfl
 | int i=>cases h; rw[h2]; cases t <;> rfl
 | str s=>cases h; rw[h3]; cases t <;> rfl
 | lst xs=>cases h; rw[h4]; cases t <;> rfl
 | tup xs=>cases h; rw[h5]; cases t <;> rfl
 | ins c fs=>
  obtain⟨C,e1,e2⟩:=cg h;subst e2;rw[h6 c C e1]; cases t <;> rfl
end
noncomputable def dF (K:be)(iL:List (Nat×Addr))(att:ao):Wd:=⟨K,λc=>iL.lookup c,att⟩
def md (h:l.length=1):∃a,l=[a]:=GB.mp h
def gR (h:l.length=n+1):∃a r,l=a::r/\r.length=n:=by
 cases l with
 | nil=>cases h
 | cons a r=>exact⟨a,r,rfl,Nat.succ.inj h⟩
def kU (h:l.length=2):∃a b,l=[a,b]:=by
 obtain⟨a,r,rfl,h2⟩:=gR h;obtain⟨b,rfl⟩:=md h2;exact⟨a,b,rfl⟩
def lO (h:l.length=3):∃a b c,l=[a,b,c]:=by
 obtain⟨a,r,rfl,h2⟩:=gR h;obtain⟨b,c,rfl⟩:=kU h2;exact⟨a,b,c,rfl⟩
def lr (h:l.length=4):∃a b c d,l=[a,b,c,d]:=by
 obtain⟨a,r,rfl,h2⟩:=gR h;obtain⟨b,c,d,rfl⟩:=lO h2;exact⟨a,b,c,d,rfl⟩
def oR (h:l.length=5):∃a b c d e,l=[a,b,c,d,e]:=by
 obtain⟨a,r,rfl,h2⟩:=gR h;obtain⟨b,c,d,e,rfl⟩:=lr h2;exact⟨a,b,c,d,e,rfl⟩
section
variable {K:be}{iL:List (Nat×Addr)}{att:ao}{fl:ai}{G:Pg}{T:Tb}{mg:Str->ay}
noncomputable def pH (fl:ai)(att:ao):ao:=fl.filterMap λf=>att[f]?
abbrev NoA (K:be)(C:Addr)(ns:ao):Prop:=(ns.map λn=>PySem.W.findIn K (.ref C) n)=ns.map λ_=>some none
def NoA.at (h:NoA K C ns)(hn:n∈ns):NoAttr K C n:=FQ.mp h n hn
def wm (nd:att.Nodup)(hi:∀p∈iL,InsC K p.2/\NoA K p.2 (pH fl att)):CF (dF K iL att) fl:=
 ⟨nd,λc C h=>⟨(hi (c,C) (gp h)).1,λf n hf hn=>(hi (c,C) (gp h)).2.at (GX.mpr ⟨f,hf,hn⟩)⟩⟩
abbrev lR (K:be)(G:Pg)(t:Ip.Ty)(cv:Value):Prop:=[PySem.W.kitOne K (.type "NoneType") cv,PySem.W.kitOne K (.type "bool") cv,PySem.W.kitOne K (.type "int") cv,PySem.W.kitOne K (.type "str") cv,PySem.W.kitOne K (.type "list") cv,PySem.W.kitOne K (.type "tuple") cv]=[some (bf G .non t),some (bf G (.bl true) t),some (bf G (.int 0) t),some (bf G (.str "") t),some (bf G (.lst []) t),some (bf G (.tup []) t)]
abbrev oU (K:be)(iL:List (Nat×Addr))(G:Pg)(t:Ip.Ty)(cv:Value):Prop:=(iL.map λp=>PySem.W.kitOne K (.ref p.2) cv)=iL.map λp=>some (bf G (.ins p.1 []) t)
def yX (hb:lR K G t cv)(hi:oU K iL G t cv):bY (dF K iL att) G t cv:=by
 unfold lR at hb;injection hb with h0 hb;injection hb with h1 hb;injection hb with h2 hb;injection hb with h3 hb;injection hb with h4 hb;injection hb with h5 hb;exact Ap h0 h1 h2 h3 h4 h5 (λc C h=>FQ.mp hi (c,C) (gp h))
def FnAt (K:be)(x qual:Str)(st:Stmt)(f:Addr):Prop:=∃(oc:Value) (od:aB) (kV doc pm:Value) (an:aB) (cdv ct:Value) (osl:Array ay),
 K.lookup f=some ⟨oc,od,.func (PySem.W.fnOf x qual (aR st) (bh st) (cH st) .none kV doc pm an cdv ct),osl⟩/\PySem.W.codeIn K cdv qual=true
def FnAt.mk {x qual:Str}{st:Stmt}{f:Addr}{oc kV doc pm cdv ct:Value}{od an:aB}{osl:Array ay}(l:K.lookup f=some ⟨oc,od,.func (PySem.W.fnOf x qual (aR st) (bh st) (cH st) .none kV doc pm an cdv ct),osl⟩)(c:PySem.W.codeIn K cdv qual=true):FnAt K x qual st f:=
 ⟨oc,od,kV,doc,pm,an,cdv,ct,osl,l,c⟩
def Ar {K:be}{iL:List (Nat×Addr)}{P:Program}{w:World}{n:Nat}{F:Fn}{f:Addr}{st:Stmt}{x:Str}(g0:GF0 (dF K iL att) G T mg)(hno:(K.all λp=>!(p.2.cls == Value.type "list"))=true)(hF:G.fn 69=some F)(hio:F.io=[])(d:FnAt K "law" "law" st f)
  (S:FnScope (fS (aR st) (cH st)) [x] (cH st))(hc:cF T [] st=some F)(hnp:F.np=1)(hb:∀(kV doc pm:Value) (an:aB) (cdv ct:Value) (u:Value),bindArgs (PySem.W.fnOf "law" "law" (aR st) (bh st) (cH st) .none kV doc pm an cdv ct) ⟨[u],[]⟩=pure [(x,u)])
  (hr:∀ns:aj,ns.length<=63->∃kk,Ip.run G n 69 [(0,.lst (ns.map D.int))]=.ret kk (.bl true) []) :
  ∃fd:FuncData,(∀(s:Shared) (u:Value),BindsTo s fd ⟨[u],[]⟩ [(x,u)])/\∀base:Heap,K.In base->base.Ns mainGlobals mg->FnOk P w K mg base (ft P w) (rm n) f fd [x] (fK K):=by
 obtain⟨oc,od,kV,doc,pm,an,cdv,ct,osl,l,c⟩:=d;refine⟨_,λs u=>.of_eq (hb kV doc pm an cdv ct u),λbase _ _=>?_⟩;have fu:FunD (dF K iL att).K "law" "law" st f (PySem.W.fnOf "law" "law" (aR st) (bh st) (cH st) .none kV doc pm an cdv ct):=⟨oc,od,.none,kV,doc,pm,an,cdv,ct,osl,rfl,l,c⟩
 exact (uV (n:=n) hF (λm _=>EM g0 m) fu S hc hnp).imp (C0 (W:=dF K iL att) hio hno hr)
end
end L2
end
section
namespace Hd
open PySem PySem.W PySem.Calls PyProof.Rows
noncomputable def gC (thr ok:Thread->Bool)(stp:SharedT->Thread->Option (SharedT×Thread))(n:Nat):SharedT->Thread->Option SharedT:=
 @Nat.rec (λ_=>SharedT->Thread->Option SharedT) (λ_ _=>none) (λ_ ih s t=>match thr t with
  | true=>some s
  | false=>match ok t with
   | false=>none
   | true=>match stp s t with
    | some (s',t')=>ih s' t'
    | none=>none) n
theorem wR (thr ok:Thread->Bool)(stp:SharedT->Thread->Option (SharedT×Thread))(n:Nat)(s:SharedT)(t:Thread):gC thr ok stp (n+1) s t=(match thr t with
  | true=>some s
  | false=>match ok t with
   | false=>none
   | true=>match stp s t with
    | some (s',t')=>gC thr ok stp n s' t'
    | none=>none):=rfl
theorem vP:∀(n:Nat) (s s':SharedT) (t:Thread),gC through (stepOk n₀ ann) (stepT (denote tb) p w) n s t=some s'->topRun tb p w n₀ ann n s.abs t=some s'.abs
 | 0,_,_,_,h=>by cases h
 | n+1,s,s',t,h=>by
  rw[wR] at h;unfold topRun;cases ht:through t with
  | true=>rw[ht] at h; cases h; rfl
  | false=>
   rw[ht] at h;cases hk:stepOk n₀ ann t with
   | false=>rw[hk] at h; cases h
   | true=>
    rw[hk] at h;cases hs:stepT (denote tb) p w s t with
    | none=>rw[hs] at h; cases h
    | some r=>obtain⟨s₂,t₂⟩:=r; rw[hs] at h; dsimp only; rw[stepT_spec hs]; exact vP n s₂ s' t₂ h
noncomputable def lookG {β α:Type}(mods:ao)(so lk:Heap->Heap->Bool)(nb:Heap->Bool)(seen:Shared->β)(Yf:Shared->α)(h₀:Heap)(st:SharedT):Bool×β×α:=
 (so h₀ st.abs.heap&&nb st.abs.heap&&gensDone st.abs&&lk h₀ st.abs.heap,seen st.abs,Yf st.abs)
def zE {p q:Program}{loose:ao}{Xt:Shared->Bool}{α:Type}{Yf:Shared->α}{Ya:World->α}{N m₀:Nat}{ann:ay}{T0:Params->BT}{life:Params->Life}
  (e:opening p=plainProg p.main.scope.names)(hN:Nat.ble 600 N=true)(f:∀s,fenceModules? p s=some s)
  (size:∀w:World,((boot_heap w.params).isNs mainGlobals,(boot_heap w.params).objs.size,(boot_heap w.params).nsMap mainGlobals "__annotations__")=(true,m₀,ann))
  (habs:∀P,absHeap (T0 P) m₀ (life P)=boot_heap P)
  (run:∀(w:World) (os:OsState),(gC through (stepOk m₀ ann) (stepT (denote treeTable) p w) N ⟨T0 w.params,m₀,life w.params,Array.mk [],boot_drawn,boot_toks,os⟩ (topStub p)).map
   (lookG (importedModules p.main.body) (staticsOk (importedModules p.main.body)) laidKept (namesBound p) (openSeen q loose (importedModules p.main.body) Xt true) Yf (boot_heap w.params))=some (true,openGood q loose,Ya w)) :
  LeftO p q loose Xt Yf Ya N:=λw=>by
 obtain⟨⟨h,gs,d,k,os⟩,e1,e'⟩:=cg (boot_open e hN f w);obtain⟨rfl,rfl,rfl,rfl⟩:h=boot_heap w.params/\gs=Array.mk []/\d=boot_drawn/\k=boot_toks:=by simpa using e'
 obtain⟨z1,z2,z3⟩:_/\_/\_:=by simpa only[F6] using size w
 obtain⟨st,hr,hl⟩:=cg (run w os);have r:=vP _ _ _ _ hr;have ha:SharedT.abs ⟨T0 w.params,m₀,life w.params,Array.mk [],boot_drawn,boot_toks,os⟩=⟨boot_heap w.params,Array.mk [],boot_drawn,boot_toks,os⟩:=by
  show Shared.mk _ _ _ _ _=_;rw[habs]
 rw[ha] at r;obtain⟨l1,l2,l3⟩:_/\_/\_:=by simpa only[lookG,F6] using hl
 have t:topFrom treeTable p w N ⟨boot_heap w.params,Array.mk [],boot_drawn,boot_toks,os⟩=some st.abs:=by
  unfold topFrom;dsimp only;rw[z1,z2,z3];show ((topRun treeTable p w m₀ ann N _ (topStub p)).bind _)=_;rw[r];show (match staticsOk (importedModules p.main.body) (boot_heap w.params) st.abs.heap&&namesBound p st.abs.heap&&gensDone st.abs&&laidKept (boot_heap w.params) st.abs.heap with | true=>_ | false=>_)=_;rw[l1]
 unfold openEnds;rw[e1];show (topFrom treeTable p w N _).map _=_;rw[t];exact congrArg some (Prod.ext l2 l3)
end Hd
end
section
namespace Hd
open PySem PySem.Spec PySem.W PyProof.Rows L2
abbrev uq:=(Str×Str×Arguments×FuncBody)×Scope×Addr×List (Str×Addr)×Value×Addr×Bool
noncomputable def rJ (K:Frag)(f:Addr):Option uq:=match K.lookup f with
 | some ⟨_,_,.func fd,_⟩=>some ((fd.name,fd.qualname,fd.params,fd.body),fd.scope,fd.globals,fd.closure,fd.defaults,fd.builtins,codeIn K fd.code fd.qualname)
 | _=>none
noncomputable def qY (K:Frag)(t:Addr):Option al:=match K.lookup t with
 | some ⟨_,_,.seq xs _,_⟩=>some xs.toList
 | _=>none
def t6 {K:Frag}{f:Addr}{x qual:Str}{st:Stmt}(h:rJ K f=some ((x,qual,aR st,.stmts (bh st)),cH st,mainGlobals,[],.none,builtinsNs,true)):FnAt K x qual st f:=by
 unfold rJ at h;split at h
 .rename_i fd _ hk;obtain⟨a1,a2,a3,a4,a5,a6,a7,a8,a9,a10,a11,a12,a13,a14,a15⟩:=fd;simp only[GN,F6] at h;obtain⟨⟨rfl,rfl,rfl,rfl⟩,rfl,rfl,rfl,rfl,rfl,hc⟩:=h;exact .mk hk hc
 .cases h
noncomputable def nA (as:ak)(h:Heap):Frag:=as.filterMap λa=>(h.get? a).map λo=>(a,o)
theorem vW (h:Heap):∀as:ak,(nA as h).In h
 | []=>λa o e=>by cases e
 | a::as=>λb o e=>by
  have ih:=vW h as;unfold nA at e ih;rw[List.filterMap_cons] at e;cases q:h.get? a with
  | none=>rw[q] at e; exact ih b o e
  | some x=>
   rw[q] at e;by_cases hb:b=a
   .subst hb;have:some x=some o:=by simpa[List.lookup_cons] using e
    cases this;exact q
   .have:(List.filterMap (λa=>(h.get? a).map λo=>(a,o)) as).lookup b=some o:=by
     have hb':(b == a)=false:=Gb.mpr hb;simpa[List.lookup_cons,hb'] using e
    exact ih b o this
noncomputable def iK {α:Type}(as:ak)(q:Frag->α)(v:α):Hook where
 α:=α
 obs:=λs=>q (nA as s.heap)
 val:=λ_=>v
 says:=λ_ h=>∃K:Frag,K.In h/\q K=v
 of:=λ_ s e=>⟨_,vW s.heap as,e⟩
 keeps:=λ_ _ _ ⟨K,a,b⟩ k=>⟨K,a.keeps k,b⟩
def CN {l:OpenLaw}{n k:Nat}{q:Program}{loose:ao}{XP:(Str->ay)->Heap->Prop}{d:DefRec}{α:Type}{as:ak}{qs:Frag->α}{v:α}{CX:World->gk}{sp:World->Frag->Sp}{x:Str}
  (hn:l.most=some n)(hn2:n<=sizeLine)(hdf:d.params.defaults=[])(hr:Room k callerA)
  (F:∀(w:World) (K:Frag) (mg:Str->ay) (fa:Addr) (h:Heap),qs K=v->K.In h->h.Ns mainGlobals mg->mg d.name=some (.ref fa) ->
   ∃fd:FuncData,(∀(s:Shared) (u:Value),BindsTo s fd ⟨[u],[]⟩ [(x,u)]) /\
    ∀base:Heap,K.In base->base.Ns mainGlobals mg->FnOk l.prog w K mg base (CX w) k fa fd [x] (sp w K))
  (hsp:∀(w:World) (K:Frag) (H:Hp) (a:Addr) (ns:aj),ns.length<=n->iZ H->SqL K H a (ns.map V.int)->sp w K [.ref a] H (λv _=>v=.bl true) λ_ _ _=>False)
  (hCX:∀(w:World) (H:Hp) (s:Shared) (e:Value) (s':Shared),CX w [] H s (λ_ _ _=>False) e s'->False) :
  WalkO q loose XP (Hook.says (iK as qs v)) l.row.toRowW d [] (λf vs=>PySem.call f vs):=by
 refine Att.attach_call hn hdf λw s₀ s₁ mg mb fa o pm cd doc a vs ns G Y ho hd hcd hmg hobj hints hlen hg=>?_;obtain⟨K,KX,hq⟩:=Y;obtain⟨fd,hb,hF⟩:=F w K mg fa _ hq KX G.T.g hmg;exact Bg KX G.T.g G.T.b G.T.builtins G.T.nolimit hg hobj hints (bv hlen hn2) hr hF hb (λH hO hS=>hsp w K H a ns hlen hO hS) λH e s'=>hCX w H s₁ e s'
def Cn {α:Type}{p:α->Prop}{a:α}{l:List α}(h:p a)(t:∀b∈l,p b):∀b∈a::l,p b:=List.forall_mem_cons.mpr ⟨h,t⟩
def Nl {α:Type}{p:α->Prop}:∀b∈([]:List α),p b:=λ_ h=>nomatch h
structure Fd where
 x:Str
 q:Str
 k:Nat
 f:Addr
 st:Stmt
 d:Option (Addr×Value)
abbrev OV:=Option ay
abbrev DV:=Option uq×Option (Option al)
noncomputable def oK (d:Option (Addr×Value)):Value:=match d with
 | none=>.none
 | some p=>.ref p.1
noncomputable def qD (K:Frag)(d:Fd):DV:=(rJ K d.f,d.d.map λp=>qY K p.1)
noncomputable def aD (d:Fd):DV:=(some ((d.x,d.q,aR d.st,.stmts (bh d.st)),cH d.st,mainGlobals,[],oK d.d,builtinsNs,true),d.d.map λp=>some [p.2])
section
variable {W:Wd}{T:Ip.Tb}{G:Ip.Pg}{F:Ip.Fn}{ps:ao}{io:ai}{d:Fd}{mg:Str->ay}{K:Frag}
noncomputable def vX (N ps:ao)(sc:Scope):Bool:=sc.kind == .function&&(sc.isCoroutine == false&&(sc.isGenerator == false&&(decide N.Nodup&&(N.take ps.length == ps&&(ps.all (λx=>sc.names.lookup x == some .local||sc.names.lookup x == some .cell)&&sc.names.all λy=>y.2 != .free)))))
def t9 (h:vX N ps sc=true):FnScope N ps sc:=by
 simp only[vX,tw,Fm,Fx,List.all_eq_true,FM,bne_iff_ne] at h;obtain⟨h1,h2,h3,h4,h5,h6,h7⟩:=h;exact⟨h1,h2,h3,h4,h5,h6,h7⟩
def b8 (h:qD W.K d=aD d)(hd:d.d=none:=by rfl)(S:FnScope (Ip.fS (aR d.st) (cH d.st)) ps (cH d.st):=by exact t9 (by kernel_rfl))(hc:Ip.cF T io d.st=some F:=by kernel_rfl)(hnp:F.np=ps.length:=by rfl)(hf:F.dfl=[]:=by rfl)
  (hb:∀(kV doc pm:Value) (an:aB) (cdv ct:Value) (us:al),us.length=ps.length->bindArgs (fnOf d.x d.q (aR d.st) (bh d.st) (cH d.st) .none kV doc pm an cdv ct) ⟨us,[]⟩=pure (ps.zip us):=by
   intro _ _ _ _ _ _ us hl;first | (obtain⟨_,rfl⟩:=md hl; rfl) | (obtain⟨_,_,rfl⟩:=kU hl; rfl) | (obtain⟨_,_,_,rfl⟩:=lO hl; rfl) | (obtain⟨_,_,_,_,rfl⟩:=lr hl; rfl) | (obtain⟨_,_,_,_,_,rfl⟩:=oR hl; rfl)):DefAt W T F d.f:=by
 have h1:=(Prod.mk.inj h).1;rw[hd] at h1;obtain⟨oc,od,kV,doc,pm,an,cdv,ct,osl,l,c⟩:=t6 h1;exact Ag l c S hc hnp hf λus hl=>hb kV doc pm an cdv ct us hl
def qZ (W:Wd)(T:Ip.Tb)(G:Ip.Pg)(d:Fd):Prop:=∃F,G.fn d.k=some F/\(qD W.K d=aD d->DefAt W T F d.f)
structure Ic where
 x:Str
 c:Nat
 C:Addr
 d:Fd
noncomputable def qI (K:Frag)(ns:ao)(e:Ic):OV×List Bool×List OV×List (Option Bool)×List OV×DV:=
  (nsIn K mainGlobals e.x,[plainGet K e.C Str.empty,hasDictIn K e.C,plainOver K e.C,makesIn K e.C,isFn K (.ref e.d.f),keepIn K (.ref e.C)],
   [findIn K (.ref e.C) "__setattr__",findIn K (.ref e.C) "__class__",specialIn K (.builtin "object.__class__") "__get__",findIn K (.ref e.C) "__init__"],
   [takesIn K (.builtin "object.__class__"),mroIn K e.C (.type "object")],ns.map λn=>findIn K (.ref e.C) n,qD K e.d)
noncomputable def aI (ns:ao)(e:Ic):OV×List Bool×List OV×List (Option Bool)×List OV×DV:=
  (some (some (.ref e.C)),[true,true,true,true,true,true],
   [some (some (.builtin "object.__setattr__")),some (some (.builtin "object.__class__")),some (some (.builtin "getset_descriptor.__get__")),some (some (.ref e.d.f))],
   [some true,some true],ns.map λ_=>some none,aD e.d)
def ins_of (h:qI K ns e=aI ns e):nsIn K mainGlobals e.x=some (some (.ref e.C))/\InsC K e.C/\NoA K e.C ns/\Mk K e.C e.d.f/\qD K e.d=aD e.d:=by
 simp only[qI,aI,F6,GH,and_true] at h;obtain⟨h1,⟨b1,b2,b3,b4,b5,b6⟩,⟨c1,c2,c3,c4⟩,⟨d1,d2⟩,h5,h6⟩:=h;exact⟨h1,⟨⟨b1,b2,b3,c1⟩,c2,c3,d1,d2⟩,h5,⟨b4,c4,b5,b6⟩,h6⟩
noncomputable def qT (K:Frag)(iL:List (Nat×Addr))(cv:Value):List (Option Bool)×List (Option Bool):=
 ([kitOne K (.type "NoneType") cv,kitOne K (.type "bool") cv,kitOne K (.type "int") cv,kitOne K (.type "str") cv,kitOne K (.type "list") cv,kitOne K (.type "tuple") cv],iL.map λp=>kitOne K (.ref p.2) cv)
noncomputable def aT (G:Ip.Pg)(iL:List (Nat×Addr))(t:Ip.Ty):List (Option Bool)×List (Option Bool):=
 ([some (Ip.bf G .non t),some (Ip.bf G (.bl true) t),some (Ip.bf G (.int 0) t),some (Ip.bf G (.str "") t),some (Ip.bf G (.lst []) t),some (Ip.bf G (.tup []) t)],iL.map λp=>some (Ip.bf G (.ins p.1 []) t))
def yW (h:qT K iL cv=aT G iL t):bY (dF K iL att) G t cv:=
 yX (Prod.mk.inj h).1 (Prod.mk.inj h).2
end
structure Tl where
 fL:List Fd
 iC:List Ic
 nC:List (Str×Nat×Addr)
 mL:List (Addr×Fd)
 cL:List (Str×Int×Nat)
 tL:List (Str×Addr×List (Str×Nat))
noncomputable def Tl.iL (B:Tl):List (Nat×Addr):=B.iC.map λe=>(e.c,e.C)
noncomputable def tyV:List (Ip.Ty×Value):=[(.int,.type "int"),(.bool,.type "bool"),(.str,.type "str"),(.list,.type "list"),(.tuple,.type "tuple"),(.dict,.type "dict"),(.verr,.type "ValueError")]
noncomputable def Tl.ty (B:Tl):List (Ip.Ty×Value):=tyV++(B.nC.map (λe=>(.cls e.2.1,.ref e.2.2))++B.iC.map λe=>(.cls e.c,.ref e.C))
noncomputable def zL:ao:=eJ.map (·.1)++Ip.jr.map (·.1)
abbrev OB:=List (OV×Bool×DV)×List (OV×List Bool×List OV×List (Option Bool)×List OV×DV)×List OV×List (OV×Bool×Bool×DV) ×
 List (List (Option Bool)×List (Option Bool))×List OV×List OV×Bool×List (OV×Option (Value×Bool×Option al))
noncomputable def gG (K:Frag)(a:Addr):Option (Value×Bool×Option al):=(K.lookup a).map λo=>(o.cls,o.dict.isNone,match o.data with
 | .seq its _=>some its.toList
 | _=>none)
noncomputable def Tl.q (B:Tl)(ns:ao)(K:Frag):OB:=
  (B.fL.map λd=>(nsIn K mainGlobals d.x,keepIn K (.ref d.f),qD K d),B.iC.map (qI K ns),B.nC.map λe=>nsIn K mainGlobals e.1,
   B.mL.map λe=>(findIn K (.ref e.1) e.2.x,isFn K (.ref e.2.f),keepIn K (.ref e.2.f),qD K e.2),
   B.ty.map λe=>qT K B.iL e.2,
   zL.map λx=>nsIn K mainGlobals x,B.cL.map λc=>nsIn K mainGlobals c.1,K.all (λp=>!(p.2.cls == Value.type "list")),B.tL.map λc=>(nsIn K mainGlobals c.1,gG K c.2.1))
noncomputable def Tl.a (B:Tl)(ns:ao)(G:Ip.Pg):OB:=
  (B.fL.map λd=>(some (some (.ref d.f)),true,aD d),B.iC.map (aI ns),B.nC.map λe=>some (some (.ref e.2.2)),
   B.mL.map λe=>(some (some (.ref e.2.f)),true,true,aD e.2),
   B.ty.map λe=>aT G B.iL e.1,
   zL.map λ_=>some none,B.cL.map λc=>some (some (.int c.2.1 c.2.2)),true,B.tL.map λc=>(some (some (.ref c.2.1)),some (.type "tuple",true,some (c.2.2.map λs=>.str s.1 s.2))))
def Ff:∀p∈eJ,bootBuiltins p.1=some p.2:=Cn rfl <| Cn rfl <| Cn rfl <| Cn rfl <| Cn rfl <| Cn rfl <| Cn rfl <| Cn rfl <| Cn rfl <| Cn rfl <| Cn rfl <| Cn rfl <| Cn rfl <| Cn rfl <| Cn rfl Nl
def AY:∀p∈Ip.jr,p.1 ≠ "__name__" /\ (p.1 == ("__debug__" : Str))=false/\∃nm,bootBuiltins p.1=some (.type nm)/\(p.2,Value.type nm)∈tyV:=
 Cn ⟨by decide +kernel,by decide +kernel,_,rfl,by simp[tyV]⟩ <| Cn ⟨by decide +kernel,by decide +kernel,_,rfl,by simp[tyV]⟩ <| Cn ⟨by decide +kernel,by decide +kernel,_,rfl,by simp[tyV]⟩ <| Cn ⟨by decide +kernel,by decide +kernel,_,rfl,by simp[tyV]⟩ <|
 Cn ⟨by decide +kernel,by decide +kernel,_,rfl,by simp[tyV]⟩ <| Cn ⟨by decide +kernel,by decide +kernel,_,rfl,by simp[tyV]⟩ <| Cn ⟨by decide +kernel,by decide +kernel,_,rfl,by simp[tyV]⟩ Nl
section
variable {T:Ip.Tb}{G:Ip.Pg}{mg:Str->ay}{K:Frag}{h:Heap}{B:Tl}{ns:ao}
def qG {l:ao}(s:(l.all λx=>!(x == ("__debug__" : Str)))=true){x:Str}(hx:x∈l):(x == ("__debug__" : Str))=false:=by
 have:=dI s x hx;simpa using this
def Dy {p:Str×Nat}(s:(B.nC.any (λe=>e.1 == p.1&&e.2.1 == p.2)||B.iC.any (λe=>e.x == p.1&&e.c == p.2))=true) :
  (∃e∈B.nC,e.1=p.1/\e.2.1=p.2)\/∃e∈B.iC,e.x=p.1/\e.c=p.2:=by
 simp only[FM,List.any_eq_true,tw,Fm] at s;exact s
structure Ans (B:Tl)(ns:ao)(G:Ip.Pg)(K:Frag):Prop where
 f:∀d∈B.fL,nsIn K mainGlobals d.x=some (some (.ref d.f))/\keepIn K (.ref d.f)=true/\qD K d=aD d
 i:∀e∈B.iC,nsIn K mainGlobals e.x=some (some (.ref e.C))/\InsC K e.C/\NoA K e.C ns/\Mk K e.C e.d.f/\qD K e.d=aD e.d
 n:∀e∈B.nC,nsIn K mainGlobals e.1=some (some (.ref e.2.2))
 m:∀e∈B.mL,Meth K e.1 e.2.x e.2.f/\qD K e.2=aD e.2
 t:∀e∈B.ty,∀att,bY (dF K B.iL att) G e.1 e.2
 z:∀x∈zL,nsIn K mainGlobals x=some none
 c:∀c∈B.cL,nsIn K mainGlobals c.1=some (some (.int c.2.1 c.2.2))
 l:(K.all λp=>!(p.2.cls == Value.type "list"))=true
 u:∀c∈B.tL,nsIn K mainGlobals c.1=some (some (.ref c.2.1))/\gG K c.2.1=some (.type "tuple",true,some (c.2.2.map λs=>.str s.1 s.2))
def BR (e:B.q ns K=B.a ns G):Ans B ns G K:=by
 simp only[Tl.q,Tl.a,F6] at e;obtain⟨e1,e2,e4,e5,e7,e8,e9,e10,e11⟩:=e;refine⟨λd hd=>?_,λd hd=>ins_of (FQ.mp e2 d hd),λd hd=>FQ.mp e4 d hd,λd hd=>?_,λd hd att=>yW (FQ.mp e7 d hd),λx hx=>FQ.mp e8 x hx,λc hc=>FQ.mp e9 c hc,e10,λc hc=>F6 .. ▸ FQ.mp e11 c hc⟩
 .have:=FQ.mp e1 d hd;simpa only[F6] using this
 .have:=FQ.mp e5 d hd;simp only[F6] at this;exact⟨⟨this.1,this.2.1,this.2.2.1⟩,this.2.2.2⟩
def AR (l:List (Str×Nat)):(Ip.D.tup (l.map λs=>.str s.1)).flat=true:=by
 induction l with
 | nil=>rfl
 | cons x l ih=>simpa[Ip.D.flat,Ip.D.flats] using ih
theorem vT:∀l:List (Str×Nat),Dens W S (l.map λs=>V.str s.1) (l.map λs=>Ip.D.str s.1)
 | []=>.nil
 | _::l=>.cons .str (vT l)
theorem tJ:∀l:List (Str×Nat),Vals (l.map λs=>V.str s.1) (l.map λs=>Value.str s.1 s.2)
 | []=>.nil
 | _::l=>.cons ⟨_,rfl⟩ (tJ l)
def y3 {S:Hp}{a:Addr}{l:List (Str×Nat)}(h:gG K a=some (.type "tuple",true,some (l.map λs=>.str s.1 s.2)))(hz:l.length<=6):SqT K S a (l.map λs=>V.str s.1):=by
 unfold gG at h;cases e:K.lookup a with
 | none=>rw[e] at h; cases h
 | some o=>
  rw[e] at h;simp only[Option.map_some,GN,F6] at h;obtain⟨h1,h2,h3⟩:=h;have hd:o.dict=none:=by
   cases hh:o.dict with
   | none=>rfl
   | some x=>rw[hh] at h2; cases h2
  cases hdt:o.data with
  | seq its n=>
   rw[hdt] at h3;have e3:its.toList=l.map λs=>Value.str s.1 s.2:=cK h3;refine .inr ⟨o,its,n,e,h1,hd,hdt,?_,by rw[e3]; exact tJ l⟩;have:its.size=l.length:=by rw[<-Array.length_toList,e3,Fj]
   rw[this];exact bv hz (by decide)
  | _=>rw[hdt] at h3; cases h3
theorem z0 (clL:List (Nat×Ip.Cl))(X:K.In h)(Gl:h.Ns mainGlobals mg)(A:Ans B (pH T.fl T.att) G K)(hcl:∀c,G.cl c=clL.lookup c)
  (s1:T.fns=B.fL.map λd=>(d.x,d.k))
  (s2:(T.cls.all λp=>B.nC.any (λe=>e.1 == p.1&&e.2.1 == p.2)||B.iC.any (λe=>e.x == p.1&&e.c == p.2))=true)
  (s3:((T.fns.map (·.1)++(T.cls.map (·.1)++T.cst.map (·.1))).all λx=>!(x == ("__debug__" : Str)))=true)
  (s4:T.cst=B.cL.map (λc=>(c.1,Ip.D.int c.2.1))++B.tL.map λc=>(c.1,Ip.D.tup (c.2.2.map λs=>.str s.1)))(nd:T.att.Nodup)(s5:(B.tL.all λc=>decide (c.2.2.length<=6))=true)
  (okF:∀d∈B.fL,qZ (dF K B.iL T.att) T G d)
  (okI:∀e∈B.iC,qZ (dF K B.iL T.att) T G e.d/\B.iL.lookup e.c=some e.C/\∃Cl,G.cl e.c=some Cl/\Cl.init=some e.d.k/\Cl.isx=false)
  (okN:∀e∈B.nC,∃Cl,G.cl e.2.1=some Cl/\Cl.init=none)
  (okM:∀e∈B.mL,qZ (dF K B.iL T.att) T G e.2)
  (sM:(clL.all λp=>p.2.meths.isEmpty||(match B.iL.lookup p.1 with
   | some C=>p.2.meths.all λm=>B.mL.any λe=>e.1 == C&&(T.att[m.1]? == some e.2.x&&e.2.k == m.2)
   | none=>false))=true) :
  GF0 (dF K B.iL T.att) G T mg:=by
 have d1:∀p∈T.fns,(p.1 == ("__debug__" : Str))=false:=λp hp=>qG s3 (dZ _ (FH hp));have d2:∀p∈T.cls,(p.1 == ("__debug__" : Str))=false:=λp hp=>qG s3 (ck _ (dZ _ (FH hp)));have d3:∀p∈T.cst,(p.1 == ("__debug__" : Str))=false:=λp hp=>qG s3 (ck _ (ck _ (FH hp)));refine En ?cf rfl ?blt ?cst ?fns ?cls ?meth ?isB
 case cf=>
  refine wm nd λp hp=>?_;obtain⟨e,he,rfl⟩:=eT hp;exact⟨(A.i e he).2.1,(A.i e he).2.2.1⟩
 case blt=>exact λp hp=>⟨mg_none_of X Gl (A.z _ (dZ _ (FH hp))),Ff p hp⟩
 case cst=>
  intro p hp;have h0:=d3 p hp;rw[s4] at hp;rcases dg hp with hp | hp
  .obtain⟨c,hc,rfl⟩:=eT hp;exact⟨h0,_,.int c.2.1,mg_of X Gl (A.c c hc),⟨_,rfl⟩,rfl,λ_=>.int⟩
  .obtain⟨c,hc,rfl⟩:=eT hp;obtain⟨a1,a2⟩:=A.u c hc;have hz:c.2.2.length<=6:=He (dI s5 c hc);exact⟨h0,_,.ref c.2.1,mg_of X Gl a1,rfl,AR _,λS=>.tup (y3 a2 hz) (vT _)⟩
 case fns=>
  intro p hp;have h0:=d1 p hp;rw[s1] at hp;obtain⟨d,hd,rfl⟩:=eT hp;obtain⟨F,f1,f2⟩:=okF d hd;obtain⟨a1,a2,a3⟩:=A.f d hd;exact⟨h0,F,d.f,f1,mg_of X Gl a1,a2,f2 a3⟩
 case cls=>
  intro p hp;refine⟨d2 p hp,?_⟩;rcases Dy (dI s2 p hp) with ⟨e,he,q1,q2⟩ | ⟨e,he,q1,q2⟩
  .obtain⟨Cl,c1,c2⟩:=okN e he;refine⟨e.2.2,by rw[<-q1]; exact mg_of X Gl (A.n e he),by rw[<-q2]; exact A.t (.cls e.2.1,.ref e.2.2) (ck _ (dZ _ (FH (f:=λe:Str×Nat×Addr=>(Ip.Ty.cls e.2.1,Value.ref e.2.2)) he))) _,λCl' f F h1 h2 _=>?_⟩;rw[<-q2,c1] at h1;cases h1;rw[c2] at h2;cases h2
  .obtain⟨⟨F',f1,f2⟩,li,Cl,c1,c2,c3⟩:=okI e he;obtain⟨a1,_,_,a4,a5⟩:=A.i e he;refine⟨e.C,by rw[<-q1]; exact mg_of X Gl a1,by rw[<-q2]; exact A.t (.cls e.c,.ref e.C) (ck _ (ck _ (FH (f:=λe:Ic=>(Ip.Ty.cls e.c,Value.ref e.C)) he))) _,λCl' f F h1 h2 h3=>?_⟩;rw[<-q2,c1] at h1;cases h1;rw[c2] at h2;cases h2;rw[f1] at h3;cases h3;refine⟨e.d.f,f2 a5,?_⟩;rw[<-q2];exact⟨li,a4⟩
 case meth=>
  intro c Cl' h1 hm;rw[hcl] at h1;have q:=dI sM (c,Cl') (gp h1);have hm':Cl'.meths.isEmpty=false:=by cases hh:Cl'.meths with | nil=>exact absurd hh hm | cons _ _=>rfl
  rw[hm',Bool.false_or] at q;cases hi:B.iL.lookup c with
  | none=>rw[hi] at q; cases q
  | some C=>
   rw[hi] at q;refine⟨C,hi,λp hp=>?_⟩;obtain⟨e,he,q1⟩:=List.any_eq_true.mp (dI q p hp);simp only[tw,Fm] at q1;obtain⟨rfl,q2,q3⟩:=q1;obtain⟨F,f1,f2⟩:=okM e he;obtain⟨a1,a2⟩:=A.m e he;exact⟨F,e.2.x,e.2.f,by rw[<-q3]; exact f1,q2,a1,f2 a2⟩
 case isB=>
  intro p hp;obtain⟨b1,b2,nm,b3,b4⟩:=AY p hp;exact⟨mg_none_of X Gl (A.z _ (ck _ (FH hp))),b1,b2,nm,b3,A.t (p.2,.type nm) (dZ _ b4) _⟩
end
end Hd
end
section
namespace Ip
open PySem (Str)
noncomputable def pG:ao:=["__init__", "row", "garment", "over", "place", "first", "second", "moment", "name", "place_count", "covered_places", "spots", "many", "covers", "meet", "wardrobe", "prices", "start", "dressers", "beats", "scenes"]
noncomputable def T_k41:Tb:=⟨[("is_whole",0),("is_below",1),("is_rising",15),("are_places",16),("check_garment",17),("bare_wearing",23),("worn_in",24),("put_on",25),("seen_in",29),("dressed",30),("is_held",67),("is_shown",68),("_law_draw",135),("_law_mix",71),("_law_part",136),("_law_covers",99),("_law_wearer",137),("_law_above",138),("_law_do",139),("_law_frozen",140),("_law_thawed",141),("_law_bare",142),("_law_may",143),("_law_cross",144),("_law_deed",116),("_law_beat",145),("_law_done",88),("_law_orders",160),("_law_wish",161),("_law_holds",162),("_law_alike",163),("law",69)],[("Wardrobe",17)], "WardrobeError",pG,[1,2,3,4,5,6,7,8,9,10,15,16,17,18,19,20],[("DEEPEST",(.int (100))),("MOST_PLACES",(.int (6))),("MOST_GARMENTS",(.int (6)))],[139,88,160]⟩
noncomputable def kc:Fn:=⟨1,[],1,[],[
  .ret (.and (.op (.isi [.int]) [(.var 0)]) (.op .not [(.op (.isi [.bool]) [(.var 0)])]))]⟩
noncomputable def ko:Fn:=⟨2,[],2,[],[
  .ret (.and (.call 0 [(.var 0)]) (.chain .le .lt (.cst (.int (0))) (.var 0) (.var 1)))]⟩
noncomputable def nG:Fn:=⟨1,[],1,[],[
  .ret (.op .all [(.comp [none,none,none] (.many [1,2]) .zip [(.var 0),(.op .slL [(.var 0),(.cst (.int (1)))])] [] (.op .lt [(.var 1),(.var 2)]))])]⟩
noncomputable def kq:Fn:=⟨2,[],2,[],[
  .iff (.or (.op .not [(.op (.isi [.list]) [(.var 0)])]) (.op .eq [(.op .len [(.var 0)]),(.cst (.int (0)))])) [.ret (.cst (.bl false))] [],
  .ret (.and (.op .all [(.comp [none,none,(some 1)] (.one 1) .seq [(.var 0)] [] (.call 1 [(.var 1),(.var 2)]))]) (.call 15 [(.var 0)]))]⟩
noncomputable def ll:Fn:=⟨2,[],2,[],[
  .iff (.op .not [(.call 1 [(.var 1),(.meth 12 (.var 0) [])])]) [.bad] []]⟩
noncomputable def nZ:Fn:=⟨1,[],1,[],[
  .ret (.op .tuple [(.comp [none,none] (.one 1) .rng1 [(.meth 11 (.var 0) [])] [] (.op .tup []))])]⟩
noncomputable def oa:Fn:=⟨1,[],3,[],[
  .set 1 (.op .lst []),
  .fo (.one 2) .seq [(.var 0)] [.mut 1 [] .extend [(.var 2)]],
  .ret (.op .srtSet [(.var 1)])]⟩
noncomputable def p8:Fn:=⟨3,[],5,[],[
  .ex (.call 17 [(.var 0),(.var 2)]),
  .iff (.op .isin [(.var 2),(.call 24 [(.var 1)])]) [.bad] [],
  .set 3 (.op .list [(.var 1)]),
  .fo (.one 4) .seq [(.meth 13 (.var 0) [(.var 2)])] [.put 3 [] (.var 4) (.op .add [(.op .ix [(.var 3),(.var 4)]),(.op .tup [(.var 2)])])],
  .ret (.op .tuple [(.var 3)])]⟩
noncomputable def ls:Fn:=⟨1,[],1,[],[
  .ret (.comp [none,none] (.one 1) .seq [(.var 0)] [] (.ite (.op .gt [(.op .len [(.var 1)]),(.cst (.int (0)))]) (.op .ix [(.var 1),(.op .neg [(.cst (.int (1)))])]) (.cst .non)))]⟩
noncomputable def qM:Fn:=⟨2,[],4,[],[
  .set 2 (.call 23 [(.var 0)]),
  .fo (.one 3) .seq [(.var 1)] [.set 2 (.call 25 [(.var 0),(.var 2),(.var 3)])],
  .ret (.var 2)]⟩
noncomputable def pS:Fn:=⟨3,[],5,[],[
  .set 3 (.op .ix [(.var 1),(.op .ix [(.var 2),(.cst (.int (1)))])]),
  .iff (.op .eq [(.op .ix [(.var 2),(.cst (.int (0)))]),(.cst (.str "stand"))]) [.ret (.op .eq [(.var 3),(.call 30 [(.var 0),(.op .ix [(.var 2),(.cst (.int (2)))])])])] [],
  .set 4 (.op .ix [(.call 29 [(.var 3)]),(.op .ix [(.var 2),(.cst (.int (2)))])]),
  .iff (.op .eq [(.op .ix [(.var 2),(.cst (.int (0)))]),(.cst (.str "bare"))]) [.ret (.op .isN [(.var 4)])] [],
  .ret (.op .eq [(.var 4),(.op .ix [(.var 2),(.cst (.int (3)))])])]⟩
noncomputable def nD:Fn:=⟨3,[],3,[],[
  .ret (.op .all [(.comp [none,none,(some 1),(some 0)] (.one 1) .seq [(.var 2)] [] (.call 67 [(.var 3),(.var 2),(.var 1)]))])]⟩
noncomputable def iH:Fn:=⟨2,[],3,[],[
  .set 2 (.sl2 (.var 0) (.var 1) (.op .add [(.var 1),(.cst (.int (1)))])),
  .iff (.op .eq [(.var 2),(.op .lst [])]) [.ret (.cst (.int (0)))] [],
  .ret (.op .ix [(.var 2),(.cst (.int (0)))])]⟩
noncomputable def dH:Fn:=⟨3,[],7,[],[
  .iff (.op .eq [(.op .mod [(.var 0),(.cst (.int (2)))]),(.cst (.int (1)))]) [.set 3 (.op .ix [(.op .lst [(.cst (.int (1))),(.op .pow [(.cst (.int (10))),(.cst (.int (7)))]),(.op .pow [(.cst (.int (10))),(.cst (.int (14)))]),(.op .pow [(.cst (.int (10))),(.cst (.int (21)))]),(.op .pow [(.cst (.int (10))),(.cst (.int (28)))]),(.op .pow [(.cst (.int (10))),(.cst (.int (35)))]),(.op .pow [(.cst (.int (10))),(.cst (.int (42)))]),(.op .pow [(.cst (.int (10))),(.cst (.int (49)))])]),(.var 1)]),.ret (.op .mod [(.op .fdiv [(.op .fdiv [(.var 0),(.cst (.int (2)))]),(.var 3)]),(.var 2)])] [],
  .set 4 (.op .ix [(.op .lst [(.cst (.int (48271))),(.cst (.int (69621))),(.cst (.int (16807))),(.cst (.int (40692))),(.cst (.int (39373))),(.cst (.int (30269))),(.cst (.int (27183))),(.cst (.int (60013)))]),(.var 1)]),
  .set 5 (.op .ix [(.op .lst [(.cst (.int (999983))),(.cst (.int (999979))),(.cst (.int (999961))),(.cst (.int (999959))),(.cst (.int (999953))),(.cst (.int (999931))),(.cst (.int (999917))),(.cst (.int (999907)))]),(.var 1)]),
  .set 6 (.op .mod [(.var 0),(.cst (.int (2147483647)))]),
  .ret (.op .mod [(.op .fdiv [(.op .mod [(.op .add [(.op .add [(.op .mul [(.op .mul [(.cst (.int (3))),(.var 6)]),(.var 6)]),(.op .mul [(.var 4),(.var 6)])]),(.op .mul [(.cst (.int (7907))),(.op .add [(.var 1),(.cst (.int (1)))])])]),(.var 5)]),(.cst (.int (5)))]),(.var 2)])]⟩
noncomputable def lW:Fn:=⟨2,[],4,[],[
  .iff (.op .eq [(.op .mod [(.var 0),(.cst (.int (2)))]),(.cst (.int (0)))]) [.ret (.op .add [(.op .mod [(.var 0),(.op .pow [(.cst (.int (10))),(.cst (.int (15)))])]),(.op .mul [(.op .mul [(.cst (.int (976))),(.var 1)]),(.var 1)])])] [],
  .set 2 (.op .fdiv [(.var 0),(.cst (.int (2)))]),
  .fo (.one 3) .rng1 [(.var 1)] [.set 2 (.op .fdiv [(.var 2),(.op .pow [(.cst (.int (10))),(.cst (.int (56)))])])],
  .ret (.op .add [(.op .mul [(.cst (.int (2))),(.var 2)]),(.cst (.int (1)))])]⟩
noncomputable def mF:Fn:=⟨3,[],7,[],[
  .set 3 (.op .lst []),
  .fo (.one 4) .rng1 [(.var 2)] [.set 5 (.call 136 [(.var 0),(.var 4)]),.set 6 (.op .add [(.cst (.int (1))),(.call 71 [(.var 5),(.cst (.int (1))),(.op .ix [(.op .lst [(.cst (.int (1))),(.cst (.int (3))),(.cst (.int (7))),(.cst (.int (15))),(.cst (.int (31))),(.cst (.int (63)))]),(.op .sub [(.var 1),(.cst (.int (1)))])])])]),.iff (.op .eq [(.call 71 [(.var 5),(.cst (.int (4))),(.cst (.int (3)))]),(.cst (.int (1)))]) [.set 6 (.op .ix [(.op .lst [(.cst (.int (1))),(.cst (.int (2))),(.cst (.int (4))),(.cst (.int (8))),(.cst (.int (16))),(.cst (.int (32)))]),(.call 71 [(.var 5),(.cst (.int (5))),(.var 1)])])] [],.mut 3 [] .append [(.comp [none,none,(some 6)] (.one 1) .rng1 [(.var 1)] [(.op .eq [(.op .mod [(.op .fdiv [(.var 2),(.op .ix [(.op .lst [(.cst (.int (1))),(.cst (.int (2))),(.cst (.int (4))),(.cst (.int (8))),(.cst (.int (16))),(.cst (.int (32)))]),(.var 1)])]),(.cst (.int (2)))]),(.cst (.int (1)))])] (.var 1))]],
  .ret (.var 3)]⟩
noncomputable def lD:Fn:=⟨2,[],3,[],[
  .fo (.one 2) .rng1 [(.op .len [(.var 0)])] [.iff (.op .any [(.comp [none,none,(some 1)] (.one 1) .seq [(.op .ix [(.var 0),(.var 2)])] [] (.op .isin [(.var 2),(.var 1)]))]) [.ret (.var 2)] []],
  .ret (.cst .non)]⟩
noncomputable def mW:Fn:=⟨4,[],7,[],[
  .set 4 (.op .lst []),
  .fo (.one 5) .seq [(.op .ix [(.var 1),(.var 3)])] [.set 6 (.op .ix [(.op .ix [(.var 0),(.var 2)]),(.var 5)]),.iff (.op .ne [(.op .ix [(.var 6),(.op .neg [(.cst (.int (1)))])]),(.var 3)]) [.mut 4 [] .append [(.op .ix [(.var 6),(.op .add [(.op .index [(.var 6),(.var 3)]),(.cst (.int (1)))])])]] []],
  .ret (.var 4)]⟩
noncomputable def nv:Fn:=⟨3,[0],7,[],[
  .setT [3,4,5] (.var 2),
  .fo (.one 6) .seq [(.op .ix [(.var 1),(.var 5)])] [.iff (.op .eq [(.var 4),(.cst (.str "on"))]) [.nest 0 [3,6] false 5] [.nest 0 [3,6] true 5]]]⟩
noncomputable def my:Fn:=⟨1,[],1,[],[
  .ret (.op .tuple [(.comp [none,none] (.one 1) .seq [(.var 0)] [] (.op .tuple [(.comp [none,none] (.one 1) .seq [(.var 1)] [] (.op .tuple [(.var 1)]))]))])]⟩
noncomputable def mX:Fn:=⟨1,[],1,[],[
  .ret (.comp [none,none] (.one 1) .seq [(.var 0)] [] (.comp [none,none] (.one 1) .seq [(.var 1)] [] (.op .list [(.var 1)])))]⟩
noncomputable def mY:Fn:=⟨2,[],2,[],[
  .ret (.comp [none,none,(some 1)] (.one 1) .rng1 [(.var 0)] [] (.comp [none,none] (.one 1) .rng1 [(.var 2)] [] (.op .lst [])))]⟩
noncomputable def la:Fn:=⟨3,[],6,[],[
  .setT [3,4,5] (.var 2),
  .iff (.op .eq [(.var 4),(.cst (.str "on"))]) [.ret (.op .isN [(.call 137 [(.var 0),(.var 5)])])] [],
  .ret (.and (.op .eq [(.call 137 [(.var 0),(.var 5)]),(.var 3)]) (.op .eq [(.call 138 [(.var 0),(.var 1),(.var 3),(.var 5)]),(.op .lst [])]))]⟩
noncomputable def mQ:Fn:=⟨3,[],3,[],[
  .iff (.op .eq [(.op .ix [(.var 1),(.cst (.int (2)))]),(.op .ix [(.var 2),(.cst (.int (2)))])]) [.ret (.cst (.bl true))] [],
  .ret (.and (.op .eq [(.op .ix [(.var 1),(.cst (.int (0)))]),(.op .ix [(.var 2),(.cst (.int (0)))])]) (.op .any [(.comp [none,none,(some 0),(some 2)] (.one 1) .seq [(.op .ix [(.var 0),(.op .ix [(.var 1),(.cst (.int (2)))])])] [] (.op .isin [(.var 1),(.op .ix [(.var 2),(.op .ix [(.var 3),(.cst (.int (2)))])])]))]))]⟩
noncomputable def ny:Fn:=⟨3,[],5,[],[
  .set 3 (.call 71 [(.var 2),(.cst (.int (3))),(.op .len [(.var 1)])]),
  .set 4 (.call 137 [(.var 0),(.var 3)]),
  .iff (.op .isN [(.var 4)]) [.ret (.op .tup [(.call 71 [(.var 2),(.cst (.int (2))),(.op .len [(.var 0)])]),(.cst (.str "on")),(.var 3)])] [],
  .ret (.op .tup [(.var 4),(.cst (.str "off")),(.var 3)])]⟩
noncomputable def lh:Fn:=⟨4,[],7,[],[
  .set 4 (.op .lst []),
  .iff (.op .eq [(.var 1),(.op .lst [])]) [.ret (.var 4)] [],
  .fo (.one 5) .rng1 [(.call 71 [(.var 2),(.cst (.int (6))),(.op .add [(.var 3),(.cst (.int (1)))])])] [.set 6 (.call 116 [(.var 0),(.var 1),(.call 136 [(.var 2),(.var 5)])]),.iff (.and (.call 143 [(.var 0),(.var 1),(.var 6)]) (.op .not [(.op .any [(.comp [none,none,(some 1),(some 6)] (.one 1) .seq [(.var 4)] [] (.call 144 [(.var 2),(.var 3),(.var 1)]))])])) [.mut 4 [] .append [(.var 6)]] []],
  .ret (.var 4)]⟩
noncomputable def mZ:Fn:=⟨3,[0],4,[],[
  .fo (.one 3) .seq [(.var 2)] [.byref 139 0 [(.var 1),(.var 3)]]]⟩
noncomputable def nJ:Fn:=⟨2,[0],5,[],[
  .fo (.many [2,3,4]) .seq [(.var 1)] [.iff (.op .eq [(.var 3),(.cst (.str "on"))]) [.nest 0 [2] false 4] [.nest 0 [2] true 4]]]⟩
noncomputable def nL:Fn:=⟨4,[],7,[],[
  .set 4 (.call 71 [(.var 3),(.cst (.int (1))),(.op .len [(.var 0)])]),
  .set 5 (.call 71 [(.var 3),(.cst (.int (2))),(.op .len [(.op .ix [(.var 0),(.var 4)])])]),
  .set 6 (.op .ix [(.op .ix [(.var 0),(.var 4)]),(.var 5)]),
  .iff (.op .eq [(.call 71 [(.var 3),(.cst (.int (3))),(.cst (.int (5)))]),(.cst (.int (1)))]) [.ret (.op .tup [(.cst (.str "stand")),(.var 4),(.op .list [(.op .ix [(.var 1),(.var 4)])])])] [],
  .iff (.and (.op .gt [(.var 2),(.cst (.int (0)))]) (.op .eq [(.call 71 [(.var 3),(.cst (.int (4))),(.cst (.int (9)))]),(.cst (.int (1)))])) [.ret (.op .tup [(.cst (.str "see")),(.var 4),(.var 5),(.call 71 [(.var 3),(.cst (.int (5))),(.var 2)])])] [],
  .iff (.op .eq [(.var 6),(.op .lst [])]) [.ret (.op .tup [(.cst (.str "bare")),(.var 4),(.var 5)])] [],
  .ret (.op .tup [(.cst (.str "see")),(.var 4),(.var 5),(.op .ix [(.var 6),(.op .neg [(.cst (.int (1)))])])])]⟩
noncomputable def qU:Fn:=⟨3,[],5,[],[
  .iff (.op .eq [(.op .ix [(.var 2),(.cst (.int (0)))]),(.cst (.str "stand"))]) [.set 3 (.comp [none,none] (.one 1) .seq [(.op .ix [(.var 1),(.op .ix [(.var 2),(.cst (.int (1)))])])] [] (.var 1)),.ret (.and (.op .eq [(.op .srt [(.var 3)]),(.op .srt [(.op .ix [(.var 2),(.cst (.int (2)))])])]) (.call 163 [(.var 0),(.var 2)]))] [],
  .set 4 (.op .ix [(.op .ix [(.var 0),(.op .ix [(.var 2),(.cst (.int (1)))])]),(.op .ix [(.var 2),(.cst (.int (2)))])]),
  .iff (.op .eq [(.op .ix [(.var 2),(.cst (.int (0)))]),(.cst (.str "bare"))]) [.ret (.op .eq [(.var 4),(.op .lst [])])] [],
  .ret (.and (.op .ne [(.var 4),(.op .lst [])]) (.op .eq [(.op .ix [(.var 4),(.op .neg [(.cst (.int (1)))])]),(.op .ix [(.var 2),(.cst (.int (3)))])]))]⟩
noncomputable def pF:Fn:=⟨2,[],3,[],[
  .fo (.one 2) .seq [(.op .ix [(.var 0),(.op .ix [(.var 1),(.cst (.int (1)))])])] [.iff (.op .ne [(.var 2),(.comp [none,none,(some 2)] (.one 1) .seq [(.op .ix [(.var 1),(.cst (.int (2)))])] [(.op .isin [(.var 1),(.var 2)])] (.var 1))]) [.ret (.cst (.bl false))] []],
  .ret (.cst (.bl true))]⟩
noncomputable def nR:Fn:=⟨1,[],19,[],[
  .set 1 (.op .add [(.cst (.int (1))),(.call 71 [(.call 135 [(.var 0),(.cst (.int (0)))]),(.cst (.int (1))),(.cst (.int (6)))])]),
  .set 2 (.call 71 [(.call 135 [(.var 0),(.cst (.int (1)))]),(.cst (.int (1))),(.cst (.int (7)))]),
  .set 3 (.op .add [(.cst (.int (1))),(.call 71 [(.call 135 [(.var 0),(.cst (.int (2)))]),(.cst (.int (1))),(.cst (.int (3)))])]),
  .set 4 (.call 99 [(.call 135 [(.var 0),(.cst (.int (3)))]),(.var 1),(.var 2)]),
  .set 6 (.make 17 [(.var 1),(.comp [none,none] (.one 1) .seq [(.var 4)] [] (.op .list [(.var 1)]))]),
  .set 7 (.call 142 [(.var 3),(.var 1)]),
  .set 8 (.comp [none,none] (.one 1) .rng1 [(.var 3)] [] (.op .lst [])),
  .set 9 (.op .lst [(.op .tup [(.call 140 [(.var 7)]),(.comp [none,none] (.one 1) .seq [(.var 8)] [] (.op .list [(.var 1)]))])]),
  .fo (.one 10) .seq [(.sl2 (.var 0) (.cst (.int (8))) (.cst (.int (28))))] [.set 11 (.call 145 [(.var 7),(.var 4),(.var 10),(.cst (.int (2)))]),.byref 88 7 [(.var 4),(.var 11)],.byref 160 8 [(.var 11)],.mut 9 [] .append [(.op .tup [(.call 140 [(.var 7)]),(.comp [none,none] (.one 1) .seq [(.var 8)] [] (.op .list [(.var 1)]))])]],
  .set 12 (.op .lst []),
  .fo (.one 10) .seq [(.sl2 (.var 0) (.cst (.int (30))) (.cst (.int (42))))] [.set 13 (.op .mul [(.call 71 [(.var 10),(.cst (.int (6))),(.cst (.int (3)))]),(.call 71 [(.var 10),(.cst (.int (7))),(.op .min2 [(.cst (.int (4))),(.op .len [(.var 9)])])])]),.set 14 (.op .ix [(.var 9),(.op .sub [(.op .sub [(.op .len [(.var 9)]),(.cst (.int (1)))]),(.op .mod [(.op .fdiv [(.var 13),(.cst (.int (2)))]),(.op .len [(.var 9)])])])]),.mut 12 [] .append [(.call 161 [(.call 141 [(.op .ix [(.var 14),(.cst (.int (0)))])]),(.op .ix [(.var 14),(.cst (.int (1)))]),(.var 2),(.var 10)])]],
  .set 15 (.call 140 [(.var 7)]),
  .fo (.one 5) .seq [(.op .add [(.op .lst [(.var 12),(.op .lst []),(.op .slH [(.var 12),(.cst (.int (1)))])]),(.comp [none,none] (.one 1) .seq [(.var 12)] [] (.op .lst [(.var 1)]))])] [.set 16 (.op .list [(.var 5)]),.set 17 (.call 68 [(.var 6),(.var 15),(.var 16)]),.set 18 (.op .all [(.comp [none,none,(some 8),(some 7)] (.one 1) .seq [(.var 5)] [] (.call 162 [(.var 3),(.var 2),(.var 1)]))]),.iff (.or (.op .not [(.op (.isi [.bool]) [(.var 17)])]) (.or (.op .ne [(.var 17),(.var 18)]) (.op .ne [(.var 16),(.var 5)]))) [.ret (.cst (.bl false))] []],
  .ret (.cst (.bl true))]⟩
noncomputable def ki:Fn:=⟨3,[0],5,[],[
  .iff (.or (.op .not [(.call 0 [(.var 1)])]) (.op .not [(.chain .le .le (.cst (.int (1))) (.var 1) (.cst (.int (6))))])) [.bad] [],
  .iff (.op .gt [(.op .len [(.var 2)]),(.cst (.int (6)))]) [.bad] [],
  .fo (.many [3,4]) .enum [(.var 2)] [.iff (.op .not [(.call 16 [(.var 4),(.var 1)])]) [.bad] []],
  .sfld 0 9 (.var 1),
  .sfld 0 10 (.comp [none,none] (.one 1) .seq [(.var 2)] [] (.op .tuple [(.var 1)]))]⟩
noncomputable def kf:Fn:=⟨1,[],1,[],[
  .ret (.op (.fld 9) [(.var 0)])]⟩
noncomputable def kr:Fn:=⟨1,[],1,[],[
  .ret (.op .len [(.op (.fld 10) [(.var 0)])])]⟩
noncomputable def kG:Fn:=⟨2,[],2,[],[
  .ex (.call 17 [(.var 0),(.var 1)]),
  .ret (.op .list [(.op .ix [(.op (.fld 10) [(.var 0)]),(.var 1)])])]⟩
noncomputable def fnL_k41:List (Nat×Fn):=[(0,kc),(1,ko),(15,nG),(16,kq),(17,ll),(23,nZ),(24,oa),(25,p8),(29,ls),(30,qM),(67,pS),(68,nD),(135,iH),(71,dH),(136,lW),(99,mF),(137,lD),(138,mW),(139,nv),(140,my),(141,mX),(142,mY),(143,la),(144,mQ),(116,ny),(145,lh),(88,mZ),(160,nJ),(161,nL),(162,qU),(163,pF),(69,nR),(18,ki),(19,kf),(20,kr),(21,kG)]
noncomputable def clL_k41:List (Nat×Cl):=[(17,⟨(some 18),[(11,19),(12,20),(13,21)],[],false⟩)]
noncomputable def G_k41:Pg where
 fn:=λi=>fnL_k41.lookup i
 cl:=λi=>clL_k41.lookup i
def eU {α:Type}{e:α->D}{f:D->R ax}{g:α->KD}{xs:List α}(h:∀x∈xs,f (e x)=.ok (some (g x))):aO f (xs.map e)=.ok (xs.map g):=by
 induction xs with
 | nil=>rfl
 | cons x xs ih=>rw[Fk,aO,h x Gh,R.bind,ih λy hy=>h y (Go _ hy)]; rfl
def uk {α:Type}{e:α->D}{f:D->R ax}{p:α->Bool}{g:α->KD}{xs:List α}(h:∀x∈xs,f (e x)=.ok (if p x then some (g x) else none)):aO f (xs.map e)=.ok ((xs.filter p).map g):=by
 induction xs with
 | nil=>rfl
 | cons x xs ih=>
  rw[Fk,aO,h x Gh,R.bind,ih λy hy=>h y (Go _ hy)];by_cases q:p x=true
  .simp[q]
  .simp[q]
@[simp] theorem oZ (p:α->Bool):∀xs:List α,allB (xs.map λx=>.bl (p x))=some (xs.all p)
 | []=>rfl
 | x::xs=>by rw[Fk,allB,oZ p xs]; rfl
@[simp] theorem mM (p:α->Bool):∀xs:List α,anyB (xs.map λx=>.bl (p x))=some (xs.any p)
 | []=>rfl
 | x::xs=>by rw[Fk,anyB,mM p xs]; rfl
@[simp] theorem Fb:∀xs:aj,bE (xs.map .int)=some xs
 | []=>rfl
 | x::xs=>by rw[Fk,bE,Fb xs]; rfl
@[simp] theorem Bv:∀xs:aj,D.flats (xs.map .int)=true
 | []=>by simp
 | x::xs=>by simp[Bv xs]
@[simp] theorem td:∀xs ys:aj,D.eqs (xs.map .int) (ys.map .int)=decide (xs=ys)
 | [],[]=>by simp[D.eqs]
 | [],_::_=>by simp[D.eqs]
 | _::_,[]=>by simp[D.eqs]
 | x::xs,y::ys=>by simp[D.eqs,D.eq,td xs ys]
def me (h:∀x∈xs,x.2.flat=true):aL xs=98:=by
 have:xs.find? (λx=>!x.2.flat)=none:=by
  rw[List.find?_eq_none];intro x hx;simp[h x hx]
 rw[aL,this]
@[simp] theorem flat_int (i:Int):(D.int i).flat=true:=rfl
@[simp] theorem joinK_int (k:Nat)(i:Int)(xs:au):aL ((k,.int i)::xs)=aL xs:=kY rfl
@[simp] theorem joinK_bl (k:Nat)(i:Bool)(xs:au):aL ((k,.bl i)::xs)=aL xs:=kY rfl
@[simp] theorem joinK_non (k:Nat)(xs:au):aL ((k,.non)::xs)=aL xs:=kY rfl
@[simp] theorem joinK_str (k:Nat)(i:Str)(xs:au):aL ((k,.str i)::xs)=aL xs:=kY rfl
@[simp] theorem fb_int (k:Nat)(i:Int):D.fb k (.int i)=true:=by cases k <;> rfl
@[simp] theorem fb_bl (k:Nat)(i:Bool):D.fb k (.bl i)=true:=by cases k <;> rfl
@[simp] theorem fb_non (k:Nat):D.fb k .non=true:=by cases k <;> rfl
@[simp] theorem fb_str (k:Nat)(i:Str):D.fb k (.str i)=true:=by cases k <;> rfl
def zf (xs:List α)(k:Nat):cutD xs none (some (k:Int))=xs.take k:=by
 simp only[cutD,dG];simp
def B9 (xs:List α)(k:Nat):cutD xs (some (k:Int)) none=xs.drop k:=by
 simp only[cutD,dG];by_cases h:k<=xs.length
 .skip
  simp only[if_pos (Int.natCast_nonneg k),Int.toNat_natCast,Nat.min_eq_left h];exact List.take_of_length_le (by simp)
 .have h':xs.length<=k:=by omega
  simp[Nat.min_eq_right h',Hf h']
@[simp] theorem wk_seq (k:Nat)(x:D):da .seq [(k,x)]=x.seq:=rfl
@[simp] theorem wk_enum (k:Nat)(xs:av):da .enum [(k,.lst xs)]=some (xs.mapIdx λn d=>.tup [.int n,d]):=rfl
@[simp] theorem wk_zip (k k':Nat)(xs ys:av):da .zip [(k,.lst xs),(k',.lst ys)]=some ((xs.zip ys).map λp=>.tup [p.1,p.2]):=rfl
def wk_rng1 (h:p<=SL):da .rng1 [(k,.int p)]=some ((List.range p).map λ(n:Nat)=>.int n):=by
 have h2:p<=1000000:=h;have:ci (p:Int)=true:=dA.mpr (by omega);show (if ci (p:Int)=true then _ else none)=_;rw[if_pos this];rfl
def wk_rng2 (hi : -1000000<=i/\i<=1000000)(hj : -1000000<=j/\j<=1000000):da .rng2 [(k,.int i),(k',.int j)]=some ((List.range (j - i).toNat).map λ(n:Nat)=>.int (i+n)):=by
 have h1:ci i=true:=dA.mpr (by omega);have h2:ci j=true:=dA.mpr (by omega);show (if ci i=true/\ci j=true then _ else none)=_;rw[if_pos ⟨h1,h2⟩]
def sX (h:0<n):en n (-1)=some (n - 1):=by
 have h1:¬(0:Int) <= -1:=by decide
 have h2 : -(n:Int) <= -1:=by omega
 simp only[en,h1,if_false,h2,if_true];congr 1
 omega
theorem uO {body:D->Fr->O}{I:Fr->Prop}:∀{xs:av} {A:Fr},I A->(∀x∈xs,∀A,I A->∃A',body x A=.nx A'/\I A')->∃A',bD body xs A=.nx A'/\I A'
 | [],A,h,_=>⟨A,rfl,h⟩
 | x::xs,A,h,k=>by
  obtain⟨A1,e1,h1⟩:=k x bW A h;obtain⟨A2,e2,h2⟩:=uO (xs:=xs) h1 λy hy=>k y (bX _ hy);exact⟨A2,by rw[bD,e1]; exact e2,h2⟩
def B3 (h:G.fn f=some F)(hn:vs.length=F.np):run G (n+1) f vs=fin F.io (execs G (run G n) F.io (bo F vs) F.body):=by
 rw[run,h];exact if_pos hn
noncomputable abbrev o0 (d:D):ax:=some (0,d)
def RelK:ax->ax->Prop
 | none,none=>True
 | some x,some y=>x.2=y.2/\y.1<=x.1
 | _,_=>False
inductive RelF:Fr->Fr->Prop
 | nil:RelF [] []
 | cons {x y:ax} {A a:Fr} (h:RelK x y) (t:RelF A a):RelF (x::A) (y::a)
theorem RelK.refl:∀x:ax,RelK x x
 | none=>trivial
 | some _=>⟨rfl,bu _⟩
theorem RelF.refl:∀A:Fr,RelF A A
 | []=>.nil
 | x::A=>.cons (.refl x) (.refl A)
theorem RelF.sl (h:RelF A a):A.sl=a.sl:=by
 induction h with
 | nil=>rfl
 | @cons x y A a h t ih=>
  have:x.map (·.2)=y.map (·.2):=by
   cases x <;> cases y <;> first | rfl | exact h.elim | (simp only[Option.map]; exact congrArg some h.1)
  simp only[Fr.sl,Fk] at ih ⊢;rw[this,ih]
def RelF.len (h:RelF A a):A.length=a.length:=by
 induction h with
 | nil=>rfl
 | cons _ _ ih=>simp[ih]
theorem RelF.set (h:RelF A a)(k:RelK x y):∀i,RelF (A.set i x) (a.set i y):=by
 induction h with
 | nil=>intro i; exact .nil
 | cons q t ih=>
  intro i;cases i with
  | zero=>exact .cons k t
  | succ i=>exact .cons q (ih i)
def RelF.get (h:RelF A a):∀i:Nat,(A[i]? = none/\a[i]? = none)\/∃x y,A[i]? = some x/\a[i]? = some y/\RelK x y:=by
 induction h with
 | nil=>intro i; exact .inl ⟨rfl,rfl⟩
 | @cons x y _ _ q t ih=>
  intro i;cases i with
  | zero=>exact .inr ⟨x,y,rfl,rfl,q⟩
  | succ i=>simpa using ih i
theorem RelF.frz1 (h:RelF A a)(i:Nat):RelF (frz1 A i) (frz1 a i):=by
 simp only[Ip.frz1];rcases h.get i with ⟨e1,e2⟩ | ⟨x,y,e1,e2,q⟩
 .rw[e1,e2]; exact h
 .rw[e1,e2];cases x <;> cases y
  .exact h
  .exact q.elim
  .exact q.elim
  .next x y=>exact h.set (x:=some (0,x.2)) (y:=some (0,y.2)) ⟨q.1,bu _⟩ i
theorem RelF.frz:∀{A a:Fr},RelF A a->RelF (frz ns A) (frz ns a):=by
 induction ns with
 | nil=>exact λh=>h
 | cons n ns ih=>exact λh=>ih (h.frz1 n)
theorem RelF.trans (h:RelF A a)(k:RelF a b):RelF A b:=by
 induction h generalizing b with
 | nil=>exact k
 | @cons x y _ _ q t ih=>
  cases k with
  | @cons _ z _ _ q' t'=>
   refine .cons ?_ (ih t');cases x <;> cases y <;> cases z <;> first | trivial | exact q.elim | exact q'.elim | exact⟨q.1.trans q'.1,bv q'.2 q.2⟩
def RelF.low1 (a:Fr)(i:Nat):RelF a (Ip.frz1 a i):=by
 simp only[Ip.frz1];cases e:a[i]? with
 | none=>exact .refl a
 | some x=>
  cases x with
  | none=>exact .refl a
  | some x=>
   have:a=a.set i (some x):=by
    refine (Gu λj=>?_);rw[Hg];by_cases hj:i=j
    .subst hj;have:=(de e).1;rw[e]; simp[this]
    .simp[hj]
   conv=>lhs; rw[this]
   exact (RelF.refl a).set (x:=some x) (y:=some (0,x.2)) ⟨rfl,FS _⟩ i
def RelF.low (ns:ai):∀a:Fr,RelF a (Ip.frz ns a):=by
 induction ns with
 | nil=>exact .refl
 | cons n ns ih=>exact λa=>(RelF.low1 a n).trans (ih _)
theorem RelF.settle (h:RelF A a)(ns:ai)(x:KD):RelF (settle ns A x) (Ip.frz ns a):=by
 simp only[Ip.settle];split
 .exact h.trans (.low ns a)
 .exact h.frz
def RelF.settleK (h:RelF A a)(ns:ai)(hx:x.2.fb x.1=true):RelF (Ip.settle ns A x) a:=by
 simp only[Ip.settle,hx,if_true]; exact h
section
variable (G:Pg)(cl:Nat->au->Run)(io:ai)
def Ou (a:Fr)(ss:aw)(N:Fr->Prop)(V:D->Prop):Prop:=∀A,RelF A a->match execs G cl io A ss with
 | .nx A'=>∃a',RelF A' a'/\N a'
 | .ret _ d _=>V d
 | _=>False
variable {G cl io}{a:Fr}{ss:aw}{N:Fr->Prop}{V:D->Prop}
def Ou.nil (h:N a):Ou G cl io a [] N V:=λA r=>by
 simp only[uE]; exact⟨a,r,h⟩
def Ou.low (l:RelF a a')(h:Ou G cl io a' ss N V):Ou G cl io a ss N V:=λA r=>h A (r.trans l)
def Ou.mono (h:Ou G cl io a ss N V)(n:∀a,N a->N' a)(r:∀d,V d->V' d):Ou G cl io a ss N' V':=λA q=>by
 have:=h A q;revert this
 cases execs G cl io A ss with
 | nx A=>exact λ⟨a,h1,h2⟩=>⟨a,h1,n a h2⟩
 | ret k d A=>exact r d
 | _=>exact id
theorem Ou.step (h:∀A,RelF A a->match exec G cl io A s with
  | .nx A'=>∃a',RelF A' a'/\Ou G cl io a' ss N V
  | .ret _ d _=>V d
  | _=>False):Ou G cl io a (s::ss) N V:=λA r=>by
 have:=h A r;simp only[k6];revert this
 cases exec G cl io A s with
 | nx A'=>exact λ⟨a',h1,h2⟩=>h2 A' h1
 | ret k d A=>exact id
 | _=>exact id
def okI (h:(!io.contains i&&Nat.blt i n)=true):io.contains i=false/\i<n:=by
 rw[tw] at h;exact⟨by simpa using h.1,GI h.2⟩
def uP {io is:ai}{m n:Nat}(h:(m == is.length&&is.all λi=>!io.contains i&&Nat.blt i n)=true):m=is.length/\∀i∈is,io.contains i=false/\i<n:=by
 rw[tw,List.all_eq_true] at h;exact⟨by simpa using h.1,λi hi=>okI (h.2 i hi)⟩
theorem Ou.set (h:eval G cl a.sl e=.ok x)(k:Ou G cl io ((frz e.names a).set i (some (0,x.2))) ss N V)(hi:(!io.contains i&&Nat.blt i a.length)=true:=by rfl):Ou G cl io a (.set i e::ss) N V:=
 .step λA r=>by
  obtain⟨hio,hi⟩:=okI hi;have l:(settle e.names A x).length=a.length:=by
   rw[<-r.len];have:=(r.settle e.names x).len;rw[this,<-(RelF.low e.names a).len,r.len]
  simp only[kI,r.sl,h,R.toO,cV,hio,l,hi,and_self,if_true];exact⟨_,(r.settle e.names x).set (x:=some x) (y:=some (0,x.2)) ⟨rfl,FS _⟩ i,k⟩
def Ou.setE (h:∃j,eval G cl a.sl e=.ok (j,d))(k:Ou G cl io ((frz e.names a).set i (some (0,d))) ss N V)(hi:(!io.contains i&&Nat.blt i a.length)=true:=by rfl):Ou G cl io a (.set i e::ss) N V:=by
 obtain⟨j,h⟩:=h;exact Ou.set h k hi
def Ou.setK (h:eval G cl a.sl e=.ok x)(hx:x.2.fb x.1=true)(k:Ou G cl io (a.set i (some x)) ss N V)(hi:(!io.contains i&&Nat.blt i a.length)=true:=by rfl):Ou G cl io a (.set i e::ss) N V:=
 .step λA r=>by
  obtain⟨hio,hi⟩:=okI hi;have l:(settle e.names A x).length=a.length:=(r.settleK e.names hx).len;simp only[kI,r.sl,h,R.toO,cV,hio,l,hi,and_self,if_true];exact⟨_,(r.settleK e.names hx).set (.refl _) i,k⟩
theorem Ou.ex (h:eval G cl a.sl e=.ok x)(k:Ou G cl io (frz e.names a) ss N V):Ou G cl io a (.ex e::ss) N V:=
 .step λA r=>by
  simp only[pL,r.sl,h,R.toO];exact⟨_,r.settle e.names x,k⟩
theorem Ou.ret (h:eval G cl a.sl e=.ok x)(k:V x.2):Ou G cl io a (.ret e::ss) N V:=
 .step λA r=>by
  rw[mE,r.sl,h];cases e with
  | var i=>
   rw[ku,<-r.sl] at h;rcases r.get i with ⟨e1,e2⟩ | ⟨x',y',e1,e2,q⟩
   .simp[Fr.sl,e1] at h
   .cases x' with
    | none=>simp[Fr.sl,e1] at h
    | some x'=>
     simp[Fr.sl,e1] at h;subst h;rw[sP,e1];exact k
  | _=>exact k
theorem Ou.iff (h:eval G cl a.sl c=.ok (j,.bl b))(k:if b then Ou G cl io a t (λa'=>Ou G cl io a' ss N V) V else Ou G cl io a e (λa'=>Ou G cl io a' ss N V) V):Ou G cl io a (.iff c t e::ss) N V:=
 .step λA r=>by
  simp only[tM,r.sl,h,R.bl,R.bind,R.toO];cases b with
  | true=>exact k A r
  | false=>exact k A r
def Ou.iffT (h:eval G cl a.sl c=.ok (j,.bl true))(k:Ou G cl io a t (λa'=>Ou G cl io a' ss N V) V):Ou G cl io a (.iff c t e::ss) N V:=.iff h k
def Ou.iffF (h:eval G cl a.sl c=.ok (j,.bl false))(k:Ou G cl io a e (λa'=>Ou G cl io a' ss N V) V):Ou G cl io a (.iff c t e::ss) N V:=.iff h k
def Ou.iffN (h:eval G cl a.sl c=.ok (j,.bl false))(k:Ou G cl io a ss N V):Ou G cl io a (.iff c t []::ss) N V:=Ou.iffF h (Ou.nil k)
theorem RelF.setFs:∀{is:ai} {ds:av} {k:Nat} {A a:Fr},RelF A a->ds.length=is.length->(∀i∈is,io.contains i=false/\i<a.length)->∃A',setFs io is (ds.map λd=>(k,d)) A=.nx A'/\RelF A' (bn (λd=>(0,d)) is ds a)
 | [],[],_,A,a,r,_,_=>⟨A,rfl,r⟩
 | i::is,d::ds,k,A,a,r,hl,h=>by
  have hi:=h i bW;have hl':i<A.length:=by rw[r.len]; exact hi.2
  obtain⟨A',e,r'⟩:=RelF.setFs (is:=is) (ds:=ds) (k:=k) (r.set (x:=some (k,d)) (y:=some (0,d)) ⟨rfl,FS _⟩ i) (by simpa using hl) λj hj=>⟨(h j (bX _ hj)).1,by simpa using (h j (bX _ hj)).2⟩
  refine⟨A',?_,r'⟩;simp only[Fk,Ip.setFs,cV,hi.1,hl',and_self,if_true,O.seq];exact e
theorem Ou.setT {is:ai}{e:Ex}{j:Nat}{ds:av}(h:eval G cl a.sl e=.ok (j,.tup ds))(k:Ou G cl io (bn (λd=>(0,d)) is ds (frz e.names a)) ss N V)(hi:(ds.length == is.length&&is.all λi=>!io.contains i&&Nat.blt i a.length)=true:=by rfl):Ou G cl io a (.setT is e::ss) N V:=
 .step λA r=>by
  obtain⟨hl,hi⟩:=uP hi;obtain⟨A',q1,q2⟩:=RelF.setFs (io:=io) (is:=is) (ds:=ds) (k:=0) (r.settle e.names (j,.tup ds)) hl λi hm=>⟨(hi i hm).1,by rw[<-(RelF.low e.names a).len]; exact (hi i hm).2⟩
  simp only[vq,r.sl,h,R.toO,fX,q1];exact⟨_,q2,k⟩
theorem Ou.fo (I:av->Fr->Prop)(h:evals G cl a.sl it=.ok vs)(hw:da wk vs=some xs)(hx:xs.length<=SL)(h0:I xs (frz (wk.fz it) a))
  (step:∀x r a',I (x::r) a'->∃a'',(∀A,RelF A a'->∃A',bN io tg x A=.nx A'/\RelF A' a'')/\Ou G cl io a'' b (I r) V)(k:∀a',I [] a'->Ou G cl io a' ss N V):Ou G cl io a (.fo tg wk it b::ss) N V:=
 .step λA r=>by
  simp only[pW,r.sl,h,R.toO,kF,hw,hx,if_true];have lp:∀(xs:av) (a':Fr),I xs a'->∀A,RelF A a'->match bD (fh G cl io tg b) xs A with
    | .nx A'=>∃a',RelF A' a'/\Ou G cl io a' ss N V
    | .ret _ d _=>V d
    | _=>False:=by
   intro xs;induction xs with
   | nil=>exact λa' hi A r=>⟨a',r,k a' hi⟩
   | cons x xs ih=>
    intro a' hi A r;obtain⟨a'',hb,hO⟩:=step x xs a' hi;obtain⟨A',e,r'⟩:=hb A r;have:=hO A' r';rw[bD,fh,e];simp only[O.seq];revert this
    cases execs G cl io A' b with
    | nx A2=>exact λ⟨a2,h1,h2⟩=>ih a2 h2 A2 h1
    | ret k d A2=>exact id
    | _=>exact False.elim
  exact lp xs _ h0 _ r.frz
def fP (hi:(!io.contains i&&Nat.blt i a'.length)=true):∀A,RelF A a'->∃A',bN io (.one i) x A=.nx A'/\RelF A' (a'.set i (some (0,x))):=λA r=>by
 obtain⟨hio,hi⟩:=okI hi;have:i<A.length:=by rw[r.len]; exact hi
 simp only[bN,cV,hio,this,and_self,if_true];exact⟨_,rfl,r.set (.refl _) i⟩
def zg {is:ai}{ds:av}{a':Fr}(hi:(ds.length == is.length&&is.all λi=>!io.contains i&&Nat.blt i a'.length)=true):∀A,RelF A a'->∃A',bN io (.many is) (.tup ds) A=.nx A'/\RelF A' (bn (λd=>(0,d)) is ds a'):=λA r=>by
 obtain⟨hl,hi⟩:=uP hi;simp only[bN];exact RelF.setFs r hl hi
end
theorem Ou.run (hf:G.fn f=some F)(hn:vs.length=F.np)(hio:F.io=[])(h:Ou G (run G n) [] (bo F vs) F.body (λ_=>V .non) V):∃k d,Ip.run G (n+1) f vs=.ret k d []/\V d:=by
 rw[Ip.run,hf];simp only[hn,if_true,hio];have:=h _ (.refl _);revert this
 cases execs G (Ip.run G n) [] (bo F vs) F.body with
 | nx A=>exact λ⟨_,_,h⟩=>⟨99,.non,rfl,h⟩
 | ret k d A=>exact λh=>⟨k,d,rfl,h⟩
 | _=>exact False.elim
def Ou.rv (hf:G.fn f=some F)(h:Ou G (Ip.run G n) [] (bo F vs) F.body (λ_=>False) V)(hn:vs.length=F.np:=by rfl)(hio:F.io=[]:=by rfl):∃k d,Ip.run G (n+1) f vs=.ret k d []/\V d:=Ou.run hf hn hio (h.mono (λ_=>False.elim) λ_=>id)
def Ou.rq {G:Pg}{n f:Nat}{F:Fn}{vs:au}{R:D}(hf:G.fn f=some F)(h:Ou G (Ip.run G n) [] (bo F vs) F.body (λ_=>False) λd=>d=R)(hn:vs.length=F.np:=by rfl)(hio:F.io=[]:=by rfl):∃k,Ip.run G (n+1) f vs=.ret k R []:=by
 obtain⟨k,d,e,rfl⟩:=Ou.rv hf h hn hio;exact⟨k,e⟩
structure Pa (G:Pg):Prop where
 f0:G.fn 0=some kc
 f1:G.fn 1=some ko
 f15:G.fn 15=some nG
 f16:G.fn 16=some kq
 f17:G.fn 17=some ll
 f18:G.fn 18=some ki
 f19:G.fn 19=some kf
 f20:G.fn 20=some kr
 f21:G.fn 21=some kG
 c17:G.cl 17=some ⟨(some 18),[(11,19),(12,20),(13,21)],[],false⟩
variable {G:Pg}(P:Pa G)
include P
noncomputable def isI:D->Bool
 | .int _=>true
 | _=>false
def oI (n:Nat)(k:Nat)(d:D):run G (n+1) 0 [(k,d)]=.ret 99 (.bl (isI d)) []:=by
 rw[run,P.f0];cases d <;> simp[kc,isI]
noncomputable def isB (b:Int):D->Bool
 | .int i=>decide (0<=i)&&decide (i<b)
 | _=>false
def uW (n:Nat)(k k':Nat)(d:D)(b:Int):run G (n+2) 1 [(k,d),(k',.int b)]=.ret 99 (.bl (isB b d)) []:=by
 rw[run,P.f1];cases d with
 | int i=>by_cases h:0<=i <;> simp[ko,P.f0,oI P,kc,isI,isB,h]
 | _=>simp[ko,P.f0,oI P,kc,isI,isB]
omit P in
noncomputable def cW (xs:aj):Bool:=(xs.zip (xs.drop 1)).all λp=>decide (p.1<p.2)
def Ao (n k:Nat)(xs:aj)(hl:xs.length<=SL):run G (n+1) 15 [(k,.lst (xs.map .int))]=.ret 99 (.bl (cW xs)) []:=by
 rw[run,P.f15];have e:(xs.map D.int).zip (xs.map D.int).tail=(xs.zip xs.tail).map λp=>(.int p.1,.int p.2):=by
  rw[<-List.map_tail,List.zip_map]; rfl
 have c:cutD (xs.map D.int) (some 1) none=(xs.map D.int).drop 1:=B9 _ 1;have hl2:xs.length<=SL+1:=by omega
 simp[nG,c,e,Hb,hl2];rw[eU (g:=λp:Int×Int=>(99,.bl (decide (p.1<p.2))))]
 .simp[Hb,Function.comp_def,cW]
 .intro x hx;simp[compF]
def EZ (n k k':Nat)(xs:aj)(b:Int)(hl:xs.length<=SL) :
  run G (n+3) 16 [(k,.lst (xs.map .int)),(k',.int b)]=.ret 99 (.bl (decide (xs≠[])&&(xs.all λi=>decide (0<=i)&&decide (i<b))&&cW xs)) []:=by
 rw[run,P.f16];have c:aO (compF G (run G (n+2)) [none,none,some (.int b)] (.one 1) [] (.call 1 [.var 1,.var 2])) (xs.map .int)=.ok (xs.map λi=>(99,.bl (decide (0<=i)&&decide (i<b)))):=
  eU λi _=>by simp[compF,P.f1,ko,uW P n,isB]
 have q:=Ao P (n+1) 0 xs hl;by_cases hx:xs=[]
 .subst hx;simp[kq,D.eq]
 .by_cases h:(xs.all λi=>decide (0<=i)&&decide (i<b))=true
  .simp[kq,D.eq,hx,hl,c,Function.comp_def,h,P.f15,nG,q]
  .have h':(xs.all λi=>decide (0<=i)&&decide (i<b))=false:=by simpa using h
   simp[kq,D.eq,hx,hl,c,Function.comp_def,h']
noncomputable def wd (p:Int)(cs:ab):D:=.ins 17 [(9,.int p),(10,.lst (cs.map λc=>.tup (c.map .int)))]
noncomputable def cvsD (cs:ab):D:=.lst (cs.map λc=>.lst (c.map .int))
noncomputable def gY (p:Int)(c:aj):Bool:=decide (c≠[])&&(c.all λi=>decide (0<=i)&&decide (i<p))&&cW c
def Ej (n k k':Nat)(p:Int)(cs:ab)(hp:1<=p/\p<=6)(hn:cs.length<=6)(hc:∀c∈cs,gY p c=true)(hl:∀c∈cs,c.length<=SL) :
  run G (n+4) 18 [(1,.ins 17 []),(k,.int p),(k',cvsD cs)]=.ret 99 .non [(100,wd p cs)]:=by
 rw[run,P.f18];have hw:=oI P (n+2) 0 (.int p);have hS:cs.length<=SL:=bv hn (by decide);have h6:¬((6:Int)<cs.length):=by omega
 have lp:∃A',bD (fh G (run G (n+3)) [0] (.many [3,4]) [.iff (.op .not [(.call 16 [(.var 4),(.var 1)])]) [.bad] []]) ((cs.map λc=>D.lst (c.map .int)).mapIdx λn d=>.tup [.int n,d])
   [some (1,.ins 17 []),some (0,.int p),some (0,cvsD cs),none,none]=.nx A'/\∃a b,A'=[some (1,.ins 17 []),some (0,.int p),some (0,cvsD cs),a,b]:=by
  refine uO (I:=λA'=>∃a b,A'=[some (1,.ins 17 []),some (0,.int p),some (0,cvsD cs),a,b]) ⟨_,_,rfl⟩ ?_;rintro x hx A ⟨a,b,hA⟩;obtain⟨i,d,hi,hd⟩:∃(i:Nat) (c:aj),c∈cs/\x=.tup [.int i,.lst (c.map .int)]:=by
   rw[List.mem_mapIdx] at hx;obtain⟨i,hi,e⟩:=hx;rw[List.getElem_map] at e;exact⟨i,_,FO (by simpa using hi),e.symm⟩
  subst hA hd;have g:=hc d hi;rw[gY] at g;have q:=EZ P n 0 0 d p (hl d hi);rw[g] at q;refine⟨_,?_,some (0,.int i),some (0,.lst (d.map .int)),rfl⟩;simp[fh,P.f16,kq,q]
 obtain⟨A',e,a,b,rfl⟩:=lp;simp only[cvsD] at e;have c:aO (compF G (run G (n+3)) [none,none] (.one 1) [] (.op .tuple [.var 1])) (cs.map λc=>D.lst (c.map .int))=.ok (cs.map λc=>(0,.tup (c.map .int))):=
  eU λc _=>by simp[compF]
 have j:aL (cs.map λc=>((0:Nat),D.tup (c.map .int)))=98:=me λx hx=>by
  obtain⟨c,_,rfl⟩:=eT hx;simp
 simp[ki,P.f0,kc,hw,isI,hp.1,hp.2,cvsD,hS,h6,e,c,j,wd,dh,ba,Function.comp_def]
end Ip
end
section
namespace Ip
open PySem (Str)
def wK {d:D}(h:d.scal=true):d.flat=true:=by cases d <;> simp at h ⊢
def AE {d:D}(k:Nat)(h:d.scal=true):d.fb k=true:=by cases d <;> simp at h ⊢ <;> cases k <;> rfl
def oE (k:Nat)(h:ds.all D.scal=true):D.fb k (.tup ds)=true:=by
 have h':=dI h;cases k with
 | zero=>simp only[D.fb,D.flat,mD,List.all_eq_true]; exact λd hd=>wK (h' d hd)
 | succ k=>simp only[D.fb,List.all_eq_true]; exact λd hd=>AE k (h' d hd)
def RelF.own {A a:Fr}(r:RelF A a){x k:Nat}{d:D}(h:a[x]? = some (some (k+1,d))):∃j,A[x]? = some (some (j+1,d)):=by
 rcases r.get x with ⟨_,e2⟩ | ⟨y,z,e1,e2,q⟩
 .rw[e2] at h; cases h
 .rw[e2] at h;cases h;cases y with
  | none=>exact q.elim
  | some y=>
   obtain⟨j,d'⟩:=y;obtain⟨q1,q2⟩:=q;have q1':d'=d:=q1;have q2':k+1<=j:=q2;subst q1';exact⟨j - 1,by rw[e1]; congr 3; omega⟩
section
variable {G:Pg}{cl:Nat->au->Run}{io:ai}{a:Fr}{ss:aw}{N:Fr->Prop}{V:D->Prop}
theorem Ou.extend {x k j:Nat}{e:Ex}{xs ys:av}(hx:a[x]? = some (some (k+1,.lst xs)))(he:eval G cl a.sl e=.ok (j,.tup ys))(hs:ys.all D.scal=true)(hl:xs.length+ys.length<=SL)(h:Ou G cl io (a.set x (some (1,.lst (xs++ys)))) ss N V) :
  Ou G cl io a (.mut x [] .extend [e]::ss) N V:=
 .step λA r=>by
  obtain⟨k',hA⟩:=r.own hx;have e1:cw A[x]? = true:=by rw[hA]; rfl
  have e2:([(j,D.tup ys)]:au).all (λv=>v.2.fb v.1)=true:=by simp only[List.all_cons,List.all_nil,Bool.and_true]; exact oE j hs
  simp only[kA,if_true,cj,bP,r.sl,he,R.bind,R.toO,d7,e2,hA,eI,sJ,hs,hl,and_self];exact⟨_,r.set (.refl _) x,h⟩
theorem Ou.put {x k j:Nat}{e i:Ex}{xs:av}{v:KD}{n:Int}(hx:a[x]? = some (some (k+1,.lst xs)))(he:eval G cl a.sl e=.ok v)(hv:v.2.fb v.1=true)(hi:eval G cl a.sl i=.ok (j,.int n))(hn:0<=n/\n<xs.length)(h:Ou G cl io (a.set x (some (1,.lst (xs.set n.toNat v.2)))) ss N V) :
  Ou G cl io a (.put x [] i e::ss) N V:=
 .step λA r=>by
  obtain⟨k',hA⟩:=r.own hx;simp only[sj,List.isEmpty_nil,if_true,r.sl,he,hi,R.toO,settle,hv,hA,hG,hn,and_self];exact⟨_,r.set (.refl _) x,h⟩
end
section
variable {G:Pg}{cl:Nat->au->Run}{io:ai}{a:Fr}{ss:aw}{N:Fr->Prop}{V:D->Prop}
theorem Ou.append (hx:(frz e.names a)[x]? = some (some (k+1,.lst xs)))(he:eval G cl a.sl e=.ok v)(hl:xs.length<SL)(h:Ou G cl io ((frz e.names a).set x (some (1,.lst (xs++[v.2])))) ss N V) :
  Ou G cl io a (.mut x [] .append [e]::ss) N V:=
 .step λA r=>by
  obtain⟨k0,h0⟩:=(r.trans (.low e.names a)).own hx;have e1:cw A[x]? = true:=by rw[h0]; rfl
  have nm:Ex.namess [e]=e.names:=by simp
  have r1:RelF (if ([v]:au).all (λv=>v.2.fb v.1)=true then A else frz (Ex.namess [e]) A) (frz e.names a):=by
   rw[nm];split
   .exact r.trans (.low e.names a)
   .exact r.frz
  obtain⟨k1,h1⟩:=r1.own hx;simp only[kA,e1,if_true,cj,bP,r.sl,he,R.bind,R.toO,d7];generalize (if ([v]:au).all (λv=>v.2.fb v.1)=true then A else frz (Ex.namess [e]) A)=A1 at r1 h1;rw[h1];simp only[eI,rK,hl,if_true];exact⟨_,r1.set (x:=some (dh k1 xs v+1,.lst (xs++[v.2]))) (y:=some (1,.lst (xs++[v.2]))) ⟨rfl,by omega⟩ x,h⟩
end
end Ip
end
section
namespace Ip
def RelF.of_eq (h:a=b):RelF a b:=h ▸ .refl a
section
variable {G:Pg}{cl:Nat->au->Run}{io:ai}{a:Fr}{ss:aw}{N:Fr->Prop}{V:D->Prop}
theorem r9:∀(ss ts:aw) (A:Fr),execs G cl io A (ss++ts)=(execs G cl io A ss).seq λA=>execs G cl io A ts
 | [],ts,A=>by simp[O.seq]
 | s::ss,ts,A=>by
  rw[List.cons_append,k6,k6];cases exec G cl io A s with
  | nx A'=>simp only[O.seq]; exact r9 ss ts A'
  | _=>rfl
end
end Ip
end
section
namespace Ip
open PySem (Str)
noncomputable def rowD (r:ai):D:=.tup (natL r)
noncomputable def bQ (rows:ac):D:=.tup (rows.map rowD)
def rp (r:ai):(natL r).all D.scal=true:=by simp[natL]
theorem wf:∀{ns:ai},(∀n∈ns,n<6)->cy (natL ns)=some ns
 | [],_=>rfl
 | n::ns,h=>by
  have h1:=h n bW;have ih:=wf (ns:=ns) λm hm=>h m (bX _ hm);have h2:(0:Int)<=Int.ofNat n/\Int.ofNat n<6:=⟨Int.natCast_nonneg n,by simpa using (show (n:Int)<6 by omega)⟩
  show cy (.int (Int.ofNat n)::natL ns)=_;simp only[cy,h2,and_self,if_true,ih,Option.map];rfl
theorem mH (g:Nat):∀ns:ai,D.memb (.int g) (natL ns)=decide (g∈ns)
 | []=>rfl
 | n::ns=>by
  have ih:=mH g ns;have e:D.memb (.int g) (natL (n::ns))=((D.int (Int.ofNat n)).eq (.int g)||D.memb (.int g) (natL ns)):=rfl;rw[e,ih];simp only[D.eq];by_cases h:g=n
  .subst h; simp
  .have:¬(n:Int)=(g:Int):=by omega
   simp[this,h]
def z8 (h:g<6):g∈du ns↔g∈ns:=by
 simp[du,h]
def nX (gs:ai):D.pures (natL gs)=true:=by simp[natL,D.pures]
noncomputable def gn (c:aj)(g:Nat)(rows:ac):ac:=c.foldl (λrs i=>rs.set i.toNat (rs.getD i.toNat []++[g])) rows
def sd (k:Nat)(r:ai):D.fb k (rowD r)=true:=oE k (rp r)
def n8 (r:ai):(rowD r).flat=true:=sd 0 r
def Aw {rs:ac}{i:Int}(h:0<=i/\i<rs.length):aH (.lst (rs.map rowD)) (.int i)=o0 (rowD (rs.getD i.toNat [])):=by
 have h2:i.toNat<rs.length:=by omega
 simp[aH,en,h.1,h.2,h2]
def zc {r:ai}{g:Nat}(h:r.length<=1000):gb (rowD r) (.tup [.int g])=o0 (rowD (r++[g])):=by
 have:(natL r).length+[D.int g].length<=SL:=by
  have:1001<=SL:=by decide
  simp[natL];omega
 simp only[rowD,gb];rw[if_pos this];simp[natL]
structure Pv (G:Pg):Prop where
 a:Pa G
 f23:G.fn 23=some nZ
 f24:G.fn 24=some oa
 f25:G.fn 25=some p8
section
variable {G:Pg}(P:Pa G)
include P
omit P in
theorem iu (p:Int)(cs:ab):gB 10 (wd p cs)=o0 (.lst (cs.map λc=>.tup (c.map .int))):=rfl
omit P in
theorem qA (p:Int)(cs:ab):gB 9 (wd p cs)=some (0,.int p):=rfl
def yR (p:Int)(cs:ab):bO G 11 0 (wd p cs)=some (19,kf):=by
 simp[bO,wd,P.c17,P.f19,kf,List.lookup]
def Dj (n k:Nat)(p:Int)(cs:ab):run G (n+1) 19 [(k,wd p cs)]=.ret 0 (.int p) []:=by
 rw[run,P.f19];simp[kf,qA]
def ET (p:Int)(cs:ab):bO G 12 0 (wd p cs)=some (20,kr):=by
 simp[bO,wd,P.c17,P.f20,kr,List.lookup]
def Ef (p:Int)(cs:ab):bO G 13 1 (wd p cs)=some (21,kG):=by
 simp[bO,wd,P.c17,P.f21,kG,List.lookup]
def zq (n k:Nat)(p:Int)(cs:ab):run G (n+1) 20 [(k,wd p cs)]=.ret 99 (.int cs.length) []:=by
 rw[run,P.f20];simp[kr,iu]
def vy (n k k':Nat)(p:Int)(cs:ab)(d:D)(h:isB cs.length d=true):run G (n+4) 17 [(k,wd p cs),(k',d)]=.ret 99 .non []:=by
 rw[run,P.f17];have q:=uW P (n+1) 0 99 d cs.length;have q2:=zq P (n+2) 0 p cs;rw[h] at q;simp[ll,P.f1,ko,ET P,kr,q2,q]
def DP (n k k':Nat)(p:Int)(cs:ab)(j:Nat)(c:aj)(h:cs[j]? = some c):run G (n+5) 21 [(k,wd p cs),(k',.int j)]=.ret 1 (.lst (c.map .int)) []:=by
 rw[run,P.f21];have hj:j<cs.length:=(de h).1;have hb:isB cs.length (.int j)=true:=by simp[isB,hj]
 have q:=vy P n 0 0 p cs (.int j) hb;have e:cs[j]=c:=(de h).2;simp[kG,P.f17,ll,q,iu,en,hj,e]
end
section
variable {G:Pg}(P:Pv G)
include P
def Bd (n k:Nat)(p:Nat)(cs:ab)(hp:p<=6):∃j,run G (n+2) 23 [(k,wd p cs)]=.ret j (bQ (List.replicate p [])) []:=by
 rw[run,P.f23];have q:=Dj P.a n 0 p cs;have hs:p<=SL:=bv hp (by decide);have cc:aO (compF G (run G (n+1)) [none,none] (.one 1) [] (.op .tup [])) ((List.range p).map λ(n:Nat)=>.int n)=.ok ((List.range p).map λn=>(99,.tup [])):=
  eU λi _=>by simp[compF]
 have e:(List.range p).map (λ_=>D.tup [])=(List.replicate p ([]:ai)).map rowD:=by
  rw[List.map_replicate];have:rowD []=.tup []:=rfl;rw[this];exact (F4.mpr ⟨by simp,by simp⟩)
 simp[nZ,yR P.a,kf,q,wk_rng1 hs,hs,cc,Function.comp_def,bQ,e]
def CG (n k:Nat)(rows:ac)(h1:rows.length<=6)(h2:rows.flatten.length<=1000)(h3:∀g∈rows.flatten,g<6):∃j,run G (n+1) 24 [(k,bQ rows)]=.ret j (.lst (natL (du rows.flatten))) []:=by
 have hs:rows.length<=SL:=bv h1 (by decide);refine Ou.rq P.f24 ?_;show Ou _ _ _ [o0 (bQ rows),none,none] _ _ _;refine Ou.setK (x:=(99,.lst [])) rfl rfl ?_;refine Ou.low (a':=[o0 (bQ rows),some (1,.lst []),none]) (.cons (.refl _) (.cons ⟨rfl,by decide⟩ (.cons trivial .nil))) ?_;refine Ou.fo (λr a=>∃(x:ax) (fl:ai) (suf:ac),a=[o0 (bQ rows),some (1,.lst (natL fl)),x]/\r=suf.map rowD/\fl++suf.flatten=rows.flatten) (vs:=[(0,bQ rows)]) (xs:=rows.map rowD) rfl (by simp[bQ]) (by simpa using hs) ?_ ?_ ?_
 .exact⟨none,[],rows,by simp[natL],rfl,rfl⟩
 .rintro x r a ⟨y,fl,suf,ha,hr,he⟩;cases suf with
  | nil=>simp at hr
  | cons s suf=>
   simp only[Fk,GH] at hr;obtain⟨rfl,rfl⟩:=hr;subst ha;refine⟨_,fP rfl,?_⟩;refine Ou.extend (k:=0) (j:=0) (xs:=natL fl) (ys:=natL s) rfl (by simp[rowD]) (rp s) ?_ ?_
   .have e2:rows.flatten.length=fl.length+(s.length+suf.flatten.length):=by rw[<-he]; simp
    have:1000<=SL:=by decide
    simp only[natL,Fj];omega
   .exact Ou.nil ⟨o0 (rowD s),fl++s,suf,by simp[natL],rfl,by simpa using he⟩
 .rintro a ⟨y,fl,suf,ha,hr,he⟩;have:suf=[]:=by simpa using hr.symm
  subst this ha;simp only[List.flatten_nil,Ga] at he;rw[<-he] at h3 ⊢;exact Ou.ret (x:=(1,.lst (natL (du fl)))) (by simp[wf h3]) rfl
def xg (n k k' k'':Nat)(p:Nat)(cs:ab)(rows:ac)(g:Nat)(c:aj)(hc:cs[g]? = some c)(hpl:∀i∈c,0<=i/\i<rows.length)(h6:rows.length<=6)(hl:c.length<=6)(hf:rows.flatten.length<=900)(hg6:∀g∈rows.flatten,g<6)(hg:g<6)(hn:g∉rows.flatten) :
  ∃j,run G (n+6) 25 [(k,wd p cs),(k',bQ rows),(k'',.int g)]=.ret j (bQ (gn c g rows)) []:=by
 have hgl:g<cs.length:=(de hc).1;have hb:isB cs.length (.int g)=true:=by simp[isB,hgl]
 have q1:=vy P.a (n+1) 0 0 p cs (.int g) hb;obtain⟨j2,q2⟩:=CG P (n+4) 0 rows h6 (by omega) hg6;have q3:=DP P.a n 0 0 p cs g c hc;have hm:D.memb (.int g) (natL (du rows.flatten))=false:=by rw[mH]; simp[z8 hg,hn]
 have hsc:=nX (du rows.flatten);have hS:c.length<=SL:=bv hl (by decide);have hrow:∀r∈rows,r.length<=900:=λr hr=>by
  have:=(List.sublist_flatten_of_mem hr).length_le;omega
 refine Ou.rq P.f25 ?_;show Ou _ _ _ [some (0,wd p cs),some (0,bQ rows),some (0,.int g),none,none] _ _ _;refine Ou.ex (x:=(99,.non)) (by simp[P.a.f17,ll,q1]) ?_;refine Ou.iffN (j:=99) (by
  simp only[Fr.sl,df,bP,cj,ku,kK];simp[-List.all_eq_true,P.f24,oa,q2,hm,hsc]) ?_
 refine Ou.setK (x:=(1,.lst (rows.map rowD))) (by simp[bQ]) (by simp[n8]) ?_;refine Ou.fo (λr a=>∃(x:ax) (rs:ac) (suf:aj),a=[some (0,wd p cs),some (0,bQ rows),some (0,.int g),some (1,.lst (rs.map rowD)),x]/\r=suf.map .int/\suf.foldl (λrs i=>rs.set i.toNat (rs.getD i.toNat []++[g])) rs=gn c g rows/\rs.length=rows.length/\(∀i∈suf,0<=i/\i<rows.length)/\(∀r∈rs,r.length+suf.length<=906)) (vs:=[(1,.lst (c.map .int))]) (xs:=c.map .int) (by simp[Ef P.a,kG,q3]) (by simp) (by simpa using hS) ?_ ?_ ?_
 .exact⟨none,rows,c,by simp,rfl,rfl,rfl,hpl,λr hr=>by have:=hrow r hr; omega⟩
 .rintro x r a ⟨y,rs,suf,ha,hr,he,hlen,hi,hB⟩;cases suf with
  | nil=>simp at hr
  | cons s suf=>
   simp only[Fk,GH] at hr;obtain⟨rfl,rfl⟩:=hr;subst ha;have hs:0<=s/\s<rs.length:=by rw[hlen]; exact hi s bW
   have hs':s.toNat<rs.length:=by omega
   have hmem:rs.getD s.toNat []∈rs:=by
    rw[List.getD_eq_getElem?_getD,Fp hs']; exact FO hs'
   have hBs:=hB _ hmem;simp only[List.length_cons] at hBs;refine⟨_,fP rfl,?_⟩;have ad:=zc (r:=rs.getD s.toNat []) (g:=g) (by omega);have ix:=Aw hs;simp only[List.foldl_cons] at he;generalize rs.getD s.toNat []=row at ad ix hBs he;refine Ou.put (k:=0) (j:=0) (xs:=rs.map rowD) (v:=(0,rowD (row++[g]))) (n:=s) (by simp) ?_ (n8 _) (by simp) (by simpa using hs) ?_
   .simp[-gb,-aH,ix,ad]
   .refine Ou.nil ⟨some (0,.int s),rs.set s.toNat (row++[g]),suf,by simp[List.map_set],rfl,?_,by simpa using hlen,λi h=>hi i (bX _ h),?_⟩
    .exact he
    .intro r hr;rcases List.mem_or_eq_of_mem_set hr with h | h
     .have:=hB r h;simp only[List.length_cons] at this;omega
     .subst h;simp;omega
 .rintro a ⟨y,rs,suf,ha,hr,he,_⟩;have:suf=[]:=by simpa using hr.symm
  subst this ha;simp only[List.foldl_nil] at he;subst he;exact Ou.ret (x:=(0,bQ (gn c g rows))) (by simp[bQ]) rfl
end
noncomputable def cm (f:ai->ai)(c:aj)(rows:ac):ac:=c.foldl (λrs i=>rs.set i.toNat (f (rs.getD i.toNat []))) rows
theorem Bo (c:aj)(g:Nat)(rows:ac):gn c g rows=cm (λr=>r++[g]) c rows:=rfl
theorem oF (f:ai->ai):∀(c:aj) (rows:ac),c.Nodup->(∀i∈c,0<=i/\i<rows.length)->∀j:Nat,(cm f c rows)[j]? = rows[j]?.map λr=>if (j:Int)∈c then f r else r
 | [],rows,_,_,j=>by simp[cm]
 | i::c,rows,hn,hi,j=>by
  obtain⟨h1,h2⟩:=FB.mp hn;have hi0:=hi i bW;have ih:=oF f c (rows.set i.toNat (f (rows.getD i.toNat []))) h2 (λx hx=>by simpa using hi x (bX _ hx)) j;show (cm f c (rows.set i.toNat (f (rows.getD i.toNat []))))[j]? = _;rw[ih,Hg];by_cases e:i.toNat=j
  .have e':i=(j:Int):=by omega
   have hj:j<rows.length:=by omega
   subst e';simp[hj,h1]
  .have e':¬(j:Int)=i:=by omega
   simp[e,e']
def Bf (hn:c.Nodup)(hi:∀i∈c,0<=i/\i<rows.length):cm f c rows=rows.mapIdx λj r=>if (j:Int)∈c then f r else r:=by
 refine Gu λj=>?_;rw[oF f c rows hn hi j,FW]
def kE (r:ai):(natL r).length=r.length:=by simp[natL]
theorem sK:∀{xs:aj},xs.Pairwise (· < ·)->cW xs=true
 | [],_=>rfl
 | [x],_=>rfl
 | x::y::r,h=>by
  have ih:=sK (List.Pairwise.tail h);have hxy:x<y:=by cases h with | cons h _=>exact h y bW
  unfold cW at ih ⊢;simp at ih ⊢;exact⟨hxy,ih⟩
structure OkC (p:Nat)(c:aj):Prop where
 gd:gY p c=true
 ne:c≠[]
 rg:∀i∈c,0<=i/\i<p
 nd:c.Nodup
 ln:c.length<=6
def CK (hp:p<=6)(h1:ns.Pairwise (· < ·))(h2:∀n∈ns,n<p)(h3:ns≠[]):OkC p (ns.map λ(n:Nat)=>(n:Int)):=by
 have pw:(ns.map λ(n:Nat)=>(n:Int)).Pairwise (· < ·):=List.Pairwise.map _ (λa b h=>by simpa using h) h1;have rg:∀i∈ns.map λ(n:Nat)=>(n:Int),0<=i/\i<p:=λi hi=>by
  obtain⟨n,hn,rfl⟩:=eT hi;have:=h2 n hn;omega
 have ne:ns.map (λ(n:Nat)=>(n:Int))≠[]:=by simpa using h3
 have ln:∀(ns:ai) (lo:Nat),ns.Pairwise (· < ·)->(∀n∈ns,lo<=n/\n<p)->lo+ns.length<=p\/ns=[]:=by
  intro ns;induction ns with
  | nil=>intro _ _ _; exact .inr rfl
  | cons x r ih=>
   intro lo hp' hr;obtain⟨q1,q2⟩:=List.pairwise_cons.mp hp';have hx:=hr x bW;rcases ih (x+1) q2 (λn hn=>⟨q1 n hn,(hr n (bX _ hn)).2⟩) with h | h
   .simp only[List.length_cons]; omega
   .subst h; simp; omega
 refine⟨?_,ne,rg,pw.imp λh=>by omega,?_⟩
 .simp only[gY,tw,Fx,List.all_eq_true];exact⟨⟨ne,rg⟩,sK pw⟩
 .rcases ln ns 0 h1 (λn hn=>⟨FS _,h2 n hn⟩) with h | h
  .simp; omega
  .exact absurd h h3
noncomputable def ca (p:Nat):Int:=([1,3,7,15,31,63]:aj).getD (p - 1) 1
noncomputable def eG (v:Int)(p:Nat):ai:=(List.range p).filter λn=>decide (v / (([1,2,4,8,16,32]:aj).getD n 1) % 2=1)
def Cf:∀p:Fin 7,∀v:Fin 64,1<=p.1->1<=v.1->(v.1:Int)<=ca p.1->eG (v.1:Int) p.1≠[]:=by decide +kernel
def Dw:∀p:Fin 7,ca p.1<=63:=by decide +kernel
def yZ (hp:1<=p/\p<=6)(hv:1<=v/\v<=ca p):eG v p≠[]:=by
 have hf:=Dw ⟨p,by omega⟩;obtain⟨u,rfl⟩:∃u:Nat,v=(u:Int):=⟨v.toNat,by omega⟩
 exact Cf ⟨p,by omega⟩ ⟨u,by dsimp only at hf; omega⟩ hp.1 (by dsimp only; omega) hv.2
def um (h:i<6):∃y:Int,([1,2,4,8,16,32]:aj).getD i 1=y/\0<y/\y<1000000000000000000000000000000000000000000000000000000000000/\aH (.lst [.int 1,.int 2,.int 4,.int 8,.int 16,.int 32]) (.int (i:Nat))=o0 (.int y):=by
 have hq:i=0\/i=1\/i=2\/i=3\/i=4\/i=5:=by omega
 rcases hq with rfl | rfl | rfl | rfl | rfl | rfl <;> exact⟨_,rfl,by decide,by decide,rfl⟩
def ze (hp:1<=p/\p<=6)(hv:1<=v/\v<=ca p):OkC p ((eG v p).map λ(n:Nat)=>(n:Int)):=by
 refine CK hp.2 (List.pairwise_lt_range.filter _) (λn hn=>?_) (yZ hp hv);exact FR.mp (FU.mp hn).1
def BJ {p:Nat}(hp:1<=p/\p<=6):aH (.lst [.int 1,.int 3,.int 7,.int 15,.int 31,.int 63]) (.int ((p:Int) - 1))=o0 (.int (ca p)):=by
 have hq:p=1\/p=2\/p=3\/p=4\/p=5\/p=6:=by omega
 rcases hq with rfl | rfl | rfl | rfl | rfl | rfl <;> simp[aH,en,ca]
def zU (p:Nat):0<ca p:=by
 unfold ca;by_cases h:p - 1<6
 .have hq:p - 1=0\/p - 1=1\/p - 1=2\/p - 1=3\/p - 1=4\/p - 1=5:=by omega
  rcases hq with e | e | e | e | e | e <;> rw[e] <;> decide
 .have:([1,3,7,15,31,63]:aj)[p - 1]? = none:=Gj (by simpa using by omega);simp[this]
end Ip
end
section
namespace Ip
noncomputable def aX (cs:ab)(g:Nat):aj:=cs.getD g []
noncomputable def bt (cs:ab)(j:Nat)(gs:ai):ai:=gs.filter λg=>decide ((j:Int)∈aX cs g)
def uw (cs:ab)(j:Nat)(A B:ai):bt cs j (A++B)=bt cs j A++bt cs j B:=by simp[bt]
def ub (cs:ab)(j g:Nat)(B:ai):bt cs j (g::B)=if (j:Int)∈aX cs g then g::bt cs j B else bt cs j B:=by
 unfold bt;rw[List.filter_cons];by_cases h:(j:Int)∈aX cs g <;> simp[h]
noncomputable def aG (cs:ab)(p:Nat)(gs:ai):ac:=(List.range p).map λj=>bt cs j gs
def gi (cs:ab)(p:Nat)(gs:ai):(aG cs p gs).length=p:=by simp[aG]
def CZ (h:j<p):(aG cs p gs).getD j []=bt cs j gs:=by simp[aG,h]
structure Cv (p:Nat)(cs:ab):Prop where
 p1:1<=p
 p6:p<=6
 m6:cs.length<=6
 ne:∀g,g<cs.length->aX cs g≠[]
 rg:∀g,∀i∈aX cs g,0<=i/\i<p
 nd:∀g,(aX cs g).Nodup
 ln:∀g,(aX cs g).length<=6
structure Wn (cs:ab)(gs:ai):Prop where
 nd:gs.Nodup
 lt:∀g∈gs,g<cs.length
def lm {gs:ai}{m:Nat}(h1:gs.Nodup)(h2:∀g∈gs,g<m):gs.length<=m:=by
 induction m generalizing gs with
 | zero=>
  cases gs with
  | nil=>exact bu _
  | cons x r=>exact absurd (h2 x bW) (by omega)
 | succ m ih=>
  have:=ih (h1.erase m) λx hx=>by
   have:=(h1.mem_erase_iff).mp hx;have:=h2 x this.2;omega
  rw[List.length_erase] at this;split at this <;> omega
def Wn.len {p:Nat}{cs:ab}{gs:ai}(C:Cv p cs)(w:Wn cs gs):gs.length<=6:=bv (lm w.nd w.lt) C.m6
def nY (h:g∈(aG cs p gs).flatten):g∈gs:=by
 obtain⟨r,hr,hg⟩:=FY.mp h;obtain⟨j,_,rfl⟩:=eT hr;exact (FU.mp hg).1
def s0 (C:Cv p cs)(w:Wn cs gs)(h:g∈gs):g∈(aG cs p gs).flatten:=by
 cases e:aX cs g with
 | nil=>exact absurd e (C.ne g (w.lt g h))
 | cons i c=>
  have hi:i∈aX cs g:=by rw[e]; exact bW
  have rg:=C.rg g i hi;refine FY.mpr ⟨bt cs i.toNat gs,List.mem_map.mpr ⟨i.toNat,FR.mpr (by omega),rfl⟩,FU.mpr ⟨h,FF ?_⟩⟩;rw[Ht rg.1]; exact hi
def zK:∀p:Nat,(aG cs p gs).flatten.length<=p * gs.length:=λp=>by
 have:∀l:ai,(l.map λj=>bt cs j gs).flatten.length<=l.length * gs.length:=by
  intro l;induction l with
  | nil=>simp
  | cons x l ih=>
   have h1:(bt cs x gs).length<=gs.length:=Hj _ _;rw[Fk,List.flatten_cons,FC,List.length_cons,Nat.add_mul,Nat.one_mul];omega
 simpa[aG] using this (List.range p)
def Wn.fl (C:Cv p cs)(w:Wn cs gs):(aG cs p gs).flatten.length<=36:=
 bv (zK p) (Nat.mul_le_mul C.p6 (w.len C))
def Wn.f6 (C:Cv p cs)(w:Wn cs gs):∀g∈(aG cs p gs).flatten,g<6:=λg h=>by
 have:=w.lt g (nY h);have:=C.m6;omega
def ui (C:Cv p cs)(h1:∀j:Nat,(j:Int)∈aX cs g->f (bt cs j gs)=bt cs j gs')(h2:∀j:Nat,(j:Int)∉aX cs g->bt cs j gs=bt cs j gs'):cm f (aX cs g) (aG cs p gs)=aG cs p gs':=by
 rw[Bf (C.nd g) λi hi=>by rw[gi]; exact C.rg g i hi];refine Gu λj=>?_;rw[FW];unfold aG;rw[Fs,Fs];by_cases hj:j<p
 .rw[List.getElem?_range hj];simp only[Option.map_some];by_cases h:(j:Int)∈aX cs g
  .rw[if_pos h,h1 j h]
  .rw[if_neg h,h2 j h]
 .rw[Gj (by simp; omega)];rfl
def sC (C:Cv p cs):gn (aX cs g) g (aG cs p gs)=aG cs p (gs++[g]):=by
 rw[Bo];refine ui C (λj hj=>?_) λj hj=>?_
 .rw[uw,ub,if_pos hj]; rfl
 .rw[uw,ub,if_neg hj]; exact (Ga _).symm
def yf {g:Nat}{A B:ai}(h:g∉A):(A++g::B).idxOf g=A.length:=by
 rw[List.idxOf_append,if_neg h,List.idxOf_cons_self,Nat.zero_add]
noncomputable def gN (g:Nat)(gs:ai):ai:=gs.filter λx=>decide (x≠g)
def oV (xs:List α)(a:Nat)(h:a<=xs.length):cutD xs (some (a:Int)) (some ((a:Int)+1))=(xs.drop a).take 1:=by
 have s1:dG xs.length 0 (some (a:Int))=a:=by
  simp only[dG]; rw[if_pos (by omega)]; omega
 have s2:dG xs.length xs.length (some ((a:Int)+1))=min (a+1) xs.length:=by
  simp only[dG]; rw[if_pos (by omega)]; omega
 unfold cutD;rw[s1,s2];by_cases e:a=xs.length
 .subst e; simp
 .rw[show min (a+1) xs.length - a=1 by omega]
theorem rM:∀{os:ai},g∈os->D.find (.int g) (natL os)=some (os.idxOf g)
 | [],h=>by cases h
 | x::os,h=>by
  have e0:D.find (.int g) (natL (x::os))=if (D.int (Int.ofNat x)).eq (.int g) then some 0 else (D.find (.int g) (natL os)).map (·+1):=by
   unfold D.find natL;rw[Fk,GC]
  rw[e0];by_cases hx:x=g
  .subst hx;simp[D.eq]
  .have h1:¬(x:Int)=(g:Int):=by omega
   have h2:=rM (os:=os) ((cZ h).resolve_left λe=>hx e.symm);have h3:(x == g)=false:=Gb.mpr hx;rw[h2,List.idxOf_cons,h3];simp[D.eq,h1]
def Cv.at (h:g<cs.length):cs[g]? = some (aX cs g):=by simp[aX,h]
end Ip
end
section
namespace Ip
open PySem (Str)
section
variable {G:Pg}{cl:Nat->au->Run}{io:ai}{a:Fr}{ss:aw}{N:Fr->Prop}{V:D->Prop}
def Ou.setD (h:eval G cl a.sl e=.ok x)(hj:j<=x.1)(k:Ou G cl io ((frz e.names a).set i (some (j,x.2))) ss N V)(hi:(!io.contains i&&Nat.blt i a.length)=true:=by rfl):Ou G cl io a (.set i e::ss) N V:=
 .step λA r=>by
  obtain⟨hio,hi⟩:=okI hi;have l:(settle e.names A x).length=a.length:=by
   rw[<-r.len];have:=(r.settle e.names x).len;rw[this,<-(RelF.low e.names a).len,r.len]
  simp only[kI,r.sl,h,R.toO,cV,hio,l,hi,and_self,if_true];exact⟨_,(r.settle e.names x).set (x:=some x) (y:=some (j,x.2)) ⟨rfl,hj⟩ i,k⟩
end
def Ou.runV {G:Pg}{n f i:Nat}{F:Fn}{vs:au}{init:aw}{P:D->Prop}(hf:G.fn f=some F)(hn:vs.length=F.np)(hio:F.io=[])(hb:F.body=init++[.ret (.var i)])
  (h:Ou G (Ip.run G n) [] (bo F vs) init (λa=>∃k d,a[i]? = some (some (k+1,d))/\P d) (λ_=>False)):∃k d,Ip.run G (n+1) f vs=.ret k d []/\1<=k/\P d:=by
 rw[Ip.run,hf];simp only[hn,if_true,hio];rw[hb,r9];have:=h _ (.refl _);revert this
 cases execs G (Ip.run G n) [] (bo F vs) init with
 | nx A=>
  rintro⟨a,r,k,d,h1,h2⟩;obtain⟨k',hA⟩:=r.own h1;refine⟨k'+1,d,?_,by omega,h2⟩;simp[O.seq,hA,k6,mE,fin]
 | ret k d A=>exact False.elim
 | _=>exact False.elim
noncomputable def cJ (p:Nat)(cs:ab)(Z:ac):D:=.tup (Z.map λO=>bQ (aG cs p O))
structure Sg (cs:ab)(Z:ac):Prop where
 nd:Z.flatten.Nodup
 lt:∀g∈Z.flatten,g<cs.length
section
variable {p:Nat}{cs:ab}{Z:ac}{g q:Nat}{O:ai}
def Sg.wn (h:Sg cs Z)(hO:O∈Z):Wn cs O:=⟨h.nd.sublist (List.sublist_flatten_of_mem hO),λg hg=>h.lt g (FY.mpr ⟨O,hO,hg⟩)⟩
noncomputable def fF (Z:ac)(g:Nat):aA:=Z.findIdx? λO=>decide (g∈O)
noncomputable def wrND (Z:ac)(g:Nat):D:=match fF Z g with
 | some i=>.int i
 | none=>.non
def rS:fF Z g=none↔g∉Z.flatten:=by
 unfold fF;rw[List.findIdx?_eq_none_iff,FY];simp
def CY (h:fF Z g=some i):∃O,Z[i]? = some O/\g∈O:=by
 unfold fF at h;obtain⟨hi,h1,_⟩:=FN.mp h;exact⟨Z[i],Fp hi,He h1⟩
def Bm (h:Z[q]? = some O)(hg:g∈O):g∈Z.flatten:=FY.mpr ⟨O,FA h,hg⟩
def C7 (nd:Z.flatten.Nodup)(h:Z[q]? = some O)(hg:g∈O):fF Z g=some q:=by
 induction Z generalizing q with
 | nil=>cases h
 | cons P Z ih=>
  rw[List.flatten_cons] at nd;obtain⟨n1,n2,n3⟩:=Fv.mp nd;unfold fF;rw[GC];cases q with
  | zero=>
   cases h;rw[if_pos (FF hg)]
  | succ q=>
   have h':Z[q]? = some O:=h;have:g∉P:=λz=>n3 g z g (Bm h' hg) rfl;rw[if_neg (by simpa using this)];have:=ih n2 h';unfold fF at this;rw[this];rfl
def tu (h:Z[q]? = some O):∃A B:ac,Z=A++O::B/\Z.set q O'=A++O'::B:=by
 obtain⟨hq,e⟩:=de h;refine⟨Z.take q,Z.drop (q+1),?_,?_⟩
 .rw[<-e,<-GU hq,List.take_append_drop]
 .rw[List.set_eq_take_append_cons_drop,if_pos hq]
def Sg.on (s:Sg cs Z)(h:Z[q]? = some O)(hg:g<cs.length)(hn:fF Z g=none):Sg cs (Z.set q (O++[g])):=by
 obtain⟨A,B,e1,e2⟩:=tu (O':=O++[g]) h;have pm:(Z.set q (O++[g])).flatten.Perm (g::Z.flatten):=by
  rw[e2,e1];simp only[List.flatten_append,List.flatten_cons];have:(A.flatten++(O++[g]++B.flatten))=(A.flatten++O)++g::B.flatten:=by simp
  rw[this];refine List.perm_middle.trans ?_;simp
 refine⟨pm.nodup_iff.mpr (FB.mpr ⟨rS.mp hn,s.nd⟩),λx hx=>?_⟩;rcases cZ (pm.mem_iff.mp hx) with rfl | hx
 .exact hg
 .exact s.lt x hx
def Sg.off (s:Sg cs Z)(h:Z[q]? = some O):Sg cs (Z.set q (gN g O)):=by
 obtain⟨A,B,e1,e2⟩:=tu (O':=gN g O) h;have sb:(Z.set q (gN g O)).flatten.Sublist Z.flatten:=by
  rw[e2,e1];simp only[List.flatten_append,List.flatten_cons];exact .append (.refl _) (.append List.filter_sublist (.refl _))
 exact⟨s.nd.sublist sb,λx hx=>s.lt x (sb.subset hx)⟩
end
def oA {p:Nat}{cs:ab}{Z:ac}{i:Nat}{O:ai}(h:Z[i]? = some O):aH (cJ p cs Z) (.int i)=o0 (bQ (aG cs p O)):=by
 obtain⟨hi,e⟩:=de h;have h':(i:Int)<Z.length:=by omega
 simp[cJ,aH,en,h',hi,e]
def zS {Z:ac}{g i:Nat}(hi:i<Z.length)(h:g∈Z[i])(hn:∀j (hj:j<Z.length),j<i->g∉Z[j]):wrND Z g=.int i:=by
 have:fF Z g=some i:=by
  unfold fF;rw[FN];exact⟨hi,FF h,λj hj=>by simpa using hn j (by omega) hj⟩
 simp[wrND,this]
def wJ (hn:∀j (hj:j<Z.length),g∉Z[j]):wrND Z g=.non:=by
 have:fF Z g=none:=by
  rw[rS,FY];rintro⟨O,hO,hg⟩;obtain⟨j,hj,rfl⟩:=List.mem_iff_getElem.mp hO;exact hn j hj hg
 simp[wrND,this]
def kg:(D.str "on").pur 60=true:=by decide +kernel
def p9:(D.str "off").pur 60=true:=by decide +kernel
def oO:(D.str "on").eq (.str "on")=true:=by decide +kernel
def pd:(D.str "off").eq (.str "on")=false:=by decide +kernel
def AZ {p:Nat}{cs:ab}{O:ai}(C:Cv p cs)(w:Wn cs O)(g:Nat):((aG cs p O).any λr=>decide (g∈r))=decide (g∈O):=by
 rw[Bool.eq_iff_iff];simp only[List.any_eq_true,Fx];constructor
 .rintro⟨r,hr,hg⟩;exact nY (FY.mpr ⟨r,hr,hg⟩)
 .intro h;exact FY.mp (s0 C w h)
def AL (hp:1<=p/\p<=6)(hm:cs.length<=6)(ok:∀c∈cs,OkC p c):Cv p cs:=by
 have h:∀g,aX cs g=[]/\cs.length<=g\/OkC p (aX cs g):=λg=>by
  unfold aX;rw[List.getD_eq_getElem?_getD];by_cases hg:g<cs.length
  .rw[Fp hg]; exact .inr (ok _ (FO hg))
  .rw[Gj (by omega)]; exact .inl ⟨rfl,by omega⟩
 refine⟨hp.1,hp.2,hm,λg hg=>?_,λg i hi=>?_,λg=>?_,λg=>?_⟩
 .rcases h g with ⟨_,e⟩ | o
  .omega
  .exact o.ne
 .rcases h g with ⟨e,_⟩ | o
  .rw[e] at hi; cases hi
  .exact o.rg i hi
 .rcases h g with ⟨e,_⟩ | o
  .rw[e]; exact .nil
  .exact o.nd
 .rcases h g with ⟨e,_⟩ | o
  .rw[e]; simp
  .exact o.ln
def CP (f:α->β)(xs:List α)(lo hi:Option Int):cutD (xs.map f) lo hi=(cutD xs lo hi).map f:=by
 simp[cutD,HF,HG]
structure P5 (G:Pg):Prop where
 v:Pv G
 f29:G.fn 29=some ls
 f30:G.fn 30=some qM
noncomputable def seenD (r:ai):D:=match r.getLast? with
 | some g=>.int (g:Nat)
 | none=>.non
variable {G:Pg}(P:P5 G)
include P
def xI (n k k' k'':Nat)(p:Nat)(cs:ab)(gs:ai)(g:Nat)(C:Cv p cs)(w:Wn cs gs)(hg:g<cs.length)(hn:g∉gs):∃j,run G (n+6) 25 [(k,wd p cs),(k',bQ (aG cs p gs)),(k'',.int g)]=.ret j (bQ (aG cs p (gs++[g]))) []:=by
 have hfl:=w.fl C;have:=xg P.v n k k' k'' p cs (aG cs p gs) g (aX cs g) (Cv.at hg) (λi hi=>by rw[gi]; exact C.rg g i hi) (by rw[gi]; exact C.p6) (C.ln g) (by omega) (w.f6 C) (by have:=C.m6; omega) λz=>hn (nY z);rw[sC C] at this;exact this
def zy (n k k':Nat)(p:Nat)(cs:ab)(gs:ai)(C:Cv p cs)(w:Wn cs gs):∃j,run G (n+7) 30 [(k,wd p cs),(k',.lst (natL gs))]=.ret j (bQ (aG cs p gs)) []:=by
 have hl:=w.len C;have h6:6<=SL:=by decide
 obtain⟨jb,qb⟩:=Bd P.v (n+4) 0 p cs C.p6;have e0:List.replicate p ([]:ai)=aG cs p []:=by
  unfold aG bt;exact (F4.mpr ⟨by simp,by simp⟩).symm
 rw[e0] at qb;refine Ou.rq P.f30 ?_;show Ou _ _ _ [some (0,wd p cs),some (0,.lst (natL gs)),none,none] _ _ _;refine Ou.set (x:=(jb,bQ (aG cs p []))) (by simp[P.v.f23,nZ,qb]) ?_;refine Ou.fo (λr a=>∃(x3:ax) (pre suf:ai),a=[some (0,wd p cs),some (0,.lst (natL gs)),some (0,bQ (aG cs p pre)),x3]/\r=natL suf/\pre++suf=gs) (vs:=[(0,.lst (natL gs))]) (xs:=natL gs) (by simp) (by simp) (by rw[kE]; omega) ⟨none,[],gs,by simp,rfl,rfl⟩ ?_ ?_
 .rintro x r a ⟨x3,pre,suf,ha,hr,he⟩;cases suf with
  | nil=>simp[natL] at hr
  | cons g suf=>
   simp only[natL,Fk,GH] at hr;obtain⟨rfl,rfl⟩:=hr;subst ha;have wp:Wn cs pre:=⟨by have:=w.nd; rw[<-he] at this; exact (Fv.mp this).1,λx hx=>w.lt x (by rw[<-he]; exact dZ _ hx)⟩
   have hgp:g∉pre:=λz=>by
    have:=w.nd;rw[<-he] at this;exact (Fv.mp this).2.2 g z g (by simp) rfl
   obtain⟨j1,q1⟩:=xI P n 0 0 0 p cs pre g C wp (w.lt g (by rw[<-he]; simp)) hgp;refine⟨_,fP rfl,?_⟩;refine Ou.set (x:=(j1,bQ (aG cs p (pre++[g])))) (by simp[P.v.f25,p8,q1]) ?_;exact Ou.nil ⟨some (0,.int g),pre++[g],suf,by simp,rfl,by simpa using he⟩
 .rintro a ⟨x3,pre,suf,ha,hr,he⟩;have:suf=[]:=by simpa[natL] using hr.symm
  subst this ha;rw[Ga] at he;subst he;exact Ou.ret (x:=(0,bQ (aG cs p pre))) (by simp) rfl
def uH (n k:Nat)(p:Nat)(cs:ab)(gs:ai)(C:Cv p cs):run G (n+1) 29 [(k,bQ (aG cs p gs))]=.ret 99 (.lst ((aG cs p gs).map seenD)) []:=by
 have hS:((aG cs p gs).map rowD).length<=SL:=by rw[Fj,gi]; exact bv C.p6 (by decide)
 have ew:bQ (aG cs p gs)=.tup ((aG cs p gs).map rowD):=rfl;generalize aG cs p gs=rows at hS ew;have cc:aO (compF G (run G n) [none,none] (.one 1) [] (.ite (.op .gt [(.op .len [(.var 1)]),(.cst (.int (0)))]) (.op .ix [(.var 1),(.op .neg [(.cst (.int (1)))])]) (.cst .non))) (rows.map rowD)=.ok (rows.map λr=>((if r=[] then 99 else 0),seenD r)):=by
  refine eU λr _=>?_;rcases Gk r with e | ⟨A,g,e⟩
  .subst e; simp[compF,rowD,natL,seenD]
  .rw[Gm] at e;subst e;have i1:aH (rowD (A++[g])) (.int (-1))=some (0,.int (g:Nat)):=by
    have hl:(natL (A++[g])).length=A.length+1:=by rw[kE]; simp
    have e1:en (natL (A++[g])).length (-1)=some A.length:=by rw[sX (by omega),hl]; rfl
    have e2:(natL (A++[g]))[A.length]? = some (.int (g:Nat)):=by simp[natL]
    simp only[rowD,aH,D.seq,e1,Option.bind_some,e2]
   have ln:dO (λxs=>some (99,D.int xs.length)) (rowD (A++[g]))=some (99,.int ((A.length:Int)+1)):=by simp[rowD,natL]
   have h0:(0:Int)<(A.length:Int)+1:=by omega
   generalize rowD (A++[g])=RR at i1 ln;simp[-aH,-dO,compF,i1,ln,h0,seenD]
 have jk:aL (rows.map λr=>((if r=[] then 99 else 0),seenD r))=98:=me λx hx=>by
  obtain⟨r,_,rfl⟩:=eT hx;simp only[seenD];split <;> rfl
 rw[run,P.f29,ew];have e:rows.map seenD=(rows.map λr=>((if r=[] then 99 else 0),seenD r)).map (·.2):=by simp
 rw[e];generalize rows.map rowD=RW at cc hS;generalize (rows.map λr=>((if r=[] then 99 else 0),seenD r))=ZZ at cc jk;simp[ls,hS,cc,jk]
end Ip
end
section
namespace Ip
open PySem (Str)
theorem RelF.at {A a:Fr}(r:RelF A a){x k:Nat}{d:D}(h:a[x]? = some (some (k,d))):∃j,A[x]? = some (some (j,d))/\k<=j:=by
 rcases r.get x with ⟨_,e⟩ | ⟨u,v,e1,e2,q⟩
 .rw[e] at h; cases h
 .rw[e2] at h;cases h;cases u with
  | none=>exact q.elim
  | some u=>
   obtain⟨j,d'⟩:=u;cases (show d'=d from q.1);exact⟨j,e1,q.2⟩
theorem RelF.natO {A a:Fr}(r:RelF A a)(i:Nat):natO A[i]? = natO a[i]?:=by
 rcases r.get i with ⟨e1,e2⟩ | ⟨u,v,e1,e2,q⟩
 .rw[e1,e2]
 .rw[e1,e2];cases u <;> cases v
  .rfl
  .exact q.elim
  .exact q.elim
  .rename_i u v;obtain⟨k,d⟩:=u;obtain⟨l,d'⟩:=v;cases (show d=d' from q.1);cases d <;> rfl
theorem RelF.intF {A a:Fr}(r:RelF A a)(i:Nat):intF A[i]? = intF a[i]?:=by
 rcases r.get i with ⟨e1,e2⟩ | ⟨u,v,e1,e2,q⟩
 .rw[e1,e2]
 .rw[e1,e2];cases u <;> cases v
  .rfl
  .exact q.elim
  .exact q.elim
  .rename_i u v;obtain⟨k,d⟩:=u;obtain⟨l,d'⟩:=v;cases (show d=d' from q.1);cases d <;> rfl
theorem RelF.natsO {A a:Fr}(r:RelF A a):∀is:ai,natsO A is=natsO a is
 | []=>rfl
 | i::is=>by rw[Ip.natsO,Ip.natsO,r.natO i,r.natsO is]
section
variable {G:Pg}{cl:Nat->au->Run}{io:ai}{a:Fr}{ss:aw}{N:Fr->Prop}{V:D->Prop}
theorem Ou.nest {x k j:Nat}{is ns:ai}{rm:Bool}{v:Int}{d d':D}(hx:a[x]? = some (some (k,d)))(hk:is.length<k)(hi:natsO a is=some ns)(hj:intF a[j]? = some v)(hd:cU rm v ns d=some d')(h:Ou G cl io (a.set x (some (k,d'))) ss N V):Ou G cl io a (.nest x is rm j::ss) N V:=
 .step λA r=>by
  obtain⟨j',hA,hj'⟩:=r.at hx;have hk':is.length<j':=by omega
  rw[tN,hA];simp only[fW,if_pos hk',r.natsO is,hi,r.intF j,hj,Option.bind,hd];exact⟨_,r.set (x:=some (j',d')) (y:=some (k,d')) ⟨rfl,hj'⟩ x,h⟩
theorem Ou.byref {f x k k2:Nat}{es:aC}{F:Fn}{vs:au}{d d':D}(hF:dk G f (es.length+1)=some F)(he:evals G cl a.sl es=.ok vs)(hx:a[x]? = some (some (k,d)))(hn:(Ex.namess es).contains x=false)(hr:∀j,k<=j->∃z,cl f ((j,d)::vs)=.ret 99 .non [(z,d')]/\k2<=z)(hb:∀z,k2<=z->d'.fb z=true)(h:Ou G cl io (a.set x (some (k2,d'))) ss N V):Ou G cl io a (.byref f x es::ss) N V:=
 .step λA r=>by
  obtain⟨j',hA,hj'⟩:=r.at hx;obtain⟨z,e,hz⟩:=hr j' hj';rw[oM,hF];simp only[r.sl,he,R.toO,hA,gX,hn,Fq,if_false,e,jT,hb z hz,if_true];exact⟨_,r.set (x:=some (z,d')) (y:=some (k2,d')) ⟨rfl,hz⟩ x,h⟩
def Ou.appK {x k:Nat}{e:Ex}{xs:av}{v:KD}(hx:a[x]? = some (some (k+1,.lst xs)))(he:eval G cl a.sl e=.ok v)(hv:v.2.fb v.1=true)(hl:xs.length<SL)(h:Ou G cl io (a.set x (some (1,.lst (xs++[v.2])))) ss N V) :
  Ou G cl io a (.mut x [] .append [e]::ss) N V:=
 .step λA r=>by
  obtain⟨k1,h1⟩:=r.own hx;have e1:cw A[x]? = true:=by rw[h1]; rfl
  have e2:([v]:au).all (λv=>v.2.fb v.1)=true:=by simp[hv]
  simp only[kA,e1,if_true,cj,bP,r.sl,he,R.bind,R.toO,d7,e2];rw[h1];simp only[eI,rK,hl,if_true];exact⟨_,r.set (x:=some (dh k1 xs v+1,.lst (xs++[v.2]))) (y:=some (1,.lst (xs++[v.2]))) ⟨rfl,by omega⟩ x,h⟩
end
def Ou.runI {G:Pg}{n f K:Nat}{F:Fn}{vs:au}{R:D}(hf:G.fn f=some F)(hn:vs.length=F.np)(hio:F.io=[0])(h:Ou G (Ip.run G n) [0] (bo F vs) F.body (λa=>a[0]? = some (some (K,R))) (λ_=>False)):∃j,Ip.run G (n+1) f vs=.ret 99 .non [(j,R)]/\K<=j:=by
 rw[B3 hf hn,hio];have:=h _ (.refl _);revert this
 cases execs G (Ip.run G n) [0] (bo F vs) F.body with
 | nx A=>
  rintro⟨a,r,h1⟩;obtain⟨j,hA,hj⟩:=r.at h1;exact⟨j,by simp[fin,outs,hA],hj⟩
 | ret k d A=>exact False.elim
 | _=>exact False.elim
structure Pe (G:Pg):Prop where
 d:P5 G
 f67:G.fn 67=some pS
 f68:G.fn 68=some nD
 f135:G.fn 135=some iH
 f71:G.fn 71=some dH
 f136:G.fn 136=some lW
 f99:G.fn 99=some mF
 f137:G.fn 137=some lD
 f138:G.fn 138=some mW
 f139:G.fn 139=some nv
 f140:G.fn 140=some my
 f141:G.fn 141=some mX
 f142:G.fn 142=some mY
 f143:G.fn 143=some la
 f144:G.fn 144=some mQ
 f116:G.fn 116=some ny
 f145:G.fn 145=some lh
 f88:G.fn 88=some mZ
 f160:G.fn 160=some nJ
 f161:G.fn 161=some nL
 f162:G.fn 162=some qU
 f163:G.fn 163=some pF
 f69:G.fn 69=some nR
def EX (h:t<8):∃y:Int,0<y/\y<1000000000000000000000000000000000000000000000000000000000000/\aH (.lst [.int 1,.int (10 ^ 7),.int (10 ^ 14),.int (10 ^ 21),.int (10 ^ 28),.int (10 ^ 35),.int (10 ^ 42),.int (10 ^ 49)]) (.int (t:Nat))=o0 (.int y):=by
 have hq:t=0\/t=1\/t=2\/t=3\/t=4\/t=5\/t=6\/t=7:=by omega
 rcases hq with rfl | rfl | rfl | rfl | rfl | rfl | rfl | rfl <;> exact⟨_,by decide,by decide,rfl⟩
def pX (h:t<8):∃y:Int,ci y=true/\aH (.lst [.int 48271,.int 69621,.int 16807,.int 40692,.int 39373,.int 30269,.int 27183,.int 60013]) (.int (t:Nat))=o0 (.int y):=by
 have hq:t=0\/t=1\/t=2\/t=3\/t=4\/t=5\/t=6\/t=7:=by omega
 rcases hq with rfl | rfl | rfl | rfl | rfl | rfl | rfl | rfl <;> exact⟨_,dA.mpr (by decide),rfl⟩
def rR (h:t<8):∃y:Int,0<y/\aH (.lst [.int 999983,.int 999979,.int 999961,.int 999959,.int 999953,.int 999931,.int 999917,.int 999907]) (.int (t:Nat))=o0 (.int y):=by
 have hq:t=0\/t=1\/t=2\/t=3\/t=4\/t=5\/t=6\/t=7:=by omega
 rcases hq with rfl | rfl | rfl | rfl | rfl | rfl | rfl | rfl <;> exact⟨_,by decide,rfl⟩
variable {G:Pg}(P:Pe G)
include P
def Aa (n k k':Nat)(ns:aj)(j:Nat):∃d,run G (n+1) 135 [(k,.lst (ns.map .int)),(k',.int j)]=.ret d (.int (ns.getD j 0)) []:=by
 rw[run,P.f135];by_cases h:j<ns.length
 .have e:cutD (ns.map D.int) (some (j:Int)) (some ((j:Int)+1))=[.int ns[j]]:=by
   rw[oV _ _ (by simp; omega),GU (by simpa using h)]; simp
  exact⟨0,by simp[iH,e,sl2D,D.eq,D.eqs,en,h]⟩
 .have e:cutD (ns.map D.int) (some (j:Int)) (some ((j:Int)+1))=[]:=by
   simp only[cutD,dG];rw[Hf (by simp; omega),List.take_nil]
  have e2:ns[j]? = none:=Gj (by omega);exact⟨99,by simp[iH,e,e2,sl2D,D.eq,D.eqs]⟩
def eY (n k k' k'':Nat)(c t m:Int)(hm:0<m)(ht0:0<=t/\t<8):∃v j,run G (n+1) 71 [(k,.int c),(k',.int t),(k'',.int m)]=.ret j (.int v) []/\0<=v/\v<m:=by
 obtain⟨t,rfl⟩:∃u:Nat,t=(u:Int):=⟨t.toNat,by omega⟩
 have ht:t<8:=by omega
 have b10:ci 10=true:=dA.mpr (by decide);have b3:ci 3=true:=dA.mpr (by decide);have b79:ci 7907=true:=dA.mpr (by decide);have fin:∀x:Int,0<=x % m/\x % m<m:=λx=>⟨Int.emod_nonneg _ (by omega),Int.emod_lt_of_pos _ hm⟩
 obtain⟨y,y0,y1,iy⟩:=EX ht;simp only[Int.reducePow] at iy;obtain⟨b,b0,ib⟩:=pX ht;obtain⟨q,q0,iq⟩:=rR ht;have key:Ou G (run G n) [] [o0 (.int c),o0 (.int t),o0 (.int m),none,none,none,none] dH.body (λ_=>False) (λd=>∃v,d=.int v/\0<=v/\v<m):=by
  by_cases h:c % 2=1
  .refine Ou.iffT (j:=99) (by simp[D.eq,h]) ?_;refine Ou.set (x:=(0,.int y)) (by simp[-aH,b10,iy]) ?_;exact Ou.ret (x:=(99,.int (c / 2 / y % m))) (by simp[hm,y0,y1]) ⟨_,rfl,fin _⟩
  .refine Ou.iffN (j:=99) (by simp[D.eq,h]) ?_;refine Ou.set (x:=(0,.int b)) (by simp[-aH,ib]) ?_;refine Ou.set (x:=(0,.int q)) (by simp[-aH,iq]) ?_;refine Ou.set (x:=(99,.int (c % 2147483647))) (by simp) ?_;have hx:ci (c % 2147483647)=true:=dA.mpr (by omega);generalize c % 2147483647=x at hx;exact Ou.ret (x:=(99,.int ((3 * x * x+b * x+7907 * ((t:Int)+1)) % q / 5 % m))) (by simp[hx,b0,b3,b79,hm,q0]) ⟨_,rfl,fin _⟩
 obtain⟨j,d,e,v,rfl,h1,h2⟩:=Ou.rv (vs:=[(k,.int c),(k',.int t),(k'',.int m)]) P.f71 key;exact⟨v,j,e,h1,h2⟩
def u0 (n k k':Nat)(c:Int)(i:Nat)(hi:i<=6):∃v j,run G (n+1) 136 [(k,.int c),(k',.int i)]=.ret j (.int v) []:=by
 have b10:ci 10=true:=dA.mpr (by decide);have b2:ci 2=true:=dA.mpr (by decide);have b9:ci 976=true:=dA.mpr (by decide);have bi:ci (i:Int)=true:=dA.mpr (by omega);have hS:i<=SL:=bv hi (by decide);have key:Ou G (run G n) [] [o0 (.int c),o0 (.int i),none,none] lW.body (λ_=>False) (λd=>∃v,d=.int v):=by
  by_cases h:c % 2=0
  .refine Ou.iffT (j:=99) (by simp[D.eq,h]) ?_;exact Ou.ret (x:=(99,.int (c % 10 ^ 15+976 * i * i))) (by simp[b10,b9,bi]) ⟨_,rfl⟩
  .refine Ou.iffN (j:=99) (by simp[D.eq,h]) ?_;refine Ou.set (x:=(99,.int (c / 2))) rfl ?_;refine Ou.fo (λr a=>∃(x3:ax) (y:Int),a=[o0 (.int c),o0 (.int i),o0 (.int y),x3]) (vs:=[(0,.int (i:Int))]) (xs:=(List.range i).map λ(n:Nat)=>D.int n) (by simp) (wk_rng1 hS) (by simpa using hS) ⟨none,c / 2,by simp⟩ ?_ ?_
   .rintro x r a ⟨x3,y,ha⟩;subst ha;refine⟨_,fP rfl,?_⟩;refine Ou.set (x:=(99,.int (y / 10 ^ 56))) (by simp[b10]) ?_;exact Ou.nil ⟨o0 x,y / 10 ^ 56,by simp⟩
   .rintro a ⟨x3,y,ha⟩;subst ha;exact Ou.ret (x:=(99,.int (2 * y+1))) (by simp[b2]) ⟨_,rfl⟩
 obtain⟨j,d,e,v,rfl⟩:=Ou.rv (vs:=[(k,.int c),(k',.int i)]) P.f136 key;exact⟨v,j,e⟩
end Ip
end
section
namespace Ip
open PySem (Str)
def Es:∀p:Fin 7,∀q:Fin 6,q.1<p.1->1<=([1,2,4,8,16,32]:aj).getD q.1 1/\([1,2,4,8,16,32]:aj).getD q.1 1<=ca p.1:=by decide +kernel
variable {G:Pg}(P:Pe G)
include P
def yO (n k k' k'':Nat)(c:Int)(p m:Nat)(hp:1<=p/\p<=6)(hm:m<=6):∃j cs,run G (n+2) 99 [(k,.int c),(k',.int p),(k'',.int m)]=.ret j (cvsD cs) []/\cs.length=m/\∀c∈cs,OkC p c:=by
 have hS:m<=SL:=bv hm (by decide);have hpS:p<=SL:=bv hp.2 (by decide);have key:Ou G (run G (n+1)) [] [o0 (.int c),o0 (.int p),o0 (.int m),none,none,none,none] mF.body (λ_=>False) (λd=>∃cs,d=cvsD cs/\cs.length=m/\∀c∈cs,OkC p c):=by
  refine Ou.setK (x:=(99,.lst [])) (by simp) (by simp) ?_;refine Ou.low (a':=[o0 (.int c),o0 (.int p),o0 (.int m),some (1,.lst []),none,none,none]) (.cons (.refl _) (.cons (.refl _) (.cons (.refl _) (.cons ⟨rfl,by decide⟩ (.refl _))))) ?_;refine Ou.fo (λr a=>∃(x4 x5 x6:ax) (cs:ab) (suf:ai),a=[o0 (.int c),o0 (.int p),o0 (.int m),some (1,cvsD cs),x4,x5,x6]/\r=suf.map (λ(n:Nat)=>D.int n)/\cs.length+suf.length=m/\(∀s∈suf,s<=6)/\∀c∈cs,OkC p c) (vs:=[(0,.int (m:Int))]) (xs:=(List.range m).map λ(n:Nat)=>D.int n) (by simp) (wk_rng1 hS) (by simpa using hS) ?_ ?_ ?_
  .exact⟨none,none,none,[],List.range m,by simp[cvsD],rfl,by simp,λs hs=>by have:=FR.mp hs; omega,by simp⟩
  .rintro x r a ⟨x4,x5,x6,cs,suf,ha,hr,hl,h6,hok⟩;cases suf with
   | nil=>simp at hr
   | cons s suf=>
    simp only[Fk,GH] at hr;obtain⟨rfl,rfl⟩:=hr;subst ha;simp only[List.length_cons] at hl;refine⟨_,fP rfl,?_⟩;obtain⟨u,j1,q1⟩:=u0 P n 0 0 c s (h6 s bW);refine Ou.set (x:=(j1,.int u)) (by simp[P.f136,lW,q1]) ?_;obtain⟨v,j3,q3,hv0,hv1⟩:=eY P n 0 99 0 u 1 (ca p) (zU p) (by decide);have im:=BJ hp;refine Ou.set (x:=(99,.int (1+v))) (by simp[-aH,im,P.f71,dH,q3]) ?_;obtain⟨v4,j4,q4,h40,h41⟩:=eY P n 0 99 99 u 4 3 (by decide) (by decide);obtain⟨v5,j5,q5,h50,h51⟩:=eY P n 0 99 0 u 5 p (by omega) (by decide);have fin:∀(b:Int) (a:Fr),1<=b/\b<=ca p->a=[o0 (.int c),o0 (.int p),o0 (.int m),some (1,cvsD cs),o0 (.int s),o0 (.int u),o0 (.int b)]->Ou G (run G (n+1)) [] a [.mut 3 [] .append [(.comp [none,none,(some 6)] (.one 1) .rng1 [(.var 1)] [(.op .eq [(.op .mod [(.op .fdiv [(.var 2),(.op .ix [(.op .lst [(.cst (.int (1))),(.cst (.int (2))),(.cst (.int (4))),(.cst (.int (8))),(.cst (.int (16))),(.cst (.int (32)))]),(.var 1)])]),(.cst (.int (2)))]),(.cst (.int (1)))])] (.var 1))]] (λa=>∃(x4 x5 x6:ax) (cs:ab) (suf':ai),a=[o0 (.int c),o0 (.int p),o0 (.int m),some (1,cvsD cs),x4,x5,x6]/\suf.map (λ(n:Nat)=>D.int n)=suf'.map (λ(n:Nat)=>D.int n)/\cs.length+suf'.length=m/\(∀s∈suf',s<=6)/\∀c∈cs,OkC p c) (λd=>∃cs,d=cvsD cs/\cs.length=m/\∀c∈cs,OkC p c):=by
     intro b a hb ea;subst ea;have ok:=ze hp hb;have eF:eG b p=(List.range p).filter λn=>decide (b / (([1,2,4,8,16,32]:aj).getD n 1) % 2=1):=rfl;generalize eG b p=F at ok eF;have cc:aO (compF G (run G (n+1)) [none,none,some (.int b)] (.one 1) [(.op .eq [(.op .mod [(.op .fdiv [(.var 2),(.op .ix [(.op .lst [(.cst (.int (1))),(.cst (.int (2))),(.cst (.int (4))),(.cst (.int (8))),(.cst (.int (16))),(.cst (.int (32)))]),(.var 1)])]),(.cst (.int (2)))]),(.cst (.int (1)))])] (.var 1)) ((List.range p).map λ(n:Nat)=>D.int n)=.ok (F.map λ(n:Nat)=>((0:Nat),D.int n)):=by
      rw[eF];refine uk λi hi=>?_;obtain⟨y,ey,hy,h3,ix⟩:=um (i:=i) (by have:=FR.mp hi; omega);rw[ey];have hy':¬y=0:=by omega
      simp[-aH,compF,ix,D.eq,hy,h3]; split <;> rfl
     have hj:aL (F.map λ(n:Nat)=>((0:Nat),D.int n))=98:=me λx hx=>by
      obtain⟨c,_,rfl⟩:=eT hx;simp
     have hl6:cs.length<SL:=by
      have:7<=SL:=by decide
      omega
     obtain⟨c1,ec,oc⟩:∃c1:aj,F.map (λ(n:Nat)=>D.int n)=c1.map .int/\OkC p c1:=⟨F.map λ(n:Nat)=>(n:Int),by simp,ok⟩
     refine Ou.append (k:=0) (xs:=cs.map λc=>.lst (c.map .int)) (v:=(99,.lst (F.map λ(n:Nat)=>D.int n))) (by simp[cvsD,frz,frz1]) (by simp[wk_rng1 hpS,hpS,cc,hj,Function.comp_def]) (by simpa using hl6) ?_;rw[ec];refine Ou.nil ⟨o0 (.int s),o0 (.int u),o0 (.int b),cs++[c1],suf,by simp[cvsD,frz,frz1],rfl,by simp; omega,λs hs=>h6 s (bX _ hs),?_⟩;intro c hc;rcases dg hc with h | h
     .exact hok c h
     .rw[Fi.mp h]; exact oc
    by_cases h:v4=1
    .subst h;obtain⟨w,rfl⟩:∃w:Nat,v5=(w:Int):=⟨v5.toNat,by omega⟩
     obtain⟨y,ey,_,_,ix⟩:=um (i:=w) (by omega);have hb:=Es ⟨p,by omega⟩ ⟨w,by omega⟩ (by dsimp only; omega);dsimp only at hb;rw[ey] at hb;refine Ou.iffT (j:=99) (by simp[P.f71,dH,q4,D.eq]) ?_;refine Ou.set (x:=(0,.int y)) (by simp[-aH,P.f71,dH,q5,ix]) ?_;refine Ou.nil ?_;exact fin y _ hb (by simp)
    .refine Ou.iffN (j:=99) (by simp[P.f71,dH,q4,D.eq,h]) ?_;exact fin (1+v) _ (by omega) (by simp)
  .rintro a ⟨x4,x5,x6,cs,suf,ha,hr,hl,_,hok⟩;subst ha;have:suf=[]:=by simpa using hr.symm
   subst this;exact Ou.ret (x:=(0,cvsD cs)) (by simp) ⟨cs,rfl,by simpa using hl,hok⟩
 obtain⟨j,d,e,cs,rfl,h1,h2⟩:=Ou.rv (vs:=[(k,.int c),(k',.int p),(k'',.int m)]) P.f99 key;exact⟨j,cs,e,h1,h2⟩
end Ip
end
section
namespace Ip
open PySem (Str)
section
variable {G:Pg}{cl:Nat->au->Run}{io:ai}{a:Fr}{ss:aw}{N:Fr->Prop}{V:D->Prop}
def Ou.each (e:α->D)(l:List α)(I:List α->Fr->Prop)(h:evals G cl a.sl it=.ok vs)(hw:da wk vs=some (l.map e))(hx:l.length<=SL)(h0:I [] (frz (wk.fz it) a))
  (step:∀pre x suf a',l=pre++x::suf->I pre a'->∃a'',(∀A,RelF A a'->∃A',bN io tg (e x) A=.nx A'/\RelF A' a'')/\Ou G cl io a'' b (I (pre++[x])) V)(k:∀a',I l a'->Ou G cl io a' ss N V):Ou G cl io a (.fo tg wk it b::ss) N V:=by
 refine Ou.fo (λr a=>∃pre suf,r=suf.map e/\l=pre++suf/\I pre a) h hw (by simpa using hx) ⟨[],l,rfl,rfl,h0⟩ ?_ ?_
 .rintro x r a' ⟨pre,suf,hr,hl,hi⟩;cases suf with
  | nil=>cases hr
  | cons y suf=>
   cases hr;obtain⟨a'',h1,h2⟩:=step pre y suf a' hl hi;exact⟨a'',h1,h2.mono (λa hI=>⟨pre++[y],suf,rfl,by rw[hl]; simp,hI⟩) (λ_ h=>h)⟩
 .rintro a' ⟨pre,suf,hr,hl,hi⟩;have:suf=[]:=by simpa using hr.symm
  subst this;rw[Ga] at hl;exact k a' (hl ▸ hi)
end
noncomputable def rwL (r:ai):D:=.lst (natL r)
noncomputable def wrL (rows:ac):D:=.lst (rows.map rwL)
noncomputable def aZ (p:Nat)(cs:ab)(Z:ac):D:=.lst (Z.map λO=>wrL (aG cs p O))
def kC {p:Nat}{cs:ab}{Z:ac}{i:Nat}{O:ai}(h:Z[i]? = some O):aH (aZ p cs Z) (.int i)=o0 (wrL (aG cs p O)):=by
 obtain⟨hi,e⟩:=de h;have h':(i:Int)<Z.length:=by omega
 simp[aZ,aH,en,h',hi,e]
def n0 {cs:ab}{p j:Nat}{O:ai}(h:j<p):aH (wrL (aG cs p O)) (.int (j:Nat))=o0 (rwL (bt cs j O)):=by
 have h':(j:Int)<p:=by omega
 simp[wrL,aH,en,gi,h,aG]
def xS {R:ai}{i:Nat}(h:i<R.length):aH (rwL R) (.int (i:Nat))=o0 (.int (R[i]:Nat)):=by
 have h':(i:Int)<R.length:=by omega
 simp[rwL,aH,en,natL,h',h]
def nN {cs:ab}{g:Nat}(h:g<cs.length):aH (cvsD cs) (.int (g:Nat))=o0 (.lst ((aX cs g).map .int)):=by
 have h':(g:Int)<cs.length:=by omega
 simp[cvsD,aH,en,h',h,aX]
def yn (G:Pg)(cl:Nat->au->Run)(W:ac)(g:Nat):aO (compF G cl [none,none,some (.int g)] (.one 1) [] (.op .isin [(.var 2),(.var 1)])) (W.map rwL)=.ok (W.map λr=>(99,.bl (decide (g∈r)))):=
 eU λr _=>by
  have:=nX r;simp[-List.all_eq_true,compF,rwL,mH,this]
noncomputable def dD (x:Nat×Bool×Nat):D:=.tup [.int x.1,.str (if x.2.1 then "on" else "off"),.int x.2.2]
structure OkD (cs:ab)(Z:ac)(x:Nat×Bool×Nat):Prop where
 lt:x.2.2<cs.length
 ql:x.1<Z.length
 on:x.2.1=true->fF Z x.2.2=none
 off:x.2.1=false->x.2.2∈Z.getD x.1 []
noncomputable def dm (Z:ac)(x:Nat×Bool×Nat):ac:=Z.set x.1 (if x.2.1 then Z.getD x.1 []++[x.2.2] else gN x.2.2 (Z.getD x.1 []))
def ei {Z:ac}{q:Nat}(h:q<Z.length):Z[q]? = some (Z.getD q []):=by simp[h]
def nB (Z:ac)(x:Nat×Bool×Nat):(dm Z x).length=Z.length:=by simp[dm]
def OkD.sg {cs:ab}{Z:ac}{x:Nat×Bool×Nat}(s:Sg cs Z)(h:OkD cs Z x):Sg cs (dm Z x):=by
 have hz:=ei h.ql;obtain⟨q,b,g⟩:=x;cases b with
 | true=>exact s.on hz h.lt (h.on rfl)
 | false=>exact s.off hz
def tK {Z:ac}{x:Nat×Bool×Nat}{g:Nat}(hq:x.1<Z.length)(hg:g≠x.2.2)(i:Nat):g∈(dm Z x).getD i []↔g∈Z.getD i []:=by
 unfold dm;rw[List.getD_eq_getElem?_getD,List.getD_eq_getElem?_getD,Hg];by_cases e:x.1=i
 .subst e;rw[if_pos rfl,if_pos hq,ei hq];obtain⟨q,b,g'⟩:=x;cases b <;> simp_all[gN]
 .rw[if_neg e,<-List.getD_eq_getElem?_getD]
def OkD.keep {cs:ab}{Z:ac}{x y:Nat×Bool×Nat}(h:OkD cs Z x)(k:OkD cs Z y)(hg:y.2.2≠x.2.2):OkD cs (dm Z x) y:=by
 refine⟨k.lt,by rw[nB]; exact k.ql,λe=>?_,λe=>(tK h.ql hg _).mpr (k.off e)⟩;have:=k.on e;rw[rS,FY] at this ⊢;rintro⟨O,hO,hy⟩;obtain⟨i,hi,rfl⟩:=List.mem_iff_getElem.mp hO;rw[nB] at hi;refine this ⟨Z[i],FO hi,?_⟩;have:=(tK (g:=y.2.2) h.ql hg i).mp (by simpa[nB,hi] using hy);simpa[hi] using this
variable {G:Pg}(P:Pe G)
include P
def ur (n k k':Nat)(p:Nat)(cs:ab)(Z:ac)(g:Nat)(C:Cv p cs)(s:Sg cs Z)(hl:Z.length<=3):∃j,run G (n+1) 137 [(k,aZ p cs Z),(k',.int g)]=.ret j (wrND Z g) []:=by
 have hl':Z.length<=SL:=bv hl (by decide);refine Ou.rq P.f137 ?_;show Ou _ _ _ [o0 (aZ p cs Z),o0 (.int g),none] _ _ _;refine Ou.fo (λr a=>∃(x2:ax) (i l:Nat),a=[o0 (aZ p cs Z),o0 (.int g),x2]/\r=(List.range' i l).map (λ(n:Nat)=>D.int n)/\i+l=Z.length/\∀j (hj:j<Z.length),j<i->g∉Z[j]) (vs:=[(99,.int Z.length)]) (by simp[aZ]) (wk_rng1 hl') (by simpa using hl') ⟨none,0,Z.length,by simp,by rw[List.range_eq_range'],by omega,λj hj h=>by omega⟩ ?_ ?_
 .rintro x r a ⟨x2,i,l,ha,hr,hil,hn⟩;cases l with
  | zero=>simp at hr
  | succ l=>
   rw[List.range'_succ,Fk,GH] at hr;obtain⟨rfl,rfl⟩:=hr;subst ha;have hi:i<Z.length:=by omega
   have ix:=kC (p:=p) (cs:=cs) (Fp hi);have cc:=yn G (run G n) (aG cs p Z[i]) g;have hws:(aG cs p Z[i]).length<=SL:=by rw[gi]; exact bv C.p6 (by decide)
   have hsq:(wrL (aG cs p Z[i])).seq=some ((aG cs p Z[i]).map rwL):=rfl;have an:=mM (λr=>decide (g∈r)) (aG cs p Z[i]);rw[AZ C (s.wn (FO hi)) g] at an;refine⟨_,fP rfl,?_⟩;have hev:∀a:Fr,a=[o0 (aZ p cs Z),o0 (.int g),o0 (.int i)]->eval G (run G n) a.sl (.op .any [(.comp [none,none,(some 1)] (.one 1) .seq [(.op .ix [(.var 0),(.var 2)])] [] (.op .isin [(.var 2),(.var 1)]))])=.ok (99,.bl (decide (g∈Z[i]))):=by
    intro a ea;subst ea;generalize aZ p cs Z=T at ix;generalize wrL (aG cs p Z[i])=Y at ix hsq;simp[-aH,-D.seq,ix,hsq,cc,hws,Function.comp_def,an]
   by_cases hb:g∈Z[i]
   .rw[FF hb] at hev;refine Ou.iffT (j:=99) (hev _ rfl) ?_;exact Ou.ret (x:=(0,.int i)) rfl (zS hi hb hn).symm
   .rw[F8 hb] at hev;refine Ou.iffN (j:=99) (hev _ rfl) ?_;refine Ou.nil ⟨o0 (.int i),i+1,l,by simp,rfl,by omega,λj hj h=>?_⟩;by_cases e:j=i
    .subst e; exact hb
    .exact hn j hj (by omega)
 .rintro a ⟨x2,i,l,ha,hr,hil,hn⟩;subst ha;have hl0:l=0:=by
   cases l with
   | zero=>rfl
   | succ l=>rw[List.range'_succ] at hr; simp at hr
  subst hl0;exact Ou.ret (x:=(99,.non)) rfl (wJ λj hj=>hn j hj (by omega)).symm
omit P in
def oS {r:ai}{x:Nat}:aH (rwL (r++[x])) (.int (-1))=o0 (.int x):=by
 have:=sX (n:=r.length+1) (by omega);simp[rwL,aH,natL,this]
def z9 (n k k' k1 k2:Nat)(p:Nat)(cs:ab)(Z:ac)(q g:Nat)(O:ai)(C:Cv p cs)(s:Sg cs Z)(hO:Z[q]? = some O)(hg:g∈O)(hc:g<cs.length):∃j us,run G (n+1) 138 [(k,aZ p cs Z),(k',cvsD cs),(k1,.int q),(k2,.int g)]=.ret j (.lst (natL us)) []:=by
 have ic:=nN hc;have iz:=kC (p:=p) (cs:=cs) hO;have hS:(aX cs g).length<=SL:=bv (C.ln g) (by decide);have h7:7<=SL:=by decide
 have hrg:=C.rg g;have hln:=C.ln g;have key:Ou G (run G n) [] [o0 (aZ p cs Z),o0 (cvsD cs),o0 (.int q),o0 (.int g),none,none,none] mW.body (λ_=>False) (λd=>∃us,d=.lst (natL us)):=by
  refine Ou.setK (x:=(99,.lst [])) (by simp) (by simp) ?_;refine Ou.low (a':=[o0 (aZ p cs Z),o0 (cvsD cs),o0 (.int q),o0 (.int g),some (1,.lst (natL [])),none,none]) (.cons (.refl _) (.cons (.refl _) (.cons (.refl _) (.cons (.refl _) (.cons ⟨rfl,by decide⟩ (.refl _)))))) ?_;generalize aZ p cs Z=T at iz;generalize cvsD cs=K at ic;refine Ou.each D.int (aX cs g) (λpre a=>∃(x5 x6:ax) (us:ai),a=[o0 T,o0 K,o0 (.int q),o0 (.int g),some (1,.lst (natL us)),x5,x6]/\us.length<=pre.length) (vs:=[(0,.lst ((aX cs g).map .int))]) (by simp[-aH,ic]) (by simp) hS ⟨none,none,[],by simp[frz,frz1,natL],by simp⟩ ?_ ?_
  .rintro pre i suf a hl ⟨x5,x6,us,ha,hu⟩;subst ha;have hi:i∈aX cs g:=by rw[hl]; simp
   obtain⟨j,rfl⟩:∃j:Nat,i=(j:Int):=⟨i.toNat,by have:=hrg i hi; omega⟩
   have hj:j<p:=by have:=hrg _ hi; omega
   have iw:=n0 (cs:=cs) (O:=O) hj;have hu6:us.length<SL:=by
    have:(aX cs g).length=pre.length+(suf.length+1):=by rw[hl]; simp
    omega
   refine⟨_,fP rfl,?_⟩;have hgf:g∈bt cs j O:=FU.mpr ⟨hg,FF hi⟩;refine Ou.set (x:=(0,rwL (bt cs j O))) (by simp[-aH,iz,iw]) ?_;rcases Gk (bt cs j O) with e | ⟨B,y,e⟩
   .rw[e] at hgf; cases hgf
   rw[Gm] at e;have fi:=rM hgf;have hil:(bt cs j O).idxOf g<(bt cs j O).length:=List.idxOf_lt_length_of_mem hgf;have pl:=nX (bt cs j O);rw[e] at fi hil pl ⊢;have il:=oS (r:=B) (x:=y);by_cases hy:(y:Int)=g
   .refine Ou.iffN (j:=99) (by simp[-aH,il,D.eq]; exact hy) ?_;exact Ou.nil ⟨o0 (.int (j:Int)),o0 (rwL (B++[y])),us,by simp[frz,frz1],by simp; omega⟩
   .have hy':¬y=g:=by omega
    have hne:(B++[y]).idxOf g≠B.length:=λz=>by
     have:=List.getElem_idxOf hil;rw[List.getElem_eq_iff,z] at this;simp at this;exact hy' this
    have hlt:(B++[y]).idxOf g+1<(B++[y]).length:=by
     simp at hil ⊢; omega
    have ix:aH (rwL (B++[y])) (.int (((B++[y]).idxOf g:Int)+1))=o0 (.int (((B++[y])[(B++[y]).idxOf g+1]:Nat))):=by
     have h1:(((B++[y]).idxOf g:Int)+1)=(((B++[y]).idxOf g+1:Nat):Int):=by omega
     rw[h1];exact xS hlt
    have id:cX (rwL (B++[y])) (.int g)=some (99,.int ((B++[y]).idxOf g:Nat)):=by
     have sc:=rp (B++[y]);simp[-List.all_eq_true,rwL,fi,sc]
    refine Ou.iffT (j:=99) (by simp[-aH,il,D.eq,hy]) ?_;refine Ou.append (k:=0) (xs:=natL us) (v:=(0,.int (((B++[y])[(B++[y]).idxOf g+1]:Nat)))) (by simp[frz,frz1]) (by simp[-aH,id,ix]) (by rw[kE]; exact hu6) ?_;exact Ou.nil (Ou.nil ⟨o0 (.int (j:Int)),o0 (rwL (B++[y])),us++[(B++[y])[(B++[y]).idxOf g+1]],by simp[frz,frz1,natL],by simp; omega⟩)
  .rintro a ⟨x5,x6,us,ha,_⟩;subst ha;exact Ou.ret (x:=(0,.lst (natL us))) (by simp) ⟨us,rfl⟩
 obtain⟨j,d,e,us,rfl⟩:=Ou.rv (vs:=[(k,aZ p cs Z),(k',cvsD cs),(k1,.int q),(k2,.int g)]) P.f138 key;exact⟨j,us,e⟩
end Ip
end
section
namespace Ip
open PySem (Str)
def E2 (c:aj):(c.map D.int).all (D.pur 60)=true:=by simp
theorem vw (i:Int):∀c:aj,D.memb (.int i) (c.map .int)=decide (i∈c)
 | []=>rfl
 | j::c=>by
  have e:D.memb (.int i) ((j::c).map .int)=((D.int j).eq (.int i)||D.memb (.int i) (c.map .int)):=rfl;rw[e,vw i c];by_cases h:i=j
  .subst h; simp[D.eq]
  .have:¬j=i:=λz=>h z.symm;simp[D.eq,this,h]
theorem ul (x:Nat×Bool×Nat):aH (dD x) (.int 0)=o0 (.int x.1):=rfl
theorem vi (x:Nat×Bool×Nat):aH (dD x) (.int 2)=o0 (.int x.2.2):=rfl
structure OkB (cs:ab)(Z:ac)(ds:List (Nat×Bool×Nat)):Prop where
 ok:∀x∈ds,OkD cs Z x
 un:ds.Pairwise λx y=>x.2.2≠y.2.2
 ln:ds.length<=3
variable {G:Pg}(P:Pe G)
include P
def wS (n k k' k'':Nat)(p:Nat)(cs:ab)(Z:ac)(c:Int)(C:Cv p cs)(s:Sg cs Z)(hl:1<=Z.length/\Z.length<=3)(hc:cs≠[]):∃j x,run G (n+2) 116 [(k,aZ p cs Z),(k',cvsD cs),(k'',.int c)]=.ret j (dD x) []/\OkD cs Z x:=by
 have hc0:(0:Int)<cs.length:=by have:=List.length_pos_iff.mpr hc; omega
 obtain⟨v,j1,q1,v0,v1⟩:=eY P n 0 99 99 c 3 cs.length hc0 (by decide);obtain⟨g,rfl⟩:∃g:Nat,v=(g:Int):=⟨v.toNat,by omega⟩
 obtain⟨j2,q2⟩:=ur P n 0 0 p cs Z g C s hl.2;obtain⟨w,j3,q3,w0,w1⟩:=eY P n 0 99 99 c 2 Z.length (by omega) (by decide);obtain⟨q,rfl⟩:∃q:Nat,w=(q:Int):=⟨w.toNat,by omega⟩
 have ln:dO (λxs=>some (99,D.int xs.length)) (cvsD cs)=some (99,.int cs.length):=by simp[cvsD]
 have lz:dO (λxs=>some (99,D.int xs.length)) (aZ p cs Z)=some (99,.int Z.length):=by simp[aZ]
 have key:Ou G (run G (n+1)) [] [o0 (aZ p cs Z),o0 (cvsD cs),o0 (.int c),none,none] ny.body (λ_=>False) (λd=>∃x,d=dD x/\OkD cs Z x):=by
  generalize aZ p cs Z=T at q2 lz;generalize cvsD cs=K at ln;refine Ou.set (x:=(j1,.int g)) (by simp[-dO,ln,P.f71,dH,q1]) ?_;refine Ou.set (x:=(j2,wrND Z g)) (by simp[P.f137,lD,q2]) ?_;cases hw:fF Z g with
  | none=>
   have e:wrND Z g=.non:=by simp[wrND,hw]
   rw[e];refine Ou.iffT (j:=99) (by simp) ?_;exact Ou.ret (x:=(99,dD (q,true,g))) (by simp[-dO,lz,P.f71,dH,q3,dD]) ⟨(q,true,g),rfl,by simp; omega,by simp; omega,λ_=>hw,λh=>nomatch h⟩
  | some i=>
   have e:wrND Z g=.int i:=by simp[wrND,hw]
   obtain⟨O,hO,hg⟩:=CY hw;rw[e];refine Ou.iffN (j:=99) (by simp) ?_;exact Ou.ret (x:=(99,dD (i,false,g))) (by simp[dD]) ⟨(i,false,g),rfl,by simp; omega,(de hO).1,(λh=>nomatch h),λ_=>by simpa[hO] using hg⟩
 obtain⟨j,d,e,x,rfl,h⟩:=Ou.rv (vs:=[(k,aZ p cs Z),(k',cvsD cs),(k'',.int c)]) P.f116 key;exact⟨j,x,e,h⟩
def ED (n k k' k'':Nat)(p:Nat)(cs:ab)(Z:ac)(x:Nat×Bool×Nat)(C:Cv p cs)(s:Sg cs Z)(hl:Z.length<=3)(ok:OkD cs Z x):∃j b,run G (n+2) 143 [(k,aZ p cs Z),(k',cvsD cs),(k'',dD x)]=.ret j (.bl b) []:=by
 obtain⟨q,b,g⟩:=x;obtain⟨j2,q2⟩:=ur P n 0 0 p cs Z g C s hl;have key:Ou G (run G (n+1)) [] [o0 (aZ p cs Z),o0 (cvsD cs),o0 (dD (q,b,g)),none,none,none] la.body (λ_=>False) (λd=>∃b,d=.bl b):=by
  cases b with
  | true=>
   have e:wrND Z g=.non:=by simp[wrND,ok.on rfl]
   rw[e] at q2;generalize aZ p cs Z=T at q2;refine Ou.setT (j:=0) (ds:=[.int q,.str "on",.int g]) (by simp[dD]) ?_;refine Ou.iffT (j:=99) (by simp[-eH,bn,kg,oO]) ?_;exact Ou.ret (x:=(99,.bl true)) (by simp[bn,P.f137,lD,q2]) ⟨_,rfl⟩
  | false=>
   have hz:=ei ok.ql;have hg:=ok.off rfl;have e:wrND Z g=.int q:=by simp[wrND,C7 s.nd hz hg]
   rw[e] at q2;obtain⟨j3,us,q3⟩:=z9 P n 0 0 0 0 p cs Z q g _ C s hz hg ok.lt;generalize aZ p cs Z=T at q2 q3;generalize cvsD cs=K at q3;have pu:(natL us).all (D.pur 59)=true:=by simp[natL]
   refine Ou.setT (j:=0) (ds:=[.int q,.str "off",.int g]) (by simp[dD]) ?_;refine Ou.iffN (j:=99) (by simp[-eH,bn,kg,p9,pd]) ?_;exact Ou.ret (x:=(99,.bl ((D.lst (natL us)).eq (.lst [])))) (by simp[-List.all_eq_true,bn,P.f137,lD,q2,P.f138,mW,q3,D.eq,pu]) ⟨_,rfl⟩
 obtain⟨j,d,e,b',rfl⟩:=Ou.rv (vs:=[(k,aZ p cs Z),(k',cvsD cs),(k'',dD (q,b,g))]) P.f143 key;exact⟨j,b',e⟩
def xL (n k k' k'':Nat)(p:Nat)(cs:ab)(x y:Nat×Bool×Nat)(C:Cv p cs)(hx:x.2.2<cs.length)(hy:y.2.2<cs.length):∃j b,run G (n+1) 144 [(k,cvsD cs),(k',dD x),(k'',dD y)]=.ret j (.bl b) []/\(b=false->x.2.2≠y.2.2):=by
 have i1:=nN hx;have i2:=nN hy;have hS:(aX cs x.2.2).length<=SL:=bv (C.ln _) (by decide);have a0:=ul x;have a2:=vi x;have b0:=ul y;have b2:=vi y;have cc:aO (compF G (run G n) [none,none,some (cvsD cs),some (dD y)] (.one 1) [] (.op .isin [(.var 1),(.op .ix [(.var 2),(.op .ix [(.var 3),(.cst (.int (2)))])])])) ((aX cs x.2.2).map .int)=.ok ((aX cs x.2.2).map λi=>(99,.bl (decide (i∈aX cs y.2.2)))):=eU λi _=>by
  have pu:=E2 (aX cs y.2.2);generalize cvsD cs=K at i2;generalize dD y=Y at b2;simp[-List.all_eq_true,-aH,compF,b2,i2,vw,pu]
 have an:=mM (λi=>decide (i∈aX cs y.2.2)) (aX cs x.2.2);have key:Ou G (run G n) [] [o0 (cvsD cs),o0 (dD x),o0 (dD y)] mQ.body (λ_=>False) (λd=>∃b,d=.bl b/\(b=false->x.2.2≠y.2.2)):=by
  generalize cvsD cs=K at i1 cc;generalize dD x=X at a0 a2;generalize dD y=Y at b0 b2 cc;by_cases h:x.2.2=y.2.2
  .refine Ou.iffT (j:=99) (by simp[-aH,a2,b2,D.eq,h]) ?_;exact Ou.ret (x:=(99,.bl true)) rfl ⟨_,rfl,λh=>by cases h⟩
  .have h':¬(x.2.2:Int)=y.2.2:=by omega
   refine Ou.iffN (j:=99) (by simp[-aH,a2,b2,D.eq,h']) ?_;by_cases h2:(x.1:Int)=y.1
   .exact Ou.ret (x:=(99,.bl ((aX cs x.2.2).any λi=>decide (i∈aX cs y.2.2)))) (by simp[-aH,a0,b0,a2,i1,D.eq,h2,cc,hS,Function.comp_def,an]) ⟨_,rfl,λ_=>h⟩
   .exact Ou.ret (x:=(99,.bl false)) (by simp[-aH,a0,b0,D.eq,h2]) ⟨_,rfl,λ_=>h⟩
 obtain⟨j,d,e,b,rfl,h⟩:=Ou.rv (vs:=[(k,cvsD cs),(k',dD x),(k'',dD y)]) P.f144 key;exact⟨j,b,e,h⟩
omit P in
theorem kR {α:Type}{e:α->D}{f:D->R ax}{g:α->D}:∀{xs:List α},(∀x∈xs,∃j,f (e x)=.ok (some (j,g x)))->∃ys,aO f (xs.map e)=.ok ys/\ys.map (λx=>x.2)=xs.map g
 | [],_=>⟨[],rfl,rfl⟩
 | x::xs,h=>by
  obtain⟨j,e1⟩:=h x bW;obtain⟨ys,e2,e3⟩:=kR λy hy=>h y (bX _ hy);exact⟨(j,g x)::ys,by rw[Fk,aO,e1,R.bind,e2],by rw[Fk,Fk,e3]⟩
omit P in
def C1 (cs:ab):(cvsD cs).pur 60=true:=by simp[cvsD]
omit P in
def CI {cs:ab}(h:cs≠[]):(cvsD cs).eq (.lst [])=false:=by
 cases cs with
 | nil=>exact absurd rfl h
 | cons _ _=>simp[cvsD,D.eq,D.eqs]
def CT (n k k' k1 k2:Nat)(p:Nat)(cs:ab)(Z:ac)(c:Int)(C:Cv p cs)(s:Sg cs Z)(hl:1<=Z.length/\Z.length<=3):∃j ds,run G (n+4) 145 [(k,aZ p cs Z),(k',cvsD cs),(k1,.int c),(k2,.int 2)]=.ret j (.lst (ds.map dD)) []/\1<=j/\OkB cs Z ds:=by
 have pc:=C1 cs;by_cases hc:cs=[]
 .subst hc;refine⟨99,[],?_,by decide,⟨λx h=>(nomatch h),.nil,by decide⟩⟩;rw[run,P.f145];simp[lh,cvsD,D.eq,D.eqs]
 have ec:=CI hc;obtain⟨v,jv,qv,v0,v1⟩:=eY P (n+2) 0 99 99 c 6 3 (by decide) (by decide);obtain⟨m,rfl⟩:∃m:Nat,v=(m:Int):=⟨v.toNat,by omega⟩
 have hm:m<=2:=by omega
 have hS:m<=SL:=bv hm (by decide);have h7:7<=SL:=by decide
 obtain⟨j,d,e,hj,ds,rfl,ok⟩:=Ou.runV (n:=n+3) (i:=4) (vs:=[(k,aZ p cs Z),(k',cvsD cs),(k1,.int c),(k2,.int 2)]) (init:=lh.body.dropLast) (P:=λd=>∃ds:List (Nat×Bool×Nat),d=.lst (ds.map dD)/\OkB cs Z ds) P.f145 rfl rfl rfl (by
  show Ou _ _ _ [o0 (aZ p cs Z),o0 (cvsD cs),o0 (.int c),o0 (.int 2),none,none,none] _ _ _;refine Ou.setK (x:=(99,.lst [])) (by simp) (by simp) ?_;refine Ou.low (a':=[o0 (aZ p cs Z),o0 (cvsD cs),o0 (.int c),o0 (.int 2),some (1,.lst (([]:List (Nat×Bool×Nat)).map dD)),none,none]) (.cons (.refl _) (.cons (.refl _) (.cons (.refl _) (.cons (.refl _) (.cons ⟨rfl,by decide⟩ (.refl _)))))) ?_;have hd:=λu=>wS P (n+1) 0 0 u p cs Z;have hmay:=λx=>ED P (n+1) 0 0 0 p cs Z x C s hl.2;have hcr:=λx y=>xL P (n+2) 0 0 0 p cs x y C;generalize aZ p cs Z=T at hd hmay;generalize hK:cvsD cs=K at hd hmay hcr pc ec;refine Ou.iffN (j:=99) (by simp[pc,ec]) ?_;refine Ou.each (λ(n:Nat)=>D.int n) (List.range m) (λpre a=>∃(x5 x6:ax) (ds:List (Nat×Bool×Nat)),a=[o0 T,o0 K,o0 (.int c),o0 (.int 2),some (1,.lst (ds.map dD)),x5,x6]/\(∀x∈ds,OkD cs Z x)/\ds.Pairwise (λx y=>x.2.2≠y.2.2)/\ds.length<=pre.length) (vs:=[(jv,.int (m:Int))]) (by simp[P.f71,dH,qv]) (wk_rng1 hS) (by simpa using hS) ⟨none,none,[],by simp,λx h=>(nomatch h),.nil,by simp⟩ ?_ ?_
  .rintro pre i suf a hr ⟨x5,x6,ds,ha,h1,h2,h3⟩;subst ha;have him:i<m:=FR.mp (by rw[hr]; simp);have hpl:pre.length+(suf.length+1)=m:=by
    have:=congrArg List.length hr;simpa using this.symm
   refine⟨_,fP rfl,?_⟩;obtain⟨u,ju,qu⟩:=u0 P (n+2) 0 0 c i (by omega);obtain⟨jd,x,qd,okx⟩:=hd ju u C s hl hc;refine Ou.set (x:=(jd,dD x)) (by simp[P.f116,ny,P.f136,lW,qu,qd]) ?_;obtain⟨jm,b,qm⟩:=hmay x okx;obtain⟨F,hF⟩:=(Classical.skolem (p:=λ(y:Nat×Bool×Nat) (b:Bool)=>y∈ds->∃j,run G (n+3) 144 [(0,K),(0,dD x),(0,dD y)]=.ret j (.bl b) []/\(b=false->x.2.2≠y.2.2))).mp λy=>by
    by_cases hy:y∈ds
    .obtain⟨j,b,e,h⟩:=hcr x y okx.lt (h1 y hy).lt;exact⟨b,λ_=>⟨j,e,h⟩⟩
    .exact⟨false,λh=>absurd h hy⟩
   obtain⟨ys,cc,ey⟩:∃ys:au,aO (compF G (run G (n+3)) [none,none,some K,some (dD x)] (.one 1) [] (.call 144 [(.var 2),(.var 3),(.var 1)])) (ds.map dD)=.ok ys/\ys.map (λx=>x.2)=ds.map λy=>D.bl (F y):=kR λy hy=>by
    obtain⟨j,e,_⟩:=hF y hy;exact⟨j,by simp[compF,P.f144,mQ,e]⟩
   have an:=mM F ds;have hdS:ds.length<=SL:=by omega
   have hev:∀a:Fr,a=[o0 T,o0 K,o0 (.int c),o0 (.int 2),some (1,.lst (ds.map dD)),o0 (.int i),o0 (dD x)]->eval G (run G (n+3)) a.sl (.and (.call 143 [(.var 0),(.var 1),(.var 6)]) (.op .not [(.op .any [(.comp [none,none,(some 1),(some 6)] (.one 1) .seq [(.var 4)] [] (.call 144 [(.var 2),(.var 3),(.var 1)]))])]))=.ok (99,.bl (b&&!ds.any F)):=by
    intro a ea;subst ea;generalize dD x=X at qm cc;cases b with
    | false=>simp[P.f143,la,qm]
    | true=>simp[P.f143,la,qm,cc,hdS,ey,an]
   cases hb:(b&&!ds.any F) with
   | false=>
    rw[hb] at hev;refine Ou.iffN (hev _ (by simp[frz,frz1])) ?_;exact Ou.nil ⟨o0 (.int i),o0 (dD x),ds,by simp[frz,frz1],h1,h2,by simp; omega⟩
   | true=>
    rw[hb] at hev;refine Ou.iffT (hev _ (by simp[frz,frz1])) ?_;refine Ou.append (k:=0) (xs:=ds.map dD) (v:=(0,dD x)) (by simp[frz,frz1]) (by simp) (by simp; omega) ?_;refine Ou.nil (Ou.nil ⟨o0 (.int i),o0 (dD x),ds++[x],by simp[frz,frz1],?_,?_,by simp; omega⟩)
    .intro y hy;rcases dg hy with h | h
     .exact h1 y h
     .rw[Fi.mp h]; exact okx
    .refine List.pairwise_append.mpr ⟨h2,List.pairwise_singleton _ _,λy hy z hz=>?_⟩;rw[Fi.mp hz];simp only[tw,GM,List.any_eq_false] at hb;obtain⟨_,_,h⟩:=hF y hy;exact (h (by simpa using hb.2 y hy)).symm
  .rintro a ⟨x5,x6,ds,ha,h1,h2,h3⟩;subst ha;exact Ou.nil ⟨0,.lst (ds.map dD),by simp,ds,rfl,h1,h2,by simp at h3; omega⟩)
 exact⟨j,ds,e,hj,ok⟩
end Ip
end
section
namespace Ip
open PySem (Str)
noncomputable def dQ (W:List ac):D:=.lst (W.map wrL)
def vD (p:Nat)(cs:ab)(Z:ac):aZ p cs Z=dQ (Z.map (aG cs p)):=by
 unfold aZ dQ;rw[Hb]; rfl
def ud {r:ai}{g:Nat}(nd:r.Nodup)(hg:g∈r):r.eraseIdx (r.idxOf g)=r.filter λx=>decide (x≠g):=by
 obtain⟨A,B,rfl⟩:=List.append_of_mem hg;obtain⟨_,n2,n3⟩:=Fv.mp nd;have hA:g∉A:=λz=>n3 g z g bW rfl;have hB:g∉B:=(FB.mp n2).1;have fA:A.filter (λx=>decide (x≠g))=A:=Hv.mpr λx hx=>FF λe=>hA (e ▸ hx);have fB:B.filter (λx=>decide (x≠g))=B:=Hv.mpr λx hx=>FF λe=>hB (e ▸ hx);rw[yf hA,List.eraseIdx_append_of_length_le (HB _),Nat.sub_self,List.eraseIdx_cons_zero,List.filter_append,List.filter_cons,fA,fB];simp
def vI {cs:ab}{g:Nat}{gs:ai}(j:Nat):bt cs j (gN g gs)=(bt cs j gs).filter λx=>decide (x≠g):=by
 unfold bt gN; rw[List.filter_filter,List.filter_filter]; congr 1; funext x; rw[Bool.and_comm]
def xF {p:Nat}{cs:ab}{gs:ai}{g:Nat}(C:Cv p cs)(w:gs.Nodup)(hg:g∈gs):cm (λr=>r.eraseIdx (r.idxOf g)) (aX cs g) (aG cs p gs)=aG cs p (gN g gs):=by
 refine ui C (λj hj=>?_) λj hj=>?_
 .rw[vI];exact ud (w.filter _) (FU.mpr ⟨hg,FF hj⟩)
 .rw[vI];refine (Hv.mpr λx hx=>?_).symm;have hxc:(j:Int)∈aX cs x:=He (FU.mp hx).2;have:x≠g:=λe=>hj (e ▸ hxc);simpa using this
noncomputable def fO (rm:Bool)(g:Nat)(r:ai):ai:=if rm then r.eraseIdx (r.idxOf g) else r++[g]
def t5 {rm:Bool}{g:Nat}{r:ai}(h:rm=true->g∈r)(hl:r.length<1000):eh rm g (natL r)=some (natL (fO rm g r)):=by
 have hi:(natL r).all D.isI=true:=by simp[natL,D.isI]
 have h9:1000<=SL:=by decide
 unfold eh;rw[if_pos hi];cases rm with
 | true=>
  rw[if_pos rfl,rM (h rfl)];simp[fO,natL,List.eraseIdx_eq_take_drop_succ,HF,HG]
 | false=>
  rw[if_neg (by simp),if_pos (by rw[kE]; omega)];simp[fO,natL]
def DY {rm:Bool}{g q i:Nat}{W:List ac}{R:ac}{r:ai}(hW:W[q]? = some R)(hR:R[i]? = some r)(h:rm=true->g∈r)(hl:r.length<1000):cU rm g [q,i] (dQ W)=some (dQ (W.set q (R.set i (fO rm g r)))):=by
 simp[cU,dQ,hW,wrL,hR,rwL,t5 h hl,List.map_set]
variable {G:Pg}(P:Pe G)
include P
def yI (n k k1 k2:Nat)(p:Nat)(cs:ab)(Z:ac)(q g:Nat)(b:Bool)(O':ai)(C:Cv p cs)(s:Sg cs Z)(hk:3<=k)(hq:q<Z.length)(hg:g<cs.length)(hin:b=false->g∈Z.getD q [])
  (hm:cm (fO (!b) g) (aX cs g) (aG cs p (Z.getD q []))=aG cs p O'):∃j,run G (n+1) 139 [(k,aZ p cs Z),(k1,cvsD cs),(k2,dD (q,b,g))]=.ret 99 .non [(j,aZ p cs (Z.set q O'))]/\k<=j:=by
 have ic:=nN hg;have hS:(aX cs g).length<=SL:=bv (C.ln g) (by decide);have wO:=s.wn (O:=Z.getD q []) (FA (ei hq));have hln:=wO.len C;have hend:aZ p cs (Z.set q O')=dQ ((Z.map (aG cs p)).set q (aG cs p O')):=by rw[vD,List.map_set]
 have h0:aZ p cs Z=dQ ((Z.map (aG cs p)).set q (cm (fO (!b) g) [] (aG cs p (Z.getD q [])))):=by
  rw[vD];congr 1
  refine (Gu λj=>?_);rw[Hg];by_cases e:q=j
  .subst e; rw[if_pos rfl,if_pos (by simpa using hq),Fs,ei hq]; rfl
  .rw[if_neg e]
 rw[hend,<-hm];generalize Z.getD q []=O at hin wO hln h0;rw[h0];refine Ou.runI P.f139 rfl rfl ?_;show Ou _ _ _ [some (k,dQ ((Z.map (aG cs p)).set q (cm (fO (!b) g) [] (aG cs p O)))),o0 (cvsD cs),o0 (dD (q,b,g)),none,none,none,none] _ _ _;generalize cvsD cs=K at ic;refine Ou.setT (j:=0) (ds:=[.int q,.str (if b then "on" else "off"),.int g]) (by simp[dD]) ?_;refine Ou.each D.int (aX cs g) (λpre a=>∃(x6:Option KD),a=[some (k,dQ ((Z.map (aG cs p)).set q (cm (fO (!b) g) pre (aG cs p O)))),o0 K,o0 (dD (q,b,g)),o0 (.int q),o0 (.str (if b then "on" else "off")),o0 (.int g),x6]) (vs:=[(0,.lst ((aX cs g).map .int))]) (by simp[-aH,bn,ic]) (by simp) hS ⟨none,by simp[bn,frz,frz1]⟩ ?_ ?_
 .rintro pre i suf a hl ⟨x6,ha⟩;subst ha;have hi:i∈aX cs g:=by rw[hl]; simp
  have nd:=C.nd g;rw[hl] at nd;obtain⟨n1,n2,n3⟩:=Fv.mp nd;have hni:i∉pre:=λz=>n3 i z i bW rfl;obtain⟨j,rfl⟩:∃j:Nat,i=(j:Int):=⟨i.toNat,by have:=C.rg g i hi; omega⟩
  have hj:j<p:=by have:=C.rg g _ hi; omega
  have hgj:b=false->g∈bt cs j O:=λe=>FU.mpr ⟨hin e,FF hi⟩;have hlen:(bt cs j O).length<1000:=by
   have:(bt cs j O).length<=O.length:=Hj _ _;omega
  have hR:(cm (fO (!b) g) pre (aG cs p O))[j]? = some (bt cs j O):=by
   rw[oF _ pre _ n1 (λi hi=>by rw[gi]; exact C.rg g i (by rw[hl]; exact dZ _ hi))];simp[hni,aG,hj]
  have hn:cm (fO (!b) g) (pre++[(j:Int)]) (aG cs p O)=(cm (fO (!b) g) pre (aG cs p O)).set j (fO (!b) g (bt cs j O)):=by
   unfold cm at hR ⊢;rw[HD,List.foldl_cons,List.foldl_nil];simp only[Int.toNat_natCast];rw[List.getD_eq_getElem?_getD,hR]; rfl
  rw[hn];generalize cm (fO (!b) g) pre (aG cs p O)=R at hR;have hW:((Z.map (aG cs p)).set q R)[q]? = some R:=Fo (by simpa using hq);have nr:=DY (rm:=!b) (g:=g) hW hR (λe=>hgj (by simpa using e)) hlen;rw[List.set_set] at nr;refine⟨_,fP rfl,?_⟩;cases b with
  | true=>
   refine Ou.iffT (j:=99) (by simp[-eH,kg,oO]) ?_;exact Ou.nest (k:=k) (ns:=[q,j]) (v:=g) rfl (by simp; omega) (by simp[natsO,natO]) (by simp[intF]) nr (Ou.nil (Ou.nil ⟨o0 (.int (j:Int)),by simp⟩))
  | false=>
   refine Ou.iffF (j:=99) (by simp[-eH,kg,p9,pd]) ?_;exact Ou.nest (k:=k) (ns:=[q,j]) (v:=g) rfl (by simp; omega) (by simp[natsO,natO]) (by simp[intF]) nr (Ou.nil (Ou.nil ⟨o0 (.int (j:Int)),by simp⟩))
 .rintro a ⟨x6,ha⟩;subst ha;exact Ou.nil rfl
def p0 (n k k1 k2:Nat)(p:Nat)(cs:ab)(Z:ac)(x:Nat×Bool×Nat)(C:Cv p cs)(s:Sg cs Z)(hk:3<=k)(ok:OkD cs Z x):∃j,run G (n+1) 139 [(k,aZ p cs Z),(k1,cvsD cs),(k2,dD x)]=.ret 99 .non [(j,aZ p cs (dm Z x))]/\k<=j:=by
 obtain⟨q,b,g⟩:=x;refine yI P n k k1 k2 p cs Z q g b _ C s hk ok.ql ok.lt ok.off ?_;cases b with
 | true=>exact sC C
 | false=>exact xF C (s.wn (FA (ei ok.ql))).nd (ok.off rfl)
end Ip
end
section
namespace Ip
open PySem (Str)
def wZ (k:Nat)(r:ai):(rwL r).fb (k+1)=true:=by simp[rwL,natL]
def rF (k:Nat)(R:ac):(wrL R).fb (k+2)=true:=by simp[wrL,wZ]
def t8 {p:Nat}{cs:ab}{Z:ac}{k:Nat}(h:3<=k):(aZ p cs Z).fb k=true:=by
 obtain⟨j,rfl⟩:∃j,k=j+3:=⟨k - 3,by omega⟩
 simp[aZ,rF]
def EB {Z:ac}{k:Nat}(h:2<=k):(wrL Z).fb k=true:=by
 obtain⟨j,rfl⟩:∃j,k=j+2:=⟨k - 2,by omega⟩
 exact rF j Z
theorem nz {cs:ab}{rest:List (Nat×Bool×Nat)}:∀{pre:List (Nat×Bool×Nat)} {Z:ac},(∀x∈pre++rest,OkD cs Z x)->(pre++rest).Pairwise (λx y=>x.2.2≠y.2.2)->Sg cs Z->Sg cs (pre.foldl dm Z)/\(pre.foldl dm Z).length=Z.length/\∀y∈rest,OkD cs (pre.foldl dm Z) y
 | [],Z,h,_,s=>⟨s,rfl,h⟩
 | x::pre,Z,h,u,s=>by
  have ox:=h x bW;obtain⟨u1,u2⟩:=List.pairwise_cons.mp (show (x::(pre++rest)).Pairwise _ from u);obtain⟨a,b,c⟩:=nz (pre:=pre) (Z:=dm Z x) (λy hy=>ox.keep (h y (bX _ hy)) (u1 y hy).symm) u2 (ox.sg s);exact⟨a,b.trans (nB Z x),c⟩
def Ca {cs:ab}{Z:ac}{x:Nat×Bool×Nat}(s:Sg cs Z)(h:OkD cs Z x):fO (!x.2.1) x.2.2 (Z.getD x.1 [])=if x.2.1 then Z.getD x.1 []++[x.2.2] else gN x.2.2 (Z.getD x.1 []):=by
 obtain⟨q,b,g⟩:=x;cases b with
 | true=>rfl
 | false=>exact ud (s.wn (FA (ei h.ql))).nd (h.off rfl)
variable {G:Pg}(P:Pe G)
include P
def EO (n k k1 k2:Nat)(p:Nat)(cs:ab)(Z:ac)(ds:List (Nat×Bool×Nat))(C:Cv p cs)(s:Sg cs Z)(hk:3<=k)(ok:OkB cs Z ds):∃j,run G (n+2) 88 [(k,aZ p cs Z),(k1,cvsD cs),(k2,.lst (ds.map dD))]=.ret 99 .non [(j,aZ p cs (ds.foldl dm Z))]/\3<=j:=by
 have hS:ds.length<=SL:=bv ok.ln (by decide);refine Ou.runI P.f88 rfl rfl ?_;show Ou _ _ _ [some (k,aZ p cs Z),o0 (cvsD cs),o0 (.lst (ds.map dD)),none] _ _ _;refine Ou.low (a':=[some (3,aZ p cs Z),o0 (cvsD cs),o0 (.lst (ds.map dD)),none]) (.cons ⟨rfl,hk⟩ (.refl _)) ?_;refine Ou.each dD ds (λpre a=>∃x3:ax,a=[some (3,aZ p cs (pre.foldl dm Z)),o0 (cvsD cs),o0 (.lst (ds.map dD)),x3]) (vs:=[(0,.lst (ds.map dD))]) (by simp) (by simp) hS ⟨none,by simp[frz,frz1]⟩ ?_ ?_
 .rintro pre x suf a hd ⟨x3,ha⟩;subst ha;obtain⟨s',_,o'⟩:=nz (pre:=pre) (rest:=x::suf) (by rw[<-hd]; exact ok.ok) (by rw[<-hd]; exact ok.un) s;have ox:=o' x bW;refine⟨_,fP rfl,?_⟩;refine Ou.byref (k:=3) (k2:=3) (d':=aZ p cs (dm (pre.foldl dm Z) x)) (F:=nv) (vs:=[(0,cvsD cs),(0,dD x)]) (by simp[dk,P.f139,nv]) (by simp) rfl rfl (λj hj=>?_) (λz hz=>t8 hz) (Ou.nil ⟨o0 (dD x),by simp⟩);obtain⟨z,e,hz⟩:=p0 P n j 0 0 p cs _ x C s' hj ox;exact⟨z,e,by omega⟩
 .rintro a ⟨x3,ha⟩;subst ha;exact Ou.nil rfl
def yH (n k k1:Nat)(cs:ab)(Z:ac)(ds:List (Nat×Bool×Nat))(s:Sg cs Z)(h6:cs.length<=6)(hk:2<=k)(ok:OkB cs Z ds):∃j,run G (n+1) 160 [(k,wrL Z),(k1,.lst (ds.map dD))]=.ret 99 .non [(j,wrL (ds.foldl dm Z))]/\2<=j:=by
 have hS:ds.length<=SL:=bv ok.ln (by decide);refine Ou.runI P.f160 rfl rfl ?_;show Ou _ _ _ [some (k,wrL Z),o0 (.lst (ds.map dD)),none,none,none] _ _ _;refine Ou.low (a':=[some (2,wrL Z),o0 (.lst (ds.map dD)),none,none,none]) (.cons ⟨rfl,hk⟩ (.refl _)) ?_;refine Ou.each dD ds (λpre a=>∃x2 x3 x4:ax,a=[some (2,wrL (pre.foldl dm Z)),o0 (.lst (ds.map dD)),x2,x3,x4]) (vs:=[(0,.lst (ds.map dD))]) (by simp) (by simp) hS ⟨none,none,none,by simp[frz,frz1]⟩ ?_ ?_
 .rintro pre x suf a hd ⟨x2,x3,x4,ha⟩;subst ha;obtain⟨s',_,o'⟩:=nz (pre:=pre) (rest:=x::suf) (by rw[<-hd]; exact ok.ok) (by rw[<-hd]; exact ok.un) s;have ox:=o' x bW;rw[HD,List.foldl_cons,List.foldl_nil];generalize pre.foldl dm Z=Y at s' ox;have wn:=s'.wn (FA (ei ox.ql));have hln:(Y.getD x.1 []).length<1000:=by
   have:=lm wn.nd wn.lt;omega
  have e:cU (!x.2.1) x.2.2 [x.1] (wrL Y)=some (wrL (dm Y x)):=by
   have c:=t5 (rm:=!x.2.1) (g:=x.2.2) (r:=Y.getD x.1 []) (λe=>ox.off (by simpa using e)) hln;rw[Ca s' ox] at c;have gz:(Y.map rwL)[x.1]? = some (rwL (Y.getD x.1 [])):=by rw[Fs,ei ox.ql]; rfl
   simp only[cU,wrL,gz,Option.bind_some,rwL,c,Option.map_some];simp only[dm,List.map_set,rwL]
  obtain⟨q,b,g⟩:=x;refine⟨_,zg rfl,?_⟩;cases b with
  | true=>
   refine Ou.iffT (j:=99) (by simp[-eH,bn,kg,oO]) ?_;exact Ou.nest (k:=2) (ns:=[q]) (v:=g) rfl (by decide) (by simp[natsO,natO,bn]) (by simp[intF,bn]) e (Ou.nil (Ou.nil ⟨o0 (.int q),o0 (.str "on"),o0 (.int g),by simp[bn]⟩))
  | false=>
   refine Ou.iffF (j:=99) (by simp[-eH,bn,kg,p9,pd]) ?_;exact Ou.nest (k:=2) (ns:=[q]) (v:=g) rfl (by decide) (by simp[natsO,natO,bn]) (by simp[intF,bn]) e (Ou.nil (Ou.nil ⟨o0 (.int q),o0 (.str "off"),o0 (.int g),by simp[bn]⟩))
 .rintro a ⟨x2,x3,x4,ha⟩;subst ha;exact Ou.nil rfl
def sH (n k:Nat)(p:Nat)(cs:ab)(Z:ac)(C:Cv p cs)(hl:Z.length<=3):∃j,run G (n+1) 140 [(k,aZ p cs Z)]=.ret j (cJ p cs Z) []:=by
 have hZ:Z.length<=SL:=bv hl (by decide);have hp:p<=SL:=bv C.p6 (by decide);have c1:∀R:ac,aO (compF G (run G n) [none,none] (.one 1) [] (.op .tuple [(.var 1)])) (R.map rwL)=.ok (R.map λr=>((0:Nat),rowD r)):=λR=>eU λr _=>by simp[compF,rwL,rowD]
 obtain⟨ys,cc,ey⟩:∃ys:au,aO (compF G (run G n) [none,none] (.one 1) [] (.op .tuple [(.comp [none,none] (.one 1) .seq [(.var 1)] [] (.op .tuple [(.var 1)]))])) (Z.map λO=>wrL (aG cs p O))=.ok ys/\ys.map (λx=>x.2)=Z.map λO=>bQ (aG cs p O):=kR λO _=>by
  have hr:(aG cs p O).length<=SL:=by rw[gi]; exact hp
  exact⟨0,by simp[compF,wrL,c1,hr,bQ,Function.comp_def]⟩
 rw[run,P.f140];exact⟨0,by simp[my,aZ,cc,hZ,ey,cJ]⟩
def xi (n k:Nat)(p:Nat)(cs:ab)(Z:ac)(C:Cv p cs)(hl:Z.length<=3):∃j,run G (n+1) 141 [(k,cJ p cs Z)]=.ret j (aZ p cs Z) []:=by
 have hZ:Z.length<=SL:=bv hl (by decide);have hp:p<=SL:=bv C.p6 (by decide);have c1:∀R:ac,aO (compF G (run G n) [none,none] (.one 1) [] (.op .list [(.var 1)])) (R.map rowD)=.ok (R.map λr=>((1:Nat),rwL r)):=λR=>eU λr _=>by simp[compF,rwL,rowD]
 obtain⟨ys,cc,ey⟩:∃ys:au,aO (compF G (run G n) [none,none] (.one 1) [] (.comp [none,none] (.one 1) .seq [(.var 1)] [] (.op .list [(.var 1)]))) (Z.map λO=>bQ (aG cs p O))=.ok ys/\ys.map (λx=>x.2)=Z.map λO=>wrL (aG cs p O):=kR λO _=>by
  have hr:(aG cs p O).length<=SL:=by rw[gi]; exact hp
  exact⟨aL ((aG cs p O).map λr=>((1:Nat),rwL r))+1,by simp[compF,wrL,c1,hr,bQ,Function.comp_def]⟩
 rw[run,P.f141];exact⟨aL ys+1,by simp[mX,cJ,cc,hZ,ey,aZ]⟩
def Fc (n k k':Nat)(p m:Nat)(cs:ab)(hp:1<=p/\p<=6)(hm:1<=m/\m<=3):∃j,run G (n+1) 142 [(k,.int m),(k',.int p)]=.ret j (aZ p cs (List.replicate m [])) []/\3<=j:=by
 have hmS:m<=SL:=bv hm.2 (by decide);have hpS:p<=SL:=bv hp.2 (by decide);have e0:aG cs p []=List.replicate p []:=by
  unfold aG bt;exact (F4.mpr ⟨by simp,by simp⟩)
 have j1:aL (List.replicate p ((99:Nat),D.lst []))=99:=by
  obtain⟨u,rfl⟩:∃u,p=u+1:=⟨p - 1,by omega⟩
  simp[aL,ba,List.replicate_succ]
 have c1:aO (compF G (run G n) [none,none] (.one 1) [] (.op .lst [])) ((List.range p).map λ(n:Nat)=>.int n)=.ok (List.replicate p (99,.lst [])):=by
  have:=eU (e:=λ(n:Nat)=>D.int n) (f:=compF G (run G n) [none,none] (.one 1) [] (.op .lst [])) (g:=λ_=>((99:Nat),D.lst [])) (xs:=List.range p) (λi _=>by simp[compF]);rw[this];congr 1
  exact F4.mpr ⟨by simp,by simp⟩
 have c2:aO (compF G (run G n) [none,none,some (.int p)] (.one 1) [] (.comp [none,none] (.one 1) .rng1 [(.var 2)] [] (.op .lst []))) ((List.range m).map λ(n:Nat)=>.int n)=.ok (List.replicate m (100,wrL (aG cs p []))):=by
  have:=eU (e:=λ(n:Nat)=>D.int n) (f:=compF G (run G n) [none,none,some (.int p)] (.one 1) [] (.comp [none,none] (.one 1) .rng1 [(.var 2)] [] (.op .lst []))) (g:=λ_=>((100:Nat),wrL (aG cs p []))) (xs:=List.range m) (λi _=>by simp[compF,wk_rng1 hpS,hpS,c1,j1,wrL,e0,rwL,natL]);rw[this];congr 1
  exact F4.mpr ⟨by simp,by simp⟩
 have j2:aL (List.replicate m ((100:Nat),wrL (aG cs p [])))=100:=by
  obtain⟨u,rfl⟩:∃u,m=u+1:=⟨m - 1,by omega⟩
  simp[aL,ba,List.replicate_succ,wrL]
 refine⟨101,?_,by decide⟩;rw[run,P.f142];simp[mY,wk_rng1 hmS,hmS,c2,j2,aZ]
end Ip
end
section
namespace Ip
open PySem (Str)
theorem rO:∀a b:ai,D.eqs (natL a) (natL b)=decide (a=b)
 | [],[]=>by simp[D.eqs,natL]
 | [],_::_=>by simp[D.eqs,natL]
 | _::_,[]=>by simp[D.eqs,natL]
 | x::xs,y::ys=>by
  have ih:=rO xs ys;have e:D.eqs (natL (x::xs)) (natL (y::ys))=((D.int x).eq (.int y)&&D.eqs (natL xs) (natL ys)):=by simp[natL,D.eqs]
  rw[e,ih];by_cases h:x=y
  .subst h; simp[D.eq]
  .have:¬(x:Int)=y:=by omega
   simp[D.eq,this,h]
theorem uU:∀a b:ac,D.eqs (a.map rowD) (b.map rowD)=decide (a=b)
 | [],[]=>by simp[D.eqs]
 | [],_::_=>by simp[D.eqs]
 | _::_,[]=>by simp[D.eqs]
 | x::xs,y::ys=>by
  have ih:=uU xs ys;rw[Fk,Fk,D.eqs,ih];have:(rowD x).eq (rowD y)=decide (x=y):=by simp only[rowD,D.eq]; exact rO x y
  rw[this];by_cases h:x=y <;> simp[h]
def yV (a b:ac):(bQ a).eq (bQ b)=decide (a=b):=by simp only[bQ,D.eq]; exact uU a b
def sy (a:ac):(bQ a).pur 60=true:=by simp[bQ,rowD,natL]
def k9 (a b:ai):(rwL a).eq (rwL b)=decide (a=b):=by simp only[rwL,D.eq]; exact rO a b
def l9 (a:ai):(rwL a).pur 60=true:=by simp[rwL,natL]
inductive Wi where
 | stand (q:Nat) (O:ai)
 | bare (q j:Nat)
 | see (q j g:Nat)
noncomputable def wiD:Wi->D
 | .stand q O=>.tup [.str "stand",.int q,rwL O]
 | .bare q j=>.tup [.str "bare",.int q,.int j]
 | .see q j g=>.tup [.str "see",.int q,.int j,.int g]
def gE (cs:ab)(p m:Nat):Wi->Prop
 | .stand q O=>q<m/\Wn cs O
 | .bare q j=>q<m/\j<p
 | .see q j _=>q<m/\j<p
noncomputable def dc (cs:ab)(p:Nat)(Z:ac):Wi->Bool
 | .stand q O=>decide (aG cs p (Z.getD q [])=aG cs p O)
 | .bare q j=>decide (bt cs j (Z.getD q [])=[])
 | .see q j g=>decide ((bt cs j (Z.getD q [])).getLast? = some g)
def uQ:(D.str "stand").pur 60=true/\(D.str "bare").pur 60=true/\(D.str "see").pur 60=true:=by decide +kernel
def jB:(D.str "stand").eq (.str "stand")=true/\(D.str "bare").eq (.str "stand")=false/\(D.str "see").eq (.str "stand")=false/\(D.str "bare").eq (.str "bare")=true/\(D.str "see").eq (.str "bare")=false:=by decide +kernel
def y6 {p:Nat}{cs:ab}{O O':ai}(C:Cv p cs)(w:Wn cs O)(w':Wn cs O'):aG cs p O=aG cs p O'↔O.Perm O'/\∀r∈aG cs p O,r=O'.filter λg=>decide (g∈r):=by
 have inR:∀{O:ai},Wn cs O->∀g,g∈O↔g∈(aG cs p O).flatten:=λw g=>⟨s0 C w,nY⟩
 have inF:∀(O:ai) (j g:Nat),g∈bt cs j O↔g∈O/\(j:Int)∈aX cs g:=λO j g=>by unfold bt; rw[FU]; simp
 constructor
 .intro e;refine⟨(List.perm_ext_iff_of_nodup w.nd w'.nd).mpr λg=>by rw[inR w,inR w',e],λr hr=>?_⟩;obtain⟨j,hj,rfl⟩:=eT (show r∈(List.range p).map λj=>bt cs j O from hr);have ej:bt cs j O=bt cs j O':=by
   have:=congrArg (λl=>l.getD j []) e;simpa only[CZ (FR.mp hj)] using this
  rw[ej];refine HE λg hg=>?_;rw[decide_eq_decide,inF];exact⟨λh=>⟨hg,h⟩,λh=>h.2⟩
 .rintro⟨pm,h⟩;refine Hu λj hj=>?_;have:=h (bt cs j O) (List.mem_map.mpr ⟨j,hj,rfl⟩);rw[this];refine HE λg hg=>?_;rw[decide_eq_decide,inF];exact⟨λh=>h.2,λh=>⟨pm.mem_iff.mpr hg,h⟩⟩
def Bl {a b:aj}:c7 a=c7 b↔a.Perm b:=by
 have h:∀l:aj,(c7 l).Perm l:=λl=>List.mergeSort_perm l _;constructor
 .intro e; exact (h a).symm.trans (e ▸ h b)
 .intro e;have so:∀l:aj,(c7 l).Pairwise (·<=·):=λl=>by
   have:=List.pairwise_mergeSort (le:=λa b:Int=>decide (a<=b)) (λa b c h1 h2=>by simp at *; omega) (λa b=>by simp; omega) l;exact this.imp λh=>by simpa using h
  exact PySem.W.ksm_same ((h a).trans (e.trans (h b).symm)) (so a) (so b)
theorem sI:∀O:ai,bE (natL O)=some (O.map λ(n:Nat)=>(n:Int))
 | []=>rfl
 | x::O=>by
  have:bE (natL (x::O))=(bE (natL O)).map λis=>(x:Int)::is:=by simp[natL,bE]
  rw[this,sI O]; rfl
def zH {a b:ai}:(a.map λ(n:Nat)=>(n:Int)).Perm (b.map λ(n:Nat)=>(n:Int))↔a.Perm b:=by
 refine⟨λh=>?_,λh=>h.map _⟩;have:=h.map Int.toNat;simpa[Hb,Function.comp_def] using this
def Am (a b:ai):(D.lst ((c7 (a.map λ(n:Nat)=>(n:Int))).map .int)).eq (.lst ((c7 (b.map λ(n:Nat)=>(n:Int))).map .int))=decide (a.Perm b):=by
 simp only[D.eq,td];rw[decide_eq_decide,Bl,zH]
def yg (r:ai)(g:Nat):(seenD r).eq (.int g)=decide (r.getLast? = some g):=by
 unfold seenD;cases r.getLast? with
 | none=>simp[D.eq]
 | some x=>
  by_cases h:x=g
  .subst h; simp[D.eq]
  .have:¬(x:Int)=g:=by omega
   simp[D.eq,this,h]
def BQ (r:ai):dY false (seenD r)=some (99,.bl (decide (r=[]))):=by
 unfold seenD;rcases Gk r with e | ⟨A,y,e⟩
 .subst e; simp
 .rw[Gm] at e; subst e; simp
def EF (r:ai):(seenD r).pur 60=true:=by
 unfold seenD;split <;> simp
def va {cs:ab}{p j:Nat}{O:ai}(h:j<p):aH (.lst ((aG cs p O).map seenD)) (.int (j:Nat))=o0 (seenD (bt cs j O)):=by
 have h':(j:Int)<p:=by omega
 simp[aH,en,gi,h,aG]
variable {G:Pg}(P:Pe G)
include P
def xl (n k k1 k2:Nat)(p:Nat)(cs:ab)(Z:ac)(w:Wi)(C:Cv p cs)(s:Sg cs Z)(ok:gE cs p Z.length w):∃j,run G (n+8) 67 [(k,wd p cs),(k1,cJ p cs Z),(k2,wiD w)]=.ret j (.bl (dc cs p Z w)) []:=by
 refine Ou.rq P.f67 ?_;show Ou _ _ _ [o0 (wd p cs),o0 (cJ p cs Z),o0 (wiD w),none,none] _ _ _;obtain⟨sp1,sp2,sp3⟩:=uQ;obtain⟨e1,e2,e3,e4,e5⟩:=jB;cases w with
 | stand q O'=>
  obtain⟨hq,w'⟩:=ok;have iz:=oA (p:=p) (cs:=cs) (ei hq);have i0:aH (.tup [.str "stand",.int q,rwL O']) (.int 0)=o0 (.str "stand"):=rfl;have i1:aH (.tup [.str "stand",.int q,rwL O']) (.int 1)=o0 (.int q):=rfl;have i2:aH (.tup [.str "stand",.int q,rwL O']) (.int 2)=o0 (rwL O'):=rfl;obtain⟨jd,qd⟩:=zy P.d n 0 0 p cs O' C w';have pw:=sy (aG cs p (Z.getD q []));have pw':=sy (aG cs p O');have ew:=yV (aG cs p (Z.getD q [])) (aG cs p O');show Ou _ _ _ [o0 (wd p cs),o0 (cJ p cs Z),o0 (.tup [.str "stand",.int q,rwL O']),none,none] _ _ _;generalize D.tup [.str "stand",.int q,rwL O']=X at i0 i1 i2;generalize wd p cs=WD at qd;generalize cJ p cs Z=T at iz;generalize hY:bQ (aG cs p (Z.getD q []))=Y at iz pw ew;generalize hY':bQ (aG cs p O')=Y' at qd pw' ew;refine Ou.set (x:=(0,Y)) (by simp[-aH,i1,iz]) ?_;refine Ou.iffT (j:=99) (by simp[-aH,-eH,i0,sp1,e1]) ?_;exact Ou.ret (x:=(99,.bl (decide (aG cs p (Z.getD q [])=aG cs p O')))) (by
   simp[-aH,i2,rwL,P.d.f30,qM,qd,pw,pw',ew]) rfl
 | bare q j=>
  obtain⟨hq,hj⟩:=ok;have iz:=oA (p:=p) (cs:=cs) (ei hq);have i0:aH (.tup [.str "bare",.int q,.int j]) (.int 0)=o0 (.str "bare"):=rfl;have i1:aH (.tup [.str "bare",.int q,.int j]) (.int 1)=o0 (.int q):=rfl;have i2:aH (.tup [.str "bare",.int q,.int j]) (.int 2)=o0 (.int j):=rfl;have qs:=uH P.d (n+6) 0 p cs (Z.getD q []) C;have ij:=va (cs:=cs) (O:=Z.getD q []) hj;have sn:=BQ (bt cs j (Z.getD q []));show Ou _ _ _ [o0 (wd p cs),o0 (cJ p cs Z),o0 (.tup [.str "bare",.int q,.int j]),none,none] _ _ _;generalize D.tup [.str "bare",.int q,.int j]=X at i0 i1 i2;generalize cJ p cs Z=T at iz;generalize bQ (aG cs p (Z.getD q []))=Y at iz qs;generalize D.lst ((aG cs p (Z.getD q [])).map seenD)=L at qs ij;refine Ou.set (x:=(0,Y)) (by simp[-aH,i1,iz]) ?_;refine Ou.iffN (j:=99) (by simp[-aH,-eH,i0,sp1,sp2,e2]) ?_;refine Ou.set (x:=(0,seenD (bt cs j (Z.getD q [])))) (by simp[-aH,i2,P.d.f29,ls,qs,ij]) ?_;refine Ou.iffT (j:=99) (by simp[-aH,-eH,i0,sp2,e4]) ?_;exact Ou.ret (x:=(99,.bl (decide (bt cs j (Z.getD q [])=[])))) (by simp[-List.getD_eq_getElem?_getD,-dY,sn]) rfl
 | see q j g=>
  obtain⟨hq,hj⟩:=ok;have iz:=oA (p:=p) (cs:=cs) (ei hq);have i0:aH (.tup [.str "see",.int q,.int j,.int g]) (.int 0)=o0 (.str "see"):=rfl;have i1:aH (.tup [.str "see",.int q,.int j,.int g]) (.int 1)=o0 (.int q):=rfl;have i2:aH (.tup [.str "see",.int q,.int j,.int g]) (.int 2)=o0 (.int j):=rfl;have i3:aH (.tup [.str "see",.int q,.int j,.int g]) (.int 3)=o0 (.int g):=rfl;have qs:=uH P.d (n+6) 0 p cs (Z.getD q []) C;have ij:=va (cs:=cs) (O:=Z.getD q []) hj;have se:=yg (bt cs j (Z.getD q [])) g;have sp:=EF (bt cs j (Z.getD q []));show Ou _ _ _ [o0 (wd p cs),o0 (cJ p cs Z),o0 (.tup [.str "see",.int q,.int j,.int g]),none,none] _ _ _;generalize D.tup [.str "see",.int q,.int j,.int g]=X at i0 i1 i2 i3;generalize cJ p cs Z=T at iz;generalize bQ (aG cs p (Z.getD q []))=Y at iz qs;generalize D.lst ((aG cs p (Z.getD q [])).map seenD)=L at qs ij;refine Ou.set (x:=(0,Y)) (by simp[-aH,i1,iz]) ?_;refine Ou.iffN (j:=99) (by simp[-aH,-eH,i0,sp1,sp3,e3]) ?_;refine Ou.set (x:=(0,seenD (bt cs j (Z.getD q [])))) (by simp[-aH,i2,P.d.f29,ls,qs,ij]) ?_;refine Ou.iffN (j:=99) (by simp[-aH,-eH,i0,sp2,sp3,e5]) ?_;exact Ou.ret (x:=(99,.bl (decide ((bt cs j (Z.getD q [])).getLast? = some g)))) (by simp[-List.getD_eq_getElem?_getD,-aH,i3,sp,se]) rfl
def D8 (n k k1 k2:Nat)(p:Nat)(cs:ab)(Z:ac)(ws:List Wi)(C:Cv p cs)(s:Sg cs Z)(hl:ws.length<=1000)(ok:∀w∈ws,gE cs p Z.length w):∃j,run G (n+9) 68 [(k,wd p cs),(k1,cJ p cs Z),(k2,.lst (ws.map wiD))]=.ret j (.bl (ws.all (dc cs p Z))) []:=by
 have hS:ws.length<=SL:=bv hl (by decide);obtain⟨ys,cc,ey⟩:∃ys:au,aO (compF G (run G (n+8)) [none,none,some (cJ p cs Z),some (wd p cs)] (.one 1) [] (.call 67 [(.var 3),(.var 2),(.var 1)])) (ws.map wiD)=.ok ys/\ys.map (λx=>x.2)=ws.map λw=>D.bl (dc cs p Z w):=kR λw hw=>by
  obtain⟨j,e⟩:=xl P n 0 0 0 p cs Z w C s (ok w hw);exact⟨j,by simp[compF,P.f67,pS,e]⟩
 have an:=oZ (dc cs p Z) ws;rw[run,P.f68];generalize wd p cs=WD at cc;generalize cJ p cs Z=T at cc;exact⟨99,by simp[nD,cc,hS,ey,an]⟩
end Ip
end
section
namespace Ip
open PySem (Str)
def tm {Z:ac}{i:Nat}(h:i<Z.length):aH (wrL Z) (.int i)=o0 (rwL (Z.getD i [])):=by
 have h':(i:Int)<Z.length:=by omega
 simp[wrL,aH,en,h',h]
variable {G:Pg}(P:Pe G)
include P
def D7 (n k k1:Nat)(p:Nat)(cs:ab)(Z:ac)(q:Nat)(O':ai)(C:Cv p cs)(w':Wn cs O')(hq:q<Z.length):∃j,run G (n+1) 163 [(k,aZ p cs Z),(k1,wiD (.stand q O'))]=.ret j (.bl ((aG cs p (Z.getD q [])).all λr=>decide (r=O'.filter λg=>decide (g∈r)))) []:=by
 have iz:=kC (p:=p) (cs:=cs) (ei hq);have i1:aH (wiD (.stand q O')) (.int 1)=o0 (.int q):=rfl;have i2:aH (wiD (.stand q O')) (.int 2)=o0 (rwL O'):=rfl;have hl':=w'.len C;have h6:6<=SL:=by decide
 have hS:(natL O').length<=SL:=by rw[kE]; omega
 have hr:(aG cs p (Z.getD q [])).length<=SL:=by rw[gi]; have:=C.p6; omega
 have sq:(wrL (aG cs p (Z.getD q []))).seq=some ((aG cs p (Z.getD q [])).map rwL):=rfl;have sO:(rwL O').seq=some (natL O'):=rfl;refine Ou.rq P.f163 ?_;show Ou _ _ _ [o0 (aZ p cs Z),o0 (wiD (.stand q O')),none] _ _ _;generalize aG cs p (Z.getD q [])=R at iz hr sq;generalize aZ p cs Z=T at iz;generalize wiD (.stand q O')=X at i1 i2;generalize wrL R=Y at iz sq;refine Ou.each rwL R (λpre a=>(∃x2:ax,a=[o0 T,o0 X,x2])/\∀r∈pre,r=O'.filter λg=>decide (g∈r)) (vs:=[(0,Y)]) (by simp[-aH,i1,iz]) (by simp[-D.seq,sq]) hr ⟨⟨none,by simp[frz,frz1]⟩,λ_ h=>nomatch h⟩ ?_ ?_
 .rintro pre r suf a hR ⟨⟨x2,ha⟩,hp⟩;subst ha;refine⟨_,fP rfl,?_⟩;have cc:aO (compF G (run G n) [none,none,some (rwL r)] (.one 1) [(.op .isin [(.var 1),(.var 2)])] (.var 1)) (natL O')=.ok ((O'.filter λg=>decide (g∈r)).map λ(g:Nat)=>((0:Nat),D.int g)):=by
   have:=nX r;exact uk λg _=>by simp[-List.all_eq_true,compF,rwL,mH,this]; split <;> rfl
  have jk:aL ((O'.filter λg=>decide (g∈r)).map λ(g:Nat)=>((0:Nat),D.int g))=98:=me λx hx=>by
   obtain⟨c,_,rfl⟩:=eT hx;simp
  have ef:((O'.filter λg=>decide (g∈r)).map λ(g:Nat)=>((0:Nat),D.int g)).map (λx=>x.2)=natL (O'.filter λg=>decide (g∈r)):=by simp[natL]
  generalize hF:(O'.filter λg=>decide (g∈r))=F at cc jk ef;have p1:=l9 r;have p2:D.pur 60 (.lst (natL F))=true:=l9 F;have eq:(rwL r).eq (.lst (natL F))=decide (r=F):=k9 r F;generalize hZ:(F.map λ(g:Nat)=>((0:Nat),D.int g))=ZZ at cc jk ef;generalize hRR:rwL r=RR at cc p1 eq;generalize natL O'=NO at cc hS sO;have p3:(natL F).all (D.pur 59)=true:=by simp[natL]
  have hev:∀a:Fr,a=[o0 T,o0 X,o0 RR]->eval G (run G n) a.sl (.op .ne [(.var 2),(.comp [none,none,(some 2)] (.one 1) .seq [(.op .ix [(.var 1),(.cst (.int (2)))])] [(.op .isin [(.var 1),(.var 2)])] (.var 1))])=.ok (99,.bl (!decide (r=F))):=by
   intro a ea;subst ea;simp[-aH,-D.seq,-List.all_eq_true,i2,sO,cc,hS,jk,ef,p1,p3,eq]
  by_cases h:r=F
  .rw[FF h] at hev;refine Ou.iffN (j:=99) (hev _ (by simp)) ?_;exact Ou.nil ⟨⟨o0 RR,by simp⟩,λx hx=>(dg hx).elim (hp x) λz=>by rw[Fi.mp z,hF]; exact h⟩
  .rw[F8 h] at hev;refine Ou.iffT (j:=99) (hev _ (by simp)) ?_;refine Ou.ret (x:=(99,.bl false)) rfl ?_;have:(R.all λr=>decide (r=O'.filter λg=>decide (g∈r)))=false:=by
    rw[List.all_eq_false];exact⟨r,by rw[hR]; simp,by rw[hF]; simpa using h⟩
   rw[this]
 .rintro a ⟨⟨x2,ha⟩,hp⟩;subst ha;refine Ou.ret (x:=(99,.bl true)) rfl ?_;have:(R.all λr=>decide (r=O'.filter λg=>decide (g∈r)))=true:=by
   rw[List.all_eq_true];exact λr hr=>FF (hp r hr)
  rw[this]
omit P in
def EV {p:Nat}{cs:ab}{O O':ai}(C:Cv p cs)(w:Wn cs O)(w':Wn cs O'):(decide (O.Perm O')&&(aG cs p O).all λr=>decide (r=O'.filter λg=>decide (g∈r)))=decide (aG cs p O=aG cs p O'):=by
 rw[Bool.eq_iff_iff,Fx,y6 C w w',tw,Fx,List.all_eq_true];simp
omit P in
def rW {O:ai}(h:O.length<=6):dP fE (rwL O)=some (1,.lst ((c7 (O.map λ(n:Nat)=>(n:Int))).map .int)):=by
 have:(O.map λ(n:Nat)=>(n:Int)).length<64:=by simp; omega
 simp only[rwL,dP,fE,sI,Option.bind_some,this,if_true]
def xu (n k k1 k2:Nat)(p:Nat)(cs:ab)(Z:ac)(w:Wi)(C:Cv p cs)(s:Sg cs Z)(ok:gE cs p Z.length w):∃j,run G (n+2) 162 [(k,aZ p cs Z),(k1,wrL Z),(k2,wiD w)]=.ret j (.bl (dc cs p Z w)) []:=by
 refine Ou.rq P.f162 ?_;show Ou _ _ _ [o0 (aZ p cs Z),o0 (wrL Z),o0 (wiD w),none,none] _ _ _;obtain⟨sp1,sp2,sp3⟩:=uQ;obtain⟨e1,e2,e3,e4,e5⟩:=jB;cases w with
 | stand q O'=>
  obtain⟨hq,w'⟩:=ok;have io:=tm hq;have i0:aH (wiD (.stand q O')) (.int 0)=o0 (.str "stand"):=rfl;have i1:aH (wiD (.stand q O')) (.int 1)=o0 (.int q):=rfl;have i2:aH (wiD (.stand q O')) (.int 2)=o0 (rwL O'):=rfl;have wn:=s.wn (FA (ei hq));have hl:=wn.len C;have hl':=w'.len C;have h6:6<=SL:=by decide
  obtain⟨ja,qa⟩:=D7 P n 0 0 p cs Z q O' C w' hq;have hs:=EV C wn w';have sq:(rwL (Z.getD q [])).seq=some (natL (Z.getD q [])):=rfl;show Ou _ _ _ _ _ _ λd=>d=.bl (decide (aG cs p (Z.getD q [])=aG cs p O'));rw[<-hs];generalize ((aG cs p (Z.getD q [])).all λr=>decide (r=O'.filter λg=>decide (g∈r)))=B at qa;clear hs;generalize Z.getD q []=O at io hl sq;have hS:(natL O).length<=SL:=by rw[kE]; omega
  have cc:aO (compF G (run G (n+1)) [none,none] (.one 1) [] (.var 1)) (natL O)=.ok (O.map λ(g:Nat)=>((0:Nat),D.int g)):=eU λg _=>by simp[compF]
  have jk:aL (O.map λ(g:Nat)=>((0:Nat),D.int g))=98:=me λx hx=>by
   obtain⟨c,_,rfl⟩:=eT hx;simp
  have ef:(O.map λ(g:Nat)=>((0:Nat),D.int g)).map (λx=>x.2)=natL O:=by simp[natL]
  have d1:=rW hl;have d2:=rW hl';have es:=Am O O';have p1:(((c7 (O.map λ(n:Nat)=>(n:Int))).map D.int).all (D.pur 59))=true:=by simp
  have p2:(((c7 (O'.map λ(n:Nat)=>(n:Int))).map D.int).all (D.pur 59))=true:=by simp
  generalize ((c7 (O.map λ(n:Nat)=>(n:Int))).map D.int)=S1 at d1 es p1;generalize ((c7 (O'.map λ(n:Nat)=>(n:Int))).map D.int)=S2 at d2 es p2;generalize (O.map λ(g:Nat)=>((0:Nat),D.int g))=ZZ at cc jk ef;generalize aZ p cs Z=T at qa;generalize wrL Z=K at io;generalize wiD (.stand q O')=X at i0 i1 i2 qa;refine Ou.iffT (j:=99) (by simp[-aH,-eH,i0,sp1,e1]) ?_;refine Ou.set (x:=(99,rwL O)) (by
   generalize hro:rwL O=RO at io sq;simp[-aH,-D.seq,i1,io,sq,cc,hS,jk,ef];rw[<-hro]; rfl) ?_
  generalize rwL O=RO at d1;generalize rwL O'=RO' at d2 i2;cases hb:decide (O.Perm O') with
  | false=>
   rw[hb] at es;exact Ou.ret (x:=(99,.bl false)) (by simp[-aH,-dP,-List.all_eq_true,i2,d1,d2,p1,p2,es]) rfl
  | true=>
   rw[hb] at es;exact Ou.ret (x:=(ja,.bl B)) (by simp[-aH,-dP,-List.all_eq_true,i2,d1,d2,p1,p2,es,P.f163,pF,qa]) (by simp)
 | bare q j=>
  obtain⟨hq,hj⟩:=ok;have iz:=kC (p:=p) (cs:=cs) (ei hq);have iw:=n0 (cs:=cs) (O:=Z.getD q []) hj;have i0:aH (wiD (.bare q j)) (.int 0)=o0 (.str "bare"):=rfl;have i1:aH (wiD (.bare q j)) (.int 1)=o0 (.int q):=rfl;have i2:aH (wiD (.bare q j)) (.int 2)=o0 (.int j):=rfl;show Ou _ _ _ _ _ _ λd=>d=.bl (decide (bt cs j (Z.getD q [])=[]));generalize wrL (aG cs p (Z.getD q []))=Y at iz iw;generalize bt cs j (Z.getD q [])=r at iw;have p1:=l9 r;have er:(rwL r).eq (.lst [])=decide (r=[]):=k9 r [];generalize rwL r=RR at iw p1 er;generalize aZ p cs Z=T at iz;generalize wiD (.bare q j)=X at i0 i1 i2;refine Ou.iffN (j:=99) (by simp[-aH,-eH,i0,sp1,sp2,e2]) ?_;refine Ou.set (x:=(0,RR)) (by simp[-aH,i1,i2,iz,iw]) ?_;refine Ou.iffT (j:=99) (by simp[-aH,-eH,i0,sp2,e4]) ?_;exact Ou.ret (x:=(99,.bl (decide (r=[])))) (by simp[p1,er]) rfl
 | see q j g=>
  obtain⟨hq,hj⟩:=ok;have iz:=kC (p:=p) (cs:=cs) (ei hq);have iw:=n0 (cs:=cs) (O:=Z.getD q []) hj;have i0:aH (wiD (.see q j g)) (.int 0)=o0 (.str "see"):=rfl;have i1:aH (wiD (.see q j g)) (.int 1)=o0 (.int q):=rfl;have i2:aH (wiD (.see q j g)) (.int 2)=o0 (.int j):=rfl;have i3:aH (wiD (.see q j g)) (.int 3)=o0 (.int g):=rfl;show Ou _ _ _ _ _ _ λd=>d=.bl (decide ((bt cs j (Z.getD q [])).getLast? = some g));generalize wrL (aG cs p (Z.getD q []))=Y at iz iw;generalize bt cs j (Z.getD q [])=r at iw;have p1:=l9 r;have er:(rwL r).eq (.lst [])=decide (r=[]):=k9 r [];generalize aZ p cs Z=T at iz;generalize wiD (.see q j g)=X at i0 i1 i2 i3;refine Ou.iffN (j:=99) (by simp[-aH,-eH,i0,sp1,sp3,e3]) ?_;refine Ou.set (x:=(0,rwL r)) (by simp[-aH,i1,i2,iz,iw]) ?_;refine Ou.iffN (j:=99) (by simp[-aH,-eH,i0,sp2,sp3,e5]) ?_;rcases Gk r with e | ⟨A,y,e⟩
  .subst e;generalize rwL []=RR at p1 er;exact Ou.ret (x:=(99,.bl false)) (by simp[p1,er]) (by simp)
  .rw[Gm] at e;subst e;have il:=oS (r:=A) (x:=y);have e9:decide (A++[y]=[])=false:=by simp
   rw[e9] at er;generalize rwL (A++[y])=RR at p1 er il;exact Ou.ret (x:=(99,.bl (decide ((y:Int)=g)))) (by simp[-aH,p1,er,il,i3,D.eq]) (by simp; omega)
def zw (n k k1 k2 k3:Nat)(p:Nat)(cs:ab)(Z:ac)(c:Int)(C:Cv p cs)(s:Sg cs Z)(hl:1<=Z.length/\Z.length<=3):∃j w,run G (n+2) 161 [(k,aZ p cs Z),(k1,wrL Z),(k2,.int cs.length),(k3,.int c)]=.ret j (wiD w) []/\gE cs p Z.length w:=by
 obtain⟨v1,j1,q1,a1,b1⟩:=eY P n 0 99 99 c 1 Z.length (by omega) (by decide);obtain⟨q,rfl⟩:∃q:Nat,v1=(q:Int):=⟨v1.toNat,by omega⟩
 have hq:q<Z.length:=by omega
 have hp1:=C.p1;obtain⟨v2,j2,q2,a2,b2⟩:=eY P n 0 99 99 c 2 p (by omega) (by decide);obtain⟨j,rfl⟩:∃j:Nat,v2=(j:Int):=⟨v2.toNat,by omega⟩
 have hj:j<p:=by omega
 obtain⟨v3,j3,q3,_,_⟩:=eY P n 0 99 99 c 3 5 (by decide) (by decide);obtain⟨v4,j4,q4,_,_⟩:=eY P n 0 99 99 c 4 9 (by decide) (by decide);have iz:=kC (p:=p) (cs:=cs) (ei hq);have iw:=n0 (cs:=cs) (O:=Z.getD q []) hj;have io:=tm hq;have wn:=s.wn (FA (ei hq));have lz:dO (λxs=>some (99,D.int xs.length)) (aZ p cs Z)=some (99,.int Z.length):=by simp[aZ]
 have lw:dO (λxs=>some (99,D.int xs.length)) (wrL (aG cs p (Z.getD q [])))=some (99,.int p):=by simp[wrL,gi]
 have key:Ou G (run G (n+1)) [] [o0 (aZ p cs Z),o0 (wrL Z),o0 (.int cs.length),o0 (.int c),none,none,none] nL.body (λ_=>False) (λd=>∃w,d=wiD w/\gE cs p Z.length w):=by
  generalize aZ p cs Z=T at iz lz;generalize wrL Z=K at io;generalize wrL (aG cs p (Z.getD q []))=Y at iz iw lw;refine Ou.set (x:=(j1,.int q)) (by simp[-dO,lz,P.f71,dH,q1]) ?_;refine Ou.set (x:=(j2,.int j)) (by simp[-aH,-dO,iz,lw,P.f71,dH,q2]) ?_;refine Ou.set (x:=(0,rwL (bt cs j (Z.getD q [])))) (by simp[-aH,iz,iw]) ?_;by_cases h3:v3=1
  .refine Ou.iffT (j:=99) (by simp[P.f71,dH,q3,D.eq,h3]) ?_;refine Ou.ret (x:=(2,wiD (.stand q (Z.getD q [])))) ?_ ⟨.stand q (Z.getD q []),rfl,hq,wn⟩;generalize Z.getD q []=O at io;simp[-aH,io,wiD,rwL,aL,ba]
  .refine Ou.iffN (j:=99) (by simp[P.f71,dH,q3,D.eq,h3]) ?_;have fin:∀a:Fr,a=[o0 T,o0 K,o0 (.int cs.length),o0 (.int c),o0 (.int q),o0 (.int j),o0 (rwL (bt cs j (Z.getD q [])))]->Ou G (run G (n+1)) [] a [.iff (.op .eq [(.var 6),(.op .lst [])]) [.ret (.op .tup [(.cst (.str "bare")),(.var 4),(.var 5)])] [],.ret (.op .tup [(.cst (.str "see")),(.var 4),(.var 5),(.op .ix [(.var 6),(.op .neg [(.cst (.int (1)))])])])] (λ_=>False) (λd=>∃w,d=wiD w/\gE cs p Z.length w):=by
    intro a ea;subst ea;generalize bt cs j (Z.getD q [])=r;have p1:=l9 r;have er:(rwL r).eq (.lst [])=decide (r=[]):=k9 r [];rcases Gk r with e | ⟨A,y,e⟩
    .subst e;generalize rwL []=RR at p1 er;refine Ou.iffT (j:=99) (by simp[p1,er]) ?_;exact Ou.ret (x:=(99,wiD (.bare q j))) (by simp[wiD]) ⟨.bare q j,rfl,hq,hj⟩
    .rw[Gm] at e;subst e;have il:=oS (r:=A) (x:=y);have e9:decide (A++[y]=[])=false:=by simp
     rw[e9] at er;generalize rwL (A++[y])=RR at p1 er il;refine Ou.iffN (j:=99) (by simp[p1,er]) ?_;exact Ou.ret (x:=(99,wiD (.see q j y))) (by simp[-aH,il,wiD]) ⟨.see q j y,rfl,hq,hj⟩
   by_cases h0:cs.length=0
   .refine Ou.iffN (j:=99) (by simp[h0]) ?_;exact fin _ (by simp)
   .have h0':0<cs.length:=by omega
    by_cases h4:v4=1
    .obtain⟨v5,j5,q5,a5,b5⟩:=eY P n 0 99 0 c 5 cs.length (by omega) (by decide);obtain⟨g,rfl⟩:∃g:Nat,v5=(g:Int):=⟨v5.toNat,by omega⟩
     refine Ou.iffT (j:=99) (by simp[P.f71,dH,q4,D.eq,h4,h0']) ?_;exact Ou.ret (x:=(99,wiD (.see q j g))) (by simp[P.f71,dH,q5,wiD]) ⟨.see q j g,rfl,hq,hj⟩
    .refine Ou.iffN (j:=99) (by simp[P.f71,dH,q4,D.eq,h4,h0']) ?_;exact fin _ (by simp)
 obtain⟨jj,d,e,w,rfl,h⟩:=Ou.rv (vs:=[(k,aZ p cs Z),(k1,wrL Z),(k2,.int cs.length),(k3,.int c)]) P.f161 key;exact⟨jj,w,e,h⟩
end Ip
end
section
namespace Ip
open PySem (Str)
noncomputable def bB (p:Nat)(cs:ab)(Z:ac):D:=.tup [cJ p cs Z,wrL Z]
def uM (R:ac):(bQ R).flat=true:=by
 show D.flats (R.map rowD)=true;rw[mD,List.all_map,List.all_eq_true];exact λr _=>n8 r
def su (p:Nat)(cs:ab)(Z:ac):(cJ p cs Z).flat=true:=by
 show D.flats (Z.map λO=>bQ (aG cs p O))=true;rw[mD,List.all_map,List.all_eq_true];exact λO _=>uM _
theorem Ed (R:ac):∀k,(bQ R).fb k=true
 | 0=>uM R
 | k+1=>by simp[bQ,sd]
theorem DW (p:Nat)(cs:ab)(Z:ac):∀k,(cJ p cs Z).fb k=true
 | 0=>su p cs Z
 | k+1=>by simp[cJ,Ed]
def uG (p:Nat)(cs:ab)(Z:ac)(k:Nat):(bB p cs Z).fb (k+3)=true:=by
 have h1:=DW p cs Z (k+2);have h2:=rF k Z;simp[bB,h1,h2]
def xU (k:Nat)(x:Nat×Bool×Nat):(dD x).fb k=true:=oE k (by simp)
def Db {Z:ac}(h:Z≠[]):aL (Z.map λO=>((1:Nat),rwL O))=1:=by
 cases Z with
 | nil=>exact absurd rfl h
 | cons O Z=>simp[aL,ba,rwL]
def xO:(D.str "see").eq (.str "see")=true:=by decide +kernel
def AO (w:Wi):(wiD w).eq (wiD w)=true:=by
 obtain⟨e1,_,_,e4,_⟩:=jB;have e6:=xO;cases w with
 | stand q O=>
  have:=k9 O O;simp only[decide_true] at this;show D.eqs [.str "stand",.int q,rwL O] [.str "stand",.int q,rwL O]=true;simp only[D.eqs,e1,this,D.eq]; simp
 | bare q j=>
  show D.eqs [.str "bare",.int q,.int j] [.str "bare",.int q,.int j]=true;simp only[D.eqs,e4]; simp[D.eq]
 | see q j g=>
  show D.eqs [.str "see",.int q,.int j,.int g] [.str "see",.int q,.int j,.int g]=true;simp only[D.eqs,e6]; simp[D.eq]
theorem vJ:∀ws:List Wi,D.eqs (ws.map wiD) (ws.map wiD)=true
 | []=>rfl
 | w::ws=>by rw[Fk,D.eqs,AO,vJ ws]; rfl
def yP (w:Wi):(wiD w).pur 59=true:=by
 have h1:((Str.ofString "stand").cps.all (·<1114112))=true/\((Str.ofString "bare").cps.all (·<1114112))=true/\((Str.ofString "see").cps.all (·<1114112))=true:=by decide +kernel
 cases w <;> simp only[wiD,D.pur,List.all_cons,List.all_nil,h1,Cz,rwL,natL] <;> simp
def yh (ws:List Wi):(ws.map wiD).all (D.pur 59)=true:=by
 rw[List.all_map,List.all_eq_true];exact λw _=>yP w
noncomputable abbrev cO (N K W:D)(p m l:Nat)(x5 s o e x10 x11 x12 x13 x14 x15 x16 x17 x18:ax):Fr:=[o0 N,o0 (.int p),o0 (.int m),o0 (.int l),o0 K,x5,o0 W,s,o,e,x10,x11,x12,x13,x14,x15,x16,x17,x18]
section
variable {G:Pg}(P:Pe G)
include P
def pD:cu G 17 2=some (18,ki,.ins 17 []):=by
 simp[cu,P.d.v.a.c17,P.d.v.a.f18,ki]
def sk (n:Nat){p:Nat}{cs:ab}{Z:ac}(C:Cv p cs)(hl:1<=Z.length/\Z.length<=3){a:Sl}(h7:a[7]? = some (some (aZ p cs Z)))(h8:a[8]? = some (some (wrL Z))) :
  eval G (run G (n+1)) a (.op .tup [(.call 140 [(.var 7)]),(.comp [none,none] (.one 1) .seq [(.var 8)] [] (.op .list [(.var 1)]))])=.ok (3,bB p cs Z):=by
 obtain⟨j,q⟩:=sH P n 0 p cs Z C hl.2;have hS:Z.length<=SL:=bv hl.2 (by decide);have cc:aO (compF G (run G (n+1)) [none,none] (.one 1) [] (.op .list [(.var 1)])) (Z.map rwL)=.ok (Z.map λO=>((1:Nat),rwL O)):=eU λr _=>by simp[compF,rwL]
 have jk:=Db (Z:=Z) (λe=>by rw[e] at hl; simp at hl);have ef:(Z.map λO=>((1:Nat),rwL O)).map (λx=>x.2)=Z.map rwL:=by simp
 have fl:=su p cs Z;have j2:aL [((j:Nat),cJ p cs Z),(2,wrL Z)]=2:=by rw[kY fl]; simp[aL,ba,wrL]
 have sq:(wrL Z).seq=some (Z.map rwL):=rfl;have el:D.lst (Z.map rwL)=wrL Z:=rfl;unfold bB;generalize aZ p cs Z=T at h7 q;generalize cJ p cs Z=F at q j2;generalize (Z.map λO=>((1:Nat),rwL O))=ZZ at cc jk ef;generalize hR:Z.map rwL=RR at cc ef sq el;have hS':RR.length<=SL:=by rw[<-hR,Fj]; exact hS
 generalize wrL Z=K at h8 j2 sq el;simp[-D.seq,h7,h8,P.f140,my,q,sq,hS',cc,jk,ef,el,j2]
end
section
variable {G:Pg}(P:Pe G)
include P
def nE (n k k':Nat)(ns:aj)(j:Int)(hj:0<=j):∃d c,run G (n+1) 135 [(k,.lst (ns.map .int)),(k',.int j)]=.ret d (.int c) []:=by
 obtain⟨u,rfl⟩:∃u:Nat,j=(u:Int):=⟨j.toNat,by omega⟩
 obtain⟨d,q⟩:=Aa P n k k' ns u;exact⟨d,_,q⟩
def zP (n:Nat)(N W:D)(p m l:Nat)(cs:ab)(Z:ac)(Zs:List ac)(c:Int)(x5 x11:ax)(C:Cv p cs)(s:Sg cs Z)(hl:1<=Z.length/\Z.length<=3)(hz:Zs.length<=100)(I:Fr->Prop){V:D->Prop}
  (h:∀Z' x11,Sg cs Z'->Z'.length=Z.length->I (cO N (cvsD cs) W p m l x5 (some (3,aZ p cs Z')) (some (2,wrL Z')) (some (1,.lst ((Zs++[Z']).map (bB p cs)))) (o0 (.int c)) x11 none none none none none none none)) :
  Ou G (run G (n+9)) [] (cO N (cvsD cs) W p m l x5 (some (3,aZ p cs Z)) (some (2,wrL Z)) (some (1,.lst (Zs.map (bB p cs)))) (o0 (.int c)) x11 none none none none none none none)
   [.set 11 (.call 145 [(.var 7),(.var 4),(.var 10),(.cst (.int (2)))]),.byref 88 7 [(.var 4),(.var 11)],.byref 160 8 [(.var 11)],.mut 9 [] .append [(.op .tup [(.call 140 [(.var 7)]),(.comp [none,none] (.one 1) .seq [(.var 8)] [] (.op .list [(.var 1)]))])]] I V:=by
 have h101:101<=SL:=by decide
 obtain⟨j,ds,q,hj,ok⟩:=CT P (n+5) 0 0 0 99 p cs Z c C s hl;have hb:(D.lst (ds.map dD)).fb j=true:=by
  obtain⟨u,rfl⟩:∃u,j=u+1:=⟨j - 1,by omega⟩
  simp[xU]
 refine Ou.setK (x:=(j,.lst (ds.map dD))) (by simp[P.f145,lh,q]) hb ?_;obtain⟨s',l',_⟩:=nz (pre:=ds) (rest:=[]) (by simpa using ok.ok) (by simpa using ok.un) s;refine Ou.byref (k:=3) (k2:=3) (d:=aZ p cs Z) (d':=aZ p cs (ds.foldl dm Z)) (F:=mZ) (vs:=[(0,cvsD cs),(0,.lst (ds.map dD))]) (by simp[dk,P.f88,mZ]) (by simp) rfl rfl (λi hi=>EO P (n+7) i 0 0 p cs Z ds C s hi ok) (λz hz=>t8 hz) ?_;refine Ou.byref (k:=2) (k2:=2) (d:=wrL Z) (d':=wrL (ds.foldl dm Z)) (F:=nJ) (vs:=[(0,.lst (ds.map dD))]) (by simp[dk,P.f160,nJ]) (by simp) rfl rfl (λi hi=>yH P (n+8) i 0 cs Z ds s C.m6 hi ok) (λz hz=>EB hz) ?_;refine Ou.appK (k:=0) (xs:=Zs.map (bB p cs)) (v:=(3,bB p cs (ds.foldl dm Z))) rfl (sk P (n+8) C (by omega) rfl rfl) (uG p cs _ 0) (by simp; omega) ?_;refine Ou.nil ?_;have:=h (ds.foldl dm Z) (some (j,.lst (ds.map dD))) s' l';rw[GD] at this;exact this
def Be (n:Nat)(N W T O:D)(p m l:Nat)(cs:ab)(Zs:List ac)(ws:List Wi)(c:Int)(x5 x11 x13 x14:ax)(C:Cv p cs)(hm:cs.length=m)(hz:1<=Zs.length/\Zs.length<=100)(hZ:∀Y∈Zs,Sg cs Y/\Y.length=l)(hl:1<=l/\l<=3)(hw:ws.length<=100)(I:Fr->Prop){V:D->Prop}
  (h:∀w x13 x14,gE cs p l w->I (cO N (cvsD cs) W p m l x5 (o0 T) (o0 O) (o0 (.lst (Zs.map (bB p cs)))) (o0 (.int c)) x11 (some (1,.lst ((ws++[w]).map wiD))) x13 x14 none none none none)) :
  Ou G (run G (n+9)) [] (cO N (cvsD cs) W p m l x5 (o0 T) (o0 O) (o0 (.lst (Zs.map (bB p cs)))) (o0 (.int c)) x11 (some (1,.lst (ws.map wiD))) x13 x14 none none none none)
   [.set 13 (.op .mul [(.call 71 [(.var 10),(.cst (.int (6))),(.cst (.int (3)))]),(.call 71 [(.var 10),(.cst (.int (7))),(.op .min2 [(.cst (.int (4))),(.op .len [(.var 9)])])])]),.set 14 (.op .ix [(.var 9),(.op .sub [(.op .sub [(.op .len [(.var 9)]),(.cst (.int (1)))]),(.op .mod [(.op .fdiv [(.var 13),(.cst (.int (2)))]),(.op .len [(.var 9)])])])]),.mut 12 [] .append [(.call 161 [(.call 141 [(.op .ix [(.var 14),(.cst (.int (0)))])]),(.op .ix [(.var 14),(.cst (.int (1)))]),(.var 2),(.var 10)])]] I V:=by
 have h101:101<=SL:=by decide
 have hL':0<Zs.length:=hz.1;obtain⟨v6,j6,q6,a6,b6⟩:=eY P (n+8) 0 99 99 c 6 3 (by decide) (by decide);obtain⟨v7,j7,q7,a7,b7⟩:=eY P (n+8) 0 99 99 c 7 (if (Zs.length:Int)<4 then Zs.length else 4) (by split <;> omega) (by decide);have i6:ci v6=true:=dA.mpr (by omega);have ln:dO (λxs=>some (99,D.int xs.length)) (.lst (Zs.map (bB p cs)))=some (99,.int Zs.length):=by simp
 have hL:(0:Int)<Zs.length:=by omega
 obtain⟨u,hu⟩:∃u:Nat,(Zs.length:Int) - 1 - v6 * v7 / 2 % Zs.length=(u:Int)/\u<Zs.length:=by
  have h1:=Int.emod_nonneg (v6 * v7 / 2) (show (Zs.length:Int)≠0 by omega);have h2:=Int.emod_lt_of_pos (v6 * v7 / 2) hL;exact⟨((Zs.length:Int) - 1 - v6 * v7 / 2 % Zs.length).toNat,by omega,by omega⟩
 obtain⟨sY,lY⟩:=hZ Zs[u] (FO hu.2);have ix:aH (.lst (Zs.map (bB p cs))) (.int u)=o0 (bB p cs Zs[u]):=by
  have h':(u:Int)<Zs.length:=by omega
  simp[aH,en,h',hu.2]
 have m0:aH (bB p cs Zs[u]) (.int 0)=o0 (cJ p cs Zs[u]):=rfl;have m1:aH (bB p cs Zs[u]) (.int 1)=o0 (wrL Zs[u]):=rfl;generalize Zs[u]=Y at sY lY ix m0 m1;obtain⟨jt,qt⟩:=xi P (n+8) 0 p cs Y C (by omega);obtain⟨jw,w,qw,ow⟩:=zw P (n+7) jt 0 0 0 p cs Y c C sY (by omega);rw[lY] at ow;rw[hm] at qw;have:=h w;generalize D.lst (Zs.map (bB p cs))=M at ln ix this;generalize bB p cs Y=X at ix m0 m1;refine Ou.set (x:=(99,.int (v6 * v7))) (by simp[cO,-dO,ln,P.f71,dH,q6,q7,i6]) ?_;refine Ou.set (x:=(0,X)) (by simp[cO,frz,frz1,-dO,-aH,ln,hL',hu.1,ix]) ?_;refine Ou.append (k:=0) (xs:=ws.map wiD) (v:=(jw,wiD w)) (by simp[frz,frz1]) (by simp[-aH,frz,frz1,m0,m1,P.f141,mX,qt,P.f161,nL,qw]) (by simp; omega) ?_;have t2:=this (o0 (.int (v6 * v7))) (o0 X) ow;rw[GD] at t2;have e:∀a:Fr,a=cO N (cvsD cs) W p m l x5 (o0 T) (o0 O) (o0 M) (o0 (.int c)) x11 (some (1,.lst (ws.map wiD++[w].map wiD))) (o0 (.int (v6 * v7))) (o0 X) none none none none->I a:=λa ea=>ea ▸ t2;exact Ou.nil (e _ (by simp[cO,frz,frz1]))
end
section
variable {G:Pg}(P:Pe G)
include P
def Ck (n:Nat)(N K M:D)(p m l:Nat)(cs:ab)(Z:ac)(ws:List Wi)(x10 x11 x12 x13 x14 x16 x17 x18:ax)(C:Cv p cs)(s:Sg cs Z)(hw:ws.length<=1000)(ok:∀w∈ws,gE cs p Z.length w)(I:Fr->Prop){V:D->Prop}
  (h:∀x16 x17 x18,I (cO N K (wd p cs) p m l (o0 (.lst (ws.map wiD))) (o0 (aZ p cs Z)) (o0 (wrL Z)) (o0 M) x10 x11 x12 x13 x14 (o0 (cJ p cs Z)) x16 x17 x18)) :
  Ou G (run G (n+9)) [] (cO N K (wd p cs) p m l (o0 (.lst (ws.map wiD))) (o0 (aZ p cs Z)) (o0 (wrL Z)) (o0 M) x10 x11 x12 x13 x14 (o0 (cJ p cs Z)) x16 x17 x18)
   [.set 16 (.op .list [(.var 5)]),.set 17 (.call 68 [(.var 6),(.var 15),(.var 16)]),.set 18 (.op .all [(.comp [none,none,(some 8),(some 7)] (.one 1) .seq [(.var 5)] [] (.call 162 [(.var 3),(.var 2),(.var 1)]))]),.iff (.or (.op .not [(.op (.isi [.bool]) [(.var 17)])]) (.or (.op .ne [(.var 17),(.var 18)]) (.op .ne [(.var 16),(.var 5)]))) [.ret (.cst (.bl false))] []] I V:=by
 have hS:ws.length<=SL:=bv hw (by decide);obtain⟨j,q⟩:=D8 P n 0 0 0 p cs Z ws C s hw ok;obtain⟨ys,cc,ey⟩:∃ys:au,aO (compF G (run G (n+9)) [none,none,some (wrL Z),some (aZ p cs Z)] (.one 1) [] (.call 162 [(.var 3),(.var 2),(.var 1)])) (ws.map wiD)=.ok ys/\ys.map (λx=>x.2)=ws.map λw=>D.bl (dc cs p Z w):=kR λw hw=>by
  obtain⟨i,e⟩:=xu P (n+7) 0 0 0 p cs Z w C s (ok w hw);exact⟨i,by simp[compF,P.f162,qU,e]⟩
 have an:=oZ (dc cs p Z) ws;have pw:=yh ws;have ew:=vJ ws;generalize ws.all (dc cs p Z)=B at q an;generalize aZ p cs Z=T at cc h;generalize wrL Z=O at cc h;generalize cJ p cs Z=F at q h;generalize wd p cs=W at q h;have hS':(ws.map wiD).length<=SL:=by simpa using hS
 generalize ws.map wiD=L at q cc pw ew h hS';refine Ou.set (x:=(1,.lst L)) (by simp) ?_;refine Ou.set (x:=(j,.bl B)) (by simp[frz,frz1,P.f68,nD,q]) ?_;refine Ou.set (x:=(99,.bl B)) (by simp[frz,frz1,cc,hS',ey,an]) ?_;refine Ou.iffN (j:=99) (by simp[-List.all_eq_true,frz,frz1,D.eq,pw,ew]) ?_;have e:∀a:Fr,a=cO N K W p m l (o0 (.lst L)) (o0 T) (o0 O) (o0 M) x10 x11 x12 x13 x14 (o0 F) (o0 (.lst L)) (o0 (.bl B)) (o0 (.bl B))->I a:=λa ea=>ea ▸ h _ _ _;exact Ou.nil (e _ (by simp[cO,frz,frz1]))
end
def tx {α:Type}(xs:List α)(lo hi:Option Int):(cutD xs lo hi).length<=xs.length:=by
 unfold cutD;rw[Gg,Hm];omega
noncomputable def fg (ws:List Wi):List (List Wi):=[ws,[],ws.take 1]++ws.map λw=>[w]
def zN {G:Pg}{cl:Nat->au->Run}{a:Sl}{ws:List Wi}(h:a[12]? = some (some (.lst (ws.map wiD))))(hw:ws.length<=100):eval G cl a (.op .add [(.op .lst [(.var 12),(.op .lst []),(.op .slH [(.var 12),(.cst (.int (1)))])]),(.comp [none,none] (.one 1) .seq [(.var 12)] [] (.op .lst [(.var 1)]))])=.ok (1,.lst ((fg ws).map λl=>.lst (l.map wiD))):=by
 have h101:200<=SL:=by decide
 have c1:=zf (ws.map wiD) 1;simp only[Int.natCast_one] at c1;have hS:ws.length<=SL:=by omega
 have cc:aO (compF G cl [none,none] (.one 1) [] (.op .lst [(.var 1)])) (ws.map wiD)=.ok (ws.map λw=>(aL [((0:Nat),wiD w)]+1,.lst [wiD w])):=eU λw _=>by simp[compF]
 have hS2:ws.length+3<=SL:=by omega
 have hS3:3+ws.length<=SL:=by omega
 simp[h,c1,cc,hS,fg,Function.comp_def,hS2,hS3]
section
variable {G:Pg}(P:Pe G)
include P
def wM (n k:Nat)(ns:aj)(hl:ns.length<=63):∃kk,run G (n+10) 69 [(k,.lst (ns.map .int))]=.ret kk (.bl true) []:=by
 obtain⟨d0,c0,q0⟩:=nE P (n+8) 0 99 ns 0 (by decide);obtain⟨d1,c1,q1⟩:=nE P (n+8) 0 99 ns 1 (by decide);obtain⟨d2,c2,q2⟩:=nE P (n+8) 0 99 ns 2 (by decide);obtain⟨d3,c3,q3⟩:=nE P (n+8) 0 99 ns 3 (by decide);obtain⟨v0,e0,m0,a0,b0⟩:=eY P (n+8) d0 99 99 c0 1 6 (by decide) (by decide);obtain⟨v1,e1,m1,a1,b1⟩:=eY P (n+8) d1 99 99 c1 1 7 (by decide) (by decide);obtain⟨v2,e2,m2,a2,b2⟩:=eY P (n+8) d2 99 99 c2 1 3 (by decide) (by decide);obtain⟨p,hp⟩:∃p:Nat,1+v0=(p:Int):=⟨(1+v0).toNat,by omega⟩
 obtain⟨m,rfl⟩:∃m:Nat,v1=(m:Int):=⟨v1.toNat,by omega⟩
 obtain⟨l,hl'⟩:∃l:Nat,1+v2=(l:Int):=⟨(1+v2).toNat,by omega⟩
 have hp6:1<=p/\p<=6:=by omega
 have hm6:m<=6:=by omega
 have hl3:1<=l/\l<=3:=by omega
 obtain⟨jc,cs,qc,hm,ok⟩:=yO P (n+7) d3 0 0 c3 p m hp6 hm6;have C:=AL hp6 (by omega) ok;have hCS:cs.length<=SL:=bv (by omega) (show 6<=SL by decide);have hlS:l<=SL:=bv hl3.2 (by decide);have h101:101<=SL:=by decide
 have hcv:cvsD cs=.lst (cs.map λc=>D.lst (c.map .int)):=rfl;have c5:aO (compF G (run G (n+9)) [none,none] (.one 1) [] (.op .list [.var 1])) (cs.map λc=>D.lst (c.map .int))=.ok (cs.map λc=>(1,.lst (c.map .int))):=
  eU λc _=>by simp[compF]
 have qw:∀k,run G (n+9) 18 [(1,.ins 17 []),(0,.int p),(k,cvsD cs)]=.ret 99 .non [(100,wd p cs)]:=λk=>Ej P.d.v.a (n+5) 0 k p cs (by omega) (by omega) (λc hc=>(ok c hc).gd) λc hc=>bv (ok c hc).ln (by decide);obtain⟨jb,qb,hb⟩:=Fc P (n+8) 0 0 p l cs hp6 hl3;have c8:aO (compF G (run G (n+9)) [none,none] (.one 1) [] (.op .lst [])) ((List.range l).map λ(n:Nat)=>.int n)=.ok (List.replicate l (99,.lst [])):=by
  have:=eU (e:=λ(n:Nat)=>D.int n) (f:=compF G (run G (n+9)) [none,none] (.one 1) [] (.op .lst [])) (g:=λ_=>((99:Nat),D.lst [])) (xs:=List.range l) (λi _=>by simp[compF]);rw[this];congr 1
  exact F4.mpr ⟨by simp,by simp⟩
 have j8:aL (List.replicate l ((99:Nat),D.lst []))=99:=by
  obtain⟨u,rfl⟩:∃u,l=u+1:=⟨l - 1,by omega⟩
  simp[aL,ba,List.replicate_succ]
 have w8:wrL (List.replicate l [])=.lst (List.replicate l (.lst [])):=by simp[wrL,rwL,natL]
 have sZ:Sg cs (List.replicate l []):=⟨by simp,by simp⟩
 have lZ:(List.replicate l ([]:ai)).length=l:=by simp
 have ct:∀a b:Int,sl2D a (.lst (ns.map .int)) (.int b)=.ok (1,.lst ((cutD ns (some a) (some b)).map .int)):=λa b=>by simp[sl2D,CP]
 have cl1:=tx ns (some 8) (some 28);have cl2:=tx ns (some 30) (some 42);generalize List.replicate l ([]:ai)=Z at qb w8 sZ lZ;refine Ou.rq P.f69 ?_;show Ou _ _ _ [o0 (.lst (ns.map .int)),none,none,none,none,none,none,none,none,none,none,none,none,none,none,none,none,none,none] _ _ _;refine Ou.set (x:=(99,.int p)) (by simp[P.f135,iH,q0,P.f71,dH,m0,hp]) ?_;refine Ou.set (x:=(e1,.int m)) (by simp[frz,frz1,P.f135,iH,q1,P.f71,dH,m1]) ?_;refine Ou.set (x:=(99,.int l)) (by simp[frz,frz1,P.f135,iH,q2,P.f71,dH,m2,hl']) ?_;refine Ou.set (x:=(jc,cvsD cs)) (by simp[frz,frz1,P.f135,iH,q3,P.f99,mF,qc]) ?_;refine Ou.low (a':=[o0 (.lst (ns.map .int)),o0 (.int p),o0 (.int m),o0 (.int l),o0 (cvsD cs),none,none,none,none,none,none,none,none,none,none,none,none,none,none]) (.of_eq (by simp[frz,frz1])) ?_;refine Ou.setE (d:=wd p cs) (by simp[frz,frz1,hcv,hCS,c5,pD P,ki,Function.comp_def]; rw[<-hcv]; simp[qw]) ?_;refine Ou.low (a':=cO (.lst (ns.map .int)) (cvsD cs) (wd p cs) p m l none none none none none none none none none none none none none) (.of_eq (by simp[cO,frz,frz1])) ?_;refine Ou.setD (j:=3) (x:=(jb,aZ p cs Z)) (by simp[frz,frz1,P.f142,mY,qb]) hb ?_;refine Ou.setD (j:=2) (x:=(100,wrL Z)) (by simp[frz,frz1,wk_rng1 hlS,hlS,c8,j8,w8]) (show 2<=100 by decide) ?_;have mk:∀a:Fr,a=cO (.lst (ns.map .int)) (cvsD cs) (wd p cs) p m l none (some (3,aZ p cs Z)) (some (2,wrL Z)) none none none none none none none none none none->Ou G (run G (n+9)) [] a (nR.body.drop 7) (λ_=>False) (λd=>d=.bl true):=by
  intro a ea;subst ea;have w9:9<=SL:=by decide
  generalize D.lst (ns.map .int)=N at ct;generalize hW:wd p cs=W;have jm:aL [((3:Nat),bB p cs Z)]=3:=by simp[aL,ba,bB,wrL]
  have fm:=uG p cs Z 0;refine Ou.setK (x:=(4,.lst [bB p cs Z])) (by rw[df,bP,cj,sk P (n+8) C (by omega) rfl rfl]; simp only[R.bind,vt,jm]; rfl) (by simp only[D.fb,List.all_cons,List.all_nil,fm]; rfl) ?_;refine Ou.low (a':=cO N (cvsD cs) W p m l none (some (3,aZ p cs Z)) (some (2,wrL Z)) (some (1,.lst ([Z].map (bB p cs)))) none none none none none none none none none) (.cons (.refl _) (.cons (.refl _) (.cons (.refl _) (.cons (.refl _) (.cons (.refl _) (.cons (.refl _) (.cons (.refl _) (.cons (.refl _) (.cons (.refl _) (.cons ⟨rfl,Nat.succ_le_succ (FS _)⟩ (.refl _))))))))))) ?_;refine Ou.each D.int (cutD ns (some 8) (some 28)) (λpre a=>∃(x10 x11:ax) (Z:ac) (Zs:List ac),a=cO N (cvsD cs) W p m l none (some (3,aZ p cs Z)) (some (2,wrL Z)) (some (1,.lst (Zs.map (bB p cs)))) x10 x11 none none none none none none none/\Sg cs Z/\Z.length=l/\(∀Y∈Zs,Sg cs Y/\Y.length=l)/\1<=Zs.length/\Zs.length<=pre.length+1) (vs:=[(1,.lst ((cutD ns (some 8) (some 28)).map .int))]) (by simp[cO,ct,-sl2D]) (by simp) (by omega) ⟨none,none,Z,[Z],by simp[cO,frz,frz1],sZ,lZ,λY hY=>(by rw[Fi.mp hY]; exact⟨sZ,lZ⟩),by simp,by simp⟩ ?_ ?_
  .rintro pre c suf a hc ⟨x10,x11,Z,Zs,ea,sZ,lZ,hY,h1,h2⟩;subst ea;have hpl:pre.length+(suf.length+1)=(cutD ns (some 8) (some 28)).length:=by rw[hc]; simp
   refine⟨_,fP rfl,?_⟩;refine zP P n N W p m l cs Z Zs c none x11 C sZ (by omega) (by omega) _ λZ' x11 s' l'=>⟨o0 (.int c),x11,Z',Zs++[Z'],rfl,s',by omega,λY hm=>?_,by simp,by simp; omega⟩
   rcases dg hm with h | h
   .exact hY Y h
   .rw[Fi.mp h]; exact⟨s',by omega⟩
  .rintro a ⟨x10,x11,Z,Zs,ea,sZ,lZ,hY,h1,h2⟩;subst ea;refine Ou.setK (x:=(99,.lst [])) (by simp) (by simp) ?_;refine Ou.low (a':=cO N (cvsD cs) W p m l none (o0 (aZ p cs Z)) (o0 (wrL Z)) (o0 (.lst (Zs.map (bB p cs)))) x10 x11 (some (1,.lst (([]:List Wi).map wiD))) none none none none none none) (.cons (.refl _) (.cons (.refl _) (.cons (.refl _) (.cons (.refl _) (.cons (.refl _) (.cons (.refl _) (.cons (.refl _) (.cons ⟨rfl,FS _⟩ (.cons ⟨rfl,FS _⟩ (.cons ⟨rfl,FS _⟩ (.cons (.refl _) (.cons (.refl _) (.cons ⟨rfl,Nat.succ_le_succ (FS _)⟩ (.refl _)))))))))))))) ?_;refine Ou.each D.int (cutD ns (some 30) (some 42)) (λpre a=>∃(x10 x13 x14:ax) (ws:List Wi),a=cO N (cvsD cs) W p m l none (o0 (aZ p cs Z)) (o0 (wrL Z)) (o0 (.lst (Zs.map (bB p cs)))) x10 x11 (some (1,.lst (ws.map wiD))) x13 x14 none none none none/\(∀w∈ws,gE cs p l w)/\ws.length<=pre.length) (vs:=[(1,.lst ((cutD ns (some 30) (some 42)).map .int))]) (by simp[cO,ct,-sl2D]) (by simp) (by omega) ⟨x10,none,none,[],by simp[cO,frz,frz1],λ_ h=>(nomatch h),by simp⟩ ?_ ?_
   .rintro pre c suf a hc ⟨x10,x13,x14,ws,ea,hw,hwl⟩;subst ea;have hpl:pre.length+(suf.length+1)=(cutD ns (some 30) (some 42)).length:=by rw[hc]; simp
    refine⟨_,fP rfl,?_⟩;refine Be P n N W _ _ p m l cs Zs ws c none x11 x13 x14 C hm ⟨h1,by omega⟩ hY hl3 (by omega) _ λw x13 x14 ow=>⟨o0 (.int c),x13,x14,ws++[w],rfl,λv hv=>?_,by simp; omega⟩
    rcases dg hv with h | h
    .exact hw v h
    .rw[Fi.mp h]; exact ow
   .rintro a ⟨x10,x13,x14,ws,ea,hw,hwl⟩;subst ea;obtain⟨jf,qf⟩:=sH P (n+8) 0 p cs Z C (by omega);refine Ou.set (x:=(jf,cJ p cs Z)) (by simp[cO,P.f140,my,qf]) ?_;refine Ou.low (a':=cO N (cvsD cs) W p m l none (o0 (aZ p cs Z)) (o0 (wrL Z)) (o0 (.lst (Zs.map (bB p cs)))) x10 x11 (some (1,.lst (ws.map wiD))) x13 x14 (o0 (cJ p cs Z)) none none none) (.of_eq (by simp[cO,frz,frz1])) ?_;have hl0:(fg ws).length<=SL:=by simp[fg]; omega
    have okl:∀v∈fg ws,v.length<=1000/\∀w∈v,gE cs p Z.length w:=by
     intro v hv;rw[lZ];rcases dg hv with h | h
     .simp at h;rcases h with rfl | rfl | rfl
      .exact⟨by omega,hw⟩
      .exact⟨by simp,λ_ h=>(nomatch h)⟩
      .exact⟨by simp; omega,λw h=>hw w (List.mem_of_mem_take h)⟩
     .obtain⟨w,h1,rfl⟩:=eT h;exact⟨by simp,λv hv=>by rw[Fi.mp hv]; exact hw w h1⟩
    subst hW;refine Ou.each (λl=>.lst (l.map wiD)) (fg ws) (λpre a=>∃(x5 x16 x17 x18:ax),a=cO N (cvsD cs) (wd p cs) p m l x5 (o0 (aZ p cs Z)) (o0 (wrL Z)) (o0 (.lst (Zs.map (bB p cs)))) x10 x11 (o0 (.lst (ws.map wiD))) x13 x14 (o0 (cJ p cs Z)) x16 x17 x18) (vs:=[(1,.lst ((fg ws).map λl=>.lst (l.map wiD)))]) (by rw[bP,cj,zN rfl (by omega)]) (by simp) hl0 ⟨none,none,none,none,by simp[cO,frz,frz1]⟩ ?_ ?_
    .rintro pre v suf a hv ⟨x5,x16,x17,x18,ea⟩;subst ea;obtain⟨o1,o2⟩:=okl v (by rw[hv]; simp);refine⟨_,fP rfl,?_⟩;exact Ck P n N (cvsD cs) _ p m l cs Z v x10 x11 _ x13 x14 x16 x17 x18 C sZ o1 o2 _ λx16 x17 x18=>⟨_,x16,x17,x18,rfl⟩
    .rintro a ⟨x5,x16,x17,x18,ea⟩;subst ea;exact Ou.ret (x:=(99,.bl true)) rfl rfl
 exact mk _ (by simp[cO,frz,frz1])
end
def yp:Pe G_k41:=⟨⟨⟨⟨rfl,rfl,rfl,rfl,rfl,rfl,rfl,rfl,rfl,rfl⟩,rfl,rfl,rfl⟩,rfl,rfl⟩,rfl,rfl,rfl,rfl,rfl,rfl,rfl,rfl,rfl,rfl,rfl,rfl,rfl,rfl,rfl,rfl,rfl,rfl,rfl,rfl,rfl,rfl⟩
def zO (ns:aj)(hl:ns.length<=63):∃kk,run G_k41 10 69 [(0,.lst (ns.map .int))]=.ret kk (.bl true) []:=wM yp 0 0 ns hl
end Ip
end
section
namespace Ek41
open PySem PySem.Spec PyProof.Rows L2
noncomputable abbrev Pw:=PySem.Challenge.pw_quickchange_k41_wishes_seen
noncomputable def sT (n:Nat):Stmt:=Pw.main.body.getD n (.Pass ⟨0,0,0,0⟩)
noncomputable def lS:Stmt:=sT 47
noncomputable def rT:Hd.Fd:=⟨"law", "law",69,339,lS,none⟩
def EH:FnScope (Ip.fS (aR lS) (cH lS)) ["_law_script"] (cH lS):=(Hd.t9 (by kernel_rfl))
theorem C8:Ip.cF Ip.T_k41 [] lS=some Ip.nR:=by kernel_rfl
end Ek41
end
section
namespace Ek41
open PySem PySem.Spec PySem.W PySem.Calls PyProof.Rows L2 Hd
set_option maxHeartbeats 0
noncomputable def B:Tl:=⟨[⟨"is_whole", "is_whole",0,28,sT 3,none⟩,⟨"is_below", "is_below",1,35,sT 4,none⟩,⟨"is_rising", "is_rising",15,117,sT 14,none⟩,⟨"are_places", "are_places",16,122,sT 15,none⟩,⟨"check_garment", "check_garment",17,129,sT 16,none⟩,⟨"bare_wearing", "bare_wearing",23,181,sT 19,none⟩,⟨"worn_in", "worn_in",24,188,sT 20,none⟩,⟨"put_on", "put_on",25,195,sT 21,none⟩,⟨"seen_in", "seen_in",29,200,sT 22,none⟩,⟨"dressed", "dressed",30,207,sT 23,none⟩,⟨"is_held", "is_held",67,214,sT 25,none⟩,⟨"is_shown", "is_shown",68,219,sT 26,none⟩,⟨"_law_draw", "_law_draw",135,226,sT 28,none⟩,⟨"_law_mix", "_law_mix",71,233,sT 29,none⟩,⟨"_law_part", "_law_part",136,240,sT 30,none⟩,⟨"_law_covers", "_law_covers",99,245,sT 31,none⟩,⟨"_law_wearer", "_law_wearer",137,250,sT 32,none⟩,⟨"_law_above", "_law_above",138,257,sT 33,none⟩,⟨"_law_do", "_law_do",139,264,sT 34,none⟩,⟨"_law_frozen", "_law_frozen",140,269,sT 35,none⟩,⟨"_law_thawed", "_law_thawed",141,274,sT 36,none⟩,⟨"_law_bare", "_law_bare",142,279,sT 37,none⟩,⟨"_law_may", "_law_may",143,286,sT 38,none⟩,⟨"_law_cross", "_law_cross",144,291,sT 39,none⟩,⟨"_law_deed", "_law_deed",116,298,sT 40,none⟩,⟨"_law_beat", "_law_beat",145,303,sT 41,none⟩,⟨"_law_done", "_law_done",88,310,sT 42,none⟩,⟨"_law_orders", "_law_orders",160,317,sT 43,none⟩,⟨"_law_wish", "_law_wish",161,324,sT 44,none⟩,⟨"_law_holds", "_law_holds",162,329,sT 45,none⟩,⟨"_law_alike", "_law_alike",163,334,sT 46,none⟩,rT],[⟨"Wardrobe",17,172,⟨"__init__", "Wardrobe.__init__",18,141,dq (sT 17) 0,none⟩⟩],[],[(172,⟨"spots", "Wardrobe.spots",19,148,dq (sT 17) 1,none⟩),(172,⟨"many", "Wardrobe.many",20,155,dq (sT 17) 2,none⟩),(172,⟨"covers", "Wardrobe.covers",21,162,dq (sT 17) 3,none⟩)],[("DEEPEST",100,196),("MOST_PLACES",6,318),("MOST_GARMENTS",6,320)],[]⟩
noncomputable def kB:ao:=pH Ip.T_k41.fl Ip.T_k41.att
def facts {w:World}{K:Frag}{mg:Str->ay}{fa:Addr}{h:Heap}(hq:B.q kB K=B.a kB Ip.G_k41)(KX:K.In h)(Gl:h.Ns mainGlobals mg)(hmg:mg "law" = some (.ref fa)) :
  ∃fd:FuncData,(∀(s:Shared) (u:Value),BindsTo s fd ⟨[u],[]⟩ [("_law_script",u)])/\∀base:Heap,K.In base->base.Ns mainGlobals mg->FnOk Pw w K mg base (ft Pw w) (rm 10) fa fd ["_law_script"] (fK K):=by
 have A:=BR hq;have g0:=z0 (T:=Ip.T_k41) Ip.clL_k41 KX Gl A (λ_=>rfl) rfl (by decide +kernel) (by decide +kernel) rfl (by decide +kernel) (by decide +kernel)
  (Cn ⟨_,rfl,λh=>Hd.b8 (ps:=["value"]) (io:=[]) h⟩ <| Cn ⟨_,rfl,λh=>Hd.b8 (ps:=["value", "bound"]) (io:=[]) h⟩ <| Cn ⟨_,rfl,λh=>Hd.b8 (ps:=["numbers"]) (io:=[]) h⟩ <| Cn ⟨_,rfl,λh=>Hd.b8 (ps:=["told", "spots"]) (io:=[]) h⟩ <| Cn ⟨_,rfl,λh=>Hd.b8 (ps:=["wardrobe", "garment"]) (io:=[]) h⟩ <| Cn ⟨_,rfl,λh=>Hd.b8 (ps:=["wardrobe"]) (io:=[]) h⟩ <| Cn ⟨_,rfl,λh=>Hd.b8 (ps:=["wearing"]) (io:=[]) h⟩ <| Cn ⟨_,rfl,λh=>Hd.b8 (ps:=["wardrobe", "wearing", "garment"]) (io:=[]) h⟩ <| Cn ⟨_,rfl,λh=>Hd.b8 (ps:=["wearing"]) (io:=[]) h⟩ <| Cn ⟨_,rfl,λh=>Hd.b8 (ps:=["wardrobe", "order"]) (io:=[]) h⟩ <| Cn ⟨_,rfl,λh=>Hd.b8 (ps:=["wardrobe", "standing", "wish"]) (io:=[]) h⟩ <| Cn ⟨_,rfl,λh=>Hd.b8 (ps:=["wardrobe", "standing", "wishes"]) (io:=[]) h⟩ <| Cn ⟨_,rfl,λh=>Hd.b8 (ps:=["_law_script", "_law_k"]) (io:=[]) h⟩ <| Cn ⟨_,rfl,λh=>Hd.b8 (ps:=["_law_cell", "_law_turn", "_law_many"]) (io:=[]) h⟩ <| Cn ⟨_,rfl,λh=>Hd.b8 (ps:=["_law_cell", "_law_k"]) (io:=[]) h⟩ <| Cn ⟨_,rfl,λh=>Hd.b8 (ps:=["_law_cell", "_law_places", "_law_many"]) (io:=[]) h⟩ <| Cn ⟨_,rfl,λh=>Hd.b8 (ps:=["_law_state", "_law_garment"]) (io:=[]) h⟩ <| Cn ⟨_,rfl,λh=>Hd.b8 (ps:=["_law_state", "_law_covers_here", "_law_player", "_law_garment"]) (io:=[]) h⟩ <| Cn ⟨_,rfl,λh=>Hd.b8 (ps:=["_law_state", "_law_covers_here", "_law_deed_here"]) (io:=[0]) h⟩ <| Cn ⟨_,rfl,λh=>Hd.b8 (ps:=["_law_state"]) (io:=[]) h⟩ <| Cn ⟨_,rfl,λh=>Hd.b8 (ps:=["_law_standing"]) (io:=[]) h⟩ <| Cn ⟨_,rfl,λh=>Hd.b8 (ps:=["_law_players", "_law_places"]) (io:=[]) h⟩ <| Cn ⟨_,rfl,λh=>Hd.b8 (ps:=["_law_state", "_law_covers_here", "_law_deed_here"]) (io:=[]) h⟩ <| Cn ⟨_,rfl,λh=>Hd.b8 (ps:=["_law_covers_here", "_law_one", "_law_other"]) (io:=[]) h⟩ <| Cn ⟨_,rfl,λh=>Hd.b8 (ps:=["_law_state", "_law_covers_here", "_law_number"]) (io:=[]) h⟩ <| Cn ⟨_,rfl,λh=>Hd.b8 (ps:=["_law_state", "_law_covers_here", "_law_cell", "_law_most"]) (io:=[]) h⟩ <| Cn ⟨_,rfl,λh=>Hd.b8 (ps:=["_law_state", "_law_covers_here", "_law_beat_here"]) (io:=[0]) h⟩ <| Cn ⟨_,rfl,λh=>Hd.b8 (ps:=["_law_orders_here", "_law_beat_here"]) (io:=[0]) h⟩ <| Cn ⟨_,rfl,λh=>Hd.b8 (ps:=["_law_state", "_law_orders_here", "_law_many", "_law_number"]) (io:=[]) h⟩ <| Cn ⟨_,rfl,λh=>Hd.b8 (ps:=["_law_state", "_law_orders_here", "_law_wish_here"]) (io:=[]) h⟩ <| Cn ⟨_,rfl,λh=>Hd.b8 (ps:=["_law_state", "_law_wish_here"]) (io:=[]) h⟩ <| Cn ⟨_,rfl,λh=>Hd.b8 (ps:=["_law_script"]) (io:=[]) h⟩ <| Nl)
  (Cn ⟨⟨_,rfl,λh=>Hd.b8 (ps:=["self", "places", "covers"]) (io:=[0]) h⟩,rfl,_,rfl,rfl,rfl⟩ <| Nl)
  (Nl)
  (Cn ⟨_,rfl,λh=>Hd.b8 (ps:=["self"]) (io:=[]) h⟩ <| Cn ⟨_,rfl,λh=>Hd.b8 (ps:=["self"]) (io:=[]) h⟩ <| Cn ⟨_,rfl,λh=>Hd.b8 (ps:=["self", "garment"]) (io:=[]) h⟩ <| Nl) (by decide +kernel)
 obtain⟨a1,_,a3⟩:=A.f rT (by simp[B]);have e:=hmg.symm.trans (mg_of KX Gl a1);cases e;exact Ar (n:=10) g0 A.l rfl rfl (t6 (Prod.mk.inj a3).1) EH C8 rfl (λ_ _ _ _ _ _ _=>rfl) Ip.zO
noncomputable def T0 (P:Params):BT:=(.node (boot_o_0 P) (.node (boot_o_1 P) (.node (boot_o_3 P) (.node (boot_o_7 P) .nil .nil) .nil) (.node (boot_o_5 P) (.node (boot_o_9 P) .nil .nil) .nil)) (.node (boot_o_2 P) (.node (boot_o_4 P) (.node (boot_o_8 P) .nil .nil) .nil) (.node (boot_o_6 P) (.node (boot_o_10 P) .nil .nil) .nil)))
noncomputable def vE:ak:=[2,3,15,17,18,20,21,22,24,25,27,28,29,31,32,34,35,36,37,40,41,42,49,50,51,52,55,62,63,65,66,68,69,70,71,72,75,82,84,85,87,88,89,90,91,94,101,103,104,106,107,108,109,110,113,116,117,118,121,122,123,125,126,128,129,137,140,141,142,144,145,147,148,149,151,152,154,155,156,158,159,161,162,163,165,166,168,169,170,171,172,173,174,177,180,181,182,184,185,187,188,189,191,192,194,195,196,199,200,201,203,204,206,207,208,210,211,213,214,215,218,219,220,222,223,225,226,227,229,230,232,233,234,236,237,239,240,241,244,245,246,249,250,251,253,254,256,257,258,260,261,263,264,265,268,269,270,273,274,275,278,279,280,282,283,285,286,287,290,291,292,294,295,297,298,299,302,303,304,306,307,309,310,311,313,314,316,317,318,320,321,323,324,325,328,329,330,333,334,335,338,339]
noncomputable def looseL:List Str:=(["_wall", "DEEPEST", "is_whole", "is_below", "copied", "WardrobeError", "TooMuch", "NoGarment", "Worn", "MOST_PLACES", "MOST_GARMENTS", "is_rising", "are_places", "check_garment", "Wardrobe", "bare_wearing", "worn_in", "put_on", "seen_in", "dressed", "is_held", "is_shown", "_law_draw", "_law_mix", "_law_part", "_law_covers", "_law_wearer", "_law_above", "_law_do", "_law_frozen", "_law_thawed", "_law_bare", "_law_may", "_law_cross", "_law_deed", "_law_beat", "_law_done", "_law_orders", "_law_wish", "_law_holds", "_law_alike"]:List String).map Str.ofString
noncomputable abbrev hk:Hook:=iK vE (B.q kB) (B.a kB Ip.G_k41)
noncomputable abbrev Xt (s:Shared):Bool:=xlAt (view Pw [47]) [] s&&recOk (PySem.Challenge.rw_quickchange_k41_wishes_seen.row.toRowW).records s
noncomputable def om:Thread:=⟨do let code <-moduleCode Pw.main
                                       let frame <-newBodyFrame code mainNs mainNs
                                       let _ <-run (.body (behindTheImports Pw) { scope:=Pw.main.scope,locals:=mainNs,globals:=mainNs,cells:=[],code,frame:=some frame })
                                       ret .none,
   .builtin "claim.caller" {},default,[]⟩
noncomputable def runAll (w:World)(os:OsState):=(gC through (stepOk 11 (some (.ref 6))) (stepT (denote treeTable) Pw w) 2423 ⟨T0 w.params,11,(boot_heap w.params).life,Array.mk [],boot_drawn,boot_toks,os⟩ om).map
 (lookG (importedModules Pw.main.body) (staticsOk (importedModules Pw.main.body)) laidKept (namesBound Pw) (openSeen (view Pw [47]) looseL (importedModules Pw.main.body) Xt true) (λs=>B.q kB (nA vE s.heap)) (boot_heap w.params))
noncomputable def _root_.PySem.W.Fast.tw8000577579981634014:Program:=PySem.Challenge.pw_quickchange_k41_wishes_seen
theorem _root_.PySem.W.Fast.te8000577579981634014:PySem.Challenge.pw_quickchange_k41_wishes_seen=PySem.W.Fast.tw8000577579981634014:=rfl
noncomputable def dum {α:Type}(_:α):Bool:=true
def mk:dum runAll=true:=by k_qdec
theorem t0 (P:Params):absHeap (T0 P) 11 (boot_heap P).life=boot_heap P:=by kernel_rfl
def xQ (w:World)(os:OsState):runAll w os=some (true,openGood (view Pw [47]) looseL,B.a kB Ip.G_k41):=by
 rw[PySem.W.Fast.te16486926525434249297];kernel_rfl
def left:LeftO Pw (view Pw [47]) looseL Xt (Hook.obs hk) (Hook.val hk) 2423:=
 zE (T0:=T0) (m₀:=11) (ann:=some (.ref 6)) (life:=λP=>(boot_heap P).life) (by kernel_rfl) (by decide) (λs=>rfl) (λw=>by kernel_rfl) t0 xQ
end Ek41
open PySem PySem.W PyProof.Rows L2 Hd in
set_option maxRecDepth 100000 in
set_option maxHeartbeats 0 in
theorem PySem.Challenge.cw_quickchange_k41_wishes_seen_holds : PySem.Challenge.rw_quickchange_k41_wishes_seen.Holds := by
 w_on; o_law
 refine holds_open (r:=PySem.Challenge.rw_quickchange_k41_wishes_seen.row) (q:=view Ek41.Pw [47]) (loose:=Ek41.looseL) (Xt:=Ek41.Xt) (XP:=XL (view Ek41.Pw [47]) []) (Yf:=Hook.obs Ek41.hk) (Ya:=Hook.val Ek41.hk) (YP:=Hook.says Ek41.hk) (N:=2423) Ek41.left (Hook.of Ek41.hk) (Hook.keeps Ek41.hk) (λs e=>xl_of s (Ho.mp e).1) XL.keeps (by rfl) (by rfl) (by rfl) (λs e=>recFacts_of (Ho.mp e).2) (by rfl) (by first | assumption | decide +kernel) (by decide +kernel) ⟨rfl,rfl,rfl,rfl,rfl,by decide +kernel⟩ ?hw ?hc
 case hw=>w_witness2
 case hc=>
  refine CN (l:=PySem.Challenge.rw_quickchange_k41_wishes_seen) (n:=63) (k:=L2.rm 10) (x := "_law_script") (CX:=λw=>L2.ft PySem.Challenge.pw_quickchange_k41_wishes_seen w) (sp:=λ_ K=>L2.fK K) rfl (by decide) rfl ⟨rfl,by decide,by decide⟩ ?F ?S ?C
  case F=>exact λw K mg fa h hq KX G hmg=>Ek41.facts hq KX G hmg
  case S=>exact λw K H a ns hl _ hS=>⟨a,ns,rfl,hS,hl,λ_=>rfl⟩
  case C=>
   rintro w H s e s' ⟨_,_,_,_,_,_,_,_,_,_,_,_,_,_,z⟩;exact z
#print axioms PySem.Challenge.cw_quickchange_k41_wishes_seen_holds
end
